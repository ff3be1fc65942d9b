/-
  THE WALK OF WalTells: whatever the log, the texts, the number: true, and nothing that lay has turned; wal's functions by their contracts, the document's by their walks.
-/
import Derived.WalkKit
import Derived.WalkSpells
import Derived.WalkLawsBesides
import Derived.Lib.Hide
import Derived.Deep.Cut
import Derived.Deep.QuietTactic
import Derived.BigQuiet
import Derived.Test.YtebilecgmblmfaaProg
import Derived.Test.YtebilecgmblmfaaByte
import Derived.Test.YtebilecgmblmfaaAux
import Derived.Test.YtebilecgmblmfaaRyo
import Derived.Test.YtebilecgmblmfaaKept
import Derived.Test.YtebilecgmblmfaaWalM
import Derived.Test.YtebilecgmblmfaaWalR
import Derived.Test.YtebilecgmblmfaaWalS
import Derived.Test.YtebilecgmblmfaaWalC
import Derived.Test.YtebilecgmblmfaaWalK
import Derived.Test.YtebilecgmblmfaaWalTrimsW
namespace Go.Proofs.Ytebilecgmblmfaa
open Go.RowKit
/-- A log's value. -/
def sgLog (xs : List UInt8) (s : Int) : SG := ⟨fun w v => ∃ ad k c, v = .agg #[.slice ad k c, .int .i64 s] ∧ Rd w.heap.size w (.slice ad k c) xs, fun _ _ _ ⟨ad, k, c, h, hr⟩ hb => ⟨ad, k, c, h, (hr.below hb).mono hb.size⟩⟩
/-- A slice of byte slices. -/
def sgRows (xss : List (List UInt8)) : SG := ⟨fun w v => ∃ w0 ad k c, v = .slice ad k c ∧ RdRows w0 (.slice ad k c) xss ∧ Below w0.heap.size w0 w, fun _ _ _ ⟨w0, ad, k, c, h, hr, hb0⟩ hb => ⟨w0, ad, k, c, h, hr, hb0.trans (hb.mono hb0.size)⟩⟩
set_option maxRecDepth 100000 in
set_option maxHeartbeats 4000000 in
theorem WalTells_w (hC : WalC) (w : World) {a0 : Option Addr} {n0 c0 : Nat} {bs : List UInt8} (hr : Rd w.heap.size w (.slice a0 n0 c0) bs) {s : Int} (hs : (Lit.int .i64 s).wf = true) {a2 : Option Addr} {n2 c2 : Nat} {tss : List (List UInt8)} (ht : RdRows w (.slice a2 n2 c2) tss) {keep : Int} (hkeep : (Lit.int .i64 keep).wf = true) :
    Calls Try.prog 3 #[.agg #[.slice a0 n0 c0, .int .i64 s], .slice a2 n2 c2, .int .i64 keep] w fun e w' => e = .returned (.bool true) ∧ Below w.heap.size w w' := by
  obtain ⟨rfl, hnc, hcm⟩ := hr.len
  obtain ⟨rfl, hnc2, hcm2⟩ := ht.len
  have hlm : bs.length ≤ 9223372036854775807 := by unfold maxLen at hcm; omega
  have hlm2 : tss.length ≤ 9223372036854775807 := by unfold maxLen at hcm2; omega
  replace hs := i64_wf hs
  replace hkeep := i64_wf hkeep
  have pl := PairV.new w 24 (.slice a0 bs.length c0) (.int .i64 s)
  have q : Below w.heap.size w (w.alloc (.cells #[.slice a0 bs.length c0, .int .i64 s] 24)) := (Below.refl _ _).alloc (Nat.le_refl _) _
  go_enter Try.func3, Try.ntmps3
  go_wp2_with fail
  generalize w.alloc (.cells #[.slice a0 bs.length c0, .int .i64 s] 24) = W0 at *
  refine (hC.awake W0).mono ?_
  rintro e v1 ⟨rfl, hb⟩
  replace pl := pl.below hb pl.lt
  replace q := q.trans (hb.mono q.size)
  have plc0 := pl.cell0
  have plc1 := pl.cell1
  go_wp2_with fail
  refine (small_any _ (hr.below q) ht q).mono ?_
  rintro e v2 ⟨b, rfl, hsm, hb⟩
  clear plc0 plc1
  replace pl := pl.below hb pl.lt
  replace q := q.trans (hb.mono q.size)
  cases b
  · go_wp2_with fail
    go_ret
    exact ⟨rfl, q⟩
  have hx2 := (hsm rfl).1
  have hn20 := (hsm rfl).2.1
  have hx : bs.length ≤ 1000000 := by omega
  have hn100 : tss.length ≤ 100 := by omega
  clear hsm hn20 hx2
  have plc0 := pl.cell0
  have plc1 := pl.cell1
  go_wp2_with fail
  refine (hC.app _ (hr.below q) q.size hx hs ht q hn100).mono ?_
  rintro e v3 ⟨aa, ka, ca, rfl, ra, hb⟩
  clear plc0 plc1
  replace pl := pl.below hb pl.lt
  replace q := q.trans (hb.mono q.size)
  go_upto_region 5 with (fail)
  have pa := PairV.new v3 24 (.slice aa ka ca) (.int .i64 s)
  have hbx : Below v3.heap.size v3 (v3.alloc (.cells #[.slice aa ka ca, .int .i64 s] 24)) := (Below.refl _ _).alloc (Nat.le_refl _) _
  replace pl := pl.alloc (.cells #[.slice aa ka ca, .int .i64 s] 24)
  replace ra := (ra.below hbx).mono hbx.size
  replace q := q.trans (hbx.mono q.size)
  clear hbx
  generalize v3.alloc (.cells #[.slice aa ka ca, .int .i64 s] 24) = W1 at *
  have plc0 := pl.cell0
  have plc1 := pl.cell1
  go_wp2_with fail
  refine (refApp_any _ (hr.below q) q.size hx ht q hn100).mono ?_
  rintro e v4 ⟨ab, kb, cb, rfl, rb, hb⟩
  clear plc0 plc1
  replace pl := pl.below hb pl.lt
  replace pa := pa.below hb pa.lt
  replace ra := (ra.below hb).mono hb.size
  replace q := q.trans (hb.mono q.size)
  go_upto_region 6 with (fail)
  have pb := PairV.new v4 24 (.slice ab kb cb) (.int .i64 s)
  have hbx : Below v4.heap.size v4 (v4.alloc (.cells #[.slice ab kb cb, .int .i64 s] 24)) := (Below.refl _ _).alloc (Nat.le_refl _) _
  replace pl := pl.alloc (.cells #[.slice ab kb cb, .int .i64 s] 24)
  replace pa := pa.alloc (.cells #[.slice ab kb cb, .int .i64 s] 24)
  replace ra := (ra.below hbx).mono hbx.size
  replace rb := (rb.below hbx).mono hbx.size
  replace q := q.trans (hbx.mono q.size)
  clear hbx
  generalize v4.alloc (.cells #[.slice ab kb cb, .int .i64 s] 24) = W2 at *
  refine wp_region_gsg (by kernel_rfl) (by kernel_rfl) [sgEq (.agg #[.slice aa ka ca, .int .i64 s]), sgEq (.agg #[.slice ab kb cb, .int .i64 s]), sgEq (.bool true), sgEq (.bool true), sgEq (.agg #[.slice a0 bs.length c0, .int .i64 s]), sgLog (bs) (syncN bs s), sgEq (.agg #[.slice a0 bs.length c0, .int .i64 s]), sgLog (bs) (syncN bs s), sgEq (.bool true), sgEq (.bool true), sgEq (.bool true), sgEq (.agg #[.slice a0 bs.length c0, .int .i64 s]), sgEq (.int .i64 keep), sgLog (crashB bs s keep) (crashN bs s keep), sgEq (.agg #[.slice a0 bs.length c0, .int .i64 s]), sgEq (.int .i64 keep), sgLog (crashB bs s keep) (crashN bs s keep), sgEq (.bool true), sgEq (.bool true), sgEq (.bool true)]
    ⟨?o0, ?o1, ?o2, ?o3, ?o4, ?o5, ?o6, ?o7, ?o8, ?o9, ?o10, ?o11, ?o12, ?o13, ?o14, ?o15, ?o16, ?o17, ?o18, ?o19, trivial⟩ ?fin
  case o0 =>
    refine GdOp.plain rfl (fun A vs w' hF hT hb hd => ?_)
    have e1 : A.eval (.tmp 8) = .pointer (some ⟨v3.heap.size, 0, none⟩) := hF 8 rfl
    exact wp_loadP logP rfl e1 (pa.below hb pa.lt).cell0 (pa.below hb pa.lt).cell1 ⟨_, rfl, rfl, Below.refl _ _⟩
  case o1 =>
    refine GdOp.plain rfl (fun A vs w' hF hT hb hd => ?_)
    have e1 : A.eval (.tmp 10) = .pointer (some ⟨v4.heap.size, 0, none⟩) := hF 10 rfl
    exact wp_loadP logP rfl e1 (pb.below hb pb.lt).cell0 (pb.below hb pb.lt).cell1 ⟨_, rfl, rfl, Below.refl _ _⟩
  case o2 =>
    refine GdOp.plain rfl (fun A vs w' hF hT hb hd => ?_)
    have e1 : A.eval (.tmp 32) = .agg #[.slice aa ka ca, .int .i64 s] := (hT 32 0 (by simp) rfl).trans (hd ⟨0, .data⟩ (by simp) rfl)
    have e2 : A.eval (.tmp 33) = .agg #[.slice ab kb cb, .int .i64 s] := (hT 33 1 (by simp) rfl).trans (hd ⟨1, .data⟩ (by simp) rfl)
    refine wp_callFn rfl (enters_of Try.func13 (by kernel_rfl) rfl) (args := #[.agg #[.slice aa ka ca, .int .i64 s], .agg #[.slice ab kb cb, .int .i64 s]]) (by simp [e1, e2]) ((refSameL_any w' (ra.below hb) hb.size (rb.below hb) hb.size).mono ?_)
    rintro e w2 ⟨rfl, hb2⟩
    exact ⟨_, rfl, _, rfl, congrArg Value.bool (decide_eq_true ⟨rfl, rfl⟩), hb2⟩
  case o3 =>
    refine GdOp.plain rfl (fun A vs w' hF hT hb hd => ?_)
    have e1 : A.eval (.tmp 34) = .bool true := (hT 34 2 (by simp) rfl).trans (hd ⟨2, .data⟩ (by simp) rfl)
    exact BigFrame.wp_move _ rfl ⟨_, rfl, e1, Below.refl _ _⟩
  case o4 =>
    refine GdOp.taken rfl ⟨_, _, rfl, rfl, by simp⟩ (by kernel_rfl) (fun w v h => h) (fun A vs w' hF hT hb hd => ?_)
    have e1 : A.eval (.tmp 3) = .pointer (some ⟨w.heap.size, 0, none⟩) := hF 3 rfl
    exact wp_loadP logP rfl e1 (pl.below hb pl.lt).cell0 (pl.below hb pl.lt).cell1 ⟨_, rfl, rfl, Below.refl _ _⟩
  case o5 =>
    refine GdOp.taken rfl ⟨_, _, rfl, rfl, by simp⟩ (by kernel_rfl) (fun w v h => h) (fun A vs w' hF hT hb hd => ?_)
    have e1 : A.eval (.tmp 36) = .agg #[.slice a0 bs.length c0, .int .i64 s] := (hT 36 4 (by simp) rfl).trans (hd ⟨4, .data⟩ (by simp) rfl)
    refine wp_callFn rfl (enters_of Try.func14 (by kernel_rfl) rfl) (args := #[.agg #[.slice a0 bs.length c0, .int .i64 s]]) (by simp [e1]) ((hC.sync w' (hr.below (q.trans (hb.mono q.size))) (q.trans (hb.mono q.size)).size hx hs).mono ?_)
    rintro e w2 ⟨a5, k5, c5, rfl, r5, hb2⟩
    exact ⟨_, rfl, _, rfl, ⟨a5, k5, c5, rfl, r5⟩, hb2⟩
  case o6 =>
    refine GdOp.taken rfl ⟨_, _, rfl, rfl, by simp⟩ (by kernel_rfl) (fun w v h => h) (fun A vs w' hF hT hb hd => ?_)
    have e1 : A.eval (.tmp 3) = .pointer (some ⟨w.heap.size, 0, none⟩) := hF 3 rfl
    exact wp_loadP logP rfl e1 (pl.below hb pl.lt).cell0 (pl.below hb pl.lt).cell1 ⟨_, rfl, rfl, Below.refl _ _⟩
  case o7 =>
    refine GdOp.taken rfl ⟨_, _, rfl, rfl, by simp⟩ (by kernel_rfl) (fun w v h => h) (fun A vs w' hF hT hb hd => ?_)
    have e1 : A.eval (.tmp 38) = .agg #[.slice a0 bs.length c0, .int .i64 s] := (hT 38 6 (by simp) rfl).trans (hd ⟨6, .data⟩ (by simp) rfl)
    refine wp_callFn rfl (enters_of Try.func15 (by kernel_rfl) rfl) (args := #[.agg #[.slice a0 bs.length c0, .int .i64 s]]) (by simp [e1]) ((refSync_any w' (hr.below (q.trans (hb.mono q.size))) (q.trans (hb.mono q.size)).size hx).mono ?_)
    rintro e w2 ⟨a5, k5, c5, rfl, r5, hb2⟩
    exact ⟨_, rfl, _, rfl, ⟨a5, k5, c5, rfl, r5⟩, hb2⟩
  case o8 =>
    refine GdOp.taken rfl ⟨_, _, rfl, rfl, by simp⟩ (by kernel_rfl) (fun w v h => h) (fun A vs w' hF hT hb hd => ?_)
    obtain ⟨ad1, kk1, cc1, qq1, hr1⟩ := hd ⟨5, .data⟩ (by simp) rfl
    have e1 : A.eval (.tmp 37) = .agg #[.slice ad1 kk1 cc1, .int .i64 (syncN bs s)] := (hT 37 5 (by simp) rfl).trans qq1
    obtain ⟨ad2, kk2, cc2, qq2, hr2⟩ := hd ⟨7, .data⟩ (by simp) rfl
    have e2 : A.eval (.tmp 39) = .agg #[.slice ad2 kk2 cc2, .int .i64 (syncN bs s)] := (hT 39 7 (by simp) rfl).trans qq2
    refine wp_callFn rfl (enters_of Try.func13 (by kernel_rfl) rfl) (args := #[.agg #[.slice ad1 kk1 cc1, .int .i64 (syncN bs s)], .agg #[.slice ad2 kk2 cc2, .int .i64 (syncN bs s)]]) (by simp [e1, e2]) ((refSameL_any w' hr1 (Nat.le_refl _) hr2 (Nat.le_refl _)).mono ?_)
    rintro e w2 ⟨rfl, hb2⟩
    exact ⟨_, rfl, _, rfl, congrArg Value.bool (decide_eq_true ⟨rfl, rfl⟩), hb2⟩
  case o9 =>
    refine GdOp.plain rfl (fun A vs w' hF hT hb hd => ?_)
    have e1 : A.eval (.tmp 35) = .bool true := (hT 35 3 (by simp) rfl).trans (hd ⟨3, .data⟩ (by simp) rfl)
    have e2 : A.eval (.tmp 40) = .bool true := (hT 40 8 (by simp) rfl).trans (hd ⟨8, .data⟩ (by simp) rfl)
    exact wp_pk rfl e1 (fun _ => e2) (by simp) ⟨_, rfl, rfl, Below.refl _ _⟩
  case o10 =>
    refine GdOp.plain rfl (fun A vs w' hF hT hb hd => ?_)
    have e1 : A.eval (.tmp 41) = .bool true := (hT 41 9 (by simp) rfl).trans (hd ⟨9, .data⟩ (by simp) rfl)
    exact BigFrame.wp_move _ rfl ⟨_, rfl, e1, Below.refl _ _⟩
  case o11 =>
    refine GdOp.taken rfl ⟨_, _, rfl, rfl, by simp⟩ (by kernel_rfl) (fun w v h => h) (fun A vs w' hF hT hb hd => ?_)
    have e1 : A.eval (.tmp 3) = .pointer (some ⟨w.heap.size, 0, none⟩) := hF 3 rfl
    exact wp_loadP logP rfl e1 (pl.below hb pl.lt).cell0 (pl.below hb pl.lt).cell1 ⟨_, rfl, rfl, Below.refl _ _⟩
  case o12 =>
    refine GdOp.taken rfl ⟨_, _, rfl, rfl, by simp⟩ (by kernel_rfl) (fun w v h => h) (fun A vs w' hF hT hb hd => ?_)
    have e1 : A.eval (.tmp 2) = .int .i64 keep := hF 2 rfl
    exact BigFrame.wp_move _ rfl ⟨_, rfl, e1, Below.refl _ _⟩
  case o13 =>
    refine GdOp.taken rfl ⟨_, _, rfl, rfl, by simp⟩ (by kernel_rfl) (fun w v h => h) (fun A vs w' hF hT hb hd => ?_)
    have e1 : A.eval (.tmp 43) = .agg #[.slice a0 bs.length c0, .int .i64 s] := (hT 43 11 (by simp) rfl).trans (hd ⟨11, .data⟩ (by simp) rfl)
    have e2 : A.eval (.tmp 44) = .int .i64 keep := (hT 44 12 (by simp) rfl).trans (hd ⟨12, .data⟩ (by simp) rfl)
    refine wp_callFn rfl (enters_of Try.func16 (by kernel_rfl) rfl) (args := #[.agg #[.slice a0 bs.length c0, .int .i64 s], .int .i64 keep]) (by simp [e1, e2]) ((hC.crash w' (hr.below (q.trans (hb.mono q.size))) (q.trans (hb.mono q.size)).size hx hs hkeep).mono ?_)
    rintro e w2 ⟨a5, k5, c5, rfl, r5, hb2⟩
    exact ⟨_, rfl, _, rfl, ⟨a5, k5, c5, rfl, r5⟩, hb2⟩
  case o14 =>
    refine GdOp.taken rfl ⟨_, _, rfl, rfl, by simp⟩ (by kernel_rfl) (fun w v h => h) (fun A vs w' hF hT hb hd => ?_)
    have e1 : A.eval (.tmp 3) = .pointer (some ⟨w.heap.size, 0, none⟩) := hF 3 rfl
    exact wp_loadP logP rfl e1 (pl.below hb pl.lt).cell0 (pl.below hb pl.lt).cell1 ⟨_, rfl, rfl, Below.refl _ _⟩
  case o15 =>
    refine GdOp.taken rfl ⟨_, _, rfl, rfl, by simp⟩ (by kernel_rfl) (fun w v h => h) (fun A vs w' hF hT hb hd => ?_)
    have e1 : A.eval (.tmp 2) = .int .i64 keep := hF 2 rfl
    exact BigFrame.wp_move _ rfl ⟨_, rfl, e1, Below.refl _ _⟩
  case o16 =>
    refine GdOp.taken rfl ⟨_, _, rfl, rfl, by simp⟩ (by kernel_rfl) (fun w v h => h) (fun A vs w' hF hT hb hd => ?_)
    have e1 : A.eval (.tmp 46) = .agg #[.slice a0 bs.length c0, .int .i64 s] := (hT 46 14 (by simp) rfl).trans (hd ⟨14, .data⟩ (by simp) rfl)
    have e2 : A.eval (.tmp 47) = .int .i64 keep := (hT 47 15 (by simp) rfl).trans (hd ⟨15, .data⟩ (by simp) rfl)
    refine wp_callFn rfl (enters_of Try.func17 (by kernel_rfl) rfl) (args := #[.agg #[.slice a0 bs.length c0, .int .i64 s], .int .i64 keep]) (by simp [e1, e2]) ((refCrash_any w' (hr.below (q.trans (hb.mono q.size))) (q.trans (hb.mono q.size)).size hx).mono ?_)
    rintro e w2 ⟨a5, k5, c5, rfl, r5, hb2⟩
    exact ⟨_, rfl, _, rfl, ⟨a5, k5, c5, rfl, r5⟩, hb2⟩
  case o17 =>
    refine GdOp.taken rfl ⟨_, _, rfl, rfl, by simp⟩ (by kernel_rfl) (fun w v h => h) (fun A vs w' hF hT hb hd => ?_)
    obtain ⟨ad1, kk1, cc1, qq1, hr1⟩ := hd ⟨13, .data⟩ (by simp) rfl
    have e1 : A.eval (.tmp 45) = .agg #[.slice ad1 kk1 cc1, .int .i64 (crashN bs s keep)] := (hT 45 13 (by simp) rfl).trans qq1
    obtain ⟨ad2, kk2, cc2, qq2, hr2⟩ := hd ⟨16, .data⟩ (by simp) rfl
    have e2 : A.eval (.tmp 48) = .agg #[.slice ad2 kk2 cc2, .int .i64 (crashN bs s keep)] := (hT 48 16 (by simp) rfl).trans qq2
    refine wp_callFn rfl (enters_of Try.func13 (by kernel_rfl) rfl) (args := #[.agg #[.slice ad1 kk1 cc1, .int .i64 (crashN bs s keep)], .agg #[.slice ad2 kk2 cc2, .int .i64 (crashN bs s keep)]]) (by simp [e1, e2]) ((refSameL_any w' hr1 (Nat.le_refl _) hr2 (Nat.le_refl _)).mono ?_)
    rintro e w2 ⟨rfl, hb2⟩
    exact ⟨_, rfl, _, rfl, congrArg Value.bool (decide_eq_true ⟨rfl, rfl⟩), hb2⟩
  case o18 =>
    refine GdOp.plain rfl (fun A vs w' hF hT hb hd => ?_)
    have e1 : A.eval (.tmp 42) = .bool true := (hT 42 10 (by simp) rfl).trans (hd ⟨10, .data⟩ (by simp) rfl)
    have e2 : A.eval (.tmp 49) = .bool true := (hT 49 17 (by simp) rfl).trans (hd ⟨17, .data⟩ (by simp) rfl)
    exact wp_pk rfl e1 (fun _ => e2) (by simp) ⟨_, rfl, rfl, Below.refl _ _⟩
  case o19 =>
    refine GdOp.plain rfl (fun A vs w' hF hT hb hd => ?_)
    have e1 : A.eval (.tmp 50) = .bool true := (hT 50 18 (by simp) rfl).trans (hd ⟨18, .data⟩ (by simp) rfl)
    exact BigFrame.wp_assign _ rfl ⟨_, rfl, e1, Below.refl _ _⟩
  case fin =>
    intro vs w' hb hG
    have e0 : vs 0 = .agg #[.slice aa ka ca, .int .i64 s] := hG 0 (by decide)
    have e1 : vs 1 = .agg #[.slice ab kb cb, .int .i64 s] := hG 1 (by decide)
    have e2 : vs 2 = .bool true := hG 2 (by decide)
    have e3 : vs 3 = .bool true := hG 3 (by decide)
    have e4 : vs 4 = .agg #[.slice a0 bs.length c0, .int .i64 s] := hG 4 (by decide)
    obtain ⟨x5, y5, z5, e5, _⟩ := hG 5 (by decide)
    have e6 : vs 6 = .agg #[.slice a0 bs.length c0, .int .i64 s] := hG 6 (by decide)
    obtain ⟨x7, y7, z7, e7, _⟩ := hG 7 (by decide)
    have e8 : vs 8 = .bool true := hG 8 (by decide)
    have e9 : vs 9 = .bool true := hG 9 (by decide)
    have e10 : vs 10 = .bool true := hG 10 (by decide)
    have e11 : vs 11 = .agg #[.slice a0 bs.length c0, .int .i64 s] := hG 11 (by decide)
    have e12 : vs 12 = .int .i64 keep := hG 12 (by decide)
    obtain ⟨x13, y13, z13, e13, _⟩ := hG 13 (by decide)
    have e14 : vs 14 = .agg #[.slice a0 bs.length c0, .int .i64 s] := hG 14 (by decide)
    have e15 : vs 15 = .int .i64 keep := hG 15 (by decide)
    obtain ⟨x16, y16, z16, e16, _⟩ := hG 16 (by decide)
    have e17 : vs 17 = .bool true := hG 17 (by decide)
    have e18 : vs 18 = .bool true := hG 18 (by decide)
    have e19 : vs 19 = .bool true := hG 19 (by decide)
    simp only [putAll, e0, e1, e2, e3, e4, e5, e6, e7, e8, e9, e10, e11, e12, e13, e14, e15, e16, e17, e18, e19]
    clear hG e0 e1 e2 e3 e4 e5 e6 e7 e8 e9 e10 e11 e12 e13 e14 e15 e16 e17 e18 e19
    replace pl := pl.below hb pl.lt
    replace pa := pa.below hb pa.lt
    replace pb := pb.below hb pb.lt
    replace ra := (ra.below hb).mono hb.size
    replace rb := (rb.below hb).mono hb.size
    replace q := q.trans (hb.mono q.size)
    clear hb
    go_simp
    go_upto_region 7 with (fail)
    refine wp_region_gsg (by kernel_rfl) (by kernel_rfl) [sgEq (.agg #[.slice a0 bs.length c0, .int .i64 s]), sgLog (trimB bs s) (trimN bs s), sgEq (.agg #[.slice a0 bs.length c0, .int .i64 s]), sgLog (trimB bs s) (trimN bs s), sgEq (.bool true), sgEq (.bool true), sgEq (.agg #[.slice a0 bs.length c0, .int .i64 s]), sgRows (textsS bs s), sgEq (.agg #[.slice a0 bs.length c0, .int .i64 s]), sgRows (textsS bs s), sgEq (.bool true), sgEq (.bool true), sgEq (.bool true)]
      ⟨?o0, ?o1, ?o2, ?o3, ?o4, ?o5, ?o6, ?o7, ?o8, ?o9, ?o10, ?o11, ?o12, trivial⟩ ?fin
    case o0 =>
      refine GdOp.plain rfl (fun A vs w' hF hT hb hd => ?_)
      have e1 : A.eval (.tmp 3) = .pointer (some ⟨w.heap.size, 0, none⟩) := hF 3 rfl
      exact wp_loadP logP rfl e1 (pl.below hb pl.lt).cell0 (pl.below hb pl.lt).cell1 ⟨_, rfl, rfl, Below.refl _ _⟩
    case o1 =>
      refine GdOp.plain rfl (fun A vs w' hF hT hb hd => ?_)
      have e1 : A.eval (.tmp 51) = .agg #[.slice a0 bs.length c0, .int .i64 s] := (hT 51 0 (by simp) rfl).trans (hd ⟨0, .data⟩ (by simp) rfl)
      refine wp_callFn rfl (enters_of Try.func18 (by kernel_rfl) rfl) (args := #[.agg #[.slice a0 bs.length c0, .int .i64 s]]) (by simp [e1]) ((hC.trim w' (hr.below (q.trans (hb.mono q.size))) (q.trans (hb.mono q.size)).size hx hs).mono ?_)
      rintro e w2 ⟨a5, k5, c5, rfl, r5, hb2⟩
      exact ⟨_, rfl, _, rfl, ⟨a5, k5, c5, rfl, r5⟩, hb2⟩
    case o2 =>
      refine GdOp.plain rfl (fun A vs w' hF hT hb hd => ?_)
      have e1 : A.eval (.tmp 3) = .pointer (some ⟨w.heap.size, 0, none⟩) := hF 3 rfl
      exact wp_loadP logP rfl e1 (pl.below hb pl.lt).cell0 (pl.below hb pl.lt).cell1 ⟨_, rfl, rfl, Below.refl _ _⟩
    case o3 =>
      refine GdOp.plain rfl (fun A vs w' hF hT hb hd => ?_)
      have e1 : A.eval (.tmp 53) = .agg #[.slice a0 bs.length c0, .int .i64 s] := (hT 53 2 (by simp) rfl).trans (hd ⟨2, .data⟩ (by simp) rfl)
      refine wp_callFn rfl (enters_of Try.func19 (by kernel_rfl) rfl) (args := #[.agg #[.slice a0 bs.length c0, .int .i64 s]]) (by simp [e1]) ((refTrim_any w' (hr.below (q.trans (hb.mono q.size))) (q.trans (hb.mono q.size)).size hx).mono ?_)
      rintro e w2 ⟨a5, k5, c5, rfl, r5, hb2⟩
      exact ⟨_, rfl, _, rfl, ⟨a5, k5, c5, rfl, r5⟩, hb2⟩
    case o4 =>
      refine GdOp.plain rfl (fun A vs w' hF hT hb hd => ?_)
      obtain ⟨ad1, kk1, cc1, qq1, hr1⟩ := hd ⟨1, .data⟩ (by simp) rfl
      have e1 : A.eval (.tmp 52) = .agg #[.slice ad1 kk1 cc1, .int .i64 (trimN bs s)] := (hT 52 1 (by simp) rfl).trans qq1
      obtain ⟨ad2, kk2, cc2, qq2, hr2⟩ := hd ⟨3, .data⟩ (by simp) rfl
      have e2 : A.eval (.tmp 54) = .agg #[.slice ad2 kk2 cc2, .int .i64 (trimN bs s)] := (hT 54 3 (by simp) rfl).trans qq2
      refine wp_callFn rfl (enters_of Try.func13 (by kernel_rfl) rfl) (args := #[.agg #[.slice ad1 kk1 cc1, .int .i64 (trimN bs s)], .agg #[.slice ad2 kk2 cc2, .int .i64 (trimN bs s)]]) (by simp [e1, e2]) ((refSameL_any w' hr1 (Nat.le_refl _) hr2 (Nat.le_refl _)).mono ?_)
      rintro e w2 ⟨rfl, hb2⟩
      exact ⟨_, rfl, _, rfl, congrArg Value.bool (decide_eq_true ⟨rfl, rfl⟩), hb2⟩
    case o5 =>
      refine GdOp.plain rfl (fun A vs w' hF hT hb hd => ?_)
      have e1 : A.eval (.tmp 55) = .bool true := (hT 55 4 (by simp) rfl).trans (hd ⟨4, .data⟩ (by simp) rfl)
      exact BigFrame.wp_move _ rfl ⟨_, rfl, e1, Below.refl _ _⟩
    case o6 =>
      refine GdOp.taken rfl ⟨_, _, rfl, rfl, by simp⟩ (by kernel_rfl) (fun w v h => h) (fun A vs w' hF hT hb hd => ?_)
      have e1 : A.eval (.tmp 3) = .pointer (some ⟨w.heap.size, 0, none⟩) := hF 3 rfl
      exact wp_loadP logP rfl e1 (pl.below hb pl.lt).cell0 (pl.below hb pl.lt).cell1 ⟨_, rfl, rfl, Below.refl _ _⟩
    case o7 =>
      refine GdOp.taken rfl ⟨_, _, rfl, rfl, by simp⟩ (by kernel_rfl) (fun w v h => h) (fun A vs w' hF hT hb hd => ?_)
      have e1 : A.eval (.tmp 57) = .agg #[.slice a0 bs.length c0, .int .i64 s] := (hT 57 6 (by simp) rfl).trans (hd ⟨6, .data⟩ (by simp) rfl)
      refine wp_callFn rfl (enters_of Try.func21 (by kernel_rfl) rfl) (args := #[.agg #[.slice a0 bs.length c0, .int .i64 s]]) (by simp [e1]) ((hC.texts w' (hr.below (q.trans (hb.mono q.size))) (q.trans (hb.mono q.size)).size hx hs).mono ?_)
      rintro e w2 ⟨a5, k5, c5, rfl, r5, hb2⟩
      exact ⟨_, rfl, _, rfl, ⟨w2, a5, k5, c5, rfl, r5.rows, Below.refl _ _⟩, hb2⟩
    case o8 =>
      refine GdOp.taken rfl ⟨_, _, rfl, rfl, by simp⟩ (by kernel_rfl) (fun w v h => h) (fun A vs w' hF hT hb hd => ?_)
      have e1 : A.eval (.tmp 3) = .pointer (some ⟨w.heap.size, 0, none⟩) := hF 3 rfl
      exact wp_loadP logP rfl e1 (pl.below hb pl.lt).cell0 (pl.below hb pl.lt).cell1 ⟨_, rfl, rfl, Below.refl _ _⟩
    case o9 =>
      refine GdOp.taken rfl ⟨_, _, rfl, rfl, by simp⟩ (by kernel_rfl) (fun w v h => h) (fun A vs w' hF hT hb hd => ?_)
      have e1 : A.eval (.tmp 59) = .agg #[.slice a0 bs.length c0, .int .i64 s] := (hT 59 8 (by simp) rfl).trans (hd ⟨8, .data⟩ (by simp) rfl)
      refine wp_callFn rfl (enters_of Try.func22 (by kernel_rfl) rfl) (args := #[.agg #[.slice a0 bs.length c0, .int .i64 s]]) (by simp [e1]) ((refTexts_any w' (hr.below (q.trans (hb.mono q.size))) (q.trans (hb.mono q.size)).size hx).mono ?_)
      rintro e w2 ⟨a5, k5, c5, rfl, r5, hb2⟩
      exact ⟨_, rfl, _, rfl, ⟨w2, a5, k5, c5, rfl, r5.rows, Below.refl _ _⟩, hb2⟩
    case o10 =>
      refine GdOp.taken rfl ⟨_, _, rfl, rfl, by simp⟩ (by kernel_rfl) (fun w v h => h) (fun A vs w' hF hT hb hd => ?_)
      obtain ⟨wr1, ad1, kk1, cc1, qq1, hr1, hbr1⟩ := hd ⟨7, .data⟩ (by simp) rfl
      have e1 : A.eval (.tmp 58) = .slice ad1 kk1 cc1 := (hT 58 7 (by simp) rfl).trans qq1
      obtain ⟨wr2, ad2, kk2, cc2, qq2, hr2, hbr2⟩ := hd ⟨9, .data⟩ (by simp) rfl
      have e2 : A.eval (.tmp 60) = .slice ad2 kk2 cc2 := (hT 60 9 (by simp) rfl).trans qq2
      refine wp_callFn rfl (enters_of Try.func20 (by kernel_rfl) rfl) (args := #[.slice ad1 kk1 cc1, .slice ad2 kk2 cc2]) (by simp [e1, e2]) ((same_any w' hr1 hbr1 hr2 hbr2).mono ?_)
      rintro e w2 ⟨rfl, hb2⟩
      exact ⟨_, rfl, _, rfl, congrArg Value.bool (decide_eq_true rfl), hb2⟩
    case o11 =>
      refine GdOp.plain rfl (fun A vs w' hF hT hb hd => ?_)
      have e1 : A.eval (.tmp 56) = .bool true := (hT 56 5 (by simp) rfl).trans (hd ⟨5, .data⟩ (by simp) rfl)
      have e2 : A.eval (.tmp 61) = .bool true := (hT 61 10 (by simp) rfl).trans (hd ⟨10, .data⟩ (by simp) rfl)
      exact wp_pk rfl e1 (fun _ => e2) (by simp) ⟨_, rfl, rfl, Below.refl _ _⟩
    case o12 =>
      refine GdOp.plain rfl (fun A vs w' hF hT hb hd => ?_)
      have e1 : A.eval (.tmp 62) = .bool true := (hT 62 11 (by simp) rfl).trans (hd ⟨11, .data⟩ (by simp) rfl)
      exact BigFrame.wp_assign _ rfl ⟨_, rfl, e1, Below.refl _ _⟩
    case fin =>
      intro vs w' hb hG
      have e0 : vs 0 = .agg #[.slice a0 bs.length c0, .int .i64 s] := hG 0 (by decide)
      obtain ⟨x1, y1, z1, e1, _⟩ := hG 1 (by decide)
      have e2 : vs 2 = .agg #[.slice a0 bs.length c0, .int .i64 s] := hG 2 (by decide)
      obtain ⟨x3, y3, z3, e3, _⟩ := hG 3 (by decide)
      have e4 : vs 4 = .bool true := hG 4 (by decide)
      have e5 : vs 5 = .bool true := hG 5 (by decide)
      have e6 : vs 6 = .agg #[.slice a0 bs.length c0, .int .i64 s] := hG 6 (by decide)
      obtain ⟨_, x7, y7, z7, e7, _, _⟩ := hG 7 (by decide)
      have e8 : vs 8 = .agg #[.slice a0 bs.length c0, .int .i64 s] := hG 8 (by decide)
      obtain ⟨_, x9, y9, z9, e9, _, _⟩ := hG 9 (by decide)
      have e10 : vs 10 = .bool true := hG 10 (by decide)
      have e11 : vs 11 = .bool true := hG 11 (by decide)
      have e12 : vs 12 = .bool true := hG 12 (by decide)
      simp only [putAll, e0, e1, e2, e3, e4, e5, e6, e7, e8, e9, e10, e11, e12]
      clear hG e0 e1 e2 e3 e4 e5 e6 e7 e8 e9 e10 e11 e12
      replace pl := pl.below hb pl.lt
      replace pa := pa.below hb pa.lt
      replace pb := pb.below hb pb.lt
      replace ra := (ra.below hb).mono hb.size
      replace rb := (rb.below hb).mono hb.size
      replace q := q.trans (hb.mono q.size)
      clear hb
      go_simp
      go_upto_region 8 with (fail)
      refine wp_region_gsa (by kernel_rfl) (by kernel_rfl) [sgEq (.bool true), sgEq (.bool true), sgEq (.agg #[.slice a0 bs.length c0, .int .i64 s]), sgEq (.bool (decide (okL bs s))), sgEq (.agg #[.slice a0 bs.length c0, .int .i64 s]), sgEq (.bool (decide (okL bs s))), sgEq (.bool true), sgEq (.bool true), sgEq (.bool true), sgEq (.int .i64 ((appS bs s tss).2 : Nat)), sgEq (.int .i64 ((appS bs s tss).2 : Nat)), sgEq (.bool true), sgEq (.bool true), sgEq (.bool true), sgEq (.bool true), sgEq (.bool true), sgEq (.bool true), sgEq (.bool true), sgEq (.bool true), sgEq (.bool true)]
        ⟨?o0, ?o1, ?o2, ?o3, ?o4, ?o5, ?o6, ?o7, ?o8, ?o9, ?o10, ?o11, ?o12, ?o13, ?o14, ?o15, ?o16, ?o17, ?o18, ?o19, trivial⟩ ?fin
      case o0 =>
        refine GdOp.plain rfl (fun A vs w' hF hT hb hd => ?_)
        have e1 : A.eval (.tmp 7) = .bool true := hF 7 rfl
        exact BigFrame.wp_move _ rfl ⟨_, rfl, e1, Below.refl _ _⟩
      case o1 =>
        refine GdOp.plain rfl (fun A vs w' hF hT hb hd => ?_)
        have e1 : A.eval (.tmp 63) = .bool true := (hT 63 0 (by simp) rfl).trans (hd ⟨0, .data⟩ (by simp) rfl)
        exact BigFrame.wp_move _ rfl ⟨_, rfl, e1, Below.refl _ _⟩
      case o2 =>
        refine GdOp.taken rfl ⟨_, _, rfl, rfl, by simp⟩ (by kernel_rfl) (fun w v h => h) (fun A vs w' hF hT hb hd => ?_)
        have e1 : A.eval (.tmp 3) = .pointer (some ⟨w.heap.size, 0, none⟩) := hF 3 rfl
        exact wp_loadP logP rfl e1 (pl.below hb pl.lt).cell0 (pl.below hb pl.lt).cell1 ⟨_, rfl, rfl, Below.refl _ _⟩
      case o3 =>
        refine GdOp.taken rfl ⟨_, _, rfl, rfl, by simp⟩ (by kernel_rfl) (fun w v h => h) (fun A vs w' hF hT hb hd => ?_)
        have e1 : A.eval (.tmp 65) = .agg #[.slice a0 bs.length c0, .int .i64 s] := (hT 65 2 (by simp) rfl).trans (hd ⟨2, .data⟩ (by simp) rfl)
        refine wp_callFn rfl (enters_of Try.func23 (by kernel_rfl) rfl) (args := #[.agg #[.slice a0 bs.length c0, .int .i64 s]]) (by simp [e1]) ((hC.check w' (hr.below (q.trans (hb.mono q.size))) (q.trans (hb.mono q.size)).size hx hs).mono ?_)
        rintro e w2 ⟨rfl, hb2⟩
        exact ⟨_, rfl, _, rfl, rfl, hb2⟩
      case o4 =>
        refine GdOp.taken rfl ⟨_, _, rfl, rfl, by simp⟩ (by kernel_rfl) (fun w v h => h) (fun A vs w' hF hT hb hd => ?_)
        have e1 : A.eval (.tmp 3) = .pointer (some ⟨w.heap.size, 0, none⟩) := hF 3 rfl
        exact wp_loadP logP rfl e1 (pl.below hb pl.lt).cell0 (pl.below hb pl.lt).cell1 ⟨_, rfl, rfl, Below.refl _ _⟩
      case o5 =>
        refine GdOp.taken rfl ⟨_, _, rfl, rfl, by simp⟩ (by kernel_rfl) (fun w v h => h) (fun A vs w' hF hT hb hd => ?_)
        have e1 : A.eval (.tmp 67) = .agg #[.slice a0 bs.length c0, .int .i64 s] := (hT 67 4 (by simp) rfl).trans (hd ⟨4, .data⟩ (by simp) rfl)
        refine wp_callFn rfl (enters_of Try.func24 (by kernel_rfl) rfl) (args := #[.agg #[.slice a0 bs.length c0, .int .i64 s]]) (by simp [e1]) ((refCheck_any w' (hr.below (q.trans (hb.mono q.size)))).mono ?_)
        rintro e w2 ⟨rfl, hb2⟩
        exact ⟨_, rfl, _, rfl, rfl, hb2⟩
      case o6 =>
        refine GdOp.taken rfl ⟨_, _, rfl, rfl, by simp⟩ (by kernel_rfl) (fun w v h => h) (fun A vs w' hF hT hb hd => ?_)
        have e1 : A.eval (.tmp 66) = .bool (decide (okL bs s)) := (hT 66 3 (by simp) rfl).trans (hd ⟨3, .data⟩ (by simp) rfl)
        have e2 : A.eval (.tmp 68) = .bool (decide (okL bs s)) := (hT 68 5 (by simp) rfl).trans (hd ⟨5, .data⟩ (by simp) rfl)
        exact wp_eqlB (by kernel_rfl) rfl e1 e2 ⟨_, rfl, congrArg Value.bool (by simp), Below.refl _ _⟩
      case o7 =>
        refine GdOp.plain rfl (fun A vs w' hF hT hb hd => ?_)
        have e1 : A.eval (.tmp 64) = .bool true := (hT 64 1 (by simp) rfl).trans (hd ⟨1, .data⟩ (by simp) rfl)
        have e2 : A.eval (.tmp 69) = .bool true := (hT 69 6 (by simp) rfl).trans (hd ⟨6, .data⟩ (by simp) rfl)
        exact wp_pk rfl e1 (fun _ => e2) (by simp) ⟨_, rfl, rfl, Below.refl _ _⟩
      case o8 =>
        refine GdOp.plain rfl (fun A vs w' hF hT hb hd => ?_)
        have e1 : A.eval (.tmp 70) = .bool true := (hT 70 7 (by simp) rfl).trans (hd ⟨7, .data⟩ (by simp) rfl)
        exact BigFrame.wp_move _ rfl ⟨_, rfl, e1, Below.refl _ _⟩
      case o9 =>
        refine GdOp.taken rfl ⟨_, _, rfl, rfl, by simp⟩ (by kernel_rfl) (fun w v h => h) (fun A vs w' hF hT hb hd => ?_)
        have e1 : A.eval (.tmp 9) = .int .i64 ((appS bs s tss).2 : Nat) := hF 9 rfl
        exact BigFrame.wp_move _ rfl ⟨_, rfl, e1, Below.refl _ _⟩
      case o10 =>
        refine GdOp.taken rfl ⟨_, _, rfl, rfl, by simp⟩ (by kernel_rfl) (fun w v h => h) (fun A vs w' hF hT hb hd => ?_)
        have e1 : A.eval (.tmp 11) = .int .i64 ((appS bs s tss).2 : Nat) := hF 11 rfl
        exact BigFrame.wp_move _ rfl ⟨_, rfl, e1, Below.refl _ _⟩
      case o11 =>
        refine GdOp.taken rfl ⟨_, _, rfl, rfl, by simp⟩ (by kernel_rfl) (fun w v h => h) (fun A vs w' hF hT hb hd => ?_)
        have e1 : A.eval (.tmp 72) = .int .i64 ((appS bs s tss).2 : Nat) := (hT 72 9 (by simp) rfl).trans (hd ⟨9, .data⟩ (by simp) rfl)
        have e2 : A.eval (.tmp 73) = .int .i64 ((appS bs s tss).2 : Nat) := (hT 73 10 (by simp) rfl).trans (hd ⟨10, .data⟩ (by simp) rfl)
        exact wp_eqlI rfl e1 e2 ⟨_, rfl, congrArg Value.bool (by simp), Below.refl _ _⟩
      case o12 =>
        refine GdOp.plain rfl (fun A vs w' hF hT hb hd => ?_)
        have e1 : A.eval (.tmp 71) = .bool true := (hT 71 8 (by simp) rfl).trans (hd ⟨8, .data⟩ (by simp) rfl)
        have e2 : A.eval (.tmp 74) = .bool true := (hT 74 11 (by simp) rfl).trans (hd ⟨11, .data⟩ (by simp) rfl)
        exact wp_pk rfl e1 (fun _ => e2) (by simp) ⟨_, rfl, rfl, Below.refl _ _⟩
      case o13 =>
        refine GdOp.plain rfl (fun A vs w' hF hT hb hd => ?_)
        have e1 : A.eval (.tmp 75) = .bool true := (hT 75 12 (by simp) rfl).trans (hd ⟨12, .data⟩ (by simp) rfl)
        exact BigFrame.wp_move _ rfl ⟨_, rfl, e1, Below.refl _ _⟩
      case o14 =>
        refine GdOp.taken rfl ⟨_, _, rfl, rfl, by simp⟩ (by kernel_rfl) (fun w v h => h) (fun A vs w' hF hT hb hd => ?_)
        have e1 : A.eval (.tmp 12) = .bool true := hF 12 rfl
        exact BigFrame.wp_move _ rfl ⟨_, rfl, e1, Below.refl _ _⟩
      case o15 =>
        refine GdOp.plain rfl (fun A vs w' hF hT hb hd => ?_)
        have e1 : A.eval (.tmp 76) = .bool true := (hT 76 13 (by simp) rfl).trans (hd ⟨13, .data⟩ (by simp) rfl)
        have e2 : A.eval (.tmp 77) = .bool true := (hT 77 14 (by simp) rfl).trans (hd ⟨14, .data⟩ (by simp) rfl)
        exact wp_pk rfl e1 (fun _ => e2) (by simp) ⟨_, rfl, rfl, Below.refl _ _⟩
      case o16 =>
        refine GdOp.plain rfl (fun A vs w' hF hT hb hd => ?_)
        have e1 : A.eval (.tmp 78) = .bool true := (hT 78 15 (by simp) rfl).trans (hd ⟨15, .data⟩ (by simp) rfl)
        exact BigFrame.wp_move _ rfl ⟨_, rfl, e1, Below.refl _ _⟩
      case o17 =>
        refine GdOp.taken rfl ⟨_, _, rfl, rfl, by simp⟩ (by kernel_rfl) (fun w v h => h) (fun A vs w' hF hT hb hd => ?_)
        have e1 : A.eval (.tmp 13) = .bool true := hF 13 rfl
        exact BigFrame.wp_move _ rfl ⟨_, rfl, e1, Below.refl _ _⟩
      case o18 =>
        refine GdOp.plain rfl (fun A vs w' hF hT hb hd => ?_)
        have e1 : A.eval (.tmp 79) = .bool true := (hT 79 16 (by simp) rfl).trans (hd ⟨16, .data⟩ (by simp) rfl)
        have e2 : A.eval (.tmp 80) = .bool true := (hT 80 17 (by simp) rfl).trans (hd ⟨17, .data⟩ (by simp) rfl)
        exact wp_pk rfl e1 (fun _ => e2) (by simp) ⟨_, rfl, rfl, Below.refl _ _⟩
      case o19 =>
        refine GdOp.plain rfl (fun A vs w' hF hT hb hd => ?_)
        have e1 : A.eval (.tmp 81) = .bool true := (hT 81 18 (by simp) rfl).trans (hd ⟨18, .data⟩ (by simp) rfl)
        exact BigFrame.wp_assign _ rfl ⟨_, rfl, e1, Below.refl _ _⟩
      case fin =>
        intro A vs w' hA hb hG
        have e6 : A.eval (.tmp 6) = .bool true := (hA.2.2.2 6 19 (by simp) rfl).trans (hG 19 (by decide))
        have hd : A.defers = [] := hA.1
        clear hG hA
        go_wp2
        refine bodyPost_ret (v := .bool true) ?_ hd ⟨rfl, q.trans (hb.mono q.size)⟩
        rw [← e6]
        exact results_tmp rfl _ _ _
end Go.Proofs.Ytebilecgmblmfaa
