/-
  THE WALK OF WalParts: whatever the log and the texts: true, and nothing that lay has turned; wal's functions by their contracts, the document's by their walks.
-/
import Derived.WalkKit
import Derived.WalkSpells
import Derived.WalkLawsBesides
import Derived.Lib.Hide
import Derived.Deep.Cut
import Derived.Deep.QuietTactic
import Derived.BigQuiet
import Derived.Test.YtebilecgmblmfaaProg
import Derived.Test.YtebilecgmblmfaaByte
import Derived.Test.YtebilecgmblmfaaAux
import Derived.Test.YtebilecgmblmfaaRyo
import Derived.Test.YtebilecgmblmfaaKept
import Derived.Test.YtebilecgmblmfaaWalM
import Derived.Test.YtebilecgmblmfaaWalR
import Derived.Test.YtebilecgmblmfaaWalS
import Derived.Test.YtebilecgmblmfaaWalC
import Derived.Test.YtebilecgmblmfaaWalK
import Derived.Test.YtebilecgmblmfaaWalTrimsW
import Derived.Test.YtebilecgmblmfaaLink
import Derived.Test.YtebilecgmblmfaaWalQ
namespace Go.Proofs.Ytebilecgmblmfaa
open Go.RowKit
theorem rd_set2 {W : World} {g : Nat} {t : TypeId} {x y u z v : Value} {xs : List UInt8} (h : Rd W.heap.size W v xs) (hp : PairV W g t x y) (hx : NotU8 x) (hy : NotU8 y) (hu : NotU8 u) : Rd ((W.setCell ⟨g, 0, none⟩ u).setCell ⟨g, 1, none⟩ z).heap.size ((W.setCell ⟨g, 0, none⟩ u).setCell ⟨g, 1, none⟩ z) v xs := by
  have r0 := rd_set h (Nat.le_refl _) hp hx hy 0 u
  have r1 := rd_set r0 (by rw [size_set]; exact Nat.le_refl _) (hp.put0 u) hu hy 1 z
  rw [size_set, size_set]
  exact r1
set_option maxRecDepth 100000 in
set_option maxHeartbeats 4000000 in
theorem WalParts_w (hC : WalC) (w : World) {a0 : Option Addr} {n0 c0 : Nat} {bs : List UInt8} (hr : Rd w.heap.size w (.slice a0 n0 c0) bs) {s : Int} (hs : (Lit.int .i64 s).wf = true) {a2 : Option Addr} {n2 c2 : Nat} {tss : List (List UInt8)} (ht : RdRows w (.slice a2 n2 c2) tss) :
    Calls Try.prog 5 #[.agg #[.slice a0 n0 c0, .int .i64 s], .slice a2 n2 c2] w fun e w' => e = .returned (.bool true) ∧ Below w.heap.size w w' := by
  obtain ⟨rfl, hnc, hcm⟩ := hr.len
  obtain ⟨rfl, hnc2, hcm2⟩ := ht.len
  have hlm : bs.length ≤ 9223372036854775807 := by unfold maxLen at hcm; omega
  have hlm2 : tss.length ≤ 9223372036854775807 := by unfold maxLen at hcm2; omega
  replace hs := i64_wf hs
  have pl := PairV.new w 24 (.slice a0 bs.length c0) (.int .i64 s)
  have q : Below w.heap.size w (w.alloc (.cells #[.slice a0 bs.length c0, .int .i64 s] 24)) := (Below.refl _ _).alloc (Nat.le_refl _) _
  go_enter Try.func5, Try.ntmps5
  go_wp2_with fail
  generalize w.alloc (.cells #[.slice a0 bs.length c0, .int .i64 s] 24) = W0 at *
  refine (hC.awake W0).mono ?_
  rintro e v1 ⟨rfl, hb⟩
  replace pl := pl.below hb pl.lt
  replace q := q.trans (hb.mono q.size)
  have plc0 := pl.cell0
  have plc1 := pl.cell1
  go_wp2_with fail
  refine (small_any _ (hr.below q) ht q).mono ?_
  rintro e v2 ⟨b, rfl, hsm, hb⟩
  clear plc0 plc1
  replace pl := pl.below hb pl.lt
  replace q := q.trans (hb.mono q.size)
  cases b
  · go_wp2_with fail
    go_ret
    exact ⟨rfl, q⟩
  have hx2 := (hsm rfl).1
  have hn20 := (hsm rfl).2.1
  have hx : bs.length ≤ 1000000 := by omega
  have hn100 : tss.length ≤ 100 := by omega
  clear hsm
  have plc0 := pl.cell0
  have plc1 := pl.cell1
  go_wp2_with fail
  refine (refCopy_any _ (hr.below q) q.size hx).mono ?_
  rintro e v3 ⟨aw, kw, cw, rfl, rw, hb⟩
  clear plc0 plc1
  replace pl := pl.below hb pl.lt
  replace q := q.trans (hb.mono q.size)
  have lt1 := pl.lt
  go_upto_region 5 with (fail)
  have pw := PairV.new v3 24 (.slice aw kw cw) (.int .i64 s)
  have hbx : Below v3.heap.size v3 (v3.alloc (.cells #[.slice aw kw cw, .int .i64 s] 24)) := (Below.refl _ _).alloc (Nat.le_refl _) _
  replace pl := pl.alloc (.cells #[.slice aw kw cw, .int .i64 s] 24)
  replace rw := (rw.below hbx).mono hbx.size
  replace q := q.trans (hbx.mono q.size)
  clear hbx
  generalize v3.alloc (.cells #[.slice aw kw cw, .int .i64 s] 24) = W1 at *
  have plc0 := pl.cell0
  have plc1 := pl.cell1
  go_wp2_with fail
  refine (hC.app _ (hr.below q) q.size hx hs ht q hn100).mono ?_
  rintro e v4 ⟨aa, ka, ca, rfl, ra, hb⟩
  clear plc0 plc1
  replace pl := pl.below hb pl.lt
  replace pw := pw.below hb pw.lt
  replace rw := (rw.below hb).mono hb.size
  replace q := q.trans (hb.mono q.size)
  have lt2 := pl.lt
  have lt3 := pw.lt
  go_upto_region 6 with (fail)
  have pa := PairV.new v4 24 (.slice aa ka ca) (.int .i64 s)
  have hbx : Below v4.heap.size v4 (v4.alloc (.cells #[.slice aa ka ca, .int .i64 s] 24)) := (Below.refl _ _).alloc (Nat.le_refl _) _
  replace pl := pl.alloc (.cells #[.slice aa ka ca, .int .i64 s] 24)
  replace pw := pw.alloc (.cells #[.slice aa ka ca, .int .i64 s] 24)
  replace rw := (rw.below hbx).mono hbx.size
  replace ra := (ra.below hbx).mono hbx.size
  replace q := q.trans (hbx.mono q.size)
  clear hbx
  generalize v4.alloc (.cells #[.slice aa ka ca, .int .i64 s] 24) = W2 at *
  have plc0 := pl.cell0
  have plc1 := pl.cell1
  have r0 := (hr.below q).mono q.size
  have lt4 := pl.lt
  have lt5 := pw.lt
  have lt6 := pa.lt
  go_upto_region 8 with (fail)
  have po := PairV.new W2 24 (.slice a0 bs.length c0) (.int .i64 s)
  have hbx : Below W2.heap.size W2 (W2.alloc (.cells #[.slice a0 bs.length c0, .int .i64 s] 24)) := (Below.refl _ _).alloc (Nat.le_refl _) _
  replace pl := pl.alloc (.cells #[.slice a0 bs.length c0, .int .i64 s] 24)
  replace pw := pw.alloc (.cells #[.slice a0 bs.length c0, .int .i64 s] 24)
  replace pa := pa.alloc (.cells #[.slice a0 bs.length c0, .int .i64 s] 24)
  replace rw := (rw.below hbx).mono hbx.size
  replace ra := (ra.below hbx).mono hbx.size
  replace r0 := (r0.below hbx).mono hbx.size
  replace q := q.trans (hbx.mono q.size)
  clear hbx
  generalize W2.alloc (.cells #[.slice a0 bs.length c0, .int .i64 s] 24) = W3 at *
  clear plc0 plc1
  have hs25 : bs.length ≤ 25000 := hx2
  have q3 := q
  go_upto_region 9 with (fail)
  have hlo := Lib.hid hlm2
  go_loopw [10, 11] (fun fv iv wr => ∃ (k f : Nat) (a3 : Option Addr) (k3 c3 : Nat) (zs : List UInt8), fv = .int .i64 f ∧ iv = .int .i64 k ∧ k ≤ tss.length ∧ Parts bs s tss k f zs ∧ zs.length ≤ 25000 ∧ PairV wr (W2.heap.size) 24 (.slice a3 k3 c3) (.int .i64 s) ∧ Rd wr.heap.size wr (.slice a3 k3 c3) zs ∧
      PairV wr w.heap.size 24 (.slice a0 bs.length c0) (.int .i64 s) ∧ PairV wr (v3.heap.size) 24 (.slice aw kw cw) (.int .i64 s) ∧ PairV wr (v4.heap.size) 24 (.slice aa ka ca) (.int .i64 s) ∧ Rd wr.heap.size wr (.slice aw kw cw) bs ∧ Rd wr.heap.size wr (.slice aa ka ca) (appS bs s tss).1 ∧ Below w.heap.size w wr)
    (fun _ i _ => tss.length - (intOf i).toNat)
  case atStart => exact ⟨0, 0, a0, bs.length, c0, bs, rfl, rfl, Nat.zero_le _, Parts.zero _ _ _, by omega, po, r0, pl, pw, pa, rw, ra, q⟩
  case round =>
    clear po r0 pl pw pa rw ra q
    obtain ⟨k, f, a3, k3, c3, zs, rfl, rfl, hkl, hP, hzl, po, r3, pl, pw, pa, rw, ra, q⟩ := hrel
    by_cases hgo : k < tss.length ∧ f = 0
    · obtain ⟨hlt, rfl⟩ := hgo
      have df : (((0 : Nat) : Int) == 0) = true := rfl
      obtain ⟨b, off, Ar, L, C, rfl, hbl, hcell, hrd⟩ := ht.at q k hlt
      have hstep := hP.step hlt
      have hal := appS_len zs s [tss[k]]
      obtain ⟨yt, hyt⟩ : ∃ y, y = tss[k] := ⟨_, rfl⟩
      rw [← hyt] at hrd hstep hal
      clear hyt
      go_upto_region 11 with (fail)
      clear df
      refine wp_region_new (by kernel_rfl) (by kernel_rfl) wr.heap.size (fun b => wr.heap.size ≤ b) 24 11 10 (Nat.le_refl _) (fun _ h => h) [kEq (.agg #[.slice a3 k3 c3, .int .i64 s]), kEq (.slice (some ⟨b, off, none⟩) tss.length c2), kEq (.int .i64 k), kEq (.pointer (some ⟨b, off + k, none⟩)), kEq (.slice Ar L C), kRow 22 (yt), kApp (appS zs s [yt]).1 s (appS zs s [yt]).2, kApp (appS zs s [yt]).1 s (appS zs s [yt]).2, kLog (appS zs s [yt]).1 s, kEq (.int .i64 ((appS zs s [yt]).2 : Nat)), kBox, kAny, kEq (.int .i64 ((appS zs s [yt]).2 : Nat))]
        (fun p => ⟨fun w' _ => ∃ b ad k c, p = .pointer (some ⟨b, 0, none⟩) ∧ PairV w' b 24 (.slice ad k c) (.int .i64 s) ∧ Rd w'.heap.size w' (.slice ad k c) (appS zs s [yt]).1, fun A v C ⟨b, ad, k, c, h0, h, hr⟩ hb => ⟨b, ad, k, c, h0, h.below hb h.lt, (hr.below hb).mono hb.size⟩⟩)
        (by kernel_rfl) ⟨?o0, ?o1, ?o2, ?o3, ?o4, ?o5, ?o6, ?o7, ?o8, ?o9, ?o10, ?o11, ?o12, trivial⟩ ?fin
      case o0 =>
        refine GdOpL.plain rfl (fun A vs w' hF hT hR hd => ?_)
        exact wp_loadP logP rfl (hF 9 rfl) (hR.pair po (Nat.not_le.2 po.lt)).cell0 (hR.pair po (Nat.not_le.2 po.lt)).cell1 ⟨_, rfl, rfl, Below.refl _ _⟩
      case o1 =>
        refine GdOpL.plain rfl (fun A vs w' hF hT hR hd => ?_)
        exact BigFrame.wp_move _ rfl ⟨_, rfl, hF 1 rfl, Below.refl _ _⟩
      case o2 =>
        refine GdOpL.plain rfl (fun A vs w' hF hT hR hd => ?_)
        exact BigFrame.wp_move _ rfl ⟨_, rfl, hF 11 rfl, Below.refl _ _⟩
      case o3 =>
        refine GdOpL.plain rfl (fun A vs w' hF hT hR hd => ?_)
        have e1 : A.eval (.tmp 43) = .slice (some ⟨b, off, none⟩) tss.length c2 := (hT 43 1 (by simp) rfl).trans (hd ⟨1, .data⟩ (by simp) rfl)
        have e2 : A.eval (.tmp 44) = .int .i64 k := (hT 44 2 (by simp) rfl).trans (hd ⟨2, .data⟩ (by simp) rfl)
        exact wp_ix (e := 22) rfl (by kernel_rfl) (by kernel_rfl) e1 e2 rfl (by omega) ⟨_, rfl, rfl, Below.refl _ _⟩
      case o4 =>
        refine GdOpL.plain rfl (fun A vs w' hF hT hR hd => ?_)
        have e1 : A.eval (.tmp 45) = .pointer (some ⟨b, off + k, none⟩) := (hT 45 3 (by simp) rfl).trans (hd ⟨3, .data⟩ (by simp) rfl)
        exact wp_ld_slice (e := 5) rfl e1 (by kernel_rfl) ((hR.below.cell (p := ⟨b, off + k, none⟩) (Nat.lt_of_lt_of_le hbl q.size)).trans hcell) ⟨_, rfl, rfl, Below.refl _ _⟩
      case o5 =>
        refine GdOpL.plain rfl (fun A vs w' hF hT hR hd => ?_)
        have e1 : A.eval (.tmp 46) = .slice Ar L C := (hT 46 4 (by simp) rfl).trans (hd ⟨4, .data⟩ (by simp) rfl)
        have hb1 : Below w'.heap.size w' (w'.alloc (.cells #[.slice Ar L C] 22)) := (Below.refl _ _).alloc (Nat.le_refl _) _
        have hrr := (hrd.below (hR.below.mono q.size)).mono (Nat.le_trans q.size hR.below.size)
        exact wp_oneRow ryP rfl e1 ⟨_, rfl, ⟨_, Ar, L, C, rfl, heap_alloc_self _ _, (hrr.below hb1).mono hb1.size⟩, hb1⟩
      case o6 =>
        refine GdOpL.plain rfl (fun A vs w' hF hT hR hd => ?_)
        have e1 : A.eval (.tmp 42) = .agg #[.slice a3 k3 c3, .int .i64 s] := (hT 42 0 (by simp) rfl).trans (hd ⟨0, .data⟩ (by simp) rfl)
        obtain ⟨b5, A5, L5, C5, q5, hc5, hr5⟩ := (hd ⟨5, .data⟩ (by simp) rfl)
        have e2 : A.eval (.tmp 47) = .slice (some ⟨b5, 0, none⟩) 1 1 := (hT 47 5 (by simp) rfl).trans q5
        refine wp_callFn rfl (enters_of Try.func11 (by kernel_rfl) rfl) (args := #[.agg #[.slice a3 k3 c3, .int .i64 s], .slice (some ⟨b5, 0, none⟩) 1 1]) (by simp [e1, e2]) ((hC.app w' (r3.below hR.below) hR.below.size (by omega) hs (rows_one hc5 hr5) (Below.refl _ _) (by simp)).mono ?_)
        rintro e w2 ⟨a5, k5, c5, rfl, r5, hb2⟩
        exact ⟨_, rfl, _, rfl, ⟨a5, k5, c5, rfl, r5⟩, hb2⟩
      case o7 =>
        refine GdOpL.plain rfl (fun A vs w' hF hT hR hd => ?_)
        obtain ⟨a5, k5, c5, q5, hr5⟩ := (hd ⟨6, .data⟩ (by simp) rfl)
        exact BigFrame.wp_move _ rfl ⟨_, rfl, ⟨a5, k5, c5, (hT 48 6 (by simp) rfl).trans q5, hr5⟩, Below.refl _ _⟩
      case o8 =>
        refine GdOpL.plain rfl (fun A vs w' hF hT hR hd => ?_)
        obtain ⟨a5, k5, c5, q5, hr5⟩ := (hd ⟨7, .data⟩ (by simp) rfl)
        exact wp_ex rfl ((hT 41 7 (by simp) rfl).trans q5) rfl ⟨_, rfl, ⟨a5, k5, c5, rfl, hr5⟩, Below.refl _ _⟩
      case o9 =>
        refine GdOpL.plain rfl (fun A vs w' hF hT hR hd => ?_)
        obtain ⟨a5, k5, c5, q5, hr5⟩ := (hd ⟨7, .data⟩ (by simp) rfl)
        exact wp_ex rfl ((hT 41 7 (by simp) rfl).trans q5) rfl ⟨_, rfl, rfl, Below.refl _ _⟩
      case o10 =>
        refine GdOpL.plain rfl (fun A vs w' hF hT hR hd => ?_)
        exact wp_allocP logP rfl ⟨_, rfl, ⟨_, rfl, hR.below.size, ⟨_, _, heap_alloc_self _ _, notU8_slice _ _ _, notU8_int _⟩⟩, (Below.refl _ _).alloc (Nat.le_refl _) _⟩
      case o11 =>
        refine GdOpL.plain rfl (fun A vs w' hF hT hR hd => ?_)
        obtain ⟨b5, q5, hb5, u0, v0, hx5, n1, n2⟩ := (hd ⟨10, .data⟩ (by simp) rfl)
        obtain ⟨a5, k5, c5, q6, hr6⟩ := (hd ⟨8, .data⟩ (by simp) rfl)
        have e1 : A.eval (.tmp 12) = .pointer (some ⟨b5, 0, none⟩) := (hT 12 10 (by simp) rfl).trans q5
        have e2 : A.eval (.tmp 49) = .agg #[.slice a5 k5 c5, .int .i64 s] := (hT 49 8 (by simp) rfl).trans q6
        refine wp_storeP logP rfl e1 e2 rfl rfl _ hx5 (fun w2 hg h2 => ?_)
        have hk : BoxK (fun b => wr.heap.size ≤ b) 24 w' w2 := .inr ⟨b5, hb5, hg, ⟨_, _, hx5, n1, n2⟩, ⟨_, _, h2, notU8_slice _ _ _, notU8_int _⟩⟩
        exact ⟨_, rfl, ⟨b5, a5, k5, c5, q5, h2, rd_box_up hr6 hk⟩, hk⟩
      case o12 =>
        refine GdOpL.plain rfl (fun A vs w' hF hT hR hd => ?_)
        exact BigFrame.wp_assign _ rfl ⟨_, rfl, (hT 50 9 (by simp) rfl).trans (hd ⟨9, .data⟩ (by simp) rfl), Below.refl _ _⟩
      case fin =>
        intro vs w' hR hG
        have e0 : vs 0 = .agg #[.slice a3 k3 c3, .int .i64 s] := hG 0 (by decide)
        have e1 : vs 1 = .slice (some ⟨b, off, none⟩) tss.length c2 := hG 1 (by decide)
        have e2 : vs 2 = .int .i64 k := hG 2 (by decide)
        have e3 : vs 3 = .pointer (some ⟨b, off + k, none⟩) := hG 3 (by decide)
        have e4 : vs 4 = .slice Ar L C := hG 4 (by decide)
        obtain ⟨b5, A5, L5, C5, e5, _, _⟩ := hG 5 (by decide)
        obtain ⟨x6, y6, z6, e6, _⟩ := hG 6 (by decide)
        obtain ⟨x7, y7, z7, e7, _⟩ := hG 7 (by decide)
        obtain ⟨x8, y8, z8, e8, _⟩ := hG 8 (by decide)
        have e9 : vs 9 = .int .i64 ((appS zs s [yt]).2 : Nat) := hG 9 (by decide)
        obtain ⟨bx, ax, kx, cx, e10, px, rx⟩ := hG 11 (by decide)
        have e12 : vs 12 = .int .i64 ((appS zs s [yt]).2 : Nat) := hG 12 (by decide)
        simp only [putAll, e0, e1, e2, e3, e4, e5, e6, e7, e8, e9, e10, e12]
        clear hG e0 e1 e2 e3 e4 e5 e6 e7 e8 e9 e10 e12
        go_simp
        replace pl := hR.pair pl (Nat.not_le.2 pl.lt)
        replace pw := hR.pair pw (Nat.not_le.2 pw.lt)
        replace pa := hR.pair pa (Nat.not_le.2 pa.lt)
        replace po := hR.pair po (Nat.not_le.2 po.lt)
        replace rw := (rw.below hR.below).mono hR.below.size
        replace ra := (ra.below hR.below).mono hR.below.size
        replace q := q.trans (hR.below.mono q.size)
        clear r3 hR hcell hrd
        have pxc0 := px.cell0
        have pxc1 := px.cell1
        have pof0 := po.frozen0
        have pof1 := po.frozen1
        have poc0 := po.cell0
        have poc1 := po.cell1
        go_wp2_with fail
        go_roundw
        case rel => exact ⟨k + 1, _, ax, kx, cx, _, rfl, by go_num, by omega, hstep, by omega, (po.put0 _).put1 _, rd_set2 rx po (notU8_slice _ _ _) (notU8_int _) (notU8_slice _ _ _), (pl.keep (by omega) 0 _).keep (by omega) 1 _, (pw.keep (by omega) 0 _).keep (by omega) 1 _, (pa.keep (by omega) 0 _).keep (by omega) 1 _, rd_set2 rw po (notU8_slice _ _ _) (notU8_int _) (notU8_slice _ _ _), rd_set2 ra po (notU8_slice _ _ _) (notU8_int _) (notU8_slice _ _ _), (q.setCell (p := ⟨W2.heap.size, 0, none⟩) (show w.heap.size ≤ W2.heap.size by omega) _).setCell (p := ⟨W2.heap.size, 1, none⟩) (show w.heap.size ≤ W2.heap.size by omega) _⟩
        case measure => simp [intOf]; omega
    · have hdone := hP.done (by omega)
      have HD := Lib.hid hdone
      by_cases hlt : k < tss.length
      · have hf0 : f ≠ 0 := fun h => hgo ⟨hlt, h⟩
        have df : ((f : Int) == 0) = false := by simpa using hf0
        clear hdone hgo hP hf0
        have plc0 := pl.cell0
        have plc1 := pl.cell1
        go_wp2_with fail
        clear df
        refine (hC.sync _ (hr.below q) q.size hx hs).mono ?_
        rintro e v5 ⟨ay, ky, cy, rfl, ry, hb⟩
        clear plc0 plc1
        replace pl := pl.below hb pl.lt
        replace pw := pw.below hb pw.lt
        replace pa := pa.below hb pa.lt
        replace po := po.below hb po.lt
        replace rw := (rw.below hb).mono hb.size
        replace ra := (ra.below hb).mono hb.size
        replace r3 := (r3.below hb).mono hb.size
        replace q := q.trans (hb.mono q.size)
        go_upto_region 15 with (fail)
        have py := PairV.new v5 24 (.slice ay ky cy) (.int .i64 (syncN bs s))
        have hbx : Below v5.heap.size v5 (v5.alloc (.cells #[.slice ay ky cy, .int .i64 (syncN bs s)] 24)) := (Below.refl _ _).alloc (Nat.le_refl _) _
        replace pl := pl.alloc (.cells #[.slice ay ky cy, .int .i64 (syncN bs s)] 24)
        replace pw := pw.alloc (.cells #[.slice ay ky cy, .int .i64 (syncN bs s)] 24)
        replace pa := pa.alloc (.cells #[.slice ay ky cy, .int .i64 (syncN bs s)] 24)
        replace po := po.alloc (.cells #[.slice ay ky cy, .int .i64 (syncN bs s)] 24)
        replace rw := (rw.below hbx).mono hbx.size
        replace ra := (ra.below hbx).mono hbx.size
        replace r3 := (r3.below hbx).mono hbx.size
        replace ry := (ry.below hbx).mono hbx.size
        replace q := q.trans (hbx.mono q.size)
        clear hbx
        generalize v5.alloc (.cells #[.slice ay ky cy, .int .i64 (syncN bs s)] 24) = W5 at *
        have plc0 := pl.cell0
        have plc1 := pl.cell1
        have pwc0 := pw.cell0
        have pwc1 := pw.cell1
        go_wp2_with fail
        refine (refSameL_any _ (hr.below q) q.size rw (Nat.le_refl _)).mono ?_
        rw [decide_eq_true (show bs = bs ∧ s = s from ⟨rfl, rfl⟩)]
        rintro e v6 ⟨rfl, hb⟩
        clear plc0 plc1 pwc0 pwc1
        replace pl := pl.below hb pl.lt
        replace pw := pw.below hb pw.lt
        replace pa := pa.below hb pa.lt
        replace po := po.below hb po.lt
        replace py := py.below hb py.lt
        replace rw := (rw.below hb).mono hb.size
        replace ra := (ra.below hb).mono hb.size
        replace r3 := (r3.below hb).mono hb.size
        replace ry := (ry.below hb).mono hb.size
        replace q := q.trans (hb.mono q.size)
        have plc0 := pl.cell0
        have plc1 := pl.cell1
        have pyc0 := py.cell0
        have pyc1 := py.cell1
        have rl := hr.below q
        go_upto_region 16 with (first | (refine wpList_conv byP rfl rfl rfl ry ?_) | (refine wpList_conv byP rfl rfl rfl rl ?_))
        clear plc0 plc1 pyc0 pyc1 rl
        have hd1 := HD.out.1
        have hd2 := HD.out.2
        generalize her : (appS bs s tss).2 = er at *
        clear her
        by_cases h0 : tss.length = 0
        · have d0 : ((tss.length : Int) == 0) = true := by simpa using h0
          by_cases he : er = 0
          · have hz := hd2.resolve_left (fun h => h he)
            subst he
            clear hd1 hd2
            have pac0 := pa.cell0
            have pac1 := pa.cell1
            have poc0 := po.cell0
            have poc1 := po.cell1
            go_wp2_with fail
            refine (refSameL_any _ ra (Nat.le_refl _) r3 (Nat.le_refl _)).mono ?_
            rw [decide_eq_true (show (appS bs s tss).1 = zs ∧ s = s from ⟨hz, rfl⟩)]
            rintro e v7 ⟨rfl, hb⟩
            clear pac0 pac1 poc0 poc1
            replace pl := pl.below hb pl.lt
            replace pw := pw.below hb pw.lt
            replace pa := pa.below hb pa.lt
            replace po := po.below hb po.lt
            replace py := py.below hb py.lt
            replace rw := (rw.below hb).mono hb.size
            replace ra := (ra.below hb).mono hb.size
            replace r3 := (r3.below hb).mono hb.size
            replace ry := (ry.below hb).mono hb.size
            replace q := q.trans (hb.mono q.size)
            go_wp2_with fail
            go_ret
            exact ⟨rfl, q⟩
          · have de : ((er : Int) == 0) = false := by simpa using he
            clear hd1 hd2
            go_wp2_with fail
            go_ret
            exact ⟨rfl, q⟩
        · have d0 : ((tss.length : Int) == 0) = false := by simpa using h0
          by_cases he : er = 0
          · have hz := hd2.resolve_left (fun h => h he)
            subst he
            obtain rfl : f = 0 := (hd1.resolve_left h0).1 rfl
            clear hd1 hd2
            have pac0 := pa.cell0
            have pac1 := pa.cell1
            have poc0 := po.cell0
            have poc1 := po.cell1
            go_wp2_with fail
            refine (refSameL_any _ ra (Nat.le_refl _) r3 (Nat.le_refl _)).mono ?_
            rw [decide_eq_true (show (appS bs s tss).1 = zs ∧ s = s from ⟨hz, rfl⟩)]
            rintro e v7 ⟨rfl, hb⟩
            clear pac0 pac1 poc0 poc1
            replace pl := pl.below hb pl.lt
            replace pw := pw.below hb pw.lt
            replace pa := pa.below hb pa.lt
            replace po := po.below hb po.lt
            replace py := py.below hb py.lt
            replace rw := (rw.below hb).mono hb.size
            replace ra := (ra.below hb).mono hb.size
            replace r3 := (r3.below hb).mono hb.size
            replace ry := (ry.below hb).mono hb.size
            replace q := q.trans (hb.mono q.size)
            go_wp2_with fail
            go_ret
            exact ⟨rfl, q⟩
          · have de : ((er : Int) == 0) = false := by simpa using he
            have df : ((f : Int) == 0) = false := by have : f ≠ 0 := fun h => he ((hd1.resolve_left h0).2 h); simpa using this
            clear hd1 hd2
            go_wp2_with fail
            go_ret
            exact ⟨rfl, q⟩
      · obtain rfl : k = tss.length := by omega
        clear hdone hgo hP hlt
        have plc0 := pl.cell0
        have plc1 := pl.cell1
        go_wp2_with fail
        refine (hC.sync _ (hr.below q) q.size hx hs).mono ?_
        rintro e v5 ⟨ay, ky, cy, rfl, ry, hb⟩
        clear plc0 plc1
        replace pl := pl.below hb pl.lt
        replace pw := pw.below hb pw.lt
        replace pa := pa.below hb pa.lt
        replace po := po.below hb po.lt
        replace rw := (rw.below hb).mono hb.size
        replace ra := (ra.below hb).mono hb.size
        replace r3 := (r3.below hb).mono hb.size
        replace q := q.trans (hb.mono q.size)
        go_upto_region 15 with (fail)
        have py := PairV.new v5 24 (.slice ay ky cy) (.int .i64 (syncN bs s))
        have hbx : Below v5.heap.size v5 (v5.alloc (.cells #[.slice ay ky cy, .int .i64 (syncN bs s)] 24)) := (Below.refl _ _).alloc (Nat.le_refl _) _
        replace pl := pl.alloc (.cells #[.slice ay ky cy, .int .i64 (syncN bs s)] 24)
        replace pw := pw.alloc (.cells #[.slice ay ky cy, .int .i64 (syncN bs s)] 24)
        replace pa := pa.alloc (.cells #[.slice ay ky cy, .int .i64 (syncN bs s)] 24)
        replace po := po.alloc (.cells #[.slice ay ky cy, .int .i64 (syncN bs s)] 24)
        replace rw := (rw.below hbx).mono hbx.size
        replace ra := (ra.below hbx).mono hbx.size
        replace r3 := (r3.below hbx).mono hbx.size
        replace ry := (ry.below hbx).mono hbx.size
        replace q := q.trans (hbx.mono q.size)
        clear hbx
        generalize v5.alloc (.cells #[.slice ay ky cy, .int .i64 (syncN bs s)] 24) = W5 at *
        have plc0 := pl.cell0
        have plc1 := pl.cell1
        have pwc0 := pw.cell0
        have pwc1 := pw.cell1
        go_wp2_with fail
        refine (refSameL_any _ (hr.below q) q.size rw (Nat.le_refl _)).mono ?_
        rw [decide_eq_true (show bs = bs ∧ s = s from ⟨rfl, rfl⟩)]
        rintro e v6 ⟨rfl, hb⟩
        clear plc0 plc1 pwc0 pwc1
        replace pl := pl.below hb pl.lt
        replace pw := pw.below hb pw.lt
        replace pa := pa.below hb pa.lt
        replace po := po.below hb po.lt
        replace py := py.below hb py.lt
        replace rw := (rw.below hb).mono hb.size
        replace ra := (ra.below hb).mono hb.size
        replace r3 := (r3.below hb).mono hb.size
        replace ry := (ry.below hb).mono hb.size
        replace q := q.trans (hb.mono q.size)
        have plc0 := pl.cell0
        have plc1 := pl.cell1
        have pyc0 := py.cell0
        have pyc1 := py.cell1
        have rl := hr.below q
        go_upto_region 16 with (first | (refine wpList_conv byP rfl rfl rfl ry ?_) | (refine wpList_conv byP rfl rfl rfl rl ?_))
        clear plc0 plc1 pyc0 pyc1 rl
        have hd1 := HD.out.1
        have hd2 := HD.out.2
        generalize her : (appS bs s tss).2 = er at *
        clear her
        by_cases h0 : tss.length = 0
        · have d0 : ((tss.length : Int) == 0) = true := by simpa using h0
          by_cases he : er = 0
          · have hz := hd2.resolve_left (fun h => h he)
            subst he
            clear hd1 hd2
            have pac0 := pa.cell0
            have pac1 := pa.cell1
            have poc0 := po.cell0
            have poc1 := po.cell1
            go_wp2_with fail
            refine (refSameL_any _ ra (Nat.le_refl _) r3 (Nat.le_refl _)).mono ?_
            rw [decide_eq_true (show (appS bs s tss).1 = zs ∧ s = s from ⟨hz, rfl⟩)]
            rintro e v7 ⟨rfl, hb⟩
            clear pac0 pac1 poc0 poc1
            replace pl := pl.below hb pl.lt
            replace pw := pw.below hb pw.lt
            replace pa := pa.below hb pa.lt
            replace po := po.below hb po.lt
            replace py := py.below hb py.lt
            replace rw := (rw.below hb).mono hb.size
            replace ra := (ra.below hb).mono hb.size
            replace r3 := (r3.below hb).mono hb.size
            replace ry := (ry.below hb).mono hb.size
            replace q := q.trans (hb.mono q.size)
            go_wp2_with fail
            go_ret
            exact ⟨rfl, q⟩
          · have de : ((er : Int) == 0) = false := by simpa using he
            clear hd1 hd2
            go_wp2_with fail
            go_ret
            exact ⟨rfl, q⟩
        · have d0 : ((tss.length : Int) == 0) = false := by simpa using h0
          by_cases he : er = 0
          · have hz := hd2.resolve_left (fun h => h he)
            subst he
            obtain rfl : f = 0 := (hd1.resolve_left h0).1 rfl
            clear hd1 hd2
            have pac0 := pa.cell0
            have pac1 := pa.cell1
            have poc0 := po.cell0
            have poc1 := po.cell1
            go_wp2_with fail
            refine (refSameL_any _ ra (Nat.le_refl _) r3 (Nat.le_refl _)).mono ?_
            rw [decide_eq_true (show (appS bs s tss).1 = zs ∧ s = s from ⟨hz, rfl⟩)]
            rintro e v7 ⟨rfl, hb⟩
            clear pac0 pac1 poc0 poc1
            replace pl := pl.below hb pl.lt
            replace pw := pw.below hb pw.lt
            replace pa := pa.below hb pa.lt
            replace po := po.below hb po.lt
            replace py := py.below hb py.lt
            replace rw := (rw.below hb).mono hb.size
            replace ra := (ra.below hb).mono hb.size
            replace r3 := (r3.below hb).mono hb.size
            replace ry := (ry.below hb).mono hb.size
            replace q := q.trans (hb.mono q.size)
            go_wp2_with fail
            go_ret
            exact ⟨rfl, q⟩
          · have de : ((er : Int) == 0) = false := by simpa using he
            have df : ((f : Int) == 0) = false := by have : f ≠ 0 := fun h => he ((hd1.resolve_left h0).2 h); simpa using this
            clear hd1 hd2
            go_wp2_with fail
            go_ret
            exact ⟨rfl, q⟩
end Go.Proofs.Ytebilecgmblmfaa
