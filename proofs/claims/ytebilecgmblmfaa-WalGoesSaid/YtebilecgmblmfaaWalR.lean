/-
  THE WALKS OF THE DOCUMENT's ANSWER FOR wal. Slices of at most a million bytes.
-/
import Derived.WalkKit
import Derived.WalkSpells
import Derived.WalkLawsBesides
import Derived.Lib.Hide
import Derived.Deep.Cut
import Derived.Test.YtebilecgmblmfaaProg
import Derived.Test.YtebilecgmblmfaaByte
import Derived.Test.YtebilecgmblmfaaAux
import Derived.Test.YtebilecgmblmfaaRyo
import Derived.Test.YtebilecgmblmfaaGuard
import Derived.Test.YtebilecgmblmfaaOps
import Derived.Test.YtebilecgmblmfaaSumA
import Derived.Test.YtebilecgmblmfaaFrmD
import Derived.Test.YtebilecgmblmfaaFrmG
import Derived.Test.YtebilecgmblmfaaWalM
import Derived.Test.YtebilecgmblmfaaKept
namespace Go.Proofs.Ytebilecgmblmfaa
open Go.RowKit

/-- What a call that makes a log hands back. -/
def LogEnd (w : World) (bs : List UInt8) (s : Int) (e : Ending) (w' : World) : Prop :=
  ∃ a k c, e = .returned (.agg #[.slice a k c, .int .i64 s]) ∧ Rd w'.heap.size w' (.slice a k c) bs ∧ Below w.heap.size w w'

set_option maxHeartbeats 1000000 in
theorem refCheck_any (w : World) {B : Nat} {a : Option Addr} {n c : Nat} {bs : List UInt8} {s : Int} (hr : Rd B w (.slice a n c) bs) :
    Calls Try.prog 24 #[.agg #[.slice a n c, .int .i64 s]] w fun e w' => e = .returned (.bool (decide (okL bs s))) ∧ Below w.heap.size w w' := by
  obtain ⟨rfl, hnc, hcm⟩ := hr.len
  have hlm : bs.length ≤ 9223372036854775807 := by unfold maxLen at hcm; omega
  by_cases h1 : bs.length ≤ 20000
  · by_cases h2 : 0 ≤ s
    · by_cases h3 : s ≤ (bs.length : Int)
      · have hk := Lib.hid (show decide (okL bs s) = true from decide_eq_true ⟨h1, h2, h3⟩)
        go_enter Try.func24, Try.ntmps24
        go_wp2
        go_ret
        exact ⟨by rw [hk.out]; rfl, (Below.refl _ _).alloc (Nat.le_refl _) _⟩
      · have hk := Lib.hid (show decide (okL bs s) = false from decide_eq_false (fun h => by obtain ⟨k1, k2, k3⟩ := h; omega))
        go_enter Try.func24, Try.ntmps24
        go_wp2
        go_ret
        exact ⟨by rw [hk.out]; rfl, (Below.refl _ _).alloc (Nat.le_refl _) _⟩
    · have hk := Lib.hid (show decide (okL bs s) = false from decide_eq_false (fun h => by obtain ⟨k1, k2, k3⟩ := h; omega))
      go_enter Try.func24, Try.ntmps24
      go_wp2
      go_ret
      exact ⟨by rw [hk.out]; rfl, (Below.refl _ _).alloc (Nat.le_refl _) _⟩
  · have hk := Lib.hid (show decide (okL bs s) = false from decide_eq_false (fun h => by obtain ⟨k1, k2, k3⟩ := h; omega))
    go_enter Try.func24, Try.ntmps24
    go_wp2
    go_ret
    exact ⟨by rw [hk.out]; rfl, (Below.refl _ _).alloc (Nat.le_refl _) _⟩

/-- The same, its bytes new memory. -/
def LogOwn (w : World) (bs : List UInt8) (s : Int) (e : Ending) (w' : World) : Prop :=
  ∃ a k c, e = .returned (.agg #[.slice a k c, .int .i64 s]) ∧ Fresh 5 w w' (.slice a k c) bs
theorem box2 (w : World) (t : TypeId) (u v u2 v2 : Value) : PairV ((w.alloc (.cells #[u, v] t)).alloc (.cells #[u2, v2] t)) w.heap.size t u v ∧ PairV ((w.alloc (.cells #[u, v] t)).alloc (.cells #[u2, v2] t)) (w.heap.size + 1) t u2 v2 ∧
    Below w.heap.size w ((w.alloc (.cells #[u, v] t)).alloc (.cells #[u2, v2] t)) ∧ ((w.alloc (.cells #[u, v] t)).alloc (.cells #[u2, v2] t)).heap.size = w.heap.size + 2 :=
  ⟨(PairV.new w _ _ _).alloc _, PairV.new' (by simp), ((Below.refl _ _).alloc (Nat.le_refl _) _).alloc (by simp) _, by simp⟩
/-- The result's variable, stored: what the call hands back. -/
theorem log_ret {w W : World} {g : Nat} {a : Option Addr} {k c : Nat} {bs : List UInt8} {s s' : Int} {fn : Func} {act : Act} {x y : Value} (hp : PairV W g 24 x y) (hx : NotU8 x) (hy : NotU8 y) (hr : Rd W.heap.size W (.slice a k c) bs) (hq : Below w.heap.size w W) (hg : w.heap.size ≤ g) (hs : s' = s) (hd : act.defers = [])
    (hres : PairV ((W.setCell ⟨g, 0, none⟩ (.slice a k c)).setCell ⟨g, 1, none⟩ (.int .i64 s)) g 24 (.slice a k c) (.int .i64 s) → (results fn act.tmps).run Try.prog ((W.setCell ⟨g, 0, none⟩ (.slice a k c)).setCell ⟨g, 1, none⟩ (.int .i64 s)) = .ok (.agg #[.slice a k c, .int .i64 s]) ((W.setCell ⟨g, 0, none⟩ (.slice a k c)).setCell ⟨g, 1, none⟩ (.int .i64 s))) :
    bodyPost Try.prog fn (LogEnd w bs s') Exit.ret act ((W.setCell ⟨g, 0, none⟩ (.slice a k c)).setCell ⟨g, 1, none⟩ (.int .i64 s)) := by
  subst hs
  have p0 := hp.put0 (.slice a k c)
  refine bodyPost_ret (hres (p0.put1 _)) hd ⟨a, k, c, rfl, ?_, (hq.setCell (p := ⟨g, 0, none⟩) hg _).setCell (p := ⟨g, 1, none⟩) hg _⟩
  have r0 := rd_set hr (Nat.le_refl _) hp hx hy 0 (.slice a k c)
  have r1 := rd_set r0 (by rw [size_set]; exact Nat.le_refl _) p0 (notU8_slice _ _ _) hy 1 (.int .i64 s')
  rw [size_set, size_set]
  exact r1
theorem logP : PrP Try.prog 24 (.slice none 0 0) (.int .i64 0) := ⟨⟨_, _, Try.underlying24, by kernel_rfl, by kernel_rfl, by kernel_rfl, by kernel_rfl⟩, by kernel_rfl⟩
theorem ub_ne : 5 ≠ 24 := by decide

set_option maxRecDepth 100000 in
set_option maxHeartbeats 1000000 in
theorem refCopy_own (w : World) {B : Nat} {a : Option Addr} {n c : Nat} {bs : List UInt8} {s : Int} (hr : Rd B w (.slice a n c) bs) (hB : B ≤ w.heap.size) (hx : bs.length ≤ 1000000) :
    Calls Try.prog 25 #[.agg #[.slice a n c, .int .i64 s]] w (LogOwn w bs s) := by
  obtain ⟨rfl, hnc, hcm⟩ := hr.len
  go_enter Try.func25, Try.ntmps25
  go_upto_region 1 with (fail)
  have pl : PairV ((w.alloc (.cells #[.slice a bs.length c, .int .i64 s] 24)).alloc (.cells #[.slice none 0 0, .int .i64 0] 24)) w.heap.size 24 (.slice a bs.length c) (.int .i64 s) := (PairV.new w _ _ _).alloc _
  have pr : PairV ((w.alloc (.cells #[.slice a bs.length c, .int .i64 s] 24)).alloc (.cells #[.slice none 0 0, .int .i64 0] 24)) (w.heap.size + 1) 24 (.slice none 0 0) (.int .i64 0) := PairV.new' (by simp)
  have q : Below w.heap.size w ((w.alloc (.cells #[.slice a bs.length c, .int .i64 s] 24)).alloc (.cells #[.slice none 0 0, .int .i64 0] 24)) := ((Below.refl _ _).alloc (Nat.le_refl _) _).alloc (by simp) _
  have hsz : ((w.alloc (.cells #[.slice a bs.length c, .int .i64 s] 24)).alloc (.cells #[.slice none 0 0, .int .i64 0] 24)).heap.size = w.heap.size + 2 := by simp
  generalize (w.alloc (.cells #[.slice a bs.length c, .int .i64 s] 24)).alloc (.cells #[.slice none 0 0, .int .i64 0] 24) = W at *
  have hrW := hr.below (q.mono hB)
  refine wp_region_box (by kernel_rfl) (by kernel_rfl) w.heap.size (· = w.heap.size + 1) 24 7 q.size (by rintro _ rfl; omega) [kZero 5 ub_ne w.heap.size, kEq (.pointer (some ⟨w.heap.size, 0, none⟩)), kEq (.slice a bs.length c), kOwn 5 ub_ne w.heap.size bs, kEq (.pointer (some ⟨w.heap.size, 1, none⟩)), kEq (.int .i64 s), kLogO 5 ub_ne w.heap.size bs s]
    ⟨fun w' _ => ∃ ad k c, PairV w' (w.heap.size + 1) 24 (.slice ad k c) (.int .i64 s) ∧ Own 5 w.heap.size w' (.slice ad k c) bs, fun A v C ⟨ad, k, c, h, hr⟩ hb => ⟨ad, k, c, h.below hb h.lt, hr.below hb⟩⟩
    ⟨?o0, ?o1, ?o2, ?o3, ?o4, ?o5, ?o6, ?o7, trivial⟩ ?fin
  case o0 =>
    refine GdOpK.plain rfl (fun A vs w' hF hT hR hd => ?_)
    refine wp_build byP rfl [] (by kernel_rfl) rfl (by simp) (fun g k w2 h2 => ?_)
    obtain rfl : k = 0 := h2.len
    exact ⟨_, rfl, ⟨_, rfl, h2.2.to (Nat.le_trans q.size hR.below.size |> fun h => by omega)⟩, h2.1⟩
  case o1 =>
    refine GdOpK.plain rfl (fun A vs w' hF hT hR hd => ?_)
    exact wp_fieldA logP rfl (hF 1 rfl) (by omega) ⟨_, rfl, rfl, Below.refl _ _⟩
  case o2 =>
    refine GdOpK.plain rfl (fun A vs w' hF hT hR hd => ?_)
    have e1 : A.eval (.tmp 4) = .pointer (some ⟨w.heap.size, 0, none⟩) := (hT 4 1 (by simp) rfl).trans (hd ⟨1, .data⟩ (by simp) rfl)
    exact wp_ld_slice (e := 5) rfl e1 (by kernel_rfl) ((hR.pair pl (by omega)).cell0) ⟨_, rfl, rfl, Below.refl _ _⟩
  case o3 =>
    refine GdOpK.plain rfl (fun A vs w' hF hT hR hd => ?_)
    obtain ⟨g, e0, hO⟩ := hd ⟨0, .data⟩ (by simp) rfl
    have e1 : A.eval (.tmp 3) = .slice (some g) 0 0 := (hT 3 0 (by simp) rfl).trans e0
    have e2 : A.eval (.tmp 5) = .slice a bs.length c := (hT 5 2 (by simp) rfl).trans (hd ⟨2, .data⟩ (by simp) rfl)
    exact wp_append_zero byP rfl e1 hO e2 (hrW.below (hR.below.mono hB)) (Nat.le_trans q.size (Nat.le_trans (Nat.le_refl _) hR.below.size)) (fun ad k cap w2 h2 hb => ⟨_, rfl, ⟨_, _, _, rfl, h2⟩, hb⟩) (by omega)
  case o4 =>
    refine GdOpK.plain rfl (fun A vs w' hF hT hR hd => ?_)
    exact wp_fieldA logP rfl (hF 1 rfl) (by omega) ⟨_, rfl, rfl, Below.refl _ _⟩
  case o5 =>
    refine GdOpK.plain rfl (fun A vs w' hF hT hR hd => ?_)
    have e1 : A.eval (.tmp 7) = .pointer (some ⟨w.heap.size, 1, none⟩) := (hT 7 4 (by simp) rfl).trans (hd ⟨4, .data⟩ (by simp) rfl)
    exact wp_ld_int (k := .i64) rfl e1 (by kernel_rfl) ((hR.pair pl (by omega)).cell1) ⟨_, rfl, rfl, Below.refl _ _⟩
  case o6 =>
    refine GdOpK.plain rfl (fun A vs w' hF hT hR hd => ?_)
    obtain ⟨ad, k, cq, e0, hO⟩ := hd ⟨3, .data⟩ (by simp) rfl
    have e1 : A.eval (.tmp 6) = .slice ad k cq := (hT 6 3 (by simp) rfl).trans e0
    have e2 : A.eval (.tmp 8) = .int .i64 s := (hT 8 5 (by simp) rfl).trans (hd ⟨5, .data⟩ (by simp) rfl)
    exact wp_buildP logP rfl e1 e2 rfl rfl ⟨_, rfl, ⟨_, _, _, rfl, hO⟩, Below.refl _ _⟩
  case o7 =>
    refine GdOpK.plain rfl (fun A vs w' hF hT hR hd => ?_)
    obtain ⟨ad, k, cq, e0, hrd⟩ := hd ⟨6, .data⟩ (by simp) rfl
    have e1 : A.eval (.tmp 9) = .agg #[.slice ad k cq, .int .i64 s] := (hT 9 6 (by simp) rfl).trans e0
    obtain ⟨u0, v0, hb, _, _⟩ := hR.box (w.heap.size + 1) ⟨_, _, pr, notU8_slice _ _ _, notU8_int _⟩
    refine wp_storeP logP rfl (hF 2 rfl) e1 rfl rfl _ hb (fun w2 hg h2 => ⟨_, rfl, ⟨ad, k, cq, h2, ?_⟩, ?_⟩)
    · have hk : BoxK (· = w.heap.size + 1) 24 w' w2 := .inr ⟨_, rfl, hg, ⟨_, _, hb, by assumption, by assumption⟩, ⟨_, _, h2, notU8_slice _ _ _, notU8_int _⟩⟩
      exact own_box ub_ne hrd hk
    · exact .inr ⟨_, rfl, hg, ⟨_, _, hb, by assumption, by assumption⟩, ⟨_, _, h2, notU8_slice _ _ _, notU8_int _⟩⟩
  case fin =>
    intro vs w' hR hG
    obtain ⟨ad, k, cq, hp, hrd⟩ := hG 7 (by decide)
    have c0 := hp.cell0
    have c1 := hp.cell1
    have q2 := q.trans hR.below
    simp only [putAll]
    clear hG hR hrW pl pr
    go_simp
    go_wp2
    exact bodyPost_ret (v := .agg #[.slice ad k cq, .int .i64 s]) (by simp [results, Try.results25, go_sem, c0, c1]) rfl ⟨ad, k, cq, rfl, q2, hrd⟩

theorem refCopy_any (w : World) {B : Nat} {a : Option Addr} {n c : Nat} {bs : List UInt8} {s : Int} (hr : Rd B w (.slice a n c) bs) (hB : B ≤ w.heap.size) (hx : bs.length ≤ 1000000) :
    Calls Try.prog 25 #[.agg #[.slice a n c, .int .i64 s]] w (LogEnd w bs s) := by
  refine (refCopy_own w hr hB hx).mono ?_
  rintro e w' ⟨ad, k, c, rfl, hF⟩
  exact ⟨ad, k, c, rfl, hF.rd, hF.1⟩

set_option maxRecDepth 100000 in
set_option maxHeartbeats 1000000 in
theorem refSync_any (w : World) {B : Nat} {a : Option Addr} {n c : Nat} {bs : List UInt8} {s : Int} (hr : Rd B w (.slice a n c) bs) (hB : B ≤ w.heap.size) (hx : bs.length ≤ 1000000) :
    Calls Try.prog 15 #[.agg #[.slice a n c, .int .i64 s]] w (LogEnd w bs (syncN bs s)) := by
  obtain ⟨rfl, hnc, hcm⟩ := hr.len
  have hlm : bs.length ≤ 9223372036854775807 := by unfold maxLen at hcm; omega
  have hb2 := box2 w 24 (.slice a bs.length c) (.int .i64 s) (.slice none 0 0) (.int .i64 0)
  go_enter Try.func15, Try.ntmps15
  go_wp2_with fail
  obtain ⟨pl, pr, q, hsz⟩ := hb2
  generalize (w.alloc (.cells #[.slice a bs.length c, .int .i64 s] 24)).alloc (.cells #[.slice none 0 0, .int .i64 0] 24) = W at *
  refine (refCopy_any W (hr.below (q.mono hB)) (Nat.le_trans hB q.size) hx).mono ?_
  rintro e w1 ⟨a1, k1, c1, rfl, r1, hb1⟩
  replace pl := pl.below hb1 pl.lt
  replace pr := pr.below hb1 pr.lt
  replace q := q.trans (hb1.mono q.size)
  have hs1 := hb1.size
  clear hb1
  obtain rfl := r1.len.1
  go_upto_region 2 with (fail)
  have po := PairV.new w1 24 (.slice a1 bs.length c1) (.int .i64 s)
  replace pl := pl.alloc (.cells #[.slice a1 bs.length c1, .int .i64 s] 24)
  replace pr := pr.alloc (.cells #[.slice a1 bs.length c1, .int .i64 s] 24)
  replace q := q.alloc q.size (.cells #[.slice a1 bs.length c1, .int .i64 s] 24)
  have hb1 : Below w1.heap.size w1 (w1.alloc (.cells #[.slice a1 bs.length c1, .int .i64 s] 24)) := (Below.refl _ _).alloc (Nat.le_refl _) _
  replace r1 := (r1.below hb1).mono hb1.size
  have hs1' : w.heap.size + 2 ≤ w1.heap.size := by omega
  generalize w1.alloc (.cells #[.slice a1 bs.length c1, .int .i64 s] 24) = W1 at *
  have l0 := pl.cell0
  have l1 := pl.cell1
  go_wp2_with fail
  clear l0 l1
  refine (refCheck_any W1 (hr.below (q.mono hB))).mono ?_
  rintro e w2 ⟨rfl, hb2⟩
  replace pl := pl.below hb2 pl.lt
  replace pr := pr.below hb2 pr.lt
  replace po := po.below hb2 po.lt
  replace r1 := (r1.below hb2).mono hb2.size
  replace q := q.trans (hb2.mono q.size)
  clear hb1 hb2
  have l0 := pl.cell0
  have l1 := pl.cell1
  have o0 := po.cell0
  have o1 := po.cell1
  have fo0 := po.frozen0
  have fo1 := po.frozen1
  have fr0 := pr.frozen0
  have fr1 := pr.frozen1
  have rc0 := pr.cell0
  have rc1 := pr.cell1
  by_cases hk : okL bs s
  · have hd : decide (okL bs s) = true := decide_eq_true hk
    have HN := Lib.hid (show syncN bs s = (bs.length : Int) by unfold syncN; rw [if_pos hk])
    rw [hd]
    clear hk hd
    go_wp2_with fail
    have pr1 := pr.keep (g := w1.heap.size) (by omega) 1 (.int .i64 (bs.length : Int))
    have z1 := rd_set r1 (Nat.le_refl _) po (notU8_slice _ _ _) (notU8_int _) 1 (.int .i64 (bs.length : Int))
    have q1 := q.setCell (p := ⟨w1.heap.size, 1, none⟩) (show w.heap.size ≤ w1.heap.size by omega) (.int .i64 (bs.length : Int))
    rw [← size_set w2 ⟨w1.heap.size, 1, none⟩ (.int .i64 (bs.length : Int))] at z1
    exact log_ret pr1 (notU8_slice _ _ _) (notU8_int _) z1 q1 (by omega) HN.out rfl (fun hp => by simp [results, Try.results15, go_sem, hp.cell0, hp.cell1])
  · have hd : decide (okL bs s) = false := decide_eq_false hk
    have HN := Lib.hid (show syncN bs s = s by unfold syncN; rw [if_neg hk])
    rw [hd]
    clear hk hd
    go_wp2_with fail
    exact log_ret pr (notU8_slice _ _ _) (notU8_int _) r1 q (by omega) HN.out rfl (fun hp => by simp [results, Try.results15, go_sem, hp.cell0, hp.cell1])

set_option maxRecDepth 100000 in
set_option maxHeartbeats 1000000 in
theorem refCrash_any (w : World) {B : Nat} {a : Option Addr} {n c : Nat} {bs : List UInt8} {s : Int} {keep : Int} (hr : Rd B w (.slice a n c) bs) (hB : B ≤ w.heap.size) (hx : bs.length ≤ 1000000) :
    Calls Try.prog 17 #[.agg #[.slice a n c, .int .i64 s], .int .i64 keep] w (LogEnd w (crashB bs s keep) (crashN bs s keep)) := by
  obtain ⟨rfl, hnc, hcm⟩ := hr.len
  have hlm : bs.length ≤ 9223372036854775807 := by unfold maxLen at hcm; omega
  have hb2 := box2 w 24 (.slice a bs.length c) (.int .i64 s) (.slice none 0 0) (.int .i64 0)
  go_enter Try.func17, Try.ntmps17
  go_wp2_with fail
  obtain ⟨pl, pr, q, hsz⟩ := hb2
  generalize (w.alloc (.cells #[.slice a bs.length c, .int .i64 s] 24)).alloc (.cells #[.slice none 0 0, .int .i64 0] 24) = W at *
  refine (refCopy_any W (hr.below (q.mono hB)) (Nat.le_trans hB q.size) hx).mono ?_
  rintro e w1 ⟨a1, k1, c1, rfl, r1, hb1⟩
  replace pl := pl.below hb1 pl.lt
  replace pr := pr.below hb1 pr.lt
  replace q := q.trans (hb1.mono q.size)
  have hs1 := hb1.size
  clear hb1
  obtain rfl := r1.len.1
  go_upto_region 2 with (fail)
  have po := PairV.new w1 24 (.slice a1 bs.length c1) (.int .i64 s)
  replace pl := pl.alloc (.cells #[.slice a1 bs.length c1, .int .i64 s] 24)
  replace pr := pr.alloc (.cells #[.slice a1 bs.length c1, .int .i64 s] 24)
  replace q := q.alloc q.size (.cells #[.slice a1 bs.length c1, .int .i64 s] 24)
  have hb1 : Below w1.heap.size w1 (w1.alloc (.cells #[.slice a1 bs.length c1, .int .i64 s] 24)) := (Below.refl _ _).alloc (Nat.le_refl _) _
  replace r1 := (r1.below hb1).mono hb1.size
  have hs1' : w.heap.size + 2 ≤ w1.heap.size := by omega
  generalize w1.alloc (.cells #[.slice a1 bs.length c1, .int .i64 s] 24) = W1 at *
  have l0 := pl.cell0
  have l1 := pl.cell1
  go_wp2_with fail
  clear l0 l1
  refine (refCheck_any W1 (hr.below (q.mono hB))).mono ?_
  rintro e w2 ⟨rfl, hb2⟩
  replace pl := pl.below hb2 pl.lt
  replace pr := pr.below hb2 pr.lt
  replace po := po.below hb2 po.lt
  replace r1 := (r1.below hb2).mono hb2.size
  replace q := q.trans (hb2.mono q.size)
  clear hb1 hb2
  have l0 := pl.cell0
  have l1 := pl.cell1
  have o0 := po.cell0
  have o1 := po.cell1
  have fo0 := po.frozen0
  have fo1 := po.frozen1
  have fr0 := pr.frozen0
  have fr1 := pr.frozen1
  have rc0 := pr.cell0
  have rc1 := pr.cell1
  by_cases hk : okL bs s
  · have hd : decide (okL bs s) = true := decide_eq_true hk
    have HB := Lib.hid (show crashB bs s keep = bs.take (keepN bs s keep) by unfold crashB; rw [if_pos hk])
    have HN := Lib.hid (show crashN bs s keep = (keepN bs s keep : Int) by unfold crashN; rw [if_pos hk])
    have hkn := keepN_le (keep := keep) hk
    obtain ⟨m, hm⟩ : ∃ m, m = keepN bs s keep := ⟨_, rfl⟩
    rw [← hm] at hkn
    have hml := hkn.1
    have hm3 := hkn.2.2
    have hs0 := hk.2.1
    have hs3 := hk.2.2
    have HM := Lib.hid hm
    have hmc : m ≤ c1 := by have := r1.len.2.1; omega
    rw [hd]
    clear hk hd hkn hm
    have rt := r1.take m hml
    by_cases hgt : s < keep
    · rw [if_pos hgt] at hm3
      by_cases hkb : keep ≤ (bs.length : Int)
      · have hmin : min keep (bs.length : Int) = keep := by omega
        obtain rfl : keep = (m : Int) := by omega
        clear hm3
        go_wp2_with fail
        rw [HB.out, HN.out, ← HM.out]
        exact log_ret pr (notU8_slice _ _ _) (notU8_int _) rt q (by omega) rfl rfl (fun hp => by simp [results, Try.results17, go_sem, hp.cell0, hp.cell1])
      · have hmin : min keep (bs.length : Int) = (bs.length : Int) := by omega
        obtain rfl : m = bs.length := by omega
        clear hm3
        go_wp2_with fail
        rw [HB.out, HN.out, ← HM.out]
        exact log_ret pr (notU8_slice _ _ _) (notU8_int _) rt q (by omega) rfl rfl (fun hp => by simp [results, Try.results17, go_sem, hp.cell0, hp.cell1])
    · rw [if_neg hgt] at hm3
      obtain rfl : s = (m : Int) := hm3.symm
      clear hm3
      go_wp2_with fail
      rw [HB.out, HN.out, ← HM.out]
      exact log_ret pr (notU8_slice _ _ _) (notU8_int _) rt q (by omega) rfl rfl (fun hp => by simp [results, Try.results17, go_sem, hp.cell0, hp.cell1])
  · have hd : decide (okL bs s) = false := decide_eq_false hk
    have HB := Lib.hid (show crashB bs s keep = bs by unfold crashB; rw [if_neg hk])
    have HN := Lib.hid (show crashN bs s keep = s by unfold crashN; rw [if_neg hk])
    rw [hd]
    clear hk hd
    go_wp2_with fail
    rw [HB.out]
    exact log_ret pr (notU8_slice _ _ _) (notU8_int _) r1 q (by omega) HN.out rfl (fun hp => by simp [results, Try.results17, go_sem, hp.cell0, hp.cell1])

set_option maxRecDepth 100000 in
set_option maxHeartbeats 1000000 in
theorem refTrim_any (w : World) {B : Nat} {a : Option Addr} {n c : Nat} {bs : List UInt8} {s : Int} (hr : Rd B w (.slice a n c) bs) (hB : B ≤ w.heap.size) (hx : bs.length ≤ 1000000) :
    Calls Try.prog 19 #[.agg #[.slice a n c, .int .i64 s]] w (LogEnd w (trimB bs s) (trimN bs s)) := by
  obtain ⟨rfl, hnc, hcm⟩ := hr.len
  have hlm : bs.length ≤ 9223372036854775807 := by unfold maxLen at hcm; omega
  have hb2 := box2 w 24 (.slice a bs.length c) (.int .i64 s) (.slice none 0 0) (.int .i64 0)
  go_enter Try.func19, Try.ntmps19
  go_wp2_with fail
  obtain ⟨pl, pr, q, hsz⟩ := hb2
  generalize (w.alloc (.cells #[.slice a bs.length c, .int .i64 s] 24)).alloc (.cells #[.slice none 0 0, .int .i64 0] 24) = W at *
  refine (refCopy_any W (hr.below (q.mono hB)) (Nat.le_trans hB q.size) hx).mono ?_
  rintro e w1 ⟨a1, k1, c1, rfl, r1, hb1⟩
  replace pl := pl.below hb1 pl.lt
  replace pr := pr.below hb1 pr.lt
  replace q := q.trans (hb1.mono q.size)
  have hs1 := hb1.size
  clear hb1
  obtain rfl := r1.len.1
  go_upto_region 2 with (fail)
  have po := PairV.new w1 24 (.slice a1 bs.length c1) (.int .i64 s)
  replace pl := pl.alloc (.cells #[.slice a1 bs.length c1, .int .i64 s] 24)
  replace pr := pr.alloc (.cells #[.slice a1 bs.length c1, .int .i64 s] 24)
  replace q := q.alloc q.size (.cells #[.slice a1 bs.length c1, .int .i64 s] 24)
  have hb1 : Below w1.heap.size w1 (w1.alloc (.cells #[.slice a1 bs.length c1, .int .i64 s] 24)) := (Below.refl _ _).alloc (Nat.le_refl _) _
  replace r1 := (r1.below hb1).mono hb1.size
  have hs1' : w.heap.size + 2 ≤ w1.heap.size := by omega
  generalize w1.alloc (.cells #[.slice a1 bs.length c1, .int .i64 s] 24) = W1 at *
  have l0 := pl.cell0
  have l1 := pl.cell1
  go_wp2_with fail
  clear l0 l1
  refine (refCheck_any W1 (hr.below (q.mono hB))).mono ?_
  rintro e w2 ⟨rfl, hb2⟩
  replace pl := pl.below hb2 pl.lt
  replace pr := pr.below hb2 pr.lt
  replace po := po.below hb2 po.lt
  replace r1 := (r1.below hb2).mono hb2.size
  replace q := q.trans (hb2.mono q.size)
  clear hb1 hb2
  have l0 := pl.cell0
  have l1 := pl.cell1
  have o0 := po.cell0
  have o1 := po.cell1
  have fo0 := po.frozen0
  have fo1 := po.frozen1
  have fr0 := pr.frozen0
  have fr1 := pr.frozen1
  have rc0 := pr.cell0
  have rc1 := pr.cell1
  by_cases hk : okL bs s
  · have hd : decide (okL bs s) = true := decide_eq_true hk
    have HB := Lib.hid (show trimB bs s = bs.take (wholeN bs) by unfold trimB; rw [if_pos hk])
    have HN := Lib.hid (show trimN bs s = min s (wholeN bs : Int) by unfold trimN; rw [if_pos hk])
    rw [hd]
    clear hk hd
    have hwl : wholeN bs ≤ bs.length := (textsF_take bs).2
    have ha := fun (w' : World) (hr' : Rd B w' (.slice a bs.length c) bs) (hB' : B ≤ w'.heap.size) => refAll_any w' hr' hB' hx
    unfold AllEnd at ha
    go_wp2_with fail
    refine (ha _ (hr.below (q.mono hB)) (Nat.le_trans hB q.size)).mono ?_
    rintro e w3 ⟨a3, c3, rfl, _, hb3⟩
    have hs3 := hb3.size
    replace pl := pl.below hb3 pl.lt
    replace pr := pr.below hb3 pr.lt
    replace po := po.below hb3 po.lt
    replace r1 := (r1.below hb3).mono hb3.size
    replace q := q.trans (hb3.mono q.size)
    clear hb3 l0 l1 o0 o1 fo0 fo1 fr0 fr1 rc0 rc1 ha
    obtain ⟨n, hn⟩ : ∃ n, n = wholeN bs := ⟨_, rfl⟩
    have en : (framesB (textsF bs)).length = n := hn.symm
    rw [← hn] at hwl
    have HW := Lib.hid hn
    rw [en]
    clear hn
    go_upto_region 6 with (fail)
    clear en
    have hnc1 : n ≤ c1 := by have := r1.len.2.1; omega
    have r1b := fun (w' : World) (hR : RK w.heap.size (· = w.heap.size + 1) 24 w3 w') => hR.rd r1 pr (notU8_slice _ _ _) (notU8_int _)
    refine wp_region_box (by kernel_rfl) (by kernel_rfl) w.heap.size (· = w.heap.size + 1) 24 9 q.size (by rintro _ rfl; omega) [kEq (.pointer (some ⟨w1.heap.size, 0, none⟩)), kEq (.slice a1 bs.length c1), kEq (.int .i64 n), kRd (bs.take n), kEq (.pointer (some ⟨w.heap.size, 1, none⟩)), kEq (.int .i64 s), kEq (.int .i64 n), kEq (.int .i64 (min s n)), kLog (bs.take n) (min s n)]
      ⟨fun w' _ => ∃ ad k c, PairV w' (w.heap.size + 1) 24 (.slice ad k c) (.int .i64 (min s n)) ∧ Rd w'.heap.size w' (.slice ad k c) (bs.take n), fun A v C ⟨ad, k, c, h, hr⟩ hb => ⟨ad, k, c, h.below hb h.lt, (hr.below hb).mono hb.size⟩⟩
      ⟨?o0, ?o1, ?o2, ?o3, ?o4, ?o5, ?o6, ?o7, ?o8, ?o9, trivial⟩ ?fin
    case o0 =>
      refine GdOpK.plain rfl (fun A vs w' hF hT hR hd => ?_)
      exact wp_fieldA logP rfl (hF 3 rfl) (by omega) ⟨_, rfl, rfl, Below.refl _ _⟩
    case o1 =>
      refine GdOpK.plain rfl (fun A vs w' hF hT hR hd => ?_)
      have e1 : A.eval (.tmp 20) = .pointer (some ⟨w1.heap.size, 0, none⟩) := (hT 20 0 (by simp) rfl).trans (hd ⟨0, .data⟩ (by simp) rfl)
      exact wp_ld_slice (e := 5) rfl e1 (by kernel_rfl) ((hR.pair po (by omega)).cell0) ⟨_, rfl, rfl, Below.refl _ _⟩
    case o2 => exact GdOpK.plain rfl (fun A vs w' hF hT hR hd => BigFrame.wp_move _ rfl ⟨_, rfl, hF 6 rfl, Below.refl _ _⟩)
    case o3 =>
      refine GdOpK.plain rfl (fun A vs w' hF hT hR hd => ?_)
      have e1 : A.eval (.tmp 21) = .slice a1 bs.length c1 := (hT 21 1 (by simp) rfl).trans (hd ⟨1, .data⟩ (by simp) rfl)
      have e2 : A.eval (.tmp 22) = .int .i64 n := (hT 22 2 (by simp) rfl).trans (hd ⟨2, .data⟩ (by simp) rfl)
      exact wp_slice byP rfl e1 (r1b w' hR) rfl (by simp [e2]) (run_bounds_h' _ (h := n) rfl hnc1) (fun ad3 k3 c3 h3 => ⟨_, rfl, ⟨_, _, _, rfl, by simpa using h3⟩, Below.refl _ _⟩) (by omega) hwl
    case o4 =>
      refine GdOpK.plain rfl (fun A vs w' hF hT hR hd => ?_)
      exact wp_fieldA logP rfl (hF 1 rfl) (by omega) ⟨_, rfl, rfl, Below.refl _ _⟩
    case o5 =>
      refine GdOpK.plain rfl (fun A vs w' hF hT hR hd => ?_)
      have e1 : A.eval (.tmp 24) = .pointer (some ⟨w.heap.size, 1, none⟩) := (hT 24 4 (by simp) rfl).trans (hd ⟨4, .data⟩ (by simp) rfl)
      exact wp_ld_int (k := .i64) rfl e1 (by kernel_rfl) ((hR.pair pl (by omega)).cell1) ⟨_, rfl, rfl, Below.refl _ _⟩
    case o6 => exact GdOpK.plain rfl (fun A vs w' hF hT hR hd => BigFrame.wp_move _ rfl ⟨_, rfl, hF 6 rfl, Below.refl _ _⟩)
    case o7 =>
      refine GdOpK.plain rfl (fun A vs w' hF hT hR hd => ?_)
      have e1 : A.eval (.tmp 25) = .int .i64 s := (hT 25 5 (by simp) rfl).trans (hd ⟨5, .data⟩ (by simp) rfl)
      have e2 : A.eval (.tmp 26) = .int .i64 n := (hT 26 6 (by simp) rfl).trans (hd ⟨6, .data⟩ (by simp) rfl)
      exact wp_minI rfl e1 e2 rfl ⟨_, rfl, rfl, Below.refl _ _⟩
    case o8 =>
      refine GdOpK.plain rfl (fun A vs w' hF hT hR hd => ?_)
      obtain ⟨ad, k, cq, e0, hO⟩ := hd ⟨3, .data⟩ (by simp) rfl
      have e1 : A.eval (.tmp 23) = .slice ad k cq := (hT 23 3 (by simp) rfl).trans e0
      have e2 : A.eval (.tmp 27) = .int .i64 (min s n) := (hT 27 7 (by simp) rfl).trans (hd ⟨7, .data⟩ (by simp) rfl)
      exact wp_buildP logP rfl e1 e2 rfl rfl ⟨_, rfl, ⟨_, _, _, rfl, hO⟩, Below.refl _ _⟩
    case o9 =>
      refine GdOpK.plain rfl (fun A vs w' hF hT hR hd => ?_)
      obtain ⟨ad, k, cq, e0, hrd⟩ := hd ⟨8, .data⟩ (by simp) rfl
      have e1 : A.eval (.tmp 28) = .agg #[.slice ad k cq, .int .i64 (min s n)] := (hT 28 8 (by simp) rfl).trans e0
      obtain ⟨u0, v0, hb, n1, n2⟩ := hR.box (w.heap.size + 1) ⟨_, _, pr, notU8_slice _ _ _, notU8_int _⟩
      refine wp_storeP logP rfl (hF 2 rfl) e1 rfl rfl _ hb (fun w2 hg h2 => ?_)
      have hk : BoxK (· = w.heap.size + 1) 24 w' w2 := .inr ⟨_, rfl, hg, ⟨_, _, hb, n1, n2⟩, ⟨_, _, h2, notU8_slice _ _ _, notU8_int _⟩⟩
      exact ⟨_, rfl, ⟨ad, k, cq, h2, rd_box_up hrd hk⟩, hk⟩
    case fin =>
      intro vs w' hR hG
      obtain ⟨ad, k, cq, hp, hrd⟩ := hG 9 (by decide)
      have c0 := hp.cell0
      have c1 := hp.cell1
      have q2 := q.trans hR.below
      simp only [putAll]
      clear hG hR pl pr po r1
      go_simp
      go_wp2
      rw [HB.out, HN.out, ← HW.out]
      exact bodyPost_ret (v := .agg #[.slice ad k cq, .int .i64 (min s n)]) (by simp [results, Try.results19, go_sem, c0, c1]) rfl ⟨ad, k, cq, rfl, hrd, q2⟩
  · have hd : decide (okL bs s) = false := decide_eq_false hk
    have HB := Lib.hid (show trimB bs s = bs by unfold trimB; rw [if_neg hk])
    have HN := Lib.hid (show trimN bs s = s by unfold trimN; rw [if_neg hk])
    rw [hd]
    clear hk hd
    go_wp2_with fail
    rw [HB.out]
    exact log_ret pr (notU8_slice _ _ _) (notU8_int _) r1 q (by omega) HN.out rfl (fun hp => by simp [results, Try.results19, go_sem, hp.cell0, hp.cell1])

end Go.Proofs.Ytebilecgmblmfaa
