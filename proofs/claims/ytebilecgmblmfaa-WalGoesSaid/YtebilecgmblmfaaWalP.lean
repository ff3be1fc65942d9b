/-
  THE WALKS OF wal's Check, OF cut, AND OF THE FUNCTIONS THAT Sync, Crash, Trim HAND TO changed. Slices of at most a million bytes.
-/
import Derived.RangeFuncBox
import Derived.WalkKit
import Derived.WalkSpells
import Derived.WalkLawsBesides
import Derived.Lib.Hide
import Derived.Deep.Cut
import Derived.Test.YtebilecgmblmfaaProg
import Derived.Test.YtebilecgmblmfaaByte
import Derived.Test.YtebilecgmblmfaaAux
import Derived.Test.YtebilecgmblmfaaCut
import Derived.Test.YtebilecgmblmfaaRyo
import Derived.Test.YtebilecgmblmfaaGuard
import Derived.Test.YtebilecgmblmfaaOps
import Derived.Test.YtebilecgmblmfaaKept
import Derived.Test.YtebilecgmblmfaaSink
import Derived.Test.YtebilecgmblmfaaFrmF
import Derived.Test.YtebilecgmblmfaaWalM
import Derived.Test.YtebilecgmblmfaaWalR
import Derived.Test.YtebilecgmblmfaaWalS
import Derived.Test.YtebilecgmblmfaaWalC
namespace Go.Proofs.Ytebilecgmblmfaa
open Go.RowKit

/-- Bytes that lie in new memory: in no block below that one. -/
def BlkGe (lo : Nat) (a : Option Addr) (xs : List UInt8) : Prop := xs = [] ∨ ∃ p : Addr, a = some p ∧ lo ≤ p.block
theorem BlkGe.mono {lo lo' : Nat} {a : Option Addr} {xs : List UInt8} (h : BlkGe lo a xs) (hl : lo' ≤ lo) : BlkGe lo' a xs := h.imp id fun ⟨p, e, h⟩ => ⟨p, e, Nat.le_trans hl h⟩
theorem BlkGe.cut {lo : Nat} {a a' : Option Addr} {xs : List UInt8} (h : BlkGe lo a xs) (hb : a'.map (·.block) = a.map (·.block)) (m : Nat) : BlkGe lo a' (xs.take m) := by
  rcases h with rfl | ⟨p, rfl, hl⟩
  · exact .inl (by simp)
  · cases a' with
    | none => simp at hb
    | some p' => simp at hb; exact .inr ⟨p', rfl, by omega⟩
theorem Own.blk {E : TypeId} {base : Nat} {w : World} {a : Option Addr} {n c : Nat} {xs : List UInt8} (h : Own E base w (.slice a n c) xs) : BlkGe base a xs := by
  obtain ⟨k, h⟩ := h
  rcases h.2 with ⟨e, h0⟩ | ⟨g, cap, cur, e, hb, _⟩
  · obtain rfl := own_n h
    exact .inl (List.eq_nil_of_length_eq_zero h0)
  · cases e
    exact .inr ⟨_, rfl, hb⟩
theorem BlkGe.no {lo B : Nat} {w : World} {a : Option Addr} {n c : Nat} {xs : List UInt8} (h : BlkGe lo a xs) (hr : Rd B w (.slice a n c) xs) (g : Option Nat) (hg : ∀ k, g = some k → k < lo) : RdNo g B w (.slice a n c) xs := by
  rcases hr with h1 | ⟨b, off, cap, hv, h2⟩
  · exact .inl h1
  · cases hv
    rcases h with rfl | ⟨p, e, hl⟩
    · exact .inl ⟨_, _, rfl, h2.2.2.1, rfl⟩
    · cases e
      exact .inr ⟨b, off, _, rfl, fun e => Nat.lt_irrefl _ (Nat.lt_of_lt_of_le (hg b e.symm) hl), h2⟩

set_option maxHeartbeats 1000000 in
theorem walCheck_any (w : World) {B : Nat} {a : Option Addr} {n c : Nat} {bs : List UInt8} {s : Int} (hr : Rd B w (.slice a n c) bs) :
    Calls Try.prog 23 #[.agg #[.slice a n c, .int .i64 s]] w fun e w' => e = .returned (.bool (decide (okL bs s))) ∧ Below w.heap.size w w' := by
  obtain ⟨rfl, hnc, hcm⟩ := hr.len
  have hlm : bs.length ≤ 9223372036854775807 := by unfold maxLen at hcm; omega
  by_cases h1 : bs.length ≤ 20000
  · by_cases h2 : 0 ≤ s
    · by_cases h3 : s ≤ (bs.length : Int)
      · have hk := Lib.hid (show decide (okL bs s) = true from decide_eq_true ⟨h1, h2, h3⟩)
        go_enter Try.func23, Try.ntmps23
        go_wp2
        go_ret
        exact ⟨by rw [hk.out]; rfl, (Below.refl _ _).alloc (Nat.le_refl _) _⟩
      · have hk := Lib.hid (show decide (okL bs s) = false from decide_eq_false (fun h => by obtain ⟨k1, k2, k3⟩ := h; omega))
        go_enter Try.func23, Try.ntmps23
        go_wp2
        go_ret
        exact ⟨by rw [hk.out]; rfl, (Below.refl _ _).alloc (Nat.le_refl _) _⟩
    · have hk := Lib.hid (show decide (okL bs s) = false from decide_eq_false (fun h => by obtain ⟨k1, k2, k3⟩ := h; omega))
      go_enter Try.func23, Try.ntmps23
      go_wp2
      go_ret
      exact ⟨by rw [hk.out]; rfl, (Below.refl _ _).alloc (Nat.le_refl _) _⟩
  · have hk := Lib.hid (show decide (okL bs s) = false from decide_eq_false (fun h => by obtain ⟨k1, k2, k3⟩ := h; omega))
    go_enter Try.func23, Try.ntmps23
    go_wp2
    go_ret
    exact ⟨by rw [hk.out]; rfl, (Below.refl _ _).alloc (Nat.le_refl _) _⟩

section
variable {P : Program} {T E S : TypeId} {ops : Array Oper} {rest : List Oper} {o : Oper} {a : Act} {Q : Exit → Act → World → Prop} {w : World}
theorem run_bounds3n (w : World) {n c h m : Nat} {j k : Int} (hj : j = (h : Int)) (hk : k = (m : Int)) (hh : h ≤ m) (hm : m ≤ c) :
    (Instr.sliceBounds true n c none (some (.int .i64 j)) (some (.int .i64 k))).run P w = .ok (0, h, m) w := by
  subst hj; subst hk
  simp [Instr.sliceBounds, Instr.sliceBound, asIntOf, hh, hm]
/-- 'x[:hi:mx]'. -/
theorem wpList_slice3n (hP : ByP P T E S) {x hi mx : Operand} (ho : o.op = .slice T x none (some hi) (some mx)) (hgd : Region.wanted o (yielded ops a.tmps) = true) {B : Nat} {ad : Option Addr} {n c : Nat} {xs : List UInt8} (hx : a.eval x = .slice ad n c) (hr : Rd B w (.slice ad n c) xs)
    {r m : Nat} (hb : (Instr.sliceBounds true n c none (some (a.eval hi)) (some (a.eval mx))).run P w = .ok (0, r, m) w)
    (h : ∀ ad' c', Rd B w (.slice ad' r c') (xs.take r) → ad'.map (·.block) = ad.map (·.block) → wpList P ops Q rest (a.put o.dst (.slice ad' r c')) w) (hrn : r ≤ xs.length) (hm : r ≤ m) (hmc : m ≤ c) : wpList P ops Q (o :: rest) a w := by
  refine BigFrame.wpList_want hgd fun K hK => ?_
  obtain ⟨ad', c', hrun, h2, h3⟩ := run_slice3_rd hP hr hb (Nat.zero_le _) hrn hm hmc
  rw [Nat.sub_zero, List.drop_zero] at h2
  rw [Nat.sub_zero] at hrun
  unfold Oper.wp execOp
  have hat : (Instr.sliceAt T (.slice ad n c) none (some (a.eval hi)) (some (a.eval mx))).run P w = .ok (.slice ad' r c') w := by
    rw [show (Instr.sliceAt T (.slice ad n c) none (some (a.eval hi)) (some (a.eval mx))).run P w = (Instr.slice T (.slice ad n c) none (some (a.eval hi)) (some (a.eval mx))).run P w by simp [Instr.sliceAt, run_underlying hP.hT]]; exact hrun
  simp only [ho, hx, Option.map_some, Option.map_none, Sem.run_bind, Sem.run_pure, Result.andThen_ok, hat]
  exact hK _ _ (h _ _ h2 h3)
end

set_option maxHeartbeats 1000000 in
theorem cut_any (w : World) {g : Nat} {a : Option Addr} {n c : Nat} {bs : List UInt8} {s : Int} (hp : PairV w g 24 (.slice a n c) (.int .i64 s)) {B : Nat} (hr : Rd B w (.slice a n c) bs) (m : Nat) (hm : m ≤ bs.length) :
    Calls Try.prog 32 #[.pointer (some ⟨g, 0, none⟩), .int .i64 m] w fun e w' => e = .returned (.tuple #[]) ∧ ∃ a' c', w' = w.setCell ⟨g, 0, none⟩ (.slice a' m c') ∧ Rd B w (.slice a' m c') (bs.take m) ∧ a'.map (·.block) = a.map (·.block) := by
  obtain ⟨rfl, hnc, hcm⟩ := hr.len
  have c0 := hp.cell0
  have f0 := hp.frozen0
  have hmc : m ≤ c := by omega
  go_enter Try.func32, Try.ntmps32
  go_wp2_with (refine wpList_slice3n byP rfl rfl rfl hr (r := m) (m := m) (run_bounds3n _ rfl rfl (Nat.le_refl _) hmc) ?_ hm (Nat.le_refl _) hmc; intro a' c' hr' hbl')
  go_end0
  exact ⟨rfl, a', c', rfl, hr', hbl'⟩

set_option maxHeartbeats 1000000 in
theorem sync1_any (w : World) {g : Nat} {a : Option Addr} {n c : Nat} {s : Int} (hp : PairV w g 24 (.slice a n c) (.int .i64 s)) :
    Calls Try.prog 30 #[.pointer (some ⟨g, 0, none⟩)] w fun e w' => e = .returned (.tuple #[]) ∧ w' = w.setCell ⟨g, 1, none⟩ (.int .i64 n) := by
  have c0 := hp.cell0
  have f1 := hp.frozen1
  have c1 := hp.cell1
  go_enter Try.func30, Try.ntmps30
  go_wp2
  go_end0
  exact ⟨rfl, rfl⟩

/-- What a function that changes a log leaves: its variable, and nothing else that lay has turned. -/
def OwnEnd (w : World) (g lo : Nat) (bs : List UInt8) (s : Int) (e : Ending) (w' : World) : Prop :=
  e = .returned (.tuple #[]) ∧ w.grownBy w' (some g) ∧ ∃ a k c, PairV w' g 24 (.slice a k c) (.int .i64 s) ∧ Rd w'.heap.size w' (.slice a k c) bs ∧ BlkGe lo a bs
theorem sync1_own (w : World) {g : Nat} {a : Option Addr} {n c : Nat} {bs : List UInt8} {s : Int} (hp : PairV w g 24 (.slice a n c) (.int .i64 s)) (hr : Rd w.heap.size w (.slice a n c) bs) {lo : Nat} (hlo : BlkGe lo a bs) :
    Calls Try.prog 30 #[.pointer (some ⟨g, 0, none⟩)] w (OwnEnd w g lo bs (bs.length : Nat)) := by
  obtain ⟨rfl, _, _⟩ := hr.len
  refine (sync1_any w hp).mono ?_
  rintro e w' ⟨rfl, rfl⟩
  exact ⟨rfl, grown_set _ _ _ _, a, _, c, hp.put1 _, by rw [size_set]; exact rd_set hr (Nat.le_refl _) hp (notU8_slice _ _ _) (notU8_int _) 1 _, hlo⟩

set_option maxRecDepth 100000 in
set_option maxHeartbeats 1000000 in
theorem crash1_any (w : World) {g kb : Nat} {a : Option Addr} {n c : Nat} {bs : List UInt8} {s keep : Int} (hp : PairV w g 24 (.slice a n c) (.int .i64 s)) (hr : Rd w.heap.size w (.slice a n c) bs) (hk : okL bs s) (hb : Boxed w kb 3 (.int .i64 keep)) {lo : Nat} (hlo : BlkGe lo a bs) :
    Calls Try.prog 31 #[.pointer (some ⟨g, 0, none⟩), .pointer (some ⟨kb, 0, none⟩)] w (OwnEnd w g lo (bs.take (keepN bs s keep)) (keepN bs s keep : Nat)) := by
  obtain ⟨rfl, hnc, hcm⟩ := hr.len
  have hkn := keepN_le (keep := keep) hk
  obtain ⟨m, hm⟩ : ∃ m, m = keepN bs s keep := ⟨_, rfl⟩
  rw [← hm] at hkn ⊢
  have hml := hkn.1
  have hmin : (m : Int) = min (max keep s) (bs.length : Int) := by
    have h1 := hkn.2.2
    have h2 := hk.2.2
    split at h1 <;> omega
  replace hmin := Lib.hid hmin
  clear hkn hm hk
  go_enter Try.func31, Try.ntmps31
  go_upto_region 0 with (fail)
  refine wp_region_sink (by kernel_rfl) (by kernel_rfl) (GrK g) 13 (fun i => decide (i < 13)) (by kernel_rfl) (fun A => w.grownBy A (some g)) (fun A h => grown_below' h _) (fun A => grown_refl A _) (fun A B h k => grown_trans h (grown_below' k _)) (fun A B h k => grown_trans h k)
    [mEq (.pointer (some ⟨g, 0, none⟩)), mEq (.int .i64 keep), mEq (.pointer (some ⟨g, 0, none⟩)), mEq (.pointer (some ⟨g, 0, none⟩)), mEq (.pointer (some ⟨g, 1, none⟩)), mEq (.int .i64 s), mEq (.int .i64 (max keep s)), mEq (.pointer (some ⟨g, 0, none⟩)), mEq (.pointer (some ⟨g, 0, none⟩)), mEq (.pointer (some ⟨g, 0, none⟩)), mEq (.slice a bs.length c), mEq (.int .i64 bs.length), mEq (.int .i64 m)]
    ⟨fun w' _ => ∃ a2 c2, PairV w' g 24 (.slice a2 m c2) (.int .i64 s) ∧ Rd w'.heap.size w' (.slice a2 m c2) (bs.take m) ∧ BlkGe lo a2 (bs.take m), fun A v C ⟨a2, c2, h, hr, hl⟩ hb => ⟨a2, c2, h.below hb h.lt, (hr.below hb).mono hb.size, hl⟩⟩
    ⟨?o0, ?o1, ?o2, ?o3, ?o4, ?o5, ?o6, ?o7, ?o8, ?o9, ?o10, ?o11, ?o12, ?o13, trivial⟩ ?fin
  case o0 =>
    refine GdOpM.plain rfl (fun A vs w' hF hT hR h0 hd => ?_)
    have e1 : A.eval (.tmp 0) = .pointer (some ⟨g, 0, none⟩) := hF 0 rfl
    exact BigFrame.wp_move _ rfl ⟨_, rfl, e1, Below.refl _ _⟩
  case o1 =>
    refine GdOpM.plain rfl (fun A vs w' hF hT hR h0 hd => ?_)
    have e1 : A.eval (.tmp 1) = .pointer (some ⟨kb, 0, none⟩) := hF 1 rfl
    exact wp_ld_int (k := .i64) rfl (e1) (by kernel_rfl) ((hb.kept (grown_below' (h0 (.inl rfl)) none) (by simp)).cell) ⟨_, rfl, rfl, Below.refl _ _⟩
  case o2 =>
    refine GdOpM.plain rfl (fun A vs w' hF hT hR h0 hd => ?_)
    have e1 : A.eval (.tmp 0) = .pointer (some ⟨g, 0, none⟩) := hF 0 rfl
    exact BigFrame.wp_move _ rfl ⟨_, rfl, e1, Below.refl _ _⟩
  case o3 =>
    refine GdOpM.plain rfl (fun A vs w' hF hT hR h0 hd => ?_)
    have e1 : A.eval (.tmp 5) = .pointer (some ⟨g, 0, none⟩) := (hT 5 2 (by simp) rfl).trans (hd ⟨2, .data⟩ (by simp) rfl)
    exact wp_nilP rfl (e1) ⟨_, rfl, rfl, Below.refl _ _⟩
  case o4 =>
    refine GdOpM.plain rfl (fun A vs w' hF hT hR h0 hd => ?_)
    have e1 : A.eval (.tmp 6) = .pointer (some ⟨g, 0, none⟩) := (hT 6 3 (by simp) rfl).trans (hd ⟨3, .data⟩ (by simp) rfl)
    exact wp_fieldA logP rfl (e1) (by omega) ⟨_, rfl, rfl, Below.refl _ _⟩
  case o5 =>
    refine GdOpM.plain rfl (fun A vs w' hF hT hR h0 hd => ?_)
    have e1 : A.eval (.tmp 7) = .pointer (some ⟨g, 1, none⟩) := (hT 7 4 (by simp) rfl).trans (hd ⟨4, .data⟩ (by simp) rfl)
    exact wp_ld_int (k := .i64) rfl (e1) (by kernel_rfl) ((hp.below (h0 (.inl rfl)) hp.lt).cell1) ⟨_, rfl, rfl, Below.refl _ _⟩
  case o6 =>
    refine GdOpM.plain rfl (fun A vs w' hF hT hR h0 hd => ?_)
    have e1 : A.eval (.tmp 4) = .int .i64 keep := (hT 4 1 (by simp) rfl).trans (hd ⟨1, .data⟩ (by simp) rfl)
    have e2 : A.eval (.tmp 8) = .int .i64 s := (hT 8 5 (by simp) rfl).trans (hd ⟨5, .data⟩ (by simp) rfl)
    exact wp_maxI rfl (e1) (e2) (rfl) ⟨_, rfl, rfl, Below.refl _ _⟩
  case o7 =>
    refine GdOpM.plain rfl (fun A vs w' hF hT hR h0 hd => ?_)
    have e1 : A.eval (.tmp 0) = .pointer (some ⟨g, 0, none⟩) := hF 0 rfl
    exact BigFrame.wp_move _ rfl ⟨_, rfl, e1, Below.refl _ _⟩
  case o8 =>
    refine GdOpM.plain rfl (fun A vs w' hF hT hR h0 hd => ?_)
    have e1 : A.eval (.tmp 10) = .pointer (some ⟨g, 0, none⟩) := (hT 10 7 (by simp) rfl).trans (hd ⟨7, .data⟩ (by simp) rfl)
    exact wp_nilP rfl (e1) ⟨_, rfl, rfl, Below.refl _ _⟩
  case o9 =>
    refine GdOpM.plain rfl (fun A vs w' hF hT hR h0 hd => ?_)
    have e1 : A.eval (.tmp 11) = .pointer (some ⟨g, 0, none⟩) := (hT 11 8 (by simp) rfl).trans (hd ⟨8, .data⟩ (by simp) rfl)
    exact wp_fieldA logP rfl (e1) (by omega) ⟨_, rfl, rfl, Below.refl _ _⟩
  case o10 =>
    refine GdOpM.plain rfl (fun A vs w' hF hT hR h0 hd => ?_)
    have e1 : A.eval (.tmp 12) = .pointer (some ⟨g, 0, none⟩) := (hT 12 9 (by simp) rfl).trans (hd ⟨9, .data⟩ (by simp) rfl)
    exact wp_ld_slice (e := 5) rfl (e1) (by kernel_rfl) ((hp.below (h0 (.inl rfl)) hp.lt).cell0) ⟨_, rfl, rfl, Below.refl _ _⟩
  case o11 =>
    refine GdOpM.plain rfl (fun A vs w' hF hT hR h0 hd => ?_)
    have e1 : A.eval (.tmp 13) = .slice a bs.length c := (hT 13 10 (by simp) rfl).trans (hd ⟨10, .data⟩ (by simp) rfl)
    exact wp_lenS (e := 5) rfl (by kernel_rfl) (e1) ⟨_, rfl, rfl, Below.refl _ _⟩
  case o12 =>
    refine GdOpM.plain rfl (fun A vs w' hF hT hR h0 hd => ?_)
    have e1 : A.eval (.tmp 9) = .int .i64 (max keep s) := (hT 9 6 (by simp) rfl).trans (hd ⟨6, .data⟩ (by simp) rfl)
    have e2 : A.eval (.tmp 14) = .int .i64 bs.length := (hT 14 11 (by simp) rfl).trans (hd ⟨11, .data⟩ (by simp) rfl)
    exact wp_minI rfl (e1) (e2) (hmin.out) ⟨_, rfl, rfl, Below.refl _ _⟩
  case o13 =>
    refine GdOpM.plain rfl (fun A vs w' hF hT hR h0 hd => ?_)
    have e1 : A.eval (.tmp 3) = .pointer (some ⟨g, 0, none⟩) := (hT 3 0 (by simp) rfl).trans (hd ⟨0, .data⟩ (by simp) rfl)
    have e2 : A.eval (.tmp 15) = .int .i64 m := (hT 15 12 (by simp) rfl).trans (hd ⟨12, .data⟩ (by simp) rfl)
    have hp1 := hp.below (h0 (.inr rfl)) hp.lt
    refine wp_callFn rfl (enters_of Try.func32 (by kernel_rfl) rfl) (args := #[.pointer (some ⟨g, 0, none⟩), .int .i64 m]) (by simp [e1, e2]) ((cut_any w' hp1 (hr.below (h0 (.inr rfl))) m hml).mono ?_)
    rintro e w2 ⟨rfl, a2, c2, rfl, hr2, hbl2⟩
    exact ⟨_, rfl, _, rfl, ⟨a2, c2, hp1.put0 _, by rw [size_set]; exact rd_set (hr2.mono (h0 (.inr rfl)).size) (Nat.le_refl _) hp1 (notU8_slice _ _ _) (notU8_int _) 0 _, hlo.cut hbl2 m⟩, grown_set _ _ _ _⟩
  case fin =>
    intro vs w' hR hG
    obtain ⟨a2, c2, hp2, hr2, hl2⟩ := hG 13 (by decide)
    have e0 : vs 0 = .pointer (some ⟨g, 0, none⟩) := hG 0 (by decide)
    have e1 : vs 1 = .int .i64 keep := hG 1 (by decide)
    have e2 : vs 2 = .pointer (some ⟨g, 0, none⟩) := hG 2 (by decide)
    have e3 : vs 3 = .pointer (some ⟨g, 0, none⟩) := hG 3 (by decide)
    have e4 : vs 4 = .pointer (some ⟨g, 1, none⟩) := hG 4 (by decide)
    have e5 : vs 5 = .int .i64 s := hG 5 (by decide)
    have e6 : vs 6 = .int .i64 (max keep s) := hG 6 (by decide)
    have e7 : vs 7 = .pointer (some ⟨g, 0, none⟩) := hG 7 (by decide)
    have e8 : vs 8 = .pointer (some ⟨g, 0, none⟩) := hG 8 (by decide)
    have e9 : vs 9 = .pointer (some ⟨g, 0, none⟩) := hG 9 (by decide)
    have e10 : vs 10 = .slice a bs.length c := hG 10 (by decide)
    have e11 : vs 11 = .int .i64 bs.length := hG 11 (by decide)
    have e12 : vs 12 = .int .i64 m := hG 12 (by decide)
    simp only [putAll, e0, e1, e2, e3, e4, e5, e6, e7, e8, e9, e10, e11, e12]
    clear hG e0 e1 e2 e3 e4 e5 e6 e7 e8 e9 e10 e11 e12
    go_simp
    have c0 := hp2.cell0
    have c1 := hp2.cell1
    have f1 := hp2.frozen1
    go_wp2
    go_end0
    exact ⟨rfl, grown_trans hR (grown_set _ _ _ _), a2, m, c2, hp2.put1 _, by rw [size_set]; exact rd_set hr2 (Nat.le_refl _) hp2 (notU8_slice _ _ _) (notU8_int _) 1 _, hl2⟩

set_option maxRecDepth 100000 in
set_option maxHeartbeats 1000000 in
theorem trim1_any (w : World) {g : Nat} {a : Option Addr} {n c : Nat} {bs : List UInt8} {s : Int} (hp : PairV w g 24 (.slice a n c) (.int .i64 s)) (hr : Rd w.heap.size w (.slice a n c) bs) (hx : bs.length ≤ 1000000) {lo : Nat} (hlo : BlkGe lo a bs) :
    Calls Try.prog 33 #[.pointer (some ⟨g, 0, none⟩)] w (OwnEnd w g lo (bs.take (wholeN bs)) (min s (wholeN bs : Nat))) := by
  obtain ⟨rfl, hnc, hcm⟩ := hr.len
  have hwl : wholeN bs ≤ bs.length := (textsF_take bs).2
  have ha := all_any w hr (Nat.le_refl _) hx
  unfold AllEnd at ha
  rw [show (framesB (textsF bs)).length = wholeN bs from rfl] at ha
  generalize wholeN bs = m at *
  have c0 := hp.cell0
  go_enter Try.func33, Try.ntmps33
  go_wp2_with fail
  refine ha.mono ?_
  rintro e w1 ⟨a1, c1, rfl, _, hb1⟩
  clear c0 ha
  replace hp := hp.below hb1 hp.lt
  replace hr := (hr.below hb1).mono hb1.size
  go_wp2_with fail
  refine (cut_any w1 hp hr m hwl).mono ?_
  rintro e w2 ⟨rfl, a2, c2, hw2, hr2, hbl2⟩
  have hg2 := grown_set w1 g 0 (.slice a2 m c2)
  have hp2 := hp.put0 (.slice a2 m c2)
  have hr3 := rd_set hr2 (Nat.le_refl _) hp (notU8_slice _ _ _) (notU8_int _) 0 (.slice a2 m c2)
  rw [← size_set w1 ⟨g, 0, none⟩ (.slice a2 m c2)] at hr3
  rw [← hw2] at hg2 hp2 hr3
  clear hw2 hr2 hr hp
  have c0 := hp2.cell0
  have c1 := hp2.cell1
  have f1 := hp2.frozen1
  go_wp2_with (refine wpList_min rfl rfl rfl rfl ?_ rfl)
  go_end0
  exact ⟨rfl, (grown_trans (grown_below' hb1 _) hg2 |> fun h => grown_trans h (grown_set _ _ _ _)), a2, m, c2, hp2.put1 _, by rw [size_set]; exact rd_set hr3 (Nat.le_refl _) hp2 (notU8_slice _ _ _) (notU8_int _) 1 _, hlo.cut hbl2 m⟩
end Go.Proofs.Ytebilecgmblmfaa
