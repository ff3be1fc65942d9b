/-
  THE WALKS OF frame's Write AND Read. Slices of at most a million bytes.
-/
import Derived.WalkKit
import Derived.WalkSpells
import Derived.WalkLawsBesides
import Derived.Lib.Hide
import Derived.Test.YtppfedpocpadeaaProg
import Derived.Test.YtppfedpocpadeaaByte
import Derived.Test.YtppfedpocpadeaaAux
import Derived.Test.YtppfedpocpadeaaOctB
import Derived.Test.YtppfedpocpadeaaOctE
import Derived.Test.YtppfedpocpadeaaFrmB
namespace Go.Proofs.Ytppfedpocpadeaa
open Go.RowKit

/-- The error of Read. -/
def errF (b : List UInt8) : Nat := if readF b = none then 30 else 0
theorem errF_none {b : List UInt8} (h : readF b = none) : errF b = 30 := by simp [errF, h]
theorem errF_some {b ts : List UInt8} (h : readF b = some ts) : errF b = 0 := by simp [errF, h]
/-- What Read hands back, in new memory. -/
def ReadEnd (w : World) (xs : List UInt8) (e : Ending) (w' : World) : Prop :=
  ∃ ad k c, e = .returned (.tuple #[.slice ad k c, .int .i64 (sizeF xs : Nat), .int .i64 (errF xs : Nat)]) ∧ Rd w'.heap.size w' (.slice ad k c) (headF xs) ∧ Below w.heap.size w w'
theorem ReadEnd.no {w w' : World} {xs : List UInt8} (h : readF xs = none) (hb : Below w.heap.size w w') : ReadEnd w xs (.returned (.tuple #[.slice none 0 0, .int .i64 0, .int .i64 30])) w' :=
  ⟨none, 0, 0, by rw [(headF_none h).2, errF_none h]; rfl, by rw [(headF_none h).1]; exact Rd.nil _ _, hb⟩
theorem sizeF_zero {xs : List UInt8} : sizeF xs = 0 ↔ readF xs = none := by
  unfold sizeF
  cases h : readF xs with
  | none => simp
  | some ts => have := (readF_len h).2.1; simp; intro e; simp [e] at this

set_option maxRecDepth 100000 in
set_option maxHeartbeats 1000000 in
theorem read_any (w : World) {B : Nat} {ad : Option Addr} {n c : Nat} {xs : List UInt8} (hr : Rd B w (.slice ad n c) xs) (hB : B ≤ w.heap.size) :
    Calls Try.prog 11 #[.slice ad n c] w (ReadEnd w xs) := by
  obtain ⟨rfl, hnc, hcm⟩ := hr.len
  have hlm : xs.length ≤ 9223372036854775807 := by unfold maxLen at hcm; omega
  obtain ⟨m2, hm2, h22⟩ : ∃ m2, m2 = min xs.length 2006 ∧ m2 ≤ 2006 := ⟨_, rfl, by omega⟩
  have e2 : xs.take m2 = xs.take 2006 := by rw [hm2, Nat.min_comm]; exact List.take_eq_take_min.symm
  have hl2 : (xs.take 2006).length ≤ 1000000 := by simp; omega
  have hrd := readF_max xs 2006 (Nat.le_refl _)
  have hsz : sizeF (xs.take 2006) = sizeF xs := by unfold sizeF; rw [hrd]
  have hhd : headF (xs.take 2006) = headF xs := by unfold headF; rw [hrd]
  have hh := fun (w' : World) (B : Nat) (a' : Option Addr) (k' c' : Nat) (hr' : Rd B w' (.slice a' k' c') (xs.take 2006)) (hB' : B ≤ w'.heap.size) => head_any w' hr' hB' hl2
  unfold HeadEnd at hh
  rw [hsz, hhd] at hh
  have hC : ((xs.length : Int) ≤ 2006 ∧ min (xs.length : Int) 2006 = xs.length ∧ m2 = xs.length) ∨ (¬ (xs.length : Int) ≤ 2006 ∧ min (xs.length : Int) 2006 = 2006 ∧ m2 = 2006) := by omega
  have h0 : sizeF xs = 0 ↔ readF xs = none := sizeF_zero
  obtain ⟨sz, es⟩ : ∃ sz, sz = sizeF xs := ⟨_, rfl⟩
  obtain ⟨hd, ehd⟩ : ∃ hd, hd = headF xs := ⟨_, rfl⟩
  rw [← es] at hh h0
  rw [← ehd] at hh
  have ES := Lib.hid es
  have EH := Lib.hid ehd
  clear es ehd hrd hsz hhd
  by_cases hz : sz = 0
  · have hno := Lib.hid (h0.1 hz)
    subst hz
    clear h0
    rcases hC with ⟨hle, hmi, hm⟩ | ⟨hle, hmi, hm⟩
    all_goals
      go_enter Try.func11, Try.ntmps11
      go_wp2_with (first
        | (refine wpList_slice byP rfl rfl rfl hr (run_bounds_h' _ (h := m2) (by omega) (by omega)) ?_ (by omega) (by omega); intro ad' k' c' hr2)
        | (go_at_call 22; rw [List.drop_zero, Nat.sub_zero, e2] at hr2; refine (clone_any _ hr2 hB hl2).mono ?_; rintro e w1 ⟨ad1, k1, c1, rfl, hF⟩)
        | (go_at_call 21; refine (hh _ _ _ _ _ hF.rd (Nat.le_refl _)).mono ?_; rintro e w2 ⟨ad2, k2, c2, rfl, hr3, hb2, _⟩))
      go_ret3
      exact ReadEnd.no hno.out (hF.1.trans (hb2.mono hF.1.size))
  · have hne : ((sz : Int) == 0) = false := by simp; omega
    have he : errF xs = 0 := by unfold errF; rw [if_neg (fun h => hz (h0.2 h))]
    have HE := Lib.hid he
    clear h0 hz he
    rcases hC with ⟨hle, hmi, hm⟩ | ⟨hle, hmi, hm⟩
    all_goals
      go_enter Try.func11, Try.ntmps11
      go_wp2_with (first
        | (refine wpList_slice byP rfl rfl rfl hr (run_bounds_h' _ (h := m2) (by omega) (by omega)) ?_ (by omega) (by omega); intro ad' k' c' hr2)
        | (go_at_call 22; rw [List.drop_zero, Nat.sub_zero, e2] at hr2; refine (clone_any _ hr2 hB hl2).mono ?_; rintro e w1 ⟨ad1, k1, c1, rfl, hF⟩)
        | (go_at_call 21; refine (hh _ _ _ _ _ hF.rd (Nat.le_refl _)).mono ?_; rintro e w2 ⟨ad2, k2, c2, rfl, hr3, hb2, _⟩))
      go_ret3
      exact ⟨ad2, k2, c2, by rw [← ES.out, HE.out]; rfl, by rw [← EH.out]; exact hr3.mono hb2.size, hF.1.trans (hb2.mono hF.1.size)⟩

set_option maxRecDepth 100000 in
set_option maxHeartbeats 1000000 in
theorem write_yes (w : World) {B : Nat} {ad : Option Addr} {n c : Nat} {ts : List UInt8} (hr : Rd B w (.slice ad n c) ts) (hB : B ≤ w.heap.size) (hx : ts.length ≤ 2000) :
    Calls Try.prog 9 #[.slice ad n c] w fun e w' => ∃ ad' k c', e = .returned (.tuple #[.slice ad' k c', .int .i64 0]) ∧ Fresh 5 w w' (.slice ad' k c') (frameB ts) := by
  obtain ⟨rfl, hnc, hcm⟩ := hr.len
  have d1 : decide ((2000 : Int) < ts.length) = false := by simp; omega
  have ht := text_yes w (Rd.nil B w) hr hB (by simp) (by omega)
  have hl := frameB_len ts
  have h5 := numB_len5 ts.length (by omega)
  go_enter Try.func9, Try.ntmps9
  go_wp2_with (first
    | (go_at_call 17; refine ht.mono ?_; rintro e w1 ⟨ad1, k1, c1, rfl, hF⟩)
    | (go_at_call 18; refine (tail_any _ (hr.below (hF.1.mono hB)) (Nat.le_trans hB hF.1.size)).mono ?_; rintro e w2 ⟨ad2, k2, c2, rfl, hF2⟩)
    | (at_builtin; refine wpList_append byP rfl rfl rfl (hF.2.below hF2.1) rfl hF2.rd (Nat.le_trans hF.1.size hF2.1.size) ?_ ?hlen; intro ad3 k3 c3 w3 hO3 hg3 hb3))
  case hlen => simp [textB, sumB_len]; omega
  go_ret2
  exact ⟨ad3, k3, c3, rfl, (hF.1.trans (hF2.1.mono hF.1.size)).trans hb3, by simpa [frameB] using hO3⟩

set_option maxRecDepth 100000 in
set_option maxHeartbeats 1000000 in
theorem write_no (w : World) {B : Nat} {ad : Option Addr} {n c : Nat} {ts : List UInt8} (hr : Rd B w (.slice ad n c) ts) (hB : B ≤ w.heap.size) (hx : 2000 < ts.length) :
    Calls Try.prog 9 #[.slice ad n c] w fun e w' => e = .returned (.tuple #[.slice none 0 0, .int .i64 30]) ∧ Below w.heap.size w w' := by
  obtain ⟨rfl, hnc, hcm⟩ := hr.len
  have hlm : ts.length ≤ 9223372036854775807 := by unfold maxLen at hcm; omega
  have d1 : decide ((2000 : Int) < ts.length) = true := by simp; omega
  by_cases h : 65535 < ts.length
  · go_enter Try.func9, Try.ntmps9
    go_wp2_with (go_at_call 17; refine (text_no _ _ h hlm).mono ?_; rintro e w1 ⟨rfl, rfl⟩)
    go_ret2
    exact ⟨rfl, Below.refl _ _⟩
  · have ht := text_yes w (Rd.nil B w) hr hB (by simp) (by omega)
    clear h
    go_enter Try.func9, Try.ntmps9
    go_wp2_with (go_at_call 17; refine ht.mono ?_; rintro e w1 ⟨ad1, k1, c1, rfl, hF⟩)
    go_ret2
    exact ⟨rfl, hF.1⟩
end Go.Proofs.Ytppfedpocpadeaa
