/-
  THE WALKS OF frame's Write AND Read. Slices of at most a million bytes.
-/
import Derived.WalkKit
import Derived.WalkSpells
import Derived.WalkLawsBesides
import Derived.Lib.Hide
import Derived.Test.YtebilecgmblmfaaProg
import Derived.Test.YtebilecgmblmfaaByte
import Derived.Test.YtebilecgmblmfaaAux
import Derived.Test.YtebilecgmblmfaaOctB
import Derived.Test.YtebilecgmblmfaaOctE
import Derived.Test.YtebilecgmblmfaaFrmB
namespace Go.Proofs.Ytebilecgmblmfaa
open Go.RowKit

/-- The error of Read. -/
def errF (b : List UInt8) : Nat := if readF b = none then 30 else 0
theorem errF_none {b : List UInt8} (h : readF b = none) : errF b = 30 := by simp [errF, h]
theorem errF_some {b ts : List UInt8} (h : readF b = some ts) : errF b = 0 := by simp [errF, h]
/-- What Read hands back, in new memory. -/
def ReadEnd (w : World) (xs : List UInt8) (e : Ending) (w' : World) : Prop :=
  ∃ ad k c, e = .returned (.tuple #[.slice ad k c, .int .i64 (sizeF xs : Nat), .int .i64 (errF xs : Nat)]) ∧ Rd w'.heap.size w' (.slice ad k c) (headF xs) ∧ Below w.heap.size w w'
theorem ReadEnd.no {w w' : World} {xs : List UInt8} (h : readF xs = none) (hb : Below w.heap.size w w') : ReadEnd w xs (.returned (.tuple #[.slice none 0 0, .int .i64 0, .int .i64 30])) w' :=
  ⟨none, 0, 0, by rw [(headF_none h).2, errF_none h]; rfl, by rw [(headF_none h).1]; exact Rd.nil _ _, hb⟩
theorem sizeF_zero {xs : List UInt8} : sizeF xs = 0 ↔ readF xs = none := by
  unfold sizeF
  cases h : readF xs with
  | none => simp
  | some ts => have := (readF_len h).2.1; simp; intro e; simp [e] at this

set_option maxRecDepth 100000 in
set_option maxHeartbeats 1000000 in
theorem write_yes (w : World) {B : Nat} {ad : Option Addr} {n c : Nat} {ts : List UInt8} (hr : Rd B w (.slice ad n c) ts) (hB : B ≤ w.heap.size) (hx : ts.length ≤ 2000) :
    Calls Try.prog 37 #[.slice ad n c] w fun e w' => ∃ ad' k c', e = .returned (.tuple #[.slice ad' k c', .int .i64 0]) ∧ Fresh 5 w w' (.slice ad' k c') (frameB ts) := by
  obtain ⟨rfl, hnc, hcm⟩ := hr.len
  have d1 : decide ((2000 : Int) < ts.length) = false := by simp; omega
  have ht := text_yes w (Rd.nil B w) hr hB (by simp) (by omega)
  have hl := frameB_len ts
  have h5 := numB_len5 ts.length (by omega)
  go_enter Try.func37, Try.ntmps37
  go_wp2_with (first
    | (go_at_call 42; refine ht.mono ?_; rintro e w1 ⟨ad1, k1, c1, rfl, hF⟩)
    | (go_at_call 43; refine (tail_any _ (hr.below (hF.1.mono hB)) (Nat.le_trans hB hF.1.size)).mono ?_; rintro e w2 ⟨ad2, k2, c2, rfl, hF2⟩)
    | (at_builtin; refine wpList_append byP rfl rfl rfl (hF.2.below hF2.1) rfl hF2.rd (Nat.le_trans hF.1.size hF2.1.size) ?_ ?hlen; intro ad3 k3 c3 w3 hO3 hg3 hb3))
  case hlen => simp [textB, sumB_len]; omega
  go_ret2
  exact ⟨ad3, k3, c3, rfl, (hF.1.trans (hF2.1.mono hF.1.size)).trans hb3, by simpa [frameB] using hO3⟩

set_option maxRecDepth 100000 in
set_option maxHeartbeats 1000000 in
theorem write_no (w : World) {B : Nat} {ad : Option Addr} {n c : Nat} {ts : List UInt8} (hr : Rd B w (.slice ad n c) ts) (hB : B ≤ w.heap.size) (hx : 2000 < ts.length) :
    Calls Try.prog 37 #[.slice ad n c] w fun e w' => e = .returned (.tuple #[.slice none 0 0, .int .i64 30]) ∧ Below w.heap.size w w' := by
  obtain ⟨rfl, hnc, hcm⟩ := hr.len
  have hlm : ts.length ≤ 9223372036854775807 := by unfold maxLen at hcm; omega
  have d1 : decide ((2000 : Int) < ts.length) = true := by simp; omega
  by_cases h : 65535 < ts.length
  · go_enter Try.func37, Try.ntmps37
    go_wp2_with (go_at_call 42; refine (text_no _ _ h hlm).mono ?_; rintro e w1 ⟨rfl, rfl⟩)
    go_ret2
    exact ⟨rfl, Below.refl _ _⟩
  · have ht := text_yes w (Rd.nil B w) hr hB (by simp) (by omega)
    clear h
    go_enter Try.func37, Try.ntmps37
    go_wp2_with (go_at_call 42; refine ht.mono ?_; rintro e w1 ⟨ad1, k1, c1, rfl, hF⟩)
    go_ret2
    exact ⟨rfl, hF.1⟩
end Go.Proofs.Ytebilecgmblmfaa
