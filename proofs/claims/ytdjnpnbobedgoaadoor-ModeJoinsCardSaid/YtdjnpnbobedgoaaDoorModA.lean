/-
  mode's CONTRACTS: known, Fits, Covers, Join, Above: what they tell of whatever numbers. Fits reads the table of modes: its cells are a premise.
-/
import Derived.WalkKit
import Derived.WalkSpells
import Derived.WalkLawsBesides
import Derived.Deep.Cut
import Derived.Shelf.Abstract
import Derived.Lib.Hide
import Derived.Deep.QuietTactic
import Derived.BigQuiet
import Derived.Test.YtdjnpnbobedgoaaDoorProg
import Derived.Test.YtdjnpnbobedgoaaDoorModM
namespace Go.Proofs.YtdjnpnbobedgoaaDoor
open Go.RowKit
/-- What a call that only reads leaves: its answer, and draws. -/
abbrev Tells (f : FuncId) (args : Array Value) (w : World) (v : Value) : Prop := Calls Tryd.prog f args w fun e w' => e = .returned v ∧ ∃ n, w' = w.drewN n
theorem wrap_i64m {x : Int} (h0 : -9223372036854775808 ≤ x) (h1 : x ≤ 9223372036854775807) : IntKind.i64.wrap x = x := by
  rw [IntKind.wrap_i64]; omega
set_option maxRecDepth 100000 in
theorem known_any (w : World) (a : Int) : Calls Tryd.prog 16 #[.int .i64 a] w fun e w' => e = .returned (.bool (kn a)) ∧ w' = w := by
  by_cases h : 1 ≤ a
  · have h1 : decide (1 ≤ a) = true := by simpa using h
    go_enter Tryd.func16, Tryd.ntmps16
    go_wp2_with fail
    go_ret
    exact ⟨by simp [kn, h], rfl⟩
  · have h1 : decide (1 ≤ a) = false := by simpa using h
    go_enter Tryd.func16, Tryd.ntmps16
    go_wp2_with fail
    go_ret
    exact ⟨by simp [kn]; omega, rfl⟩
set_option maxRecDepth 100000 in
theorem above_any (w : World) (a : Int) : Calls Tryd.prog 14 #[.int .i64 a] w fun e w' => e = .returned (.int .i64 (aboM a)) ∧ w' = w := by
  rcases md_cases a with rfl | rfl | rfl | rfl | rfl | h
  case inr.inr.inr.inr.inr =>
    obtain ⟨h1, h2, h3, h4, h5⟩ := kn_ne h
    have b1 : (a == 1) = false := by simpa using h1
    have b2 : (a == 2) = false := by simpa using h2
    have b3 : (a == 3) = false := by simpa using h3
    have b4 : (a == 4) = false := by simpa using h4
    have b5 : (a == 5) = false := by simpa using h5
    rw [abo_none h]
    clear h h1 h2 h3 h4 h5
    go_enter Tryd.func14, Tryd.ntmps14
    go_wp2_with fail
    go_ret
    exact ⟨rfl, rfl⟩
  all_goals
    go_enter Tryd.func14, Tryd.ntmps14
    go_wp2_with fail
    go_ret
    exact ⟨rfl, rfl⟩
set_option maxRecDepth 100000 in
theorem covers_any (w : World) (a b : Int) : Calls Tryd.prog 10 #[.int .i64 a, .int .i64 b] w fun e w' => e = .returned (.bool (covM a b)) ∧ w' = w := by
  by_cases ha : kn a = true
  case neg =>
    have ha' : kn a = false := by simpa using ha
    rw [cov_none _ ha']
    go_enter Tryd.func10, Tryd.ntmps10
    go_wp2_with fail
    refine (known_any w a).mono ?_
    rintro e w1 ⟨rfl, rfl⟩
    rw [ha']
    go_wp2_with fail
    go_ret
    exact ⟨rfl, rfl⟩
  case pos =>
  by_cases hb : kn b = true
  case neg =>
    have hb' : kn b = false := by simpa using hb
    rw [cov_none2 _ hb']
    go_enter Tryd.func10, Tryd.ntmps10
    go_wp2_with fail
    refine (known_any w a).mono ?_
    rintro e w1 ⟨rfl, rfl⟩
    rw [ha]
    go_wp2_with fail
    refine (known_any w1 b).mono ?_
    rintro e w2 ⟨rfl, rfl⟩
    rw [hb']
    go_wp2_with fail
    go_ret
    exact ⟨rfl, rfl⟩
  case pos =>
  rcases md_cases a with rfl | rfl | rfl | rfl | rfl | h <;> rcases md_cases b with rfl | rfl | rfl | rfl | rfl | h
  all_goals first
    | (exfalso; rw [h] at ha; cases ha)
    | (exfalso; rw [h] at hb; cases hb)
    | skip
  all_goals
    clear ha hb
    go_enter Tryd.func10, Tryd.ntmps10
    go_wp2_with fail
    refine (known_any w _).mono ?_
    rintro e w1 ⟨rfl, rfl⟩
    go_wp2_with fail
    refine (known_any w1 _).mono ?_
    rintro e w2 ⟨rfl, rfl⟩
    go_wp2_with fail
    go_ret
    exact ⟨rfl, rfl⟩
/-- The table of modes lies in the first package-level variable's block, row by row. -/
def TabAt (w : World) : Prop := ∀ a b : Int, kn a = true → kn b = true → w.cell? ⟨0, ((a - 1) * 5 + (b - 1)).toNat, none⟩ = some (.bool (fitM a b))
set_option maxRecDepth 100000 in
theorem fits_any (w : World) (hT : TabAt w) (a b : Int) : Calls Tryd.prog 8 #[.int .i64 a, .int .i64 b] w fun e w' => e = .returned (.bool (fitM a b)) ∧ w' = w := by
  by_cases ha : kn a = true
  case neg =>
    have ha' : kn a = false := by simpa using ha
    rw [fit_none _ ha']
    go_enter Tryd.func8, Tryd.ntmps8
    go_wp2_with fail
    refine (known_any w a).mono ?_
    rintro e w1 ⟨rfl, rfl⟩
    rw [ha']
    go_wp2_with fail
    go_ret
    exact ⟨rfl, rfl⟩
  case pos =>
  by_cases hb : kn b = true
  case neg =>
    have hb' : kn b = false := by simpa using hb
    rw [fit_none2 _ hb']
    go_enter Tryd.func8, Tryd.ntmps8
    go_wp2_with fail
    refine (known_any w a).mono ?_
    rintro e w1 ⟨rfl, rfl⟩
    rw [ha]
    go_wp2_with fail
    refine (known_any w1 b).mono ?_
    rintro e w2 ⟨rfl, rfl⟩
    rw [hb']
    go_wp2_with fail
    go_ret
    exact ⟨rfl, rfl⟩
  case pos =>
  have hc := hT a b ha hb
  clear hT
  rcases md_cases a with rfl | rfl | rfl | rfl | rfl | h <;> rcases md_cases b with rfl | rfl | rfl | rfl | rfl | h
  all_goals first
    | (exfalso; rw [h] at ha; cases ha)
    | (exfalso; rw [h] at hb; cases hb)
    | skip
  all_goals
    clear ha hb
    go_enter Tryd.func8, Tryd.ntmps8
    go_wp2_with fail
    refine (known_any w _).mono ?_
    rintro e w1 ⟨rfl, rfl⟩
    go_wp2_with fail
    refine (known_any w1 _).mono ?_
    rintro e w2 ⟨rfl, rfl⟩
    simp only [Int.reduceSub, Int.reduceMul, Int.reduceAdd, Int.reduceToNat] at hc
    go_wp2_with fail
    go_ret
    exact ⟨rfl, rfl⟩
end Go.Proofs.YtdjnpnbobedgoaaDoor
