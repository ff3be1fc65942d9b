/-
  mode's CONTRACT OF Join, AND THOSE OF THE DOCUMENT's OWN: May, Fits, Covers, Join, Above. No condition.
-/
import Derived.WalkKit
import Derived.WalkSpells
import Derived.WalkLawsBesides
import Derived.Deep.Cut
import Derived.Shelf.Abstract
import Derived.Lib.Hide
import Derived.Deep.QuietTactic
import Derived.BigQuiet
import Derived.Test.YtdjnpnbobedgoaaDoorProg
import Derived.Test.YtdjnpnbobedgoaaDoorModA
namespace Go.Proofs.YtdjnpnbobedgoaaDoor
open Go.RowKit
set_option maxRecDepth 100000 in
theorem join_any (w : World) (a b : Int) : Calls Tryd.prog 12 #[.int .i64 a, .int .i64 b] w fun e w' => e = .returned (.int .i64 (joinM a b)) ∧ w' = w := by
  go_enter Tryd.func12, Tryd.ntmps12
  go_upto_region 2 with (fail)
  go_loopw [7] (fun iv wr => ∃ i : Nat, iv = .int .i64 i ∧ i ≤ 5 ∧ RowKit.Hid (∀ j : Nat, j < i → (covM ((j : Int) + 1) a && covM ((j : Int) + 1) b) = false) ∧ wr = w) (fun i _ => 5 - (intOf i).toNat)
  case atStart => exact ⟨0, rfl, by omega, Lib.hid (fun j h => absurd h (by omega)), rfl⟩
  case round =>
    obtain ⟨i, rfl, hil, hno, rfl⟩ := hrel
    rcases Nat.lt_or_ge i 5 with hlt | hge
    · have d1 : decide ((i : Int) < 5) = true := by simp; omega
      have d0 : ((i : Int) < 5) = True := by simp; omega
      have w0 : IntKind.i64.wrap (1 + (i : Int)) = (i : Int) + 1 := by rw [wrap_i64m (by omega) (by omega)]; omega
      cases ha : covM ((i : Int) + 1) a
      · have H := Lib.hid (show ∀ j : Nat, j < i + 1 → (covM ((j : Int) + 1) a && covM ((j : Int) + 1) b) = false from fun j hj => by
          rcases Nat.lt_or_ge j i with h | h
          · exact hno.out j h
          · obtain rfl : j = i := by omega
            simp [ha])
        go_wp2_with fail
        refine (covers_any wr _ a).mono ?_
        rintro e w1 ⟨rfl, rfl⟩
        rw [ha]
        clear ha
        go_wp2_with fail
        go_roundw
        case rel => exact ⟨i + 1, by go_num, by omega, H, trivial⟩
        case measure => simp [intOf]; omega
      · cases hb : covM ((i : Int) + 1) b
        · have H := Lib.hid (show ∀ j : Nat, j < i + 1 → (covM ((j : Int) + 1) a && covM ((j : Int) + 1) b) = false from fun j hj => by
            rcases Nat.lt_or_ge j i with h | h
            · exact hno.out j h
            · obtain rfl : j = i := by omega
              simp [hb])
          go_wp2_with fail
          refine (covers_any wr _ a).mono ?_
          rintro e w1 ⟨rfl, rfl⟩
          rw [ha]
          go_wp2_with fail
          refine (covers_any w1 _ b).mono ?_
          rintro e w2 ⟨rfl, rfl⟩
          rw [hb]
          clear ha hb
          go_wp2_with fail
          go_roundw
          case rel => exact ⟨i + 1, by go_num, by omega, H, trivial⟩
          case measure => simp [intOf]; omega
        · have H := Lib.hid (show joinM a b = (i : Int) + 1 from join_at i hlt hno.out ha hb)
          go_wp2_with fail
          refine (covers_any wr _ a).mono ?_
          rintro e w1 ⟨rfl, rfl⟩
          rw [ha]
          go_wp2_with fail
          refine (covers_any w1 _ b).mono ?_
          rintro e w2 ⟨rfl, rfl⟩
          rw [hb]
          clear ha hb
          go_wp2_with fail
          go_ret
          exact ⟨by rw [H.out]; rfl, rfl⟩
    · obtain h5 : i = 5 := by omega
      have H := Lib.hid (show joinM a b = 0 from join_no (h5 ▸ hno.out))
      have d1 : decide ((i : Int) < 5) = false := by simp; omega
      have d0 : ((i : Int) < 5) = False := by simp; omega
      clear h5 hge
      go_wp2_with fail
      go_ret
      exact ⟨by rw [H.out]; rfl, rfl⟩
set_option maxRecDepth 100000 in
theorem may_any (w : World) (a : Int) : Calls Tryd.prog 17 #[.int .i64 a] w fun e w' => e = .returned (.int .i64 (mayM a)) ∧ w' = w := by
  rcases md_cases a with rfl | rfl | rfl | rfl | rfl | h
  case inr.inr.inr.inr.inr =>
    obtain ⟨h1, h2, h3, h4, h5⟩ := kn_ne h
    have b1 : (a == 1) = false := by simpa using h1
    have b2 : (a == 2) = false := by simpa using h2
    have b3 : (a == 3) = false := by simpa using h3
    have b4 : (a == 4) = false := by simpa using h4
    have b5 : (a == 5) = false := by simpa using h5
    rw [may_none h]
    clear h h1 h2 h3 h4 h5
    go_enter Tryd.func17, Tryd.ntmps17
    go_wp2_with fail
    go_ret
    exact ⟨rfl, rfl⟩
  all_goals
    go_enter Tryd.func17, Tryd.ntmps17
    go_wp2_with fail
    go_ret
    exact ⟨rfl, rfl⟩
set_option maxRecDepth 100000 in
set_option maxHeartbeats 4000000 in
theorem refAbove_any (w : World) (a : Int) : Calls Tryd.prog 15 #[.int .i64 a] w fun e w' => e = .returned (.int .i64 (aboM a)) ∧ w' = w := by
  rcases md_cases a with rfl | rfl | rfl | rfl | rfl | h
  case inr.inr.inr.inr.inr =>
    have hm := may_none h
    rw [abo_none h]
    clear h
    go_enter Tryd.func15, Tryd.ntmps15
    go_wp2_with fail
    refine (may_any w a).mono ?_
    rintro e w1 ⟨rfl, rfl⟩
    rw [hm]
    go_wp2_with fail
    go_ret
    exact ⟨rfl, rfl⟩
  all_goals
    go_enter Tryd.func15, Tryd.ntmps15
    go_wp2_with fail
    refine (may_any w _).mono ?_
    rintro e w1 ⟨rfl, rfl⟩
    simp only [mayM]
    go_wp2_with fail
    refine (may_any w1 _).mono ?_
    rintro e w1 ⟨rfl, rfl⟩
    simp only [mayM]
    go_wp2_with fail
    go_ret
    exact ⟨rfl, rfl⟩
set_option maxRecDepth 100000 in
set_option maxHeartbeats 4000000 in
theorem refCovers_any (w : World) (a b : Int) : Calls Tryd.prog 11 #[.int .i64 a, .int .i64 b] w fun e w' => e = .returned (.bool (covM a b)) ∧ w' = w := by
  rcases md_cases a with rfl | rfl | rfl | rfl | rfl | h
  case inr.inr.inr.inr.inr =>
    have hm := may_none h
    rw [cov_none _ h]
    clear h
    go_enter Tryd.func11, Tryd.ntmps11
    go_wp2_with fail
    refine (may_any w a).mono ?_
    rintro e w1 ⟨rfl, rfl⟩
    rw [hm]
    go_wp2_with fail
    refine (may_any w1 b).mono ?_
    rintro e w2 ⟨rfl, rfl⟩
    clear hm
    go_wp2_with fail
    go_ret
    exact ⟨rfl, rfl⟩
  all_goals rcases md_cases b with rfl | rfl | rfl | rfl | rfl | h
  case inr.inr.inr.inr.inr | inr.inr.inr.inr.inr | inr.inr.inr.inr.inr | inr.inr.inr.inr.inr | inr.inr.inr.inr.inr =>
    have hm := may_none h
    rw [cov_none2 _ h]
    clear h
    go_enter Tryd.func11, Tryd.ntmps11
    go_wp2_with fail
    refine (may_any w _).mono ?_
    rintro e w1 ⟨rfl, rfl⟩
    simp only [mayM]
    go_wp2_with fail
    refine (may_any w1 b).mono ?_
    rintro e w2 ⟨rfl, rfl⟩
    rw [hm]
    go_wp2_with fail
    go_ret
    exact ⟨rfl, rfl⟩
  all_goals
    go_enter Tryd.func11, Tryd.ntmps11
    go_wp2_with fail
    refine (may_any w _).mono ?_
    rintro e w1 ⟨rfl, rfl⟩
    simp only [mayM]
    go_wp2_with fail
    refine (may_any w1 _).mono ?_
    rintro e w2 ⟨rfl, rfl⟩
    simp only [mayM]
    go_wp2_with fail
    go_ret
    exact ⟨rfl, rfl⟩
set_option maxRecDepth 100000 in
set_option maxHeartbeats 4000000 in
theorem refFits_any (w : World) (a b : Int) : Calls Tryd.prog 9 #[.int .i64 a, .int .i64 b] w fun e w' => e = .returned (.bool (fitM a b)) ∧ w' = w := by
  rcases md_cases a with rfl | rfl | rfl | rfl | rfl | h
  case inr.inr.inr.inr.inr =>
    have hm := may_none h
    rw [fit_none _ h]
    clear h
    go_enter Tryd.func9, Tryd.ntmps9
    go_wp2_with fail
    refine (may_any w a).mono ?_
    rintro e w1 ⟨rfl, rfl⟩
    rw [hm]
    go_wp2_with fail
    refine (may_any w1 b).mono ?_
    rintro e w2 ⟨rfl, rfl⟩
    clear hm
    go_wp2_with fail
    go_ret
    exact ⟨rfl, rfl⟩
  all_goals rcases md_cases b with rfl | rfl | rfl | rfl | rfl | h
  case inr.inr.inr.inr.inr | inr.inr.inr.inr.inr | inr.inr.inr.inr.inr | inr.inr.inr.inr.inr | inr.inr.inr.inr.inr =>
    have hm := may_none h
    rw [fit_none2 _ h]
    clear h
    go_enter Tryd.func9, Tryd.ntmps9
    go_wp2_with fail
    refine (may_any w _).mono ?_
    rintro e w1 ⟨rfl, rfl⟩
    simp only [mayM]
    go_wp2_with fail
    refine (may_any w1 b).mono ?_
    rintro e w2 ⟨rfl, rfl⟩
    rw [hm]
    go_wp2_with fail
    go_ret
    exact ⟨rfl, rfl⟩
  all_goals
    go_enter Tryd.func9, Tryd.ntmps9
    go_wp2_with fail
    refine (may_any w _).mono ?_
    rintro e w1 ⟨rfl, rfl⟩
    simp only [mayM]
    go_wp2_with fail
    refine (may_any w1 _).mono ?_
    rintro e w2 ⟨rfl, rfl⟩
    simp only [mayM]
    go_wp2_with fail
    go_ret
    exact ⟨rfl, rfl⟩
end Go.Proofs.YtdjnpnbobedgoaaDoor
