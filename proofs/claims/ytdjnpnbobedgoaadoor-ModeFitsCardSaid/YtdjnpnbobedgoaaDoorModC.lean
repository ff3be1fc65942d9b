/-
  THE DOCUMENT's Join OF MODES: what it tells of whatever numbers. No condition.
-/
import Derived.WalkKit
import Derived.WalkSpells
import Derived.WalkLawsBesides
import Derived.Deep.Cut
import Derived.Shelf.Abstract
import Derived.Lib.Hide
import Derived.Deep.QuietTactic
import Derived.BigQuiet
import Derived.Test.YtdjnpnbobedgoaaDoorProg
import Derived.Test.YtdjnpnbobedgoaaDoorModB
namespace Go.Proofs.YtdjnpnbobedgoaaDoor
open Go.RowKit
/-- The document's Join of two modes that are known: one case. -/
def JoinAt (a b : Int) : Prop := ∀ w : World, Calls Tryd.prog 13 #[.int .i64 a, .int .i64 b] w fun e w' => e = .returned (.int .i64 (joinM a b)) ∧ w' = w
set_option maxRecDepth 100000 in
theorem refJoin_none (w : World) (a b : Int) (h : kn a = false) : Calls Tryd.prog 13 #[.int .i64 a, .int .i64 b] w fun e w' => e = .returned (.int .i64 (joinM a b)) ∧ w' = w := by
    have hm := may_none h
    rw [join_none _ h]
    clear h
    go_enter Tryd.func13, Tryd.ntmps13
    go_wp2_with fail
    refine (may_any w a).mono ?_
    rintro e w1 ⟨rfl, rfl⟩
    rw [hm]
    go_wp2_with fail
    go_ret
    exact ⟨rfl, rfl⟩
set_option maxRecDepth 100000 in
set_option maxHeartbeats 4000000 in
theorem refJoin_none2 (w : World) (a b : Int) (h : kn b = false) : Calls Tryd.prog 13 #[.int .i64 a, .int .i64 b] w fun e w' => e = .returned (.int .i64 (joinM a b)) ∧ w' = w := by
  have hm := may_none h
  rw [join_none2 _ h]
  clear h
  rcases md_cases a with rfl | rfl | rfl | rfl | rfl | h
  case inr.inr.inr.inr.inr =>
    have hm2 := may_none h
    clear h
    go_enter Tryd.func13, Tryd.ntmps13
    go_wp2_with fail
    refine (may_any w a).mono ?_
    rintro e w1 ⟨rfl, rfl⟩
    rw [hm2]
    go_wp2_with fail
    go_ret
    exact ⟨rfl, rfl⟩
  all_goals
    go_enter Tryd.func13, Tryd.ntmps13
    go_wp2_with fail
    refine (may_any w _).mono ?_
    rintro e w1 ⟨rfl, rfl⟩
    simp only [mayM]
    go_wp2_with fail
    refine (may_any w1 b).mono ?_
    rintro e w2 ⟨rfl, rfl⟩
    rw [hm]
    go_wp2_with fail
    go_ret
    exact ⟨rfl, rfl⟩
set_option maxRecDepth 100000 in
set_option maxHeartbeats 4000000 in
theorem refJoin_11 : JoinAt 1 1 := by
    intro w
    go_enter Tryd.func13, Tryd.ntmps13
    go_wp2_with fail
    refine (may_any w _).mono ?_
    rintro e w1 ⟨rfl, rfl⟩
    simp only [mayM]
    go_wp2_with fail
    refine (may_any w1 _).mono ?_
    rintro e w2 ⟨rfl, rfl⟩
    simp only [mayM]
    go_upto_region 4 with (fail)
    go_loopw [5] (fun iv wr => ∃ i : Int, iv = .int .i64 i ∧ 1 ≤ i ∧ i ≤ joinM 1 1 ∧ wr = w2) (fun i _ => 6 - (intOf i).toNat)
    case atStart => exact ⟨1, rfl, by decide, by decide, rfl⟩
    case round =>
      obtain ⟨i, rfl, h1, h2, rfl⟩ := hrel
      have h3 : i ≤ 5 := Int.le_trans h2 (by decide)
      rcases (show i = 1 ∨ i = 2 ∨ i = 3 ∨ i = 4 ∨ i = 5 by omega) with rfl | rfl | rfl | rfl | rfl
      all_goals first
        | (exfalso; revert h2; decide)
        | (clear h1 h2 h3
           go_wp2_with fail
           refine (may_any wr _).mono ?_
           rintro e w3 ⟨rfl, rfl⟩
           simp only [mayM]
           go_wp2_with fail
           refine (may_any w3 _).mono ?_
           rintro e w4 ⟨rfl, rfl⟩
           simp only [mayM]
           go_wp2_with fail
           refine (may_any w4 _).mono ?_
           rintro e w5 ⟨rfl, rfl⟩
           simp only [mayM]
           go_wp2_with fail
           first
             | (go_ret; exact ⟨rfl, rfl⟩)
             | (go_roundw
                case rel => exact ⟨_, by go_num, by decide, by decide, trivial⟩
                case measure => simp [intOf]))
set_option maxRecDepth 100000 in
set_option maxHeartbeats 4000000 in
theorem refJoin_12 : JoinAt 1 2 := by
    intro w
    go_enter Tryd.func13, Tryd.ntmps13
    go_wp2_with fail
    refine (may_any w _).mono ?_
    rintro e w1 ⟨rfl, rfl⟩
    simp only [mayM]
    go_wp2_with fail
    refine (may_any w1 _).mono ?_
    rintro e w2 ⟨rfl, rfl⟩
    simp only [mayM]
    go_upto_region 4 with (fail)
    go_loopw [5] (fun iv wr => ∃ i : Int, iv = .int .i64 i ∧ 1 ≤ i ∧ i ≤ joinM 1 2 ∧ wr = w2) (fun i _ => 6 - (intOf i).toNat)
    case atStart => exact ⟨1, rfl, by decide, by decide, rfl⟩
    case round =>
      obtain ⟨i, rfl, h1, h2, rfl⟩ := hrel
      have h3 : i ≤ 5 := Int.le_trans h2 (by decide)
      rcases (show i = 1 ∨ i = 2 ∨ i = 3 ∨ i = 4 ∨ i = 5 by omega) with rfl | rfl | rfl | rfl | rfl
      all_goals first
        | (exfalso; revert h2; decide)
        | (clear h1 h2 h3
           go_wp2_with fail
           refine (may_any wr _).mono ?_
           rintro e w3 ⟨rfl, rfl⟩
           simp only [mayM]
           go_wp2_with fail
           refine (may_any w3 _).mono ?_
           rintro e w4 ⟨rfl, rfl⟩
           simp only [mayM]
           go_wp2_with fail
           refine (may_any w4 _).mono ?_
           rintro e w5 ⟨rfl, rfl⟩
           simp only [mayM]
           go_wp2_with fail
           first
             | (go_ret; exact ⟨rfl, rfl⟩)
             | (go_roundw
                case rel => exact ⟨_, by go_num, by decide, by decide, trivial⟩
                case measure => simp [intOf]))
set_option maxRecDepth 100000 in
set_option maxHeartbeats 4000000 in
theorem refJoin_13 : JoinAt 1 3 := by
    intro w
    go_enter Tryd.func13, Tryd.ntmps13
    go_wp2_with fail
    refine (may_any w _).mono ?_
    rintro e w1 ⟨rfl, rfl⟩
    simp only [mayM]
    go_wp2_with fail
    refine (may_any w1 _).mono ?_
    rintro e w2 ⟨rfl, rfl⟩
    simp only [mayM]
    go_upto_region 4 with (fail)
    go_loopw [5] (fun iv wr => ∃ i : Int, iv = .int .i64 i ∧ 1 ≤ i ∧ i ≤ joinM 1 3 ∧ wr = w2) (fun i _ => 6 - (intOf i).toNat)
    case atStart => exact ⟨1, rfl, by decide, by decide, rfl⟩
    case round =>
      obtain ⟨i, rfl, h1, h2, rfl⟩ := hrel
      have h3 : i ≤ 5 := Int.le_trans h2 (by decide)
      rcases (show i = 1 ∨ i = 2 ∨ i = 3 ∨ i = 4 ∨ i = 5 by omega) with rfl | rfl | rfl | rfl | rfl
      all_goals first
        | (exfalso; revert h2; decide)
        | (clear h1 h2 h3
           go_wp2_with fail
           refine (may_any wr _).mono ?_
           rintro e w3 ⟨rfl, rfl⟩
           simp only [mayM]
           go_wp2_with fail
           refine (may_any w3 _).mono ?_
           rintro e w4 ⟨rfl, rfl⟩
           simp only [mayM]
           go_wp2_with fail
           refine (may_any w4 _).mono ?_
           rintro e w5 ⟨rfl, rfl⟩
           simp only [mayM]
           go_wp2_with fail
           first
             | (go_ret; exact ⟨rfl, rfl⟩)
             | (go_roundw
                case rel => exact ⟨_, by go_num, by decide, by decide, trivial⟩
                case measure => simp [intOf]))
set_option maxRecDepth 100000 in
set_option maxHeartbeats 4000000 in
theorem refJoin_14 : JoinAt 1 4 := by
    intro w
    go_enter Tryd.func13, Tryd.ntmps13
    go_wp2_with fail
    refine (may_any w _).mono ?_
    rintro e w1 ⟨rfl, rfl⟩
    simp only [mayM]
    go_wp2_with fail
    refine (may_any w1 _).mono ?_
    rintro e w2 ⟨rfl, rfl⟩
    simp only [mayM]
    go_upto_region 4 with (fail)
    go_loopw [5] (fun iv wr => ∃ i : Int, iv = .int .i64 i ∧ 1 ≤ i ∧ i ≤ joinM 1 4 ∧ wr = w2) (fun i _ => 6 - (intOf i).toNat)
    case atStart => exact ⟨1, rfl, by decide, by decide, rfl⟩
    case round =>
      obtain ⟨i, rfl, h1, h2, rfl⟩ := hrel
      have h3 : i ≤ 5 := Int.le_trans h2 (by decide)
      rcases (show i = 1 ∨ i = 2 ∨ i = 3 ∨ i = 4 ∨ i = 5 by omega) with rfl | rfl | rfl | rfl | rfl
      all_goals first
        | (exfalso; revert h2; decide)
        | (clear h1 h2 h3
           go_wp2_with fail
           refine (may_any wr _).mono ?_
           rintro e w3 ⟨rfl, rfl⟩
           simp only [mayM]
           go_wp2_with fail
           refine (may_any w3 _).mono ?_
           rintro e w4 ⟨rfl, rfl⟩
           simp only [mayM]
           go_wp2_with fail
           refine (may_any w4 _).mono ?_
           rintro e w5 ⟨rfl, rfl⟩
           simp only [mayM]
           go_wp2_with fail
           first
             | (go_ret; exact ⟨rfl, rfl⟩)
             | (go_roundw
                case rel => exact ⟨_, by go_num, by decide, by decide, trivial⟩
                case measure => simp [intOf]))
set_option maxRecDepth 100000 in
set_option maxHeartbeats 4000000 in
theorem refJoin_15 : JoinAt 1 5 := by
    intro w
    go_enter Tryd.func13, Tryd.ntmps13
    go_wp2_with fail
    refine (may_any w _).mono ?_
    rintro e w1 ⟨rfl, rfl⟩
    simp only [mayM]
    go_wp2_with fail
    refine (may_any w1 _).mono ?_
    rintro e w2 ⟨rfl, rfl⟩
    simp only [mayM]
    go_upto_region 4 with (fail)
    go_loopw [5] (fun iv wr => ∃ i : Int, iv = .int .i64 i ∧ 1 ≤ i ∧ i ≤ joinM 1 5 ∧ wr = w2) (fun i _ => 6 - (intOf i).toNat)
    case atStart => exact ⟨1, rfl, by decide, by decide, rfl⟩
    case round =>
      obtain ⟨i, rfl, h1, h2, rfl⟩ := hrel
      have h3 : i ≤ 5 := Int.le_trans h2 (by decide)
      rcases (show i = 1 ∨ i = 2 ∨ i = 3 ∨ i = 4 ∨ i = 5 by omega) with rfl | rfl | rfl | rfl | rfl
      all_goals first
        | (exfalso; revert h2; decide)
        | (clear h1 h2 h3
           go_wp2_with fail
           refine (may_any wr _).mono ?_
           rintro e w3 ⟨rfl, rfl⟩
           simp only [mayM]
           go_wp2_with fail
           refine (may_any w3 _).mono ?_
           rintro e w4 ⟨rfl, rfl⟩
           simp only [mayM]
           go_wp2_with fail
           refine (may_any w4 _).mono ?_
           rintro e w5 ⟨rfl, rfl⟩
           simp only [mayM]
           go_wp2_with fail
           first
             | (go_ret; exact ⟨rfl, rfl⟩)
             | (go_roundw
                case rel => exact ⟨_, by go_num, by decide, by decide, trivial⟩
                case measure => simp [intOf]))
set_option maxRecDepth 100000 in
set_option maxHeartbeats 4000000 in
theorem refJoin_21 : JoinAt 2 1 := by
    intro w
    go_enter Tryd.func13, Tryd.ntmps13
    go_wp2_with fail
    refine (may_any w _).mono ?_
    rintro e w1 ⟨rfl, rfl⟩
    simp only [mayM]
    go_wp2_with fail
    refine (may_any w1 _).mono ?_
    rintro e w2 ⟨rfl, rfl⟩
    simp only [mayM]
    go_upto_region 4 with (fail)
    go_loopw [5] (fun iv wr => ∃ i : Int, iv = .int .i64 i ∧ 1 ≤ i ∧ i ≤ joinM 2 1 ∧ wr = w2) (fun i _ => 6 - (intOf i).toNat)
    case atStart => exact ⟨1, rfl, by decide, by decide, rfl⟩
    case round =>
      obtain ⟨i, rfl, h1, h2, rfl⟩ := hrel
      have h3 : i ≤ 5 := Int.le_trans h2 (by decide)
      rcases (show i = 1 ∨ i = 2 ∨ i = 3 ∨ i = 4 ∨ i = 5 by omega) with rfl | rfl | rfl | rfl | rfl
      all_goals first
        | (exfalso; revert h2; decide)
        | (clear h1 h2 h3
           go_wp2_with fail
           refine (may_any wr _).mono ?_
           rintro e w3 ⟨rfl, rfl⟩
           simp only [mayM]
           go_wp2_with fail
           refine (may_any w3 _).mono ?_
           rintro e w4 ⟨rfl, rfl⟩
           simp only [mayM]
           go_wp2_with fail
           refine (may_any w4 _).mono ?_
           rintro e w5 ⟨rfl, rfl⟩
           simp only [mayM]
           go_wp2_with fail
           first
             | (go_ret; exact ⟨rfl, rfl⟩)
             | (go_roundw
                case rel => exact ⟨_, by go_num, by decide, by decide, trivial⟩
                case measure => simp [intOf]))
set_option maxRecDepth 100000 in
set_option maxHeartbeats 4000000 in
theorem refJoin_22 : JoinAt 2 2 := by
    intro w
    go_enter Tryd.func13, Tryd.ntmps13
    go_wp2_with fail
    refine (may_any w _).mono ?_
    rintro e w1 ⟨rfl, rfl⟩
    simp only [mayM]
    go_wp2_with fail
    refine (may_any w1 _).mono ?_
    rintro e w2 ⟨rfl, rfl⟩
    simp only [mayM]
    go_upto_region 4 with (fail)
    go_loopw [5] (fun iv wr => ∃ i : Int, iv = .int .i64 i ∧ 1 ≤ i ∧ i ≤ joinM 2 2 ∧ wr = w2) (fun i _ => 6 - (intOf i).toNat)
    case atStart => exact ⟨1, rfl, by decide, by decide, rfl⟩
    case round =>
      obtain ⟨i, rfl, h1, h2, rfl⟩ := hrel
      have h3 : i ≤ 5 := Int.le_trans h2 (by decide)
      rcases (show i = 1 ∨ i = 2 ∨ i = 3 ∨ i = 4 ∨ i = 5 by omega) with rfl | rfl | rfl | rfl | rfl
      all_goals first
        | (exfalso; revert h2; decide)
        | (clear h1 h2 h3
           go_wp2_with fail
           refine (may_any wr _).mono ?_
           rintro e w3 ⟨rfl, rfl⟩
           simp only [mayM]
           go_wp2_with fail
           refine (may_any w3 _).mono ?_
           rintro e w4 ⟨rfl, rfl⟩
           simp only [mayM]
           go_wp2_with fail
           refine (may_any w4 _).mono ?_
           rintro e w5 ⟨rfl, rfl⟩
           simp only [mayM]
           go_wp2_with fail
           first
             | (go_ret; exact ⟨rfl, rfl⟩)
             | (go_roundw
                case rel => exact ⟨_, by go_num, by decide, by decide, trivial⟩
                case measure => simp [intOf]))
set_option maxRecDepth 100000 in
set_option maxHeartbeats 4000000 in
theorem refJoin_23 : JoinAt 2 3 := by
    intro w
    go_enter Tryd.func13, Tryd.ntmps13
    go_wp2_with fail
    refine (may_any w _).mono ?_
    rintro e w1 ⟨rfl, rfl⟩
    simp only [mayM]
    go_wp2_with fail
    refine (may_any w1 _).mono ?_
    rintro e w2 ⟨rfl, rfl⟩
    simp only [mayM]
    go_upto_region 4 with (fail)
    go_loopw [5] (fun iv wr => ∃ i : Int, iv = .int .i64 i ∧ 1 ≤ i ∧ i ≤ joinM 2 3 ∧ wr = w2) (fun i _ => 6 - (intOf i).toNat)
    case atStart => exact ⟨1, rfl, by decide, by decide, rfl⟩
    case round =>
      obtain ⟨i, rfl, h1, h2, rfl⟩ := hrel
      have h3 : i ≤ 5 := Int.le_trans h2 (by decide)
      rcases (show i = 1 ∨ i = 2 ∨ i = 3 ∨ i = 4 ∨ i = 5 by omega) with rfl | rfl | rfl | rfl | rfl
      all_goals first
        | (exfalso; revert h2; decide)
        | (clear h1 h2 h3
           go_wp2_with fail
           refine (may_any wr _).mono ?_
           rintro e w3 ⟨rfl, rfl⟩
           simp only [mayM]
           go_wp2_with fail
           refine (may_any w3 _).mono ?_
           rintro e w4 ⟨rfl, rfl⟩
           simp only [mayM]
           go_wp2_with fail
           refine (may_any w4 _).mono ?_
           rintro e w5 ⟨rfl, rfl⟩
           simp only [mayM]
           go_wp2_with fail
           first
             | (go_ret; exact ⟨rfl, rfl⟩)
             | (go_roundw
                case rel => exact ⟨_, by go_num, by decide, by decide, trivial⟩
                case measure => simp [intOf]))
set_option maxRecDepth 100000 in
set_option maxHeartbeats 4000000 in
theorem refJoin_24 : JoinAt 2 4 := by
    intro w
    go_enter Tryd.func13, Tryd.ntmps13
    go_wp2_with fail
    refine (may_any w _).mono ?_
    rintro e w1 ⟨rfl, rfl⟩
    simp only [mayM]
    go_wp2_with fail
    refine (may_any w1 _).mono ?_
    rintro e w2 ⟨rfl, rfl⟩
    simp only [mayM]
    go_upto_region 4 with (fail)
    go_loopw [5] (fun iv wr => ∃ i : Int, iv = .int .i64 i ∧ 1 ≤ i ∧ i ≤ joinM 2 4 ∧ wr = w2) (fun i _ => 6 - (intOf i).toNat)
    case atStart => exact ⟨1, rfl, by decide, by decide, rfl⟩
    case round =>
      obtain ⟨i, rfl, h1, h2, rfl⟩ := hrel
      have h3 : i ≤ 5 := Int.le_trans h2 (by decide)
      rcases (show i = 1 ∨ i = 2 ∨ i = 3 ∨ i = 4 ∨ i = 5 by omega) with rfl | rfl | rfl | rfl | rfl
      all_goals first
        | (exfalso; revert h2; decide)
        | (clear h1 h2 h3
           go_wp2_with fail
           refine (may_any wr _).mono ?_
           rintro e w3 ⟨rfl, rfl⟩
           simp only [mayM]
           go_wp2_with fail
           refine (may_any w3 _).mono ?_
           rintro e w4 ⟨rfl, rfl⟩
           simp only [mayM]
           go_wp2_with fail
           refine (may_any w4 _).mono ?_
           rintro e w5 ⟨rfl, rfl⟩
           simp only [mayM]
           go_wp2_with fail
           first
             | (go_ret; exact ⟨rfl, rfl⟩)
             | (go_roundw
                case rel => exact ⟨_, by go_num, by decide, by decide, trivial⟩
                case measure => simp [intOf]))
set_option maxRecDepth 100000 in
set_option maxHeartbeats 4000000 in
theorem refJoin_25 : JoinAt 2 5 := by
    intro w
    go_enter Tryd.func13, Tryd.ntmps13
    go_wp2_with fail
    refine (may_any w _).mono ?_
    rintro e w1 ⟨rfl, rfl⟩
    simp only [mayM]
    go_wp2_with fail
    refine (may_any w1 _).mono ?_
    rintro e w2 ⟨rfl, rfl⟩
    simp only [mayM]
    go_upto_region 4 with (fail)
    go_loopw [5] (fun iv wr => ∃ i : Int, iv = .int .i64 i ∧ 1 ≤ i ∧ i ≤ joinM 2 5 ∧ wr = w2) (fun i _ => 6 - (intOf i).toNat)
    case atStart => exact ⟨1, rfl, by decide, by decide, rfl⟩
    case round =>
      obtain ⟨i, rfl, h1, h2, rfl⟩ := hrel
      have h3 : i ≤ 5 := Int.le_trans h2 (by decide)
      rcases (show i = 1 ∨ i = 2 ∨ i = 3 ∨ i = 4 ∨ i = 5 by omega) with rfl | rfl | rfl | rfl | rfl
      all_goals first
        | (exfalso; revert h2; decide)
        | (clear h1 h2 h3
           go_wp2_with fail
           refine (may_any wr _).mono ?_
           rintro e w3 ⟨rfl, rfl⟩
           simp only [mayM]
           go_wp2_with fail
           refine (may_any w3 _).mono ?_
           rintro e w4 ⟨rfl, rfl⟩
           simp only [mayM]
           go_wp2_with fail
           refine (may_any w4 _).mono ?_
           rintro e w5 ⟨rfl, rfl⟩
           simp only [mayM]
           go_wp2_with fail
           first
             | (go_ret; exact ⟨rfl, rfl⟩)
             | (go_roundw
                case rel => exact ⟨_, by go_num, by decide, by decide, trivial⟩
                case measure => simp [intOf]))
set_option maxRecDepth 100000 in
set_option maxHeartbeats 4000000 in
theorem refJoin_31 : JoinAt 3 1 := by
    intro w
    go_enter Tryd.func13, Tryd.ntmps13
    go_wp2_with fail
    refine (may_any w _).mono ?_
    rintro e w1 ⟨rfl, rfl⟩
    simp only [mayM]
    go_wp2_with fail
    refine (may_any w1 _).mono ?_
    rintro e w2 ⟨rfl, rfl⟩
    simp only [mayM]
    go_upto_region 4 with (fail)
    go_loopw [5] (fun iv wr => ∃ i : Int, iv = .int .i64 i ∧ 1 ≤ i ∧ i ≤ joinM 3 1 ∧ wr = w2) (fun i _ => 6 - (intOf i).toNat)
    case atStart => exact ⟨1, rfl, by decide, by decide, rfl⟩
    case round =>
      obtain ⟨i, rfl, h1, h2, rfl⟩ := hrel
      have h3 : i ≤ 5 := Int.le_trans h2 (by decide)
      rcases (show i = 1 ∨ i = 2 ∨ i = 3 ∨ i = 4 ∨ i = 5 by omega) with rfl | rfl | rfl | rfl | rfl
      all_goals first
        | (exfalso; revert h2; decide)
        | (clear h1 h2 h3
           go_wp2_with fail
           refine (may_any wr _).mono ?_
           rintro e w3 ⟨rfl, rfl⟩
           simp only [mayM]
           go_wp2_with fail
           refine (may_any w3 _).mono ?_
           rintro e w4 ⟨rfl, rfl⟩
           simp only [mayM]
           go_wp2_with fail
           refine (may_any w4 _).mono ?_
           rintro e w5 ⟨rfl, rfl⟩
           simp only [mayM]
           go_wp2_with fail
           first
             | (go_ret; exact ⟨rfl, rfl⟩)
             | (go_roundw
                case rel => exact ⟨_, by go_num, by decide, by decide, trivial⟩
                case measure => simp [intOf]))
set_option maxRecDepth 100000 in
set_option maxHeartbeats 4000000 in
theorem refJoin_32 : JoinAt 3 2 := by
    intro w
    go_enter Tryd.func13, Tryd.ntmps13
    go_wp2_with fail
    refine (may_any w _).mono ?_
    rintro e w1 ⟨rfl, rfl⟩
    simp only [mayM]
    go_wp2_with fail
    refine (may_any w1 _).mono ?_
    rintro e w2 ⟨rfl, rfl⟩
    simp only [mayM]
    go_upto_region 4 with (fail)
    go_loopw [5] (fun iv wr => ∃ i : Int, iv = .int .i64 i ∧ 1 ≤ i ∧ i ≤ joinM 3 2 ∧ wr = w2) (fun i _ => 6 - (intOf i).toNat)
    case atStart => exact ⟨1, rfl, by decide, by decide, rfl⟩
    case round =>
      obtain ⟨i, rfl, h1, h2, rfl⟩ := hrel
      have h3 : i ≤ 5 := Int.le_trans h2 (by decide)
      rcases (show i = 1 ∨ i = 2 ∨ i = 3 ∨ i = 4 ∨ i = 5 by omega) with rfl | rfl | rfl | rfl | rfl
      all_goals first
        | (exfalso; revert h2; decide)
        | (clear h1 h2 h3
           go_wp2_with fail
           refine (may_any wr _).mono ?_
           rintro e w3 ⟨rfl, rfl⟩
           simp only [mayM]
           go_wp2_with fail
           refine (may_any w3 _).mono ?_
           rintro e w4 ⟨rfl, rfl⟩
           simp only [mayM]
           go_wp2_with fail
           refine (may_any w4 _).mono ?_
           rintro e w5 ⟨rfl, rfl⟩
           simp only [mayM]
           go_wp2_with fail
           first
             | (go_ret; exact ⟨rfl, rfl⟩)
             | (go_roundw
                case rel => exact ⟨_, by go_num, by decide, by decide, trivial⟩
                case measure => simp [intOf]))
set_option maxRecDepth 100000 in
set_option maxHeartbeats 4000000 in
theorem refJoin_33 : JoinAt 3 3 := by
    intro w
    go_enter Tryd.func13, Tryd.ntmps13
    go_wp2_with fail
    refine (may_any w _).mono ?_
    rintro e w1 ⟨rfl, rfl⟩
    simp only [mayM]
    go_wp2_with fail
    refine (may_any w1 _).mono ?_
    rintro e w2 ⟨rfl, rfl⟩
    simp only [mayM]
    go_upto_region 4 with (fail)
    go_loopw [5] (fun iv wr => ∃ i : Int, iv = .int .i64 i ∧ 1 ≤ i ∧ i ≤ joinM 3 3 ∧ wr = w2) (fun i _ => 6 - (intOf i).toNat)
    case atStart => exact ⟨1, rfl, by decide, by decide, rfl⟩
    case round =>
      obtain ⟨i, rfl, h1, h2, rfl⟩ := hrel
      have h3 : i ≤ 5 := Int.le_trans h2 (by decide)
      rcases (show i = 1 ∨ i = 2 ∨ i = 3 ∨ i = 4 ∨ i = 5 by omega) with rfl | rfl | rfl | rfl | rfl
      all_goals first
        | (exfalso; revert h2; decide)
        | (clear h1 h2 h3
           go_wp2_with fail
           refine (may_any wr _).mono ?_
           rintro e w3 ⟨rfl, rfl⟩
           simp only [mayM]
           go_wp2_with fail
           refine (may_any w3 _).mono ?_
           rintro e w4 ⟨rfl, rfl⟩
           simp only [mayM]
           go_wp2_with fail
           refine (may_any w4 _).mono ?_
           rintro e w5 ⟨rfl, rfl⟩
           simp only [mayM]
           go_wp2_with fail
           first
             | (go_ret; exact ⟨rfl, rfl⟩)
             | (go_roundw
                case rel => exact ⟨_, by go_num, by decide, by decide, trivial⟩
                case measure => simp [intOf]))
set_option maxRecDepth 100000 in
set_option maxHeartbeats 4000000 in
theorem refJoin_34 : JoinAt 3 4 := by
    intro w
    go_enter Tryd.func13, Tryd.ntmps13
    go_wp2_with fail
    refine (may_any w _).mono ?_
    rintro e w1 ⟨rfl, rfl⟩
    simp only [mayM]
    go_wp2_with fail
    refine (may_any w1 _).mono ?_
    rintro e w2 ⟨rfl, rfl⟩
    simp only [mayM]
    go_upto_region 4 with (fail)
    go_loopw [5] (fun iv wr => ∃ i : Int, iv = .int .i64 i ∧ 1 ≤ i ∧ i ≤ joinM 3 4 ∧ wr = w2) (fun i _ => 6 - (intOf i).toNat)
    case atStart => exact ⟨1, rfl, by decide, by decide, rfl⟩
    case round =>
      obtain ⟨i, rfl, h1, h2, rfl⟩ := hrel
      have h3 : i ≤ 5 := Int.le_trans h2 (by decide)
      rcases (show i = 1 ∨ i = 2 ∨ i = 3 ∨ i = 4 ∨ i = 5 by omega) with rfl | rfl | rfl | rfl | rfl
      all_goals first
        | (exfalso; revert h2; decide)
        | (clear h1 h2 h3
           go_wp2_with fail
           refine (may_any wr _).mono ?_
           rintro e w3 ⟨rfl, rfl⟩
           simp only [mayM]
           go_wp2_with fail
           refine (may_any w3 _).mono ?_
           rintro e w4 ⟨rfl, rfl⟩
           simp only [mayM]
           go_wp2_with fail
           refine (may_any w4 _).mono ?_
           rintro e w5 ⟨rfl, rfl⟩
           simp only [mayM]
           go_wp2_with fail
           first
             | (go_ret; exact ⟨rfl, rfl⟩)
             | (go_roundw
                case rel => exact ⟨_, by go_num, by decide, by decide, trivial⟩
                case measure => simp [intOf]))
set_option maxRecDepth 100000 in
set_option maxHeartbeats 4000000 in
theorem refJoin_35 : JoinAt 3 5 := by
    intro w
    go_enter Tryd.func13, Tryd.ntmps13
    go_wp2_with fail
    refine (may_any w _).mono ?_
    rintro e w1 ⟨rfl, rfl⟩
    simp only [mayM]
    go_wp2_with fail
    refine (may_any w1 _).mono ?_
    rintro e w2 ⟨rfl, rfl⟩
    simp only [mayM]
    go_upto_region 4 with (fail)
    go_loopw [5] (fun iv wr => ∃ i : Int, iv = .int .i64 i ∧ 1 ≤ i ∧ i ≤ joinM 3 5 ∧ wr = w2) (fun i _ => 6 - (intOf i).toNat)
    case atStart => exact ⟨1, rfl, by decide, by decide, rfl⟩
    case round =>
      obtain ⟨i, rfl, h1, h2, rfl⟩ := hrel
      have h3 : i ≤ 5 := Int.le_trans h2 (by decide)
      rcases (show i = 1 ∨ i = 2 ∨ i = 3 ∨ i = 4 ∨ i = 5 by omega) with rfl | rfl | rfl | rfl | rfl
      all_goals first
        | (exfalso; revert h2; decide)
        | (clear h1 h2 h3
           go_wp2_with fail
           refine (may_any wr _).mono ?_
           rintro e w3 ⟨rfl, rfl⟩
           simp only [mayM]
           go_wp2_with fail
           refine (may_any w3 _).mono ?_
           rintro e w4 ⟨rfl, rfl⟩
           simp only [mayM]
           go_wp2_with fail
           refine (may_any w4 _).mono ?_
           rintro e w5 ⟨rfl, rfl⟩
           simp only [mayM]
           go_wp2_with fail
           first
             | (go_ret; exact ⟨rfl, rfl⟩)
             | (go_roundw
                case rel => exact ⟨_, by go_num, by decide, by decide, trivial⟩
                case measure => simp [intOf]))
set_option maxRecDepth 100000 in
set_option maxHeartbeats 4000000 in
theorem refJoin_41 : JoinAt 4 1 := by
    intro w
    go_enter Tryd.func13, Tryd.ntmps13
    go_wp2_with fail
    refine (may_any w _).mono ?_
    rintro e w1 ⟨rfl, rfl⟩
    simp only [mayM]
    go_wp2_with fail
    refine (may_any w1 _).mono ?_
    rintro e w2 ⟨rfl, rfl⟩
    simp only [mayM]
    go_upto_region 4 with (fail)
    go_loopw [5] (fun iv wr => ∃ i : Int, iv = .int .i64 i ∧ 1 ≤ i ∧ i ≤ joinM 4 1 ∧ wr = w2) (fun i _ => 6 - (intOf i).toNat)
    case atStart => exact ⟨1, rfl, by decide, by decide, rfl⟩
    case round =>
      obtain ⟨i, rfl, h1, h2, rfl⟩ := hrel
      have h3 : i ≤ 5 := Int.le_trans h2 (by decide)
      rcases (show i = 1 ∨ i = 2 ∨ i = 3 ∨ i = 4 ∨ i = 5 by omega) with rfl | rfl | rfl | rfl | rfl
      all_goals first
        | (exfalso; revert h2; decide)
        | (clear h1 h2 h3
           go_wp2_with fail
           refine (may_any wr _).mono ?_
           rintro e w3 ⟨rfl, rfl⟩
           simp only [mayM]
           go_wp2_with fail
           refine (may_any w3 _).mono ?_
           rintro e w4 ⟨rfl, rfl⟩
           simp only [mayM]
           go_wp2_with fail
           refine (may_any w4 _).mono ?_
           rintro e w5 ⟨rfl, rfl⟩
           simp only [mayM]
           go_wp2_with fail
           first
             | (go_ret; exact ⟨rfl, rfl⟩)
             | (go_roundw
                case rel => exact ⟨_, by go_num, by decide, by decide, trivial⟩
                case measure => simp [intOf]))
set_option maxRecDepth 100000 in
set_option maxHeartbeats 4000000 in
theorem refJoin_42 : JoinAt 4 2 := by
    intro w
    go_enter Tryd.func13, Tryd.ntmps13
    go_wp2_with fail
    refine (may_any w _).mono ?_
    rintro e w1 ⟨rfl, rfl⟩
    simp only [mayM]
    go_wp2_with fail
    refine (may_any w1 _).mono ?_
    rintro e w2 ⟨rfl, rfl⟩
    simp only [mayM]
    go_upto_region 4 with (fail)
    go_loopw [5] (fun iv wr => ∃ i : Int, iv = .int .i64 i ∧ 1 ≤ i ∧ i ≤ joinM 4 2 ∧ wr = w2) (fun i _ => 6 - (intOf i).toNat)
    case atStart => exact ⟨1, rfl, by decide, by decide, rfl⟩
    case round =>
      obtain ⟨i, rfl, h1, h2, rfl⟩ := hrel
      have h3 : i ≤ 5 := Int.le_trans h2 (by decide)
      rcases (show i = 1 ∨ i = 2 ∨ i = 3 ∨ i = 4 ∨ i = 5 by omega) with rfl | rfl | rfl | rfl | rfl
      all_goals first
        | (exfalso; revert h2; decide)
        | (clear h1 h2 h3
           go_wp2_with fail
           refine (may_any wr _).mono ?_
           rintro e w3 ⟨rfl, rfl⟩
           simp only [mayM]
           go_wp2_with fail
           refine (may_any w3 _).mono ?_
           rintro e w4 ⟨rfl, rfl⟩
           simp only [mayM]
           go_wp2_with fail
           refine (may_any w4 _).mono ?_
           rintro e w5 ⟨rfl, rfl⟩
           simp only [mayM]
           go_wp2_with fail
           first
             | (go_ret; exact ⟨rfl, rfl⟩)
             | (go_roundw
                case rel => exact ⟨_, by go_num, by decide, by decide, trivial⟩
                case measure => simp [intOf]))
set_option maxRecDepth 100000 in
set_option maxHeartbeats 4000000 in
theorem refJoin_43 : JoinAt 4 3 := by
    intro w
    go_enter Tryd.func13, Tryd.ntmps13
    go_wp2_with fail
    refine (may_any w _).mono ?_
    rintro e w1 ⟨rfl, rfl⟩
    simp only [mayM]
    go_wp2_with fail
    refine (may_any w1 _).mono ?_
    rintro e w2 ⟨rfl, rfl⟩
    simp only [mayM]
    go_upto_region 4 with (fail)
    go_loopw [5] (fun iv wr => ∃ i : Int, iv = .int .i64 i ∧ 1 ≤ i ∧ i ≤ joinM 4 3 ∧ wr = w2) (fun i _ => 6 - (intOf i).toNat)
    case atStart => exact ⟨1, rfl, by decide, by decide, rfl⟩
    case round =>
      obtain ⟨i, rfl, h1, h2, rfl⟩ := hrel
      have h3 : i ≤ 5 := Int.le_trans h2 (by decide)
      rcases (show i = 1 ∨ i = 2 ∨ i = 3 ∨ i = 4 ∨ i = 5 by omega) with rfl | rfl | rfl | rfl | rfl
      all_goals first
        | (exfalso; revert h2; decide)
        | (clear h1 h2 h3
           go_wp2_with fail
           refine (may_any wr _).mono ?_
           rintro e w3 ⟨rfl, rfl⟩
           simp only [mayM]
           go_wp2_with fail
           refine (may_any w3 _).mono ?_
           rintro e w4 ⟨rfl, rfl⟩
           simp only [mayM]
           go_wp2_with fail
           refine (may_any w4 _).mono ?_
           rintro e w5 ⟨rfl, rfl⟩
           simp only [mayM]
           go_wp2_with fail
           first
             | (go_ret; exact ⟨rfl, rfl⟩)
             | (go_roundw
                case rel => exact ⟨_, by go_num, by decide, by decide, trivial⟩
                case measure => simp [intOf]))
set_option maxRecDepth 100000 in
set_option maxHeartbeats 4000000 in
theorem refJoin_44 : JoinAt 4 4 := by
    intro w
    go_enter Tryd.func13, Tryd.ntmps13
    go_wp2_with fail
    refine (may_any w _).mono ?_
    rintro e w1 ⟨rfl, rfl⟩
    simp only [mayM]
    go_wp2_with fail
    refine (may_any w1 _).mono ?_
    rintro e w2 ⟨rfl, rfl⟩
    simp only [mayM]
    go_upto_region 4 with (fail)
    go_loopw [5] (fun iv wr => ∃ i : Int, iv = .int .i64 i ∧ 1 ≤ i ∧ i ≤ joinM 4 4 ∧ wr = w2) (fun i _ => 6 - (intOf i).toNat)
    case atStart => exact ⟨1, rfl, by decide, by decide, rfl⟩
    case round =>
      obtain ⟨i, rfl, h1, h2, rfl⟩ := hrel
      have h3 : i ≤ 5 := Int.le_trans h2 (by decide)
      rcases (show i = 1 ∨ i = 2 ∨ i = 3 ∨ i = 4 ∨ i = 5 by omega) with rfl | rfl | rfl | rfl | rfl
      all_goals first
        | (exfalso; revert h2; decide)
        | (clear h1 h2 h3
           go_wp2_with fail
           refine (may_any wr _).mono ?_
           rintro e w3 ⟨rfl, rfl⟩
           simp only [mayM]
           go_wp2_with fail
           refine (may_any w3 _).mono ?_
           rintro e w4 ⟨rfl, rfl⟩
           simp only [mayM]
           go_wp2_with fail
           refine (may_any w4 _).mono ?_
           rintro e w5 ⟨rfl, rfl⟩
           simp only [mayM]
           go_wp2_with fail
           first
             | (go_ret; exact ⟨rfl, rfl⟩)
             | (go_roundw
                case rel => exact ⟨_, by go_num, by decide, by decide, trivial⟩
                case measure => simp [intOf]))
set_option maxRecDepth 100000 in
set_option maxHeartbeats 4000000 in
theorem refJoin_45 : JoinAt 4 5 := by
    intro w
    go_enter Tryd.func13, Tryd.ntmps13
    go_wp2_with fail
    refine (may_any w _).mono ?_
    rintro e w1 ⟨rfl, rfl⟩
    simp only [mayM]
    go_wp2_with fail
    refine (may_any w1 _).mono ?_
    rintro e w2 ⟨rfl, rfl⟩
    simp only [mayM]
    go_upto_region 4 with (fail)
    go_loopw [5] (fun iv wr => ∃ i : Int, iv = .int .i64 i ∧ 1 ≤ i ∧ i ≤ joinM 4 5 ∧ wr = w2) (fun i _ => 6 - (intOf i).toNat)
    case atStart => exact ⟨1, rfl, by decide, by decide, rfl⟩
    case round =>
      obtain ⟨i, rfl, h1, h2, rfl⟩ := hrel
      have h3 : i ≤ 5 := Int.le_trans h2 (by decide)
      rcases (show i = 1 ∨ i = 2 ∨ i = 3 ∨ i = 4 ∨ i = 5 by omega) with rfl | rfl | rfl | rfl | rfl
      all_goals first
        | (exfalso; revert h2; decide)
        | (clear h1 h2 h3
           go_wp2_with fail
           refine (may_any wr _).mono ?_
           rintro e w3 ⟨rfl, rfl⟩
           simp only [mayM]
           go_wp2_with fail
           refine (may_any w3 _).mono ?_
           rintro e w4 ⟨rfl, rfl⟩
           simp only [mayM]
           go_wp2_with fail
           refine (may_any w4 _).mono ?_
           rintro e w5 ⟨rfl, rfl⟩
           simp only [mayM]
           go_wp2_with fail
           first
             | (go_ret; exact ⟨rfl, rfl⟩)
             | (go_roundw
                case rel => exact ⟨_, by go_num, by decide, by decide, trivial⟩
                case measure => simp [intOf]))
set_option maxRecDepth 100000 in
set_option maxHeartbeats 4000000 in
theorem refJoin_51 : JoinAt 5 1 := by
    intro w
    go_enter Tryd.func13, Tryd.ntmps13
    go_wp2_with fail
    refine (may_any w _).mono ?_
    rintro e w1 ⟨rfl, rfl⟩
    simp only [mayM]
    go_wp2_with fail
    refine (may_any w1 _).mono ?_
    rintro e w2 ⟨rfl, rfl⟩
    simp only [mayM]
    go_upto_region 4 with (fail)
    go_loopw [5] (fun iv wr => ∃ i : Int, iv = .int .i64 i ∧ 1 ≤ i ∧ i ≤ joinM 5 1 ∧ wr = w2) (fun i _ => 6 - (intOf i).toNat)
    case atStart => exact ⟨1, rfl, by decide, by decide, rfl⟩
    case round =>
      obtain ⟨i, rfl, h1, h2, rfl⟩ := hrel
      have h3 : i ≤ 5 := Int.le_trans h2 (by decide)
      rcases (show i = 1 ∨ i = 2 ∨ i = 3 ∨ i = 4 ∨ i = 5 by omega) with rfl | rfl | rfl | rfl | rfl
      all_goals first
        | (exfalso; revert h2; decide)
        | (clear h1 h2 h3
           go_wp2_with fail
           refine (may_any wr _).mono ?_
           rintro e w3 ⟨rfl, rfl⟩
           simp only [mayM]
           go_wp2_with fail
           refine (may_any w3 _).mono ?_
           rintro e w4 ⟨rfl, rfl⟩
           simp only [mayM]
           go_wp2_with fail
           refine (may_any w4 _).mono ?_
           rintro e w5 ⟨rfl, rfl⟩
           simp only [mayM]
           go_wp2_with fail
           first
             | (go_ret; exact ⟨rfl, rfl⟩)
             | (go_roundw
                case rel => exact ⟨_, by go_num, by decide, by decide, trivial⟩
                case measure => simp [intOf]))
set_option maxRecDepth 100000 in
set_option maxHeartbeats 4000000 in
theorem refJoin_52 : JoinAt 5 2 := by
    intro w
    go_enter Tryd.func13, Tryd.ntmps13
    go_wp2_with fail
    refine (may_any w _).mono ?_
    rintro e w1 ⟨rfl, rfl⟩
    simp only [mayM]
    go_wp2_with fail
    refine (may_any w1 _).mono ?_
    rintro e w2 ⟨rfl, rfl⟩
    simp only [mayM]
    go_upto_region 4 with (fail)
    go_loopw [5] (fun iv wr => ∃ i : Int, iv = .int .i64 i ∧ 1 ≤ i ∧ i ≤ joinM 5 2 ∧ wr = w2) (fun i _ => 6 - (intOf i).toNat)
    case atStart => exact ⟨1, rfl, by decide, by decide, rfl⟩
    case round =>
      obtain ⟨i, rfl, h1, h2, rfl⟩ := hrel
      have h3 : i ≤ 5 := Int.le_trans h2 (by decide)
      rcases (show i = 1 ∨ i = 2 ∨ i = 3 ∨ i = 4 ∨ i = 5 by omega) with rfl | rfl | rfl | rfl | rfl
      all_goals first
        | (exfalso; revert h2; decide)
        | (clear h1 h2 h3
           go_wp2_with fail
           refine (may_any wr _).mono ?_
           rintro e w3 ⟨rfl, rfl⟩
           simp only [mayM]
           go_wp2_with fail
           refine (may_any w3 _).mono ?_
           rintro e w4 ⟨rfl, rfl⟩
           simp only [mayM]
           go_wp2_with fail
           refine (may_any w4 _).mono ?_
           rintro e w5 ⟨rfl, rfl⟩
           simp only [mayM]
           go_wp2_with fail
           first
             | (go_ret; exact ⟨rfl, rfl⟩)
             | (go_roundw
                case rel => exact ⟨_, by go_num, by decide, by decide, trivial⟩
                case measure => simp [intOf]))
set_option maxRecDepth 100000 in
set_option maxHeartbeats 4000000 in
theorem refJoin_53 : JoinAt 5 3 := by
    intro w
    go_enter Tryd.func13, Tryd.ntmps13
    go_wp2_with fail
    refine (may_any w _).mono ?_
    rintro e w1 ⟨rfl, rfl⟩
    simp only [mayM]
    go_wp2_with fail
    refine (may_any w1 _).mono ?_
    rintro e w2 ⟨rfl, rfl⟩
    simp only [mayM]
    go_upto_region 4 with (fail)
    go_loopw [5] (fun iv wr => ∃ i : Int, iv = .int .i64 i ∧ 1 ≤ i ∧ i ≤ joinM 5 3 ∧ wr = w2) (fun i _ => 6 - (intOf i).toNat)
    case atStart => exact ⟨1, rfl, by decide, by decide, rfl⟩
    case round =>
      obtain ⟨i, rfl, h1, h2, rfl⟩ := hrel
      have h3 : i ≤ 5 := Int.le_trans h2 (by decide)
      rcases (show i = 1 ∨ i = 2 ∨ i = 3 ∨ i = 4 ∨ i = 5 by omega) with rfl | rfl | rfl | rfl | rfl
      all_goals first
        | (exfalso; revert h2; decide)
        | (clear h1 h2 h3
           go_wp2_with fail
           refine (may_any wr _).mono ?_
           rintro e w3 ⟨rfl, rfl⟩
           simp only [mayM]
           go_wp2_with fail
           refine (may_any w3 _).mono ?_
           rintro e w4 ⟨rfl, rfl⟩
           simp only [mayM]
           go_wp2_with fail
           refine (may_any w4 _).mono ?_
           rintro e w5 ⟨rfl, rfl⟩
           simp only [mayM]
           go_wp2_with fail
           first
             | (go_ret; exact ⟨rfl, rfl⟩)
             | (go_roundw
                case rel => exact ⟨_, by go_num, by decide, by decide, trivial⟩
                case measure => simp [intOf]))
set_option maxRecDepth 100000 in
set_option maxHeartbeats 4000000 in
theorem refJoin_54 : JoinAt 5 4 := by
    intro w
    go_enter Tryd.func13, Tryd.ntmps13
    go_wp2_with fail
    refine (may_any w _).mono ?_
    rintro e w1 ⟨rfl, rfl⟩
    simp only [mayM]
    go_wp2_with fail
    refine (may_any w1 _).mono ?_
    rintro e w2 ⟨rfl, rfl⟩
    simp only [mayM]
    go_upto_region 4 with (fail)
    go_loopw [5] (fun iv wr => ∃ i : Int, iv = .int .i64 i ∧ 1 ≤ i ∧ i ≤ joinM 5 4 ∧ wr = w2) (fun i _ => 6 - (intOf i).toNat)
    case atStart => exact ⟨1, rfl, by decide, by decide, rfl⟩
    case round =>
      obtain ⟨i, rfl, h1, h2, rfl⟩ := hrel
      have h3 : i ≤ 5 := Int.le_trans h2 (by decide)
      rcases (show i = 1 ∨ i = 2 ∨ i = 3 ∨ i = 4 ∨ i = 5 by omega) with rfl | rfl | rfl | rfl | rfl
      all_goals first
        | (exfalso; revert h2; decide)
        | (clear h1 h2 h3
           go_wp2_with fail
           refine (may_any wr _).mono ?_
           rintro e w3 ⟨rfl, rfl⟩
           simp only [mayM]
           go_wp2_with fail
           refine (may_any w3 _).mono ?_
           rintro e w4 ⟨rfl, rfl⟩
           simp only [mayM]
           go_wp2_with fail
           refine (may_any w4 _).mono ?_
           rintro e w5 ⟨rfl, rfl⟩
           simp only [mayM]
           go_wp2_with fail
           first
             | (go_ret; exact ⟨rfl, rfl⟩)
             | (go_roundw
                case rel => exact ⟨_, by go_num, by decide, by decide, trivial⟩
                case measure => simp [intOf]))
set_option maxRecDepth 100000 in
set_option maxHeartbeats 4000000 in
theorem refJoin_55 : JoinAt 5 5 := by
    intro w
    go_enter Tryd.func13, Tryd.ntmps13
    go_wp2_with fail
    refine (may_any w _).mono ?_
    rintro e w1 ⟨rfl, rfl⟩
    simp only [mayM]
    go_wp2_with fail
    refine (may_any w1 _).mono ?_
    rintro e w2 ⟨rfl, rfl⟩
    simp only [mayM]
    go_upto_region 4 with (fail)
    go_loopw [5] (fun iv wr => ∃ i : Int, iv = .int .i64 i ∧ 1 ≤ i ∧ i ≤ joinM 5 5 ∧ wr = w2) (fun i _ => 6 - (intOf i).toNat)
    case atStart => exact ⟨1, rfl, by decide, by decide, rfl⟩
    case round =>
      obtain ⟨i, rfl, h1, h2, rfl⟩ := hrel
      have h3 : i ≤ 5 := Int.le_trans h2 (by decide)
      rcases (show i = 1 ∨ i = 2 ∨ i = 3 ∨ i = 4 ∨ i = 5 by omega) with rfl | rfl | rfl | rfl | rfl
      all_goals first
        | (exfalso; revert h2; decide)
        | (clear h1 h2 h3
           go_wp2_with fail
           refine (may_any wr _).mono ?_
           rintro e w3 ⟨rfl, rfl⟩
           simp only [mayM]
           go_wp2_with fail
           refine (may_any w3 _).mono ?_
           rintro e w4 ⟨rfl, rfl⟩
           simp only [mayM]
           go_wp2_with fail
           refine (may_any w4 _).mono ?_
           rintro e w5 ⟨rfl, rfl⟩
           simp only [mayM]
           go_wp2_with fail
           first
             | (go_ret; exact ⟨rfl, rfl⟩)
             | (go_roundw
                case rel => exact ⟨_, by go_num, by decide, by decide, trivial⟩
                case measure => simp [intOf]))
theorem refJoin_any (w : World) (a b : Int) : Calls Tryd.prog 13 #[.int .i64 a, .int .i64 b] w fun e w' => e = .returned (.int .i64 (joinM a b)) ∧ w' = w := by
  rcases md_cases a with rfl | rfl | rfl | rfl | rfl | h
  case inr.inr.inr.inr.inr => exact refJoin_none w _ _ h
  · rcases md_cases b with rfl | rfl | rfl | rfl | rfl | h
    · exact refJoin_11 w
    · exact refJoin_12 w
    · exact refJoin_13 w
    · exact refJoin_14 w
    · exact refJoin_15 w
    · exact refJoin_none2 w _ _ h
  · rcases md_cases b with rfl | rfl | rfl | rfl | rfl | h
    · exact refJoin_21 w
    · exact refJoin_22 w
    · exact refJoin_23 w
    · exact refJoin_24 w
    · exact refJoin_25 w
    · exact refJoin_none2 w _ _ h
  · rcases md_cases b with rfl | rfl | rfl | rfl | rfl | h
    · exact refJoin_31 w
    · exact refJoin_32 w
    · exact refJoin_33 w
    · exact refJoin_34 w
    · exact refJoin_35 w
    · exact refJoin_none2 w _ _ h
  · rcases md_cases b with rfl | rfl | rfl | rfl | rfl | h
    · exact refJoin_41 w
    · exact refJoin_42 w
    · exact refJoin_43 w
    · exact refJoin_44 w
    · exact refJoin_45 w
    · exact refJoin_none2 w _ _ h
  · rcases md_cases b with rfl | rfl | rfl | rfl | rfl | h
    · exact refJoin_51 w
    · exact refJoin_52 w
    · exact refJoin_53 w
    · exact refJoin_54 w
    · exact refJoin_55 w
    · exact refJoin_none2 w _ _ h
end Go.Proofs.YtdjnpnbobedgoaaDoor
