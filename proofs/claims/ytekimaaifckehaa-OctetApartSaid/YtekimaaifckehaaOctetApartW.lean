/-
  THE WALK OF OctetApart: whatever the numbers: true, and nothing that lay has turned.
-/
import Derived.WalkKit
import Derived.WalkSpells
import Derived.WalkLawsBesides
import Derived.Lib.Hide
import Derived.Shelf.Abstract
import Derived.Deep.Cut
import Derived.Test.YtekimaaifckehaaProg
import Derived.Test.YtekimaaifckehaaNum
import Derived.Test.YtekimaaifckehaaByte
import Derived.Test.YtekimaaifckehaaOctA
import Derived.Test.YtekimaaifckehaaOctE
import Derived.Test.YtekimaaifckehaaOctF
import Derived.Test.YtekimaaifckehaaOctG
import Derived.Test.YtekimaaifckehaaOctM
import Derived.Test.YtekimaaifckehaaOctetSizesW
import Derived.Test.YtekimaaifckehaaMake
import Derived.Test.YtekimaaifckehaaGuard
import Derived.Test.YtekimaaifckehaaOps
namespace Go.Proofs.Ytekimaaifckehaa
open Go.RowKit Go.Shelf
set_option maxRecDepth 100000 in
set_option maxHeartbeats 4000000 in
theorem OctetApart_w (w : World) {a : Int} (a0 : 0 ≤ a) (a1 : a < 4294967296) {b : Int} (b0 : 0 ≤ b) (b1 : b < 4294967296) :
    Calls Try.prog 6 #[.int .u32 a, .int .u32 b] w fun e w' => e = .returned (.bool true) ∧ Below w.heap.size w w' := by
  obtain ⟨k1, h1⟩ : ∃ k : Nat, a % 2147483648 = k := Int.eq_ofNat_of_zero_le (Int.emod_nonneg _ (by omega))
  obtain ⟨k2, h2⟩ : ∃ k : Nat, b % 2147483648 = k := Int.eq_ofNat_of_zero_le (Int.emod_nonneg _ (by omega))
  have m1 : k1 ≤ 2147483647 := by omega
  have m2 : k2 ≤ 2147483647 := by omega
  have p1 := numB_pos k1
  have p2 := numB_pos k2
  have hA := Lib.hid (numB_apart k1 k2 m1 m2)
  have H1 := Lib.hid h1
  have H2 := Lib.hid h2
  go_enter Try.func6, Try.ntmps6
  go_wp2_with fail
  refine (awake_any _).mono ?_
  rintro e w1 ⟨rfl, q⟩
  go_wp2_with fail
  refine (number_nat _ _ (by omega) (by omega)).mono ?_
  rintro e w2 ⟨a2, c2, rfl, hF⟩
  rw [Int.toNat_natCast] at hF ⊢
  replace q := q.trans (hF.1.mono q.size)
  have r2 := hF.rd
  clear hF
  go_wp2_with fail
  refine (number_nat _ _ (by omega) (by omega)).mono ?_
  rintro e w3 ⟨a3, c3, rfl, hF⟩
  rw [Int.toNat_natCast] at hF ⊢
  replace q := q.trans (hF.1.mono q.size)
  replace r2 := (r2.below hF.1).mono hF.1.size
  have r3 := hF.rd
  clear hF h1 h2
  have g2 := r2.len.2.1
  have g3 := r3.len.2.1
  rcases Nat.lt_or_ge (numB k2).length (numB k1).length with hl | hl
  · have hmin : min ((numB k1).length : Int) ((numB k2).length : Int) = (numB k2).length := by omega
    have D := hA.out
    rw [Nat.min_eq_right (by omega)] at D
    have DD : decide ((numB k1).take (numB k2).length = (numB k2).take (numB k2).length) = decide (a % 2147483648 = b % 2147483648) := by
      rw [decide_eq_decide, D, H1.out, H2.out]; omega
    have HD := Lib.hid DD
    have DBB : decide ((1 : Int) ≤ (numB k2).length) = true := by simp; omega
    clear D DD
    go_upto_region 5 with (fail)
    refine wp_region_gsa (by kernel_rfl) (by kernel_rfl) [sgEq (.bool true), sgEq (.bool true), sgEq (.int .i64 0), sgEq (.bool true), sgEq (.bool true), sgEq (.bool true), sgEq (.int .i64 0), sgEq (.bool true), sgEq (.bool true), sgEq (.bool true), sgEq (.int .i64 (numB k2).length), sgEq (.bool true), sgEq (.bool true), sgEq (.bool true), sgEq (.slice a2 (numB k1).length c2), sgEq (.int .i64 (numB k2).length), sgRd ((numB k1).take (numB k2).length), sgEq (.string (strOf ((numB k1).take (numB k2).length))), sgEq (.slice a3 (numB k2).length c3), sgEq (.int .i64 (numB k2).length), sgRd ((numB k2).take (numB k2).length), sgEq (.string (strOf ((numB k2).take (numB k2).length))), sgEq (.bool (decide ((numB k1).take (numB k2).length = (numB k2).take (numB k2).length))), sgEq (.int .u32 a), sgEq (.int .u32 (a % 2147483648)), sgEq (.int .u32 b), sgEq (.int .u32 (b % 2147483648)), sgEq (.bool (decide (a % 2147483648 = b % 2147483648))), sgEq (.bool true), sgEq (.bool true), sgEq (.bool true)]
      ⟨?o0, ?o1, ?o2, ?o3, ?o4, ?o5, ?o6, ?o7, ?o8, ?o9, ?o10, ?o11, ?o12, ?o13, ?o14, ?o15, ?o16, ?o17, ?o18, ?o19, ?o20, ?o21, ?o22, ?o23, ?o24, ?o25, ?o26, ?o27, ?o28, ?o29, ?o30, trivial⟩ ?fin
    case o0 =>
      refine GdOp.plain rfl (fun A vs w' hF hT hb hd => ?_)
      have e1 : A.eval (.tmp 5) = .bool true := hF 5 rfl
      exact BigFrame.wp_move _ rfl ⟨_, rfl, e1, Below.refl _ _⟩
    case o1 =>
      refine GdOp.plain rfl (fun A vs w' hF hT hb hd => ?_)
      have e1 : A.eval (.tmp 31) = .bool true := (hT 31 0 (by simp) rfl).trans (hd ⟨0, .data⟩ (by simp) rfl)
      exact BigFrame.wp_move _ rfl ⟨_, rfl, e1, Below.refl _ _⟩
    case o2 =>
      refine GdOp.taken rfl ⟨_, _, rfl, rfl, by simp⟩ (by kernel_rfl) (fun w v h => h) (fun A vs w' hF hT hb hd => ?_)
      have e1 : A.eval (.tmp 7) = .int .i64 0 := hF 7 rfl
      exact BigFrame.wp_move _ rfl ⟨_, rfl, e1, Below.refl _ _⟩
    case o3 =>
      refine GdOp.taken rfl ⟨_, _, rfl, rfl, by simp⟩ (by kernel_rfl) (fun w v h => h) (fun A vs w' hF hT hb hd => ?_)
      have e1 : A.eval (.tmp 33) = .int .i64 0 := (hT 33 2 (by simp) rfl).trans (hd ⟨2, .data⟩ (by simp) rfl)
      exact wp_eqlI rfl e1 rfl ⟨_, rfl, by simp; rfl, Below.refl _ _⟩
    case o4 =>
      refine GdOp.plain rfl (fun A vs w' hF hT hb hd => ?_)
      have e1 : A.eval (.tmp 32) = .bool true := (hT 32 1 (by simp) rfl).trans (hd ⟨1, .data⟩ (by simp) rfl)
      have e2 : A.eval (.tmp 34) = .bool true := (hT 34 3 (by simp) rfl).trans (hd ⟨3, .data⟩ (by simp) rfl)
      exact wp_pk rfl e1 (fun _ => e2) (by simp) ⟨_, rfl, rfl, Below.refl _ _⟩
    case o5 =>
      refine GdOp.plain rfl (fun A vs w' hF hT hb hd => ?_)
      have e1 : A.eval (.tmp 35) = .bool true := (hT 35 4 (by simp) rfl).trans (hd ⟨4, .data⟩ (by simp) rfl)
      exact BigFrame.wp_move _ rfl ⟨_, rfl, e1, Below.refl _ _⟩
    case o6 =>
      refine GdOp.taken rfl ⟨_, _, rfl, rfl, by simp⟩ (by kernel_rfl) (fun w v h => h) (fun A vs w' hF hT hb hd => ?_)
      have e1 : A.eval (.tmp 9) = .int .i64 0 := hF 9 rfl
      exact BigFrame.wp_move _ rfl ⟨_, rfl, e1, Below.refl _ _⟩
    case o7 =>
      refine GdOp.taken rfl ⟨_, _, rfl, rfl, by simp⟩ (by kernel_rfl) (fun w v h => h) (fun A vs w' hF hT hb hd => ?_)
      have e1 : A.eval (.tmp 37) = .int .i64 0 := (hT 37 6 (by simp) rfl).trans (hd ⟨6, .data⟩ (by simp) rfl)
      exact wp_eqlI rfl e1 rfl ⟨_, rfl, by simp; rfl, Below.refl _ _⟩
    case o8 =>
      refine GdOp.plain rfl (fun A vs w' hF hT hb hd => ?_)
      have e1 : A.eval (.tmp 36) = .bool true := (hT 36 5 (by simp) rfl).trans (hd ⟨5, .data⟩ (by simp) rfl)
      have e2 : A.eval (.tmp 38) = .bool true := (hT 38 7 (by simp) rfl).trans (hd ⟨7, .data⟩ (by simp) rfl)
      exact wp_pk rfl e1 (fun _ => e2) (by simp) ⟨_, rfl, rfl, Below.refl _ _⟩
    case o9 =>
      refine GdOp.plain rfl (fun A vs w' hF hT hb hd => ?_)
      have e1 : A.eval (.tmp 39) = .bool true := (hT 39 8 (by simp) rfl).trans (hd ⟨8, .data⟩ (by simp) rfl)
      exact BigFrame.wp_move _ rfl ⟨_, rfl, e1, Below.refl _ _⟩
    case o10 =>
      refine GdOp.taken rfl ⟨_, _, rfl, rfl, by simp⟩ (by kernel_rfl) (fun w v h => h) (fun A vs w' hF hT hb hd => ?_)
      have e1 : A.eval (.tmp 10) = .int .i64 (numB k2).length := hF 10 rfl
      exact BigFrame.wp_move _ rfl ⟨_, rfl, e1, Below.refl _ _⟩
    case o11 =>
      refine GdOp.taken rfl ⟨_, _, rfl, rfl, by simp⟩ (by kernel_rfl) (fun w v h => h) (fun A vs w' hF hT hb hd => ?_)
      have e1 : A.eval (.tmp 41) = .int .i64 (numB k2).length := (hT 41 10 (by simp) rfl).trans (hd ⟨10, .data⟩ (by simp) rfl)
      exact wp_geqI rfl e1 rfl ⟨_, rfl, by rw [DBB]; rfl, Below.refl _ _⟩
    case o12 =>
      refine GdOp.plain rfl (fun A vs w' hF hT hb hd => ?_)
      have e1 : A.eval (.tmp 40) = .bool true := (hT 40 9 (by simp) rfl).trans (hd ⟨9, .data⟩ (by simp) rfl)
      have e2 : A.eval (.tmp 42) = .bool true := (hT 42 11 (by simp) rfl).trans (hd ⟨11, .data⟩ (by simp) rfl)
      exact wp_pk rfl e1 (fun _ => e2) (by simp) ⟨_, rfl, rfl, Below.refl _ _⟩
    case o13 =>
      refine GdOp.plain rfl (fun A vs w' hF hT hb hd => ?_)
      have e1 : A.eval (.tmp 43) = .bool true := (hT 43 12 (by simp) rfl).trans (hd ⟨12, .data⟩ (by simp) rfl)
      exact BigFrame.wp_move _ rfl ⟨_, rfl, e1, Below.refl _ _⟩
    case o14 =>
      refine GdOp.taken rfl ⟨_, _, rfl, rfl, by simp⟩ (by kernel_rfl) (fun w v h => h) (fun A vs w' hF hT hb hd => ?_)
      have e1 : A.eval (.tmp 6) = .slice a2 (numB k1).length c2 := hF 6 rfl
      exact BigFrame.wp_move _ rfl ⟨_, rfl, e1, Below.refl _ _⟩
    case o15 =>
      refine GdOp.taken rfl ⟨_, _, rfl, rfl, by simp⟩ (by kernel_rfl) (fun w v h => h) (fun A vs w' hF hT hb hd => ?_)
      have e1 : A.eval (.tmp 10) = .int .i64 (numB k2).length := hF 10 rfl
      exact BigFrame.wp_move _ rfl ⟨_, rfl, e1, Below.refl _ _⟩
    case o16 =>
      refine GdOp.taken rfl ⟨_, _, rfl, rfl, by simp⟩ (by kernel_rfl) (fun w v h => h) (fun A vs w' hF hT hb hd => ?_)
      have e1 : A.eval (.tmp 45) = .slice a2 (numB k1).length c2 := (hT 45 14 (by simp) rfl).trans (hd ⟨14, .data⟩ (by simp) rfl)
      have e2 : A.eval (.tmp 46) = .int .i64 (numB k2).length := (hT 46 15 (by simp) rfl).trans (hd ⟨15, .data⟩ (by simp) rfl)
      exact wp_slice byP rfl e1 (r2.below hb) rfl (by simp [e2]) (run_bounds_h' _ (h := (numB k2).length) rfl (by omega)) (fun ad3 k3 c3 h3 => ⟨_, rfl, ⟨_, _, _, rfl, by simpa using h3.mono hb.size⟩, Below.refl _ _⟩) (by omega) (by omega)
    case o17 =>
      refine GdOp.taken rfl ⟨_, _, rfl, rfl, by simp⟩ (by kernel_rfl) (fun w v h => h) (fun A vs w' hF hT hb hd => ?_)
      obtain ⟨ad1, kk1, cc1, qq1, hr1⟩ := hd ⟨16, .data⟩ (by simp) rfl
      have e1 : A.eval (.tmp 47) = .slice ad1 kk1 cc1 := (hT 47 16 (by simp) rfl).trans qq1
      exact wp_conv byP rfl e1 hr1 ⟨_, rfl, rfl, Below.refl _ _⟩
    case o18 =>
      refine GdOp.taken rfl ⟨_, _, rfl, rfl, by simp⟩ (by kernel_rfl) (fun w v h => h) (fun A vs w' hF hT hb hd => ?_)
      have e1 : A.eval (.tmp 8) = .slice a3 (numB k2).length c3 := hF 8 rfl
      exact BigFrame.wp_move _ rfl ⟨_, rfl, e1, Below.refl _ _⟩
    case o19 =>
      refine GdOp.taken rfl ⟨_, _, rfl, rfl, by simp⟩ (by kernel_rfl) (fun w v h => h) (fun A vs w' hF hT hb hd => ?_)
      have e1 : A.eval (.tmp 10) = .int .i64 (numB k2).length := hF 10 rfl
      exact BigFrame.wp_move _ rfl ⟨_, rfl, e1, Below.refl _ _⟩
    case o20 =>
      refine GdOp.taken rfl ⟨_, _, rfl, rfl, by simp⟩ (by kernel_rfl) (fun w v h => h) (fun A vs w' hF hT hb hd => ?_)
      have e1 : A.eval (.tmp 49) = .slice a3 (numB k2).length c3 := (hT 49 18 (by simp) rfl).trans (hd ⟨18, .data⟩ (by simp) rfl)
      have e2 : A.eval (.tmp 50) = .int .i64 (numB k2).length := (hT 50 19 (by simp) rfl).trans (hd ⟨19, .data⟩ (by simp) rfl)
      exact wp_slice byP rfl e1 (r3.below hb) rfl (by simp [e2]) (run_bounds_h' _ (h := (numB k2).length) rfl (by omega)) (fun ad3 k3 c3 h3 => ⟨_, rfl, ⟨_, _, _, rfl, by simpa using h3.mono hb.size⟩, Below.refl _ _⟩) (by omega) (by omega)
    case o21 =>
      refine GdOp.taken rfl ⟨_, _, rfl, rfl, by simp⟩ (by kernel_rfl) (fun w v h => h) (fun A vs w' hF hT hb hd => ?_)
      obtain ⟨ad1, kk1, cc1, qq1, hr1⟩ := hd ⟨20, .data⟩ (by simp) rfl
      have e1 : A.eval (.tmp 51) = .slice ad1 kk1 cc1 := (hT 51 20 (by simp) rfl).trans qq1
      exact wp_conv byP rfl e1 hr1 ⟨_, rfl, rfl, Below.refl _ _⟩
    case o22 =>
      refine GdOp.taken rfl ⟨_, _, rfl, rfl, by simp⟩ (by kernel_rfl) (fun w v h => h) (fun A vs w' hF hT hb hd => ?_)
      have e1 : A.eval (.tmp 48) = .string (strOf ((numB k1).take (numB k2).length)) := (hT 48 17 (by simp) rfl).trans (hd ⟨17, .data⟩ (by simp) rfl)
      have e2 : A.eval (.tmp 52) = .string (strOf ((numB k2).take (numB k2).length)) := (hT 52 21 (by simp) rfl).trans (hd ⟨21, .data⟩ (by simp) rfl)
      exact wp_eqlS rfl e1 e2 ⟨_, rfl, rfl, Below.refl _ _⟩
    case o23 =>
      refine GdOp.taken rfl ⟨_, _, rfl, rfl, by simp⟩ (by kernel_rfl) (fun w v h => h) (fun A vs w' hF hT hb hd => ?_)
      have e1 : A.eval (.tmp 0) = .int .u32 a := hF 0 rfl
      exact BigFrame.wp_move _ rfl ⟨_, rfl, e1, Below.refl _ _⟩
    case o24 =>
      refine GdOp.taken rfl ⟨_, _, rfl, rfl, by simp⟩ (by kernel_rfl) (fun w v h => h) (fun A vs w' hF hT hb hd => ?_)
      have e1 : A.eval (.tmp 54) = .int .u32 a := (hT 54 23 (by simp) rfl).trans (hd ⟨23, .data⟩ (by simp) rfl)
      exact wp_remU rfl e1 rfl (by omega) (by omega) ⟨_, rfl, rfl, Below.refl _ _⟩
    case o25 =>
      refine GdOp.taken rfl ⟨_, _, rfl, rfl, by simp⟩ (by kernel_rfl) (fun w v h => h) (fun A vs w' hF hT hb hd => ?_)
      have e1 : A.eval (.tmp 1) = .int .u32 b := hF 1 rfl
      exact BigFrame.wp_move _ rfl ⟨_, rfl, e1, Below.refl _ _⟩
    case o26 =>
      refine GdOp.taken rfl ⟨_, _, rfl, rfl, by simp⟩ (by kernel_rfl) (fun w v h => h) (fun A vs w' hF hT hb hd => ?_)
      have e1 : A.eval (.tmp 56) = .int .u32 b := (hT 56 25 (by simp) rfl).trans (hd ⟨25, .data⟩ (by simp) rfl)
      exact wp_remU rfl e1 rfl (by omega) (by omega) ⟨_, rfl, rfl, Below.refl _ _⟩
    case o27 =>
      refine GdOp.taken rfl ⟨_, _, rfl, rfl, by simp⟩ (by kernel_rfl) (fun w v h => h) (fun A vs w' hF hT hb hd => ?_)
      have e1 : A.eval (.tmp 55) = .int .u32 (a % 2147483648) := (hT 55 24 (by simp) rfl).trans (hd ⟨24, .data⟩ (by simp) rfl)
      have e2 : A.eval (.tmp 57) = .int .u32 (b % 2147483648) := (hT 57 26 (by simp) rfl).trans (hd ⟨26, .data⟩ (by simp) rfl)
      exact wp_eqlI rfl e1 e2 ⟨_, rfl, rfl, Below.refl _ _⟩
    case o28 =>
      refine GdOp.taken rfl ⟨_, _, rfl, rfl, by simp⟩ (by kernel_rfl) (fun w v h => h) (fun A vs w' hF hT hb hd => ?_)
      have e1 : A.eval (.tmp 53) = .bool (decide ((numB k1).take (numB k2).length = (numB k2).take (numB k2).length)) := (hT 53 22 (by simp) rfl).trans (hd ⟨22, .data⟩ (by simp) rfl)
      have e2 : A.eval (.tmp 58) = .bool (decide (a % 2147483648 = b % 2147483648)) := (hT 58 27 (by simp) rfl).trans (hd ⟨27, .data⟩ (by simp) rfl)
      exact wp_eqlB (by kernel_rfl) rfl e1 e2 ⟨_, rfl, by rw [HD.out, beq_self_eq_true]; rfl, Below.refl _ _⟩
    case o29 =>
      refine GdOp.plain rfl (fun A vs w' hF hT hb hd => ?_)
      have e1 : A.eval (.tmp 44) = .bool true := (hT 44 13 (by simp) rfl).trans (hd ⟨13, .data⟩ (by simp) rfl)
      have e2 : A.eval (.tmp 59) = .bool true := (hT 59 28 (by simp) rfl).trans (hd ⟨28, .data⟩ (by simp) rfl)
      exact wp_pk rfl e1 (fun _ => e2) (by simp) ⟨_, rfl, rfl, Below.refl _ _⟩
    case o30 =>
      refine GdOp.plain rfl (fun A vs w' hF hT hb hd => ?_)
      have e1 : A.eval (.tmp 60) = .bool true := (hT 60 29 (by simp) rfl).trans (hd ⟨29, .data⟩ (by simp) rfl)
      exact BigFrame.wp_assign _ rfl ⟨_, rfl, e1, Below.refl _ _⟩
    case fin =>
      intro A vs w' hA hb hG
      have e6 : A.eval (.tmp 4) = .bool true := (hA.2.2.2 4 30 (by simp) rfl).trans (hG 30 (by decide))
      have hd : A.defers = [] := hA.1
      clear hG hA
      go_wp2
      refine bodyPost_ret (v := .bool true) ?_ hd ⟨rfl, q.trans (hb.mono q.size)⟩
      rw [← e6]
      exact results_tmp rfl _ _ _
  · have hmin : min ((numB k1).length : Int) ((numB k2).length : Int) = (numB k1).length := by omega
    have D := hA.out
    rw [Nat.min_eq_left (by omega)] at D
    have DD : decide ((numB k1).take (numB k1).length = (numB k2).take (numB k1).length) = decide (a % 2147483648 = b % 2147483648) := by
      rw [decide_eq_decide, D, H1.out, H2.out]; omega
    have HD := Lib.hid DD
    have DAA : decide ((1 : Int) ≤ (numB k1).length) = true := by simp; omega
    clear D DD
    go_upto_region 5 with (fail)
    refine wp_region_gsa (by kernel_rfl) (by kernel_rfl) [sgEq (.bool true), sgEq (.bool true), sgEq (.int .i64 0), sgEq (.bool true), sgEq (.bool true), sgEq (.bool true), sgEq (.int .i64 0), sgEq (.bool true), sgEq (.bool true), sgEq (.bool true), sgEq (.int .i64 (numB k1).length), sgEq (.bool true), sgEq (.bool true), sgEq (.bool true), sgEq (.slice a2 (numB k1).length c2), sgEq (.int .i64 (numB k1).length), sgRd ((numB k1).take (numB k1).length), sgEq (.string (strOf ((numB k1).take (numB k1).length))), sgEq (.slice a3 (numB k2).length c3), sgEq (.int .i64 (numB k1).length), sgRd ((numB k2).take (numB k1).length), sgEq (.string (strOf ((numB k2).take (numB k1).length))), sgEq (.bool (decide ((numB k1).take (numB k1).length = (numB k2).take (numB k1).length))), sgEq (.int .u32 a), sgEq (.int .u32 (a % 2147483648)), sgEq (.int .u32 b), sgEq (.int .u32 (b % 2147483648)), sgEq (.bool (decide (a % 2147483648 = b % 2147483648))), sgEq (.bool true), sgEq (.bool true), sgEq (.bool true)]
      ⟨?o0, ?o1, ?o2, ?o3, ?o4, ?o5, ?o6, ?o7, ?o8, ?o9, ?o10, ?o11, ?o12, ?o13, ?o14, ?o15, ?o16, ?o17, ?o18, ?o19, ?o20, ?o21, ?o22, ?o23, ?o24, ?o25, ?o26, ?o27, ?o28, ?o29, ?o30, trivial⟩ ?fin
    case o0 =>
      refine GdOp.plain rfl (fun A vs w' hF hT hb hd => ?_)
      have e1 : A.eval (.tmp 5) = .bool true := hF 5 rfl
      exact BigFrame.wp_move _ rfl ⟨_, rfl, e1, Below.refl _ _⟩
    case o1 =>
      refine GdOp.plain rfl (fun A vs w' hF hT hb hd => ?_)
      have e1 : A.eval (.tmp 31) = .bool true := (hT 31 0 (by simp) rfl).trans (hd ⟨0, .data⟩ (by simp) rfl)
      exact BigFrame.wp_move _ rfl ⟨_, rfl, e1, Below.refl _ _⟩
    case o2 =>
      refine GdOp.taken rfl ⟨_, _, rfl, rfl, by simp⟩ (by kernel_rfl) (fun w v h => h) (fun A vs w' hF hT hb hd => ?_)
      have e1 : A.eval (.tmp 7) = .int .i64 0 := hF 7 rfl
      exact BigFrame.wp_move _ rfl ⟨_, rfl, e1, Below.refl _ _⟩
    case o3 =>
      refine GdOp.taken rfl ⟨_, _, rfl, rfl, by simp⟩ (by kernel_rfl) (fun w v h => h) (fun A vs w' hF hT hb hd => ?_)
      have e1 : A.eval (.tmp 33) = .int .i64 0 := (hT 33 2 (by simp) rfl).trans (hd ⟨2, .data⟩ (by simp) rfl)
      exact wp_eqlI rfl e1 rfl ⟨_, rfl, by simp; rfl, Below.refl _ _⟩
    case o4 =>
      refine GdOp.plain rfl (fun A vs w' hF hT hb hd => ?_)
      have e1 : A.eval (.tmp 32) = .bool true := (hT 32 1 (by simp) rfl).trans (hd ⟨1, .data⟩ (by simp) rfl)
      have e2 : A.eval (.tmp 34) = .bool true := (hT 34 3 (by simp) rfl).trans (hd ⟨3, .data⟩ (by simp) rfl)
      exact wp_pk rfl e1 (fun _ => e2) (by simp) ⟨_, rfl, rfl, Below.refl _ _⟩
    case o5 =>
      refine GdOp.plain rfl (fun A vs w' hF hT hb hd => ?_)
      have e1 : A.eval (.tmp 35) = .bool true := (hT 35 4 (by simp) rfl).trans (hd ⟨4, .data⟩ (by simp) rfl)
      exact BigFrame.wp_move _ rfl ⟨_, rfl, e1, Below.refl _ _⟩
    case o6 =>
      refine GdOp.taken rfl ⟨_, _, rfl, rfl, by simp⟩ (by kernel_rfl) (fun w v h => h) (fun A vs w' hF hT hb hd => ?_)
      have e1 : A.eval (.tmp 9) = .int .i64 0 := hF 9 rfl
      exact BigFrame.wp_move _ rfl ⟨_, rfl, e1, Below.refl _ _⟩
    case o7 =>
      refine GdOp.taken rfl ⟨_, _, rfl, rfl, by simp⟩ (by kernel_rfl) (fun w v h => h) (fun A vs w' hF hT hb hd => ?_)
      have e1 : A.eval (.tmp 37) = .int .i64 0 := (hT 37 6 (by simp) rfl).trans (hd ⟨6, .data⟩ (by simp) rfl)
      exact wp_eqlI rfl e1 rfl ⟨_, rfl, by simp; rfl, Below.refl _ _⟩
    case o8 =>
      refine GdOp.plain rfl (fun A vs w' hF hT hb hd => ?_)
      have e1 : A.eval (.tmp 36) = .bool true := (hT 36 5 (by simp) rfl).trans (hd ⟨5, .data⟩ (by simp) rfl)
      have e2 : A.eval (.tmp 38) = .bool true := (hT 38 7 (by simp) rfl).trans (hd ⟨7, .data⟩ (by simp) rfl)
      exact wp_pk rfl e1 (fun _ => e2) (by simp) ⟨_, rfl, rfl, Below.refl _ _⟩
    case o9 =>
      refine GdOp.plain rfl (fun A vs w' hF hT hb hd => ?_)
      have e1 : A.eval (.tmp 39) = .bool true := (hT 39 8 (by simp) rfl).trans (hd ⟨8, .data⟩ (by simp) rfl)
      exact BigFrame.wp_move _ rfl ⟨_, rfl, e1, Below.refl _ _⟩
    case o10 =>
      refine GdOp.taken rfl ⟨_, _, rfl, rfl, by simp⟩ (by kernel_rfl) (fun w v h => h) (fun A vs w' hF hT hb hd => ?_)
      have e1 : A.eval (.tmp 10) = .int .i64 (numB k1).length := hF 10 rfl
      exact BigFrame.wp_move _ rfl ⟨_, rfl, e1, Below.refl _ _⟩
    case o11 =>
      refine GdOp.taken rfl ⟨_, _, rfl, rfl, by simp⟩ (by kernel_rfl) (fun w v h => h) (fun A vs w' hF hT hb hd => ?_)
      have e1 : A.eval (.tmp 41) = .int .i64 (numB k1).length := (hT 41 10 (by simp) rfl).trans (hd ⟨10, .data⟩ (by simp) rfl)
      exact wp_geqI rfl e1 rfl ⟨_, rfl, by rw [DAA]; rfl, Below.refl _ _⟩
    case o12 =>
      refine GdOp.plain rfl (fun A vs w' hF hT hb hd => ?_)
      have e1 : A.eval (.tmp 40) = .bool true := (hT 40 9 (by simp) rfl).trans (hd ⟨9, .data⟩ (by simp) rfl)
      have e2 : A.eval (.tmp 42) = .bool true := (hT 42 11 (by simp) rfl).trans (hd ⟨11, .data⟩ (by simp) rfl)
      exact wp_pk rfl e1 (fun _ => e2) (by simp) ⟨_, rfl, rfl, Below.refl _ _⟩
    case o13 =>
      refine GdOp.plain rfl (fun A vs w' hF hT hb hd => ?_)
      have e1 : A.eval (.tmp 43) = .bool true := (hT 43 12 (by simp) rfl).trans (hd ⟨12, .data⟩ (by simp) rfl)
      exact BigFrame.wp_move _ rfl ⟨_, rfl, e1, Below.refl _ _⟩
    case o14 =>
      refine GdOp.taken rfl ⟨_, _, rfl, rfl, by simp⟩ (by kernel_rfl) (fun w v h => h) (fun A vs w' hF hT hb hd => ?_)
      have e1 : A.eval (.tmp 6) = .slice a2 (numB k1).length c2 := hF 6 rfl
      exact BigFrame.wp_move _ rfl ⟨_, rfl, e1, Below.refl _ _⟩
    case o15 =>
      refine GdOp.taken rfl ⟨_, _, rfl, rfl, by simp⟩ (by kernel_rfl) (fun w v h => h) (fun A vs w' hF hT hb hd => ?_)
      have e1 : A.eval (.tmp 10) = .int .i64 (numB k1).length := hF 10 rfl
      exact BigFrame.wp_move _ rfl ⟨_, rfl, e1, Below.refl _ _⟩
    case o16 =>
      refine GdOp.taken rfl ⟨_, _, rfl, rfl, by simp⟩ (by kernel_rfl) (fun w v h => h) (fun A vs w' hF hT hb hd => ?_)
      have e1 : A.eval (.tmp 45) = .slice a2 (numB k1).length c2 := (hT 45 14 (by simp) rfl).trans (hd ⟨14, .data⟩ (by simp) rfl)
      have e2 : A.eval (.tmp 46) = .int .i64 (numB k1).length := (hT 46 15 (by simp) rfl).trans (hd ⟨15, .data⟩ (by simp) rfl)
      exact wp_slice byP rfl e1 (r2.below hb) rfl (by simp [e2]) (run_bounds_h' _ (h := (numB k1).length) rfl (by omega)) (fun ad3 k3 c3 h3 => ⟨_, rfl, ⟨_, _, _, rfl, by simpa using h3.mono hb.size⟩, Below.refl _ _⟩) (by omega) (by omega)
    case o17 =>
      refine GdOp.taken rfl ⟨_, _, rfl, rfl, by simp⟩ (by kernel_rfl) (fun w v h => h) (fun A vs w' hF hT hb hd => ?_)
      obtain ⟨ad1, kk1, cc1, qq1, hr1⟩ := hd ⟨16, .data⟩ (by simp) rfl
      have e1 : A.eval (.tmp 47) = .slice ad1 kk1 cc1 := (hT 47 16 (by simp) rfl).trans qq1
      exact wp_conv byP rfl e1 hr1 ⟨_, rfl, rfl, Below.refl _ _⟩
    case o18 =>
      refine GdOp.taken rfl ⟨_, _, rfl, rfl, by simp⟩ (by kernel_rfl) (fun w v h => h) (fun A vs w' hF hT hb hd => ?_)
      have e1 : A.eval (.tmp 8) = .slice a3 (numB k2).length c3 := hF 8 rfl
      exact BigFrame.wp_move _ rfl ⟨_, rfl, e1, Below.refl _ _⟩
    case o19 =>
      refine GdOp.taken rfl ⟨_, _, rfl, rfl, by simp⟩ (by kernel_rfl) (fun w v h => h) (fun A vs w' hF hT hb hd => ?_)
      have e1 : A.eval (.tmp 10) = .int .i64 (numB k1).length := hF 10 rfl
      exact BigFrame.wp_move _ rfl ⟨_, rfl, e1, Below.refl _ _⟩
    case o20 =>
      refine GdOp.taken rfl ⟨_, _, rfl, rfl, by simp⟩ (by kernel_rfl) (fun w v h => h) (fun A vs w' hF hT hb hd => ?_)
      have e1 : A.eval (.tmp 49) = .slice a3 (numB k2).length c3 := (hT 49 18 (by simp) rfl).trans (hd ⟨18, .data⟩ (by simp) rfl)
      have e2 : A.eval (.tmp 50) = .int .i64 (numB k1).length := (hT 50 19 (by simp) rfl).trans (hd ⟨19, .data⟩ (by simp) rfl)
      exact wp_slice byP rfl e1 (r3.below hb) rfl (by simp [e2]) (run_bounds_h' _ (h := (numB k1).length) rfl (by omega)) (fun ad3 k3 c3 h3 => ⟨_, rfl, ⟨_, _, _, rfl, by simpa using h3.mono hb.size⟩, Below.refl _ _⟩) (by omega) (by omega)
    case o21 =>
      refine GdOp.taken rfl ⟨_, _, rfl, rfl, by simp⟩ (by kernel_rfl) (fun w v h => h) (fun A vs w' hF hT hb hd => ?_)
      obtain ⟨ad1, kk1, cc1, qq1, hr1⟩ := hd ⟨20, .data⟩ (by simp) rfl
      have e1 : A.eval (.tmp 51) = .slice ad1 kk1 cc1 := (hT 51 20 (by simp) rfl).trans qq1
      exact wp_conv byP rfl e1 hr1 ⟨_, rfl, rfl, Below.refl _ _⟩
    case o22 =>
      refine GdOp.taken rfl ⟨_, _, rfl, rfl, by simp⟩ (by kernel_rfl) (fun w v h => h) (fun A vs w' hF hT hb hd => ?_)
      have e1 : A.eval (.tmp 48) = .string (strOf ((numB k1).take (numB k1).length)) := (hT 48 17 (by simp) rfl).trans (hd ⟨17, .data⟩ (by simp) rfl)
      have e2 : A.eval (.tmp 52) = .string (strOf ((numB k2).take (numB k1).length)) := (hT 52 21 (by simp) rfl).trans (hd ⟨21, .data⟩ (by simp) rfl)
      exact wp_eqlS rfl e1 e2 ⟨_, rfl, rfl, Below.refl _ _⟩
    case o23 =>
      refine GdOp.taken rfl ⟨_, _, rfl, rfl, by simp⟩ (by kernel_rfl) (fun w v h => h) (fun A vs w' hF hT hb hd => ?_)
      have e1 : A.eval (.tmp 0) = .int .u32 a := hF 0 rfl
      exact BigFrame.wp_move _ rfl ⟨_, rfl, e1, Below.refl _ _⟩
    case o24 =>
      refine GdOp.taken rfl ⟨_, _, rfl, rfl, by simp⟩ (by kernel_rfl) (fun w v h => h) (fun A vs w' hF hT hb hd => ?_)
      have e1 : A.eval (.tmp 54) = .int .u32 a := (hT 54 23 (by simp) rfl).trans (hd ⟨23, .data⟩ (by simp) rfl)
      exact wp_remU rfl e1 rfl (by omega) (by omega) ⟨_, rfl, rfl, Below.refl _ _⟩
    case o25 =>
      refine GdOp.taken rfl ⟨_, _, rfl, rfl, by simp⟩ (by kernel_rfl) (fun w v h => h) (fun A vs w' hF hT hb hd => ?_)
      have e1 : A.eval (.tmp 1) = .int .u32 b := hF 1 rfl
      exact BigFrame.wp_move _ rfl ⟨_, rfl, e1, Below.refl _ _⟩
    case o26 =>
      refine GdOp.taken rfl ⟨_, _, rfl, rfl, by simp⟩ (by kernel_rfl) (fun w v h => h) (fun A vs w' hF hT hb hd => ?_)
      have e1 : A.eval (.tmp 56) = .int .u32 b := (hT 56 25 (by simp) rfl).trans (hd ⟨25, .data⟩ (by simp) rfl)
      exact wp_remU rfl e1 rfl (by omega) (by omega) ⟨_, rfl, rfl, Below.refl _ _⟩
    case o27 =>
      refine GdOp.taken rfl ⟨_, _, rfl, rfl, by simp⟩ (by kernel_rfl) (fun w v h => h) (fun A vs w' hF hT hb hd => ?_)
      have e1 : A.eval (.tmp 55) = .int .u32 (a % 2147483648) := (hT 55 24 (by simp) rfl).trans (hd ⟨24, .data⟩ (by simp) rfl)
      have e2 : A.eval (.tmp 57) = .int .u32 (b % 2147483648) := (hT 57 26 (by simp) rfl).trans (hd ⟨26, .data⟩ (by simp) rfl)
      exact wp_eqlI rfl e1 e2 ⟨_, rfl, rfl, Below.refl _ _⟩
    case o28 =>
      refine GdOp.taken rfl ⟨_, _, rfl, rfl, by simp⟩ (by kernel_rfl) (fun w v h => h) (fun A vs w' hF hT hb hd => ?_)
      have e1 : A.eval (.tmp 53) = .bool (decide ((numB k1).take (numB k1).length = (numB k2).take (numB k1).length)) := (hT 53 22 (by simp) rfl).trans (hd ⟨22, .data⟩ (by simp) rfl)
      have e2 : A.eval (.tmp 58) = .bool (decide (a % 2147483648 = b % 2147483648)) := (hT 58 27 (by simp) rfl).trans (hd ⟨27, .data⟩ (by simp) rfl)
      exact wp_eqlB (by kernel_rfl) rfl e1 e2 ⟨_, rfl, by rw [HD.out, beq_self_eq_true]; rfl, Below.refl _ _⟩
    case o29 =>
      refine GdOp.plain rfl (fun A vs w' hF hT hb hd => ?_)
      have e1 : A.eval (.tmp 44) = .bool true := (hT 44 13 (by simp) rfl).trans (hd ⟨13, .data⟩ (by simp) rfl)
      have e2 : A.eval (.tmp 59) = .bool true := (hT 59 28 (by simp) rfl).trans (hd ⟨28, .data⟩ (by simp) rfl)
      exact wp_pk rfl e1 (fun _ => e2) (by simp) ⟨_, rfl, rfl, Below.refl _ _⟩
    case o30 =>
      refine GdOp.plain rfl (fun A vs w' hF hT hb hd => ?_)
      have e1 : A.eval (.tmp 60) = .bool true := (hT 60 29 (by simp) rfl).trans (hd ⟨29, .data⟩ (by simp) rfl)
      exact BigFrame.wp_assign _ rfl ⟨_, rfl, e1, Below.refl _ _⟩
    case fin =>
      intro A vs w' hA hb hG
      have e6 : A.eval (.tmp 4) = .bool true := (hA.2.2.2 4 30 (by simp) rfl).trans (hG 30 (by decide))
      have hd : A.defers = [] := hA.1
      clear hG hA
      go_wp2
      refine bodyPost_ret (v := .bool true) ?_ hd ⟨rfl, q.trans (hb.mono q.size)⟩
      rw [← e6]
      exact results_tmp rfl _ _ _
end Go.Proofs.Ytekimaaifckehaa
