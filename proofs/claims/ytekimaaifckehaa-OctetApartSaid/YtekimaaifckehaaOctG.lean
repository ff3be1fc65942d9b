/-
  THE WALK OF awake: the examples that every law of octet tries first: true, and nothing that lay has turned.
-/
import Derived.WalkKit
import Derived.WalkSpells
import Derived.WalkLawsBesides
import Derived.Lib.Hide
import Derived.Test.YtekimaaifckehaaProg
import Derived.Test.YtekimaaifckehaaNum
import Derived.Test.YtekimaaifckehaaByte
import Derived.Test.YtekimaaifckehaaOctA
import Derived.Test.YtekimaaifckehaaOctE
import Derived.Test.YtekimaaifckehaaOctF
import Derived.Test.YtekimaaifckehaaSeq
import Derived.Shelf.Abstract
import Derived.Deep.Cut
namespace Go.Proofs.Ytekimaaifckehaa
open Go.RowKit Go.Shelf

theorem numB_300 : numB 300 = [172, 2] := by rw [numB_ge (by omega), numB_lt (by omega)]; rfl
theorem takeS_ex1 : takeS [172, 2, 9] = (300, [9], 0) := by
  have h := takeN_numB 300 [9] (by omega)
  rw [numB_300] at h
  have h2 : takeN [172, 2, 9] = some (300, 2) := h
  simp [takeS, h2]
theorem takeS_ex2 : takeS [128, 0] = (0, [], 10) := by
  have hd : dec 5 [128, 0] = some (0, 2) := by rfl
  have hz : numB 0 = [0] := by rw [numB_lt (by omega)]; rfl
  simp [takeS, takeN, hd, hz]
theorem textB_ex : textB [97, 98] = [2, 97, 98] := by
  have h2 : numB 2 = [2] := by rw [numB_lt (by omega)]; rfl
  simp [textB, h2]
theorem takeTextS_ex1 : takeTextS [2, 97, 98, 5] = ([97, 98], [5], 0) := by
  have h2 : numB 2 = [2] := by rw [numB_lt (by omega)]; rfl
  have h := takeN_numB 2 [97, 98, 5] (by omega)
  rw [h2] at h
  have h3 : takeN [2, 97, 98, 5] = some (2, 1) := h
  simp [takeTextS, takeS, h3]
theorem takeTextS_ex2 : takeTextS [1] = ([], [], 10) := by
  have h2 : numB 1 = [1] := by rw [numB_lt (by omega)]; rfl
  have h := takeN_numB 1 [] (by omega)
  rw [h2] at h
  have h3 : takeN [1] = some (1, 1) := h
  simp [takeTextS, takeS, h3]

set_option maxRecDepth 100000 in
set_option maxHeartbeats 4000000 in
theorem awake_any (w : World) : Calls Try.prog 10 #[] w fun e w' => e = .returned (.bool true) ∧ Below w.heap.size w w' := by
  have hK := Known.nil w
  have hb0 : Below w.heap.size w w := Below.refl _ _
  go_enter Try.func10, Try.ntmps10
  dsimp only [List.append]
  go_wp2_with (refine wpList_lit byP rfl [7] rfl rfl rfl ?_ (by simp); intro g1 k1 w1 hF; replace hK := hK.fresh hF; replace hb0 := hb0.trans (hF.1.mono hb0.size); clear hF)
  refine (number_yes 300 (by omega) _ (hK.at 0 rfl) (Nat.le_refl _) (by simp)).mono ?_
  rintro e w2 ⟨a2, k2, c2, rfl, hF⟩
  replace hK := hK.fresh hF; replace hb0 := hb0.trans (hF.1.mono hb0.size); clear hF
  rw [numB_300] at hK
  go_wp2_with (refine wpList_lit byP rfl [172, 2, 9] rfl rfl rfl ?_ (by simp); intro g3 k3 w3 hF; replace hK := hK.fresh hF; replace hb0 := hb0.trans (hF.1.mono hb0.size); clear hF)
  refine (take_any _ (hK.at 0 rfl) (Nat.le_refl _) (by simp)).mono ?_
  rintro e w4 ⟨a4, k4, c4, rfl, hF⟩
  rw [takeS_ex1] at hF
  simp only [takeS_ex1]
  replace hK := hK.fresh hF; replace hb0 := hb0.trans (hF.1.mono hb0.size); clear hF
  go_wp2_with fail
  refine (number_no _ _ _ (by omega)).mono ?_
  rintro e w5 ⟨rfl, rfl⟩
  go_wp2_with (refine wpList_lit byP rfl [128, 0] rfl rfl rfl ?_ (by simp); intro g6 k6 w6 hF; replace hK := hK.fresh hF; replace hb0 := hb0.trans (hF.1.mono hb0.size); clear hF)
  refine (take_any _ (hK.at 0 rfl) (Nat.le_refl _) (by simp)).mono ?_
  rintro e w7 ⟨a7, k7, c7, rfl, hF⟩
  rw [takeS_ex2] at hF
  simp only [takeS_ex2]
  replace hK := hK.fresh hF; replace hb0 := hb0.trans (hF.1.mono hb0.size); clear hF
  go_wp2_with (refine wpList_const byP rfl (fun _ => rfl) rfl rfl (by simp) rfl [97, 98] (by simp [bv, Act.eval]) rfl (by simp) ?_; intro u8 g8 k8 w8 hb8 hr8; replace hK := hK.add hb8 hr8; replace hb0 := hb0.trans (hb8.mono hb0.size); clear hb8 hr8)
  refine (text_yes _ (Rd.nil _ _) (hK.at 0 rfl) (Nat.le_refl _) (by simp) (by simp)).mono ?_
  rintro e w9 ⟨a9, k9, c9, rfl, hF⟩
  rw [textB_ex] at hF
  replace hK := hK.fresh hF; replace hb0 := hb0.trans (hF.1.mono hb0.size); clear hF
  go_wp2_with (first
    | (refine wpList_lit byP rfl [] rfl rfl rfl ?_ (by simp); intro g10 k10 w10 hF10; have hK10 := hK.below hF10.1)
    | (at_builtin; refine wpList_append byP rfl rfl rfl hF10.2 rfl (hK10.at 0 rfl) hF10.1.size ?_ ?hl11; intro a11 k11 c11 w11 hO11 hg11 hb11)
    | (refine wpList_lit byP rfl [5] rfl rfl rfl ?_ (by simp); intro g12 k12 w12 hF12; have hO12 := hO11.below hF12.1; have hs12 := Nat.le_trans hF10.1.size (Nat.le_trans hb11.size hF12.1.size))
    | (at_builtin; refine wpList_append byP rfl rfl rfl hO12 rfl hF12.rd hs12 ?_ ?hl13; intro a13 k13 c13 w13 hO13 hg13 hb13))
  case hl11 => simp
  case hl13 => simp
  have hb9 : Below w9.heap.size w9 w13 := ((hF10.1.trans hb11).trans (hF12.1.mono (Nat.le_trans hF10.1.size hb11.size))).trans hb13
  replace hK := hK.below hb9
  replace hb0 := hb0.trans (hb9.mono hb0.size)
  have hr13 := hO13.rd
  simp only [List.nil_append, List.cons_append] at hr13
  clear hF10 hK10 hO11 hg11 hb11 hF12 hO12 hs12 hO13 hg13 hb13 hb9
  refine (takeText_any _ hr13 (Nat.le_refl _) (by simp)).mono ?_
  rintro e w14 ⟨a14, k14, c14, a15, k15, c15, rfl, hF14, hF15⟩
  rw [takeTextS_ex1] at hF14 hF15
  simp only [takeTextS_ex1]
  replace hK := (hK.fresh hF14).cons hF15.rd
  replace hb0 := hb0.trans (hF14.1.mono hb0.size)
  clear hF14 hF15 hr13
  go_wp2_with (refine wpList_lit byP rfl [1] rfl rfl rfl ?_ (by simp); intro g16 k16 w16 hF; replace hK := hK.fresh hF; replace hb0 := hb0.trans (hF.1.mono hb0.size); clear hF)
  refine (takeText_any _ (hK.at 0 rfl) (Nat.le_refl _) (by simp)).mono ?_
  rintro e w17 ⟨a17, k17, c17, a18, k18, c18, rfl, hF17, hF18⟩
  rw [takeTextS_ex2] at hF17 hF18
  simp only [takeTextS_ex2]
  replace hK := (hK.fresh hF17).cons hF18.rd
  replace hb0 := hb0.trans (hF17.1.mono hb0.size)
  clear hF17 hF18
  have r2 := hK.get (v := .slice a2 k2 c2) (xs := [7, 172, 2]) (by simp)
  have r4 := hK.get (v := .slice a4 k4 c4) (xs := [9]) (by simp)
  have r9 := hK.get (v := .slice a9 k9 c9) (xs := [2, 97, 98]) (by simp)
  have r14 := hK.get (v := .slice a14 k14 c14) (xs := [97, 98]) (by simp)
  have r15 := hK.get (v := .slice a15 k15 c15) (xs := [5]) (by simp)
  have es : ∀ args w, (callFunc 15 args).run Try.prog w = .ok (.enter 15 args) w := enters_of Try.func15 (by kernel_rfl) rfl
  go_upto_region 8 with (fail)
  refine wp_region_seq (by kernel_rfl) (by kernel_rfl) [sgEq (.slice a2 k2 c2), sgEq (.string (strOf [7, 172, 2])), sgRd [7, 172, 2], sgEq (.string (strOf [7, 172, 2])), sgEq (.bool true), sgEq (.bool true), sgEq (.int .i64 0), sgEq (.bool true), sgEq (.bool true), sgEq (.bool true), sgEq (.int .i64 300), sgEq (.bool true), sgEq (.bool true), sgEq (.bool true), sgEq (.slice a4 k4 c4), sgEq (.string (strOf [9])), sgRd [9], sgEq (.string (strOf [9])), sgEq (.bool true), sgEq (.bool true), sgEq (.bool true), sgEq (.int .i64 0), sgEq (.bool true), sgEq (.bool true), sgEq (.bool true), sgEq (.int .i64 10), sgEq (.bool true), sgEq (.bool true), sgEq (.bool true), sgEq (.int .i64 10), sgEq (.bool true), sgEq (.bool true), sgEq (.bool true), sgEq (.slice a9 k9 c9), sgEq (.string (strOf [2, 97, 98])), sgRd [2, 97, 98], sgEq (.string (strOf [2, 97, 98])), sgEq (.bool true), sgEq (.bool true), sgEq (.bool true), sgEq (.int .i64 0), sgEq (.bool true), sgEq (.bool true), sgEq (.bool true), sgEq (.slice a14 k14 c14), sgEq (.string (strOf [97, 98])), sgEq (.bool true), sgEq (.bool true), sgEq (.bool true), sgEq (.slice a15 k15 c15), sgEq (.string (strOf [5])), sgRd [5], sgEq (.string (strOf [5])), sgEq (.bool true), sgEq (.bool true), sgEq (.bool true), sgEq (.int .i64 0), sgEq (.bool true), sgEq (.bool true), sgEq (.bool true), sgEq (.int .i64 10), sgEq (.bool true), sgEq (.bool true), sgEq (.bool true), sgEq (.int .i64 2), sgEq (.bool true), sgEq (.bool true), sgEq (.bool true), sgEq (.int .i64 0), sgEq (.bool true), sgEq (.bool true), sgEq (.bool true), sgEq (.bool true), sgEq (.bool true), sgEq (.bool true), sgEq (.bool true)]
    ⟨?o0, ?o1, ?o2, ?o3, ?o4, ?o5, ?o6, ?o7, ?o8, ?o9, ?o10, ?o11, ?o12, ?o13, ?o14, ?o15, ?o16, ?o17, ?o18, ?o19, ?o20, ?o21, ?o22, ?o23, ?o24, ?o25, ?o26, ?o27, ?o28, ?o29, ?o30, ?o31, ?o32, ?o33, ?o34, ?o35, ?o36, ?o37, ?o38, ?o39, ?o40, ?o41, ?o42, ?o43, ?o44, ?o45, ?o46, ?o47, ?o48, ?o49, ?o50, ?o51, ?o52, ?o53, ?o54, ?o55, ?o56, ?o57, ?o58, ?o59, ?o60, ?o61, ?o62, ?o63, ?o64, ?o65, ?o66, ?o67, ?o68, ?o69, ?o70, ?o71, ?o72, ?o73, ?o74, ?o75, trivial⟩ ?fin
  case o0 =>
    refine ⟨trivial, fun A vs w' hF hT hb hd => ?_⟩
    have e1 : A.eval (.tmp 1) = .slice a2 k2 c2 := hF 1 rfl
    exact BigFrame.wp_move _ rfl ⟨_, rfl, e1, Below.refl _ _⟩
  case o1 =>
    refine ⟨trivial, fun A vs w' hF hT hb hd => ?_⟩
    have e1 : A.eval (.tmp 62) = .slice a2 k2 c2 := (hT 62 0 (by simp) rfl).trans (hd 0 (by omega))
    exact wp_conv byP rfl e1 (Rd.below r2 hb) ⟨_, rfl, rfl, Below.refl _ _⟩
  case o2 =>
    refine ⟨trivial, fun A vs w' hF hT hb hd => ?_⟩
    exact wp_lit byP rfl [7, 172, 2] rfl rfl (by simp) fun g k w2 h2 => ⟨_, rfl, ⟨_, _, _, rfl, h2.rd⟩, h2.1⟩
  case o3 =>
    refine ⟨trivial, fun A vs w' hF hT hb hd => ?_⟩
    obtain ⟨ad1, kk1, cc1, q1, hr1⟩ := hd 2 (by omega)
    have e1 : A.eval (.tmp 64) = .slice ad1 kk1 cc1 := (hT 64 2 (by simp) rfl).trans q1
    exact wp_conv byP rfl e1 hr1 ⟨_, rfl, rfl, Below.refl _ _⟩
  case o4 =>
    refine ⟨trivial, fun A vs w' hF hT hb hd => ?_⟩
    have e1 : A.eval (.tmp 63) = .string (strOf [7, 172, 2]) := (hT 63 1 (by simp) rfl).trans (hd 1 (by omega))
    have e2 : A.eval (.tmp 65) = .string (strOf [7, 172, 2]) := (hT 65 3 (by simp) rfl).trans (hd 3 (by omega))
    exact wp_eql_str rfl e1 e2 ⟨_, rfl, rfl, Below.refl _ _⟩
  case o5 =>
    refine ⟨trivial, fun A vs w' hF hT hb hd => ?_⟩
    have e1 : A.eval (.tmp 66) = .bool true := (hT 66 4 (by simp) rfl).trans (hd 4 (by omega))
    exact BigFrame.wp_move _ rfl ⟨_, rfl, e1, Below.refl _ _⟩
  case o6 =>
    refine ⟨⟨by omega, ⟨_, _, rfl, rfl⟩, fun w v h => h⟩, fun A vs w' hF hT hb hd => ?_⟩
    have e1 : A.eval (.tmp 2) = .int .i64 0 := hF 2 rfl
    exact BigFrame.wp_move _ rfl ⟨_, rfl, e1, Below.refl _ _⟩
  case o7 =>
    refine ⟨⟨by omega, ⟨_, _, rfl, rfl⟩, fun w v h => h⟩, fun A vs w' hF hT hb hd => ?_⟩
    have e1 : A.eval (.tmp 68) = .int .i64 0 := (hT 68 6 (by simp) rfl).trans (hd 6 (by omega))
    exact wp_eql_int rfl e1 rfl ⟨_, rfl, rfl, Below.refl _ _⟩
  case o8 =>
    refine ⟨trivial, fun A vs w' hF hT hb hd => ?_⟩
    have e1 : A.eval (.tmp 67) = .bool true := (hT 67 5 (by simp) rfl).trans (hd 5 (by omega))
    have e2 : A.eval (.tmp 69) = .bool true := (hT 69 7 (by simp) rfl).trans (hd 7 (by omega))
    exact wp_run (v := .bool true) (by simp [execOp, asBool, BigFrame.eval_const, e1, e2]) ⟨_, rfl, rfl, Below.refl _ _⟩
  case o9 =>
    refine ⟨trivial, fun A vs w' hF hT hb hd => ?_⟩
    have e1 : A.eval (.tmp 70) = .bool true := (hT 70 8 (by simp) rfl).trans (hd 8 (by omega))
    exact BigFrame.wp_move _ rfl ⟨_, rfl, e1, Below.refl _ _⟩
  case o10 =>
    refine ⟨⟨by omega, ⟨_, _, rfl, rfl⟩, fun w v h => h⟩, fun A vs w' hF hT hb hd => ?_⟩
    have e1 : A.eval (.tmp 3) = .int .i64 300 := hF 3 rfl
    exact BigFrame.wp_move _ rfl ⟨_, rfl, e1, Below.refl _ _⟩
  case o11 =>
    refine ⟨⟨by omega, ⟨_, _, rfl, rfl⟩, fun w v h => h⟩, fun A vs w' hF hT hb hd => ?_⟩
    have e1 : A.eval (.tmp 72) = .int .i64 300 := (hT 72 10 (by simp) rfl).trans (hd 10 (by omega))
    exact wp_eql_int rfl e1 rfl ⟨_, rfl, rfl, Below.refl _ _⟩
  case o12 =>
    refine ⟨trivial, fun A vs w' hF hT hb hd => ?_⟩
    have e1 : A.eval (.tmp 71) = .bool true := (hT 71 9 (by simp) rfl).trans (hd 9 (by omega))
    have e2 : A.eval (.tmp 73) = .bool true := (hT 73 11 (by simp) rfl).trans (hd 11 (by omega))
    exact wp_run (v := .bool true) (by simp [execOp, asBool, BigFrame.eval_const, e1, e2]) ⟨_, rfl, rfl, Below.refl _ _⟩
  case o13 =>
    refine ⟨trivial, fun A vs w' hF hT hb hd => ?_⟩
    have e1 : A.eval (.tmp 74) = .bool true := (hT 74 12 (by simp) rfl).trans (hd 12 (by omega))
    exact BigFrame.wp_move _ rfl ⟨_, rfl, e1, Below.refl _ _⟩
  case o14 =>
    refine ⟨⟨by omega, ⟨_, _, rfl, rfl⟩, fun w v h => h⟩, fun A vs w' hF hT hb hd => ?_⟩
    have e1 : A.eval (.tmp 4) = .slice a4 k4 c4 := hF 4 rfl
    exact BigFrame.wp_move _ rfl ⟨_, rfl, e1, Below.refl _ _⟩
  case o15 =>
    refine ⟨⟨by omega, ⟨_, _, rfl, rfl⟩, fun w v h => h⟩, fun A vs w' hF hT hb hd => ?_⟩
    have e1 : A.eval (.tmp 76) = .slice a4 k4 c4 := (hT 76 14 (by simp) rfl).trans (hd 14 (by omega))
    exact wp_conv byP rfl e1 (Rd.below r4 hb) ⟨_, rfl, rfl, Below.refl _ _⟩
  case o16 =>
    refine ⟨⟨by omega, ⟨_, _, rfl, rfl⟩, fun w v h => h⟩, fun A vs w' hF hT hb hd => ?_⟩
    exact wp_lit byP rfl [9] rfl rfl (by simp) fun g k w2 h2 => ⟨_, rfl, ⟨_, _, _, rfl, h2.rd⟩, h2.1⟩
  case o17 =>
    refine ⟨⟨by omega, ⟨_, _, rfl, rfl⟩, fun w v h => h⟩, fun A vs w' hF hT hb hd => ?_⟩
    obtain ⟨ad1, kk1, cc1, q1, hr1⟩ := hd 16 (by omega)
    have e1 : A.eval (.tmp 78) = .slice ad1 kk1 cc1 := (hT 78 16 (by simp) rfl).trans q1
    exact wp_conv byP rfl e1 hr1 ⟨_, rfl, rfl, Below.refl _ _⟩
  case o18 =>
    refine ⟨⟨by omega, ⟨_, _, rfl, rfl⟩, fun w v h => h⟩, fun A vs w' hF hT hb hd => ?_⟩
    have e1 : A.eval (.tmp 77) = .string (strOf [9]) := (hT 77 15 (by simp) rfl).trans (hd 15 (by omega))
    have e2 : A.eval (.tmp 79) = .string (strOf [9]) := (hT 79 17 (by simp) rfl).trans (hd 17 (by omega))
    exact wp_eql_str rfl e1 e2 ⟨_, rfl, rfl, Below.refl _ _⟩
  case o19 =>
    refine ⟨trivial, fun A vs w' hF hT hb hd => ?_⟩
    have e1 : A.eval (.tmp 75) = .bool true := (hT 75 13 (by simp) rfl).trans (hd 13 (by omega))
    have e2 : A.eval (.tmp 80) = .bool true := (hT 80 18 (by simp) rfl).trans (hd 18 (by omega))
    exact wp_run (v := .bool true) (by simp [execOp, asBool, BigFrame.eval_const, e1, e2]) ⟨_, rfl, rfl, Below.refl _ _⟩
  case o20 =>
    refine ⟨trivial, fun A vs w' hF hT hb hd => ?_⟩
    have e1 : A.eval (.tmp 81) = .bool true := (hT 81 19 (by simp) rfl).trans (hd 19 (by omega))
    exact BigFrame.wp_move _ rfl ⟨_, rfl, e1, Below.refl _ _⟩
  case o21 =>
    refine ⟨⟨by omega, ⟨_, _, rfl, rfl⟩, fun w v h => h⟩, fun A vs w' hF hT hb hd => ?_⟩
    have e1 : A.eval (.tmp 5) = .int .i64 0 := hF 5 rfl
    exact BigFrame.wp_move _ rfl ⟨_, rfl, e1, Below.refl _ _⟩
  case o22 =>
    refine ⟨⟨by omega, ⟨_, _, rfl, rfl⟩, fun w v h => h⟩, fun A vs w' hF hT hb hd => ?_⟩
    have e1 : A.eval (.tmp 83) = .int .i64 0 := (hT 83 21 (by simp) rfl).trans (hd 21 (by omega))
    exact wp_eql_int rfl e1 rfl ⟨_, rfl, rfl, Below.refl _ _⟩
  case o23 =>
    refine ⟨trivial, fun A vs w' hF hT hb hd => ?_⟩
    have e1 : A.eval (.tmp 82) = .bool true := (hT 82 20 (by simp) rfl).trans (hd 20 (by omega))
    have e2 : A.eval (.tmp 84) = .bool true := (hT 84 22 (by simp) rfl).trans (hd 22 (by omega))
    exact wp_run (v := .bool true) (by simp [execOp, asBool, BigFrame.eval_const, e1, e2]) ⟨_, rfl, rfl, Below.refl _ _⟩
  case o24 =>
    refine ⟨trivial, fun A vs w' hF hT hb hd => ?_⟩
    have e1 : A.eval (.tmp 85) = .bool true := (hT 85 23 (by simp) rfl).trans (hd 23 (by omega))
    exact BigFrame.wp_move _ rfl ⟨_, rfl, e1, Below.refl _ _⟩
  case o25 =>
    refine ⟨⟨by omega, ⟨_, _, rfl, rfl⟩, fun w v h => h⟩, fun A vs w' hF hT hb hd => ?_⟩
    have e1 : A.eval (.tmp 7) = .int .i64 10 := hF 7 rfl
    exact BigFrame.wp_move _ rfl ⟨_, rfl, e1, Below.refl _ _⟩
  case o26 =>
    refine ⟨⟨by omega, ⟨_, _, rfl, rfl⟩, fun w v h => h⟩, fun A vs w' hF hT hb hd => ?_⟩
    have e1 : A.eval (.tmp 87) = .int .i64 10 := (hT 87 25 (by simp) rfl).trans (hd 25 (by omega))
    exact wp_eql_int rfl e1 rfl ⟨_, rfl, rfl, Below.refl _ _⟩
  case o27 =>
    refine ⟨trivial, fun A vs w' hF hT hb hd => ?_⟩
    have e1 : A.eval (.tmp 86) = .bool true := (hT 86 24 (by simp) rfl).trans (hd 24 (by omega))
    have e2 : A.eval (.tmp 88) = .bool true := (hT 88 26 (by simp) rfl).trans (hd 26 (by omega))
    exact wp_run (v := .bool true) (by simp [execOp, asBool, BigFrame.eval_const, e1, e2]) ⟨_, rfl, rfl, Below.refl _ _⟩
  case o28 =>
    refine ⟨trivial, fun A vs w' hF hT hb hd => ?_⟩
    have e1 : A.eval (.tmp 89) = .bool true := (hT 89 27 (by simp) rfl).trans (hd 27 (by omega))
    exact BigFrame.wp_move _ rfl ⟨_, rfl, e1, Below.refl _ _⟩
  case o29 =>
    refine ⟨⟨by omega, ⟨_, _, rfl, rfl⟩, fun w v h => h⟩, fun A vs w' hF hT hb hd => ?_⟩
    have e1 : A.eval (.tmp 10) = .int .i64 10 := hF 10 rfl
    exact BigFrame.wp_move _ rfl ⟨_, rfl, e1, Below.refl _ _⟩
  case o30 =>
    refine ⟨⟨by omega, ⟨_, _, rfl, rfl⟩, fun w v h => h⟩, fun A vs w' hF hT hb hd => ?_⟩
    have e1 : A.eval (.tmp 91) = .int .i64 10 := (hT 91 29 (by simp) rfl).trans (hd 29 (by omega))
    exact wp_eql_int rfl e1 rfl ⟨_, rfl, rfl, Below.refl _ _⟩
  case o31 =>
    refine ⟨trivial, fun A vs w' hF hT hb hd => ?_⟩
    have e1 : A.eval (.tmp 90) = .bool true := (hT 90 28 (by simp) rfl).trans (hd 28 (by omega))
    have e2 : A.eval (.tmp 92) = .bool true := (hT 92 30 (by simp) rfl).trans (hd 30 (by omega))
    exact wp_run (v := .bool true) (by simp [execOp, asBool, BigFrame.eval_const, e1, e2]) ⟨_, rfl, rfl, Below.refl _ _⟩
  case o32 =>
    refine ⟨trivial, fun A vs w' hF hT hb hd => ?_⟩
    have e1 : A.eval (.tmp 93) = .bool true := (hT 93 31 (by simp) rfl).trans (hd 31 (by omega))
    exact BigFrame.wp_move _ rfl ⟨_, rfl, e1, Below.refl _ _⟩
  case o33 =>
    refine ⟨⟨by omega, ⟨_, _, rfl, rfl⟩, fun w v h => h⟩, fun A vs w' hF hT hb hd => ?_⟩
    have e1 : A.eval (.tmp 11) = .slice a9 k9 c9 := hF 11 rfl
    exact BigFrame.wp_move _ rfl ⟨_, rfl, e1, Below.refl _ _⟩
  case o34 =>
    refine ⟨⟨by omega, ⟨_, _, rfl, rfl⟩, fun w v h => h⟩, fun A vs w' hF hT hb hd => ?_⟩
    have e1 : A.eval (.tmp 95) = .slice a9 k9 c9 := (hT 95 33 (by simp) rfl).trans (hd 33 (by omega))
    exact wp_conv byP rfl e1 (Rd.below r9 hb) ⟨_, rfl, rfl, Below.refl _ _⟩
  case o35 =>
    refine ⟨⟨by omega, ⟨_, _, rfl, rfl⟩, fun w v h => h⟩, fun A vs w' hF hT hb hd => ?_⟩
    exact wp_lit byP rfl [2, 97, 98] rfl rfl (by simp) fun g k w2 h2 => ⟨_, rfl, ⟨_, _, _, rfl, h2.rd⟩, h2.1⟩
  case o36 =>
    refine ⟨⟨by omega, ⟨_, _, rfl, rfl⟩, fun w v h => h⟩, fun A vs w' hF hT hb hd => ?_⟩
    obtain ⟨ad1, kk1, cc1, q1, hr1⟩ := hd 35 (by omega)
    have e1 : A.eval (.tmp 97) = .slice ad1 kk1 cc1 := (hT 97 35 (by simp) rfl).trans q1
    exact wp_conv byP rfl e1 hr1 ⟨_, rfl, rfl, Below.refl _ _⟩
  case o37 =>
    refine ⟨⟨by omega, ⟨_, _, rfl, rfl⟩, fun w v h => h⟩, fun A vs w' hF hT hb hd => ?_⟩
    have e1 : A.eval (.tmp 96) = .string (strOf [2, 97, 98]) := (hT 96 34 (by simp) rfl).trans (hd 34 (by omega))
    have e2 : A.eval (.tmp 98) = .string (strOf [2, 97, 98]) := (hT 98 36 (by simp) rfl).trans (hd 36 (by omega))
    exact wp_eql_str rfl e1 e2 ⟨_, rfl, rfl, Below.refl _ _⟩
  case o38 =>
    refine ⟨trivial, fun A vs w' hF hT hb hd => ?_⟩
    have e1 : A.eval (.tmp 94) = .bool true := (hT 94 32 (by simp) rfl).trans (hd 32 (by omega))
    have e2 : A.eval (.tmp 99) = .bool true := (hT 99 37 (by simp) rfl).trans (hd 37 (by omega))
    exact wp_run (v := .bool true) (by simp [execOp, asBool, BigFrame.eval_const, e1, e2]) ⟨_, rfl, rfl, Below.refl _ _⟩
  case o39 =>
    refine ⟨trivial, fun A vs w' hF hT hb hd => ?_⟩
    have e1 : A.eval (.tmp 100) = .bool true := (hT 100 38 (by simp) rfl).trans (hd 38 (by omega))
    exact BigFrame.wp_move _ rfl ⟨_, rfl, e1, Below.refl _ _⟩
  case o40 =>
    refine ⟨⟨by omega, ⟨_, _, rfl, rfl⟩, fun w v h => h⟩, fun A vs w' hF hT hb hd => ?_⟩
    have e1 : A.eval (.tmp 12) = .int .i64 0 := hF 12 rfl
    exact BigFrame.wp_move _ rfl ⟨_, rfl, e1, Below.refl _ _⟩
  case o41 =>
    refine ⟨⟨by omega, ⟨_, _, rfl, rfl⟩, fun w v h => h⟩, fun A vs w' hF hT hb hd => ?_⟩
    have e1 : A.eval (.tmp 102) = .int .i64 0 := (hT 102 40 (by simp) rfl).trans (hd 40 (by omega))
    exact wp_eql_int rfl e1 rfl ⟨_, rfl, rfl, Below.refl _ _⟩
  case o42 =>
    refine ⟨trivial, fun A vs w' hF hT hb hd => ?_⟩
    have e1 : A.eval (.tmp 101) = .bool true := (hT 101 39 (by simp) rfl).trans (hd 39 (by omega))
    have e2 : A.eval (.tmp 103) = .bool true := (hT 103 41 (by simp) rfl).trans (hd 41 (by omega))
    exact wp_run (v := .bool true) (by simp [execOp, asBool, BigFrame.eval_const, e1, e2]) ⟨_, rfl, rfl, Below.refl _ _⟩
  case o43 =>
    refine ⟨trivial, fun A vs w' hF hT hb hd => ?_⟩
    have e1 : A.eval (.tmp 104) = .bool true := (hT 104 42 (by simp) rfl).trans (hd 42 (by omega))
    exact BigFrame.wp_move _ rfl ⟨_, rfl, e1, Below.refl _ _⟩
  case o44 =>
    refine ⟨⟨by omega, ⟨_, _, rfl, rfl⟩, fun w v h => h⟩, fun A vs w' hF hT hb hd => ?_⟩
    have e1 : A.eval (.tmp 13) = .slice a14 k14 c14 := hF 13 rfl
    exact BigFrame.wp_move _ rfl ⟨_, rfl, e1, Below.refl _ _⟩
  case o45 =>
    refine ⟨⟨by omega, ⟨_, _, rfl, rfl⟩, fun w v h => h⟩, fun A vs w' hF hT hb hd => ?_⟩
    have e1 : A.eval (.tmp 106) = .slice a14 k14 c14 := (hT 106 44 (by simp) rfl).trans (hd 44 (by omega))
    exact wp_conv byP rfl e1 (Rd.below r14 hb) ⟨_, rfl, rfl, Below.refl _ _⟩
  case o46 =>
    refine ⟨⟨by omega, ⟨_, _, rfl, rfl⟩, fun w v h => h⟩, fun A vs w' hF hT hb hd => ?_⟩
    have e1 : A.eval (.tmp 107) = .string (strOf [97, 98]) := (hT 107 45 (by simp) rfl).trans (hd 45 (by omega))
    exact wp_eql_str rfl e1 rfl ⟨_, rfl, rfl, Below.refl _ _⟩
  case o47 =>
    refine ⟨trivial, fun A vs w' hF hT hb hd => ?_⟩
    have e1 : A.eval (.tmp 105) = .bool true := (hT 105 43 (by simp) rfl).trans (hd 43 (by omega))
    have e2 : A.eval (.tmp 108) = .bool true := (hT 108 46 (by simp) rfl).trans (hd 46 (by omega))
    exact wp_run (v := .bool true) (by simp [execOp, asBool, BigFrame.eval_const, e1, e2]) ⟨_, rfl, rfl, Below.refl _ _⟩
  case o48 =>
    refine ⟨trivial, fun A vs w' hF hT hb hd => ?_⟩
    have e1 : A.eval (.tmp 109) = .bool true := (hT 109 47 (by simp) rfl).trans (hd 47 (by omega))
    exact BigFrame.wp_move _ rfl ⟨_, rfl, e1, Below.refl _ _⟩
  case o49 =>
    refine ⟨⟨by omega, ⟨_, _, rfl, rfl⟩, fun w v h => h⟩, fun A vs w' hF hT hb hd => ?_⟩
    have e1 : A.eval (.tmp 14) = .slice a15 k15 c15 := hF 14 rfl
    exact BigFrame.wp_move _ rfl ⟨_, rfl, e1, Below.refl _ _⟩
  case o50 =>
    refine ⟨⟨by omega, ⟨_, _, rfl, rfl⟩, fun w v h => h⟩, fun A vs w' hF hT hb hd => ?_⟩
    have e1 : A.eval (.tmp 111) = .slice a15 k15 c15 := (hT 111 49 (by simp) rfl).trans (hd 49 (by omega))
    exact wp_conv byP rfl e1 (Rd.below r15 hb) ⟨_, rfl, rfl, Below.refl _ _⟩
  case o51 =>
    refine ⟨⟨by omega, ⟨_, _, rfl, rfl⟩, fun w v h => h⟩, fun A vs w' hF hT hb hd => ?_⟩
    exact wp_lit byP rfl [5] rfl rfl (by simp) fun g k w2 h2 => ⟨_, rfl, ⟨_, _, _, rfl, h2.rd⟩, h2.1⟩
  case o52 =>
    refine ⟨⟨by omega, ⟨_, _, rfl, rfl⟩, fun w v h => h⟩, fun A vs w' hF hT hb hd => ?_⟩
    obtain ⟨ad1, kk1, cc1, q1, hr1⟩ := hd 51 (by omega)
    have e1 : A.eval (.tmp 113) = .slice ad1 kk1 cc1 := (hT 113 51 (by simp) rfl).trans q1
    exact wp_conv byP rfl e1 hr1 ⟨_, rfl, rfl, Below.refl _ _⟩
  case o53 =>
    refine ⟨⟨by omega, ⟨_, _, rfl, rfl⟩, fun w v h => h⟩, fun A vs w' hF hT hb hd => ?_⟩
    have e1 : A.eval (.tmp 112) = .string (strOf [5]) := (hT 112 50 (by simp) rfl).trans (hd 50 (by omega))
    have e2 : A.eval (.tmp 114) = .string (strOf [5]) := (hT 114 52 (by simp) rfl).trans (hd 52 (by omega))
    exact wp_eql_str rfl e1 e2 ⟨_, rfl, rfl, Below.refl _ _⟩
  case o54 =>
    refine ⟨trivial, fun A vs w' hF hT hb hd => ?_⟩
    have e1 : A.eval (.tmp 110) = .bool true := (hT 110 48 (by simp) rfl).trans (hd 48 (by omega))
    have e2 : A.eval (.tmp 115) = .bool true := (hT 115 53 (by simp) rfl).trans (hd 53 (by omega))
    exact wp_run (v := .bool true) (by simp [execOp, asBool, BigFrame.eval_const, e1, e2]) ⟨_, rfl, rfl, Below.refl _ _⟩
  case o55 =>
    refine ⟨trivial, fun A vs w' hF hT hb hd => ?_⟩
    have e1 : A.eval (.tmp 116) = .bool true := (hT 116 54 (by simp) rfl).trans (hd 54 (by omega))
    exact BigFrame.wp_move _ rfl ⟨_, rfl, e1, Below.refl _ _⟩
  case o56 =>
    refine ⟨⟨by omega, ⟨_, _, rfl, rfl⟩, fun w v h => h⟩, fun A vs w' hF hT hb hd => ?_⟩
    have e1 : A.eval (.tmp 15) = .int .i64 0 := hF 15 rfl
    exact BigFrame.wp_move _ rfl ⟨_, rfl, e1, Below.refl _ _⟩
  case o57 =>
    refine ⟨⟨by omega, ⟨_, _, rfl, rfl⟩, fun w v h => h⟩, fun A vs w' hF hT hb hd => ?_⟩
    have e1 : A.eval (.tmp 118) = .int .i64 0 := (hT 118 56 (by simp) rfl).trans (hd 56 (by omega))
    exact wp_eql_int rfl e1 rfl ⟨_, rfl, rfl, Below.refl _ _⟩
  case o58 =>
    refine ⟨trivial, fun A vs w' hF hT hb hd => ?_⟩
    have e1 : A.eval (.tmp 117) = .bool true := (hT 117 55 (by simp) rfl).trans (hd 55 (by omega))
    have e2 : A.eval (.tmp 119) = .bool true := (hT 119 57 (by simp) rfl).trans (hd 57 (by omega))
    exact wp_run (v := .bool true) (by simp [execOp, asBool, BigFrame.eval_const, e1, e2]) ⟨_, rfl, rfl, Below.refl _ _⟩
  case o59 =>
    refine ⟨trivial, fun A vs w' hF hT hb hd => ?_⟩
    have e1 : A.eval (.tmp 120) = .bool true := (hT 120 58 (by simp) rfl).trans (hd 58 (by omega))
    exact BigFrame.wp_move _ rfl ⟨_, rfl, e1, Below.refl _ _⟩
  case o60 =>
    refine ⟨⟨by omega, ⟨_, _, rfl, rfl⟩, fun w v h => h⟩, fun A vs w' hF hT hb hd => ?_⟩
    have e1 : A.eval (.tmp 18) = .int .i64 10 := hF 18 rfl
    exact BigFrame.wp_move _ rfl ⟨_, rfl, e1, Below.refl _ _⟩
  case o61 =>
    refine ⟨⟨by omega, ⟨_, _, rfl, rfl⟩, fun w v h => h⟩, fun A vs w' hF hT hb hd => ?_⟩
    have e1 : A.eval (.tmp 122) = .int .i64 10 := (hT 122 60 (by simp) rfl).trans (hd 60 (by omega))
    exact wp_eql_int rfl e1 rfl ⟨_, rfl, rfl, Below.refl _ _⟩
  case o62 =>
    refine ⟨trivial, fun A vs w' hF hT hb hd => ?_⟩
    have e1 : A.eval (.tmp 121) = .bool true := (hT 121 59 (by simp) rfl).trans (hd 59 (by omega))
    have e2 : A.eval (.tmp 123) = .bool true := (hT 123 61 (by simp) rfl).trans (hd 61 (by omega))
    exact wp_run (v := .bool true) (by simp [execOp, asBool, BigFrame.eval_const, e1, e2]) ⟨_, rfl, rfl, Below.refl _ _⟩
  case o63 =>
    refine ⟨trivial, fun A vs w' hF hT hb hd => ?_⟩
    have e1 : A.eval (.tmp 124) = .bool true := (hT 124 62 (by simp) rfl).trans (hd 62 (by omega))
    exact BigFrame.wp_move _ rfl ⟨_, rfl, e1, Below.refl _ _⟩
  case o64 =>
    refine ⟨⟨by omega, ⟨_, _, rfl, rfl⟩, fun w v h => h⟩, fun A vs w' hF hT hb hd => ?_⟩
    refine wp_callFn rfl es (args := #[.int .i64 300]) (by simp [Act.eval]) ((size_yes 300 _ (by omega) (by rw [numB_300]; simp)).mono ?_)
    rintro e w2 ⟨rfl, hb2⟩
    exact ⟨_, rfl, _, rfl, by rw [numB_300]; rfl, hb2⟩
  case o65 =>
    refine ⟨⟨by omega, ⟨_, _, rfl, rfl⟩, fun w v h => h⟩, fun A vs w' hF hT hb hd => ?_⟩
    have e1 : A.eval (.tmp 126) = .int .i64 2 := (hT 126 64 (by simp) rfl).trans (hd 64 (by omega))
    exact wp_eql_int rfl e1 rfl ⟨_, rfl, rfl, Below.refl _ _⟩
  case o66 =>
    refine ⟨trivial, fun A vs w' hF hT hb hd => ?_⟩
    have e1 : A.eval (.tmp 125) = .bool true := (hT 125 63 (by simp) rfl).trans (hd 63 (by omega))
    have e2 : A.eval (.tmp 127) = .bool true := (hT 127 65 (by simp) rfl).trans (hd 65 (by omega))
    exact wp_run (v := .bool true) (by simp [execOp, asBool, BigFrame.eval_const, e1, e2]) ⟨_, rfl, rfl, Below.refl _ _⟩
  case o67 =>
    refine ⟨trivial, fun A vs w' hF hT hb hd => ?_⟩
    have e1 : A.eval (.tmp 128) = .bool true := (hT 128 66 (by simp) rfl).trans (hd 66 (by omega))
    exact BigFrame.wp_move _ rfl ⟨_, rfl, e1, Below.refl _ _⟩
  case o68 =>
    refine ⟨⟨by omega, ⟨_, _, rfl, rfl⟩, fun w v h => h⟩, fun A vs w' hF hT hb hd => ?_⟩
    refine wp_callFn rfl es (args := #[.int .i64 (-1)]) (by simp [Act.eval]) ((size_no (-1) _ (by omega)).mono ?_)
    rintro e w2 ⟨rfl, rfl⟩
    exact ⟨_, rfl, _, rfl, rfl, Below.refl _ _⟩
  case o69 =>
    refine ⟨⟨by omega, ⟨_, _, rfl, rfl⟩, fun w v h => h⟩, fun A vs w' hF hT hb hd => ?_⟩
    have e1 : A.eval (.tmp 130) = .int .i64 0 := (hT 130 68 (by simp) rfl).trans (hd 68 (by omega))
    exact wp_eql_int rfl e1 rfl ⟨_, rfl, rfl, Below.refl _ _⟩
  case o70 =>
    refine ⟨trivial, fun A vs w' hF hT hb hd => ?_⟩
    have e1 : A.eval (.tmp 129) = .bool true := (hT 129 67 (by simp) rfl).trans (hd 67 (by omega))
    have e2 : A.eval (.tmp 131) = .bool true := (hT 131 69 (by simp) rfl).trans (hd 69 (by omega))
    exact wp_run (v := .bool true) (by simp [execOp, asBool, BigFrame.eval_const, e1, e2]) ⟨_, rfl, rfl, Below.refl _ _⟩
  case o71 =>
    refine ⟨trivial, fun A vs w' hF hT hb hd => ?_⟩
    have e1 : A.eval (.tmp 132) = .bool true := (hT 132 70 (by simp) rfl).trans (hd 70 (by omega))
    exact BigFrame.wp_move _ rfl ⟨_, rfl, e1, Below.refl _ _⟩
  case o72 =>
    refine ⟨trivial, fun A vs w' hF hT hb hd => ?_⟩
    have e1 : A.eval (.tmp 133) = .bool true := (hT 133 71 (by simp) rfl).trans (hd 71 (by omega))
    exact wp_run (v := .bool true) (by simp [execOp, asBool, BigFrame.eval_const, e1]) ⟨_, rfl, rfl, Below.refl _ _⟩
  case o73 =>
    refine ⟨trivial, fun A vs w' hF hT hb hd => ?_⟩
    have e1 : A.eval (.tmp 134) = .bool true := (hT 134 72 (by simp) rfl).trans (hd 72 (by omega))
    exact BigFrame.wp_move _ rfl ⟨_, rfl, e1, Below.refl _ _⟩
  case o74 =>
    refine ⟨trivial, fun A vs w' hF hT hb hd => ?_⟩
    have e1 : A.eval (.tmp 135) = .bool true := (hT 135 73 (by simp) rfl).trans (hd 73 (by omega))
    exact wp_run (v := .bool true) (by simp [execOp, asBool, BigFrame.eval_const, e1]) ⟨_, rfl, rfl, Below.refl _ _⟩
  case o75 =>
    refine ⟨trivial, fun A vs w' hF hT hb hd => ?_⟩
    have e1 : A.eval (.tmp 136) = .bool true := (hT 136 74 (by simp) rfl).trans (hd 74 (by omega))
    exact BigFrame.wp_assign _ rfl ⟨_, rfl, e1, Below.refl _ _⟩
  case fin =>
    intro vs w' hb hG
    have e5 : vs 75 = .bool true := hG 75 (by decide)
    simp only [putAll]
    go_wp2
    go_ret
    refine ⟨?_, hb0.trans (hb.mono hb0.size)⟩
    simp
end Go.Proofs.Ytekimaaifckehaa
