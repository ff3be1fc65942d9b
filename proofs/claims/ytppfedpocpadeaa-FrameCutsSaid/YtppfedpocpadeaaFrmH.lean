/-
  THE WALK OF awake: the examples that every law of frame tries first: true, and nothing that lay has turned.
-/
import Derived.WalkKit
import Derived.WalkSpells
import Derived.WalkLawsBesides
import Derived.Lib.Hide
import Derived.Test.YtppfedpocpadeaaProg
import Derived.Test.YtppfedpocpadeaaByte
import Derived.Test.YtppfedpocpadeaaMake
import Derived.Test.YtppfedpocpadeaaAux
import Derived.Test.YtppfedpocpadeaaFrmC
import Derived.Test.YtppfedpocpadeaaFrmF
namespace Go.Proofs.Ytppfedpocpadeaa
open Go.RowKit

theorem frameB_ex : frameB [1, 2] = [2, 1, 2, 3, 0, 4, 0] := by
  have h2 : numB 2 = [2] := by rw [numB_lt (by omega)]; rfl
  have h3 : sumT [1, 2] = 262147 := by decide
  simp only [frameB, textB, sumB, h3]
  simp [h2]
theorem readF_ex1 : readF [2, 1, 2, 3, 0, 4, 0, 9] = some [1, 2] := by
  have := readF_frame (ts := [1, 2]) [9] (by simp)
  rw [frameB_ex] at this
  exact this
theorem readF_ex2 : readF [2, 1, 2, 3, 0, 4] = none := by
  have := readF_cut (ts := [1, 2]) 6 (by simp) (by rw [frameB_ex]; simp)
  rw [frameB_ex] at this
  exact this
theorem textsF_ex : textsF [2, 1, 2, 3, 0, 4, 0, 2, 1, 2, 3, 0, 4, 0, 2, 1] = [[1, 2], [1, 2]] ∧ (framesB [[1, 2], [1, 2]]).length = 14 := by
  have h1 : framesB [[1, 2], [1, 2]] = [2, 1, 2, 3, 0, 4, 0, 2, 1, 2, 3, 0, 4, 0] := by simp [framesB, frameB_ex]
  have h2 := textsF_frames [[1, 2], [1, 2]] [2, 1] (by simp)
  have h3 := readF_cut (ts := [1, 2]) 2 (by simp) (by rw [frameB_ex]; simp)
  rw [frameB_ex] at h3
  have h4 : textsF [2, 1] = [] := textsF_none h3
  rw [h1, h4] at h2
  exact ⟨h2, by rw [h1]; rfl⟩
theorem read_ex1 (w : World) {B : Nat} {ad : Option Addr} {n c : Nat} (hr : Rd B w (.slice ad n c) [2, 1, 2, 3, 0, 4, 0, 9]) (hB : B ≤ w.heap.size) :
    Calls Try.prog 11 #[.slice ad n c] w fun e w' => ∃ ad c, e = .returned (.tuple #[.slice ad 2 c, .int .i64 7, .int .i64 0]) ∧ Rd w'.heap.size w' (.slice ad 2 c) [1, 2] ∧ Below w.heap.size w w' := by
  refine (read_any w hr hB).mono ?_
  rintro e w' ⟨ad', k', c', rfl, h2, h3⟩
  rw [(headF_some readF_ex1).1] at h2
  rw [(headF_some readF_ex1).2, errF_some readF_ex1, frameB_ex]
  obtain rfl := h2.len.1
  exact ⟨_, _, rfl, h2, h3⟩
theorem read_ex2 (w : World) {B : Nat} {ad : Option Addr} {n c : Nat} (hr : Rd B w (.slice ad n c) [2, 1, 2, 3, 0, 4]) (hB : B ≤ w.heap.size) :
    Calls Try.prog 11 #[.slice ad n c] w fun e w' => ∃ ad k c, e = .returned (.tuple #[.slice ad k c, .int .i64 0, .int .i64 30]) ∧ Below w.heap.size w w' := by
  refine (read_any w hr hB).mono ?_
  rintro e w' ⟨ad', k', c', rfl, _, h3⟩
  rw [(headF_none readF_ex2).2, errF_none readF_ex2]
  exact ⟨_, _, _, rfl, h3⟩
theorem all_ex (w : World) {B : Nat} {ad : Option Addr} {n c : Nat} (hr : Rd B w (.slice ad n c) [2, 1, 2, 3, 0, 4, 0, 2, 1, 2, 3, 0, 4, 0, 2, 1]) (hB : B ≤ w.heap.size) :
    Calls Try.prog 13 #[.slice ad n c] w fun e w' => ∃ ad c, e = .returned (.tuple #[.slice ad 2 c, .int .i64 14]) ∧ Below w.heap.size w w' := by
  refine (all_any w hr hB (by simp)).mono ?_
  rintro e w' ⟨ad', c', rfl, _, h3⟩
  rw [textsF_ex.1, textsF_ex.2]
  exact ⟨_, _, rfl, h3⟩
theorem write_ex (w : World) {B : Nat} {ad : Option Addr} {n c : Nat} (hr : Rd B w (.slice ad n c) [1, 2]) (hB : B ≤ w.heap.size) :
    Calls Try.prog 9 #[.slice ad n c] w fun e w' => ∃ ad' c', e = .returned (.tuple #[.slice ad' 7 c', .int .i64 0]) ∧ Fresh 5 w w' (.slice ad' 7 c') [2, 1, 2, 3, 0, 4, 0] := by
  refine (write_yes w hr hB (by simp)).mono ?_
  rintro e w' ⟨ad', k', c', rfl, hF⟩
  rw [frameB_ex] at hF
  obtain rfl := hF.len
  exact ⟨_, _, rfl, hF⟩

set_option maxRecDepth 100000 in
set_option maxHeartbeats 4000000 in
theorem awake3_any (w : World) : Calls Try.prog 8 #[] w fun e w' => e = .returned (.bool true) ∧ Below w.heap.size w w' := by
  have hb0 : Below w.heap.size w w := Below.refl _ _
  go_enter Try.func8, Try.ntmps8
  go_wp2_with (refine wpList_lit byP rfl [1, 2] rfl rfl rfl ?_ (by simp); intro g1 k1 w1 hF1; replace hb0 := hb0.trans (hF1.1.mono hb0.size))
  refine (write_ex _ hF1.rd (Nat.le_refl _)).mono ?_
  rintro e w2 ⟨a2, c2, rfl, hF⟩
  have r2 := hF.rd
  replace hb0 := hb0.trans (hF.1.mono hb0.size)
  clear hF hF1
  go_wp2_with (first
    | (refine wpList_lit byP rfl [] rfl rfl rfl ?_ (by simp); intro g10 k10 w10 hF10; have r10 := r2.below hF10.1)
    | (at_builtin; refine wpList_append byP rfl rfl rfl hF10.2 rfl r10 hF10.1.size ?_ ?hl11; intro a11 k11 c11 w11 hO11 hg11 hb11)
    | (refine wpList_lit byP rfl [9] rfl rfl rfl ?_ (by simp); intro g12 k12 w12 hF12; have hO12 := hO11.below hF12.1; have hs12 := Nat.le_trans hF10.1.size (Nat.le_trans hb11.size hF12.1.size))
    | (at_builtin; refine wpList_append byP rfl rfl rfl hO12 rfl hF12.rd hs12 ?_ ?hl13; intro a13 k13 c13 w13 hO13 hg13 hb13))
  case hl11 => simp
  case hl13 => simp
  have hb9 : Below w2.heap.size w2 w13 := ((hF10.1.trans hb11).trans (hF12.1.mono (Nat.le_trans hF10.1.size hb11.size))).trans hb13
  replace r2 := (r2.below hb9).mono hb9.size
  replace hb0 := hb0.trans (hb9.mono hb0.size)
  have hr13 := hO13.rd
  simp only [List.nil_append, List.cons_append] at hr13
  clear hF10 r10 hO11 hg11 hb11 hF12 hO12 hs12 hO13 hg13 hb13 hb9
  refine (read_ex1 _ hr13 (Nat.le_refl _)).mono ?_
  rintro e w14 ⟨a14, c14, rfl, r14, hb⟩
  replace r2 := (r2.below hb).mono hb.size
  replace hb0 := hb0.trans (hb.mono hb0.size)
  clear hb hr13
  go_wp2_with (refine wpList_lit byP rfl [2, 1, 2, 3, 0, 4] rfl rfl rfl ?_ (by simp); intro g15 k15 w15 hF15)
  have hb := hF15.1
  replace r2 := (r2.below hb).mono hb.size
  replace r14 := (r14.below hb).mono hb.size
  replace hb0 := hb0.trans (hb.mono hb0.size)
  refine (read_ex2 _ hF15.rd (Nat.le_refl _)).mono ?_
  clear hb hF15
  rintro e w16 ⟨a16, k16, c16, rfl, hb⟩
  replace r2 := (r2.below hb).mono hb.size
  replace r14 := (r14.below hb).mono hb.size
  replace hb0 := hb0.trans (hb.mono hb0.size)
  clear hb
  go_wp2_with (refine wpList_makeN byP rfl rfl (k := 2001) rfl rfl ?_ ?hk1 ?hk2; intro g17 w17 hF17)
  case hk1 => omega
  case hk2 => omega
  have hb := hF17.1
  replace r2 := (r2.below hb).mono hb.size
  replace r14 := (r14.below hb).mono hb.size
  replace hb0 := hb0.trans (hb.mono hb0.size)
  refine (write_no _ hF17.rd (Nat.le_refl _) (by rw [List.length_replicate]; omega)).mono ?_
  clear hb hF17
  rintro e w18 ⟨rfl, hb⟩
  replace r2 := (r2.below hb).mono hb.size
  replace r14 := (r14.below hb).mono hb.size
  replace hb0 := hb0.trans (hb.mono hb0.size)
  clear hb
  go_wp2_with (first
    | (refine wpList_lit byP rfl [] rfl rfl rfl ?_ (by simp); intro g20 k20 w20 hF20; have r20 := r2.below hF20.1)
    | (at_builtin; refine wpList_append byP rfl rfl rfl hF20.2 rfl r20 hF20.1.size ?_ ?hl21; intro a21 k21 c21 w21 hO21 hg21 hb21; have r21 := r20.below (hb21.mono (Nat.le_refl _)))
    | (at_builtin; refine wpList_append byP rfl rfl rfl hO21 rfl r21 (Nat.le_trans hF20.1.size hb21.size) ?_ ?hl22; intro a22 k22 c22 w22 hO22 hg22 hb22)
    | (refine wpList_lit byP rfl [2, 1] rfl rfl rfl ?_ (by simp); intro g23 k23 w23 hF23; have hO23 := hO22.below hF23.1; have hs23 := Nat.le_trans hF20.1.size (Nat.le_trans hb21.size (Nat.le_trans hb22.size hF23.1.size)))
    | (at_builtin; refine wpList_append byP rfl rfl rfl hO23 rfl hF23.rd hs23 ?_ ?hl24; intro a24 k24 c24 w24 hO24 hg24 hb24))
  case hl21 => simp
  case hl22 => simp
  case hl24 => simp
  have hb9 : Below w18.heap.size w18 w24 := (((hF20.1.trans hb21).trans hb22).trans (hF23.1.mono (Nat.le_trans hF20.1.size (Nat.le_trans hb21.size hb22.size)))).trans hb24
  replace r2 := (r2.below hb9).mono hb9.size
  replace r14 := (r14.below hb9).mono hb9.size
  replace hb0 := hb0.trans (hb9.mono hb0.size)
  have hr24 := hO24.rd
  simp only [List.nil_append, List.cons_append] at hr24
  clear hF20 r20 hO21 hg21 hb21 r21 hO22 hg22 hb22 hF23 hO23 hs23 hO24 hg24 hb24 hb9
  refine (all_ex _ hr24 (Nat.le_refl _)).mono ?_
  rintro e w25 ⟨a25, c25, rfl, hb⟩
  replace r2 := (r2.below hb).mono hb.size
  replace r14 := (r14.below hb).mono hb.size
  replace hb0 := hb0.trans (hb.mono hb0.size)
  clear hb hr24
  have r2' := fun (w' : World) (h : Below w25.heap.size w25 w') => r2.below h
  go_wp2_with (first
    | (refine wpList_conv byP rfl rfl rfl r2 ?_)
    | (refine wpList_lit byP rfl [2, 1, 2, 3, 0, 4, 0] rfl rfl rfl ?_ (by simp); intro g26 k26 w26 hF26; have r14b := r14.below hF26.1)
    | (refine wpList_conv byP rfl rfl rfl hF26.rd ?_)
    | (refine wpList_conv byP rfl rfl rfl r14b ?_)
    | (refine wpList_lit byP rfl [1, 2] rfl rfl rfl ?_ (by simp); intro g27 k27 w27 hF27)
    | (refine wpList_conv byP rfl rfl rfl hF27.rd ?_))
  go_ret
  exact ⟨rfl, hb0.trans ((hF26.1.trans (hF27.1.mono hF26.1.size)).mono hb0.size)⟩
end Go.Proofs.Ytppfedpocpadeaa
