/-
  THE WALK OF ChainInstalls: whatever versions, whatever one more, whatever stamp: true, and nothing that lay has turned; chain's functions by their contracts.
-/
import Derived.WalkKit
import Derived.WalkSpells
import Derived.WalkLawsBesides
import Derived.Lib.Hide
import Derived.Deep.Cut
import Derived.Shelf.Abstract
import Derived.Test.YtemdcpajcaaphaaProg
import Derived.Test.YtemdcpajcaaphaaByte
import Derived.Test.YtemdcpajcaaphaaAux
import Derived.Test.YtemdcpajcaaphaaVer
import Derived.Test.YtemdcpajcaaphaaVerM
import Derived.Test.YtemdcpajcaaphaaVerR
import Derived.Test.YtemdcpajcaaphaaVerD
import Derived.Test.YtemdcpajcaaphaaVerE
import Derived.Test.YtemdcpajcaaphaaVerF
import Derived.Test.YtemdcpajcaaphaaVerN
import Derived.Test.YtemdcpajcaaphaaVerX
namespace Go.Proofs.Ytemdcpajcaaphaa
open Go.RowKit Go.Shelf
theorem InstNew.to {w w' : World} {l m : List Ver} {x : Ver} {er : Nat} {e : Ending} (h : instV l x = (m, er)) (h2 : InstNew w l x e w') : ∃ a c, e = .returned (.tuple #[.slice a m.length c, .int .i64 (er : Nat)]) ∧ RdL Elt.ver (fun k => w.heap.size ≤ k ∧ k < w'.heap.size) w' (.slice a m.length c) m ∧ Below w.heap.size w w' := by
  unfold InstNew at h2; rw [h] at h2; exact h2
set_option maxRecDepth 100000 in
set_option maxHeartbeats 1200000 in
theorem ChainInstalls_w (hC : ChnC) (w : World) {a0 : Option Addr} {n0 c0 : Nat} {l : List Ver} (hl0 : RdL Elt.ver (· < w.heap.size) w (.slice a0 n0 c0) l) {x : Ver} {Ax : Option Addr} {nx Cx : Nat} (hx0 : RdS (· < w.heap.size) w (.slice Ax nx Cx) x.value) (hxi : I64' x.stamp) {s : Int} (hs : (Lit.int .i64 s).wf = true) :
    Calls Try.prog 5 #[.slice a0 n0 c0, .agg #[.int .i64 x.stamp, .bool x.gone, .slice Ax nx Cx], .int .i64 s] w fun e w' => e = .returned (.bool true) ∧ Below w.heap.size w w' := by
  obtain ⟨rfl, hnc, hcm⟩ := hl0.len
  obtain ⟨rfl, hxc, hxm⟩ := hx0.len
  have hlm : l.length ≤ 9223372036854775807 := by unfold maxLen at hcm; omega
  have hlx : x.value.length ≤ 9223372036854775807 := by unfold maxLen at hxm; omega
  replace hs := i64w hs
  have bx := TriV.new w 25 (.int .i64 x.stamp) (.bool x.gone) (.slice Ax x.value.length Cx)
  have q : Below w.heap.size w (w.alloc (.cells #[.int .i64 x.stamp, .bool x.gone, .slice Ax x.value.length Cx] 25)) := (Below.refl _ _).alloc (Nat.le_refl _) _
  go_enter Try.func5, Try.ntmps5
  go_wp2_with fail
  generalize w.alloc (.cells #[.int .i64 x.stamp, .bool x.gone, .slice Ax x.value.length Cx] 25) = W0 at *
  refine (hC.awake W0).mono ?_
  rintro e v1 ⟨rfl, hb⟩
  replace bx := bx.below hb bx.lt
  replace q := q.trans (hb.mono q.size)
  go_wp2_with fail
  refine (few_any _ (hl0.keep (w' := v1) (fun k hk => q.block k hk))).mono ?_
  rintro e v2 ⟨r, rfl, hf, rfl⟩
  have x2 := bx.cell2
  cases r
  · go_wp2_with fail
    go_ret
    exact ⟨rfl, q⟩
  obtain ⟨hn100, hv100⟩ := hf rfl
  by_cases hxl : 100 < x.value.length
  · have d : decide ((100 : Int) < x.value.length) = true := by rw [decide_eq_true_iff]; omega
    go_wp2_with fail
    go_ret
    exact ⟨rfl, q⟩
  have d : decide ((100 : Int) < x.value.length) = false := by rw [decide_eq_false_iff_not]; omega
  have hx100 : x.value.length ≤ 1000 := by omega
  have hsm : smallV l := ⟨by omega, fun y hy => by have := hv100 y hy; omega⟩
  clear hf hxl hv100
  have x0 := bx.cell0
  have x1 := bx.cell1
  go_wp2_with fail
  refine (hC.install _ (hl0.keep (w' := v2) (fun k hk => q.block k hk)) hsm (hx0.keep (fun k hk => q.block k hk)) hx100 hxi).mono ?_
  rintro e v3 hE
  clear x0 x1 x2 d
  rcases instV_cases l x with ⟨er, her, hv⟩ | ⟨hv, hk, hm, hst⟩
  · obtain ⟨am, cm, rfl, hM, hb⟩ := InstNew.to hv hE
    replace bx := bx.below hb bx.lt
    replace q := q.trans (hb.mono q.size)
    have de : ((er : Int) != 0) = true := by rw [bne_iff_ne]; omega
    clear hE hv her
    go_wp2_with fail
    refine (sameV_any _ hM (hl0.keep (w' := v3) (fun k hk => q.block k hk))).mono ?_
    rw [decide_eq_true (show l = l from rfl)]
    rintro e v4 ⟨rfl, hb⟩
    replace bx := bx.below hb bx.lt
    replace q := q.trans (hb.mono q.size)
    go_wp2_with fail
    go_ret
    exact ⟨rfl, q⟩
  obtain ⟨lx, hlx⟩ : ∃ lx, lx = l ++ [x] := ⟨_, rfl⟩
  rw [← hlx] at hv
  obtain ⟨am, cm, rfl, hM, hb⟩ := InstNew.to hv hE
  replace bx := bx.below hb bx.lt
  replace q := q.trans (hb.mono q.size)
  clear hE hv
  have hsm2 : smallV lx := by rw [hlx]; exact ⟨by rw [List.length_append]; simp; omega, fun y hy => (List.mem_append.1 hy).elim (fun h => hsm.2 y h) (fun h => by rw [List.mem_singleton.1 h]; exact hx100)⟩
  have hmi := mayV_i64 hm
  have hmi1 : I64' (x.stamp - 1) := ⟨by have := hm.1; omega, by have := hm.2.1; omega⟩
  have g1 : -9223372036854775808 ≤ x.stamp - 1 := hmi1.1
  have g2 : x.stamp - 1 ≤ 9223372036854775807 := hmi1.2
  have hnw := fun s => show newerV lx s = decide (s < x.stamp) by rw [hlx]; exact newer_snoc hk hm hst (s := s)
  by_cases hat : x.stamp ≤ s
  · have d1 : decide (x.stamp ≤ s) = true := decide_eq_true hat
    have hN1 := Lib.hid (show newerV lx s = false by rw [hnw, decide_eq_false_iff_not]; omega)
    have hN2 := Lib.hid (show newerV lx (x.stamp - 1) = true by rw [hnw, decide_eq_true_iff]; omega)
    cases hg : x.gone with
    | true =>
      have hr := Lib.hid (show readV lx s = none by rw [hlx]; exact read_snoc_gone hk hm hst hat hg)
      rw [hg] at bx
      clear hst hnw hk hat hlx
      go_wp2_with fail
      refine (hC.read _ hM hsm2 hs).mono ?_
      rintro e v5 hE
      obtain ⟨av, cv, rfl, hv, hb⟩ := ReadVEnd.none hr.out hE
      replace bx := bx.below hb bx.lt
      replace q := q.trans (hb.mono q.size)
      replace hM := hM.below hb
      clear hE hb
      go_wp2_with fail
      refine (hC.read _ (hl0.keep (w' := v5) (fun k hk => q.block k hk)) hsm hs).mono ?_
      rintro e v6 hE
      obtain ⟨ao, co, rfl, ho, hb⟩ : ∃ a c, e = .returned (.tuple #[.slice a ((readV l s).getD []).length c, .bool (readV l s).isSome]) ∧ RdS (fun k => v5.heap.size ≤ k ∧ k < v6.heap.size) v6 (.slice a ((readV l s).getD []).length c) ((readV l s).getD []) ∧ Below v5.heap.size v5 v6 := hE
      generalize ((readV l s).getD []).length = lo at *
      generalize (readV l s).isSome = io at *
      have hE := True.intro
      replace bx := bx.below hb bx.lt
      replace q := q.trans (hb.mono q.size)
      replace hM := hM.below hb
      replace hv := hv.below hb
      clear hE hb
      have x0 := bx.cell0
      have x1 := bx.cell1
      have x2 := bx.cell2
      go_wp2_with fail
      refine (hC.newer _ hM hsm2 hs).mono ?_
      rw [hN1.out]
      rintro e vn ⟨rfl, hb⟩
      clear x0 x1 x2
      replace bx := bx.below hb bx.lt
      replace q := q.trans (hb.mono q.size)
      replace hM := hM.below hb
      clear hb
      have x0 := bx.cell0
      have x1 := bx.cell1
      have x2 := bx.cell2
      go_wp2_with fail
      refine (hC.newer _ hM hsm2 hmi1).mono ?_
      rw [hN2.out]
      rintro e vn ⟨rfl, hb⟩
      clear x0 x1 x2
      replace bx := bx.below hb bx.lt
      replace q := q.trans (hb.mono q.size)
      replace hM := hM.below hb
      clear hb
      have x0 := bx.cell0
      have x1 := bx.cell1
      have x2 := bx.cell2
      go_wp2_with fail
      go_ret
      exact ⟨rfl, q⟩
    | false =>
      have hr := Lib.hid (show readV lx s = some x.value by rw [hlx]; exact read_snoc_some hk hm hst hat hg)
      rw [hg] at bx
      clear hst hnw hk hat hlx
      go_wp2_with fail
      refine (hC.read _ hM hsm2 hs).mono ?_
      rintro e v5 hE
      obtain ⟨av, cv, rfl, hv, hb⟩ := ReadVEnd.some hr.out hE
      replace bx := bx.below hb bx.lt
      replace q := q.trans (hb.mono q.size)
      replace hM := hM.below hb
      clear hE hb
      go_wp2_with fail
      refine (hC.read _ (hl0.keep (w' := v5) (fun k hk => q.block k hk)) hsm hs).mono ?_
      rintro e v6 hE
      obtain ⟨ao, co, rfl, ho, hb⟩ : ∃ a c, e = .returned (.tuple #[.slice a ((readV l s).getD []).length c, .bool (readV l s).isSome]) ∧ RdS (fun k => v5.heap.size ≤ k ∧ k < v6.heap.size) v6 (.slice a ((readV l s).getD []).length c) ((readV l s).getD []) ∧ Below v5.heap.size v5 v6 := hE
      generalize ((readV l s).getD []).length = lo at *
      generalize (readV l s).isSome = io at *
      have hE := True.intro
      replace bx := bx.below hb bx.lt
      replace q := q.trans (hb.mono q.size)
      replace hM := hM.below hb
      replace hv := hv.below hb
      clear hE hb
      have x0 := bx.cell0
      have x1 := bx.cell1
      have x2 := bx.cell2
      have hvr := hv.rd
      have hxr := (hx0.keep (w' := v6) (fun k hk => q.block k hk)).rd
      go_wp2_with (first | (refine wpList_conv byP rfl rfl rfl hvr ?_) | (refine wpList_conv byP rfl rfl rfl hxr ?_))
      clear hvr hxr
      refine (hC.newer _ hM hsm2 hs).mono ?_
      rw [hN1.out]
      rintro e vn ⟨rfl, hb⟩
      clear x0 x1 x2
      replace bx := bx.below hb bx.lt
      replace q := q.trans (hb.mono q.size)
      replace hM := hM.below hb
      clear hb
      have x0 := bx.cell0
      have x1 := bx.cell1
      have x2 := bx.cell2
      go_wp2_with fail
      refine (hC.newer _ hM hsm2 hmi1).mono ?_
      rw [hN2.out]
      rintro e vn ⟨rfl, hb⟩
      clear x0 x1 x2
      replace bx := bx.below hb bx.lt
      replace q := q.trans (hb.mono q.size)
      replace hM := hM.below hb
      clear hb
      have x0 := bx.cell0
      have x1 := bx.cell1
      have x2 := bx.cell2
      go_wp2_with fail
      go_ret
      exact ⟨rfl, q⟩
  · have d1 : decide (x.stamp ≤ s) = false := decide_eq_false hat
    have hN1 := Lib.hid (show newerV lx s = true by rw [hnw, decide_eq_true_iff]; omega)
    have hro := Lib.hid (show readV lx s = readV l s by rw [hlx]; exact read_snoc_old hk hm hst hat)
    cases hrv : readV l s with
    | none =>
      have hr := Lib.hid (hro.out.trans hrv)
      have hr2 := Lib.hid hrv
      clear hst hnw hk hat hlx
      go_wp2_with fail
      refine (hC.read _ hM hsm2 hs).mono ?_
      rintro e v5 hE
      obtain ⟨av, cv, rfl, hv, hb⟩ := ReadVEnd.none hr.out hE
      replace bx := bx.below hb bx.lt
      replace q := q.trans (hb.mono q.size)
      replace hM := hM.below hb
      clear hE hb
      go_wp2_with fail
      refine (hC.read _ (hl0.keep (w' := v5) (fun k hk => q.block k hk)) hsm hs).mono ?_
      rintro e v6 hE
      obtain ⟨ao, co, rfl, ho, hb⟩ := ReadVEnd.none hr2.out hE
      replace bx := bx.below hb bx.lt
      replace q := q.trans (hb.mono q.size)
      replace hM := hM.below hb
      replace hv := hv.below hb
      clear hE hb
      have x0 := bx.cell0
      have x1 := bx.cell1
      have x2 := bx.cell2
      have hvr := hv.rd
      have hxr := ho.rd
      go_wp2_with (first | (refine wpList_conv byP rfl rfl rfl hvr ?_) | (refine wpList_conv byP rfl rfl rfl hxr ?_))
      clear hvr hxr
      refine (hC.newer _ hM hsm2 hs).mono ?_
      rw [hN1.out]
      rintro e vn ⟨rfl, hb⟩
      clear x0 x1 x2
      replace bx := bx.below hb bx.lt
      replace q := q.trans (hb.mono q.size)
      replace hM := hM.below hb
      clear hb
      have x0 := bx.cell0
      have x1 := bx.cell1
      have x2 := bx.cell2
      go_wp2_with fail
      go_ret
      exact ⟨rfl, q⟩
    | some vs =>
      have hr := Lib.hid (hro.out.trans hrv)
      have hr2 := Lib.hid hrv
      clear hst hnw hk hat hlx
      go_wp2_with fail
      refine (hC.read _ hM hsm2 hs).mono ?_
      rintro e v5 hE
      obtain ⟨av, cv, rfl, hv, hb⟩ := ReadVEnd.some hr.out hE
      replace bx := bx.below hb bx.lt
      replace q := q.trans (hb.mono q.size)
      replace hM := hM.below hb
      clear hE hb
      go_wp2_with fail
      refine (hC.read _ (hl0.keep (w' := v5) (fun k hk => q.block k hk)) hsm hs).mono ?_
      rintro e v6 hE
      obtain ⟨ao, co, rfl, ho, hb⟩ := ReadVEnd.some hr2.out hE
      replace bx := bx.below hb bx.lt
      replace q := q.trans (hb.mono q.size)
      replace hM := hM.below hb
      replace hv := hv.below hb
      clear hE hb
      have x0 := bx.cell0
      have x1 := bx.cell1
      have x2 := bx.cell2
      have hvr := hv.rd
      have hxr := ho.rd
      go_wp2_with (first | (refine wpList_conv byP rfl rfl rfl hvr ?_) | (refine wpList_conv byP rfl rfl rfl hxr ?_))
      clear hvr hxr
      refine (hC.newer _ hM hsm2 hs).mono ?_
      rw [hN1.out]
      rintro e vn ⟨rfl, hb⟩
      clear x0 x1 x2
      replace bx := bx.below hb bx.lt
      replace q := q.trans (hb.mono q.size)
      replace hM := hM.below hb
      clear hb
      have x0 := bx.cell0
      have x1 := bx.cell1
      have x2 := bx.cell2
      go_wp2_with fail
      go_ret
      exact ⟨rfl, q⟩
end Go.Proofs.Ytemdcpajcaaphaa
