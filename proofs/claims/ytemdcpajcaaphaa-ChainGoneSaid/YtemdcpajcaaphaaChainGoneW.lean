/-
  THE WALK OF ChainGone: whatever versions and whatever stamps: true, and nothing that lay has turned; chain's functions by their contracts.
-/
import Derived.WalkKit
import Derived.WalkSpells
import Derived.WalkLawsBesides
import Derived.Lib.Hide
import Derived.Deep.Cut
import Derived.Shelf.Abstract
import Derived.Test.YtemdcpajcaaphaaProg
import Derived.Test.YtemdcpajcaaphaaByte
import Derived.Test.YtemdcpajcaaphaaAux
import Derived.Test.YtemdcpajcaaphaaVer
import Derived.Test.YtemdcpajcaaphaaVerM
import Derived.Test.YtemdcpajcaaphaaVerR
import Derived.Test.YtemdcpajcaaphaaVerD
import Derived.Test.YtemdcpajcaaphaaVerE
import Derived.Test.YtemdcpajcaaphaaVerF
import Derived.Test.YtemdcpajcaaphaaVerN
import Derived.Test.YtemdcpajcaaphaaVerX
import Derived.Test.YtemdcpajcaaphaaChainInstallsW
import Derived.Test.YtemdcpajcaaphaaChainVacuumW
namespace Go.Proofs.Ytemdcpajcaaphaa
open Go.RowKit Go.Shelf
set_option maxRecDepth 100000 in
set_option maxHeartbeats 2000000 in
theorem ChainGone_w (hC : ChnC) (w : World) {a0 : Option Addr} {n0 c0 : Nat} {l : List Ver} (hl0 : RdL Elt.ver (· < w.heap.size) w (.slice a0 n0 c0) l) {s : Int} (hs : (Lit.int .i64 s).wf = true) {t : Int} (ht : (Lit.int .i64 t).wf = true) :
    Calls Try.prog 9 #[.slice a0 n0 c0, .int .i64 s, .int .i64 t] w fun e w' => e = .returned (.bool true) ∧ Below w.heap.size w w' := by
  obtain ⟨rfl, hnc, hcm⟩ := hl0.len
  have hlm : l.length ≤ 9223372036854775807 := by unfold maxLen at hcm; omega
  replace hs := i64w hs
  replace ht := i64w ht
  have q := Below.refl w.heap.size w
  go_enter Try.func9, Try.ntmps9
  go_wp2_with fail
  refine (hC.awake w).mono ?_
  rintro e v1 ⟨rfl, hb⟩
  replace q := q.trans (hb.mono q.size)
  by_cases hlen : 100 < l.length
  · have d : decide ((100 : Int) < l.length) = true := by rw [decide_eq_true_iff]; omega
    go_wp2_with fail
    go_ret
    exact ⟨rfl, q⟩
  have d : decide ((100 : Int) < l.length) = false := by rw [decide_eq_false_iff_not]; omega
  have hn100 : l.length ≤ 100 := by omega
  clear hlen hb
  go_wp2_with fail
  refine (hC.check _ (hl0.below q)).mono ?_
  rintro e v2 ⟨rfl, hb⟩
  replace q := q.trans (hb.mono q.size)
  clear d hb
  rcases (Decidable.em (okV l)).symm with hk | hk
  · rw [decide_eq_false hk]
    go_wp2_with fail
    go_ret
    exact ⟨rfl, q⟩
  rw [decide_eq_true hk]
  have hsm := okV_small hk (by omega)
  go_wp2_with fail
  refine (hC.install (x := ⟨s, true, []⟩) _ ((hl0.below q).fit) hsm (RdS.nil _ _) (by simp) hs).mono ?_
  rintro e v3 hE
  rcases instV_cases l ⟨s, true, []⟩ with ⟨er, her, hv⟩ | ⟨hv, _, hm, hst⟩
  · obtain ⟨am, cm, rfl, hM, hb⟩ := InstNew.to hv hE
    replace q := q.trans (hb.mono q.size)
    have de : ((er : Int) != 0) = true := by rw [bne_iff_ne]; omega
    clear hE hv her
    go_wp2_with fail
    go_ret
    exact ⟨rfl, q⟩
  obtain ⟨lx, hlx⟩ : ∃ lx, lx = l ++ [(⟨s, true, []⟩ : Ver)] := ⟨_, rfl⟩
  rw [← hlx] at hv
  obtain ⟨am, cm, rfl, hM, hb⟩ := InstNew.to hv hE
  replace q := q.trans (hb.mono q.size)
  clear hE hv hb
  have hxn : lx.length ≤ 101 := by rw [hlx, List.length_append]; simp; omega
  have hsm2 : smallV lx := by rw [hlx]; exact ⟨by rw [List.length_append]; simp; omega, fun y hy => (List.mem_append.1 hy).elim (fun h => hsm.2 y h) (fun h => by rw [List.mem_singleton.1 h]; simp)⟩
  have dl : ((lx.length : Int) == (l.length : Int) + 1) = true := by rw [beq_iff_eq, hlx, List.length_append]; simp
  have hm1 : 1 ≤ s := hm.1
  have hm2 : s < 2147483648 := hm.2.1
  have g1 : -9223372036854775808 ≤ s - 1 := by omega
  have g2 : s - 1 ≤ 9223372036854775807 := by omega
  have hs1 : I64' (s - 1) := ⟨g1, g2⟩
  have hnw := fun u => show newerV lx u = decide (u < s) by rw [hlx]; exact newer_snoc hk hm hst (s := u)
  have hN1 := Lib.hid (show newerV lx (s - 1) = true by rw [hnw, decide_eq_true_iff]; omega)
  have hN2 := Lib.hid (show newerV lx s = false by rw [hnw, decide_eq_false_iff_not]; omega)
  have hV := Lib.hid (show vacV lx s = [] by rw [hlx]; exact vac_snoc_gone hk hm hst rfl)
  by_cases hat : s ≤ t
  · have d1 : decide (s ≤ t) = true := decide_eq_true hat
    have hr := Lib.hid (show readV lx t = none by rw [hlx]; exact read_snoc_gone hk hm hst hat rfl)
    clear hst hnw hk hat hlx hm
    go_wp2_with fail
    refine (hC.read _ (hl0.below q) hsm ht).mono ?_
    rintro e v5 hE
    obtain ⟨ao, co, rfl, hv, hb⟩ : ∃ a c, e = .returned (.tuple #[.slice a ((readV l t).getD []).length c, .bool (readV l t).isSome]) ∧ RdS (fun k => v3.heap.size ≤ k ∧ k < v5.heap.size) v5 (.slice a ((readV l t).getD []).length c) ((readV l t).getD []) ∧ Below v3.heap.size v3 v5 := hE
    generalize ((readV l t).getD []).length = lo at *
    generalize (readV l t).isSome = io at *
    have hE := True.intro
    replace q := q.trans (hb.mono q.size)
    replace hM := hM.below hb
    clear hE hb
    go_wp2_with fail
    refine (hC.read _ hM hsm2 ht).mono ?_
    rintro e v6 hE
    obtain ⟨aw, cw, rfl, hw, hb⟩ := ReadVEnd.none hr.out hE
    replace q := q.trans (hb.mono q.size)
    replace hM := hM.below hb
    clear hE hb
    clear hv hw
    go_wp2_with fail
    refine (hC.vacuum _ hM hsm2 hs).mono ?_
    rintro e v7 hE
    obtain ⟨ax, cx, rfl, hX, hb⟩ := VersNew.to hV.out hE
    replace q := q.trans (hb.mono q.size)
    replace hM := hM.below hb
    clear hE hb hX
    go_wp2_with fail
    refine (hC.newer _ hM hsm2 hs1).mono ?_
    rw [hN1.out]
    rintro e v8 ⟨rfl, hb⟩
    replace q := q.trans (hb.mono q.size)
    replace hM := hM.below hb
    clear hb
    go_wp2_with fail
    refine (hC.newer _ hM hsm2 hs).mono ?_
    rw [hN2.out]
    rintro e v9 ⟨rfl, hb⟩
    replace q := q.trans (hb.mono q.size)
    replace hM := hM.below hb
    clear hb
    go_wp2_with fail
    go_ret
    exact ⟨rfl, q⟩
  · have d1 : decide (s ≤ t) = false := decide_eq_false hat
    have d2 : decide (t < s) = true := by rw [decide_eq_true_iff]; omega
    have hro : readV lx t = readV l t := by rw [hlx]; exact read_snoc_old hk hm hst hat
    cases hrv : readV l t with
    | none =>
      have hr := Lib.hid (hro.trans hrv)
      have hr2 := Lib.hid hrv
      clear hst hnw hk hat hlx hm hro hrv
      go_wp2_with fail
      refine (hC.read _ (hl0.below q) hsm ht).mono ?_
      rintro e v5 hE
      obtain ⟨ao, co, rfl, hv, hb⟩ := ReadVEnd.none hr2.out hE
      replace q := q.trans (hb.mono q.size)
      replace hM := hM.below hb
      clear hE hb
      go_wp2_with fail
      refine (hC.read _ hM hsm2 ht).mono ?_
      rintro e v6 hE
      obtain ⟨aw, cw, rfl, hw, hb⟩ := ReadVEnd.none hr.out hE
      replace q := q.trans (hb.mono q.size)
      replace hM := hM.below hb
      replace hv := hv.below hb
      clear hE hb
      have hvr := hv.rd
      have hwr := hw.rd
      go_wp2_with (first | (refine wpList_conv byP rfl rfl rfl hvr ?_) | (refine wpList_conv byP rfl rfl rfl hwr ?_))
      clear hvr hwr hv hw
      refine (hC.vacuum _ hM hsm2 hs).mono ?_
      rintro e v7 hE
      obtain ⟨ax, cx, rfl, hX, hb⟩ := VersNew.to hV.out hE
      replace q := q.trans (hb.mono q.size)
      replace hM := hM.below hb
      clear hE hb hX
      go_wp2_with fail
      refine (hC.newer _ hM hsm2 hs1).mono ?_
      rw [hN1.out]
      rintro e v8 ⟨rfl, hb⟩
      replace q := q.trans (hb.mono q.size)
      replace hM := hM.below hb
      clear hb
      go_wp2_with fail
      refine (hC.newer _ hM hsm2 hs).mono ?_
      rw [hN2.out]
      rintro e v9 ⟨rfl, hb⟩
      replace q := q.trans (hb.mono q.size)
      replace hM := hM.below hb
      clear hb
      go_wp2_with fail
      go_ret
      exact ⟨rfl, q⟩
    | some vs =>
      have hr := Lib.hid (hro.trans hrv)
      have hr2 := Lib.hid hrv
      clear hst hnw hk hat hlx hm hro hrv
      go_wp2_with fail
      refine (hC.read _ (hl0.below q) hsm ht).mono ?_
      rintro e v5 hE
      obtain ⟨ao, co, rfl, hv, hb⟩ := ReadVEnd.some hr2.out hE
      replace q := q.trans (hb.mono q.size)
      replace hM := hM.below hb
      clear hE hb
      go_wp2_with fail
      refine (hC.read _ hM hsm2 ht).mono ?_
      rintro e v6 hE
      obtain ⟨aw, cw, rfl, hw, hb⟩ := ReadVEnd.some hr.out hE
      replace q := q.trans (hb.mono q.size)
      replace hM := hM.below hb
      replace hv := hv.below hb
      clear hE hb
      have hvr := hv.rd
      have hwr := hw.rd
      go_wp2_with (first | (refine wpList_conv byP rfl rfl rfl hvr ?_) | (refine wpList_conv byP rfl rfl rfl hwr ?_))
      clear hvr hwr hv hw
      refine (hC.vacuum _ hM hsm2 hs).mono ?_
      rintro e v7 hE
      obtain ⟨ax, cx, rfl, hX, hb⟩ := VersNew.to hV.out hE
      replace q := q.trans (hb.mono q.size)
      replace hM := hM.below hb
      clear hE hb hX
      go_wp2_with fail
      refine (hC.newer _ hM hsm2 hs1).mono ?_
      rw [hN1.out]
      rintro e v8 ⟨rfl, hb⟩
      replace q := q.trans (hb.mono q.size)
      replace hM := hM.below hb
      clear hb
      go_wp2_with fail
      refine (hC.newer _ hM hsm2 hs).mono ?_
      rw [hN2.out]
      rintro e v9 ⟨rfl, hb⟩
      replace q := q.trans (hb.mono q.size)
      replace hM := hM.below hb
      clear hb
      go_wp2_with fail
      go_ret
      exact ⟨rfl, q⟩
end Go.Proofs.Ytemdcpajcaaphaa
