/-
  THE WALK OF ChainVacuum: whatever versions and whatever stamps: true, and nothing that lay has turned; chain's functions by their contracts.
-/
import Derived.WalkKit
import Derived.WalkSpells
import Derived.WalkLawsBesides
import Derived.Lib.Hide
import Derived.Deep.Cut
import Derived.Shelf.Abstract
import Derived.Test.YtemdcpajcaaphaaProg
import Derived.Test.YtemdcpajcaaphaaByte
import Derived.Test.YtemdcpajcaaphaaAux
import Derived.Test.YtemdcpajcaaphaaVer
import Derived.Test.YtemdcpajcaaphaaVerM
import Derived.Test.YtemdcpajcaaphaaVerR
import Derived.Test.YtemdcpajcaaphaaVerD
import Derived.Test.YtemdcpajcaaphaaVerE
import Derived.Test.YtemdcpajcaaphaaVerF
import Derived.Test.YtemdcpajcaaphaaVerN
import Derived.Test.YtemdcpajcaaphaaVerX
namespace Go.Proofs.Ytemdcpajcaaphaa
open Go.RowKit Go.Shelf
theorem VersNew.to {w w' : World} {l m : List Ver} {e : Ending} (h : l = m) (h2 : VersNew w l e w') : ∃ a c, e = .returned (.slice a m.length c) ∧ RdL Elt.ver (fun k => w.heap.size ≤ k ∧ k < w'.heap.size) w' (.slice a m.length c) m ∧ Below w.heap.size w w' := by
  subst h; exact h2
set_option maxRecDepth 100000 in
set_option maxHeartbeats 2000000 in
theorem ChainVacuum_w (hC : ChnC) (w : World) {a0 : Option Addr} {n0 c0 : Nat} {l : List Ver} (hl0 : RdL Elt.ver (· < w.heap.size) w (.slice a0 n0 c0) l) {o : Int} (ho : (Lit.int .i64 o).wf = true) {s : Int} (hs : (Lit.int .i64 s).wf = true) :
    Calls Try.prog 4 #[.slice a0 n0 c0, .int .i64 o, .int .i64 s] w fun e w' => e = .returned (.bool true) ∧ Below w.heap.size w w' := by
  obtain ⟨rfl, hnc, hcm⟩ := hl0.len
  have hlm : l.length ≤ 9223372036854775807 := by unfold maxLen at hcm; omega
  replace hs := i64w hs
  replace ho := i64w ho
  have q := Below.refl w.heap.size w
  go_enter Try.func4, Try.ntmps4
  go_wp2_with fail
  refine (hC.awake w).mono ?_
  rintro e v1 ⟨rfl, hb⟩
  replace q := q.trans (hb.mono q.size)
  go_wp2_with fail
  refine (few_any _ (hl0.below q)).mono ?_
  rintro e v2 ⟨r, rfl, hf, rfl⟩
  cases r
  · go_wp2_with fail
    go_ret
    exact ⟨rfl, q⟩
  obtain ⟨hn100, hv100⟩ := hf rfl
  have hsm : smallV l := ⟨by omega, fun y hy => by have := hv100 y hy; omega⟩
  clear hf hv100 hb
  go_wp2_with fail
  refine (hC.check _ (hl0.below q)).mono ?_
  rintro e vk ⟨rfl, hb⟩
  replace q := q.trans (hb.mono q.size)
  clear hb
  rcases (Decidable.em (okV l)).symm with hk | hk
  · rw [decide_eq_false hk]
    go_wp2_with fail
    go_ret
    exact ⟨rfl, q⟩
  rw [decide_eq_true hk]
  have hvo := vacV_ok hk o
  have hva := vac_all hk o
  have hvl := vacV_len l o
  obtain ⟨m, hm⟩ : ∃ m, vacV l o = m := ⟨_, rfl⟩
  rw [hm] at hvo hva hvl
  have hms : smallV m := ⟨Nat.le_trans hvl hsm.1, fun y hy => hsm.2 y (hvo.2 y hy)⟩
  have hkm := hvo.1
  have H1 := Lib.hid hva.1
  have H3 := Lib.hid hva.2.2
  have h2 := hva.2.1
  have HV := Lib.hid hm
  have HKM := Lib.hid hkm
  clear hvo hva hm hk hkm
  go_wp2_with fail
  refine (hC.vacuum _ (hl0.below q) hsm ho).mono ?_
  rintro e v3 hE
  obtain ⟨am, cm, rfl, hM, hb⟩ := VersNew.to HV.out hE
  replace q := q.trans (hb.mono q.size)
  clear hE hb
  go_wp2_with fail
  refine (hC.vacuum _ hM hms ho).mono ?_
  rintro e v4 hE
  obtain ⟨ax, cx, rfl, hX, hb⟩ := VersNew.to H1.out hE
  replace q := q.trans (hb.mono q.size)
  replace hM := hM.below hb
  clear hE hb
  go_wp2_with fail
  refine (sameV_any _ hX hM).mono ?_
  rw [decide_eq_true (show m = m from rfl)]
  rintro e v5 ⟨rfl, hb⟩
  replace q := q.trans (hb.mono q.size)
  replace hM := hM.below hb
  clear hb hX
  have hlmm : m.length ≤ 9223372036854775807 := by omega
  have d0 : decide ((l.length : Int) < (m.length : Int)) = false := by rw [decide_eq_false_iff_not]; omega
  by_cases h1 : 1 < m.length
  · have d1 : decide ((1 : Int) < (m.length : Int)) = true := by rw [decide_eq_true_iff]; omega
    have h1i : (1 : Int) < (m.length : Int) := by omega
    have h3 := h2 h1
    obtain ⟨b, off, A, C, rfl, hbb, f0, f1, f2, hv2, hi, hn1, hn2⟩ := hM.ver 1 h1
    rw [Nat.one_mul] at f0 f1 f2
    generalize m[1].stamp = st at *
    have d2 : decide (st ≤ o) = false := by rw [decide_eq_false_iff_not]; omega
    clear f1 f2 hv2 hi hn1 hn2 h2 h3
    go_upto_region 8 with (fail)
    clear d0 d1 d2 f0 h1 h1i
    by_cases hat : s < o
    · have d4 : decide (s < o) = true := decide_eq_true hat
      go_wp2_with fail
      refine (hC.check _ hM).mono ?_
      rw [decide_eq_true HKM.out]
      rintro e v6 ⟨rfl, hb⟩
      replace q := q.trans (hb.mono q.size)
      replace hM := hM.below hb
      clear hb
      go_wp2_with fail
      go_ret
      exact ⟨rfl, q⟩
    · have d4 : decide (s < o) = false := decide_eq_false hat
      have h5 := H3.out s (by omega)
      have hn := Lib.hid h5.2
      cases hrv : readV l s with
      | none =>
        have hr1 := Lib.hid hrv
        have hr2 := Lib.hid (h5.1.trans hrv)
        clear h5 hat hrv
        go_wp2_with fail
        refine (hC.read _ (hl0.below q) hsm hs).mono ?_
        rintro e v7 hE
        obtain ⟨av, cv, rfl, hv, hb⟩ := ReadVEnd.none hr1.out hE
        replace q := q.trans (hb.mono q.size)
        replace hM := hM.below hb
        clear hE hb
        go_wp2_with fail
        refine (hC.read _ hM hms hs).mono ?_
        rintro e v8 hE
        obtain ⟨aw, cw, rfl, hw, hb⟩ := ReadVEnd.none hr2.out hE
        replace q := q.trans (hb.mono q.size)
        replace hM := hM.below hb
        replace hv := hv.below hb
        clear hE hb
        go_wp2_with fail
        refine (hC.check _ hM).mono ?_
        rw [decide_eq_true HKM.out]
        rintro e v6 ⟨rfl, hb⟩
        replace q := q.trans (hb.mono q.size)
        replace hM := hM.below hb
        have hbc := hb
        clear hb
        replace hv := hv.below hbc
        replace hw := hw.below hbc
        have hvr := hv.rd
        have hwr := hw.rd
        go_wp2_with (first | (refine wpList_conv byP rfl rfl rfl hvr ?_) | (refine wpList_conv byP rfl rfl rfl hwr ?_))
        refine (hC.newer _ hM hms hs).mono ?_
        rw [hn.out]
        rintro e v9 ⟨rfl, hb⟩
        replace q := q.trans (hb.mono q.size)
        clear hb hvr hwr
        go_wp2_with fail
        refine (hC.newer _ (hl0.below q) hsm hs).mono ?_
        rintro e v10 ⟨rfl, hb⟩
        replace q := q.trans (hb.mono q.size)
        generalize newerV l s = nb at *
        cases nb
        · go_wp2_with fail
          go_ret
          exact ⟨rfl, q⟩
        · go_wp2_with fail
          go_ret
          exact ⟨rfl, q⟩
      | some vs =>
        have hr1 := Lib.hid hrv
        have hr2 := Lib.hid (h5.1.trans hrv)
        clear h5 hat hrv
        go_wp2_with fail
        refine (hC.read _ (hl0.below q) hsm hs).mono ?_
        rintro e v7 hE
        obtain ⟨av, cv, rfl, hv, hb⟩ := ReadVEnd.some hr1.out hE
        replace q := q.trans (hb.mono q.size)
        replace hM := hM.below hb
        clear hE hb
        go_wp2_with fail
        refine (hC.read _ hM hms hs).mono ?_
        rintro e v8 hE
        obtain ⟨aw, cw, rfl, hw, hb⟩ := ReadVEnd.some hr2.out hE
        replace q := q.trans (hb.mono q.size)
        replace hM := hM.below hb
        replace hv := hv.below hb
        clear hE hb
        go_wp2_with fail
        refine (hC.check _ hM).mono ?_
        rw [decide_eq_true HKM.out]
        rintro e v6 ⟨rfl, hb⟩
        replace q := q.trans (hb.mono q.size)
        replace hM := hM.below hb
        have hbc := hb
        clear hb
        replace hv := hv.below hbc
        replace hw := hw.below hbc
        have hvr := hv.rd
        have hwr := hw.rd
        go_wp2_with (first | (refine wpList_conv byP rfl rfl rfl hvr ?_) | (refine wpList_conv byP rfl rfl rfl hwr ?_))
        refine (hC.newer _ hM hms hs).mono ?_
        rw [hn.out]
        rintro e v9 ⟨rfl, hb⟩
        replace q := q.trans (hb.mono q.size)
        clear hb hvr hwr
        go_wp2_with fail
        refine (hC.newer _ (hl0.below q) hsm hs).mono ?_
        rintro e v10 ⟨rfl, hb⟩
        replace q := q.trans (hb.mono q.size)
        generalize newerV l s = nb at *
        cases nb
        · go_wp2_with fail
          go_ret
          exact ⟨rfl, q⟩
        · go_wp2_with fail
          go_ret
          exact ⟨rfl, q⟩
  · have d1 : decide ((1 : Int) < (m.length : Int)) = false := by rw [decide_eq_false_iff_not]; omega
    go_upto_region 8 with (fail)
    clear d0 d1 h1 h2
    by_cases hat : s < o
    · have d4 : decide (s < o) = true := decide_eq_true hat
      go_wp2_with fail
      refine (hC.check _ hM).mono ?_
      rw [decide_eq_true HKM.out]
      rintro e v6 ⟨rfl, hb⟩
      replace q := q.trans (hb.mono q.size)
      replace hM := hM.below hb
      clear hb
      go_wp2_with fail
      go_ret
      exact ⟨rfl, q⟩
    · have d4 : decide (s < o) = false := decide_eq_false hat
      have h5 := H3.out s (by omega)
      have hn := Lib.hid h5.2
      cases hrv : readV l s with
      | none =>
        have hr1 := Lib.hid hrv
        have hr2 := Lib.hid (h5.1.trans hrv)
        clear h5 hat hrv
        go_wp2_with fail
        refine (hC.read _ (hl0.below q) hsm hs).mono ?_
        rintro e v7 hE
        obtain ⟨av, cv, rfl, hv, hb⟩ := ReadVEnd.none hr1.out hE
        replace q := q.trans (hb.mono q.size)
        replace hM := hM.below hb
        clear hE hb
        go_wp2_with fail
        refine (hC.read _ hM hms hs).mono ?_
        rintro e v8 hE
        obtain ⟨aw, cw, rfl, hw, hb⟩ := ReadVEnd.none hr2.out hE
        replace q := q.trans (hb.mono q.size)
        replace hM := hM.below hb
        replace hv := hv.below hb
        clear hE hb
        go_wp2_with fail
        refine (hC.check _ hM).mono ?_
        rw [decide_eq_true HKM.out]
        rintro e v6 ⟨rfl, hb⟩
        replace q := q.trans (hb.mono q.size)
        replace hM := hM.below hb
        have hbc := hb
        clear hb
        replace hv := hv.below hbc
        replace hw := hw.below hbc
        have hvr := hv.rd
        have hwr := hw.rd
        go_wp2_with (first | (refine wpList_conv byP rfl rfl rfl hvr ?_) | (refine wpList_conv byP rfl rfl rfl hwr ?_))
        refine (hC.newer _ hM hms hs).mono ?_
        rw [hn.out]
        rintro e v9 ⟨rfl, hb⟩
        replace q := q.trans (hb.mono q.size)
        clear hb hvr hwr
        go_wp2_with fail
        refine (hC.newer _ (hl0.below q) hsm hs).mono ?_
        rintro e v10 ⟨rfl, hb⟩
        replace q := q.trans (hb.mono q.size)
        generalize newerV l s = nb at *
        cases nb
        · go_wp2_with fail
          go_ret
          exact ⟨rfl, q⟩
        · go_wp2_with fail
          go_ret
          exact ⟨rfl, q⟩
      | some vs =>
        have hr1 := Lib.hid hrv
        have hr2 := Lib.hid (h5.1.trans hrv)
        clear h5 hat hrv
        go_wp2_with fail
        refine (hC.read _ (hl0.below q) hsm hs).mono ?_
        rintro e v7 hE
        obtain ⟨av, cv, rfl, hv, hb⟩ := ReadVEnd.some hr1.out hE
        replace q := q.trans (hb.mono q.size)
        replace hM := hM.below hb
        clear hE hb
        go_wp2_with fail
        refine (hC.read _ hM hms hs).mono ?_
        rintro e v8 hE
        obtain ⟨aw, cw, rfl, hw, hb⟩ := ReadVEnd.some hr2.out hE
        replace q := q.trans (hb.mono q.size)
        replace hM := hM.below hb
        replace hv := hv.below hb
        clear hE hb
        go_wp2_with fail
        refine (hC.check _ hM).mono ?_
        rw [decide_eq_true HKM.out]
        rintro e v6 ⟨rfl, hb⟩
        replace q := q.trans (hb.mono q.size)
        replace hM := hM.below hb
        have hbc := hb
        clear hb
        replace hv := hv.below hbc
        replace hw := hw.below hbc
        have hvr := hv.rd
        have hwr := hw.rd
        go_wp2_with (first | (refine wpList_conv byP rfl rfl rfl hvr ?_) | (refine wpList_conv byP rfl rfl rfl hwr ?_))
        refine (hC.newer _ hM hms hs).mono ?_
        rw [hn.out]
        rintro e v9 ⟨rfl, hb⟩
        replace q := q.trans (hb.mono q.size)
        clear hb hvr hwr
        go_wp2_with fail
        refine (hC.newer _ (hl0.below q) hsm hs).mono ?_
        rintro e v10 ⟨rfl, hb⟩
        replace q := q.trans (hb.mono q.size)
        generalize newerV l s = nb at *
        cases nb
        · go_wp2_with fail
          go_ret
          exact ⟨rfl, q⟩
        · go_wp2_with fail
          go_ret
          exact ⟨rfl, q⟩
end Go.Proofs.Ytemdcpajcaaphaa
