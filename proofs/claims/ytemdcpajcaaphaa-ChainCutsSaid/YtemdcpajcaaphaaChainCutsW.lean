/-
  THE WALK OF ChainCuts: whatever versions and whatever stamps: true, and nothing that lay has turned; chain's functions by their contracts.
-/
import Derived.WalkKit
import Derived.WalkSpells
import Derived.WalkLawsBesides
import Derived.Lib.Hide
import Derived.Deep.Cut
import Derived.Shelf.Abstract
import Derived.Test.YtemdcpajcaaphaaProg
import Derived.Test.YtemdcpajcaaphaaByte
import Derived.Test.YtemdcpajcaaphaaAux
import Derived.Test.YtemdcpajcaaphaaVer
import Derived.Test.YtemdcpajcaaphaaVerM
import Derived.Test.YtemdcpajcaaphaaVerR
import Derived.Test.YtemdcpajcaaphaaVerD
import Derived.Test.YtemdcpajcaaphaaVerE
import Derived.Test.YtemdcpajcaaphaaVerF
import Derived.Test.YtemdcpajcaaphaaVerN
import Derived.Test.YtemdcpajcaaphaaVerX
import Derived.Test.YtemdcpajcaaphaaChainInstallsW
import Derived.Test.YtemdcpajcaaphaaChainVacuumW
namespace Go.Proofs.Ytemdcpajcaaphaa
open Go.RowKit Go.Shelf
theorem cuts_read {l : List Ver} (hk : okV l) (k : Nat) {s : Int} (h : cntV l s ≤ k) : readV (l.take k) s = readV l s := by
  have hle := cntV_le l s
  rw [readV_cnt (okV_take hk k), readV_cnt hk, cnt_take hk, Nat.min_eq_right h]
  unfold readC
  rcases Nat.eq_zero_or_pos (cntV l s) with h0 | h0
  · rw [h0]
    cases (l.take k)[0 - 1]? <;> cases l[0 - 1]? <;> simp
  · rw [List.getElem?_take_of_lt (by omega)]
set_option maxRecDepth 100000 in
set_option maxHeartbeats 4000000 in
theorem ChainCuts_w (hC : ChnC) (w : World) {a0 : Option Addr} {n0 c0 : Nat} {l : List Ver} (hl0 : RdL Elt.ver (· < w.heap.size) w (.slice a0 n0 c0) l) {yy : Int} (hy0 : 0 ≤ yy) (hy1 : yy < 256) {s : Int} (hs : (Lit.int .i64 s).wf = true) :
    Calls Try.prog 8 #[.slice a0 n0 c0, .int .u8 yy, .int .i64 s] w fun e w' => e = .returned (.bool true) ∧ Below w.heap.size w w' := by
  obtain ⟨rfl, hnc, hcm⟩ := hl0.len
  have hlm : l.length ≤ 9223372036854775807 := by unfold maxLen at hcm; omega
  replace hs := i64w hs
  obtain ⟨y, rfl⟩ : ∃ y : Nat, yy = y := ⟨yy.toNat, by omega⟩
  have q := Below.refl w.heap.size w
  go_enter Try.func8, Try.ntmps8
  go_wp2_with fail
  refine (hC.awake w).mono ?_
  rintro e v1 ⟨rfl, hb⟩
  replace q := q.trans (hb.mono q.size)
  by_cases hlen : 100 < l.length
  · have d : decide ((100 : Int) < l.length) = true := by rw [decide_eq_true_iff]; omega
    go_wp2_with fail
    go_ret
    exact ⟨rfl, q⟩
  have d : decide ((100 : Int) < l.length) = false := by rw [decide_eq_false_iff_not]; omega
  have hn100 : l.length ≤ 100 := by omega
  clear hlen hb
  go_wp2_with fail
  refine (hC.check _ (hl0.below q)).mono ?_
  rintro e v2 ⟨rfl, hb⟩
  replace q := q.trans (hb.mono q.size)
  clear d hb
  rcases (Decidable.em (okV l)).symm with hk | hk
  · rw [decide_eq_false hk]
    go_wp2_with fail
    go_ret
    exact ⟨rfl, q⟩
  rw [decide_eq_true hk]
  have hsm := okV_small hk (by omega)
  have hne : ¬ ((l.length : Int) + 1 = 0) := by omega
  go_upto_region 5 with (fail)
  obtain ⟨k, hkk, hkl⟩ : ∃ k : Nat, (y : Int) % ((l.length : Int) + 1) = (k : Int) ∧ k ≤ l.length := by
    refine ⟨y % (l.length + 1), ?_, ?_⟩
    · push_cast; rfl
    · have := Nat.mod_lt y (show 0 < l.length + 1 by omega); omega
  rw [hkk]
  clear hkk hne
  have hokt := okV_take hk k
  have hsmt := okV_small hokt (by rw [List.length_take]; omega)
  have hA : (k = l.length ∨ ∃ h : k < l.length, s < l[k].stamp) → readV (l.take k) s = readV l s := by
    rintro (h | ⟨h, h2⟩)
    · rw [h, List.take_length]
    · refine cuts_read hk k ?_
      rcases Nat.lt_or_ge k (cntV l s) with h3 | h3
      · have := (cnt_iff hk s h).2 h3; omega
      · exact h3
  generalize h1 : readV l s = r1 at *
  generalize h2 : readV (l.take k) s = r2 at *
  have R1 := Lib.hid h1
  have R2 := Lib.hid h2
  have HA := Lib.hid hA
  clear h1 h2 hA
  cases r1 with
  | none =>
    cases r2 with
    | none =>
      go_wp2_with fail
      refine (hC.read _ (hl0.below q) hsm hs).mono ?_
      rintro e v3 hE
      obtain ⟨ahv, chv, rfl, hv, hb⟩ := ReadVEnd.none R1.out hE
      replace q := q.trans (hb.mono q.size)
      clear hE hb
      go_wp2_with (refine wpList_sliceL (E := Elt.ver) verP.toLsP rfl rfl rfl (hl0.below q) (l := 0) (r := k) (run_bounds_h' _ rfl (by omega)) ?_ (by omega) hkl; intro ap cp hp)
      rw [Nat.sub_zero, List.drop_zero] at hp
      refine (hC.read _ hp hsmt hs).mono ?_
      rintro e v4 hE
      obtain ⟨ahw, chw, rfl, hw, hb⟩ := ReadVEnd.none R2.out hE
      replace q := q.trans (hb.mono q.size)
      replace hv := hv.below hb
      clear hE hb hp
      rcases Nat.lt_or_ge k l.length with hlt | hge
      · obtain ⟨t, htl, hm1, hmx, hmn⟩ : ∃ t, t < l.length ∧ (l.length : Int) - 1 = (t : Int) ∧ max 0 (t : Int) = (t : Int) ∧ min (k : Int) (t : Int) = (k : Int) := ⟨l.length - 1, by omega, by omega, by omega, by omega⟩
        have dk : decide ((k : Int) = (l.length : Int)) = false := by rw [decide_eq_false_iff_not]; omega
        have hklt : (k : Int) < (l.length : Int) := by omega
        obtain ⟨b, off, A, C, rfl, hbb, f0, f1, f2, hv2, hi, hn1, hn2⟩ := (hl0.below q).ver k hlt
        clear f1 f2 hv2 hi hn1 hn2
        rcases Int.lt_or_le s l[k].stamp with hst | hst
        · have ds : decide (s < l[k].stamp) = true := decide_eq_true hst
          clear hst HA
          go_upto_region 8 with (fail)
          all_goals (clear f0 hm1 hmx hmn dk hklt ds
                     go_wp2_with (refine wpList_sliceL (E := Elt.ver) verP.toLsP rfl rfl rfl (hl0.below q) (l := 0) (r := k) (run_bounds_h' _ rfl (by omega)) ?_ (by omega) (by omega); intro ap cp hp)
                     rw [Nat.sub_zero, List.drop_zero] at hp
                     refine (hC.check _ hp).mono ?_
                     rw [decide_eq_true hokt]
                     rintro e v5 ⟨rfl, hb⟩
                     replace q := q.trans (hb.mono q.size)
                     have hvr := (hv.below hb).rd
                     have hwr := (hw.below hb).rd
                     clear hb hp
                     go_wp2_with (first | (refine wpList_conv byP rfl rfl rfl hvr ?_) | (refine wpList_conv byP rfl rfl rfl hwr ?_))
                     go_ret
                     exact ⟨rfl, q⟩)
        · have ds : decide (s < l[k].stamp) = false := by rw [decide_eq_false_iff_not]; omega
          clear hst HA
          go_upto_region 8 with (fail)
          all_goals (clear f0 hm1 hmx hmn dk hklt ds
                     go_wp2_with (refine wpList_sliceL (E := Elt.ver) verP.toLsP rfl rfl rfl (hl0.below q) (l := 0) (r := k) (run_bounds_h' _ rfl (by omega)) ?_ (by omega) (by omega); intro ap cp hp)
                     rw [Nat.sub_zero, List.drop_zero] at hp
                     refine (hC.check _ hp).mono ?_
                     rw [decide_eq_true hokt]
                     rintro e v5 ⟨rfl, hb⟩
                     replace q := q.trans (hb.mono q.size)
                     clear hb hp
                     go_wp2_with fail
                     go_ret
                     exact ⟨rfl, q⟩)
      · obtain rfl : k = l.length := by omega
        clear HA hge
        have dk : decide ((l.length : Int) = (l.length : Int)) = true := by simp
        go_upto_region 8 with (fail)
        go_wp2_with (refine wpList_sliceL (E := Elt.ver) verP.toLsP rfl rfl rfl (hl0.below q) (l := 0) (r := l.length) (run_bounds_h' _ rfl (by omega)) ?_ (by omega) (by omega); intro ap cp hp)
        rw [Nat.sub_zero, List.drop_zero] at hp
        refine (hC.check _ hp).mono ?_
        rw [decide_eq_true hokt]
        rintro e v5 ⟨rfl, hb⟩
        replace q := q.trans (hb.mono q.size)
        have hvr := (hv.below hb).rd
        have hwr := (hw.below hb).rd
        clear hb hp
        go_wp2_with (first | (refine wpList_conv byP rfl rfl rfl hvr ?_) | (refine wpList_conv byP rfl rfl rfl hwr ?_))
        go_ret
        exact ⟨rfl, q⟩
    | some ws =>
      go_wp2_with fail
      refine (hC.read _ (hl0.below q) hsm hs).mono ?_
      rintro e v3 hE
      obtain ⟨ahv, chv, rfl, hv, hb⟩ := ReadVEnd.none R1.out hE
      replace q := q.trans (hb.mono q.size)
      clear hE hb
      go_wp2_with (refine wpList_sliceL (E := Elt.ver) verP.toLsP rfl rfl rfl (hl0.below q) (l := 0) (r := k) (run_bounds_h' _ rfl (by omega)) ?_ (by omega) hkl; intro ap cp hp)
      rw [Nat.sub_zero, List.drop_zero] at hp
      refine (hC.read _ hp hsmt hs).mono ?_
      rintro e v4 hE
      obtain ⟨ahw, chw, rfl, hw, hb⟩ := ReadVEnd.some R2.out hE
      replace q := q.trans (hb.mono q.size)
      replace hv := hv.below hb
      clear hE hb hp
      rcases Nat.lt_or_ge k l.length with hlt | hge
      · obtain ⟨t, htl, hm1, hmx, hmn⟩ : ∃ t, t < l.length ∧ (l.length : Int) - 1 = (t : Int) ∧ max 0 (t : Int) = (t : Int) ∧ min (k : Int) (t : Int) = (k : Int) := ⟨l.length - 1, by omega, by omega, by omega, by omega⟩
        have dk : decide ((k : Int) = (l.length : Int)) = false := by rw [decide_eq_false_iff_not]; omega
        have hklt : (k : Int) < (l.length : Int) := by omega
        obtain ⟨b, off, A, C, rfl, hbb, f0, f1, f2, hv2, hi, hn1, hn2⟩ := (hl0.below q).ver k hlt
        clear f1 f2 hv2 hi hn1 hn2
        rcases Int.lt_or_le s l[k].stamp with hst | hst
        · exact absurd (HA.out (Or.inr ⟨hlt, hst⟩)) (by simp)
        · have ds : decide (s < l[k].stamp) = false := by rw [decide_eq_false_iff_not]; omega
          clear hst HA
          go_upto_region 8 with (fail)
          all_goals (clear f0 hm1 hmx hmn dk hklt ds
                     go_wp2_with (refine wpList_sliceL (E := Elt.ver) verP.toLsP rfl rfl rfl (hl0.below q) (l := 0) (r := k) (run_bounds_h' _ rfl (by omega)) ?_ (by omega) (by omega); intro ap cp hp)
                     rw [Nat.sub_zero, List.drop_zero] at hp
                     refine (hC.check _ hp).mono ?_
                     rw [decide_eq_true hokt]
                     rintro e v5 ⟨rfl, hb⟩
                     replace q := q.trans (hb.mono q.size)
                     clear hb hp
                     go_wp2_with fail
                     go_ret
                     exact ⟨rfl, q⟩)
      · obtain rfl : k = l.length := by omega
        exact absurd (HA.out (Or.inl rfl)) (by simp)
  | some vs =>
    cases r2 with
    | none =>
      go_wp2_with fail
      refine (hC.read _ (hl0.below q) hsm hs).mono ?_
      rintro e v3 hE
      obtain ⟨ahv, chv, rfl, hv, hb⟩ := ReadVEnd.some R1.out hE
      replace q := q.trans (hb.mono q.size)
      clear hE hb
      go_wp2_with (refine wpList_sliceL (E := Elt.ver) verP.toLsP rfl rfl rfl (hl0.below q) (l := 0) (r := k) (run_bounds_h' _ rfl (by omega)) ?_ (by omega) hkl; intro ap cp hp)
      rw [Nat.sub_zero, List.drop_zero] at hp
      refine (hC.read _ hp hsmt hs).mono ?_
      rintro e v4 hE
      obtain ⟨ahw, chw, rfl, hw, hb⟩ := ReadVEnd.none R2.out hE
      replace q := q.trans (hb.mono q.size)
      replace hv := hv.below hb
      clear hE hb hp
      rcases Nat.lt_or_ge k l.length with hlt | hge
      · obtain ⟨t, htl, hm1, hmx, hmn⟩ : ∃ t, t < l.length ∧ (l.length : Int) - 1 = (t : Int) ∧ max 0 (t : Int) = (t : Int) ∧ min (k : Int) (t : Int) = (k : Int) := ⟨l.length - 1, by omega, by omega, by omega, by omega⟩
        have dk : decide ((k : Int) = (l.length : Int)) = false := by rw [decide_eq_false_iff_not]; omega
        have hklt : (k : Int) < (l.length : Int) := by omega
        obtain ⟨b, off, A, C, rfl, hbb, f0, f1, f2, hv2, hi, hn1, hn2⟩ := (hl0.below q).ver k hlt
        clear f1 f2 hv2 hi hn1 hn2
        rcases Int.lt_or_le s l[k].stamp with hst | hst
        · exact absurd (HA.out (Or.inr ⟨hlt, hst⟩)) (by simp)
        · have ds : decide (s < l[k].stamp) = false := by rw [decide_eq_false_iff_not]; omega
          clear hst HA
          go_upto_region 8 with (fail)
          all_goals (clear f0 hm1 hmx hmn dk hklt ds
                     go_wp2_with (refine wpList_sliceL (E := Elt.ver) verP.toLsP rfl rfl rfl (hl0.below q) (l := 0) (r := k) (run_bounds_h' _ rfl (by omega)) ?_ (by omega) (by omega); intro ap cp hp)
                     rw [Nat.sub_zero, List.drop_zero] at hp
                     refine (hC.check _ hp).mono ?_
                     rw [decide_eq_true hokt]
                     rintro e v5 ⟨rfl, hb⟩
                     replace q := q.trans (hb.mono q.size)
                     clear hb hp
                     go_wp2_with fail
                     go_ret
                     exact ⟨rfl, q⟩)
      · obtain rfl : k = l.length := by omega
        exact absurd (HA.out (Or.inl rfl)) (by simp)
    | some ws =>
      go_wp2_with fail
      refine (hC.read _ (hl0.below q) hsm hs).mono ?_
      rintro e v3 hE
      obtain ⟨ahv, chv, rfl, hv, hb⟩ := ReadVEnd.some R1.out hE
      replace q := q.trans (hb.mono q.size)
      clear hE hb
      go_wp2_with (refine wpList_sliceL (E := Elt.ver) verP.toLsP rfl rfl rfl (hl0.below q) (l := 0) (r := k) (run_bounds_h' _ rfl (by omega)) ?_ (by omega) hkl; intro ap cp hp)
      rw [Nat.sub_zero, List.drop_zero] at hp
      refine (hC.read _ hp hsmt hs).mono ?_
      rintro e v4 hE
      obtain ⟨ahw, chw, rfl, hw, hb⟩ := ReadVEnd.some R2.out hE
      replace q := q.trans (hb.mono q.size)
      replace hv := hv.below hb
      clear hE hb hp
      rcases Nat.lt_or_ge k l.length with hlt | hge
      · obtain ⟨t, htl, hm1, hmx, hmn⟩ : ∃ t, t < l.length ∧ (l.length : Int) - 1 = (t : Int) ∧ max 0 (t : Int) = (t : Int) ∧ min (k : Int) (t : Int) = (k : Int) := ⟨l.length - 1, by omega, by omega, by omega, by omega⟩
        have dk : decide ((k : Int) = (l.length : Int)) = false := by rw [decide_eq_false_iff_not]; omega
        have hklt : (k : Int) < (l.length : Int) := by omega
        obtain ⟨b, off, A, C, rfl, hbb, f0, f1, f2, hv2, hi, hn1, hn2⟩ := (hl0.below q).ver k hlt
        clear f1 f2 hv2 hi hn1 hn2
        rcases Int.lt_or_le s l[k].stamp with hst | hst
        · obtain rfl := Option.some.inj (HA.out (Or.inr ⟨hlt, hst⟩))
          have ds : decide (s < l[k].stamp) = true := decide_eq_true hst
          clear hst HA
          go_upto_region 8 with (fail)
          all_goals (clear f0 hm1 hmx hmn dk hklt ds
                     go_wp2_with (refine wpList_sliceL (E := Elt.ver) verP.toLsP rfl rfl rfl (hl0.below q) (l := 0) (r := k) (run_bounds_h' _ rfl (by omega)) ?_ (by omega) (by omega); intro ap cp hp)
                     rw [Nat.sub_zero, List.drop_zero] at hp
                     refine (hC.check _ hp).mono ?_
                     rw [decide_eq_true hokt]
                     rintro e v5 ⟨rfl, hb⟩
                     replace q := q.trans (hb.mono q.size)
                     have hvr := (hv.below hb).rd
                     have hwr := (hw.below hb).rd
                     clear hb hp
                     go_wp2_with (first | (refine wpList_conv byP rfl rfl rfl hvr ?_) | (refine wpList_conv byP rfl rfl rfl hwr ?_))
                     go_ret
                     exact ⟨rfl, q⟩)
        · have ds : decide (s < l[k].stamp) = false := by rw [decide_eq_false_iff_not]; omega
          clear hst HA
          go_upto_region 8 with (fail)
          all_goals (clear f0 hm1 hmx hmn dk hklt ds
                     go_wp2_with (refine wpList_sliceL (E := Elt.ver) verP.toLsP rfl rfl rfl (hl0.below q) (l := 0) (r := k) (run_bounds_h' _ rfl (by omega)) ?_ (by omega) (by omega); intro ap cp hp)
                     rw [Nat.sub_zero, List.drop_zero] at hp
                     refine (hC.check _ hp).mono ?_
                     rw [decide_eq_true hokt]
                     rintro e v5 ⟨rfl, hb⟩
                     replace q := q.trans (hb.mono q.size)
                     clear hb hp
                     go_wp2_with fail
                     go_ret
                     exact ⟨rfl, q⟩)
      · obtain rfl : k = l.length := by omega
        obtain rfl := Option.some.inj (HA.out (Or.inl rfl))
        clear HA hge
        have dk : decide ((l.length : Int) = (l.length : Int)) = true := by simp
        go_upto_region 8 with (fail)
        go_wp2_with (refine wpList_sliceL (E := Elt.ver) verP.toLsP rfl rfl rfl (hl0.below q) (l := 0) (r := l.length) (run_bounds_h' _ rfl (by omega)) ?_ (by omega) (by omega); intro ap cp hp)
        rw [Nat.sub_zero, List.drop_zero] at hp
        refine (hC.check _ hp).mono ?_
        rw [decide_eq_true hokt]
        rintro e v5 ⟨rfl, hb⟩
        replace q := q.trans (hb.mono q.size)
        have hvr := (hv.below hb).rd
        have hwr := (hw.below hb).rd
        clear hb hp
        go_wp2_with (first | (refine wpList_conv byP rfl rfl rfl hvr ?_) | (refine wpList_conv byP rfl rfl rfl hwr ?_))
        go_ret
        exact ⟨rfl, q⟩
end Go.Proofs.Ytemdcpajcaaphaa
