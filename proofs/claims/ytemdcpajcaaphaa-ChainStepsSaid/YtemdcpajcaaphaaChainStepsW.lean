/-
  THE WALK OF ChainSteps: whatever versions and whatever stamp: true, and nothing that lay has turned; chain's functions by their contracts.
-/
import Derived.WalkKit
import Derived.WalkSpells
import Derived.WalkLawsBesides
import Derived.Lib.Hide
import Derived.Deep.Cut
import Derived.Shelf.Abstract
import Derived.Test.YtemdcpajcaaphaaProg
import Derived.Test.YtemdcpajcaaphaaByte
import Derived.Test.YtemdcpajcaaphaaAux
import Derived.Test.YtemdcpajcaaphaaGuard
import Derived.Test.YtemdcpajcaaphaaOps
import Derived.Test.YtemdcpajcaaphaaVer
import Derived.Test.YtemdcpajcaaphaaVerM
import Derived.Test.YtemdcpajcaaphaaVerR
import Derived.Test.YtemdcpajcaaphaaVerD
import Derived.Test.YtemdcpajcaaphaaVerN
import Derived.Test.YtemdcpajcaaphaaVerX
namespace Go.Proofs.Ytemdcpajcaaphaa
open Go.RowKit Go.Shelf
theorem newerV_empty {l : List Ver} (h : l.length = 0) {s : Int} : newerV l s = false := by
  obtain rfl : l = [] := List.eq_nil_of_length_eq_zero h
  exact newerV_nil s
set_option maxRecDepth 100000 in
set_option maxHeartbeats 4000000 in
theorem ChainSteps_w (hC : ChnC) (w : World) {a0 : Option Addr} {n0 c0 : Nat} {l : List Ver} (hl0 : RdL Elt.ver (· < w.heap.size) w (.slice a0 n0 c0) l) {s : Int} (hs : (Lit.int .i64 s).wf = true) :
    Calls Try.prog 7 #[.slice a0 n0 c0, .int .i64 s] w fun e w' => e = .returned (.bool true) ∧ Below w.heap.size w w' := by
  obtain ⟨rfl, hnc, hcm⟩ := hl0.len
  have hlm : l.length ≤ 9223372036854775807 := by unfold maxLen at hcm; omega
  replace hs := i64w hs
  have q := Below.refl w.heap.size w
  go_enter Try.func7, Try.ntmps7
  go_wp2_with fail
  refine (hC.awake w).mono ?_
  rintro e v1 ⟨rfl, hb⟩
  replace q := q.trans (hb.mono q.size)
  by_cases hlen : 100 < l.length
  · have d : decide ((100 : Int) < l.length) = true := by rw [decide_eq_true_iff]; omega
    go_wp2_with fail
    go_ret
    exact ⟨rfl, q⟩
  have d : decide ((100 : Int) < l.length) = false := by rw [decide_eq_false_iff_not]; omega
  have hn100 : l.length ≤ 1000 := by omega
  clear hlen hb
  go_wp2_with fail
  refine (hC.check _ (hl0.below q)).mono ?_
  rintro e v2 ⟨rfl, hb⟩
  replace q := q.trans (hb.mono q.size)
  clear d hb
  rcases (Decidable.em (okV l)).symm with hk | hk
  · rw [decide_eq_false hk]
    go_wp2_with fail
    go_ret
    exact ⟨rfl, q⟩
  rw [decide_eq_true hk]
  have hsm := okV_small hk hn100
  cases hc : cntV l s with
  | zero =>
    have hr := Lib.hid (readV_zero hc)
    go_wp2_with fail
    refine (hC.read _ (hl0.below q) hsm hs).mono ?_
    rintro e v3 hE
    obtain ⟨av, cv, rfl, hv, hb⟩ := ReadVEnd.none hr.out hE
    replace q := q.trans (hb.mono q.size)
    clear hE hb
    go_upto_region 7 with (fail)
    have q3 := q
    go_loopw [8, 9] (fun ov iv wr => ∃ k : Nat, iv = .int .i64 k ∧ k ≤ l.length ∧ ov = .int .i64 ((lastAt l s k : Int) - 1) ∧ wr = v3)
      (fun _ i _ => l.length - (intOf i).toNat)
    case atStart => exact ⟨0, rfl, Nat.zero_le _, rfl, rfl⟩
    case round =>
      obtain ⟨k, rfl, hkl, rfl, rfl⟩ := hrel
      rcases Nat.lt_or_ge k l.length with hlt | hge
      · obtain ⟨b, off, A, C, rfl, hb, e0, e1, e2, hv2, hi, hn1, hn2⟩ := (hl0.below q).ver k hlt
        by_cases h5 : l[k].stamp ≤ s
        · have d1 : decide (l[k].stamp ≤ s) = true := decide_eq_true h5
          have hx := Lib.hid (lastAt_yes hlt h5)
          clear h5
          go_wp2_with fail
          go_roundw
          case rel => exact ⟨k + 1, by go_num, by omega, by rw [hx.out]; go_num, by first | rfl | trivial⟩
          case measure => simp [intOf]; omega
        · have d1 : decide (l[k].stamp ≤ s) = false := decide_eq_false h5
          have hx := Lib.hid (lastAt_no hlt h5)
          clear h5
          go_wp2_with fail
          go_roundw
          case rel => exact ⟨k + 1, by go_num, by omega, by rw [hx.out], by first | rfl | trivial⟩
          case measure => simp [intOf]; omega
      · obtain rfl : k = l.length := by omega
        rw [show lastAt l s l.length = 0 from hc]
        obtain ⟨nb, hnb⟩ : ∃ nb, nb = newerV l s := ⟨_, rfl⟩
        have HNB := Lib.hid hnb
        rcases Nat.eq_zero_or_pos l.length with h0 | h0
        · rw [newerV_empty h0] at hnb
          subst hnb
          have d0 : decide ((0 : Int) < (l.length : Int)) = false := by rw [decide_eq_false_iff_not]; omega
          have d00 : decide (0 < l.length) = false := by rw [decide_eq_false_iff_not]; omega
          clear h0 hc hr
          go_upto_region 12 with (fail)
          clear d0 d00
          go_wp2_with fail
          refine (hC.newer _ (hl0.below q) hsm hs).mono ?_
          rw [← HNB.out]
          rintro e v4 ⟨rfl, hb⟩
          replace q := q.trans (hb.mono q.size)
          go_wp2_with fail
          go_ret
          exact ⟨rfl, q⟩
        · obtain ⟨t, htl, hm1⟩ : ∃ t, t < l.length ∧ (l.length : Int) - 1 = (t : Int) := ⟨l.length - 1, by omega, by omega⟩
          have hnb2 : decide (s < l[t].stamp) = nb := by rw [hnb, newerV_last (m := t) (by omega), decide_eq_true hk, Bool.true_and]
          obtain ⟨b, off, A, C, rfl, hbb, f0, f1, f2, hv2, hi, hn1, hn2⟩ := (hl0.below q).ver t htl
          have hmlt : (t : Int) < (l.length : Int) := by omega
          have hpos : (0 : Int) < (l.length : Int) := by omega
          clear hnb h0 hc hr
          clear f1 f2 hv2 hi hn1 hn2
          go_upto_region 12 with (fail)
          go_wp2_with fail
          refine (hC.newer _ (hl0.below q) hsm hs).mono ?_
          rw [← HNB.out]
          rintro e v4 ⟨rfl, hb⟩
          replace q := q.trans (hb.mono q.size)
          cases nb
          · go_wp2_with fail
            go_ret
            exact ⟨rfl, q⟩
          · go_wp2_with fail
            go_ret
            exact ⟨rfl, q⟩
  | succ m =>
    have hml : m < l.length := by have := cntV_le l s; omega
    have hcm1 : cntV l l[m].stamp = m + 1 := cnt_eq hk (by omega) (fun i h => by
      constructor
      · intro h2
        rcases Nat.lt_or_ge m i with h3 | h3
        · have := okV_mono hk h3 h; omega
        · omega
      · intro h2
        rcases Nat.lt_or_ge i m with h3 | h3
        · have := okV_mono hk h3 hml; omega
        · obtain rfl : i = m := by omega
          exact Int.le_refl _)
    have hsi := mayV_i64 (hk m hml).1
    cases hg : l[m].gone with
    | true =>
      have hr := Lib.hid (readV_gone hc hml hg)
      have hr2 := Lib.hid (readV_gone hcm1 hml hg)
      go_wp2_with fail
      refine (hC.read _ (hl0.below q) hsm hs).mono ?_
      rintro e v3 hE
      obtain ⟨av, cv, rfl, hv, hb⟩ := ReadVEnd.none hr.out hE
      replace q := q.trans (hb.mono q.size)
      clear hE hb
      go_upto_region 7 with (fail)
      have q3 := q
      go_loopw [8, 9] (fun ov iv wr => ∃ k : Nat, iv = .int .i64 k ∧ k ≤ l.length ∧ ov = .int .i64 ((lastAt l s k : Int) - 1) ∧ wr = v3)
        (fun _ i _ => l.length - (intOf i).toNat)
      case atStart => exact ⟨0, rfl, Nat.zero_le _, rfl, rfl⟩
      case round =>
        obtain ⟨k, rfl, hkl, rfl, rfl⟩ := hrel
        rcases Nat.lt_or_ge k l.length with hlt | hge
        · obtain ⟨b, off, A, C, rfl, hb, e0, e1, e2, hv2, hi, hn1, hn2⟩ := (hl0.below q).ver k hlt
          by_cases h5 : l[k].stamp ≤ s
          · have d1 : decide (l[k].stamp ≤ s) = true := decide_eq_true h5
            have hx := Lib.hid (lastAt_yes hlt h5)
            clear h5
            go_wp2_with fail
            go_roundw
            case rel => exact ⟨k + 1, by go_num, by omega, by rw [hx.out]; go_num, by first | rfl | trivial⟩
            case measure => simp [intOf]; omega
          · have d1 : decide (l[k].stamp ≤ s) = false := decide_eq_false h5
            have hx := Lib.hid (lastAt_no hlt h5)
            clear h5
            go_wp2_with fail
            go_roundw
            case rel => exact ⟨k + 1, by go_num, by omega, by rw [hx.out], by first | rfl | trivial⟩
            case measure => simp [intOf]; omega
        · obtain rfl : k = l.length := by omega
          rw [show lastAt l s l.length = m + 1 from hc]
          have hm1 : (((m + 1 : Nat) : Int)) - 1 = (m : Int) := by omega
          rw [hm1]
          have hmn : decide ((m : Int) < 0) = false := by rw [decide_eq_false_iff_not]; omega
          obtain ⟨nb, hnb⟩ : ∃ nb, nb = newerV l s := ⟨_, rfl⟩
          have HNB := Lib.hid hnb
          rcases Nat.eq_zero_or_pos l.length with h0 | h0
          · exact absurd hml (by omega)
          · obtain ⟨t, htl, hm1⟩ : ∃ t, t < l.length ∧ (l.length : Int) - 1 = (t : Int) := ⟨l.length - 1, by omega, by omega⟩
            have hnb2 : decide (s < l[t].stamp) = nb := by rw [hnb, newerV_last (m := t) (by omega), decide_eq_true hk, Bool.true_and]
            obtain ⟨b, off, A, C, rfl, hbb, f0, f1, f2, hv2, hi, hn1, hn2⟩ := (hl0.below q).ver t htl
            have hmlt : (t : Int) < (l.length : Int) := by omega
            have hpos : (0 : Int) < (l.length : Int) := by omega
            clear hnb h0 hc hr
            clear f1 f2 hv2 hi hn1 hn2
            obtain ⟨Am, Cm, g0, g1, g2, hvm, him, hnm1, hnm2⟩ := (hl0.below q).verAt m hml
            rw [hg] at g1
            go_upto_region 12 with (fail)
            clear hnb2 f0 hm1 hmlt hpos
            go_wp2_with fail
            refine (hC.read _ (hl0.below q) hsm hsi).mono ?_
            rintro e v4 hE
            obtain ⟨aw, cw, rfl, hw, hb⟩ := ReadVEnd.none hr2.out hE
            replace q := q.trans (hb.mono q.size)
            replace hv := hv.below hb
            clear hE g0 g1 g2 hvm him hnm1 hnm2 hb
            obtain ⟨Am, Cm, g0, g1, g2, hvm, him, hnm1, hnm2⟩ := (hl0.below q).verAt m hml
            rw [hg] at g1
            have hvr := hv.rd
            have hwr := hw.rd
            have hmr := hvm.rd
            go_upto_region 15 with (fail)
            refine wp_region_gsa (by kernel_rfl) (by kernel_rfl) [sgEq (.bool true), sgEq (.bool true), sgEq (.bool false), sgEq (.bool false), sgEq (.bool true), sgEq (.bool true), sgEq (.bool true), sgEq (.slice av 0 cv), sgEq (.string (strOf [])), sgEq (.slice aw 0 cw), sgEq (.string (strOf [])), sgEq (.bool true), sgEq (.bool true), sgEq (.bool true), sgEq (.bool false), sgEq (.slice (some ⟨b, off, none⟩) l.length c0), sgEq (.int .i64 m), sgEq (.pointer (some ⟨b, off + m * 3, none⟩)), sgEq (.pointer (some ⟨b, off + m * 3 + 1, none⟩)), sgEq (.bool true), sgEq (.bool false), sgEq (.bool true), sgEq (.bool true), sgEq (.bool true), sgEq (.slice (some ⟨b, off, none⟩) l.length c0), sgEq (.int .i64 s), sgEq (.bool nb), sgEq (.bool nb), sgEq (.bool true), sgEq (.bool true), sgEq (.bool true), sgEq (.bool false), sgEq (.bool true), sgEq (.bool true), sgEq undef, sgEq undef, sgEq undef, sgEq undef, sgEq undef, sgEq undef, sgEq undef, sgEq undef, sgEq undef, sgEq (.bool true), sgEq (.bool true), sgEq (.bool true)]
              ⟨?o0, ?o1, ?o2, ?o3, ?o4, ?o5, ?o6, ?o7, ?o8, ?o9, ?o10, ?o11, ?o12, ?o13, ?o14, ?o15, ?o16, ?o17, ?o18, ?o19, ?o20, ?o21, ?o22, ?o23, ?o24, ?o25, ?o26, ?o27, ?o28, ?o29, ?o30, ?o31, ?o32, ?o33, ?o34, ?o35, ?o36, ?o37, ?o38, ?o39, ?o40, ?o41, ?o42, ?o43, ?o44, ?o45, trivial⟩ ?fin
            case o0 =>
              refine GdOp.plain rfl (fun A vs w' hF hT hb hd => ?_)
              have e1 : A.eval (.tmp 5) = .bool true := hF 5 rfl
              exact BigFrame.wp_move _ rfl ⟨_, rfl, e1, Below.refl _ _⟩
            case o1 =>
              refine GdOp.plain rfl (fun A vs w' hF hT hb hd => ?_)
              have e1 : A.eval (.tmp 86) = .bool true := (hT 86 0 (by simp) rfl).trans (hd ⟨0, .data⟩ (by simp) rfl)
              exact BigFrame.wp_move _ rfl ⟨_, rfl, e1, Below.refl _ _⟩
            case o2 =>
              refine GdOp.taken rfl ⟨_, _, rfl, rfl, by simp⟩ (by kernel_rfl) (fun w v h => h) (fun A vs w' hF hT hb hd => ?_)
              have e1 : A.eval (.tmp 7) = .bool false := hF 7 rfl
              exact BigFrame.wp_move _ rfl ⟨_, rfl, e1, Below.refl _ _⟩
            case o3 =>
              refine GdOp.taken rfl ⟨_, _, rfl, rfl, by simp⟩ (by kernel_rfl) (fun w v h => h) (fun A vs w' hF hT hb hd => ?_)
              have e1 : A.eval (.tmp 12) = .bool false := hF 12 rfl
              exact BigFrame.wp_move _ rfl ⟨_, rfl, e1, Below.refl _ _⟩
            case o4 =>
              refine GdOp.taken rfl ⟨_, _, rfl, rfl, by simp⟩ (by kernel_rfl) (fun w v h => h) (fun A vs w' hF hT hb hd => ?_)
              have e1 : A.eval (.tmp 88) = .bool false := (hT 88 2 (by simp) rfl).trans (hd ⟨2, .data⟩ (by simp) rfl)
              have e2 : A.eval (.tmp 89) = .bool false := (hT 89 3 (by simp) rfl).trans (hd ⟨3, .data⟩ (by simp) rfl)
              exact wp_eqlB (by kernel_rfl) rfl e1 e2 ⟨_, rfl, congrArg Value.bool (by simp), Below.refl _ _⟩
            case o5 =>
              refine GdOp.plain rfl (fun A vs w' hF hT hb hd => ?_)
              have e1 : A.eval (.tmp 87) = .bool true := (hT 87 1 (by simp) rfl).trans (hd ⟨1, .data⟩ (by simp) rfl)
              have e2 : A.eval (.tmp 90) = .bool true := (hT 90 4 (by simp) rfl).trans (hd ⟨4, .data⟩ (by simp) rfl)
              exact wp_pk rfl e1 (fun _ => e2) (by simp) ⟨_, rfl, rfl, Below.refl _ _⟩
            case o6 =>
              refine GdOp.plain rfl (fun A vs w' hF hT hb hd => ?_)
              have e1 : A.eval (.tmp 91) = .bool true := (hT 91 5 (by simp) rfl).trans (hd ⟨5, .data⟩ (by simp) rfl)
              exact BigFrame.wp_move _ rfl ⟨_, rfl, e1, Below.refl _ _⟩
            case o7 =>
              refine GdOp.taken rfl ⟨_, _, rfl, rfl, by simp⟩ (by kernel_rfl) (fun w v h => h) (fun A vs w' hF hT hb hd => ?_)
              have e1 : A.eval (.tmp 6) = .slice av 0 cv := hF 6 rfl
              exact BigFrame.wp_move _ rfl ⟨_, rfl, e1, Below.refl _ _⟩
            case o8 =>
              refine GdOp.taken rfl ⟨_, _, rfl, rfl, by simp⟩ (by kernel_rfl) (fun w v h => h) (fun A vs w' hF hT hb hd => ?_)
              have e1 : A.eval (.tmp 93) = .slice av 0 cv := (hT 93 7 (by simp) rfl).trans (hd ⟨7, .data⟩ (by simp) rfl)
              exact wp_conv byP rfl e1 (hvr.below hb) ⟨_, rfl, rfl, Below.refl _ _⟩
            case o9 =>
              refine GdOp.taken rfl ⟨_, _, rfl, rfl, by simp⟩ (by kernel_rfl) (fun w v h => h) (fun A vs w' hF hT hb hd => ?_)
              have e1 : A.eval (.tmp 11) = .slice aw 0 cw := hF 11 rfl
              exact BigFrame.wp_move _ rfl ⟨_, rfl, e1, Below.refl _ _⟩
            case o10 =>
              refine GdOp.taken rfl ⟨_, _, rfl, rfl, by simp⟩ (by kernel_rfl) (fun w v h => h) (fun A vs w' hF hT hb hd => ?_)
              have e1 : A.eval (.tmp 95) = .slice aw 0 cw := (hT 95 9 (by simp) rfl).trans (hd ⟨9, .data⟩ (by simp) rfl)
              exact wp_conv byP rfl e1 (hwr.below hb) ⟨_, rfl, rfl, Below.refl _ _⟩
            case o11 =>
              refine GdOp.taken rfl ⟨_, _, rfl, rfl, by simp⟩ (by kernel_rfl) (fun w v h => h) (fun A vs w' hF hT hb hd => ?_)
              have e1 : A.eval (.tmp 94) = .string (strOf []) := (hT 94 8 (by simp) rfl).trans (hd ⟨8, .data⟩ (by simp) rfl)
              have e2 : A.eval (.tmp 96) = .string (strOf []) := (hT 96 10 (by simp) rfl).trans (hd ⟨10, .data⟩ (by simp) rfl)
              exact wp_eqlS rfl e1 e2 ⟨_, rfl, congrArg Value.bool (by simp), Below.refl _ _⟩
            case o12 =>
              refine GdOp.plain rfl (fun A vs w' hF hT hb hd => ?_)
              have e1 : A.eval (.tmp 92) = .bool true := (hT 92 6 (by simp) rfl).trans (hd ⟨6, .data⟩ (by simp) rfl)
              have e2 : A.eval (.tmp 97) = .bool true := (hT 97 11 (by simp) rfl).trans (hd ⟨11, .data⟩ (by simp) rfl)
              exact wp_pk rfl e1 (fun _ => e2) (by simp) ⟨_, rfl, rfl, Below.refl _ _⟩
            case o13 =>
              refine GdOp.plain rfl (fun A vs w' hF hT hb hd => ?_)
              have e1 : A.eval (.tmp 98) = .bool true := (hT 98 12 (by simp) rfl).trans (hd ⟨12, .data⟩ (by simp) rfl)
              exact BigFrame.wp_move _ rfl ⟨_, rfl, e1, Below.refl _ _⟩
            case o14 =>
              refine GdOp.taken rfl ⟨_, _, rfl, rfl, by simp⟩ (by kernel_rfl) (fun w v h => h) (fun A vs w' hF hT hb hd => ?_)
              have e1 : A.eval (.tmp 7) = .bool false := hF 7 rfl
              exact BigFrame.wp_move _ rfl ⟨_, rfl, e1, Below.refl _ _⟩
            case o15 =>
              refine GdOp.taken rfl ⟨_, _, rfl, rfl, by simp⟩ (by kernel_rfl) (fun w v h => h) (fun A vs w' hF hT hb hd => ?_)
              have e1 : A.eval (.tmp 0) = .slice (some ⟨b, off, none⟩) l.length c0 := hF 0 rfl
              exact BigFrame.wp_move _ rfl ⟨_, rfl, e1, Below.refl _ _⟩
            case o16 =>
              refine GdOp.taken rfl ⟨_, _, rfl, rfl, by simp⟩ (by kernel_rfl) (fun w v h => h) (fun A vs w' hF hT hb hd => ?_)
              have e1 : A.eval (.tmp 8) = .int .i64 m := hF 8 rfl
              exact BigFrame.wp_move _ rfl ⟨_, rfl, e1, Below.refl _ _⟩
            case o17 =>
              refine GdOp.taken rfl ⟨_, _, rfl, rfl, by simp⟩ (by kernel_rfl) (fun w v h => h) (fun A vs w' hF hT hb hd => ?_)
              have e1 : A.eval (.tmp 101) = .slice (some ⟨b, off, none⟩) l.length c0 := (hT 101 15 (by simp) rfl).trans (hd ⟨15, .data⟩ (by simp) rfl)
              have e2 : A.eval (.tmp 102) = .int .i64 m := (hT 102 16 (by simp) rfl).trans (hd ⟨16, .data⟩ (by simp) rfl)
              exact wp_ixN (e := 25) rfl (by kernel_rfl) (by kernel_rfl) (e1) (e2) rfl (by omega) ⟨_, rfl, rfl, Below.refl _ _⟩
            case o18 =>
              refine GdOp.taken rfl ⟨_, _, rfl, rfl, by simp⟩ (by kernel_rfl) (fun w v h => h) (fun A vs w' hF hT hb hd => ?_)
              have e1 : A.eval (.tmp 103) = .pointer (some ⟨b, off + m * 3, none⟩) := (hT 103 17 (by simp) rfl).trans (hd ⟨17, .data⟩ (by simp) rfl)
              exact wp_fieldN verS rfl (e1) (by omega) ⟨_, rfl, rfl, Below.refl _ _⟩
            case o19 =>
              refine GdOp.taken rfl ⟨_, _, rfl, rfl, by simp⟩ (by kernel_rfl) (fun w v h => h) (fun A vs w' hF hT hb hd => ?_)
              have e1 : A.eval (.tmp 104) = .pointer (some ⟨b, off + m * 3 + 1, none⟩) := (hT 104 18 (by simp) rfl).trans (hd ⟨18, .data⟩ (by simp) rfl)
              exact wp_ld_bool  rfl e1 (by kernel_rfl) (((hb.cell (p := ⟨b, off + m * 3 + 1, none⟩) (cell_lt g1)).trans g1)) ⟨_, rfl, rfl, Below.refl _ _⟩
            case o20 =>
              refine GdOp.taken rfl ⟨_, _, rfl, rfl, by simp⟩ (by kernel_rfl) (fun w v h => h) (fun A vs w' hF hT hb hd => ?_)
              have e1 : A.eval (.tmp 105) = .bool true := (hT 105 19 (by simp) rfl).trans (hd ⟨19, .data⟩ (by simp) rfl)
              exact wp_notB rfl e1 ⟨_, rfl, rfl, Below.refl _ _⟩
            case o21 =>
              refine GdOp.taken rfl ⟨_, _, rfl, rfl, by simp⟩ (by kernel_rfl) (fun w v h => h) (fun A vs w' hF hT hb hd => ?_)
              have e1 : A.eval (.tmp 100) = .bool false := (hT 100 14 (by simp) rfl).trans (hd ⟨14, .data⟩ (by simp) rfl)
              have e2 : A.eval (.tmp 106) = .bool false := (hT 106 20 (by simp) rfl).trans (hd ⟨20, .data⟩ (by simp) rfl)
              exact wp_eqlB (by kernel_rfl) rfl e1 e2 ⟨_, rfl, congrArg Value.bool (by simp), Below.refl _ _⟩
            case o22 =>
              refine GdOp.plain rfl (fun A vs w' hF hT hb hd => ?_)
              have e1 : A.eval (.tmp 99) = .bool true := (hT 99 13 (by simp) rfl).trans (hd ⟨13, .data⟩ (by simp) rfl)
              have e2 : A.eval (.tmp 107) = .bool true := (hT 107 21 (by simp) rfl).trans (hd ⟨21, .data⟩ (by simp) rfl)
              exact wp_pk rfl e1 (fun _ => e2) (by simp) ⟨_, rfl, rfl, Below.refl _ _⟩
            case o23 =>
              refine GdOp.plain rfl (fun A vs w' hF hT hb hd => ?_)
              have e1 : A.eval (.tmp 108) = .bool true := (hT 108 22 (by simp) rfl).trans (hd ⟨22, .data⟩ (by simp) rfl)
              exact BigFrame.wp_move _ rfl ⟨_, rfl, e1, Below.refl _ _⟩
            case o24 =>
              refine GdOp.taken rfl ⟨_, _, rfl, rfl, by simp⟩ (by kernel_rfl) (fun w v h => h) (fun A vs w' hF hT hb hd => ?_)
              have e1 : A.eval (.tmp 0) = .slice (some ⟨b, off, none⟩) l.length c0 := hF 0 rfl
              exact BigFrame.wp_move _ rfl ⟨_, rfl, e1, Below.refl _ _⟩
            case o25 =>
              refine GdOp.taken rfl ⟨_, _, rfl, rfl, by simp⟩ (by kernel_rfl) (fun w v h => h) (fun A vs w' hF hT hb hd => ?_)
              have e1 : A.eval (.tmp 1) = .int .i64 s := hF 1 rfl
              exact BigFrame.wp_move _ rfl ⟨_, rfl, e1, Below.refl _ _⟩
            case o26 =>
              refine GdOp.taken rfl ⟨_, _, rfl, rfl, by simp⟩ (by kernel_rfl) (fun w v h => h) (fun A vs w' hF hT hb hd => ?_)
              have e1 : A.eval (.tmp 110) = .slice (some ⟨b, off, none⟩) l.length c0 := (hT 110 24 (by simp) rfl).trans (hd ⟨24, .data⟩ (by simp) rfl)
              have e2 : A.eval (.tmp 111) = .int .i64 s := (hT 111 25 (by simp) rfl).trans (hd ⟨25, .data⟩ (by simp) rfl)
              refine wp_callFn rfl (enters_of Try.func21 (by kernel_rfl) rfl) (args := #[.slice (some ⟨b, off, none⟩) l.length c0, .int .i64 s]) (by simp [e1, e2]) ((hC.newer w' (hl0.below (q.trans (hb.mono q.size))) hsm hs).mono ?_)
              rintro e w2 ⟨rfl, hb2⟩
              exact ⟨_, rfl, _, rfl, congrArg Value.bool HNB.out.symm, hb2⟩
            case o27 =>
              refine GdOp.taken rfl ⟨_, _, rfl, rfl, by simp⟩ (by kernel_rfl) (fun w v h => h) (fun A vs w' hF hT hb hd => ?_)
              have e1 : A.eval (.tmp 10) = .bool nb := hF 10 rfl
              exact BigFrame.wp_move _ rfl ⟨_, rfl, e1, Below.refl _ _⟩
            case o28 =>
              refine GdOp.taken rfl ⟨_, _, rfl, rfl, by simp⟩ (by kernel_rfl) (fun w v h => h) (fun A vs w' hF hT hb hd => ?_)
              have e1 : A.eval (.tmp 112) = .bool nb := (hT 112 26 (by simp) rfl).trans (hd ⟨26, .data⟩ (by simp) rfl)
              have e2 : A.eval (.tmp 113) = .bool nb := (hT 113 27 (by simp) rfl).trans (hd ⟨27, .data⟩ (by simp) rfl)
              exact wp_eqlB (by kernel_rfl) rfl e1 e2 ⟨_, rfl, congrArg Value.bool (by simp), Below.refl _ _⟩
            case o29 =>
              refine GdOp.plain rfl (fun A vs w' hF hT hb hd => ?_)
              have e1 : A.eval (.tmp 109) = .bool true := (hT 109 23 (by simp) rfl).trans (hd ⟨23, .data⟩ (by simp) rfl)
              have e2 : A.eval (.tmp 114) = .bool true := (hT 114 28 (by simp) rfl).trans (hd ⟨28, .data⟩ (by simp) rfl)
              exact wp_pk rfl e1 (fun _ => e2) (by simp) ⟨_, rfl, rfl, Below.refl _ _⟩
            case o30 =>
              refine GdOp.plain rfl (fun A vs w' hF hT hb hd => ?_)
              have e1 : A.eval (.tmp 115) = .bool true := (hT 115 29 (by simp) rfl).trans (hd ⟨29, .data⟩ (by simp) rfl)
              exact BigFrame.wp_move _ rfl ⟨_, rfl, e1, Below.refl _ _⟩
            case o31 =>
              refine GdOp.taken rfl ⟨_, _, rfl, rfl, by simp⟩ (by kernel_rfl) (fun w v h => h) (fun A vs w' hF hT hb hd => ?_)
              have e1 : A.eval (.tmp 7) = .bool false := hF 7 rfl
              exact BigFrame.wp_move _ rfl ⟨_, rfl, e1, Below.refl _ _⟩
            case o32 =>
              refine GdOp.taken rfl ⟨_, _, rfl, rfl, by simp⟩ (by kernel_rfl) (fun w v h => h) (fun A vs w' hF hT hb hd => ?_)
              have e1 : A.eval (.tmp 117) = .bool false := (hT 117 31 (by simp) rfl).trans (hd ⟨31, .data⟩ (by simp) rfl)
              exact wp_notB rfl e1 ⟨_, rfl, rfl, Below.refl _ _⟩
            case o33 =>
              refine GdOp.taken rfl ⟨_, _, rfl, rfl, by simp⟩ (by kernel_rfl) (fun w v h => h) (fun A vs w' hF hT hb hd => ?_)
              have e1 : A.eval (.tmp 118) = .bool true := (hT 118 32 (by simp) rfl).trans (hd ⟨32, .data⟩ (by simp) rfl)
              exact BigFrame.wp_move _ rfl ⟨_, rfl, e1, Below.refl _ _⟩
            case o34 =>
              exact GdOp.left rfl ⟨_, _, rfl, rfl, by simp⟩ (by kernel_rfl) (fun w v h => .inl h) (fun w => rfl)
            case o35 =>
              exact GdOp.left rfl ⟨_, _, rfl, rfl, by simp⟩ (by kernel_rfl) (fun w v h => .inl h) (fun w => rfl)
            case o36 =>
              exact GdOp.left rfl ⟨_, _, rfl, rfl, by simp⟩ (by kernel_rfl) (fun w v h => .inl h) (fun w => rfl)
            case o37 =>
              exact GdOp.left rfl ⟨_, _, rfl, rfl, by simp⟩ (by kernel_rfl) (fun w v h => .inl h) (fun w => rfl)
            case o38 =>
              exact GdOp.left rfl ⟨_, _, rfl, rfl, by simp⟩ (by kernel_rfl) (fun w v h => .inl h) (fun w => rfl)
            case o39 =>
              exact GdOp.left rfl ⟨_, _, rfl, rfl, by simp⟩ (by kernel_rfl) (fun w v h => .inl h) (fun w => rfl)
            case o40 =>
              exact GdOp.left rfl ⟨_, _, rfl, rfl, by simp⟩ (by kernel_rfl) (fun w v h => .inl h) (fun w => rfl)
            case o41 =>
              exact GdOp.left rfl ⟨_, _, rfl, rfl, by simp⟩ (by kernel_rfl) (fun w v h => .inl h) (fun w => rfl)
            case o42 =>
              exact GdOp.left rfl ⟨_, _, rfl, rfl, by simp⟩ (by kernel_rfl) (fun w v h => .inl h) (fun w => rfl)
            case o43 =>
              refine GdOp.taken rfl ⟨_, _, rfl, rfl, by simp⟩ (by kernel_rfl) (fun w v h => h) (fun A vs w' hF hT hb hd => ?_)
              have e1 : A.eval (.tmp 119) = .bool true := (hT 119 33 (by simp) rfl).trans (hd ⟨33, .data⟩ (by simp) rfl)
              have e3 : A.eval (.tmp 128) = undef := (hT 128 42 (by simp) rfl).trans (hd ⟨42, .data⟩ (by simp) rfl)
              exact wp_pk rfl e1 (fun _ => rfl) (by simp) ⟨_, rfl, rfl, Below.refl _ _⟩
            case o44 =>
              refine GdOp.plain rfl (fun A vs w' hF hT hb hd => ?_)
              have e1 : A.eval (.tmp 116) = .bool true := (hT 116 30 (by simp) rfl).trans (hd ⟨30, .data⟩ (by simp) rfl)
              have e2 : A.eval (.tmp 129) = .bool true := (hT 129 43 (by simp) rfl).trans (hd ⟨43, .data⟩ (by simp) rfl)
              exact wp_pk rfl e1 (fun _ => e2) (by simp) ⟨_, rfl, rfl, Below.refl _ _⟩
            case o45 =>
              refine GdOp.plain rfl (fun A vs w' hF hT hb hd => ?_)
              have e1 : A.eval (.tmp 130) = .bool true := (hT 130 44 (by simp) rfl).trans (hd ⟨44, .data⟩ (by simp) rfl)
              exact BigFrame.wp_assign _ rfl ⟨_, rfl, e1, Below.refl _ _⟩
            case fin =>
              intro A vs w' hA hb hG
              have e4 : A.eval (.tmp 4) = .bool true := (hA.2.2.2 4 45 (by simp) rfl).trans (hG 45 (by decide))
              have hd : A.defers = [] := hA.1
              clear hG hA
              go_wp2
              refine bodyPost_ret (v := .bool true) ?_ hd ⟨rfl, q.trans (hb.mono q.size)⟩
              rw [← e4]
              exact results_tmp rfl _ _ _
    | false =>
      have hr := Lib.hid (readV_some hk hc hml hg)
      have hr2 := Lib.hid (readV_some hk hcm1 hml hg)
      go_wp2_with fail
      refine (hC.read _ (hl0.below q) hsm hs).mono ?_
      rintro e v3 hE
      obtain ⟨av, cv, rfl, hv, hb⟩ := ReadVEnd.some hr.out hE
      replace q := q.trans (hb.mono q.size)
      clear hE hb
      go_upto_region 7 with (fail)
      have q3 := q
      go_loopw [8, 9] (fun ov iv wr => ∃ k : Nat, iv = .int .i64 k ∧ k ≤ l.length ∧ ov = .int .i64 ((lastAt l s k : Int) - 1) ∧ wr = v3)
        (fun _ i _ => l.length - (intOf i).toNat)
      case atStart => exact ⟨0, rfl, Nat.zero_le _, rfl, rfl⟩
      case round =>
        obtain ⟨k, rfl, hkl, rfl, rfl⟩ := hrel
        rcases Nat.lt_or_ge k l.length with hlt | hge
        · obtain ⟨b, off, A, C, rfl, hb, e0, e1, e2, hv2, hi, hn1, hn2⟩ := (hl0.below q).ver k hlt
          by_cases h5 : l[k].stamp ≤ s
          · have d1 : decide (l[k].stamp ≤ s) = true := decide_eq_true h5
            have hx := Lib.hid (lastAt_yes hlt h5)
            clear h5
            go_wp2_with fail
            go_roundw
            case rel => exact ⟨k + 1, by go_num, by omega, by rw [hx.out]; go_num, by first | rfl | trivial⟩
            case measure => simp [intOf]; omega
          · have d1 : decide (l[k].stamp ≤ s) = false := decide_eq_false h5
            have hx := Lib.hid (lastAt_no hlt h5)
            clear h5
            go_wp2_with fail
            go_roundw
            case rel => exact ⟨k + 1, by go_num, by omega, by rw [hx.out], by first | rfl | trivial⟩
            case measure => simp [intOf]; omega
        · obtain rfl : k = l.length := by omega
          rw [show lastAt l s l.length = m + 1 from hc]
          have hm1 : (((m + 1 : Nat) : Int)) - 1 = (m : Int) := by omega
          rw [hm1]
          have hmn : decide ((m : Int) < 0) = false := by rw [decide_eq_false_iff_not]; omega
          obtain ⟨nb, hnb⟩ : ∃ nb, nb = newerV l s := ⟨_, rfl⟩
          have HNB := Lib.hid hnb
          rcases Nat.eq_zero_or_pos l.length with h0 | h0
          · exact absurd hml (by omega)
          · obtain ⟨t, htl, hm1⟩ : ∃ t, t < l.length ∧ (l.length : Int) - 1 = (t : Int) := ⟨l.length - 1, by omega, by omega⟩
            have hnb2 : decide (s < l[t].stamp) = nb := by rw [hnb, newerV_last (m := t) (by omega), decide_eq_true hk, Bool.true_and]
            obtain ⟨b, off, A, C, rfl, hbb, f0, f1, f2, hv2, hi, hn1, hn2⟩ := (hl0.below q).ver t htl
            have hmlt : (t : Int) < (l.length : Int) := by omega
            have hpos : (0 : Int) < (l.length : Int) := by omega
            clear hnb h0 hc hr
            clear f1 f2 hv2 hi hn1 hn2
            obtain ⟨Am, Cm, g0, g1, g2, hvm, him, hnm1, hnm2⟩ := (hl0.below q).verAt m hml
            rw [hg] at g1
            go_upto_region 12 with (fail)
            clear hnb2 f0 hm1 hmlt hpos
            go_wp2_with fail
            refine (hC.read _ (hl0.below q) hsm hsi).mono ?_
            rintro e v4 hE
            obtain ⟨aw, cw, rfl, hw, hb⟩ := ReadVEnd.some hr2.out hE
            replace q := q.trans (hb.mono q.size)
            replace hv := hv.below hb
            clear hE g0 g1 g2 hvm him hnm1 hnm2 hb
            obtain ⟨Am, Cm, g0, g1, g2, hvm, him, hnm1, hnm2⟩ := (hl0.below q).verAt m hml
            rw [hg] at g1
            have hvr := hv.rd
            have hwr := hw.rd
            have hmr := hvm.rd
            go_upto_region 15 with (fail)
            refine wp_region_gsa (by kernel_rfl) (by kernel_rfl) [sgEq (.bool true), sgEq (.bool true), sgEq (.bool true), sgEq (.bool true), sgEq (.bool true), sgEq (.bool true), sgEq (.bool true), sgEq (.slice av l[m].value.length cv), sgEq (.string (strOf l[m].value)), sgEq (.slice aw l[m].value.length cw), sgEq (.string (strOf l[m].value)), sgEq (.bool true), sgEq (.bool true), sgEq (.bool true), sgEq (.bool true), sgEq (.slice (some ⟨b, off, none⟩) l.length c0), sgEq (.int .i64 m), sgEq (.pointer (some ⟨b, off + m * 3, none⟩)), sgEq (.pointer (some ⟨b, off + m * 3 + 1, none⟩)), sgEq (.bool false), sgEq (.bool true), sgEq (.bool true), sgEq (.bool true), sgEq (.bool true), sgEq (.slice (some ⟨b, off, none⟩) l.length c0), sgEq (.int .i64 s), sgEq (.bool nb), sgEq (.bool nb), sgEq (.bool true), sgEq (.bool true), sgEq (.bool true), sgEq (.bool true), sgEq (.bool false), sgEq (.bool false), sgEq (.slice av l[m].value.length cv), sgEq (.string (strOf l[m].value)), sgEq (.slice (some ⟨b, off, none⟩) l.length c0), sgEq (.int .i64 m), sgEq (.pointer (some ⟨b, off + m * 3, none⟩)), sgEq (.pointer (some ⟨b, off + m * 3 + 2, none⟩)), sgEq (.slice Am l[m].value.length Cm), sgEq (.string (strOf l[m].value)), sgEq (.bool true), sgEq (.bool true), sgEq (.bool true), sgEq (.bool true)]
              ⟨?o0, ?o1, ?o2, ?o3, ?o4, ?o5, ?o6, ?o7, ?o8, ?o9, ?o10, ?o11, ?o12, ?o13, ?o14, ?o15, ?o16, ?o17, ?o18, ?o19, ?o20, ?o21, ?o22, ?o23, ?o24, ?o25, ?o26, ?o27, ?o28, ?o29, ?o30, ?o31, ?o32, ?o33, ?o34, ?o35, ?o36, ?o37, ?o38, ?o39, ?o40, ?o41, ?o42, ?o43, ?o44, ?o45, trivial⟩ ?fin
            case o0 =>
              refine GdOp.plain rfl (fun A vs w' hF hT hb hd => ?_)
              have e1 : A.eval (.tmp 5) = .bool true := hF 5 rfl
              exact BigFrame.wp_move _ rfl ⟨_, rfl, e1, Below.refl _ _⟩
            case o1 =>
              refine GdOp.plain rfl (fun A vs w' hF hT hb hd => ?_)
              have e1 : A.eval (.tmp 86) = .bool true := (hT 86 0 (by simp) rfl).trans (hd ⟨0, .data⟩ (by simp) rfl)
              exact BigFrame.wp_move _ rfl ⟨_, rfl, e1, Below.refl _ _⟩
            case o2 =>
              refine GdOp.taken rfl ⟨_, _, rfl, rfl, by simp⟩ (by kernel_rfl) (fun w v h => h) (fun A vs w' hF hT hb hd => ?_)
              have e1 : A.eval (.tmp 7) = .bool true := hF 7 rfl
              exact BigFrame.wp_move _ rfl ⟨_, rfl, e1, Below.refl _ _⟩
            case o3 =>
              refine GdOp.taken rfl ⟨_, _, rfl, rfl, by simp⟩ (by kernel_rfl) (fun w v h => h) (fun A vs w' hF hT hb hd => ?_)
              have e1 : A.eval (.tmp 12) = .bool true := hF 12 rfl
              exact BigFrame.wp_move _ rfl ⟨_, rfl, e1, Below.refl _ _⟩
            case o4 =>
              refine GdOp.taken rfl ⟨_, _, rfl, rfl, by simp⟩ (by kernel_rfl) (fun w v h => h) (fun A vs w' hF hT hb hd => ?_)
              have e1 : A.eval (.tmp 88) = .bool true := (hT 88 2 (by simp) rfl).trans (hd ⟨2, .data⟩ (by simp) rfl)
              have e2 : A.eval (.tmp 89) = .bool true := (hT 89 3 (by simp) rfl).trans (hd ⟨3, .data⟩ (by simp) rfl)
              exact wp_eqlB (by kernel_rfl) rfl e1 e2 ⟨_, rfl, congrArg Value.bool (by simp), Below.refl _ _⟩
            case o5 =>
              refine GdOp.plain rfl (fun A vs w' hF hT hb hd => ?_)
              have e1 : A.eval (.tmp 87) = .bool true := (hT 87 1 (by simp) rfl).trans (hd ⟨1, .data⟩ (by simp) rfl)
              have e2 : A.eval (.tmp 90) = .bool true := (hT 90 4 (by simp) rfl).trans (hd ⟨4, .data⟩ (by simp) rfl)
              exact wp_pk rfl e1 (fun _ => e2) (by simp) ⟨_, rfl, rfl, Below.refl _ _⟩
            case o6 =>
              refine GdOp.plain rfl (fun A vs w' hF hT hb hd => ?_)
              have e1 : A.eval (.tmp 91) = .bool true := (hT 91 5 (by simp) rfl).trans (hd ⟨5, .data⟩ (by simp) rfl)
              exact BigFrame.wp_move _ rfl ⟨_, rfl, e1, Below.refl _ _⟩
            case o7 =>
              refine GdOp.taken rfl ⟨_, _, rfl, rfl, by simp⟩ (by kernel_rfl) (fun w v h => h) (fun A vs w' hF hT hb hd => ?_)
              have e1 : A.eval (.tmp 6) = .slice av l[m].value.length cv := hF 6 rfl
              exact BigFrame.wp_move _ rfl ⟨_, rfl, e1, Below.refl _ _⟩
            case o8 =>
              refine GdOp.taken rfl ⟨_, _, rfl, rfl, by simp⟩ (by kernel_rfl) (fun w v h => h) (fun A vs w' hF hT hb hd => ?_)
              have e1 : A.eval (.tmp 93) = .slice av l[m].value.length cv := (hT 93 7 (by simp) rfl).trans (hd ⟨7, .data⟩ (by simp) rfl)
              exact wp_conv byP rfl e1 (hvr.below hb) ⟨_, rfl, rfl, Below.refl _ _⟩
            case o9 =>
              refine GdOp.taken rfl ⟨_, _, rfl, rfl, by simp⟩ (by kernel_rfl) (fun w v h => h) (fun A vs w' hF hT hb hd => ?_)
              have e1 : A.eval (.tmp 11) = .slice aw l[m].value.length cw := hF 11 rfl
              exact BigFrame.wp_move _ rfl ⟨_, rfl, e1, Below.refl _ _⟩
            case o10 =>
              refine GdOp.taken rfl ⟨_, _, rfl, rfl, by simp⟩ (by kernel_rfl) (fun w v h => h) (fun A vs w' hF hT hb hd => ?_)
              have e1 : A.eval (.tmp 95) = .slice aw l[m].value.length cw := (hT 95 9 (by simp) rfl).trans (hd ⟨9, .data⟩ (by simp) rfl)
              exact wp_conv byP rfl e1 (hwr.below hb) ⟨_, rfl, rfl, Below.refl _ _⟩
            case o11 =>
              refine GdOp.taken rfl ⟨_, _, rfl, rfl, by simp⟩ (by kernel_rfl) (fun w v h => h) (fun A vs w' hF hT hb hd => ?_)
              have e1 : A.eval (.tmp 94) = .string (strOf l[m].value) := (hT 94 8 (by simp) rfl).trans (hd ⟨8, .data⟩ (by simp) rfl)
              have e2 : A.eval (.tmp 96) = .string (strOf l[m].value) := (hT 96 10 (by simp) rfl).trans (hd ⟨10, .data⟩ (by simp) rfl)
              exact wp_eqlS rfl e1 e2 ⟨_, rfl, congrArg Value.bool (by simp), Below.refl _ _⟩
            case o12 =>
              refine GdOp.plain rfl (fun A vs w' hF hT hb hd => ?_)
              have e1 : A.eval (.tmp 92) = .bool true := (hT 92 6 (by simp) rfl).trans (hd ⟨6, .data⟩ (by simp) rfl)
              have e2 : A.eval (.tmp 97) = .bool true := (hT 97 11 (by simp) rfl).trans (hd ⟨11, .data⟩ (by simp) rfl)
              exact wp_pk rfl e1 (fun _ => e2) (by simp) ⟨_, rfl, rfl, Below.refl _ _⟩
            case o13 =>
              refine GdOp.plain rfl (fun A vs w' hF hT hb hd => ?_)
              have e1 : A.eval (.tmp 98) = .bool true := (hT 98 12 (by simp) rfl).trans (hd ⟨12, .data⟩ (by simp) rfl)
              exact BigFrame.wp_move _ rfl ⟨_, rfl, e1, Below.refl _ _⟩
            case o14 =>
              refine GdOp.taken rfl ⟨_, _, rfl, rfl, by simp⟩ (by kernel_rfl) (fun w v h => h) (fun A vs w' hF hT hb hd => ?_)
              have e1 : A.eval (.tmp 7) = .bool true := hF 7 rfl
              exact BigFrame.wp_move _ rfl ⟨_, rfl, e1, Below.refl _ _⟩
            case o15 =>
              refine GdOp.taken rfl ⟨_, _, rfl, rfl, by simp⟩ (by kernel_rfl) (fun w v h => h) (fun A vs w' hF hT hb hd => ?_)
              have e1 : A.eval (.tmp 0) = .slice (some ⟨b, off, none⟩) l.length c0 := hF 0 rfl
              exact BigFrame.wp_move _ rfl ⟨_, rfl, e1, Below.refl _ _⟩
            case o16 =>
              refine GdOp.taken rfl ⟨_, _, rfl, rfl, by simp⟩ (by kernel_rfl) (fun w v h => h) (fun A vs w' hF hT hb hd => ?_)
              have e1 : A.eval (.tmp 8) = .int .i64 m := hF 8 rfl
              exact BigFrame.wp_move _ rfl ⟨_, rfl, e1, Below.refl _ _⟩
            case o17 =>
              refine GdOp.taken rfl ⟨_, _, rfl, rfl, by simp⟩ (by kernel_rfl) (fun w v h => h) (fun A vs w' hF hT hb hd => ?_)
              have e1 : A.eval (.tmp 101) = .slice (some ⟨b, off, none⟩) l.length c0 := (hT 101 15 (by simp) rfl).trans (hd ⟨15, .data⟩ (by simp) rfl)
              have e2 : A.eval (.tmp 102) = .int .i64 m := (hT 102 16 (by simp) rfl).trans (hd ⟨16, .data⟩ (by simp) rfl)
              exact wp_ixN (e := 25) rfl (by kernel_rfl) (by kernel_rfl) (e1) (e2) rfl (by omega) ⟨_, rfl, rfl, Below.refl _ _⟩
            case o18 =>
              refine GdOp.taken rfl ⟨_, _, rfl, rfl, by simp⟩ (by kernel_rfl) (fun w v h => h) (fun A vs w' hF hT hb hd => ?_)
              have e1 : A.eval (.tmp 103) = .pointer (some ⟨b, off + m * 3, none⟩) := (hT 103 17 (by simp) rfl).trans (hd ⟨17, .data⟩ (by simp) rfl)
              exact wp_fieldN verS rfl (e1) (by omega) ⟨_, rfl, rfl, Below.refl _ _⟩
            case o19 =>
              refine GdOp.taken rfl ⟨_, _, rfl, rfl, by simp⟩ (by kernel_rfl) (fun w v h => h) (fun A vs w' hF hT hb hd => ?_)
              have e1 : A.eval (.tmp 104) = .pointer (some ⟨b, off + m * 3 + 1, none⟩) := (hT 104 18 (by simp) rfl).trans (hd ⟨18, .data⟩ (by simp) rfl)
              exact wp_ld_bool  rfl e1 (by kernel_rfl) (((hb.cell (p := ⟨b, off + m * 3 + 1, none⟩) (cell_lt g1)).trans g1)) ⟨_, rfl, rfl, Below.refl _ _⟩
            case o20 =>
              refine GdOp.taken rfl ⟨_, _, rfl, rfl, by simp⟩ (by kernel_rfl) (fun w v h => h) (fun A vs w' hF hT hb hd => ?_)
              have e1 : A.eval (.tmp 105) = .bool false := (hT 105 19 (by simp) rfl).trans (hd ⟨19, .data⟩ (by simp) rfl)
              exact wp_notB rfl e1 ⟨_, rfl, rfl, Below.refl _ _⟩
            case o21 =>
              refine GdOp.taken rfl ⟨_, _, rfl, rfl, by simp⟩ (by kernel_rfl) (fun w v h => h) (fun A vs w' hF hT hb hd => ?_)
              have e1 : A.eval (.tmp 100) = .bool true := (hT 100 14 (by simp) rfl).trans (hd ⟨14, .data⟩ (by simp) rfl)
              have e2 : A.eval (.tmp 106) = .bool true := (hT 106 20 (by simp) rfl).trans (hd ⟨20, .data⟩ (by simp) rfl)
              exact wp_eqlB (by kernel_rfl) rfl e1 e2 ⟨_, rfl, congrArg Value.bool (by simp), Below.refl _ _⟩
            case o22 =>
              refine GdOp.plain rfl (fun A vs w' hF hT hb hd => ?_)
              have e1 : A.eval (.tmp 99) = .bool true := (hT 99 13 (by simp) rfl).trans (hd ⟨13, .data⟩ (by simp) rfl)
              have e2 : A.eval (.tmp 107) = .bool true := (hT 107 21 (by simp) rfl).trans (hd ⟨21, .data⟩ (by simp) rfl)
              exact wp_pk rfl e1 (fun _ => e2) (by simp) ⟨_, rfl, rfl, Below.refl _ _⟩
            case o23 =>
              refine GdOp.plain rfl (fun A vs w' hF hT hb hd => ?_)
              have e1 : A.eval (.tmp 108) = .bool true := (hT 108 22 (by simp) rfl).trans (hd ⟨22, .data⟩ (by simp) rfl)
              exact BigFrame.wp_move _ rfl ⟨_, rfl, e1, Below.refl _ _⟩
            case o24 =>
              refine GdOp.taken rfl ⟨_, _, rfl, rfl, by simp⟩ (by kernel_rfl) (fun w v h => h) (fun A vs w' hF hT hb hd => ?_)
              have e1 : A.eval (.tmp 0) = .slice (some ⟨b, off, none⟩) l.length c0 := hF 0 rfl
              exact BigFrame.wp_move _ rfl ⟨_, rfl, e1, Below.refl _ _⟩
            case o25 =>
              refine GdOp.taken rfl ⟨_, _, rfl, rfl, by simp⟩ (by kernel_rfl) (fun w v h => h) (fun A vs w' hF hT hb hd => ?_)
              have e1 : A.eval (.tmp 1) = .int .i64 s := hF 1 rfl
              exact BigFrame.wp_move _ rfl ⟨_, rfl, e1, Below.refl _ _⟩
            case o26 =>
              refine GdOp.taken rfl ⟨_, _, rfl, rfl, by simp⟩ (by kernel_rfl) (fun w v h => h) (fun A vs w' hF hT hb hd => ?_)
              have e1 : A.eval (.tmp 110) = .slice (some ⟨b, off, none⟩) l.length c0 := (hT 110 24 (by simp) rfl).trans (hd ⟨24, .data⟩ (by simp) rfl)
              have e2 : A.eval (.tmp 111) = .int .i64 s := (hT 111 25 (by simp) rfl).trans (hd ⟨25, .data⟩ (by simp) rfl)
              refine wp_callFn rfl (enters_of Try.func21 (by kernel_rfl) rfl) (args := #[.slice (some ⟨b, off, none⟩) l.length c0, .int .i64 s]) (by simp [e1, e2]) ((hC.newer w' (hl0.below (q.trans (hb.mono q.size))) hsm hs).mono ?_)
              rintro e w2 ⟨rfl, hb2⟩
              exact ⟨_, rfl, _, rfl, congrArg Value.bool HNB.out.symm, hb2⟩
            case o27 =>
              refine GdOp.taken rfl ⟨_, _, rfl, rfl, by simp⟩ (by kernel_rfl) (fun w v h => h) (fun A vs w' hF hT hb hd => ?_)
              have e1 : A.eval (.tmp 10) = .bool nb := hF 10 rfl
              exact BigFrame.wp_move _ rfl ⟨_, rfl, e1, Below.refl _ _⟩
            case o28 =>
              refine GdOp.taken rfl ⟨_, _, rfl, rfl, by simp⟩ (by kernel_rfl) (fun w v h => h) (fun A vs w' hF hT hb hd => ?_)
              have e1 : A.eval (.tmp 112) = .bool nb := (hT 112 26 (by simp) rfl).trans (hd ⟨26, .data⟩ (by simp) rfl)
              have e2 : A.eval (.tmp 113) = .bool nb := (hT 113 27 (by simp) rfl).trans (hd ⟨27, .data⟩ (by simp) rfl)
              exact wp_eqlB (by kernel_rfl) rfl e1 e2 ⟨_, rfl, congrArg Value.bool (by simp), Below.refl _ _⟩
            case o29 =>
              refine GdOp.plain rfl (fun A vs w' hF hT hb hd => ?_)
              have e1 : A.eval (.tmp 109) = .bool true := (hT 109 23 (by simp) rfl).trans (hd ⟨23, .data⟩ (by simp) rfl)
              have e2 : A.eval (.tmp 114) = .bool true := (hT 114 28 (by simp) rfl).trans (hd ⟨28, .data⟩ (by simp) rfl)
              exact wp_pk rfl e1 (fun _ => e2) (by simp) ⟨_, rfl, rfl, Below.refl _ _⟩
            case o30 =>
              refine GdOp.plain rfl (fun A vs w' hF hT hb hd => ?_)
              have e1 : A.eval (.tmp 115) = .bool true := (hT 115 29 (by simp) rfl).trans (hd ⟨29, .data⟩ (by simp) rfl)
              exact BigFrame.wp_move _ rfl ⟨_, rfl, e1, Below.refl _ _⟩
            case o31 =>
              refine GdOp.taken rfl ⟨_, _, rfl, rfl, by simp⟩ (by kernel_rfl) (fun w v h => h) (fun A vs w' hF hT hb hd => ?_)
              have e1 : A.eval (.tmp 7) = .bool true := hF 7 rfl
              exact BigFrame.wp_move _ rfl ⟨_, rfl, e1, Below.refl _ _⟩
            case o32 =>
              refine GdOp.taken rfl ⟨_, _, rfl, rfl, by simp⟩ (by kernel_rfl) (fun w v h => h) (fun A vs w' hF hT hb hd => ?_)
              have e1 : A.eval (.tmp 117) = .bool true := (hT 117 31 (by simp) rfl).trans (hd ⟨31, .data⟩ (by simp) rfl)
              exact wp_notB rfl e1 ⟨_, rfl, rfl, Below.refl _ _⟩
            case o33 =>
              refine GdOp.taken rfl ⟨_, _, rfl, rfl, by simp⟩ (by kernel_rfl) (fun w v h => h) (fun A vs w' hF hT hb hd => ?_)
              have e1 : A.eval (.tmp 118) = .bool false := (hT 118 32 (by simp) rfl).trans (hd ⟨32, .data⟩ (by simp) rfl)
              exact BigFrame.wp_move _ rfl ⟨_, rfl, e1, Below.refl _ _⟩
            case o34 =>
              refine GdOp.taken rfl ⟨_, _, rfl, rfl, by simp⟩ (by kernel_rfl) (fun w v h => h) (fun A vs w' hF hT hb hd => ?_)
              have e1 : A.eval (.tmp 6) = .slice av l[m].value.length cv := hF 6 rfl
              exact BigFrame.wp_move _ rfl ⟨_, rfl, e1, Below.refl _ _⟩
            case o35 =>
              refine GdOp.taken rfl ⟨_, _, rfl, rfl, by simp⟩ (by kernel_rfl) (fun w v h => h) (fun A vs w' hF hT hb hd => ?_)
              have e1 : A.eval (.tmp 120) = .slice av l[m].value.length cv := (hT 120 34 (by simp) rfl).trans (hd ⟨34, .data⟩ (by simp) rfl)
              exact wp_conv byP rfl e1 (hvr.below hb) ⟨_, rfl, rfl, Below.refl _ _⟩
            case o36 =>
              refine GdOp.taken rfl ⟨_, _, rfl, rfl, by simp⟩ (by kernel_rfl) (fun w v h => h) (fun A vs w' hF hT hb hd => ?_)
              have e1 : A.eval (.tmp 0) = .slice (some ⟨b, off, none⟩) l.length c0 := hF 0 rfl
              exact BigFrame.wp_move _ rfl ⟨_, rfl, e1, Below.refl _ _⟩
            case o37 =>
              refine GdOp.taken rfl ⟨_, _, rfl, rfl, by simp⟩ (by kernel_rfl) (fun w v h => h) (fun A vs w' hF hT hb hd => ?_)
              have e1 : A.eval (.tmp 8) = .int .i64 m := hF 8 rfl
              exact BigFrame.wp_move _ rfl ⟨_, rfl, e1, Below.refl _ _⟩
            case o38 =>
              refine GdOp.taken rfl ⟨_, _, rfl, rfl, by simp⟩ (by kernel_rfl) (fun w v h => h) (fun A vs w' hF hT hb hd => ?_)
              have e1 : A.eval (.tmp 122) = .slice (some ⟨b, off, none⟩) l.length c0 := (hT 122 36 (by simp) rfl).trans (hd ⟨36, .data⟩ (by simp) rfl)
              have e2 : A.eval (.tmp 123) = .int .i64 m := (hT 123 37 (by simp) rfl).trans (hd ⟨37, .data⟩ (by simp) rfl)
              exact wp_ixN (e := 25) rfl (by kernel_rfl) (by kernel_rfl) (e1) (e2) rfl (by omega) ⟨_, rfl, rfl, Below.refl _ _⟩
            case o39 =>
              refine GdOp.taken rfl ⟨_, _, rfl, rfl, by simp⟩ (by kernel_rfl) (fun w v h => h) (fun A vs w' hF hT hb hd => ?_)
              have e1 : A.eval (.tmp 124) = .pointer (some ⟨b, off + m * 3, none⟩) := (hT 124 38 (by simp) rfl).trans (hd ⟨38, .data⟩ (by simp) rfl)
              exact wp_fieldN verS rfl (e1) (by omega) ⟨_, rfl, rfl, Below.refl _ _⟩
            case o40 =>
              refine GdOp.taken rfl ⟨_, _, rfl, rfl, by simp⟩ (by kernel_rfl) (fun w v h => h) (fun A vs w' hF hT hb hd => ?_)
              have e1 : A.eval (.tmp 125) = .pointer (some ⟨b, off + m * 3 + 2, none⟩) := (hT 125 39 (by simp) rfl).trans (hd ⟨39, .data⟩ (by simp) rfl)
              exact wp_ld_slice (e := 5) rfl e1 (by kernel_rfl) (((hb.cell (p := ⟨b, off + m * 3 + 2, none⟩) (cell_lt g2)).trans g2)) ⟨_, rfl, rfl, Below.refl _ _⟩
            case o41 =>
              refine GdOp.taken rfl ⟨_, _, rfl, rfl, by simp⟩ (by kernel_rfl) (fun w v h => h) (fun A vs w' hF hT hb hd => ?_)
              have e1 : A.eval (.tmp 126) = .slice Am l[m].value.length Cm := (hT 126 40 (by simp) rfl).trans (hd ⟨40, .data⟩ (by simp) rfl)
              exact wp_conv byP rfl e1 (hmr.below hb) ⟨_, rfl, rfl, Below.refl _ _⟩
            case o42 =>
              refine GdOp.taken rfl ⟨_, _, rfl, rfl, by simp⟩ (by kernel_rfl) (fun w v h => h) (fun A vs w' hF hT hb hd => ?_)
              have e1 : A.eval (.tmp 121) = .string (strOf l[m].value) := (hT 121 35 (by simp) rfl).trans (hd ⟨35, .data⟩ (by simp) rfl)
              have e2 : A.eval (.tmp 127) = .string (strOf l[m].value) := (hT 127 41 (by simp) rfl).trans (hd ⟨41, .data⟩ (by simp) rfl)
              exact wp_eqlS rfl e1 e2 ⟨_, rfl, congrArg Value.bool (by simp), Below.refl _ _⟩
            case o43 =>
              refine GdOp.taken rfl ⟨_, _, rfl, rfl, by simp⟩ (by kernel_rfl) (fun w v h => h) (fun A vs w' hF hT hb hd => ?_)
              have e1 : A.eval (.tmp 119) = .bool false := (hT 119 33 (by simp) rfl).trans (hd ⟨33, .data⟩ (by simp) rfl)
              have e3 : A.eval (.tmp 128) = .bool true := (hT 128 42 (by simp) rfl).trans (hd ⟨42, .data⟩ (by simp) rfl)
              exact wp_pk rfl e1 (by simp) (fun _ => e3) ⟨_, rfl, rfl, Below.refl _ _⟩
            case o44 =>
              refine GdOp.plain rfl (fun A vs w' hF hT hb hd => ?_)
              have e1 : A.eval (.tmp 116) = .bool true := (hT 116 30 (by simp) rfl).trans (hd ⟨30, .data⟩ (by simp) rfl)
              have e2 : A.eval (.tmp 129) = .bool true := (hT 129 43 (by simp) rfl).trans (hd ⟨43, .data⟩ (by simp) rfl)
              exact wp_pk rfl e1 (fun _ => e2) (by simp) ⟨_, rfl, rfl, Below.refl _ _⟩
            case o45 =>
              refine GdOp.plain rfl (fun A vs w' hF hT hb hd => ?_)
              have e1 : A.eval (.tmp 130) = .bool true := (hT 130 44 (by simp) rfl).trans (hd ⟨44, .data⟩ (by simp) rfl)
              exact BigFrame.wp_assign _ rfl ⟨_, rfl, e1, Below.refl _ _⟩
            case fin =>
              intro A vs w' hA hb hG
              have e4 : A.eval (.tmp 4) = .bool true := (hA.2.2.2 4 45 (by simp) rfl).trans (hG 45 (by decide))
              have hd : A.defers = [] := hA.1
              clear hG hA
              go_wp2
              refine bodyPost_ret (v := .bool true) ?_ hd ⟨rfl, q.trans (hb.mono q.size)⟩
              rw [← e4]
              exact results_tmp rfl _ _ _
end Go.Proofs.Ytemdcpajcaaphaa
