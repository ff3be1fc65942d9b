/-
  TEXTS OF ONE PROOF, merged: TreeOrderW.
-/
import Derived.BigQuiet
import Derived.Deep.Cut
import Derived.Deep.QuietTactic
import Derived.Lib.Hide
import Derived.Shelf.Abstract
import Derived.Test.YtdegjkfjaklkjaaProg
import Derived.WalkKit
import Derived.WalkLawsBesides
import Derived.WalkSpells
import Derived.Test.YtdegjkfjaklkjaaMh1
import Derived.Test.YtdegjkfjaklkjaaMh2
import Derived.Test.YtdegjkfjaklkjaaMh3
import Derived.Test.YtdegjkfjaklkjaaMh4
import Derived.Test.YtdegjkfjaklkjaaMh9
import Derived.Test.YtdegjkfjaklkjaaMh14
import Derived.Test.YtdegjkfjaklkjaaMh15
import Derived.Test.YtdegjkfjaklkjaaMh19
namespace Go.Proofs.Ytdegjkfjaklkjaa
open Go.RowKit
theorem next_start (l : List Pr) : nextP l [] = (l[0]?).map (·.key) := by
  cases l with
  | nil => rfl
  | cons p l => rw [nextP_first]; rfl
theorem prN_few {n : Nd} (h : fitN n) : (prN n).length ≤ 100000 := by
  unfold prN
  split
  · rename_i hk
    have := pairs_le (wN n) (Nat.le_refl _) hk.1
    have := h.1
    omega
  · simp
set_option maxRecDepth 100000 in
set_option maxHeartbeats 4000000 in
theorem TreeOrder_w (hC : TreC) (w : World) {v : Value} {n : Nd} (hr : RdN (· < w.heap.size) w v n) :
    Calls Try.prog 6 #[v] w fun e w' => e = .returned (.bool true) ∧ Below w.heap.size w w' := by
  have hr0 := hr
  obtain ⟨a1, c1, a2, c2, a3, c3, rfl, r1, r2, r3⟩ := hr
  have hT := TriV.new w 26 (.slice a1 n.keys.length c1) (.slice a2 n.chains.length c2) (.slice a3 n.kids.length c3)
  have q : Below w.heap.size w (w.alloc (.cells #[.slice a1 n.keys.length c1, .slice a2 n.chains.length c2, .slice a3 n.kids.length c3] 26)) := (Below.refl _ _).alloc (Nat.le_refl _) _
  go_enter Try.func6, Try.ntmps6
  go_upto_region 1 with (fail)
  generalize w.alloc (.cells #[.slice a1 n.keys.length c1, .slice a2 n.chains.length c2, .slice a3 n.kids.length c3] 26) = W at *
  have t0 := hT.cell0
  have t1 := hT.cell1
  have t2 := hT.cell2
  go_wp2_with fail
  refine (hC.awake _).mono ?_
  rintro e w1 ⟨rfl, hb⟩
  replace q := q.trans (hb.mono q.size)
  replace hT := hT.below hb hT.lt
  clear hb t0 t1 t2
  have t0 := hT.cell0
  have t1 := hT.cell1
  have t2 := hT.cell2
  go_wp2_with fail
  refine (smallLaw_any _ (hr0.below q) (RdL.nil Elt.ver (fun _ => False) _)).mono ?_
  rintro e w2 ⟨r, rfl, hs, hb⟩
  replace q := q.trans (hb.mono q.size)
  replace hT := hT.below hb hT.lt
  clear hb t0 t1 t2
  have t0 := hT.cell0
  have t1 := hT.cell1
  have t2 := hT.cell2
  cases r with
  | false =>
    clear hs
    go_wp2_with fail
    go_ret
    exact ⟨rfl, q⟩
  | true =>
    have hft := small5_fit (hs rfl).2.2
    clear hs
    go_wp2_with fail
    refine (hC.keys _ (hr0.below q) hft).mono ?_
    rintro e w3 ⟨ak, ck2, rfl, hK, hb⟩
    replace q := q.trans (hb.mono q.size)
    replace hT := hT.below hb hT.lt
    clear hb t0 t1 t2
    have t0 := hT.cell0
    have t1 := hT.cell1
    have t2 := hT.cell2
    rw [List.length_map] at hK ⊢
    dsimp only
    have hLb := prN_few hft
    have hsr := prN_srt n
    have hmem := Lib.hid (fun p (h : p ∈ prN n) => prN_key h)
    have hnx := Lib.hid (fun (a : Option Addr) (m c : Nat) (k : List UInt8) (W : World) (h1 : Below w.heap.size w W) (h2 : RdS (fun _ => True) W (.slice a m c) k) h3 => hC.next W (hr0.below h1) hft h2 h3)
    have HST := Lib.hid (next_start (prN n))
    clear t0 t1 t2
    go_upto_region 7 with (first
      | (refine wpList_build byP rfl rfl [] (by kernel_rfl) rfl (by simp) ?_; intro g1 k1 u1 hF1)
      | fail)
    have q3 : Below w3.heap.size w3 u1 := hF1.1
    have hat : RdS (fun _ => True) u1 (.slice (some ⟨g1, 0, none⟩) k1 k1) [] := (Own.rdS hF1.2).weak fun _ _ => trivial
    replace hT := hT.below hF1.1 hT.lt
    clear hF1
    go_loopw [5, 6] (fun av iv wr => ∃ (i : Nat) (ad : Option Addr) (ko co : Nat) (xs : List UInt8), iv = .int .i64 i ∧ i ≤ (prN n).length ∧ av = .slice ad ko co ∧ RdS (fun _ => True) wr (.slice ad ko co) xs ∧ xs.length ≤ 17 ∧ nextP (prN n) xs = ((prN n)[i]?).map (·.key) ∧ TriV wr w.heap.size 26 (.slice a1 n.keys.length c1) (.slice a2 n.chains.length c2) (.slice a3 n.kids.length c3) ∧ Below w3.heap.size w3 wr) (fun _ i _ => (prN n).length - (intOf i).toNat)
    case atStart => exact ⟨0, _, _, _, [], rfl, Nat.zero_le _, rfl, hat, by simp, HST.out, hT, q3⟩
    case round =>
      clear hT q3 hat
      obtain ⟨i, ad, ko, co, xs, rfl, hil, rfl, hat, hxs, hnp, hT, q3⟩ := hrel
      have t0 := hT.cell0
      have t1 := hT.cell1
      have t2 := hT.cell2
      rcases Nat.lt_or_ge i (prN n).length with hlt | hge
      · rw [List.getElem?_eq_getElem hlt, Option.map_some] at hnp
        have hpm := List.getElem_mem hlt
        have hp16 := hmem.out _ hpm
        have HNP := Lib.hid hnp
        have HMO := Lib.hid (nextP_more hsr hlt)
        have HSG := Lib.hid (fun j (h : j < i) => srt_get hsr h hlt)
        have hkm : i < ((prN n).map (·.key)).length := by rw [List.length_map]; exact hlt
        have hby := fun wz (q4 : Below w3.heap.size w3 wz) => (hK.below q4).byt i hkm
        simp only [List.getElem_map] at hby
        generalize hky : (prN n)[i].key = ky at hp16 HNP HMO HSG hby
        have HBY := Lib.hid hby
        clear hnp hky hby
        go_wp2_with fail
        refine (hnx.out ad ko co xs _ (q.trans (q3.mono q.size)) hat (by omega)).mono ?_
        rintro e w5 hE
        obtain ⟨an, cn, rfl, hx, hb⟩ := NextEnd.yes HNP.out hE
        clear hE hat
        replace q3 := q3.trans (hb.mono q3.size)
        replace hT := hT.below hb hT.lt
        clear hb t0 t1 t2
        obtain ⟨b, off, Ak, C, rfl, c0, hkr⟩ := HBY.out _ q3
        have hk2 := hkr.rd
        have hx2 := hx.rd
        have de : ((strOf ky).toList == (strOf ky).toList) = true := str_eq.trans (decide_eq_true rfl)
        cases i with
        | zero =>
          simp only [Nat.add_zero] at c0
          go_upto_region 10 with (fail)
          refine wp_region_quiet_lit (by kernel_rfl) (by kernel_rfl) ?_
          repeat (first | go_big_quiet_step (fail) | (go_big_quiet_want; refine quiet_conv byP rfl rfl hx2 ?_; go_big_quiet_on; go_simp) | (go_big_quiet_want; refine quiet_conv byP rfl rfl hk2 ?_; go_big_quiet_on; go_simp))
          first | (refine wpQuiet_nil ?_; intro _ hw'; obtain ⟨nq, hw''⟩ := hw'; subst hw'') | intro nq
          have qd := Below.drewN (Below.refl w5.heap.size w5) nq
          generalize w5.drewN nq = wd at *
          replace q3 := q3.trans (qd.mono q3.size)
          replace hT := hT.below qd hT.lt
          have hx3 := hx.below qd
          clear qd hx hx2
          go_wp2_with (first
            | (refine wpList_build byP rfl rfl [] (by kernel_rfl) rfl (by simp) ?_; intro g1 k1 u1 hF1)
            | (refine wpList_build byP rfl rfl [0] (by kernel_rfl) rfl (by simp) ?_; intro g2 k2 u3 hF2)
            | (at_builtin; refine wpList_append byP rfl rfl rfl (hO1.below hF2.1) rfl (Own.rdS hF2.2).rd (Nat.le_trans (Nat.le_trans hF1.1.size hb1.size) hF2.1.size) ?_ (by simp; omega); intro ad3 k3 c3 u4 hO3 hg3 hb3)
            | (at_builtin; refine wpList_append byP rfl rfl rfl hF1.2 rfl (hx3.below hF1.1).rd hF1.1.size ?_ (by simp; omega); intro ad1 k1 c1 u2 hO1 hg1 hb1)
            | fail)
          have q4 : Below wd.heap.size wd u4 := ((hF1.1.trans hb1).trans (hF2.1.mono (Nat.le_trans hF1.1.size hb1.size))).trans hb3
          have q5 := q3.trans (q4.mono q3.size)
          have hT3 := hT.below q4 hT.lt
          go_roundw
          case rel => exact ⟨1, _, _, _, ky ++ [0], by go_num, by omega, rfl, (Own.rdS hO3).weak fun _ _ => trivial, by simp; omega, HMO.out, hT3, q5⟩
          case measure => simp [intOf]; omega
        | succ i =>
          have hlt' : i < (prN n).length := by omega
          have hkm' : i < ((prN n).map (·.key)).length := by rw [List.length_map]; exact hlt'
          have hby' := (hK.below q3).byt i hkm'
          simp only [List.getElem_map] at hby'
          obtain ⟨b', off', Ak', C', e', c0', hkr'⟩ := hby'
          injection e' with e'; injection e' with e1 e2; subst e1; subst e2
          have hk2' := hkr'.rd
          have e1 : ((i + 1 : Nat) : Int) - 1 = (i : Int) := by omega
          have d4 : Op.bytesLess (strOf (prN n)[i].key).toList (strOf ky).toList = true := str_lt.trans (HSG.out i (Nat.lt_succ_self i))
          go_upto_region 10 with (fail)
          refine wp_region_quiet_lit (by kernel_rfl) (by kernel_rfl) ?_
          repeat (first | go_big_quiet_step (fail) | (go_big_quiet_want; refine quiet_conv byP rfl rfl hx2 ?_; go_big_quiet_on; go_simp) | (go_big_quiet_want; refine quiet_conv byP rfl rfl hk2 ?_; go_big_quiet_on; go_simp) | (go_big_quiet_want; refine quiet_conv byP rfl rfl hk2' ?_; go_big_quiet_on; go_simp))
          first | (refine wpQuiet_nil ?_; intro _ hw'; obtain ⟨nq, hw''⟩ := hw'; subst hw'') | intro nq
          have qd := Below.drewN (Below.refl w5.heap.size w5) nq
          generalize w5.drewN nq = wd at *
          replace q3 := q3.trans (qd.mono q3.size)
          replace hT := hT.below qd hT.lt
          have hx3 := hx.below qd
          clear qd hx hx2
          go_wp2_with (first
            | (refine wpList_build byP rfl rfl [] (by kernel_rfl) rfl (by simp) ?_; intro g1 k1 u1 hF1)
            | (refine wpList_build byP rfl rfl [0] (by kernel_rfl) rfl (by simp) ?_; intro g2 k2 u3 hF2)
            | (at_builtin; refine wpList_append byP rfl rfl rfl (hO1.below hF2.1) rfl (Own.rdS hF2.2).rd (Nat.le_trans (Nat.le_trans hF1.1.size hb1.size) hF2.1.size) ?_ (by simp; omega); intro ad3 k3 c3 u4 hO3 hg3 hb3)
            | (at_builtin; refine wpList_append byP rfl rfl rfl hF1.2 rfl (hx3.below hF1.1).rd hF1.1.size ?_ (by simp; omega); intro ad1 k1 c1 u2 hO1 hg1 hb1)
            | fail)
          have q4 : Below wd.heap.size wd u4 := ((hF1.1.trans hb1).trans (hF2.1.mono (Nat.le_trans hF1.1.size hb1.size))).trans hb3
          have q5 := q3.trans (q4.mono q3.size)
          have hT3 := hT.below q4 hT.lt
          go_roundw
          case rel => exact ⟨i + 2, _, _, _, ky ++ [0], by go_num, by omega, rfl, (Own.rdS hO3).weak fun _ _ => trivial, by simp; omega, HMO.out, hT3, q5⟩
          case measure => simp [intOf]; omega
      · obtain rfl : i = (prN n).length := by omega
        rw [List.getElem?_eq_none (Nat.le_refl _), Option.map_none] at hnp
        have HNP := Lib.hid hnp
        clear hnp
        go_wp2_with fail
        refine (hnx.out ad ko co xs _ (q.trans (q3.mono q.size)) hat (by omega)).mono ?_
        rintro e w5 hE
        obtain ⟨an, cn, rfl, hx, hb⟩ := NextEnd.no HNP.out hE
        clear hE hat
        replace q3 := q3.trans (hb.mono q3.size)
        go_wp2_with fail
        go_ret
        exact ⟨rfl, q.trans (q3.mono q.size)⟩
end Go.Proofs.Ytdegjkfjaklkjaa
