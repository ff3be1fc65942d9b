/-
  TEXTS OF ONE PROOF, merged: TreeFindsW.
-/
import Derived.BigQuiet
import Derived.Deep.Cut
import Derived.Deep.QuietTactic
import Derived.Lib.Hide
import Derived.Shelf.Abstract
import Derived.Test.YtdegjkfjaklkjaaProg
import Derived.WalkKit
import Derived.WalkLawsBesides
import Derived.WalkSpells
import Derived.Test.YtdegjkfjaklkjaaMg1
import Derived.Test.YtdegjkfjaklkjaaMg2
import Derived.Test.YtdegjkfjaklkjaaMg3
import Derived.Test.YtdegjkfjaklkjaaMg4
import Derived.Test.YtdegjkfjaklkjaaMg9
import Derived.Test.YtdegjkfjaklkjaaMg15
import Derived.Test.YtdegjkfjaklkjaaMg19
namespace Go.Proofs.Ytdegjkfjaklkjaa
open Go.RowKit
theorem next_none {l : List Pr} {k : List UInt8} (h : nextP l k = none) : findP l k = none := by
  cases hf : findP l k with
  | none => rfl
  | some c =>
    obtain ⟨p, hp, rfl, _⟩ := findP_some hf
    have := nextP_none.1 h p hp
    rw [ltB_irrefl] at this
    cases this
set_option maxRecDepth 100000 in
set_option maxHeartbeats 4000000 in
theorem TreeFinds_w (hC : TreC) (w : World) {v : Value} {n : Nd} (hr : RdN (· < w.heap.size) w v n) {A : Option Addr} {nk ck : Nat} {k : List UInt8} (hk0 : RdS (· < w.heap.size) w (.slice A nk ck) k) :
    Calls Try.prog 9 #[v, .slice A nk ck] w fun e w' => e = .returned (.bool true) ∧ Below w.heap.size w w' := by
  obtain ⟨rfl, hkc, hkm⟩ := hk0.len
  have hkl : k.length ≤ 9223372036854775807 := by unfold maxLen at hkm; omega
  have hr0 := hr
  obtain ⟨a1, c1, a2, c2, a3, c3, rfl, r1, r2, r3⟩ := hr
  have hT := TriV.new w 26 (.slice a1 n.keys.length c1) (.slice a2 n.chains.length c2) (.slice a3 n.kids.length c3)
  have q : Below w.heap.size w (w.alloc (.cells #[.slice a1 n.keys.length c1, .slice a2 n.chains.length c2, .slice a3 n.kids.length c3] 26)) := (Below.refl _ _).alloc (Nat.le_refl _) _
  go_enter Try.func9, Try.ntmps9
  go_upto_region 1 with (fail)
  generalize w.alloc (.cells #[.slice a1 n.keys.length c1, .slice a2 n.chains.length c2, .slice a3 n.kids.length c3] 26) = W at *
  have t0 := hT.cell0
  have t1 := hT.cell1
  have t2 := hT.cell2
  go_wp2_with fail
  refine (hC.awake _).mono ?_
  rintro e w1 ⟨rfl, hb⟩
  replace q := q.trans (hb.mono q.size)
  replace hT := hT.below hb hT.lt
  clear hb t0 t1 t2
  have t0 := hT.cell0
  have t1 := hT.cell1
  have t2 := hT.cell2
  go_wp2_with fail
  refine (smallLaw_any _ (hr0.below q) (RdL.nil Elt.ver (fun _ => False) _)).mono ?_
  rintro e w2 ⟨r, rfl, hs, hb⟩
  replace q := q.trans (hb.mono q.size)
  replace hT := hT.below hb hT.lt
  clear hb t0 t1 t2
  have t0 := hT.cell0
  have t1 := hT.cell1
  have t2 := hT.cell2
  cases r with
  | false =>
    clear hs
    go_wp2_with fail
    go_ret
    exact ⟨rfl, q⟩
  | true =>
    have hsm := (hs rfl).2.2
    have hft := small5_fit hsm
    clear hs
    by_cases h100 : 100 < k.length
    · have d : decide ((100 : Int) < k.length) = true := decide_eq_true (by omega)
      clear h100
      go_wp2_with fail
      go_ret
      exact ⟨rfl, q⟩
    have d : decide ((100 : Int) < k.length) = false := decide_eq_false (by omega)
    have hk100 : k.length ≤ 1000 := by omega
    clear h100
    go_wp2_with fail
    refine (hC.check _ (hr0.below q) hft).mono ?_
    rintro e w3 ⟨rfl, hb⟩
    replace q := q.trans (hb.mono q.size)
    replace hT := hT.below hb hT.lt
    clear hb t0 t1 t2
    have t0 := hT.cell0
    have t1 := hT.cell1
    have t2 := hT.cell2
    by_cases hk : okN n
    · rw [decide_eq_true hk]
      have hsr := prN_srt n
      clear hk
      go_wp2_with fail
      refine (hC.find _ (hr0.below q) hft (hk0.below q) hk100).mono ?_
      rintro e w4 ⟨af, cf, rfl, _, hb⟩
      replace q := q.trans (hb.mono q.size)
      replace hT := hT.below hb hT.lt
      clear hb t0 t1 t2
      have t0 := hT.cell0
      have t1 := hT.cell1
      have t2 := hT.cell2
      cases hn : nextP (prN n) k with
      | none =>
        have hfn := next_none hn
        have hall := Lib.hid (nextP_none.1 hn)
        have his : (findP (prN n) k).isSome = false := by rw [hfn]; rfl
        rw [his]
        clear his hfn
        go_wp2_with fail
        refine (hC.next _ (hr0.below q) hft (hk0.below q) hk100).mono ?_
        rintro e w5 hE
        obtain ⟨an, cn, rfl, hx, hb⟩ := NextEnd.no hn hE
        clear hE hn
        replace q := q.trans (hb.mono q.size)
        replace hT := hT.below hb hT.lt
        clear hb t0 t1 t2
        have t0 := hT.cell0
        have t1 := hT.cell1
        have t2 := hT.cell2
        have qx := Below.refl w5.heap.size w5
        go_wp2_with fail
        refine (hC.keys _ (hr0.below q) hft).mono ?_
        rintro e w6 ⟨ak, ck2, rfl, hK, hb⟩
        replace qx := qx.trans hb
        replace q := q.trans (hb.mono q.size)
        replace hT := hT.below hb hT.lt
        clear hb t0 t1 t2
        have t0 := hT.cell0
        have t1 := hT.cell1
        have t2 := hT.cell2
        rw [List.length_map] at hK ⊢
        dsimp only
        have hxx := hx.below qx
        clear hx qx
        have hLb : (prN n).length ≤ 9223372036854775807 := by
          have := hK.len
          unfold maxLen at this
          omega
        have q0 := Below.refl w6.heap.size w6
        go_upto_region 8 with (fail)
        go_loopw [11] (fun iv wr => ∃ i : Nat, iv = .int .i64 i ∧ i ≤ (prN n).length ∧ Below w6.heap.size w6 wr) (fun i _ => (prN n).length - (intOf i).toNat)
        case atStart => exact ⟨0, rfl, Nat.zero_le _, q0⟩
        case round =>
          clear q0
          obtain ⟨i, rfl, hil, q2⟩ := hrel
          have hk2 := ((hk0.below q).below (q2.mono (Nat.le_refl _))).rd
          rcases Nat.lt_or_ge i (prN n).length with hlt | hge
          · have hkm2 : i < ((prN n).map (·.key)).length := by rw [List.length_map]; exact hlt
            have hby := (hK.below q2).byt i hkm2
            rw [List.getElem_map] at hby
            obtain ⟨b, off, Ak, C, rfl, c0, hky⟩ := hby
            have hky2 := hky.rd
            have hll := hky.len
            unfold maxLen at hll
            cases hc : ltB (prN n)[i].key k with
            | true =>
              have d1 : Op.bytesLess (strOf (prN n)[i].key).toList (strOf k).toList = true := str_lt.trans hc
              clear hc
              go_upto_region 10 with (fail)
              refine wp_region_quiet_lit (by kernel_rfl) (by kernel_rfl) ?_
              repeat (first | go_big_quiet_step (fail) | (go_big_quiet_want; refine quiet_conv byP rfl rfl hky2 ?_; go_big_quiet_on; go_simp) | (go_big_quiet_want; refine quiet_conv byP rfl rfl hk2 ?_; go_big_quiet_on; go_simp))
              first | (refine wpQuiet_nil ?_; intro _ hw'; obtain ⟨nq, hw''⟩ := hw'; subst hw'') | intro nq
              go_wp2_with fail
              go_roundw
              case rel => exact ⟨i + 1, by go_num, by omega, Below.drewN q2 _⟩
              case measure => simp [intOf]; omega
            | false =>
              have := hall.out _ (List.getElem_mem hlt)
              rw [hc] at this
              cases this
          · obtain rfl : i = (prN n).length := by omega
            go_wp2_with fail
            go_ret
            exact ⟨rfl, q.trans (q2.mono q.size)⟩
      | some x =>
        have hns := Lib.hid (nextP_some hsr hn)
        have hfi := nextP_find hsr hn
        rw [hfi]
        have HFI := Lib.hid hfi
        clear hfi
        go_wp2_with fail
        refine (hC.next _ (hr0.below q) hft (hk0.below q) hk100).mono ?_
        rintro e w5 hE
        obtain ⟨an, cn, rfl, hx, hb⟩ := NextEnd.yes hn hE
        clear hE hn
        replace q := q.trans (hb.mono q.size)
        replace hT := hT.below hb hT.lt
        clear hb t0 t1 t2
        have t0 := hT.cell0
        have t1 := hT.cell1
        have t2 := hT.cell2
        have qx := Below.refl w5.heap.size w5
        go_wp2_with fail
        refine (hC.keys _ (hr0.below q) hft).mono ?_
        rintro e w6 ⟨ak, ck2, rfl, hK, hb⟩
        replace qx := qx.trans hb
        replace q := q.trans (hb.mono q.size)
        replace hT := hT.below hb hT.lt
        clear hb t0 t1 t2
        have t0 := hT.cell0
        have t1 := hT.cell1
        have t2 := hT.cell2
        rw [List.length_map] at hK ⊢
        dsimp only
        have hxx := hx.below qx
        clear hx qx
        have hxl := hxx.len
        unfold maxLen at hxl
        have hLb : (prN n).length ≤ 9223372036854775807 := by
          have := hK.len
          unfold maxLen at this
          omega
        have q0 := Below.refl w6.heap.size w6
        go_upto_region 8 with (fail)
        go_loopw [11] (fun iv wr => ∃ i : Nat, iv = .int .i64 i ∧ i ≤ (prN n).length ∧ Below w6.heap.size w6 wr) (fun i _ => (prN n).length - (intOf i).toNat)
        case atStart => exact ⟨0, rfl, Nat.zero_le _, q0⟩
        case round =>
          clear q0
          obtain ⟨i, rfl, hil, q2⟩ := hrel
          have hk2 := ((hk0.below q).below (q2.mono (Nat.le_refl _))).rd
          have hx2 := (hxx.below q2).rd
          rcases Nat.lt_or_ge i (prN n).length with hlt | hge
          · have hkm2 : i < ((prN n).map (·.key)).length := by rw [List.length_map]; exact hlt
            have hby := (hK.below q2).byt i hkm2
            rw [List.getElem_map] at hby
            obtain ⟨b, off, Ak, C, rfl, c0, hky⟩ := hby
            have hky2 := hky.rd
            have hll := hky.len
            unfold maxLen at hll
            cases hc : ltB (prN n)[i].key k with
            | true =>
              have d1 : Op.bytesLess (strOf (prN n)[i].key).toList (strOf k).toList = true := str_lt.trans hc
              clear hc
              go_upto_region 10 with (fail)
              refine wp_region_quiet_lit (by kernel_rfl) (by kernel_rfl) ?_
              repeat (first | go_big_quiet_step (fail) | (go_big_quiet_want; refine quiet_conv byP rfl rfl hky2 ?_; go_big_quiet_on; go_simp) | (go_big_quiet_want; refine quiet_conv byP rfl rfl hk2 ?_; go_big_quiet_on; go_simp))
              first | (refine wpQuiet_nil ?_; intro _ hw'; obtain ⟨nq, hw''⟩ := hw'; subst hw'') | intro nq
              go_wp2_with fail
              go_roundw
              case rel => exact ⟨i + 1, by go_num, by omega, Below.drewN q2 _⟩
              case measure => simp [intOf]; omega
            | false =>
              have hc2 := hns.out.2.2 _ (List.getElem_mem hlt) hc
              have d1 : Op.bytesLess (strOf (prN n)[i].key).toList (strOf k).toList = false := str_lt.trans hc
              have d2 : Op.bytesLess (strOf (prN n)[i].key).toList (strOf x).toList = false := str_lt.trans hc2
              clear hc hc2
              go_upto_region 10 with (fail)
              refine wp_region_quiet_lit (by kernel_rfl) (by kernel_rfl) ?_
              repeat (first | go_big_quiet_step (fail) | (go_big_quiet_want; refine quiet_conv byP rfl rfl hky2 ?_; go_big_quiet_on; go_simp) | (go_big_quiet_want; refine quiet_conv byP rfl rfl hk2 ?_; go_big_quiet_on; go_simp) | (go_big_quiet_want; refine quiet_conv byP rfl rfl hx2 ?_; go_big_quiet_on; go_simp))
              first | (refine wpQuiet_nil ?_; intro _ hw'; obtain ⟨nq, hw''⟩ := hw'; subst hw'') | intro nq
              go_wp2_with fail
              go_roundw
              case rel => exact ⟨i + 1, by go_num, by omega, Below.drewN q2 _⟩
              case measure => simp [intOf]; omega
          · obtain rfl : i = (prN n).length := by omega
            have d3 : Op.bytesLess (strOf x).toList (strOf k).toList = false := str_lt.trans hns.out.1
            by_cases e : x = k
            · have d4 : ((strOf x).toList == (strOf k).toList) = true := str_eq.trans (decide_eq_true e)
              rw [decide_eq_true e]
              clear e
              go_wp2_with (first | (refine wpList_conv byP rfl rfl rfl hx2 ?_) | (refine wpList_conv byP rfl rfl rfl hk2 ?_))
              go_ret
              exact ⟨rfl, q.trans (q2.mono q.size)⟩
            · have d4 : ((strOf x).toList == (strOf k).toList) = false := str_eq.trans (decide_eq_false e)
              rw [decide_eq_false e]
              clear e
              go_wp2_with (first | (refine wpList_conv byP rfl rfl rfl hx2 ?_) | (refine wpList_conv byP rfl rfl rfl hk2 ?_))
              go_ret
              exact ⟨rfl, q.trans (q2.mono q.size)⟩
    · rw [decide_eq_false hk]
      clear hk
      go_wp2_with fail
      go_ret
      exact ⟨rfl, q⟩
end Go.Proofs.Ytdegjkfjaklkjaa
