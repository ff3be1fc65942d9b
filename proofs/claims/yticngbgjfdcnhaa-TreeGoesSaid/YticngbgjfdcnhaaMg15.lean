/-
  TEXTS OF ONE PROOF, merged: TreC.
-/
import Derived.Test.YticngbgjfdcnhaaMg8
namespace Go.Proofs.Yticngbgjfdcnhaa
open Go.RowKit
theorem PairsEnd.read {S : Nat → Prop} {w w' : World} {l : List Pr} {a : Option Addr} {k c : Nat} (h : OwnL (Elt.pin Elt.pair S) 61 w.heap.size 0 w' (.slice a k c) l) : RdL Elt.pair (fun _ => True) w' (.slice a k c) l := (h.rdL.unpin).weak fun _ _ => trivial
theorem okP_no {l : List Pr} {i : Nat} (h : i < l.length) (hn : ¬ (okV l[i].chain ∧ l[i].chain ≠ [] ∧ l[i].key.length ≤ 16 ∧ (0 < i → ltB l[i - 1].key l[i].key = true))) : decide (okP l) = false := decide_eq_false fun h2 => hn (h2 i h)
set_option maxRecDepth 100000 in
set_option maxHeartbeats 2000000 in
theorem refCheckN_any (w : World) {S : Nat → Prop} {v : Value} {n : Nd} (hr : RdN S w v n) (hw : wN n ≤ 1000000) :
    Calls Try.prog 9 #[v] w fun e w' => e = .returned (.bool (decide (okN n))) ∧ Below w.heap.size w w' := by
  replace hr := hr.fit.weak (S' := fun k => k < w.heap.size) fun _ h => h.2
  have hr0 := hr
  obtain ⟨a1, c1, a2, c2, a3, c3, rfl, r1, r2, r3⟩ := hr
  have hT := TriV.new w 28 (.slice a1 n.keys.length c1) (.slice a2 n.chains.length c2) (.slice a3 n.kids.length c3)
  have q : Below w.heap.size w (w.alloc (.cells #[.slice a1 n.keys.length c1, .slice a2 n.chains.length c2, .slice a3 n.kids.length c3] 28)) := (Below.refl _ _).alloc (Nat.le_refl _) _
  go_enter Try.func9, Try.ntmps9
  go_upto_region 1 with (fail)
  generalize w.alloc (.cells #[.slice a1 n.keys.length c1, .slice a2 n.chains.length c2, .slice a3 n.kids.length c3] 28) = W at *
  have t0 := hT.cell0
  have t1 := hT.cell1
  have t2 := hT.cell2
  go_wp2_with fail
  refine (refForm_any 1000000 n true _ _ _ hw (by omega) (hr0.below q)).mono ?_
  rintro e w1 ⟨rfl, hb⟩
  replace q := q.trans (hb.mono q.size)
  replace hT := hT.below hb hT.lt
  clear hb t0 t1 t2
  by_cases hf : formI n true < 0
  · have H := Lib.hid (show decide (okN n) = false from decide_eq_false fun h => by have := h.1; omega)
    have d : decide (formI n true < 0) = true := decide_eq_true hf
    clear hf
    go_wp2_with fail
    go_ret
    exact ⟨by rw [H.out]; rfl, q⟩
  · have d : decide (formI n true < 0) = false := decide_eq_false hf
    have hf0 : 0 ≤ formI n true := by omega
    have t0 := hT.cell0
    have t1 := hT.cell1
    have t2 := hT.cell2
    have HF := Lib.hid hf0
    clear hf hf0
    go_wp2_with fail
    refine (refPairs_any 1000000 n true _ _ _ hw (Nat.le_refl _) (hr0.below q) (fun k hk => Nat.lt_of_lt_of_le hk q.size) HF.out).mono ?_
    rintro e w2 ⟨a, k, c, rfl, hO, hb⟩
    replace q := q.trans (hb.mono q.size)
    have hl := PairsEnd.read hO
    have hiff := Lib.hid (show decide (okN n) = decide (okP (pairsN n)) from by
      rw [decide_eq_decide]
      exact ⟨fun h => h.2, fun h => ⟨HF.out, h⟩⟩)
    clear hb hO hT t0 t1 t2 d
    generalize pairsN n = l at *
    obtain ⟨rfl, hnc, hcm⟩ := hl.len
    have hlm : l.length ≤ 9223372036854775807 := by unfold maxLen at hcm; omega
    go_upto_region 5 with (fail)
    go_loopw [4] (fun iv wr => ∃ i : Nat, iv = .int .i64 i ∧ i ≤ l.length ∧ (∀ j (h : j < l.length), j < i → okV l[j].chain ∧ l[j].chain ≠ [] ∧ l[j].key.length ≤ 16 ∧ (0 < j → ltB l[j - 1].key l[j].key = true)) ∧ Below w2.heap.size w2 wr) (fun i _ => l.length - (intOf i).toNat)
    case atStart => exact ⟨0, rfl, Nat.zero_le _, fun j _ h => absurd h (Nat.not_lt_zero _), Below.refl _ _⟩
    case round =>
      obtain ⟨i, rfl, hil, hok, q2⟩ := hrel
      rcases Nat.lt_or_ge i l.length with hlt | hge
      · obtain ⟨b, off, A, C, B, D, rfl, c0, c1, hky, hcc⟩ := (hl.below q2).pr i hlt
        go_wp2_with fail
        refine (refCheckV_any _ hcc).mono ?_
        rintro e w3 ⟨rfl, hb⟩
        replace q2 := q2.trans (hb.mono q2.size)
        clear hb c0 c1 hky hcc
        obtain ⟨b', off', A, C, B, D, e', c0, c1, hky, hcc⟩ := (hl.below q2).pr i hlt
        injection e' with e'; injection e' with e1 e2; subst e1; subst e2
        have hkl := hky.len
        have hcl := hcc.len
        unfold maxLen at hkl hcl
        have hk2 := hky.rd
        have hno := Lib.hid (okP_no hlt)
        by_cases h1 : okV l[i].chain
        · rw [decide_eq_true h1]
          by_cases h2 : l[i].chain.length = 0
          · have H := Lib.hid (hno.out fun h => h.2.1 (List.eq_nil_of_length_eq_zero h2))
            have d2 : ((l[i].chain.length : Int) == 0) = true := by rw [beq_iff_eq]; omega
            clear h1 h2 hok
            go_upto_region 8 with (fail)
            refine wp_region_quiet_lit (by kernel_rfl) (by kernel_rfl) ?_
            repeat (first | go_big_quiet_step (fail))
            first | (refine wpQuiet_nil ?_; intro _ hw'; obtain ⟨nq, hw''⟩ := hw'; subst hw'') | intro nq
            go_wp2_with fail
            go_ret
            exact ⟨by rw [hiff.out, H.out]; rfl, q.trans ((Below.drewN q2 _).mono q.size)⟩
          · have d2 : ((l[i].chain.length : Int) == 0) = false := by rw [beq_eq_false_iff_ne]; omega
            have h2' : l[i].chain ≠ [] := fun e => h2 (by rw [e]; rfl)
            by_cases h3 : 16 < l[i].key.length
            · have H := Lib.hid (hno.out fun h => by have := h.2.2.1; omega)
              have d3 : decide ((16 : Int) < l[i].key.length) = true := decide_eq_true (by omega)
              clear h1 h2 h2' hok
              go_upto_region 8 with (fail)
              refine wp_region_quiet_lit (by kernel_rfl) (by kernel_rfl) ?_
              repeat (first | go_big_quiet_step (fail))
              first | (refine wpQuiet_nil ?_; intro _ hw'; obtain ⟨nq, hw''⟩ := hw'; subst hw'') | intro nq
              go_wp2_with fail
              go_ret
              exact ⟨by rw [hiff.out, H.out]; rfl, q.trans ((Below.drewN q2 _).mono q.size)⟩
            · have d3 : decide ((16 : Int) < l[i].key.length) = false := decide_eq_false (by omega)
              have h3' : l[i].key.length ≤ 16 := by omega
              cases i with
              | zero =>
                have H := Lib.hid (show ∀ j (h : j < l.length), j < 1 → okV l[j].chain ∧ l[j].chain ≠ [] ∧ l[j].key.length ≤ 16 ∧ (0 < j → ltB l[j - 1].key l[j].key = true) from fun j hj h => by
                  obtain rfl : j = 0 := by omega
                  exact ⟨h1, h2', h3', fun h => absurd h (Nat.lt_irrefl _)⟩)
                clear h1 h2 h2' h3 h3' hok
                simp only [Nat.zero_mul, Nat.add_zero] at c0 c1
                go_upto_region 8 with (fail)
                refine wp_region_quiet_lit (by kernel_rfl) (by kernel_rfl) ?_
                repeat (first | go_big_quiet_step (fail))
                first | (refine wpQuiet_nil ?_; intro _ hw'; obtain ⟨nq, hw''⟩ := hw'; subst hw'') | intro nq
                go_wp2_with fail
                go_roundw
                case rel => exact ⟨1, by go_num, by omega, H.out, Below.drewN q2 _⟩
                case measure => simp [intOf]; omega
              | succ i =>
                have hlt' : i < l.length := by omega
                obtain ⟨b', off', A', C', B', D', e', c0', c1', hky', hcc'⟩ := (hl.below q2).pr i hlt'
                injection e' with e'; injection e' with e1 e2; subst e1; subst e2
                have hk2' := hky'.rd
                have e1 : ((i + 1 : Nat) : Int) - 1 = (i : Int) := by omega
                cases h4 : ltB l[i].key l[i + 1].key with
                | true =>
                  have H := Lib.hid (show ∀ j (h : j < l.length), j < i + 2 → okV l[j].chain ∧ l[j].chain ≠ [] ∧ l[j].key.length ≤ 16 ∧ (0 < j → ltB l[j - 1].key l[j].key = true) from fun j hj h => by
                    rcases Nat.lt_or_ge j (i + 1) with h5 | h5
                    · exact hok j hj h5
                    · obtain rfl : j = i + 1 := by omega
                      exact ⟨h1, h2', h3', fun _ => h4⟩)
                  have d4 : Op.bytesLess (strOf l[i].key).toList (strOf l[i + 1].key).toList = true := str_lt.trans h4
                  clear h1 h2 h2' h3 h3' h4 hok
                  go_upto_region 8 with (fail)
                  refine wp_region_quiet_lit (by kernel_rfl) (by kernel_rfl) ?_
                  repeat (first | go_big_quiet_step (fail) | (go_big_quiet_want; refine quiet_conv byP rfl rfl hk2' ?_; go_big_quiet_on; go_simp) | (go_big_quiet_want; refine quiet_conv byP rfl rfl hk2 ?_; go_big_quiet_on; go_simp))
                  first | (refine wpQuiet_nil ?_; intro _ hw'; obtain ⟨nq, hw''⟩ := hw'; subst hw'') | intro nq
                  go_wp2_with fail
                  go_roundw
                  case rel => exact ⟨i + 2, by go_num, by omega, H.out, Below.drewN q2 _⟩
                  case measure => simp [intOf]; omega
                | false =>
                  have H := Lib.hid (hno.out fun h => by have := h.2.2.2 (Nat.succ_pos _); simp only [Nat.add_sub_cancel] at this; rw [h4] at this; cases this)
                  have d4 : Op.bytesLess (strOf l[i].key).toList (strOf l[i + 1].key).toList = false := str_lt.trans h4
                  clear h1 h2 h2' h3 h3' h4 hok
                  go_upto_region 8 with (fail)
                  refine wp_region_quiet_lit (by kernel_rfl) (by kernel_rfl) ?_
                  repeat (first | go_big_quiet_step (fail) | (go_big_quiet_want; refine quiet_conv byP rfl rfl hk2' ?_; go_big_quiet_on; go_simp) | (go_big_quiet_want; refine quiet_conv byP rfl rfl hk2 ?_; go_big_quiet_on; go_simp))
                  first | (refine wpQuiet_nil ?_; intro _ hw'; obtain ⟨nq, hw''⟩ := hw'; subst hw'') | intro nq
                  go_wp2_with fail
                  go_ret
                  exact ⟨by rw [hiff.out, H.out]; rfl, q.trans ((Below.drewN q2 _).mono q.size)⟩
        · rw [decide_eq_false h1]
          have H := Lib.hid (hno.out fun h => h1 h.1)
          clear h1 hok
          go_upto_region 8 with (fail)
          refine wp_region_quiet_lit (by kernel_rfl) (by kernel_rfl) ?_
          repeat (first | go_big_quiet_step (fail))
          first | (refine wpQuiet_nil ?_; intro _ hw'; obtain ⟨nq, hw''⟩ := hw'; subst hw'') | intro nq
          go_wp2_with fail
          go_ret
          exact ⟨by rw [hiff.out, H.out]; rfl, q.trans ((Below.drewN q2 _).mono q.size)⟩
      · obtain rfl : i = l.length := by omega
        have H := Lib.hid (show decide (okP l) = true from decide_eq_true fun j hj => hok j hj hj)
        clear hok
        go_wp2_with fail
        go_ret
        exact ⟨by rw [hiff.out, H.out]; rfl, q.trans (q2.mono q.size)⟩
end Go.Proofs.Yticngbgjfdcnhaa
