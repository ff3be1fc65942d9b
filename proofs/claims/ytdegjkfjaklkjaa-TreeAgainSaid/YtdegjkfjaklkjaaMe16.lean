/-
  TEXTS OF ONE PROOF, merged: TreS.
-/
import Derived.BigQuiet
import Derived.Deep.Cut
import Derived.Deep.QuietTactic
import Derived.Lib.Hide
import Derived.Shelf.Abstract
import Derived.Test.YtdegjkfjaklkjaaProg
import Derived.WalkKit
import Derived.WalkLawsBesides
import Derived.WalkSpells
import Derived.Test.YtdegjkfjaklkjaaMe1
import Derived.Test.YtdegjkfjaklkjaaMe2
import Derived.Test.YtdegjkfjaklkjaaMe3
import Derived.Test.YtdegjkfjaklkjaaMe4
import Derived.Test.YtdegjkfjaklkjaaMe8
import Derived.Test.YtdegjkfjaklkjaaMe15
namespace Go.Proofs.Ytdegjkfjaklkjaa
open Go.RowKit
theorem pr_eq {x y : Pr} : x = y ↔ x.key = y.key ∧ x.chain = y.chain := by cases x; cases y; simp
set_option maxRecDepth 100000 in
set_option maxHeartbeats 2000000 in
theorem sameP_any (w : World) {S S' : Nat → Prop} {a a' : Option Addr} {n c n' c' : Nat} {l m : List Pr} (hl : RdL Elt.pair S w (.slice a n c) l) (hm : RdL Elt.pair S' w (.slice a' n' c') m) :
    Calls Try.prog 19 #[.slice a n c, .slice a' n' c'] w fun e w' => e = .returned (.bool (decide (l = m))) ∧ Below w.heap.size w w' := by
  obtain ⟨rfl, hnc, hcm⟩ := hl.len
  obtain ⟨rfl, hnc', hcm'⟩ := hm.len
  have hlm : l.length ≤ 9223372036854775807 := by unfold maxLen at hcm; omega
  have hlm' : m.length ≤ 9223372036854775807 := by unfold maxLen at hcm'; omega
  have q := Below.refl w.heap.size w
  by_cases hln : l.length = m.length
  · have d : ((l.length : Int) != (m.length : Int)) = false := by rw [bne_eq_false_iff_eq]; omega
    go_enter Try.func19, Try.ntmps19
    go_upto_region 4 with (fail)
    clear d
    have HLN := Lib.hid hln
    clear hln
    go_loopw [5] (fun iv wr => ∃ k : Nat, iv = .int .i64 k ∧ k ≤ l.length ∧ (∀ r (h : r < l.length), r < k → m[r]? = some l[r]) ∧ Below w.heap.size w wr) (fun i _ => l.length - (intOf i).toNat)
    case atStart => exact ⟨0, rfl, Nat.zero_le _, fun r _ h => by omega, q⟩
    case round =>
      clear q
      obtain ⟨k, rfl, hkl, hsm, q⟩ := hrel
      rcases Nat.lt_or_ge k l.length with hlt | hge
      · have hltm : k < m.length := by have := HLN.out; omega
        obtain ⟨b, off, Ak, C, B, D, rfl, c0, c1, hky, hcc⟩ := (hl.below q).pr k hlt
        obtain ⟨b', off', Ak', C', B', D', rfl, c0', c1', hky', hcc'⟩ := (hm.below q).pr k hltm
        have hne : l[k] ≠ m[k] → decide (l = m) = false := fun h => decide_eq_false (fun e => by subst e; exact h rfl)
        have hsn : l[k] = m[k] → ∀ r (h : r < l.length), r < k + 1 → m[r]? = some l[r] := fun h r hr h2 => by
          rcases Nat.lt_or_ge r k with h4 | h4
          · exact hsm r hr h4
          · obtain rfl : r = k := by omega
            rw [List.getElem?_eq_getElem hltm, h]
        obtain ⟨x, ex⟩ : ∃ x, x = l[k] := ⟨_, rfl⟩
        obtain ⟨y, ey⟩ : ∃ y, y = m[k] := ⟨_, rfl⟩
        rw [← ex] at c0 c1 hky hcc hne hsn
        rw [← ey] at c0' c1' hky' hcc' hne hsn
        have HEX := Lib.hid ex
        have HEY := Lib.hid ey
        clear ex ey hsm
        go_upto_region 6 with (fail)
        refine wp_region_gsg (by kernel_rfl) (by kernel_rfl) [sgEq (.slice (some ⟨b, off, none⟩) l.length c), sgEq (.int .i64 k), sgEq (.pointer (some ⟨b, off + k * 2, none⟩)), sgEq (.pointer (some ⟨b, off + k * 2 + 1, none⟩)), sgEq (.slice B x.chain.length D), sgEq (.slice (some ⟨b', off', none⟩) m.length c'), sgEq (.int .i64 k), sgEq (.pointer (some ⟨b', off' + k * 2, none⟩)), sgEq (.pointer (some ⟨b', off' + k * 2 + 1, none⟩)), sgEq (.slice B' y.chain.length D'), sgEq (.bool (decide (x.chain = y.chain))), sgEq (.bool (decide (x.chain = y.chain)))]
          ⟨?o0, ?o1, ?o2, ?o3, ?o4, ?o5, ?o6, ?o7, ?o8, ?o9, ?o10, ?o11, trivial⟩ ?fin
        case o0 =>
          refine GdOp.plain rfl (fun A vs w' hF hT hb hd => ?_)
          have e1 : A.eval (.tmp 0) = .slice (some ⟨b, off, none⟩) l.length c := hF 0 rfl
          exact BigFrame.wp_move _ rfl ⟨_, rfl, e1, Below.refl _ _⟩
        case o1 =>
          refine GdOp.plain rfl (fun A vs w' hF hT hb hd => ?_)
          have e1 : A.eval (.tmp 5) = .int .i64 k := hF 5 rfl
          exact BigFrame.wp_move _ rfl ⟨_, rfl, e1, Below.refl _ _⟩
        case o2 =>
          refine GdOp.plain rfl (fun A vs w' hF hT hb hd => ?_)
          have e1 : A.eval (.tmp 18) = .slice (some ⟨b, off, none⟩) l.length c := (hT 18 0 (by simp) rfl).trans (hd ⟨0, .data⟩ (by simp) rfl)
          have e2 : A.eval (.tmp 19) = .int .i64 k := (hT 19 1 (by simp) rfl).trans (hd ⟨1, .data⟩ (by simp) rfl)
          exact wp_ixN (e := 41) rfl (by kernel_rfl) (by kernel_rfl) (e1) (e2) rfl (by omega) ⟨_, rfl, rfl, Below.refl _ _⟩
        case o3 =>
          refine GdOp.plain rfl (fun A vs w' hF hT hb hd => ?_)
          have e1 : A.eval (.tmp 20) = .pointer (some ⟨b, off + k * 2, none⟩) := (hT 20 2 (by simp) rfl).trans (hd ⟨2, .data⟩ (by simp) rfl)
          exact wp_fieldN prS rfl (e1) (by omega) ⟨_, rfl, rfl, Below.refl _ _⟩
        case o4 =>
          refine GdOp.plain rfl (fun A vs w' hF hT hb hd => ?_)
          have e1 : A.eval (.tmp 21) = .pointer (some ⟨b, off + k * 2 + 1, none⟩) := (hT 21 3 (by simp) rfl).trans (hd ⟨3, .data⟩ (by simp) rfl)
          exact wp_ld_slice (e := 61) rfl e1 (by kernel_rfl) (((hb.cell (p := ⟨b, off + k * 2 + 1, none⟩) (cell_lt c1)).trans c1)) ⟨_, rfl, rfl, Below.refl _ _⟩
        case o5 =>
          refine GdOp.plain rfl (fun A vs w' hF hT hb hd => ?_)
          have e1 : A.eval (.tmp 1) = .slice (some ⟨b', off', none⟩) m.length c' := hF 1 rfl
          exact BigFrame.wp_move _ rfl ⟨_, rfl, e1, Below.refl _ _⟩
        case o6 =>
          refine GdOp.plain rfl (fun A vs w' hF hT hb hd => ?_)
          have e1 : A.eval (.tmp 5) = .int .i64 k := hF 5 rfl
          exact BigFrame.wp_move _ rfl ⟨_, rfl, e1, Below.refl _ _⟩
        case o7 =>
          refine GdOp.plain rfl (fun A vs w' hF hT hb hd => ?_)
          have e1 : A.eval (.tmp 23) = .slice (some ⟨b', off', none⟩) m.length c' := (hT 23 5 (by simp) rfl).trans (hd ⟨5, .data⟩ (by simp) rfl)
          have e2 : A.eval (.tmp 24) = .int .i64 k := (hT 24 6 (by simp) rfl).trans (hd ⟨6, .data⟩ (by simp) rfl)
          exact wp_ixN (e := 41) rfl (by kernel_rfl) (by kernel_rfl) (e1) (e2) rfl (by omega) ⟨_, rfl, rfl, Below.refl _ _⟩
        case o8 =>
          refine GdOp.plain rfl (fun A vs w' hF hT hb hd => ?_)
          have e1 : A.eval (.tmp 25) = .pointer (some ⟨b', off' + k * 2, none⟩) := (hT 25 7 (by simp) rfl).trans (hd ⟨7, .data⟩ (by simp) rfl)
          exact wp_fieldN prS rfl (e1) (by omega) ⟨_, rfl, rfl, Below.refl _ _⟩
        case o9 =>
          refine GdOp.plain rfl (fun A vs w' hF hT hb hd => ?_)
          have e1 : A.eval (.tmp 26) = .pointer (some ⟨b', off' + k * 2 + 1, none⟩) := (hT 26 8 (by simp) rfl).trans (hd ⟨8, .data⟩ (by simp) rfl)
          exact wp_ld_slice (e := 61) rfl e1 (by kernel_rfl) (((hb.cell (p := ⟨b', off' + k * 2 + 1, none⟩) (cell_lt c1')).trans c1')) ⟨_, rfl, rfl, Below.refl _ _⟩
        case o10 =>
          refine GdOp.plain rfl (fun A vs w' hF hT hb hd => ?_)
          have e1 : A.eval (.tmp 22) = .slice B x.chain.length D := (hT 22 4 (by simp) rfl).trans (hd ⟨4, .data⟩ (by simp) rfl)
          have e2 : A.eval (.tmp 27) = .slice B' y.chain.length D' := (hT 27 9 (by simp) rfl).trans (hd ⟨9, .data⟩ (by simp) rfl)
          refine wp_callFn rfl (enters_of Try.func21 (by kernel_rfl) rfl) (args := #[.slice B x.chain.length D, .slice B' y.chain.length D']) (by simp [e1, e2]) ((sameV_any w' (hcc.below hb) (hcc'.below hb)).mono ?_)
          rintro e w2 ⟨rfl, hb2⟩
          exact ⟨_, rfl, _, rfl, rfl, hb2⟩
        case o11 =>
          refine GdOp.plain rfl (fun A vs w' hF hT hb hd => ?_)
          have e1 : A.eval (.tmp 28) = .bool (decide (x.chain = y.chain)) := (hT 28 10 (by simp) rfl).trans (hd ⟨10, .data⟩ (by simp) rfl)
          exact BigFrame.wp_assign _ rfl ⟨_, rfl, e1, Below.refl _ _⟩
        case fin =>
          intro vs w' hb hG
          have e0 : vs 0 = .slice (some ⟨b, off, none⟩) l.length c := hG 0 (by decide)
          have e1 : vs 1 = .int .i64 k := hG 1 (by decide)
          have e2 : vs 2 = .pointer (some ⟨b, off + k * 2, none⟩) := hG 2 (by decide)
          have e3 : vs 3 = .pointer (some ⟨b, off + k * 2 + 1, none⟩) := hG 3 (by decide)
          have e4 : vs 4 = .slice B x.chain.length D := hG 4 (by decide)
          have e5 : vs 5 = .slice (some ⟨b', off', none⟩) m.length c' := hG 5 (by decide)
          have e6 : vs 6 = .int .i64 k := hG 6 (by decide)
          have e7 : vs 7 = .pointer (some ⟨b', off' + k * 2, none⟩) := hG 7 (by decide)
          have e8 : vs 8 = .pointer (some ⟨b', off' + k * 2 + 1, none⟩) := hG 8 (by decide)
          have e9 : vs 9 = .slice B' y.chain.length D' := hG 9 (by decide)
          have e10 : vs 10 = .bool (decide (x.chain = y.chain)) := hG 10 (by decide)
          have e11 : vs 11 = .bool (decide (x.chain = y.chain)) := hG 11 (by decide)
          simp only [putAll, e0, e1, e2, e3, e4, e5, e6, e7, e8, e9, e10, e11]
          clear hG e0 e1 e2 e3 e4 e5 e6 e7 e8 e9 e10 e11
          go_simp
          replace q := q.trans (hb.mono q.size)
          clear hb c0 c1 hky hcc c0' c1' hky' hcc'
          have hop := (hl.below q).pr k hlt
          rw [← HEX.out] at hop
          obtain ⟨bx, offx, Ak, C, B, D, e', c0, c1, hky, hcc⟩ := hop
          injection e' with e'; injection e' with e1 e2; subst e1; subst e2
          have hop := (hm.below q).pr k hltm
          rw [← HEY.out] at hop
          obtain ⟨bx, offx, Ak', C', B', D', e', c0', c1', hky', hcc'⟩ := hop
          injection e' with e'; injection e' with e1 e2; subst e1; subst e2
          have hk2 := hky.rd
          have hk2' := hky'.rd
          by_cases h1 : x.chain = y.chain
          · rw [decide_eq_true h1]
            by_cases h2 : x.key = y.key
            · have H := Lib.hid (hsn (pr_eq.2 ⟨h2, h1⟩))
              have de : ((strOf x.key).toList == (strOf y.key).toList) = true := str_eq.trans (decide_eq_true h2)
              clear hne hsn h1 h2
              go_upto_region 7 with (fail)
              refine wp_region_quiet_lit (by kernel_rfl) (by kernel_rfl) ?_
              repeat (first | go_big_quiet_step (fail) | (go_big_quiet_want; refine quiet_conv byP rfl rfl hk2 ?_; go_big_quiet_on; go_simp) | (go_big_quiet_want; refine quiet_conv byP rfl rfl hk2' ?_; go_big_quiet_on; go_simp))
              first | (refine wpQuiet_nil ?_; intro _ hw'; obtain ⟨nq, hw''⟩ := hw'; subst hw'') | intro nq
              go_wp2_with fail
              go_roundw
              case rel => exact ⟨k + 1, by go_num, by omega, H.out, Below.drewN q _⟩
              case measure => simp [intOf]; omega
            · have H := Lib.hid (hne (fun e => h2 (by rw [e])))
              have de : ((strOf x.key).toList == (strOf y.key).toList) = false := str_eq.trans (decide_eq_false h2)
              clear hne hsn h1 h2
              go_upto_region 7 with (fail)
              refine wp_region_quiet_lit (by kernel_rfl) (by kernel_rfl) ?_
              repeat (first | go_big_quiet_step (fail) | (go_big_quiet_want; refine quiet_conv byP rfl rfl hk2 ?_; go_big_quiet_on; go_simp) | (go_big_quiet_want; refine quiet_conv byP rfl rfl hk2' ?_; go_big_quiet_on; go_simp))
              first | (refine wpQuiet_nil ?_; intro _ hw'; obtain ⟨nq, hw''⟩ := hw'; subst hw'') | intro nq
              go_wp2_with fail
              go_ret
              exact ⟨by rw [H.out]; rfl, Below.drewN q _⟩
          · rw [decide_eq_false h1]
            have H := Lib.hid (hne (fun e => h1 (by rw [e])))
            clear hne hsn h1
            go_upto_region 7 with (fail)
            refine wp_region_quiet_lit (by kernel_rfl) (by kernel_rfl) ?_
            repeat (first | go_big_quiet_step (fail))
            first | (refine wpQuiet_nil ?_; intro _ hw'; obtain ⟨nq, hw''⟩ := hw'; subst hw'') | intro nq
            go_wp2_with fail
            go_ret
            exact ⟨by rw [H.out]; rfl, Below.drewN q _⟩
      · obtain rfl : k = l.length := by omega
        have H := Lib.hid (show decide (l = m) = true from decide_eq_true (List.ext_getElem HLN.out (fun r h1 h2 => by have := hsm r h1 h1; rw [List.getElem?_eq_getElem h2] at this; injection this with this; exact this.symm)))
        clear hsm
        go_wp2_with fail
        go_ret
        exact ⟨by rw [H.out]; rfl, q⟩
  · have d : ((l.length : Int) != (m.length : Int)) = true := by rw [bne_iff_ne]; omega
    have H := Lib.hid (show decide (l = m) = false from decide_eq_false (fun e => hln (by rw [e])))
    clear hln
    go_enter Try.func19, Try.ntmps19
    go_wp2_with fail
    go_ret
    exact ⟨by rw [H.out]; rfl, q⟩
end Go.Proofs.Ytdegjkfjaklkjaa
