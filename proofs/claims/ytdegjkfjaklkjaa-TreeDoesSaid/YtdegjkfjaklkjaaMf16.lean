/-
  TEXTS OF ONE PROOF, merged: TreS, TreG.
-/
import Derived.Test.YtdegjkfjaklkjaaMf15
namespace Go.Proofs.Ytdegjkfjaklkjaa
open Go.RowKit
theorem pr_eq {x y : Pr} : x = y ↔ x.key = y.key ∧ x.chain = y.chain := by cases x; cases y; simp
set_option maxRecDepth 100000 in
set_option maxHeartbeats 2000000 in
theorem sameP_any (w : World) {S S' : Nat → Prop} {a a' : Option Addr} {n c n' c' : Nat} {l m : List Pr} (hl : RdL Elt.pair S w (.slice a n c) l) (hm : RdL Elt.pair S' w (.slice a' n' c') m) :
    Calls Try.prog 19 #[.slice a n c, .slice a' n' c'] w fun e w' => e = .returned (.bool (decide (l = m))) ∧ Below w.heap.size w w' := by
  obtain ⟨rfl, hnc, hcm⟩ := hl.len
  obtain ⟨rfl, hnc', hcm'⟩ := hm.len
  have hlm : l.length ≤ 9223372036854775807 := by unfold maxLen at hcm; omega
  have hlm' : m.length ≤ 9223372036854775807 := by unfold maxLen at hcm'; omega
  have q := Below.refl w.heap.size w
  by_cases hln : l.length = m.length
  · have d : ((l.length : Int) != (m.length : Int)) = false := by rw [bne_eq_false_iff_eq]; omega
    go_enter Try.func19, Try.ntmps19
    go_upto_region 4 with (fail)
    clear d
    have HLN := Lib.hid hln
    clear hln
    go_loopw [5] (fun iv wr => ∃ k : Nat, iv = .int .i64 k ∧ k ≤ l.length ∧ (∀ r (h : r < l.length), r < k → m[r]? = some l[r]) ∧ Below w.heap.size w wr) (fun i _ => l.length - (intOf i).toNat)
    case atStart => exact ⟨0, rfl, Nat.zero_le _, fun r _ h => by omega, q⟩
    case round =>
      clear q
      obtain ⟨k, rfl, hkl, hsm, q⟩ := hrel
      rcases Nat.lt_or_ge k l.length with hlt | hge
      · have hltm : k < m.length := by have := HLN.out; omega
        obtain ⟨b, off, Ak, C, B, D, rfl, c0, c1, hky, hcc⟩ := (hl.below q).pr k hlt
        obtain ⟨b', off', Ak', C', B', D', rfl, c0', c1', hky', hcc'⟩ := (hm.below q).pr k hltm
        have hne : l[k] ≠ m[k] → decide (l = m) = false := fun h => decide_eq_false (fun e => by subst e; exact h rfl)
        have hsn : l[k] = m[k] → ∀ r (h : r < l.length), r < k + 1 → m[r]? = some l[r] := fun h r hr h2 => by
          rcases Nat.lt_or_ge r k with h4 | h4
          · exact hsm r hr h4
          · obtain rfl : r = k := by omega
            rw [List.getElem?_eq_getElem hltm, h]
        obtain ⟨x, ex⟩ : ∃ x, x = l[k] := ⟨_, rfl⟩
        obtain ⟨y, ey⟩ : ∃ y, y = m[k] := ⟨_, rfl⟩
        rw [← ex] at c0 c1 hky hcc hne hsn
        rw [← ey] at c0' c1' hky' hcc' hne hsn
        have HEX := Lib.hid ex
        have HEY := Lib.hid ey
        clear ex ey hsm
        go_upto_region 6 with (fail)
        refine wp_region_gsg (by kernel_rfl) (by kernel_rfl) [sgEq (.slice (some ⟨b, off, none⟩) l.length c), sgEq (.int .i64 k), sgEq (.pointer (some ⟨b, off + k * 2, none⟩)), sgEq (.pointer (some ⟨b, off + k * 2 + 1, none⟩)), sgEq (.slice B x.chain.length D), sgEq (.slice (some ⟨b', off', none⟩) m.length c'), sgEq (.int .i64 k), sgEq (.pointer (some ⟨b', off' + k * 2, none⟩)), sgEq (.pointer (some ⟨b', off' + k * 2 + 1, none⟩)), sgEq (.slice B' y.chain.length D'), sgEq (.bool (decide (x.chain = y.chain))), sgEq (.bool (decide (x.chain = y.chain)))]
          ⟨?o0, ?o1, ?o2, ?o3, ?o4, ?o5, ?o6, ?o7, ?o8, ?o9, ?o10, ?o11, trivial⟩ ?fin
        case o0 =>
          refine GdOp.plain rfl (fun A vs w' hF hT hb hd => ?_)
          have e1 : A.eval (.tmp 0) = .slice (some ⟨b, off, none⟩) l.length c := hF 0 rfl
          exact BigFrame.wp_move _ rfl ⟨_, rfl, e1, Below.refl _ _⟩
        case o1 =>
          refine GdOp.plain rfl (fun A vs w' hF hT hb hd => ?_)
          have e1 : A.eval (.tmp 5) = .int .i64 k := hF 5 rfl
          exact BigFrame.wp_move _ rfl ⟨_, rfl, e1, Below.refl _ _⟩
        case o2 =>
          refine GdOp.plain rfl (fun A vs w' hF hT hb hd => ?_)
          have e1 : A.eval (.tmp 18) = .slice (some ⟨b, off, none⟩) l.length c := (hT 18 0 (by simp) rfl).trans (hd ⟨0, .data⟩ (by simp) rfl)
          have e2 : A.eval (.tmp 19) = .int .i64 k := (hT 19 1 (by simp) rfl).trans (hd ⟨1, .data⟩ (by simp) rfl)
          exact wp_ixN (e := 41) rfl (by kernel_rfl) (by kernel_rfl) (e1) (e2) rfl (by omega) ⟨_, rfl, rfl, Below.refl _ _⟩
        case o3 =>
          refine GdOp.plain rfl (fun A vs w' hF hT hb hd => ?_)
          have e1 : A.eval (.tmp 20) = .pointer (some ⟨b, off + k * 2, none⟩) := (hT 20 2 (by simp) rfl).trans (hd ⟨2, .data⟩ (by simp) rfl)
          exact wp_fieldN prS rfl (e1) (by omega) ⟨_, rfl, rfl, Below.refl _ _⟩
        case o4 =>
          refine GdOp.plain rfl (fun A vs w' hF hT hb hd => ?_)
          have e1 : A.eval (.tmp 21) = .pointer (some ⟨b, off + k * 2 + 1, none⟩) := (hT 21 3 (by simp) rfl).trans (hd ⟨3, .data⟩ (by simp) rfl)
          exact wp_ld_slice (e := 61) rfl e1 (by kernel_rfl) (((hb.cell (p := ⟨b, off + k * 2 + 1, none⟩) (cell_lt c1)).trans c1)) ⟨_, rfl, rfl, Below.refl _ _⟩
        case o5 =>
          refine GdOp.plain rfl (fun A vs w' hF hT hb hd => ?_)
          have e1 : A.eval (.tmp 1) = .slice (some ⟨b', off', none⟩) m.length c' := hF 1 rfl
          exact BigFrame.wp_move _ rfl ⟨_, rfl, e1, Below.refl _ _⟩
        case o6 =>
          refine GdOp.plain rfl (fun A vs w' hF hT hb hd => ?_)
          have e1 : A.eval (.tmp 5) = .int .i64 k := hF 5 rfl
          exact BigFrame.wp_move _ rfl ⟨_, rfl, e1, Below.refl _ _⟩
        case o7 =>
          refine GdOp.plain rfl (fun A vs w' hF hT hb hd => ?_)
          have e1 : A.eval (.tmp 23) = .slice (some ⟨b', off', none⟩) m.length c' := (hT 23 5 (by simp) rfl).trans (hd ⟨5, .data⟩ (by simp) rfl)
          have e2 : A.eval (.tmp 24) = .int .i64 k := (hT 24 6 (by simp) rfl).trans (hd ⟨6, .data⟩ (by simp) rfl)
          exact wp_ixN (e := 41) rfl (by kernel_rfl) (by kernel_rfl) (e1) (e2) rfl (by omega) ⟨_, rfl, rfl, Below.refl _ _⟩
        case o8 =>
          refine GdOp.plain rfl (fun A vs w' hF hT hb hd => ?_)
          have e1 : A.eval (.tmp 25) = .pointer (some ⟨b', off' + k * 2, none⟩) := (hT 25 7 (by simp) rfl).trans (hd ⟨7, .data⟩ (by simp) rfl)
          exact wp_fieldN prS rfl (e1) (by omega) ⟨_, rfl, rfl, Below.refl _ _⟩
        case o9 =>
          refine GdOp.plain rfl (fun A vs w' hF hT hb hd => ?_)
          have e1 : A.eval (.tmp 26) = .pointer (some ⟨b', off' + k * 2 + 1, none⟩) := (hT 26 8 (by simp) rfl).trans (hd ⟨8, .data⟩ (by simp) rfl)
          exact wp_ld_slice (e := 61) rfl e1 (by kernel_rfl) (((hb.cell (p := ⟨b', off' + k * 2 + 1, none⟩) (cell_lt c1')).trans c1')) ⟨_, rfl, rfl, Below.refl _ _⟩
        case o10 =>
          refine GdOp.plain rfl (fun A vs w' hF hT hb hd => ?_)
          have e1 : A.eval (.tmp 22) = .slice B x.chain.length D := (hT 22 4 (by simp) rfl).trans (hd ⟨4, .data⟩ (by simp) rfl)
          have e2 : A.eval (.tmp 27) = .slice B' y.chain.length D' := (hT 27 9 (by simp) rfl).trans (hd ⟨9, .data⟩ (by simp) rfl)
          refine wp_callFn rfl (enters_of Try.func21 (by kernel_rfl) rfl) (args := #[.slice B x.chain.length D, .slice B' y.chain.length D']) (by simp [e1, e2]) ((sameV_any w' (hcc.below hb) (hcc'.below hb)).mono ?_)
          rintro e w2 ⟨rfl, hb2⟩
          exact ⟨_, rfl, _, rfl, rfl, hb2⟩
        case o11 =>
          refine GdOp.plain rfl (fun A vs w' hF hT hb hd => ?_)
          have e1 : A.eval (.tmp 28) = .bool (decide (x.chain = y.chain)) := (hT 28 10 (by simp) rfl).trans (hd ⟨10, .data⟩ (by simp) rfl)
          exact BigFrame.wp_assign _ rfl ⟨_, rfl, e1, Below.refl _ _⟩
        case fin =>
          intro vs w' hb hG
          have e0 : vs 0 = .slice (some ⟨b, off, none⟩) l.length c := hG 0 (by decide)
          have e1 : vs 1 = .int .i64 k := hG 1 (by decide)
          have e2 : vs 2 = .pointer (some ⟨b, off + k * 2, none⟩) := hG 2 (by decide)
          have e3 : vs 3 = .pointer (some ⟨b, off + k * 2 + 1, none⟩) := hG 3 (by decide)
          have e4 : vs 4 = .slice B x.chain.length D := hG 4 (by decide)
          have e5 : vs 5 = .slice (some ⟨b', off', none⟩) m.length c' := hG 5 (by decide)
          have e6 : vs 6 = .int .i64 k := hG 6 (by decide)
          have e7 : vs 7 = .pointer (some ⟨b', off' + k * 2, none⟩) := hG 7 (by decide)
          have e8 : vs 8 = .pointer (some ⟨b', off' + k * 2 + 1, none⟩) := hG 8 (by decide)
          have e9 : vs 9 = .slice B' y.chain.length D' := hG 9 (by decide)
          have e10 : vs 10 = .bool (decide (x.chain = y.chain)) := hG 10 (by decide)
          have e11 : vs 11 = .bool (decide (x.chain = y.chain)) := hG 11 (by decide)
          simp only [putAll, e0, e1, e2, e3, e4, e5, e6, e7, e8, e9, e10, e11]
          clear hG e0 e1 e2 e3 e4 e5 e6 e7 e8 e9 e10 e11
          go_simp
          replace q := q.trans (hb.mono q.size)
          clear hb c0 c1 hky hcc c0' c1' hky' hcc'
          have hop := (hl.below q).pr k hlt
          rw [← HEX.out] at hop
          obtain ⟨bx, offx, Ak, C, B, D, e', c0, c1, hky, hcc⟩ := hop
          injection e' with e'; injection e' with e1 e2; subst e1; subst e2
          have hop := (hm.below q).pr k hltm
          rw [← HEY.out] at hop
          obtain ⟨bx, offx, Ak', C', B', D', e', c0', c1', hky', hcc'⟩ := hop
          injection e' with e'; injection e' with e1 e2; subst e1; subst e2
          have hk2 := hky.rd
          have hk2' := hky'.rd
          by_cases h1 : x.chain = y.chain
          · rw [decide_eq_true h1]
            by_cases h2 : x.key = y.key
            · have H := Lib.hid (hsn (pr_eq.2 ⟨h2, h1⟩))
              have de : ((strOf x.key).toList == (strOf y.key).toList) = true := str_eq.trans (decide_eq_true h2)
              clear hne hsn h1 h2
              go_upto_region 7 with (fail)
              refine wp_region_quiet_lit (by kernel_rfl) (by kernel_rfl) ?_
              repeat (first | go_big_quiet_step (fail) | (go_big_quiet_want; refine quiet_conv byP rfl rfl hk2 ?_; go_big_quiet_on; go_simp) | (go_big_quiet_want; refine quiet_conv byP rfl rfl hk2' ?_; go_big_quiet_on; go_simp))
              first | (refine wpQuiet_nil ?_; intro _ hw'; obtain ⟨nq, hw''⟩ := hw'; subst hw'') | intro nq
              go_wp2_with fail
              go_roundw
              case rel => exact ⟨k + 1, by go_num, by omega, H.out, Below.drewN q _⟩
              case measure => simp [intOf]; omega
            · have H := Lib.hid (hne (fun e => h2 (by rw [e])))
              have de : ((strOf x.key).toList == (strOf y.key).toList) = false := str_eq.trans (decide_eq_false h2)
              clear hne hsn h1 h2
              go_upto_region 7 with (fail)
              refine wp_region_quiet_lit (by kernel_rfl) (by kernel_rfl) ?_
              repeat (first | go_big_quiet_step (fail) | (go_big_quiet_want; refine quiet_conv byP rfl rfl hk2 ?_; go_big_quiet_on; go_simp) | (go_big_quiet_want; refine quiet_conv byP rfl rfl hk2' ?_; go_big_quiet_on; go_simp))
              first | (refine wpQuiet_nil ?_; intro _ hw'; obtain ⟨nq, hw''⟩ := hw'; subst hw'') | intro nq
              go_wp2_with fail
              go_ret
              exact ⟨by rw [H.out]; rfl, Below.drewN q _⟩
          · rw [decide_eq_false h1]
            have H := Lib.hid (hne (fun e => h1 (by rw [e])))
            clear hne hsn h1
            go_upto_region 7 with (fail)
            refine wp_region_quiet_lit (by kernel_rfl) (by kernel_rfl) ?_
            repeat (first | go_big_quiet_step (fail))
            first | (refine wpQuiet_nil ?_; intro _ hw'; obtain ⟨nq, hw''⟩ := hw'; subst hw'') | intro nq
            go_wp2_with fail
            go_ret
            exact ⟨by rw [H.out]; rfl, Below.drewN q _⟩
      · obtain rfl : k = l.length := by omega
        have H := Lib.hid (show decide (l = m) = true from decide_eq_true (List.ext_getElem HLN.out (fun r h1 h2 => by have := hsm r h1 h1; rw [List.getElem?_eq_getElem h2] at this; injection this with this; exact this.symm)))
        clear hsm
        go_wp2_with fail
        go_ret
        exact ⟨by rw [H.out]; rfl, q⟩
  · have d : ((l.length : Int) != (m.length : Int)) = true := by rw [bne_iff_ne]; omega
    have H := Lib.hid (show decide (l = m) = false from decide_eq_false (fun e => hln (by rw [e])))
    clear hln
    go_enter Try.func19, Try.ntmps19
    go_wp2_with fail
    go_ret
    exact ⟨by rw [H.out]; rfl, q⟩
end Go.Proofs.Ytdegjkfjaklkjaa
namespace Go.Proofs.Ytdegjkfjaklkjaa
open Go.RowKit
theorem triBoxes (w : World) (t : TypeId) (u v r u' v' r' : Value) : Below w.heap.size w ((w.alloc (.cells #[u, v, r] t)).alloc (.cells #[u', v', r'] t)) ∧ TriV ((w.alloc (.cells #[u, v, r] t)).alloc (.cells #[u', v', r'] t)) w.heap.size t u v r ∧ TriV ((w.alloc (.cells #[u, v, r] t)).alloc (.cells #[u', v', r'] t)) (w.heap.size + 1) t u' v' r' := by
  have h1 : Below w.heap.size w (w.alloc (.cells #[u, v, r] t)) := (Below.refl _ _).alloc (Nat.le_refl _) _
  have hs : (w.alloc (.cells #[u, v, r] t)).heap.size = w.heap.size + 1 := World.size_alloc _ _
  have h2 : Below (w.alloc (.cells #[u, v, r] t)).heap.size (w.alloc (.cells #[u, v, r] t)) ((w.alloc (.cells #[u, v, r] t)).alloc (.cells #[u', v', r'] t)) := (Below.refl _ _).alloc (Nat.le_refl _) _
  refine ⟨h1.trans (h2.mono h1.size), (TriV.new w t u v r).below h2 (by omega), ?_⟩
  have := TriV.new (w.alloc (.cells #[u, v, r] t)) t u' v' r'
  rw [hs] at this
  exact this
def NodesAt (N : Nat) : Prop := ∀ (n : Nd) (w : World) (S S2 : Nat → Prop) (v v2 : Value), wN n ≤ N → RdN S w v n → RdN S2 w v2 n →
    Calls Try.prog 30 #[v, v2] w fun e w' => e = .returned (.bool true) ∧ Below w.heap.size w w'
set_option maxRecDepth 100000 in
set_option maxHeartbeats 8000000 in
theorem refNodes_step (N : Nat) (ih : NodesAt N) : NodesAt (N + 1) := by
    intro n w S S2 v v2 hN hr hr2
    unfold NodesAt at ih
    obtain ⟨l1, l2, l3⟩ := hr.lens
    obtain ⟨a1, c1, a2, c2, a3, c3, rfl, r1, r2, r3⟩ := hr
    obtain ⟨a4, c4, a5, c5, a6, c6, rfl, r4, r5, r6⟩ := hr2
    have hbx := triBoxes w 26 (.slice a1 n.keys.length c1) (.slice a2 n.chains.length c2) (.slice a3 n.kids.length c3) (.slice a4 n.keys.length c4) (.slice a5 n.chains.length c5) (.slice a6 n.kids.length c6)
    go_enter Try.func30, Try.ntmps30
    go_upto_region 1 with (fail)
    obtain ⟨q, bxa, bxb⟩ := hbx
    generalize (w.alloc (.cells #[.slice a1 n.keys.length c1, .slice a2 n.chains.length c2, .slice a3 n.kids.length c3] 26)).alloc (.cells #[.slice a4 n.keys.length c4, .slice a5 n.chains.length c5, .slice a6 n.kids.length c6] 26) = W at *
    have ta0 := bxa.cell0
    have ta1 := bxa.cell1
    have ta2 := bxa.cell2
    have tb0 := bxb.cell0
    have tb1 := bxb.cell1
    have tb2 := bxb.cell2
    go_upto_region 4 with (fail)
    clear ta0 ta1 ta2 tb0 tb1 tb2
    go_loopw [5] (fun iv wr => ∃ i : Nat, iv = .int .i64 i ∧ i ≤ n.keys.length ∧ TriV wr w.heap.size 26 (.slice a1 n.keys.length c1) (.slice a2 n.chains.length c2) (.slice a3 n.kids.length c3) ∧ TriV wr (w.heap.size + 1) 26 (.slice a4 n.keys.length c4) (.slice a5 n.chains.length c5) (.slice a6 n.kids.length c6) ∧ Below w.heap.size w wr) (fun i _ => n.keys.length - (intOf i).toNat)
    case atStart => exact ⟨0, rfl, Nat.zero_le _, bxa, bxb, q⟩
    case round =>
      clear q bxa bxb
      obtain ⟨i, rfl, hil, bxa, bxb, q⟩ := hrel
      have ta0 := bxa.cell0
      have ta1 := bxa.cell1
      have ta2 := bxa.cell2
      have tb0 := bxb.cell0
      have tb1 := bxb.cell1
      have tb2 := bxb.cell2
      rcases Nat.lt_or_ge i n.keys.length with hlt | hge
      · obtain ⟨b, off, Ak, C, rfl, c0, hky⟩ := (r1.below q).byt i hlt
        obtain ⟨b', off', Ak', C', rfl, c0', hky'⟩ := (r4.below q).byt i hlt
        have hk2 := hky.rd
        have hk2' := hky'.rd
        have de : ((strOf n.keys[i]).toList == (strOf n.keys[i]).toList) = true := str_eq.trans (decide_eq_true rfl)
        go_upto_region 6 with (fail)
        refine wp_region_quiet_lit (by kernel_rfl) (by kernel_rfl) ?_
        repeat (first | go_big_quiet_step (fail) | (go_big_quiet_want; refine quiet_conv byP rfl rfl hk2 ?_; go_big_quiet_on; go_simp) | (go_big_quiet_want; refine quiet_conv byP rfl rfl hk2' ?_; go_big_quiet_on; go_simp))
        first | (refine wpQuiet_nil ?_; intro _ hw'; obtain ⟨nq, hw''⟩ := hw'; subst hw'') | intro nq
        have qd := Below.drewN (Below.refl wr.heap.size wr) nq
        replace q := q.trans (qd.mono q.size)
        replace bxa := bxa.below qd bxa.lt
        replace bxb := bxb.below qd bxb.lt
        clear qd
        go_wp2_with fail
        go_roundw
        case rel => exact ⟨i + 1, by go_num, by omega, bxa, bxb, q⟩
        case measure => simp [intOf]; omega
      · obtain rfl : i = n.keys.length := by omega
        go_upto_region 9 with (fail)
        clear ta0 ta1 ta2 tb0 tb1 tb2
        go_loopw [6] (fun iv wr => ∃ i : Nat, iv = .int .i64 i ∧ i ≤ n.chains.length ∧ TriV wr w.heap.size 26 (.slice a1 n.keys.length c1) (.slice a2 n.chains.length c2) (.slice a3 n.kids.length c3) ∧ TriV wr (w.heap.size + 1) 26 (.slice a4 n.keys.length c4) (.slice a5 n.chains.length c5) (.slice a6 n.kids.length c6) ∧ Below w.heap.size w wr) (fun i _ => n.chains.length - (intOf i).toNat)
        case atStart => exact ⟨0, rfl, Nat.zero_le _, bxa, bxb, q⟩
        case round =>
          clear q bxa bxb
          obtain ⟨i, rfl, hil, bxa, bxb, q⟩ := hrel
          have ta0 := bxa.cell0
          have ta1 := bxa.cell1
          have ta2 := bxa.cell2
          have tb0 := bxb.cell0
          have tb1 := bxb.cell1
          have tb2 := bxb.cell2
          rcases Nat.lt_or_ge i n.chains.length with hlt | hge
          · obtain ⟨b, off, Ak, C, rfl, c0, hcc⟩ := (r2.below q).lst i hlt
            obtain ⟨b', off', Ak', C', rfl, c0', hcc'⟩ := (r5.below q).lst i hlt
            obtain ⟨x, ex⟩ : ∃ x, x = n.chains[i] := ⟨_, rfl⟩
            rw [← ex] at c0 hcc c0' hcc'
            clear ex
            have d0 : wr.cell? ⟨b, off + i * 1, none⟩ = some (.slice Ak x.length C) := by rw [Nat.mul_one]; exact c0
            have d0' : wr.cell? ⟨b', off' + i * 1, none⟩ = some (.slice Ak' x.length C') := by rw [Nat.mul_one]; exact c0'
            clear c0 c0'
            go_upto_region 11 with (fail)
            refine wp_region_gsg (by kernel_rfl) (by kernel_rfl) [sgEq (.pointer (some ⟨w.heap.size, 0 + 1, none⟩)), sgEq (.slice (some ⟨b, off, none⟩) n.chains.length c2), sgEq (.int .i64 i), sgEq (.pointer (some ⟨b, off + i * 1, none⟩)), sgEq (.slice Ak x.length C), sgEq (.pointer (some ⟨w.heap.size + 1, 0 + 1, none⟩)), sgEq (.slice (some ⟨b', off', none⟩) n.chains.length c5), sgEq (.int .i64 i), sgEq (.pointer (some ⟨b', off' + i * 1, none⟩)), sgEq (.slice Ak' x.length C'), sgEq (.bool true), sgEq (.bool true)]
              ⟨?o0, ?o1, ?o2, ?o3, ?o4, ?o5, ?o6, ?o7, ?o8, ?o9, ?o10, ?o11, trivial⟩ ?fin
            case o0 =>
              refine GdOp.plain rfl (fun A vs w' hF hT hb hd => ?_)
              have e1 : A.eval (.tmp 2) = .pointer (some ⟨w.heap.size, 0, none⟩) := hF 2 rfl
              exact wp_fieldN ndS rfl (e1) (by omega) ⟨_, rfl, rfl, Below.refl _ _⟩
            case o1 =>
              refine GdOp.plain rfl (fun A vs w' hF hT hb hd => ?_)
              have e1 : A.eval (.tmp 62) = .pointer (some ⟨w.heap.size, 0 + 1, none⟩) := (hT 62 0 (by simp) rfl).trans (hd ⟨0, .data⟩ (by simp) rfl)
              exact wp_ld_slice (e := 32) rfl e1 (by kernel_rfl) (((hb.cell (p := ⟨w.heap.size, 0 + 1, none⟩) (cell_lt ta1)).trans ta1)) ⟨_, rfl, rfl, Below.refl _ _⟩
            case o2 =>
              refine GdOp.plain rfl (fun A vs w' hF hT hb hd => ?_)
              have e1 : A.eval (.tmp 6) = .int .i64 i := hF 6 rfl
              exact BigFrame.wp_move _ rfl ⟨_, rfl, e1, Below.refl _ _⟩
            case o3 =>
              refine GdOp.plain rfl (fun A vs w' hF hT hb hd => ?_)
              have e1 : A.eval (.tmp 63) = .slice (some ⟨b, off, none⟩) n.chains.length c2 := (hT 63 1 (by simp) rfl).trans (hd ⟨1, .data⟩ (by simp) rfl)
              have e2 : A.eval (.tmp 64) = .int .i64 i := (hT 64 2 (by simp) rfl).trans (hd ⟨2, .data⟩ (by simp) rfl)
              exact wp_ixN (e := 32) rfl (by kernel_rfl) (by kernel_rfl) (e1) (e2) rfl (by omega) ⟨_, rfl, rfl, Below.refl _ _⟩
            case o4 =>
              refine GdOp.plain rfl (fun A vs w' hF hT hb hd => ?_)
              have e1 : A.eval (.tmp 65) = .pointer (some ⟨b, off + i * 1, none⟩) := (hT 65 3 (by simp) rfl).trans (hd ⟨3, .data⟩ (by simp) rfl)
              exact wp_ld_slice (e := 61) rfl e1 (by kernel_rfl) (((hb.cell (p := ⟨b, off + i * 1, none⟩) (cell_lt d0)).trans d0)) ⟨_, rfl, rfl, Below.refl _ _⟩
            case o5 =>
              refine GdOp.plain rfl (fun A vs w' hF hT hb hd => ?_)
              have e1 : A.eval (.tmp 3) = .pointer (some ⟨w.heap.size + 1, 0, none⟩) := hF 3 rfl
              exact wp_fieldN ndS rfl (e1) (by omega) ⟨_, rfl, rfl, Below.refl _ _⟩
            case o6 =>
              refine GdOp.plain rfl (fun A vs w' hF hT hb hd => ?_)
              have e1 : A.eval (.tmp 67) = .pointer (some ⟨w.heap.size + 1, 0 + 1, none⟩) := (hT 67 5 (by simp) rfl).trans (hd ⟨5, .data⟩ (by simp) rfl)
              exact wp_ld_slice (e := 32) rfl e1 (by kernel_rfl) (((hb.cell (p := ⟨w.heap.size + 1, 0 + 1, none⟩) (cell_lt tb1)).trans tb1)) ⟨_, rfl, rfl, Below.refl _ _⟩
            case o7 =>
              refine GdOp.plain rfl (fun A vs w' hF hT hb hd => ?_)
              have e1 : A.eval (.tmp 6) = .int .i64 i := hF 6 rfl
              exact BigFrame.wp_move _ rfl ⟨_, rfl, e1, Below.refl _ _⟩
            case o8 =>
              refine GdOp.plain rfl (fun A vs w' hF hT hb hd => ?_)
              have e1 : A.eval (.tmp 68) = .slice (some ⟨b', off', none⟩) n.chains.length c5 := (hT 68 6 (by simp) rfl).trans (hd ⟨6, .data⟩ (by simp) rfl)
              have e2 : A.eval (.tmp 69) = .int .i64 i := (hT 69 7 (by simp) rfl).trans (hd ⟨7, .data⟩ (by simp) rfl)
              exact wp_ixN (e := 32) rfl (by kernel_rfl) (by kernel_rfl) (e1) (e2) rfl (by omega) ⟨_, rfl, rfl, Below.refl _ _⟩
            case o9 =>
              refine GdOp.plain rfl (fun A vs w' hF hT hb hd => ?_)
              have e1 : A.eval (.tmp 70) = .pointer (some ⟨b', off' + i * 1, none⟩) := (hT 70 8 (by simp) rfl).trans (hd ⟨8, .data⟩ (by simp) rfl)
              exact wp_ld_slice (e := 61) rfl e1 (by kernel_rfl) (((hb.cell (p := ⟨b', off' + i * 1, none⟩) (cell_lt d0')).trans d0')) ⟨_, rfl, rfl, Below.refl _ _⟩
            case o10 =>
              refine GdOp.plain rfl (fun A vs w' hF hT hb hd => ?_)
              have e1 : A.eval (.tmp 66) = .slice Ak x.length C := (hT 66 4 (by simp) rfl).trans (hd ⟨4, .data⟩ (by simp) rfl)
              have e2 : A.eval (.tmp 71) = .slice Ak' x.length C' := (hT 71 9 (by simp) rfl).trans (hd ⟨9, .data⟩ (by simp) rfl)
              refine wp_callFn rfl (enters_of Try.func21 (by kernel_rfl) rfl) (args := #[.slice Ak x.length C, .slice Ak' x.length C']) (by simp [e1, e2]) ((sameV_any w' (hcc.below hb) (hcc'.below hb)).mono ?_)
              rintro e w2 ⟨rfl, hb2⟩
              exact ⟨_, rfl, _, rfl, congrArg Value.bool (decide_eq_true rfl), hb2⟩
            case o11 =>
              refine GdOp.plain rfl (fun A vs w' hF hT hb hd => ?_)
              have e1 : A.eval (.tmp 72) = .bool true := (hT 72 10 (by simp) rfl).trans (hd ⟨10, .data⟩ (by simp) rfl)
              exact BigFrame.wp_assign _ rfl ⟨_, rfl, e1, Below.refl _ _⟩
            case fin =>
              intro vs w' hb hG
              have e0 : vs 0 = .pointer (some ⟨w.heap.size, 0 + 1, none⟩) := hG 0 (by decide)
              have e1 : vs 1 = .slice (some ⟨b, off, none⟩) n.chains.length c2 := hG 1 (by decide)
              have e2 : vs 2 = .int .i64 i := hG 2 (by decide)
              have e3 : vs 3 = .pointer (some ⟨b, off + i * 1, none⟩) := hG 3 (by decide)
              have e4 : vs 4 = .slice Ak x.length C := hG 4 (by decide)
              have e5 : vs 5 = .pointer (some ⟨w.heap.size + 1, 0 + 1, none⟩) := hG 5 (by decide)
              have e6 : vs 6 = .slice (some ⟨b', off', none⟩) n.chains.length c5 := hG 6 (by decide)
              have e7 : vs 7 = .int .i64 i := hG 7 (by decide)
              have e8 : vs 8 = .pointer (some ⟨b', off' + i * 1, none⟩) := hG 8 (by decide)
              have e9 : vs 9 = .slice Ak' x.length C' := hG 9 (by decide)
              have e10 : vs 10 = .bool true := hG 10 (by decide)
              have e11 : vs 11 = .bool true := hG 11 (by decide)
              simp only [putAll, e0, e1, e2, e3, e4, e5, e6, e7, e8, e9, e10, e11]
              clear hG e0 e1 e2 e3 e4 e5 e6 e7 e8 e9 e10 e11
              go_simp
              replace q := q.trans (hb.mono q.size)
              replace bxa := bxa.below hb bxa.lt
              replace bxb := bxb.below hb bxb.lt
              clear hb ta0 ta1 ta2 tb0 tb1 tb2 d0 d0' hcc hcc'
              go_wp2_with fail
              go_roundw
              case rel => exact ⟨i + 1, by go_num, by omega, bxa, bxb, q⟩
              case measure => simp [intOf]; omega
          · obtain rfl : i = n.chains.length := by omega
            go_upto_region 15 with (fail)
            clear ta0 ta1 ta2 tb0 tb1 tb2
            go_loopw [8] (fun iv wr => ∃ i : Nat, iv = .int .i64 i ∧ i ≤ n.kids.length ∧ TriV wr w.heap.size 26 (.slice a1 n.keys.length c1) (.slice a2 n.chains.length c2) (.slice a3 n.kids.length c3) ∧ TriV wr (w.heap.size + 1) 26 (.slice a4 n.keys.length c4) (.slice a5 n.chains.length c5) (.slice a6 n.kids.length c6) ∧ Below w.heap.size w wr) (fun i _ => n.kids.length - (intOf i).toNat)
            case atStart => exact ⟨0, rfl, Nat.zero_le _, bxa, bxb, q⟩
            case round =>
              clear q bxa bxb
              obtain ⟨i, rfl, hil, bxa, bxb, q⟩ := hrel
              have ta0 := bxa.cell0
              have ta1 := bxa.cell1
              have ta2 := bxa.cell2
              have tb0 := bxb.cell0
              have tb1 := bxb.cell1
              have tb2 := bxb.cell2
              rcases Nat.lt_or_ge i n.kids.length with hlt | hge
              · have hwk := wN_kid (List.getElem_mem hlt)
                obtain ⟨b, off, x1, y1, x2, y2, x3, y3, rfl, k0, k1, k2, hkr⟩ := (r3.below q).kid i hlt
                obtain ⟨b', off', x1', y1', x2', y2', x3', y3', rfl, k0', k1', k2', hkr'⟩ := (r6.below q).kid i hlt
                obtain ⟨kd, ekd⟩ : ∃ kd, kd = n.kids[i] := ⟨_, rfl⟩
                rw [← ekd] at k0 k1 k2 hkr k0' k1' k2' hkr' hwk
                clear ekd
                go_upto_region 17 with (fail)
                refine wp_region_gsg (by kernel_rfl) (by kernel_rfl) [sgEq (.pointer (some ⟨w.heap.size, 0 + 2, none⟩)), sgEq (.slice (some ⟨b, off, none⟩) n.kids.length c3), sgEq (.int .i64 i), sgEq (.pointer (some ⟨b, off + i * 3, none⟩)), sgEq (.agg #[.slice x1 kd.keys.length y1, .slice x2 kd.chains.length y2, .slice x3 kd.kids.length y3]), sgEq (.pointer (some ⟨w.heap.size + 1, 0 + 2, none⟩)), sgEq (.slice (some ⟨b', off', none⟩) n.kids.length c6), sgEq (.int .i64 i), sgEq (.pointer (some ⟨b', off' + i * 3, none⟩)), sgEq (.agg #[.slice x1' kd.keys.length y1', .slice x2' kd.chains.length y2', .slice x3' kd.kids.length y3']), sgEq (.bool true), sgEq (.bool true)]
                  ⟨?o0, ?o1, ?o2, ?o3, ?o4, ?o5, ?o6, ?o7, ?o8, ?o9, ?o10, ?o11, trivial⟩ ?fin
                case o0 =>
                  refine GdOp.plain rfl (fun A vs w' hF hT hb hd => ?_)
                  have e1 : A.eval (.tmp 2) = .pointer (some ⟨w.heap.size, 0, none⟩) := hF 2 rfl
                  exact wp_fieldN ndS rfl (e1) (by omega) ⟨_, rfl, rfl, Below.refl _ _⟩
                case o1 =>
                  refine GdOp.plain rfl (fun A vs w' hF hT hb hd => ?_)
                  have e1 : A.eval (.tmp 82) = .pointer (some ⟨w.heap.size, 0 + 2, none⟩) := (hT 82 0 (by simp) rfl).trans (hd ⟨0, .data⟩ (by simp) rfl)
                  exact wp_ld_slice (e := 26) rfl e1 (by kernel_rfl) (((hb.cell (p := ⟨w.heap.size, 0 + 2, none⟩) (cell_lt ta2)).trans ta2)) ⟨_, rfl, rfl, Below.refl _ _⟩
                case o2 =>
                  refine GdOp.plain rfl (fun A vs w' hF hT hb hd => ?_)
                  have e1 : A.eval (.tmp 8) = .int .i64 i := hF 8 rfl
                  exact BigFrame.wp_move _ rfl ⟨_, rfl, e1, Below.refl _ _⟩
                case o3 =>
                  refine GdOp.plain rfl (fun A vs w' hF hT hb hd => ?_)
                  have e1 : A.eval (.tmp 83) = .slice (some ⟨b, off, none⟩) n.kids.length c3 := (hT 83 1 (by simp) rfl).trans (hd ⟨1, .data⟩ (by simp) rfl)
                  have e2 : A.eval (.tmp 84) = .int .i64 i := (hT 84 2 (by simp) rfl).trans (hd ⟨2, .data⟩ (by simp) rfl)
                  exact wp_ixN (e := 26) rfl (by kernel_rfl) (by kernel_rfl) (e1) (e2) rfl (by omega) ⟨_, rfl, rfl, Below.refl _ _⟩
                case o4 =>
                  refine GdOp.plain rfl (fun A vs w' hF hT hb hd => ?_)
                  have e1 : A.eval (.tmp 85) = .pointer (some ⟨b, off + i * 3, none⟩) := (hT 85 3 (by simp) rfl).trans (hd ⟨3, .data⟩ (by simp) rfl)
                  exact wp_load3 ndS rfl e1 ((hb.cell (p := ⟨b, off + i * 3, none⟩) (cell_lt k0)).trans k0) ((hb.cell (p := ⟨b, off + i * 3 + 1, none⟩) (cell_lt k1)).trans k1) ((hb.cell (p := ⟨b, off + i * 3 + 2, none⟩) (cell_lt k2)).trans k2) ⟨_, rfl, rfl, Below.refl _ _⟩
                case o5 =>
                  refine GdOp.plain rfl (fun A vs w' hF hT hb hd => ?_)
                  have e1 : A.eval (.tmp 3) = .pointer (some ⟨w.heap.size + 1, 0, none⟩) := hF 3 rfl
                  exact wp_fieldN ndS rfl (e1) (by omega) ⟨_, rfl, rfl, Below.refl _ _⟩
                case o6 =>
                  refine GdOp.plain rfl (fun A vs w' hF hT hb hd => ?_)
                  have e1 : A.eval (.tmp 87) = .pointer (some ⟨w.heap.size + 1, 0 + 2, none⟩) := (hT 87 5 (by simp) rfl).trans (hd ⟨5, .data⟩ (by simp) rfl)
                  exact wp_ld_slice (e := 26) rfl e1 (by kernel_rfl) (((hb.cell (p := ⟨w.heap.size + 1, 0 + 2, none⟩) (cell_lt tb2)).trans tb2)) ⟨_, rfl, rfl, Below.refl _ _⟩
                case o7 =>
                  refine GdOp.plain rfl (fun A vs w' hF hT hb hd => ?_)
                  have e1 : A.eval (.tmp 8) = .int .i64 i := hF 8 rfl
                  exact BigFrame.wp_move _ rfl ⟨_, rfl, e1, Below.refl _ _⟩
                case o8 =>
                  refine GdOp.plain rfl (fun A vs w' hF hT hb hd => ?_)
                  have e1 : A.eval (.tmp 88) = .slice (some ⟨b', off', none⟩) n.kids.length c6 := (hT 88 6 (by simp) rfl).trans (hd ⟨6, .data⟩ (by simp) rfl)
                  have e2 : A.eval (.tmp 89) = .int .i64 i := (hT 89 7 (by simp) rfl).trans (hd ⟨7, .data⟩ (by simp) rfl)
                  exact wp_ixN (e := 26) rfl (by kernel_rfl) (by kernel_rfl) (e1) (e2) rfl (by omega) ⟨_, rfl, rfl, Below.refl _ _⟩
                case o9 =>
                  refine GdOp.plain rfl (fun A vs w' hF hT hb hd => ?_)
                  have e1 : A.eval (.tmp 90) = .pointer (some ⟨b', off' + i * 3, none⟩) := (hT 90 8 (by simp) rfl).trans (hd ⟨8, .data⟩ (by simp) rfl)
                  exact wp_load3 ndS rfl e1 ((hb.cell (p := ⟨b', off' + i * 3, none⟩) (cell_lt k0')).trans k0') ((hb.cell (p := ⟨b', off' + i * 3 + 1, none⟩) (cell_lt k1')).trans k1') ((hb.cell (p := ⟨b', off' + i * 3 + 2, none⟩) (cell_lt k2')).trans k2') ⟨_, rfl, rfl, Below.refl _ _⟩
                case o10 =>
                  refine GdOp.plain rfl (fun A vs w' hF hT hb hd => ?_)
                  have e1 : A.eval (.tmp 86) = .agg #[.slice x1 kd.keys.length y1, .slice x2 kd.chains.length y2, .slice x3 kd.kids.length y3] := (hT 86 4 (by simp) rfl).trans (hd ⟨4, .data⟩ (by simp) rfl)
                  have e2 : A.eval (.tmp 91) = .agg #[.slice x1' kd.keys.length y1', .slice x2' kd.chains.length y2', .slice x3' kd.kids.length y3'] := (hT 91 9 (by simp) rfl).trans (hd ⟨9, .data⟩ (by simp) rfl)
                  refine wp_callFn rfl (enters_of Try.func30 (by kernel_rfl) rfl) (args := #[.agg #[.slice x1 kd.keys.length y1, .slice x2 kd.chains.length y2, .slice x3 kd.kids.length y3], .agg #[.slice x1' kd.keys.length y1', .slice x2' kd.chains.length y2', .slice x3' kd.kids.length y3']]) (by simp [e1, e2]) ((ih kd w' _ _ _ _ (by omega) (hkr.below hb) (hkr'.below hb)).mono ?_)
                  rintro e w2 ⟨rfl, hb2⟩
                  exact ⟨_, rfl, _, rfl, rfl, hb2⟩
                case o11 =>
                  refine GdOp.plain rfl (fun A vs w' hF hT hb hd => ?_)
                  have e1 : A.eval (.tmp 92) = .bool true := (hT 92 10 (by simp) rfl).trans (hd ⟨10, .data⟩ (by simp) rfl)
                  exact BigFrame.wp_assign _ rfl ⟨_, rfl, e1, Below.refl _ _⟩
                case fin =>
                  intro vs w' hb hG
                  have e0 : vs 0 = .pointer (some ⟨w.heap.size, 0 + 2, none⟩) := hG 0 (by decide)
                  have e1 : vs 1 = .slice (some ⟨b, off, none⟩) n.kids.length c3 := hG 1 (by decide)
                  have e2 : vs 2 = .int .i64 i := hG 2 (by decide)
                  have e3 : vs 3 = .pointer (some ⟨b, off + i * 3, none⟩) := hG 3 (by decide)
                  have e4 : vs 4 = .agg #[.slice x1 kd.keys.length y1, .slice x2 kd.chains.length y2, .slice x3 kd.kids.length y3] := hG 4 (by decide)
                  have e5 : vs 5 = .pointer (some ⟨w.heap.size + 1, 0 + 2, none⟩) := hG 5 (by decide)
                  have e6 : vs 6 = .slice (some ⟨b', off', none⟩) n.kids.length c6 := hG 6 (by decide)
                  have e7 : vs 7 = .int .i64 i := hG 7 (by decide)
                  have e8 : vs 8 = .pointer (some ⟨b', off' + i * 3, none⟩) := hG 8 (by decide)
                  have e9 : vs 9 = .agg #[.slice x1' kd.keys.length y1', .slice x2' kd.chains.length y2', .slice x3' kd.kids.length y3'] := hG 9 (by decide)
                  have e10 : vs 10 = .bool true := hG 10 (by decide)
                  have e11 : vs 11 = .bool true := hG 11 (by decide)
                  simp only [putAll, e0, e1, e2, e3, e4, e5, e6, e7, e8, e9, e10, e11]
                  clear hG e0 e1 e2 e3 e4 e5 e6 e7 e8 e9 e10 e11
                  go_simp
                  replace q := q.trans (hb.mono q.size)
                  replace bxa := bxa.below hb bxa.lt
                  replace bxb := bxb.below hb bxb.lt
                  clear hb ta0 ta1 ta2 tb0 tb1 tb2 k0 k1 k2 hkr k0' k1' k2' hkr'
                  go_wp2_with fail
                  go_roundw
                  case rel => exact ⟨i + 1, by go_num, by omega, bxa, bxb, q⟩
                  case measure => simp [intOf]; omega
              · obtain rfl : i = n.kids.length := by omega
                go_wp2_with fail
                go_ret
                exact ⟨rfl, q⟩
theorem refNodes_same (N : Nat) : NodesAt N := by
  induction N with
  | zero =>
    intro n w S S2 v v2 h
    have := wN_pos n
    omega
  | succ N ih => exact refNodes_step N ih
end Go.Proofs.Ytdegjkfjaklkjaa
