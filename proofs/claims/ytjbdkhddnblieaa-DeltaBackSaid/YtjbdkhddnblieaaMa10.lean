/-
  TEXTS OF ONE PROOF, merged: DltW, DltX, DltY, DeltaDoesW, Dlw.
-/
import Derived.Test.YtjbdkhddnblieaaMa9
namespace Go.Proofs.Ytjbdkhddnblieaa
open Go.RowKit Go.Shelf
set_option maxRecDepth 100000 in
set_option maxHeartbeats 8000000 in
theorem rPut_any (w : World) {S S2 : Nat → Prop} {v u : Value} {d : Dl} {x : Wr} (h : RdDl S w v d) (hs : smD d) (hx : RdWr S2 w u x) (hx1 : x.key.length ≤ 1000000) (hx2 : x.val.length ≤ 1000000) :
    Calls Try.prog 11 #[v, u] w (DlEnd w (putD d x)) := by
  have hd := h
  obtain ⟨a, c, a2, c2, rfl, hw, hm⟩ := h
  have hx0 := hx
  obtain ⟨KA, KC, VA, VC, rfl, hk, hv, ht⟩ := hx
  obtain ⟨W0, hW, q, bn, bx, bz, hsz⟩ := boxes3 w 25 28 25 [.slice a d.writes.length c, .slice a2 d.marks.length c2] [.int .i64 x.table, .slice KA x.key.length KC, .bool x.gone, .slice VA x.val.length VC] [.slice none 0 0, .slice none 0 0]
  have eA : ∀ args w, (callFunc 34 args).run Try.prog w = .ok (.enter 34 args) w := enters_of Try.func34 (by kernel_rfl) rfl
  have hs1 := hs.1
  go_enter Try.func11, Try.ntmps11
  go_upto_region 1 with (fail)
  rw [show ((w.alloc (.cells #[.slice a d.writes.length c, .slice a2 d.marks.length c2] 25)).alloc (.cells #[.int .i64 x.table, .slice KA x.key.length KC, .bool x.gone, .slice VA x.val.length VC] 28)).alloc (.cells #[.slice none 0 0, .slice none 0 0] 25) = W0 from hW.symm]
  clear hW
  have b0 := bn.cell (i := 0) rfl
  have b1 := bn.cell (i := 1) rfl
  go_wp2_with fail
  refine (rCopy_any W0 (hd.below q) hs).mono ?_
  rintro e w1 ⟨_, rfl, ⟨wa, wc, ma, mc, M, hM0, hM1, rfl, hOw, hOm, hMm⟩, hb1⟩
  have q1 := q.trans (hb1.mono q.size)
  have z1 := hb1.size
  have hOw0 := hOw.block_lt
  have hOm0 := hOm.block_lt
  replace hOw := hOw.but (b := w1.heap.size) (fun k _ hk => by omega)
  replace bn := bn.below hb1 bn.lt
  replace bx := bx.below hb1 bx.lt
  replace bz := bz.below hb1 bz.lt
  clear b0 b1
  go_upto_region 2 with (first | (refine wpList_boxNew (vs := [.slice none 0 0, .slice none 0 0]) (by kernel_rfl) rfl rfl ?_; intro w2 hb2 hB2) | (refine wpList_boxStore (us := [.slice wa d.writes.length wc, .slice ma d.marks.length mc]) (by kernel_rfl) rfl rfl rfl rfl rfl rfl hB2 rfl ?_; intro w3 hg3 hBO) | fail)
  go_simp
  have qb3 : Below w1.heap.size w1 w3 := hb2.grown hg3 hb2.size fun k hk => by injection hk with hk; omega
  have zO := hBO.lt
  replace q := q1.trans (qb3.mono q1.size)
  replace bn := bn.below qb3 bn.lt
  replace bx := bx.below qb3 bx.lt
  have hBZ := bz.below qb3 bz.lt
  replace hOw := hOw.below qb3
  replace hOm := hOm.below qb3
  obtain ⟨BO, eBO⟩ : ∃ BO, BO = w1.heap.size := ⟨_, rfl⟩
  rw [← eBO] at hBO zO hOw0 hOm0 hOw hM1
  rw [← eBO]
  have zBO : W0.heap.size ≤ BO := by omega
  clear hb2 hB2 hg3 qb3 q1 eBO bz hb1 z1
  have b0 := bn.cell (i := 0) rfl
  have b1 := bn.cell (i := 1) rfl
  go_wp2_with fail
  refine (rCheck_any w3 (hd.below q)).mono ?_
  rintro e w4 ⟨rfl, hb4⟩
  replace q := q.trans (hb4.mono q.size)
  replace bn := bn.below hb4 bn.lt
  replace bx := bx.below hb4 bx.lt
  replace hBO := hBO.below hb4 hBO.lt
  replace hBZ := hBZ.below hb4 hBZ.lt
  replace hOw := hOw.below hb4
  replace hOm := hOm.below hb4
  clear b0 b1
  have b0 := bx.cell (i := 0) rfl
  have b1 := bx.cell (i := 1) rfl
  have b2 := bx.cell (i := 2) rfl
  have b3 := bx.cell (i := 3) rfl
  have z4 := hb4.size
  clear hb4
  go_wp2_with fail
  refine (refMay_any w4 (hx0.below q)).mono ?_
  rintro e w5 ⟨rfl, hb5⟩
  replace q := q.trans (hb5.mono q.size)
  replace bn := bn.below hb5 bn.lt
  replace bx := bx.below hb5 bx.lt
  replace hBO := hBO.below hb5 hBO.lt
  replace hBZ := hBZ.below hb5 hBZ.lt
  replace hOw := hOw.below hb5
  replace hOm := hOm.below hb5
  have z5 := hb5.size
  clear b0 b1 b2 b3 hb5
  by_cases hok : okD d
  · have dok : decide (okD d) = true := decide_eq_true hok
    by_cases hmay : mayW x
    · have dm : decide (mayW x) = true := decide_eq_true hmay
      have b0 := bn.cell (i := 0) rfl
      by_cases hfull : d.writes.length = 20
      · have d20 : decide ((20 : Int) ≤ (d.writes.length : Int)) = true := decide_eq_true (by omega)
        have HK := Lib.hid (show putD d x = (d, 80) by unfold putD; rw [if_pos ⟨hok, hmay⟩, if_pos hfull])
        clear hfull
        have o0 := hBO.cell (i := 0) rfl
        have o1 := hBO.cell (i := 1) rfl
        go_wp2_with (first | (refine wpList_boxStore (us := [.slice wa d.writes.length wc, .slice ma d.marks.length mc]) (by kernel_rfl) rfl rfl rfl rfl rfl rfl hBZ rfl ?_; intro wd hgd hBd) | fail)
        have d0 := hBd.cell (i := 0) rfl
        have d1 := hBd.cell (i := 1) rfl
        obtain ⟨fs, hu, _⟩ := dlS.hu
        refine bodyPost_ret (v := .tuple #[.agg #[.slice wa d.writes.length wc, .slice ma d.marks.length mc], .int .i64 80]) (by simp [results, Try.results11, go_sem, loadVar, isAgg, run_underlying hu, run_sizeOf' dlS.hs, loadCellsFrom, Addr.add, d0, d1]) rfl ?_
        rw [DlEnd, HK.out]
        exact ⟨_, rfl, ⟨wa, wc, ma, mc, rfl, (hOw.unbut.other hgd (by omega) (by omega)).rdS fun k hk hl => ⟨by omega, hl⟩, (hOm.other hgd (by omega) (by omega)).rdS fun k hk hl => ⟨by omega, hl⟩⟩, q.grown hgd q.size fun k e => by injection e with e; omega⟩
      · have d20 : decide ((20 : Int) ≤ (d.writes.length : Int)) = false := decide_eq_false (by have := hok.1; omega)
        have HK := Lib.hid (show putD d x = (⟨d.writes ++ [x], d.marks⟩, 0) by unfold putD; rw [if_pos ⟨hok, hmay⟩, if_neg hfull])
        go_upto_region 8 with (fail)
        clear b0
        have hrW : ∀ k, Value.ownBlock (.slice wa d.writes.length wc) = some k → k < w5.heap.size := fun k hk => by have := hOw0 k hk; omega
        have hlo : M ≤ w5.heap.size := by omega
        have hxr : some (w.heap.size + 1) ≠ Value.ownBlock (.slice wa d.writes.length wc) := fun e => by have := hOw0 _ e.symm; omega
        have hxb : w.heap.size + 1 ≠ BO := by omega
        have hbr : Value.ownBlock (.slice wa d.writes.length wc) ≠ some BO := fun e => by have := hOw0 _ e; omega
        refine wp_region_lnl (K := fun A B => Twb A B (Value.ownBlock (.slice wa d.writes.length wc)) (BO)) (by kernel_rfl) (by kernel_rfl) [3, 5, 7] (by kernel_rfl) [lEq (.pointer (some ⟨BO, 0 + 0, none⟩)), lEq (.slice wa d.writes.length wc), lEq (.agg #[.int .i64 x.table, .slice KA x.key.length KC, .bool x.gone, .slice VA x.val.length VC]), lAny, pRow Elt.wr 28 (w5) (Value.ownBlock (.slice wa d.writes.length wc)) (BO) x hrW hBO.lt, lAny, lEq (.pointer (some ⟨BO, 0 + 0, none⟩)), lAny] (PshJ Elt.wr 28 (M) (M) (Value.ownBlock (.slice wa d.writes.length wc)) (BO) 25 [.slice wa d.writes.length wc, .slice ma d.marks.length mc] 0 (w5) (d.writes) x) PshJ.below (show Below (w5).heap.size (w5) (w5) from Below.refl _ _)
          ⟨?o0, ?o1, ?o2, ?o3, ?o4, ?o5, ?o6, ?o7, trivial⟩ ?fin
        case o0 =>
          refine LnOp.side rfl (by kernel_rfl) (fun A va w' k hF hT hk hJ hb hu hp hd => ?_)
          have e1 : A.eval (.tmp 6) = .pointer (some ⟨BO, 0, none⟩) := hF 6 rfl
          exact wp_fieldN dlS rfl (e1) (by omega) ⟨_, rfl, rfl, Below.refl _ _⟩
        case o1 =>
          refine LnOp.side rfl (by kernel_rfl) (fun A va w' k hF hT hk hJ hb hu hp hd => ?_)
          have e1 : A.eval (.tmp 27) = .pointer (some ⟨BO, 0 + 0, none⟩) := (hT 27 0 (by simp) rfl).trans (hd ⟨0, .data⟩ (by simp) rfl rfl)
          have hk1 : k ≤ 1 := hb 1 5 rfl (by kernel_rfl)
          have hJ0 := PshJ.early hJ (by simp only [List.length_map, List.length_take]; omega)
          exact wp_ld_slice (e := 28) rfl e1 (by kernel_rfl) ((hBO.below hJ0 hBO.lt).cell (i := 0) rfl) ⟨_, rfl, rfl, Below.refl _ _⟩
        case o2 =>
          refine LnOp.side rfl (by kernel_rfl) (fun A va w' k hF hT hk hJ hb hu hp hd => ?_)
          have e1 : A.eval (.tmp 3) = .pointer (some ⟨w.heap.size + 1, 0, none⟩) := hF 3 rfl
          have hX2 := (PshJ.two hJ).boxN bx hxr hxb
          exact wp_load4 wrS rfl e1 (hX2.cell (i := 0) rfl) (hX2.cell (i := 1) rfl) (hX2.cell (i := 2) rfl) (hX2.cell (i := 3) rfl) ⟨_, rfl, rfl, Below.refl _ _⟩
        case o3 =>
          refine LnOp.line 0 rfl rfl (fun A va w' hF hT hJ hu hd => ?_)
          have e1 : A.eval (.tmp 29) = .agg #[.int .i64 x.table, .slice KA x.key.length KC, .bool x.gone, .slice VA x.val.length VC] := (hT 29 2 (by simp) rfl).trans (hd ⟨2, .data⟩ (by simp) rfl rfl)
          have hJ0 : Below (w5).heap.size (w5) w' := hJ
          refine wp_callFn rfl eA (by simp only [List.map_toArray, List.map_cons, List.map_nil, e1]) ((rWrite_any w' (hx0.below (q.trans (hJ0.mono q.size))) hx1 hx2).mono ?_)
          rintro e w2 ⟨v2, rfl, ⟨ka, kc, va2, vc, rfl, hk2, hv2, ht2⟩, hb2⟩
          have hR : Elt.wr.R (fun k => w5.heap.size ≤ k ∧ k < w2.heap.size) w2 x (wrC x (.slice ka x.key.length kc) (.slice va2 x.val.length vc)) := ⟨_, _, rfl, hk2.weak fun k hk => ⟨Nat.le_trans hJ0.size hk.1, hk.2⟩, hv2.weak fun k hk => ⟨Nat.le_trans hJ0.size hk.1, hk.2⟩, ht2⟩
          exact ⟨_, rfl, _, rfl, ⟨hJ0.trans (hb2.mono hJ0.size), _, rfl, hR⟩, (Twb.refl (r := Value.ownBlock (.slice wa d.writes.length wc)) (b := BO)).below hb2⟩
        case o4 =>
          refine LnOp.side rfl (by kernel_rfl) (fun A va w' k hF hT hk hJ hb hu hp hd => ?_)
          have x1 : A.eval (.tmp 30) = va 3 := hT 30 3 (by simp) rfl
          obtain rfl : k = 1 := by
            have h1 := hp ⟨3, .data⟩ (by simp) rfl 0 rfl
            have h2 := hb 1 5 rfl (by kernel_rfl)
            omega
          obtain ⟨hJ0, us, eus, hR⟩ := hJ
          have hb1 : Below w'.heap.size w' (w'.alloc (.cells us.toArray 28)) := (Below.refl _ _).alloc (Nat.le_refl _) _
          exact wp_buildOne wrP rfl x1 eus (Elt.len _ hR) (by decide) (by decide) ⟨_, rfl, ⟨_, us, rfl, hJ0.size, by simp only [World.alloc, Array.getElem?_push_size], Elt.weak _ (Elt.below hR hb1) fun k hk => ⟨hk.1, Nat.lt_of_lt_of_le hk.2 hb1.size⟩⟩, hb1⟩
        case o5 =>
          refine LnOp.line 1 rfl rfl (fun A va w' hF hT hJ hu hd => ?_)
          have e1 : A.eval (.tmp 28) = .slice wa d.writes.length wc := (hT 28 1 (by simp) rfl).trans (hd ⟨1, .data⟩ (by simp) rfl rfl)
          have x2 : A.eval (.tmp 31) = va 4 := hT 31 4 (by simp) rfl
          have y2 := hd ⟨4, .data⟩ (by simp) rfl rfl
          have hJ' := hJ
          obtain ⟨hJ0, _⟩ := hJ
          obtain ⟨g, us, eg, hg0, hgc, hgR⟩ : ∃ g, ∃ us : List Value, va 4 = .slice (some ⟨g, 0, none⟩) 1 1 ∧ (w5).heap.size ≤ g ∧ w'.heap[g]? = some (.cells us.toArray 28 (0, 0)) ∧ Elt.R Elt.wr (fun k => (w5).heap.size ≤ k ∧ k < w'.heap.size) w' x us := y2
          refine wp_appendL (E := Elt.but Elt.wr (BO)) (ys := [x]) wrP rfl e1 (hOw.below hJ0) (x2.trans eg) (fun j u hj => by rw [Addr.add_lit, World.cell?, hgc]; simpa using hj) (Flat.single (Elt.weak Elt.wr hgR fun k hk => ⟨hk, fun e => by have := hk.1; have := hBO.lt; omega⟩)) (fun k hk => ⟨Nat.le_trans hlo hk.1, hk.2, fun e => by have := hrW k e.symm; omega⟩) (Nat.le_trans hlo hJ0.size) (fun ad7 k7 cap7 w2 h2 hg h3 => ?_) (by simp; omega)
          obtain rfl : k7 = (d.writes ++ [x]).length := h2.len
          exact ⟨_, rfl, PshJ.app hJ' hBO h2 hg hbr h3, (Twb.refl (b := BO)).row hg⟩
        case o6 =>
          refine LnOp.side rfl (by kernel_rfl) (fun A va w' k hF hT hk hJ hb hu hp hd => ?_)
          have e1 : A.eval (.tmp 6) = .pointer (some ⟨BO, 0, none⟩) := hF 6 rfl
          exact wp_fieldN dlS rfl (e1) (by omega) ⟨_, rfl, rfl, Below.refl _ _⟩
        case o7 =>
          refine LnOp.line 2 rfl rfl (fun A va w' hF hT hJ hu hd => ?_)
          have e1 : A.eval (.tmp 33) = .pointer (some ⟨BO, 0 + 0, none⟩) := (hT 33 6 (by simp) rfl).trans (hd ⟨6, .data⟩ (by simp) rfl rfl)
          have x2 : A.eval (.tmp 32) = va 5 := hT 32 5 (by simp) rfl
          have hJ' := hJ
          obtain ⟨hJ0, ad7, c7, es, hOs, hBs, hn7⟩ := hJ
          refine wp_boxSet (j := 0) rfl (by kernel_rfl) e1 (x2.trans es) rfl rfl hBs (by simp) (fun w2 hg hB2 => ?_)
          exact ⟨_, rfl, PshJ.sto hJ' hOs hn7 hg hB2, (Twb.refl (r := Value.ownBlock (.slice wa d.writes.length wc))).box hg⟩
        case fin =>
          intro vs1 W9 hJ hG
          obtain ⟨htw, ad9, c9, hO9, hB9, hn9⟩ := hJ
          have g0 : vs1 0 = .pointer (some ⟨BO, 0 + 0, none⟩) := hG 0 (by decide) rfl
          have g1 : vs1 1 = .slice wa d.writes.length wc := hG 1 (by decide) rfl
          have g2 : vs1 2 = .agg #[.int .i64 x.table, .slice KA x.key.length KC, .bool x.gone, .slice VA x.val.length VC] := hG 2 (by decide) rfl
          have g6 : vs1 6 = .pointer (some ⟨BO, 0 + 0, none⟩) := hG 6 (by decide) rfl
          clear hG
          simp only [putAll, g0, g1, g2, g6]
          clear g0 g1 g2 g6
          go_simp
          have hBZ9 := htw.boxN hBZ (fun e => by have := hOw0 _ e.symm; omega) (by omega)
          have q9 : Below w.heap.size w W9 := htw.belowB q (fun k hk => by have := hOw0 k hk; omega) (by omega)
          have hap := hOm.apart2 (by decide) hOw
          have hOm9 := hOm.num2 (w' := W9) fun g hg => htw.block g (by have := hOm0 g hg; omega) (fun e => by
            rcases hap with h | h
            · rw [hg] at h; cases h
            · exact h (by rw [hg, e])) (by have := hOm0 g hg; omega)
          replace hO9 := hO9.unbut
          obtain ⟨L9, hL9⟩ : ∃ L9, L9 = (d.writes ++ [x]).length := ⟨_, rfl⟩
          simp only [List.set_cons_zero] at hB9
          rw [← hL9] at hO9 hB9
          replace hL9 := Lib.hid hL9
          have o0 := hB9.cell (i := 0) rfl
          have o1 := hB9.cell (i := 1) rfl
          clear hOw hOm hBO htw
          go_wp2_with (first | (refine wpList_boxStore (us := [.slice ad9 L9 c9, .slice ma d.marks.length mc]) (by kernel_rfl) rfl rfl rfl rfl rfl rfl hBZ9 rfl ?_; intro wd hgd hBd) | fail)
          have d0 := hBd.cell (i := 0) rfl
          have d1 := hBd.cell (i := 1) rfl
          obtain ⟨fs, hu, _⟩ := dlS.hu
          refine bodyPost_ret (v := .tuple #[.agg #[.slice ad9 L9 c9, .slice ma d.marks.length mc], .int .i64 0]) (by simp [results, Try.results11, go_sem, loadVar, isAgg, run_underlying hu, run_sizeOf' dlS.hs, loadCellsFrom, Addr.add, d0, d1]) rfl ?_
          rw [DlEnd, HK.out]
          have hL := hL9.out
          subst hL
          exact ⟨_, rfl, ⟨ad9, c9, ma, mc, rfl, (hO9.other hgd (by omega) (by omega)).rdS fun k hk hl => ⟨by omega, hl⟩, (hOm9.other hgd (by omega) (by omega)).rdS fun k hk hl => ⟨by omega, hl⟩⟩, q9.grown hgd q9.size fun k e => by injection e with e; omega⟩
    · have dm : decide (mayW x) = false := decide_eq_false hmay
      have HK := Lib.hid (show putD d x = (d, 1) by unfold putD; rw [if_neg (fun h => hmay h.2)])
      have o0 := hBO.cell (i := 0) rfl
      have o1 := hBO.cell (i := 1) rfl
      go_wp2_with (first | (refine wpList_boxStore (us := [.slice wa d.writes.length wc, .slice ma d.marks.length mc]) (by kernel_rfl) rfl rfl rfl rfl rfl rfl hBZ rfl ?_; intro wd hgd hBd) | fail)
      have d0 := hBd.cell (i := 0) rfl
      have d1 := hBd.cell (i := 1) rfl
      obtain ⟨fs, hu, _⟩ := dlS.hu
      refine bodyPost_ret (v := .tuple #[.agg #[.slice wa d.writes.length wc, .slice ma d.marks.length mc], .int .i64 1]) (by simp [results, Try.results11, go_sem, loadVar, isAgg, run_underlying hu, run_sizeOf' dlS.hs, loadCellsFrom, Addr.add, d0, d1]) rfl ?_
      rw [DlEnd, HK.out]
      exact ⟨_, rfl, ⟨wa, wc, ma, mc, rfl, (hOw.unbut.other hgd (by omega) (by omega)).rdS fun k hk hl => ⟨by omega, hl⟩, (hOm.other hgd (by omega) (by omega)).rdS fun k hk hl => ⟨by omega, hl⟩⟩, q.grown hgd q.size fun k e => by injection e with e; omega⟩
  · have dok : decide (okD d) = false := decide_eq_false hok
    have HK := Lib.hid (show putD d x = (d, 1) by unfold putD; rw [if_neg (fun h => hok h.1)])
    have o0 := hBO.cell (i := 0) rfl
    have o1 := hBO.cell (i := 1) rfl
    go_wp2_with (first | (refine wpList_boxStore (us := [.slice wa d.writes.length wc, .slice ma d.marks.length mc]) (by kernel_rfl) rfl rfl rfl rfl rfl rfl hBZ rfl ?_; intro wd hgd hBd) | fail)
    have d0 := hBd.cell (i := 0) rfl
    have d1 := hBd.cell (i := 1) rfl
    obtain ⟨fs, hu, _⟩ := dlS.hu
    refine bodyPost_ret (v := .tuple #[.agg #[.slice wa d.writes.length wc, .slice ma d.marks.length mc], .int .i64 1]) (by simp [results, Try.results11, go_sem, loadVar, isAgg, run_underlying hu, run_sizeOf' dlS.hs, loadCellsFrom, Addr.add, d0, d1]) rfl ?_
    rw [DlEnd, HK.out]
    exact ⟨_, rfl, ⟨wa, wc, ma, mc, rfl, (hOw.unbut.other hgd (by omega) (by omega)).rdS fun k hk hl => ⟨by omega, hl⟩, (hOm.other hgd (by omega) (by omega)).rdS fun k hk hl => ⟨by omega, hl⟩⟩, q.grown hgd q.size fun k e => by injection e with e; omega⟩
end Go.Proofs.Ytjbdkhddnblieaa
namespace Go.Proofs.Ytjbdkhddnblieaa
open Go.RowKit Go.Shelf
set_option maxRecDepth 100000 in
set_option maxHeartbeats 8000000 in
theorem rMark_any (w : World) {S : Nat → Prop} {v : Value} {d : Dl} (h : RdDl S w v d) (hs : smD d) :
    Calls Try.prog 13 #[v] w (DlEnd w (markD d)) := by
  have hd := h
  obtain ⟨a, c, a2, c2, rfl, hw, hm⟩ := h
  obtain ⟨W0, hW, q, bn, bz, hsz⟩ := boxes2 w 25 25 [.slice a d.writes.length c, .slice a2 d.marks.length c2] [.slice none 0 0, .slice none 0 0]
  have hs1 := hs.1
  have hs2 := hs.2.1
  go_enter Try.func13, Try.ntmps13
  go_upto_region 1 with (fail)
  rw [show (w.alloc (.cells #[.slice a d.writes.length c, .slice a2 d.marks.length c2] 25)).alloc (.cells #[.slice none 0 0, .slice none 0 0] 25) = W0 from hW.symm]
  clear hW
  have b0 := bn.cell (i := 0) rfl
  have b1 := bn.cell (i := 1) rfl
  go_wp2_with fail
  refine (rCopy_any W0 (hd.below q) hs).mono ?_
  rintro e w1 ⟨_, rfl, ⟨wa, wc, ma, mc, M, hM0, hM1, rfl, hOw, hOm, hMm⟩, hb1⟩
  have q1 := q.trans (hb1.mono q.size)
  have z1 := hb1.size
  have hOw0 := hOw.block_lt
  have hOm0 := hOm.block_lt
  replace hOw := hOw.but (b := w1.heap.size) (fun k _ hk => by omega)
  replace bn := bn.below hb1 bn.lt
  replace bz := bz.below hb1 bz.lt
  clear b0 b1
  go_upto_region 2 with (first | (refine wpList_boxNew (vs := [.slice none 0 0, .slice none 0 0]) (by kernel_rfl) rfl rfl ?_; intro w2 hb2 hB2) | (refine wpList_boxStore (us := [.slice wa d.writes.length wc, .slice ma d.marks.length mc]) (by kernel_rfl) rfl rfl rfl rfl rfl rfl hB2 rfl ?_; intro w3 hg3 hBO) | fail)
  go_simp
  have qb3 : Below w1.heap.size w1 w3 := hb2.grown hg3 hb2.size fun k hk => by injection hk with hk; omega
  have zO := hBO.lt
  obtain ⟨BO, eBO⟩ : ∃ BO, BO = w1.heap.size := ⟨_, rfl⟩
  rw [← eBO] at hBO zO hOw0 hOm0 hOw hM1
  rw [← eBO]
  have zBO : W0.heap.size ≤ BO := by omega
  replace q := q1.trans (qb3.mono q1.size)
  replace bn := bn.below qb3 bn.lt
  have hBZ := bz.below qb3 bz.lt
  replace hOw := hOw.below qb3
  replace hOm := hOm.below qb3
  clear hb2 hB2 hg3 qb3 q1 eBO bz hb1 z1
  have b0 := bn.cell (i := 0) rfl
  have b1 := bn.cell (i := 1) rfl
  go_wp2_with fail
  refine (rCheck_any w3 (hd.below q)).mono ?_
  rintro e w4 ⟨rfl, hb4⟩
  replace q := q.trans (hb4.mono q.size)
  replace bn := bn.below hb4 bn.lt
  replace hBO := hBO.below hb4 hBO.lt
  replace hBZ := hBZ.below hb4 hBZ.lt
  replace hOw := hOw.below hb4
  replace hOm := hOm.below hb4
  have z4 := hb4.size
  clear b0 b1 hb4
  by_cases hok : okD d
  · have dok : decide (okD d) = true := decide_eq_true hok
    have b0 := bn.cell (i := 0) rfl
    have b1 := bn.cell (i := 1) rfl
    by_cases hfull : d.marks.length = 4
    · have d20 : decide ((4 : Int) ≤ (d.marks.length : Int)) = true := decide_eq_true (by omega)
      have HK := Lib.hid (show markD d = (d, 80) by unfold markD; rw [if_pos hok, if_pos hfull])
      clear hfull
      have o0 := hBO.cell (i := 0) rfl
      have o1 := hBO.cell (i := 1) rfl
      go_wp2_with (first | (refine wpList_boxStore (us := [.slice wa d.writes.length wc, .slice ma d.marks.length mc]) (by kernel_rfl) rfl rfl rfl rfl rfl rfl hBZ rfl ?_; intro wd hgd hBd) | fail)
      have d0 := hBd.cell (i := 0) rfl
      have d1 := hBd.cell (i := 1) rfl
      obtain ⟨fs, hu, _⟩ := dlS.hu
      refine bodyPost_ret (v := .tuple #[.agg #[.slice wa d.writes.length wc, .slice ma d.marks.length mc], .int .i64 80]) (by simp [results, Try.results13, go_sem, loadVar, isAgg, run_underlying hu, run_sizeOf' dlS.hs, loadCellsFrom, Addr.add, d0, d1]) rfl ?_
      rw [DlEnd, HK.out]
      exact ⟨_, rfl, ⟨wa, wc, ma, mc, rfl, (hOw.unbut.other hgd (by omega) (by omega)).rdS fun k hk hl => ⟨by omega, hl⟩, (hOm.other hgd (by omega) (by omega)).rdS fun k hk hl => ⟨by omega, hl⟩⟩, q.grown hgd q.size fun k e => by injection e with e; omega⟩
    · have d20 : decide ((4 : Int) ≤ (d.marks.length : Int)) = false := decide_eq_false (by have := hok.2.1; omega)
      have HK := Lib.hid (show markD d = (⟨d.writes, d.marks ++ [(d.writes.length : Int)]⟩, 0) by unfold markD; rw [if_pos hok, if_neg hfull])
      have o0 := hBO.cell (i := 0) rfl
      have o1 := hBO.cell (i := 1) rfl
      have hap := hOm.apart2 (by decide) hOw
      have hal : Below w4.heap.size w4 (w4.alloc (.cells #[.int .i64 (d.writes.length : Int)] 3)) := (Below.refl _ _).alloc (Nat.le_refl _) _
      have hmr : Value.ownBlock (.slice ma d.marks.length mc) ≠ some BO := fun e => by have := hOm0 _ e; omega
      have hlo : W0.heap.size ≤ w4.heap.size + 1 := by omega
      go_upto_region 8 with (first
        | (at_builtin; refine wpList_appendL (E := Elt.int) (ys := [(d.writes.length : Int)]) inP rfl rfl rfl (hOm.below hal) rfl (cells_new w4 [.int .i64 (d.writes.length : Int)] 3) (Flat.single (E := Elt.int) (S := fun _ => False) ⟨rfl, by unfold W64; omega⟩) (fun k hk => hk.elim) (by simp; omega) ?_ (by simp; omega); intro ad9 L9 c9 w6 hO9 hg6 h36)
        | (refine wpList_boxSet (j := 1) rfl rfl rfl (by kernel_rfl) rfl rfl rfl rfl ((hBO.below hal hBO.lt).other hg6 hmr) (by simp) ?_; intro w7 hg7 hB7)
        | fail)
      go_simp
      have hL := hO9.len
      subst hL
      have hr6 : ∀ g, Value.ownBlock (.slice ma d.marks.length mc) = some g → W0.heap.size ≤ g ∧ g < M ∧ g < BO := fun g hg => by have := hOm0 g hg; have := hMm g hg; omega
      have hsz4 : (w4.alloc (.cells #[.int .i64 (d.writes.length : Int)] 3)).heap.size = w4.heap.size + 1 := World.size_alloc _ _
      have hn9 : Value.ownBlock (.slice ad9 (d.marks ++ [(d.writes.length : Int)]).length c9) ≠ some BO := by
        rcases h36 with e | e
        · rw [e]; exact hmr
        · rw [e, hsz4]; intro e2; injection e2 with e2; omega
      have hOw6 : OwnL Elt.wr 28 M M w6 (.slice wa d.writes.length wc) d.writes := by
        refine ((hOw.below hal).unbut).kept hg6.size fun k hk hl => hg6.block k hl fun e => ?_
        have := hr6 k e.symm
        omega
      have hOw7 : OwnL (Elt.but Elt.wr BO) 28 M M w7 (.slice wa d.writes.length wc) d.writes := by
        have hb6 : OwnL (Elt.but Elt.wr BO) 28 M M w6 (.slice wa d.writes.length wc) d.writes := by
          refine (hOw.below hal).kept hg6.size fun k hk hl => hg6.block k hl fun e => ?_
          have := hr6 k e.symm
          omega
        exact hb6.butOther hg7 fun e => by have := hOw0 _ e; omega
      have hO97 : OwnL Elt.int 3 W0.heap.size W0.heap.size w7 (.slice ad9 (d.marks ++ [(d.writes.length : Int)]).length c9) (d.marks ++ [(d.writes.length : Int)]) := hO9.num2 fun g hg => hg7.block g ((hO9.block_lt g hg).2) fun e => by injection e with e; exact hn9 (by rw [hg, e])
      have hz6 := hg6.size
      have hz7 := hg7.size
      have q7 : Below w.heap.size w w7 := ((q.trans (hal.mono q.size)).grown hg6 (by omega) (fun k e => by have := hr6 k e; omega)).grown hg7 (by omega) (fun k e => by injection e with e; omega)
      have hBZ7 : BoxN w7 (w.heap.size + 1) 25 [.slice none 0 0, .slice none 0 0] := ((hBZ.below hal hBZ.lt).other hg6 (fun e => by have := hr6 _ e; omega)).other hg7 (by simp; omega)
      obtain ⟨L9, hL9⟩ : ∃ L9, L9 = (d.marks ++ [(d.writes.length : Int)]).length := ⟨_, rfl⟩
      simp only [List.set_cons_zero, List.set_cons_succ] at hB7
      rw [← hL9] at hO97 hB7
      rw [← hL9]
      replace hL9 := Lib.hid hL9
      clear o0 o1 hOw hOw6 hO9 hn9 hOm
      have o0 := hB7.cell (i := 0) rfl
      have o1 := hB7.cell (i := 1) rfl
      go_wp2_with (first | (refine wpList_boxStore (us := [.slice wa d.writes.length wc, .slice ad9 L9 c9]) (by kernel_rfl) rfl rfl rfl rfl rfl rfl hBZ7 rfl ?_; intro wd hgd hBd) | fail)
      have d0 := hBd.cell (i := 0) rfl
      have d1 := hBd.cell (i := 1) rfl
      obtain ⟨fs, hu, _⟩ := dlS.hu
      refine bodyPost_ret (v := .tuple #[.agg #[.slice wa d.writes.length wc, .slice ad9 L9 c9], .int .i64 0]) (by simp [results, Try.results13, go_sem, loadVar, isAgg, run_underlying hu, run_sizeOf' dlS.hs, loadCellsFrom, Addr.add, d0, d1]) rfl ?_
      rw [DlEnd, HK.out]
      have hL := hL9.out
      subst hL
      exact ⟨_, rfl, ⟨wa, wc, ad9, c9, rfl, (hOw7.unbut.other hgd (by omega) (by omega)).rdS fun k hk hl => ⟨by omega, hl⟩, (hO97.other hgd (by omega) (by omega)).rdS fun k hk hl => ⟨by omega, hl⟩⟩, q7.grown hgd q7.size fun k e => by injection e with e; omega⟩
  · have dok : decide (okD d) = false := decide_eq_false hok
    have HK := Lib.hid (show markD d = (d, 1) by unfold markD; rw [if_neg hok])
    have o0 := hBO.cell (i := 0) rfl
    have o1 := hBO.cell (i := 1) rfl
    go_wp2_with (first | (refine wpList_boxStore (us := [.slice wa d.writes.length wc, .slice ma d.marks.length mc]) (by kernel_rfl) rfl rfl rfl rfl rfl rfl hBZ rfl ?_; intro wd hgd hBd) | fail)
    have d0 := hBd.cell (i := 0) rfl
    have d1 := hBd.cell (i := 1) rfl
    obtain ⟨fs, hu, _⟩ := dlS.hu
    refine bodyPost_ret (v := .tuple #[.agg #[.slice wa d.writes.length wc, .slice ma d.marks.length mc], .int .i64 1]) (by simp [results, Try.results13, go_sem, loadVar, isAgg, run_underlying hu, run_sizeOf' dlS.hs, loadCellsFrom, Addr.add, d0, d1]) rfl ?_
    rw [DlEnd, HK.out]
    exact ⟨_, rfl, ⟨wa, wc, ma, mc, rfl, (hOw.unbut.other hgd (by omega) (by omega)).rdS fun k hk hl => ⟨by omega, hl⟩, (hOm.other hgd (by omega) (by omega)).rdS fun k hk hl => ⟨by omega, hl⟩⟩, q.grown hgd q.size fun k e => by injection e with e; omega⟩
end Go.Proofs.Ytjbdkhddnblieaa
namespace Go.Proofs.Ytjbdkhddnblieaa
open Go.RowKit Go.Shelf
def bRn {α : Type} (E : Elt α) (B bz : Nat) (h : bz < B) (xs : List α) : SGn (fun A B => A.grownBy B (some bz)) :=
  ⟨fun V v => ∃ a c, v = .slice a xs.length c ∧ RdL E (fun k => B ≤ k ∧ k < V.heap.size) V (.slice a xs.length c) xs, fun _ _ _ ⟨a, c, e, hr⟩ hb => ⟨a, c, e, (hr.below hb).weak fun _ hk => ⟨hk.1, Nat.lt_of_lt_of_le hk.2 hb.size⟩⟩,
    fun _ _ _ ⟨a, c, e, hr⟩ hk => ⟨a, c, e, (hr.keep fun k hh => hk.block k hh.2 (fun e => by injection e with e; have := hh.1; omega)).weak fun _ hh => ⟨hh.1, Nat.lt_of_lt_of_le hh.2 hk.size⟩⟩⟩
def bDn (B bz : Nat) (h : bz < B) (d : Dl) : SGn (fun A B => A.grownBy B (some bz)) :=
  ⟨fun V v => RdDl (fun k => B ≤ k ∧ k < V.heap.size) V v d, fun _ _ _ hr hb => (hr.below hb).weak fun _ hk => ⟨hk.1, Nat.lt_of_lt_of_le hk.2 hb.size⟩,
    fun _ _ _ ⟨a, c, a2, c2, e, h1, h2⟩ hk => ⟨a, c, a2, c2, e, (h1.keep fun k hh => hk.block k hh.2 (fun e => by injection e with e; have := hh.1; omega)).weak fun _ hh => ⟨hh.1, Nat.lt_of_lt_of_le hh.2 hk.size⟩, (h2.keep fun k hh => hk.block k hh.2 (fun e => by injection e with e; have := hh.1; omega)).weak fun _ hh => ⟨hh.1, Nat.lt_of_lt_of_le hh.2 hk.size⟩⟩⟩
def BkrJ (B : Nat) (W : World) (bz : Nat) (d : Dl) : List Value → World → Prop
  | [], V => Below W.heap.size W V
  | _, V => W.grownBy V (some bz) ∧ ∃ a c a2 c2, BoxN V bz 25 [.slice a d.writes.length c, .slice a2 d.marks.length c2] ∧ RdL Elt.wr (fun k => B ≤ k ∧ k < V.heap.size) V (.slice a d.writes.length c) d.writes ∧ RdL Elt.int (fun k => B ≤ k ∧ k < V.heap.size) V (.slice a2 d.marks.length c2) d.marks
theorem BkrJ.below {B : Nat} {W : World} {bz : Nat} {d : Dl} : ∀ (l : List Value) (V V' : World), BkrJ B W bz d l V → Below V.heap.size V V' → BkrJ B W bz d l V'
  | [], _, _, h, hb => Below.trans h (hb.mono (Below.size h))
  | _ :: _, _, _, ⟨h, a, c, a2, c2, h0, h1, h2⟩, hb => ⟨grown_trans h (grown_below' hb _), a, c, a2, c2, h0.below hb h0.lt, (h1.below hb).weak fun _ hk => ⟨hk.1, Nat.lt_of_lt_of_le hk.2 hb.size⟩, (h2.below hb).weak fun _ hk => ⟨hk.1, Nat.lt_of_lt_of_le hk.2 hb.size⟩⟩
theorem BkrJ.grown {B : Nat} {W : World} {bz : Nat} {d : Dl} : ∀ {l : List Value} {V : World}, BkrJ B W bz d l V → W.grownBy V (some bz)
  | [], _, h => grown_below2 h rfl _
  | _ :: _, _, ⟨h, _⟩ => h
set_option maxRecDepth 100000 in
set_option maxHeartbeats 8000000 in
theorem rBack_any (w : World) {S : Nat → Prop} {v : Value} {d : Dl} {i : Int} (h : RdDl S w v d) (hs : smD d) :
    Calls Try.prog 15 #[v, .int .i64 i] w (DlEnd w (backD d i)) := by
  replace h : RdDl (· < w.heap.size) w v d := by
    obtain ⟨a, c, a2, c2, e, h1, h2⟩ := h
    exact ⟨a, c, a2, c2, e, h1.fit.weak fun _ hk => hk.2, h2.fit.weak fun _ hk => hk.2⟩
  have hd := h
  obtain ⟨a, c, a2, c2, rfl, hw, hm⟩ := h
  obtain ⟨W0, hW, q, bn, bz, hsz⟩ := boxes2 w 25 25 [.slice a d.writes.length c, .slice a2 d.marks.length c2] [.slice none 0 0, .slice none 0 0]
  have hs1 := hs.1
  have hs2 := hs.2.1
  go_enter Try.func15, Try.ntmps15
  go_upto_region 1 with (fail)
  rw [show (w.alloc (.cells #[.slice a d.writes.length c, .slice a2 d.marks.length c2] 25)).alloc (.cells #[.slice none 0 0, .slice none 0 0] 25) = W0 from hW.symm]
  clear hW
  have b0 := bn.cell (i := 0) rfl
  have b1 := bn.cell (i := 1) rfl
  go_wp2_with fail
  refine (rCopy_any W0 (hd.below q) hs).mono ?_
  rintro e w1 ⟨_, rfl, ⟨wa, wc, ma, mc, M, hM0, hM1, rfl, hOw, hOm, hMm⟩, hb1⟩
  have q1 := q.trans (hb1.mono q.size)
  have z1 := hb1.size
  have hOw0 := hOw.block_lt
  have hOm0 := hOm.block_lt
  replace hOw := hOw.but (b := w1.heap.size) (fun k _ hk => by omega)
  replace bn := bn.below hb1 bn.lt
  replace bz := bz.below hb1 bz.lt
  clear b0 b1
  go_upto_region 2 with (first | (refine wpList_boxNew (vs := [.slice none 0 0, .slice none 0 0]) (by kernel_rfl) rfl rfl ?_; intro w2 hb2 hB2) | (refine wpList_boxStore (us := [.slice wa d.writes.length wc, .slice ma d.marks.length mc]) (by kernel_rfl) rfl rfl rfl rfl rfl rfl hB2 rfl ?_; intro w3 hg3 hBO) | fail)
  go_simp
  have qb3 : Below w1.heap.size w1 w3 := hb2.grown hg3 hb2.size fun k hk => by injection hk with hk; omega
  have zO := hBO.lt
  obtain ⟨BO, eBO⟩ : ∃ BO, BO = w1.heap.size := ⟨_, rfl⟩
  rw [← eBO] at hBO zO hOw0 hOm0 hOw hM1
  rw [← eBO]
  have zBO : W0.heap.size ≤ BO := by omega
  replace q := q1.trans (qb3.mono q1.size)
  replace bn := bn.below qb3 bn.lt
  have hBZ := bz.below qb3 bz.lt
  replace hOw := hOw.below qb3
  replace hOm := hOm.below qb3
  clear hb2 hB2 hg3 qb3 q1 eBO bz hb1 z1
  have b0 := bn.cell (i := 0) rfl
  have b1 := bn.cell (i := 1) rfl
  go_wp2_with fail
  refine (rCheck_any w3 (hd.below q)).mono ?_
  rintro e w4 ⟨rfl, hb4⟩
  replace q := q.trans (hb4.mono q.size)
  replace bn := bn.below hb4 bn.lt
  replace hBO := hBO.below hb4 hBO.lt
  replace hBZ := hBZ.below hb4 hBZ.lt
  replace hOw := hOw.below hb4
  replace hOm := hOm.below hb4
  have z4 := hb4.size
  clear b0 b1 hb4
  have b0 := bn.cell (i := 0) rfl
  have b1 := bn.cell (i := 1) rfl
  by_cases hok : okD d
  · have dok : decide (okD d) = true := decide_eq_true hok
    by_cases hi0 : i < 0
    · have di : decide (i < 0) = true := decide_eq_true hi0
      have HK := Lib.hid (show backD d i = (d, 1) by unfold backD; rw [if_neg (fun h => by omega)])
      have o0 := hBO.cell (i := 0) rfl
      have o1 := hBO.cell (i := 1) rfl
      go_wp2_with (first | (refine wpList_boxStore (us := [.slice wa d.writes.length wc, .slice ma d.marks.length mc]) (by kernel_rfl) rfl rfl rfl rfl rfl rfl hBZ rfl ?_; intro wd hgd hBd) | fail)
      have d0 := hBd.cell (i := 0) rfl
      have d1 := hBd.cell (i := 1) rfl
      obtain ⟨fs, hu, _⟩ := dlS.hu
      refine bodyPost_ret (v := .tuple #[.agg #[.slice wa d.writes.length wc, .slice ma d.marks.length mc], .int .i64 1]) (by simp [results, Try.results15, go_sem, loadVar, isAgg, run_underlying hu, run_sizeOf' dlS.hs, loadCellsFrom, Addr.add, d0, d1]) rfl ?_
      rw [DlEnd, HK.out]
      exact ⟨_, rfl, ⟨wa, wc, ma, mc, rfl, (hOw.unbut.other hgd (by omega) (by omega)).rdS fun k hk hl => ⟨by omega, hl⟩, (hOm.other hgd (by omega) (by omega)).rdS fun k hk hl => ⟨by omega, hl⟩⟩, q.grown hgd q.size fun k e => by injection e with e; omega⟩
    · have di : decide (i < 0) = false := decide_eq_false hi0
      by_cases hi1 : i < (d.marks.length : Int)
      · have dj : decide ((d.marks.length : Int) ≤ i) = false := decide_eq_false (by omega)
        obtain ⟨n, rfl⟩ : ∃ n : Nat, i = (n : Int) := ⟨i.toNat, by omega⟩
        have hn : n < d.marks.length := by omega
        obtain ⟨mb, mo, rfl, hmb, c0, hmi⟩ := hm.num n hn
        have hmk := okM_get hok.2.2.2 hn
        obtain ⟨m, hm0⟩ : ∃ m : Nat, (m : Int) = d.marks[n] := ⟨d.marks[n].toNat, by omega⟩
        have HK := Lib.hid (show backD d (n : Int) = (⟨d.writes.take m, d.marks.take (n + 1)⟩, 0) by
          unfold backD
          rw [if_pos ⟨hok, by omega, hi1⟩, Int.toNat_natCast, List.getD_eq_getElem?_getD, List.getElem?_eq_getElem hn, Option.getD_some, ← hm0, Int.toNat_natCast])
        rw [← hm0] at c0 hmk
        have hmle : m ≤ d.writes.length := by omega
        have hml : (d.writes.take m).length = m := by rw [List.length_take]; omega
        have hnl : (d.marks.take (n + 1)).length = n + 1 := by rw [List.length_take]; omega
        have hn4 : n ≤ 1000000 := by omega
        have hOr : RdL Elt.wr (fun k => W0.heap.size ≤ k ∧ k < w4.heap.size) w4 (.slice wa d.writes.length wc) d.writes := hOw.unbut.rdS fun k hk hl => ⟨by omega, hl⟩
        have hOmr : RdL Elt.int (fun k => W0.heap.size ≤ k ∧ k < w4.heap.size) w4 (.slice ma d.marks.length mc) d.marks := hOm.rdS fun k hk hl => ⟨by omega, hl⟩
        have hcl := hOr.len.2.1
        have hcm := hOmr.len.2.1
        clear hm0
        go_upto_region 5 with (fail)
        clear b0 b1
        refine wp_region_lnl (K := fun A B => A.grownBy B (some (w.heap.size + 1))) (by kernel_rfl) (by kernel_rfl) [14] (by kernel_rfl) [lEq (.pointer (some ⟨BO, 0 + 0, none⟩)), lEq (.slice wa d.writes.length wc), lEq (.pointer (some ⟨w.heap.size, 0 + 1, none⟩)), lEq (.slice (some ⟨mb, mo, none⟩) d.marks.length c2), lEq (.int .i64 (n : Int)), lEq (.pointer (some ⟨mb, mo + n * 1, none⟩)), lEq (.int .i64 (m : Int)), bRn Elt.wr W0.heap.size (w.heap.size + 1) (by omega) (d.writes.take m), lEq (.pointer (some ⟨BO, 0 + 1, none⟩)), lEq (.slice ma d.marks.length mc), lEq (.int .i64 (n : Int)), lEq (.int .i64 ((n : Int) + 1)), bRn Elt.int W0.heap.size (w.heap.size + 1) (by omega) (d.marks.take (n + 1)), bDn W0.heap.size (w.heap.size + 1) (by omega) ⟨d.writes.take m, d.marks.take (n + 1)⟩, lAny, lEq (.int .i64 0)] (BkrJ W0.heap.size w4 (w.heap.size + 1) ⟨d.writes.take m, d.marks.take (n + 1)⟩) BkrJ.below (show Below w4.heap.size w4 w4 from Below.refl _ _)
          ⟨?o0, ?o1, ?o2, ?o3, ?o4, ?o5, ?o6, ?o7, ?o8, ?o9, ?o10, ?o11, ?o12, ?o13, ?o14, ?o15, trivial⟩ ?fin
        case o0 =>
          refine LnOp.side rfl (by kernel_rfl) (fun A va w' k hF hT hk hJ hb hu hp hd => ?_)
          have e1 : A.eval (.tmp 6) = .pointer (some ⟨BO, 0, none⟩) := hF 6 rfl
          exact wp_fieldN dlS rfl (e1) (by omega) ⟨_, rfl, rfl, Below.refl _ _⟩
        case o1 =>
          refine LnOp.side rfl (by kernel_rfl) (fun A va w' k hF hT hk hJ hb hu hp hd => ?_)
          have e1 : A.eval (.tmp 26) = .pointer (some ⟨BO, 0 + 0, none⟩) := (hT 26 0 (by simp) rfl).trans (hd ⟨0, .data⟩ (by simp) rfl rfl)
          exact wp_ld_slice (e := 28) rfl (e1) (by kernel_rfl) ((hBO.other (BkrJ.grown hJ) (by simp; omega)).cell (i := 0) rfl) ⟨_, rfl, rfl, Below.refl _ _⟩
        case o2 =>
          refine LnOp.side rfl (by kernel_rfl) (fun A va w' k hF hT hk hJ hb hu hp hd => ?_)
          have e1 : A.eval (.tmp 2) = .pointer (some ⟨w.heap.size, 0, none⟩) := hF 2 rfl
          exact wp_fieldN dlS rfl (e1) (by omega) ⟨_, rfl, rfl, Below.refl _ _⟩
        case o3 =>
          refine LnOp.side rfl (by kernel_rfl) (fun A va w' k hF hT hk hJ hb hu hp hd => ?_)
          have e1 : A.eval (.tmp 28) = .pointer (some ⟨w.heap.size, 0 + 1, none⟩) := (hT 28 2 (by simp) rfl).trans (hd ⟨2, .data⟩ (by simp) rfl rfl)
          exact wp_ld_slice (e := 3) rfl (e1) (by kernel_rfl) ((bn.other (BkrJ.grown hJ) (by simp)).cell (i := 1) rfl) ⟨_, rfl, rfl, Below.refl _ _⟩
        case o4 =>
          refine LnOp.side rfl (by kernel_rfl) (fun A va w' k hF hT hk hJ hb hu hp hd => ?_)
          have e1 : A.eval (.tmp 1) = .int .i64 (n : Int) := hF 1 rfl
          exact BigFrame.wp_move _ rfl ⟨_, rfl, e1, Below.refl _ _⟩
        case o5 =>
          refine LnOp.side rfl (by kernel_rfl) (fun A va w' k hF hT hk hJ hb hu hp hd => ?_)
          have e1 : A.eval (.tmp 29) = .slice (some ⟨mb, mo, none⟩) d.marks.length c2 := (hT 29 3 (by simp) rfl).trans (hd ⟨3, .data⟩ (by simp) rfl rfl)
          have e2 : A.eval (.tmp 30) = .int .i64 (n : Int) := (hT 30 4 (by simp) rfl).trans (hd ⟨4, .data⟩ (by simp) rfl rfl)
          exact wp_ixN (e := 3) rfl (by kernel_rfl) (by kernel_rfl) (e1) (e2) rfl (by omega) ⟨_, rfl, rfl, Below.refl _ _⟩
        case o6 =>
          refine LnOp.side rfl (by kernel_rfl) (fun A va w' k hF hT hk hJ hb hu hp hd => ?_)
          have e1 : A.eval (.tmp 31) = .pointer (some ⟨mb, mo + n * 1, none⟩) := (hT 31 5 (by simp) rfl).trans (hd ⟨5, .data⟩ (by simp) rfl rfl)
          exact wp_ld_int (k := .i64) rfl (e1) (by kernel_rfl) ((by simpa using ((cell_keep ((BkrJ.grown hJ).block mb (Nat.lt_of_lt_of_le hmb q.size) (fun e => by injection e with e; omega)) _).trans ((q.cell (p := ⟨mb, mo + n, none⟩) hmb).trans c0)))) ⟨_, rfl, rfl, Below.refl _ _⟩
        case o7 =>
          refine LnOp.side rfl (by kernel_rfl) (fun A va w' k hF hT hk hJ hb hu hp hd => ?_)
          have e1 : A.eval (.tmp 27) = .slice wa d.writes.length wc := (hT 27 1 (by simp) rfl).trans (hd ⟨1, .data⟩ (by simp) rfl rfl)
          have e2 : A.eval (.tmp 32) = .int .i64 (m : Int) := (hT 32 6 (by simp) rfl).trans (hd ⟨6, .data⟩ (by simp) rfl rfl)
          have hr := (hOr.keep fun k hk => (BkrJ.grown hJ).block k hk.2 (fun e => by injection e with e; have := hk.1; omega)).weak (S' := fun k => W0.heap.size ≤ k ∧ k < w'.heap.size) fun k hk => ⟨hk.1, Nat.lt_of_lt_of_le hk.2 (BkrJ.grown hJ).size⟩
          exact wp_sliceL wrP.toLsP rfl e1 hr rfl (congrArg some e2) (run_bounds_h _ (by omega)) (fun ad' c' h' => ⟨_, rfl, ⟨ad', c', by rw [hml]; rfl, by rw [hml]; simpa using h'⟩, Below.refl _ _⟩) (by omega) (by omega)
        case o8 =>
          refine LnOp.side rfl (by kernel_rfl) (fun A va w' k hF hT hk hJ hb hu hp hd => ?_)
          have e1 : A.eval (.tmp 6) = .pointer (some ⟨BO, 0, none⟩) := hF 6 rfl
          exact wp_fieldN dlS rfl (e1) (by omega) ⟨_, rfl, rfl, Below.refl _ _⟩
        case o9 =>
          refine LnOp.side rfl (by kernel_rfl) (fun A va w' k hF hT hk hJ hb hu hp hd => ?_)
          have e1 : A.eval (.tmp 34) = .pointer (some ⟨BO, 0 + 1, none⟩) := (hT 34 8 (by simp) rfl).trans (hd ⟨8, .data⟩ (by simp) rfl rfl)
          exact wp_ld_slice (e := 3) rfl (e1) (by kernel_rfl) ((hBO.other (BkrJ.grown hJ) (by simp; omega)).cell (i := 1) rfl) ⟨_, rfl, rfl, Below.refl _ _⟩
        case o10 =>
          refine LnOp.side rfl (by kernel_rfl) (fun A va w' k hF hT hk hJ hb hu hp hd => ?_)
          have e1 : A.eval (.tmp 1) = .int .i64 (n : Int) := hF 1 rfl
          exact BigFrame.wp_move _ rfl ⟨_, rfl, e1, Below.refl _ _⟩
        case o11 =>
          refine LnOp.side rfl (by kernel_rfl) (fun A va w' k hF hT hk hJ hb hu hp hd => ?_)
          have e1 : A.eval (.tmp 36) = .int .i64 (n : Int) := (hT 36 10 (by simp) rfl).trans (hd ⟨10, .data⟩ (by simp) rfl rfl)
          exact wp_addI rfl (e1) (rfl) (by omega) (by omega) ⟨_, rfl, rfl, Below.refl _ _⟩
        case o12 =>
          refine LnOp.side rfl (by kernel_rfl) (fun A va w' k hF hT hk hJ hb hu hp hd => ?_)
          have e1 : A.eval (.tmp 35) = .slice ma d.marks.length mc := (hT 35 9 (by simp) rfl).trans (hd ⟨9, .data⟩ (by simp) rfl rfl)
          have e2 : A.eval (.tmp 37) = .int .i64 ((n : Int) + 1) := (hT 37 11 (by simp) rfl).trans (hd ⟨11, .data⟩ (by simp) rfl rfl)
          have hr := (hOmr.keep fun k hk => (BkrJ.grown hJ).block k hk.2 (fun e => by injection e with e; have := hk.1; omega)).weak (S' := fun k => W0.heap.size ≤ k ∧ k < w'.heap.size) fun k hk => ⟨hk.1, Nat.lt_of_lt_of_le hk.2 (BkrJ.grown hJ).size⟩
          exact wp_sliceL inP.toLsP rfl e1 hr rfl (congrArg some e2) (run_bounds_h (h := n + 1) _ (by omega)) (fun ad' c' h' => ⟨_, rfl, ⟨ad', c', by rw [hnl]; rfl, by rw [hnl]; simpa using h'⟩, Below.refl _ _⟩) (by omega) (by omega)
        case o13 =>
          refine LnOp.side rfl (by kernel_rfl) (fun A va w' k hF hT hk hJ hb hu hp hd => ?_)
          have x1 : A.eval (.tmp 33) = va 7 := hT 33 7 (by simp) rfl
          have y1 := hd ⟨7, .data⟩ (by simp) rfl rfl
          have x2 : A.eval (.tmp 38) = va 12 := hT 38 12 (by simp) rfl
          have y2 := hd ⟨12, .data⟩ (by simp) rfl rfl
          obtain ⟨a7, c7, e7, h7⟩ := y1
          obtain ⟨a8, c8, e8, h8⟩ := y2
          exact wp_build2 dlS rfl (x1.trans e7) (x2.trans e8) rfl rfl ⟨_, rfl, ⟨a7, c7, a8, c8, rfl, h7, h8⟩, Below.refl _ _⟩
        case o14 =>
          refine LnOp.line 0 rfl rfl (fun A va w' hF hT hJ hu hd => ?_)
          have e1 : A.eval (.tmp 4) = .pointer (some ⟨w.heap.size + 1, 0, none⟩) := hF 4 rfl
          have x2 : A.eval (.tmp 39) = va 13 := hT 39 13 (by simp) rfl
          have y2 := hd ⟨13, .data⟩ (by simp) rfl rfl
          have hJ0 : Below w4.heap.size w4 w' := hJ
          obtain ⟨a7, c7, a8, c8, e7, h7, h8⟩ := y2
          refine wp_boxStore (us := [.slice a7 _ c7, .slice a8 _ c8]) (by kernel_rfl) rfl e1 (x2.trans e7) rfl (hBZ.below hJ0 (by omega)) rfl (fun w2 hg hB2 => ?_)
          exact ⟨_, rfl, ⟨(grown_below2 hJ0 rfl _).andThen hg (by simp), a7, c7, a8, c8, hB2, (h7.keep fun k hk => hg.block k hk.2 fun e => by injection e with e; have := hk.1; omega).weak fun k hk => ⟨hk.1, Nat.lt_of_lt_of_le hk.2 hg.size⟩, (h8.keep fun k hk => hg.block k hk.2 fun e => by injection e with e; have := hk.1; omega).weak fun k hk => ⟨hk.1, Nat.lt_of_lt_of_le hk.2 hg.size⟩⟩, hg⟩
        case o15 =>
          refine LnOp.side rfl (by kernel_rfl) (fun A va w' k hF hT hk hJ hb hu hp hd => ?_)
          exact BigFrame.wp_assign _ rfl ⟨_, rfl, rfl, Below.refl _ _⟩
        case fin =>
          intro vs1 W9 hJ hG
          obtain ⟨hg9, a9, c9, a8, c8, hB9, h7, h8⟩ := hJ
          have g15 : vs1 15 = .int .i64 0 := hG 15 (by decide) rfl
          clear hG
          simp only [putAll, g15]
          clear g15
          have d0 := hB9.cell (i := 0) rfl
          have d1 := hB9.cell (i := 1) rfl
          go_simp
          go_wp2_with fail
          obtain ⟨fs, hu, _⟩ := dlS.hu
          refine bodyPost_ret (v := .tuple #[.agg #[.slice a9 (d.writes.take m).length c9, .slice a8 (d.marks.take (n + 1)).length c8], .int .i64 0]) (by simp [results, Try.results15, go_sem, loadVar, isAgg, run_underlying hu, run_sizeOf' dlS.hs, loadCellsFrom, Addr.add, d0, d1]) rfl ?_
          rw [DlEnd, HK.out]
          exact ⟨_, rfl, ⟨a9, c9, a8, c8, rfl, h7.weak fun k hk => ⟨by omega, hk.2⟩, h8.weak fun k hk => ⟨by omega, hk.2⟩⟩, q.grown hg9 q.size fun k e => by injection e with e; omega⟩
      · have dj : decide ((d.marks.length : Int) ≤ i) = true := decide_eq_true (by omega)
        have HK := Lib.hid (show backD d i = (d, 1) by unfold backD; rw [if_neg (fun h => by omega)])
        have o0 := hBO.cell (i := 0) rfl
        have o1 := hBO.cell (i := 1) rfl
        go_wp2_with (first | (refine wpList_boxStore (us := [.slice wa d.writes.length wc, .slice ma d.marks.length mc]) (by kernel_rfl) rfl rfl rfl rfl rfl rfl hBZ rfl ?_; intro wd hgd hBd) | fail)
        have d0 := hBd.cell (i := 0) rfl
        have d1 := hBd.cell (i := 1) rfl
        obtain ⟨fs, hu, _⟩ := dlS.hu
        refine bodyPost_ret (v := .tuple #[.agg #[.slice wa d.writes.length wc, .slice ma d.marks.length mc], .int .i64 1]) (by simp [results, Try.results15, go_sem, loadVar, isAgg, run_underlying hu, run_sizeOf' dlS.hs, loadCellsFrom, Addr.add, d0, d1]) rfl ?_
        rw [DlEnd, HK.out]
        exact ⟨_, rfl, ⟨wa, wc, ma, mc, rfl, (hOw.unbut.other hgd (by omega) (by omega)).rdS fun k hk hl => ⟨by omega, hl⟩, (hOm.other hgd (by omega) (by omega)).rdS fun k hk hl => ⟨by omega, hl⟩⟩, q.grown hgd q.size fun k e => by injection e with e; omega⟩
  · have dok : decide (okD d) = false := decide_eq_false hok
    have HK := Lib.hid (show backD d i = (d, 1) by unfold backD; rw [if_neg (fun h => hok h.1)])
    have o0 := hBO.cell (i := 0) rfl
    have o1 := hBO.cell (i := 1) rfl
    go_wp2_with (first | (refine wpList_boxStore (us := [.slice wa d.writes.length wc, .slice ma d.marks.length mc]) (by kernel_rfl) rfl rfl rfl rfl rfl rfl hBZ rfl ?_; intro wd hgd hBd) | fail)
    have d0 := hBd.cell (i := 0) rfl
    have d1 := hBd.cell (i := 1) rfl
    obtain ⟨fs, hu, _⟩ := dlS.hu
    refine bodyPost_ret (v := .tuple #[.agg #[.slice wa d.writes.length wc, .slice ma d.marks.length mc], .int .i64 1]) (by simp [results, Try.results15, go_sem, loadVar, isAgg, run_underlying hu, run_sizeOf' dlS.hs, loadCellsFrom, Addr.add, d0, d1]) rfl ?_
    rw [DlEnd, HK.out]
    exact ⟨_, rfl, ⟨wa, wc, ma, mc, rfl, (hOw.unbut.other hgd (by omega) (by omega)).rdS fun k hk hl => ⟨by omega, hl⟩, (hOm.other hgd (by omega) (by omega)).rdS fun k hk hl => ⟨by omega, hl⟩⟩, q.grown hgd q.size fun k e => by injection e with e; omega⟩
end Go.Proofs.Ytjbdkhddnblieaa
namespace Go.Proofs.Ytjbdkhddnblieaa
open Go.RowKit Go.Shelf
set_option maxRecDepth 100000 in
set_option maxHeartbeats 16000000 in
theorem DeltaDoes_w (w : World) {cs0 cs1 : Array Value} {n : Int} {d : Dl} {x : Wr} (h0 : RdDl (· < w.heap.size) w (.agg cs0) d) (h1 : RdWr (· < w.heap.size) w (.agg cs1) x) (h2 : (Lit.int .i64 n).wf = true) :
    Calls Try.prog 3 #[.agg cs0, .agg cs1, .int .i64 n] w fun e w' => e = .returned (.bool true) ∧ Below w.heap.size w w' := by
  have _ := h2
  have hd := h0
  have hx := h1
  obtain ⟨a, c, a', c', e, hw, hm⟩ := h0
  injection e with e
  subst e
  obtain ⟨b, k, b', k', e, hlo, hhi, hxt⟩ := h1
  injection e with e
  subst e
  have hl1 : x.key.length ≤ 9223372036854775807 := by have := hlo.len; unfold maxLen at this; omega
  have hl2 : x.val.length ≤ 9223372036854775807 := by have := hhi.len; unfold maxLen at this; omega
  obtain ⟨W0, hW, q, xD, xX, hsz⟩ := boxes2 w 25 28 [.slice a d.writes.length c, .slice a' d.marks.length c'] [.int .i64 x.table, .slice b x.key.length k, .bool x.gone, .slice b' x.val.length k']
  have hD := hd.below q
  have hX := hx.below q
  clear hw hm hlo hhi hsz hd hx
  go_enter Try.func3, Try.ntmps3
  go_upto_region 1 with (fail)
  rw [show (w.alloc (.cells #[.slice a d.writes.length c, .slice a' d.marks.length c'] 25)).alloc (.cells #[.int .i64 x.table, .slice b x.key.length k, .bool x.gone, .slice b' x.val.length k'] 28) = W0 from hW.symm]
  clear hW
  go_wp2_with fail
  have hcl := awake8_any W0
  refine hcl.mono ?_
  rintro e w1 ⟨rfl, hb⟩
  clear hcl
  replace hD := hD.below hb
  replace hX := hX.below hb
  replace xD := xD.below hb xD.lt
  replace xX := xX.below hb xX.lt
  replace q := q.trans (hb.mono q.size)
  clear hb
  have b0 := xD.cell (i := 0) rfl
  have b1 := xD.cell (i := 1) rfl
  have x0 := xX.cell (i := 0) rfl
  have x1 := xX.cell (i := 1) rfl
  have x2 := xX.cell (i := 2) rfl
  have x3 := xX.cell (i := 3) rfl
  have hcl := few_any w1 hD
  go_wp2_with fail
  refine hcl.mono ?_
  rintro e w2 ⟨rfl, hb⟩
  clear hcl b0 b1 x0 x1 x2 x3
  replace hD := hD.below hb
  replace hX := hX.below hb
  replace xD := xD.below hb xD.lt
  replace xX := xX.below hb xX.lt
  replace q := q.trans (hb.mono q.size)
  clear hb
  have b0 := xD.cell (i := 0) rfl
  have b1 := xD.cell (i := 1) rfl
  have x0 := xX.cell (i := 0) rfl
  have x1 := xX.cell (i := 1) rfl
  have x2 := xX.cell (i := 2) rfl
  have x3 := xX.cell (i := 3) rfl
  by_cases hf : fewD d
  case neg =>
    rw [decide_eq_false hf]
    go_wp2_with fail
    go_ret
    exact ⟨rfl, q⟩
  rw [decide_eq_true hf]
  have hsd : smD d := ⟨by have := hf.1; omega, by have := hf.2.1; omega, fun y hy => by have := hf.2.2 y hy; omega⟩
  clear hf
  rcases Nat.lt_or_ge 100 x.key.length with g1 | g1
  · have d1 : decide ((100 : Int) < (x.key.length : Int)) = true := decide_eq_true (by omega)
    go_wp2_with fail
    go_ret
    exact ⟨rfl, q⟩
  have d1 : decide ((100 : Int) < (x.key.length : Int)) = false := decide_eq_false (by omega)
  rcases Nat.lt_or_ge 100 x.val.length with g2 | g2
  · have d2 : decide ((100 : Int) < (x.val.length : Int)) = true := decide_eq_true (by omega)
    go_wp2_with fail
    go_ret
    exact ⟨rfl, q⟩
  have d2 : decide ((100 : Int) < (x.val.length : Int)) = false := decide_eq_false (by omega)
  have hk1 : x.key.length ≤ 1000000 := by omega
  have hk2 : x.val.length ≤ 1000000 := by omega
  have hcl := dPut_any w2 hD hsd hX hk1 hk2
  go_wp2_with fail
  clear b0 b1 x0 x1 x2 x3 d1 d2 g1 g2 hl1 hl2 hcl
  have hcl := dPut_any w2 hD hsd hX hk1 hk2
  refine hcl.mono ?_
  rintro e w3 ⟨vA, rfl, ⟨aA, cA, mA, nA, rfl, rwA, rmA⟩, hb⟩
  clear hcl
  replace rwA : RdL Elt.wr (fun _ => True) _ _ _ := rwA.weak fun _ _ => trivial
  replace rmA : RdL Elt.int (fun _ => True) _ _ _ := rmA.weak fun _ _ => trivial
  replace hD := hD.below hb
  replace hX := hX.below hb
  replace xD := xD.below hb xD.lt
  replace xX := xX.below hb xX.lt
  replace q := q.trans (hb.mono q.size)
  clear hb
  go_upto_region 5 with (first | (refine wpList_boxNew (vs := [.slice none 0 0, .slice none 0 0]) (by kernel_rfl) rfl rfl ?_; intro wa hba hBa) | (refine wpList_boxStore (us := [.slice aA ((putD d x).1).writes.length cA, .slice mA ((putD d x).1).marks.length nA]) (by kernel_rfl) rfl rfl rfl rfl rfl rfl hBa rfl ?_; intro w4 hgw xA) | fail)
  try go_simp
  have hbw := hba.grown hgw hba.size fun k hk => by injection hk with hk; omega
  replace hD := hD.below hbw
  replace hX := hX.below hbw
  replace xD := xD.below hbw xD.lt
  replace xX := xX.below hbw xX.lt
  replace rwA := rwA.below hbw
  replace rmA := rmA.below hbw
  replace q := q.trans (hbw.mono q.size)
  clear hbw hgw hba hBa
  have b0 := xD.cell (i := 0) rfl
  have b1 := xD.cell (i := 1) rfl
  have x0 := xX.cell (i := 0) rfl
  have x1 := xX.cell (i := 1) rfl
  have x2 := xX.cell (i := 2) rfl
  have x3 := xX.cell (i := 3) rfl
  have hcl := rPut_any w4 hD hsd hX hk1 hk2
  go_wp2_with fail
  refine hcl.mono ?_
  rintro e w5 ⟨vB, rfl, ⟨aB, cB, mB, nB, rfl, rwB, rmB⟩, hb⟩
  clear hcl b0 b1 x0 x1 x2 x3
  replace rwB : RdL Elt.wr (fun _ => True) _ _ _ := rwB.weak fun _ _ => trivial
  replace rmB : RdL Elt.int (fun _ => True) _ _ _ := rmB.weak fun _ _ => trivial
  replace hD := hD.below hb
  replace hX := hX.below hb
  replace xD := xD.below hb xD.lt
  replace xX := xX.below hb xX.lt
  replace rwA := rwA.below hb
  replace rmA := rmA.below hb
  replace xA := xA.below hb xA.lt
  replace q := q.trans (hb.mono q.size)
  clear hb
  go_upto_region 6 with (first | (refine wpList_boxNew (vs := [.slice none 0 0, .slice none 0 0]) (by kernel_rfl) rfl rfl ?_; intro wa hba hBa) | (refine wpList_boxStore (us := [.slice aB ((putD d x).1).writes.length cB, .slice mB ((putD d x).1).marks.length nB]) (by kernel_rfl) rfl rfl rfl rfl rfl rfl hBa rfl ?_; intro w6 hgw xB) | fail)
  try go_simp
  have hbw := hba.grown hgw hba.size fun k hk => by injection hk with hk; omega
  replace hD := hD.below hbw
  replace hX := hX.below hbw
  replace xD := xD.below hbw xD.lt
  replace xX := xX.below hbw xX.lt
  replace rwA := rwA.below hbw
  replace rmA := rmA.below hbw
  replace xA := xA.below hbw xA.lt
  replace rwB := rwB.below hbw
  replace rmB := rmB.below hbw
  replace q := q.trans (hbw.mono q.size)
  clear hbw hgw hba hBa
  clear hX xX hk1 hk2
  have b0 := xD.cell (i := 0) rfl
  have b1 := xD.cell (i := 1) rfl
  have hcl := dMark_any w6 hD hsd
  go_wp2_with fail
  refine hcl.mono ?_
  rintro e w7 ⟨vC, rfl, ⟨aC, cC, mC, nC, rfl, rwC, rmC⟩, hb⟩
  clear hcl b0 b1
  replace rwC : RdL Elt.wr (fun _ => True) _ _ _ := rwC.weak fun _ _ => trivial
  replace rmC : RdL Elt.int (fun _ => True) _ _ _ := rmC.weak fun _ _ => trivial
  replace hD := hD.below hb
  replace xD := xD.below hb xD.lt
  replace rwA := rwA.below hb
  replace rmA := rmA.below hb
  replace xA := xA.below hb xA.lt
  replace rwB := rwB.below hb
  replace rmB := rmB.below hb
  replace xB := xB.below hb xB.lt
  replace q := q.trans (hb.mono q.size)
  clear hb
  go_upto_region 7 with (first | (refine wpList_boxNew (vs := [.slice none 0 0, .slice none 0 0]) (by kernel_rfl) rfl rfl ?_; intro wa hba hBa) | (refine wpList_boxStore (us := [.slice aC ((markD d).1).writes.length cC, .slice mC ((markD d).1).marks.length nC]) (by kernel_rfl) rfl rfl rfl rfl rfl rfl hBa rfl ?_; intro w8 hgw xC) | fail)
  try go_simp
  have hbw := hba.grown hgw hba.size fun k hk => by injection hk with hk; omega
  replace hD := hD.below hbw
  replace xD := xD.below hbw xD.lt
  replace rwA := rwA.below hbw
  replace rmA := rmA.below hbw
  replace xA := xA.below hbw xA.lt
  replace rwB := rwB.below hbw
  replace rmB := rmB.below hbw
  replace xB := xB.below hbw xB.lt
  replace rwC := rwC.below hbw
  replace rmC := rmC.below hbw
  replace q := q.trans (hbw.mono q.size)
  clear hbw hgw hba hBa
  have b0 := xD.cell (i := 0) rfl
  have b1 := xD.cell (i := 1) rfl
  have hcl := rMark_any w8 hD hsd
  go_wp2_with fail
  refine hcl.mono ?_
  rintro e w9 ⟨vG, rfl, ⟨aG, cG, mG, nG, rfl, rwG, rmG⟩, hb⟩
  clear hcl b0 b1
  replace rwG : RdL Elt.wr (fun _ => True) _ _ _ := rwG.weak fun _ _ => trivial
  replace rmG : RdL Elt.int (fun _ => True) _ _ _ := rmG.weak fun _ _ => trivial
  replace hD := hD.below hb
  replace xD := xD.below hb xD.lt
  replace rwA := rwA.below hb
  replace rmA := rmA.below hb
  replace xA := xA.below hb xA.lt
  replace rwB := rwB.below hb
  replace rmB := rmB.below hb
  replace xB := xB.below hb xB.lt
  replace rwC := rwC.below hb
  replace rmC := rmC.below hb
  replace xC := xC.below hb xC.lt
  replace q := q.trans (hb.mono q.size)
  clear hb
  go_upto_region 8 with (first | (refine wpList_boxNew (vs := [.slice none 0 0, .slice none 0 0]) (by kernel_rfl) rfl rfl ?_; intro wa hba hBa) | (refine wpList_boxStore (us := [.slice aG ((markD d).1).writes.length cG, .slice mG ((markD d).1).marks.length nG]) (by kernel_rfl) rfl rfl rfl rfl rfl rfl hBa rfl ?_; intro w10 hgw xG) | fail)
  try go_simp
  have hbw := hba.grown hgw hba.size fun k hk => by injection hk with hk; omega
  replace hD := hD.below hbw
  replace xD := xD.below hbw xD.lt
  replace rwA := rwA.below hbw
  replace rmA := rmA.below hbw
  replace xA := xA.below hbw xA.lt
  replace rwB := rwB.below hbw
  replace rmB := rmB.below hbw
  replace xB := xB.below hbw xB.lt
  replace rwC := rwC.below hbw
  replace rmC := rmC.below hbw
  replace xC := xC.below hbw xC.lt
  replace rwG := rwG.below hbw
  replace rmG := rmG.below hbw
  replace q := q.trans (hbw.mono q.size)
  clear hbw hgw hba hBa
  have b0 := xD.cell (i := 0) rfl
  have b1 := xD.cell (i := 1) rfl
  have hcl := dBack_any w10 (i := n) hD hsd
  go_wp2_with fail
  refine hcl.mono ?_
  rintro e w11 ⟨vE, rfl, ⟨aE, cE, mE, nE, rfl, rwE, rmE⟩, hb⟩
  clear hcl b0 b1
  replace rwE : RdL Elt.wr (fun _ => True) _ _ _ := rwE.weak fun _ _ => trivial
  replace rmE : RdL Elt.int (fun _ => True) _ _ _ := rmE.weak fun _ _ => trivial
  replace hD := hD.below hb
  replace xD := xD.below hb xD.lt
  replace rwA := rwA.below hb
  replace rmA := rmA.below hb
  replace xA := xA.below hb xA.lt
  replace rwB := rwB.below hb
  replace rmB := rmB.below hb
  replace xB := xB.below hb xB.lt
  replace rwC := rwC.below hb
  replace rmC := rmC.below hb
  replace xC := xC.below hb xC.lt
  replace rwG := rwG.below hb
  replace rmG := rmG.below hb
  replace xG := xG.below hb xG.lt
  replace q := q.trans (hb.mono q.size)
  clear hb
  go_upto_region 9 with (first | (refine wpList_boxNew (vs := [.slice none 0 0, .slice none 0 0]) (by kernel_rfl) rfl rfl ?_; intro wa hba hBa) | (refine wpList_boxStore (us := [.slice aE ((backD d n).1).writes.length cE, .slice mE ((backD d n).1).marks.length nE]) (by kernel_rfl) rfl rfl rfl rfl rfl rfl hBa rfl ?_; intro w12 hgw xE) | fail)
  try go_simp
  have hbw := hba.grown hgw hba.size fun k hk => by injection hk with hk; omega
  replace hD := hD.below hbw
  replace xD := xD.below hbw xD.lt
  replace rwA := rwA.below hbw
  replace rmA := rmA.below hbw
  replace xA := xA.below hbw xA.lt
  replace rwB := rwB.below hbw
  replace rmB := rmB.below hbw
  replace xB := xB.below hbw xB.lt
  replace rwC := rwC.below hbw
  replace rmC := rmC.below hbw
  replace xC := xC.below hbw xC.lt
  replace rwG := rwG.below hbw
  replace rmG := rmG.below hbw
  replace xG := xG.below hbw xG.lt
  replace rwE := rwE.below hbw
  replace rmE := rmE.below hbw
  replace q := q.trans (hbw.mono q.size)
  clear hbw hgw hba hBa
  have b0 := xD.cell (i := 0) rfl
  have b1 := xD.cell (i := 1) rfl
  have hcl := rBack_any w12 (i := n) hD hsd
  go_wp2_with fail
  refine hcl.mono ?_
  rintro e w13 ⟨vF, rfl, ⟨aF, cF, mF, nF, rfl, rwF, rmF⟩, hb⟩
  clear hcl b0 b1
  replace rwF : RdL Elt.wr (fun _ => True) _ _ _ := rwF.weak fun _ _ => trivial
  replace rmF : RdL Elt.int (fun _ => True) _ _ _ := rmF.weak fun _ _ => trivial
  replace hD := hD.below hb
  replace xD := xD.below hb xD.lt
  replace rwA := rwA.below hb
  replace rmA := rmA.below hb
  replace xA := xA.below hb xA.lt
  replace rwB := rwB.below hb
  replace rmB := rmB.below hb
  replace xB := xB.below hb xB.lt
  replace rwC := rwC.below hb
  replace rmC := rmC.below hb
  replace xC := xC.below hb xC.lt
  replace rwG := rwG.below hb
  replace rmG := rmG.below hb
  replace xG := xG.below hb xG.lt
  replace rwE := rwE.below hb
  replace rmE := rmE.below hb
  replace xE := xE.below hb xE.lt
  replace q := q.trans (hb.mono q.size)
  clear hb
  go_upto_region 10 with (first | (refine wpList_boxNew (vs := [.slice none 0 0, .slice none 0 0]) (by kernel_rfl) rfl rfl ?_; intro wa hba hBa) | (refine wpList_boxStore (us := [.slice aF ((backD d n).1).writes.length cF, .slice mF ((backD d n).1).marks.length nF]) (by kernel_rfl) rfl rfl rfl rfl rfl rfl hBa rfl ?_; intro w14 hgw xF) | fail)
  try go_simp
  have hbw := hba.grown hgw hba.size fun k hk => by injection hk with hk; omega
  replace hD := hD.below hbw
  replace xD := xD.below hbw xD.lt
  replace rwA := rwA.below hbw
  replace rmA := rmA.below hbw
  replace xA := xA.below hbw xA.lt
  replace rwB := rwB.below hbw
  replace rmB := rmB.below hbw
  replace xB := xB.below hbw xB.lt
  replace rwC := rwC.below hbw
  replace rmC := rmC.below hbw
  replace xC := xC.below hbw xC.lt
  replace rwG := rwG.below hbw
  replace rmG := rmG.below hbw
  replace xG := xG.below hbw xG.lt
  replace rwE := rwE.below hbw
  replace rmE := rmE.below hbw
  replace xE := xE.below hbw xE.lt
  replace rwF := rwF.below hbw
  replace rmF := rmF.below hbw
  replace q := q.trans (hbw.mono q.size)
  clear hbw hgw hba hBa
  have p0 := xA.cell (i := 0) rfl
  have p1 := xA.cell (i := 1) rfl
  have r0 := xB.cell (i := 0) rfl
  have r1 := xB.cell (i := 1) rfl
  have hcl := refSame_any _ ⟨aA, cA, mA, nA, rfl, rwA, rmA⟩ ⟨aB, cB, mB, nB, rfl, rwB, rmB⟩
  rw [decide_eq_true rfl] at hcl
  go_wp2_with fail
  refine hcl.mono ?_
  rintro e w15 ⟨rfl, hb⟩
  clear hcl p0 p1 r0 r1
  clear rwA rmA xA rwB rmB xB
  replace hD := hD.below hb
  replace xD := xD.below hb xD.lt
  replace rwC := rwC.below hb
  replace rmC := rmC.below hb
  replace xC := xC.below hb xC.lt
  replace rwG := rwG.below hb
  replace rmG := rmG.below hb
  replace xG := xG.below hb xG.lt
  replace rwE := rwE.below hb
  replace rmE := rmE.below hb
  replace xE := xE.below hb xE.lt
  replace rwF := rwF.below hb
  replace rmF := rmF.below hb
  replace xF := xF.below hb xF.lt
  replace q := q.trans (hb.mono q.size)
  clear hb
  have p0 := xC.cell (i := 0) rfl
  have p1 := xC.cell (i := 1) rfl
  have r0 := xG.cell (i := 0) rfl
  have r1 := xG.cell (i := 1) rfl
  have hcl := refSame_any _ ⟨aC, cC, mC, nC, rfl, rwC, rmC⟩ ⟨aG, cG, mG, nG, rfl, rwG, rmG⟩
  rw [decide_eq_true rfl] at hcl
  go_wp2_with fail
  refine hcl.mono ?_
  rintro e w16 ⟨rfl, hb⟩
  clear hcl p0 p1 r0 r1
  clear rwC rmC xC rwG rmG xG
  replace hD := hD.below hb
  replace xD := xD.below hb xD.lt
  replace rwE := rwE.below hb
  replace rmE := rmE.below hb
  replace xE := xE.below hb xE.lt
  replace rwF := rwF.below hb
  replace rmF := rmF.below hb
  replace xF := xF.below hb xF.lt
  replace q := q.trans (hb.mono q.size)
  clear hb
  have p0 := xE.cell (i := 0) rfl
  have p1 := xE.cell (i := 1) rfl
  have r0 := xF.cell (i := 0) rfl
  have r1 := xF.cell (i := 1) rfl
  have hcl := refSame_any _ ⟨aE, cE, mE, nE, rfl, rwE, rmE⟩ ⟨aF, cF, mF, nF, rfl, rwF, rmF⟩
  rw [decide_eq_true rfl] at hcl
  go_wp2_with fail
  refine hcl.mono ?_
  rintro e w17 ⟨rfl, hb⟩
  clear hcl p0 p1 r0 r1
  clear rwE rmE xE rwF rmF xF
  replace hD := hD.below hb
  replace xD := xD.below hb xD.lt
  replace q := q.trans (hb.mono q.size)
  clear hb
  go_upto_region 11 with (fail)
  have eC : ∀ args w, (callFunc 17 args).run Try.prog w = .ok (.enter 17 args) w := enters_of Try.func17 (by kernel_rfl) rfl
  have eR : ∀ args w, (callFunc 18 args).run Try.prog w = .ok (.enter 18 args) w := enters_of Try.func18 (by kernel_rfl) rfl
  refine wp_region_gsa (by kernel_rfl) (by kernel_rfl) [sgEq (.bool true), sgEq (.bool true), sgEq (.agg #[.slice a d.writes.length c, .slice a' d.marks.length c']), sgEq (.bool (decide (okD d))), sgEq (.agg #[.slice a d.writes.length c, .slice a' d.marks.length c']), sgEq (.bool (decide (okD d))), sgEq (.bool true), sgEq (.bool true), sgEq (.bool true), sgEq (.bool true), sgEq (.bool true), sgEq (.bool true), sgEq (.int .i64 ((putD d x).2 : Nat)), sgEq (.int .i64 ((putD d x).2 : Nat)), sgEq (.bool true), sgEq (.bool true), sgEq (.bool true), sgEq (.int .i64 ((markD d).2 : Nat)), sgEq (.int .i64 ((markD d).2 : Nat)), sgEq (.bool true), sgEq (.bool true), sgEq (.bool true), sgEq (.int .i64 ((backD d n).2 : Nat)), sgEq (.int .i64 ((backD d n).2 : Nat)), sgEq (.bool true), sgEq (.bool true), sgEq (.bool true)]
    ⟨?o0, ?o1, ?o2, ?o3, ?o4, ?o5, ?o6, ?o7, ?o8, ?o9, ?o10, ?o11, ?o12, ?o13, ?o14, ?o15, ?o16, ?o17, ?o18, ?o19, ?o20, ?o21, ?o22, ?o23, ?o24, ?o25, ?o26, trivial⟩ ?fin
  case o0 =>
    refine GdOp.plain rfl (fun A vs w' hF hT hb hd => ?_)
    have e1 : A.eval (.tmp 7) = .bool true := hF 7 rfl
    exact BigFrame.wp_move _ rfl ⟨_, rfl, e1, Below.refl _ _⟩
  case o1 =>
    refine GdOp.plain rfl (fun A vs w' hF hT hb hd => ?_)
    have e1 : A.eval (.tmp 85) = .bool true := (hT 85 0 (by simp) rfl).trans (hd ⟨0, .data⟩ (by simp) rfl)
    exact BigFrame.wp_move _ rfl ⟨_, rfl, e1, Below.refl _ _⟩
  case o2 =>
    refine GdOp.taken rfl ⟨_, _, rfl, rfl, by simp⟩ (by kernel_rfl) (fun w v h => h) (fun A vs w' hF hT hb hd => ?_)
    have e1 : A.eval (.tmp 3) = .pointer (some ⟨w.heap.size, 0, none⟩) := hF 3 rfl
    exact wp_load2 dlS rfl e1 ((xD.below hb xD.lt).cell (i := 0) rfl) ((xD.below hb xD.lt).cell (i := 1) rfl) ⟨_, rfl, rfl, Below.refl _ _⟩
  case o3 =>
    refine GdOp.taken rfl ⟨_, _, rfl, rfl, by simp⟩ (by kernel_rfl) (fun w v h => h) (fun A vs w' hF hT hb hd => ?_)
    have e1 : A.eval (.tmp 87) = .agg #[.slice a d.writes.length c, .slice a' d.marks.length c'] := (hT 87 2 (by simp) rfl).trans (hd ⟨2, .data⟩ (by simp) rfl)
    refine wp_callFn rfl eC (args := #[.agg #[.slice a d.writes.length c, .slice a' d.marks.length c']]) (by simp only [List.map_toArray, List.map_cons, List.map_nil, e1]) ((dCheck_any w' (hD.below hb)).mono ?_)
    rintro e w2 ⟨rfl, hb2⟩
    exact ⟨_, rfl, _, rfl, rfl, hb2⟩
  case o4 =>
    refine GdOp.taken rfl ⟨_, _, rfl, rfl, by simp⟩ (by kernel_rfl) (fun w v h => h) (fun A vs w' hF hT hb hd => ?_)
    have e1 : A.eval (.tmp 3) = .pointer (some ⟨w.heap.size, 0, none⟩) := hF 3 rfl
    exact wp_load2 dlS rfl e1 ((xD.below hb xD.lt).cell (i := 0) rfl) ((xD.below hb xD.lt).cell (i := 1) rfl) ⟨_, rfl, rfl, Below.refl _ _⟩
  case o5 =>
    refine GdOp.taken rfl ⟨_, _, rfl, rfl, by simp⟩ (by kernel_rfl) (fun w v h => h) (fun A vs w' hF hT hb hd => ?_)
    have e1 : A.eval (.tmp 89) = .agg #[.slice a d.writes.length c, .slice a' d.marks.length c'] := (hT 89 4 (by simp) rfl).trans (hd ⟨4, .data⟩ (by simp) rfl)
    refine wp_callFn rfl eR (args := #[.agg #[.slice a d.writes.length c, .slice a' d.marks.length c']]) (by simp only [List.map_toArray, List.map_cons, List.map_nil, e1]) ((rCheck_any w' (hD.below hb)).mono ?_)
    rintro e w2 ⟨rfl, hb2⟩
    exact ⟨_, rfl, _, rfl, rfl, hb2⟩
  case o6 =>
    refine GdOp.taken rfl ⟨_, _, rfl, rfl, by simp⟩ (by kernel_rfl) (fun w v h => h) (fun A vs w' hF hT hb hd => ?_)
    have e1 : A.eval (.tmp 88) = .bool (decide (okD d)) := (hT 88 3 (by simp) rfl).trans (hd ⟨3, .data⟩ (by simp) rfl)
    have e2 : A.eval (.tmp 90) = .bool (decide (okD d)) := (hT 90 5 (by simp) rfl).trans (hd ⟨5, .data⟩ (by simp) rfl)
    exact wp_eqlB (by kernel_rfl) rfl e1 e2 ⟨_, rfl, (congrArg Value.bool (beq_self_eq_true _)), Below.refl _ _⟩
  case o7 =>
    refine GdOp.plain rfl (fun A vs w' hF hT hb hd => ?_)
    have e1 : A.eval (.tmp 86) = .bool true := (hT 86 1 (by simp) rfl).trans (hd ⟨1, .data⟩ (by simp) rfl)
    have e2 : A.eval (.tmp 91) = .bool true := (hT 91 6 (by simp) rfl).trans (hd ⟨6, .data⟩ (by simp) rfl)
    exact wp_pk rfl e1 (fun _ => e2) (by simp) ⟨_, rfl, rfl, Below.refl _ _⟩
  case o8 =>
    refine GdOp.plain rfl (fun A vs w' hF hT hb hd => ?_)
    have e1 : A.eval (.tmp 92) = .bool true := (hT 92 7 (by simp) rfl).trans (hd ⟨7, .data⟩ (by simp) rfl)
    exact BigFrame.wp_move _ rfl ⟨_, rfl, e1, Below.refl _ _⟩
  case o9 =>
    refine GdOp.taken rfl ⟨_, _, rfl, rfl, by simp⟩ (by kernel_rfl) (fun w v h => h) (fun A vs w' hF hT hb hd => ?_)
    have e1 : A.eval (.tmp 20) = .bool true := hF 20 rfl
    exact BigFrame.wp_move _ rfl ⟨_, rfl, e1, Below.refl _ _⟩
  case o10 =>
    refine GdOp.plain rfl (fun A vs w' hF hT hb hd => ?_)
    have e1 : A.eval (.tmp 93) = .bool true := (hT 93 8 (by simp) rfl).trans (hd ⟨8, .data⟩ (by simp) rfl)
    have e2 : A.eval (.tmp 94) = .bool true := (hT 94 9 (by simp) rfl).trans (hd ⟨9, .data⟩ (by simp) rfl)
    exact wp_pk rfl e1 (fun _ => e2) (by simp) ⟨_, rfl, rfl, Below.refl _ _⟩
  case o11 =>
    refine GdOp.plain rfl (fun A vs w' hF hT hb hd => ?_)
    have e1 : A.eval (.tmp 95) = .bool true := (hT 95 10 (by simp) rfl).trans (hd ⟨10, .data⟩ (by simp) rfl)
    exact BigFrame.wp_move _ rfl ⟨_, rfl, e1, Below.refl _ _⟩
  case o12 =>
    refine GdOp.taken rfl ⟨_, _, rfl, rfl, by simp⟩ (by kernel_rfl) (fun w v h => h) (fun A vs w' hF hT hb hd => ?_)
    have e1 : A.eval (.tmp 9) = .int .i64 ((putD d x).2 : Nat) := hF 9 rfl
    exact BigFrame.wp_move _ rfl ⟨_, rfl, e1, Below.refl _ _⟩
  case o13 =>
    refine GdOp.taken rfl ⟨_, _, rfl, rfl, by simp⟩ (by kernel_rfl) (fun w v h => h) (fun A vs w' hF hT hb hd => ?_)
    have e1 : A.eval (.tmp 11) = .int .i64 ((putD d x).2 : Nat) := hF 11 rfl
    exact BigFrame.wp_move _ rfl ⟨_, rfl, e1, Below.refl _ _⟩
  case o14 =>
    refine GdOp.taken rfl ⟨_, _, rfl, rfl, by simp⟩ (by kernel_rfl) (fun w v h => h) (fun A vs w' hF hT hb hd => ?_)
    have e1 : A.eval (.tmp 97) = .int .i64 ((putD d x).2 : Nat) := (hT 97 12 (by simp) rfl).trans (hd ⟨12, .data⟩ (by simp) rfl)
    have e2 : A.eval (.tmp 98) = .int .i64 ((putD d x).2 : Nat) := (hT 98 13 (by simp) rfl).trans (hd ⟨13, .data⟩ (by simp) rfl)
    exact wp_eqlI rfl e1 e2 ⟨_, rfl, (congrArg Value.bool (decide_eq_true rfl)), Below.refl _ _⟩
  case o15 =>
    refine GdOp.plain rfl (fun A vs w' hF hT hb hd => ?_)
    have e1 : A.eval (.tmp 96) = .bool true := (hT 96 11 (by simp) rfl).trans (hd ⟨11, .data⟩ (by simp) rfl)
    have e2 : A.eval (.tmp 99) = .bool true := (hT 99 14 (by simp) rfl).trans (hd ⟨14, .data⟩ (by simp) rfl)
    exact wp_pk rfl e1 (fun _ => e2) (by simp) ⟨_, rfl, rfl, Below.refl _ _⟩
  case o16 =>
    refine GdOp.plain rfl (fun A vs w' hF hT hb hd => ?_)
    have e1 : A.eval (.tmp 100) = .bool true := (hT 100 15 (by simp) rfl).trans (hd ⟨15, .data⟩ (by simp) rfl)
    exact BigFrame.wp_move _ rfl ⟨_, rfl, e1, Below.refl _ _⟩
  case o17 =>
    refine GdOp.taken rfl ⟨_, _, rfl, rfl, by simp⟩ (by kernel_rfl) (fun w v h => h) (fun A vs w' hF hT hb hd => ?_)
    have e1 : A.eval (.tmp 13) = .int .i64 ((markD d).2 : Nat) := hF 13 rfl
    exact BigFrame.wp_move _ rfl ⟨_, rfl, e1, Below.refl _ _⟩
  case o18 =>
    refine GdOp.taken rfl ⟨_, _, rfl, rfl, by simp⟩ (by kernel_rfl) (fun w v h => h) (fun A vs w' hF hT hb hd => ?_)
    have e1 : A.eval (.tmp 15) = .int .i64 ((markD d).2 : Nat) := hF 15 rfl
    exact BigFrame.wp_move _ rfl ⟨_, rfl, e1, Below.refl _ _⟩
  case o19 =>
    refine GdOp.taken rfl ⟨_, _, rfl, rfl, by simp⟩ (by kernel_rfl) (fun w v h => h) (fun A vs w' hF hT hb hd => ?_)
    have e1 : A.eval (.tmp 102) = .int .i64 ((markD d).2 : Nat) := (hT 102 17 (by simp) rfl).trans (hd ⟨17, .data⟩ (by simp) rfl)
    have e2 : A.eval (.tmp 103) = .int .i64 ((markD d).2 : Nat) := (hT 103 18 (by simp) rfl).trans (hd ⟨18, .data⟩ (by simp) rfl)
    exact wp_eqlI rfl e1 e2 ⟨_, rfl, (congrArg Value.bool (decide_eq_true rfl)), Below.refl _ _⟩
  case o20 =>
    refine GdOp.plain rfl (fun A vs w' hF hT hb hd => ?_)
    have e1 : A.eval (.tmp 101) = .bool true := (hT 101 16 (by simp) rfl).trans (hd ⟨16, .data⟩ (by simp) rfl)
    have e2 : A.eval (.tmp 104) = .bool true := (hT 104 19 (by simp) rfl).trans (hd ⟨19, .data⟩ (by simp) rfl)
    exact wp_pk rfl e1 (fun _ => e2) (by simp) ⟨_, rfl, rfl, Below.refl _ _⟩
  case o21 =>
    refine GdOp.plain rfl (fun A vs w' hF hT hb hd => ?_)
    have e1 : A.eval (.tmp 105) = .bool true := (hT 105 20 (by simp) rfl).trans (hd ⟨20, .data⟩ (by simp) rfl)
    exact BigFrame.wp_move _ rfl ⟨_, rfl, e1, Below.refl _ _⟩
  case o22 =>
    refine GdOp.taken rfl ⟨_, _, rfl, rfl, by simp⟩ (by kernel_rfl) (fun w v h => h) (fun A vs w' hF hT hb hd => ?_)
    have e1 : A.eval (.tmp 17) = .int .i64 ((backD d n).2 : Nat) := hF 17 rfl
    exact BigFrame.wp_move _ rfl ⟨_, rfl, e1, Below.refl _ _⟩
  case o23 =>
    refine GdOp.taken rfl ⟨_, _, rfl, rfl, by simp⟩ (by kernel_rfl) (fun w v h => h) (fun A vs w' hF hT hb hd => ?_)
    have e1 : A.eval (.tmp 19) = .int .i64 ((backD d n).2 : Nat) := hF 19 rfl
    exact BigFrame.wp_move _ rfl ⟨_, rfl, e1, Below.refl _ _⟩
  case o24 =>
    refine GdOp.taken rfl ⟨_, _, rfl, rfl, by simp⟩ (by kernel_rfl) (fun w v h => h) (fun A vs w' hF hT hb hd => ?_)
    have e1 : A.eval (.tmp 107) = .int .i64 ((backD d n).2 : Nat) := (hT 107 22 (by simp) rfl).trans (hd ⟨22, .data⟩ (by simp) rfl)
    have e2 : A.eval (.tmp 108) = .int .i64 ((backD d n).2 : Nat) := (hT 108 23 (by simp) rfl).trans (hd ⟨23, .data⟩ (by simp) rfl)
    exact wp_eqlI rfl e1 e2 ⟨_, rfl, (congrArg Value.bool (decide_eq_true rfl)), Below.refl _ _⟩
  case o25 =>
    refine GdOp.plain rfl (fun A vs w' hF hT hb hd => ?_)
    have e1 : A.eval (.tmp 106) = .bool true := (hT 106 21 (by simp) rfl).trans (hd ⟨21, .data⟩ (by simp) rfl)
    have e2 : A.eval (.tmp 109) = .bool true := (hT 109 24 (by simp) rfl).trans (hd ⟨24, .data⟩ (by simp) rfl)
    exact wp_pk rfl e1 (fun _ => e2) (by simp) ⟨_, rfl, rfl, Below.refl _ _⟩
  case o26 =>
    refine GdOp.plain rfl (fun A vs w' hF hT hb hd => ?_)
    have e1 : A.eval (.tmp 110) = .bool true := (hT 110 25 (by simp) rfl).trans (hd ⟨25, .data⟩ (by simp) rfl)
    exact BigFrame.wp_assign _ rfl ⟨_, rfl, e1, Below.refl _ _⟩
  case fin =>
    intro A vs w' hA hb hG
    have e6 : A.eval (.tmp 6) = .bool true := (hA.2.2.2 6 26 (by simp) rfl).trans (hG 26 (by decide))
    have hdf : A.defers = [] := hA.1
    clear hG hA
    go_wp2
    refine bodyPost_ret (v := .bool true) ?_ hdf ⟨rfl, q.trans (hb.mono q.size)⟩
    rw [← e6]
    exact results_tmp rfl _ _ _
end Go.Proofs.Ytjbdkhddnblieaa
namespace Go.Proofs.Ytjbdkhddnblieaa
open Go.RowKit Go.Shelf
theorem findW_at {d : Dl} {p : Plc} {j : Nat} (hok : okD d) (hlt : j < d.writes.length) (hno : ∀ y ∈ d.writes.drop (j + 1), y.plc ≠ p) (e : d.writes[j].plc = p) : findD d p = some d.writes[j] := by
  have hr : d.writes.reverse = (d.writes.drop (j + 1)).reverse ++ d.writes[j] :: (d.writes.take j).reverse := by
    have h := congrArg List.reverse (List.take_append_drop j d.writes)
    rw [List.drop_eq_getElem_cons hlt] at h
    rw [← h]; simp
  unfold findD findW
  rw [if_pos hok, hr, findE_app (fun y hy => hno y (List.mem_reverse.1 hy)), findE_cons, if_pos e]
set_option maxRecDepth 100000 in
set_option maxHeartbeats 8000000 in
theorem rFind_any (w : World) {S S2 : Nat → Prop} {v : Value} {d : Dl} {t : Int} {a0 : Option Addr} {n0 c0 : Nat} {key : List UInt8} (h : RdDl S w v d) (hs : smD d) (hk : RdS S2 w (.slice a0 n0 c0) key) :
    Calls Try.prog 21 #[v, .int .i64 t, .slice a0 n0 c0] w (FndEnd w (findD d ⟨t, key⟩)) := by
  have hd := h
  obtain ⟨a, c, a2, c2, rfl, hw, hm⟩ := h
  obtain ⟨_, _, hcm⟩ := hw.len
  have hlm : d.writes.length ≤ 9223372036854775807 := by unfold maxLen at hcm; omega
  obtain ⟨W0, hW, q, bn, bz, hsz⟩ := boxes2 w 25 28 [.slice a d.writes.length c, .slice a2 d.marks.length c2] [.int .i64 0, .slice none 0 0, .bool false, .slice none 0 0]
  have hszl : w.heap.size + 1 < W0.heap.size := by omega
  clear hsz
  go_enter Try.func21, Try.ntmps21
  go_upto_region 1 with (fail)
  rw [show (w.alloc (.cells #[.slice a d.writes.length c, .slice a2 d.marks.length c2] 25)).alloc (.cells #[.int .i64 0, .slice none 0 0, .bool false, .slice none 0 0] 28) = W0 from hW.symm]
  clear hW
  have b0 := bn.cell (i := 0) rfl
  have b1 := bn.cell (i := 1) rfl
  go_wp2_with fail
  refine (rCheck_any W0 (hd.below q)).mono ?_
  rintro e w1 ⟨rfl, hb1⟩
  have z1 := hb1.size
  replace q := q.trans (hb1.mono q.size)
  replace bn := bn.below hb1 bn.lt
  replace bz := bz.below hb1 bz.lt
  clear b0 b1 hb1
  have b0 := bn.cell (i := 0) rfl
  by_cases hok : okD d
  case neg =>
    have dok : decide (okD d) = false := decide_eq_false hok
    have HK := Lib.hid (show findD d ⟨t, key⟩ = none from if_neg hok)
    go_upto_region 3 with (fail)
    go_loopw [9] (fun _ wr => wr = w1) (fun _ _ => 0)
    case atStart => exact rfl
    case round =>
      obtain rfl := hrel
      go_wp2_with (first | (refine wpList_boxStore (us := [.int .i64 0, .slice none 0 0, .bool false, .slice none 0 0]) (by kernel_rfl) rfl rfl rfl rfl rfl rfl bz rfl ?_; intro w5 hg5 hB5) | fail)
      have c0 := hB5.cell (i := 0) rfl
      have c1 := hB5.cell (i := 1) rfl
      have c2 := hB5.cell (i := 2) rfl
      have c3 := hB5.cell (i := 3) rfl
      obtain ⟨fs, hu, _⟩ := wrS.hu
      refine bodyPost_ret (v := .tuple #[.agg #[.int .i64 0, .slice none 0 0, .bool false, .slice none 0 0], .bool false]) (by simp [results, Try.results21, go_sem, loadVar, isAgg, run_underlying hu, run_sizeOf' wrS.hs, loadCellsFrom, Addr.add, c0, c1, c2, c3]) rfl ?_
      rw [FndEnd, HK.out]
      exact ⟨_, rfl, ⟨none, 0, none, 0, rfl, RdS.nil _ _, RdS.nil _ _, by unfold W64; decide⟩, q.grown hg5 q.size fun k e => by injection e with e; omega⟩
  case pos =>
  have dok : decide (okD d) = true := decide_eq_true hok
  go_upto_region 3 with (fail)
  go_loopw [9] (fun iv wr => ∃ (k : Nat) (z : Int), iv = .int .i64 z ∧ z = (k : Int) - 1 ∧ k ≤ d.writes.length ∧ (∀ y ∈ d.writes.drop k, y.plc ≠ ⟨t, key⟩) ∧ Below w.heap.size w wr ∧ BoxN wr w.heap.size 25 [.slice a d.writes.length c, .slice a2 d.marks.length c2] ∧ BoxN wr (w.heap.size + 1) 28 [.int .i64 0, .slice none 0 0, .bool false, .slice none 0 0])
    (fun i _ => (intOf i + 1).toNat)
  case atStart => exact ⟨d.writes.length, (d.writes.length : Int) - 1, by go_num, rfl, Nat.le_refl _, by simp, q, bn, bz⟩
  case round =>
    clear q bn bz b0
    obtain ⟨k, z, rfl, hz, hkl, hno, q, bn, bz⟩ := hrel
    have b0 := bn.cell (i := 0) rfl
    cases k with
    | zero =>
      obtain rfl : z = -1 := by omega
      have HK := Lib.hid (show findD d ⟨t, key⟩ = none by
        unfold findD findW
        rw [if_pos hok]
        exact findE_none.2 fun y hy => hno y (by simpa using hy))
      clear hno hz
      go_wp2_with (first | (refine wpList_boxStore (us := [.int .i64 0, .slice none 0 0, .bool false, .slice none 0 0]) (by kernel_rfl) rfl rfl rfl rfl rfl rfl bz rfl ?_; intro w5 hg5 hB5) | fail)
      have c0 := hB5.cell (i := 0) rfl
      have c1 := hB5.cell (i := 1) rfl
      have c2 := hB5.cell (i := 2) rfl
      have c3 := hB5.cell (i := 3) rfl
      obtain ⟨fs, hu, _⟩ := wrS.hu
      refine bodyPost_ret (v := .tuple #[.agg #[.int .i64 0, .slice none 0 0, .bool false, .slice none 0 0], .bool false]) (by simp [results, Try.results21, go_sem, loadVar, isAgg, run_underlying hu, run_sizeOf' wrS.hs, loadCellsFrom, Addr.add, c0, c1, c2, c3]) rfl ?_
      rw [FndEnd, HK.out]
      exact ⟨_, rfl, ⟨none, 0, none, 0, rfl, RdS.nil _ _, RdS.nil _ _, by unfold W64; decide⟩, q.grown hg5 q.size fun k e => by injection e with e; omega⟩
    | succ j =>
      obtain rfl : z = (j : Int) := by omega
      clear hz
      have hlt : j < d.writes.length := hkl
      obtain ⟨b, off, KA, KC, VA, VC, rfl, hbw, g0, g1, g2, g3, hk1, hk2, hw64⟩ := (hw.below q).wr j hlt
      obtain ⟨hx1, hx2⟩ := hs.2.2 _ (List.getElem_mem hlt)
      have hfa := fun hno e => Lib.hid (findW_at (p := ⟨t, key⟩) hok hlt hno e)
      obtain ⟨x, ex⟩ : ∃ x, x = d.writes[j] := ⟨_, rfl⟩
      rw [← ex] at g0 g1 g2 g3 hk1 hk2 hw64 hx1 hx2 hfa
      have hx : RdWr S wr (.agg #[.int .i64 x.table, .slice KA x.key.length KC, .bool x.gone, .slice VA x.val.length VC]) x := ⟨KA, KC, VA, VC, rfl, hk1, hk2, hw64⟩
      have r1 := hk1.rd
      have r2 := (hk.below q).rd
      by_cases e1 : x.table = t
      · by_cases e2 : x.key = key
        · have HK := hfa hno (by rw [← e1, ← e2]; rfl)
          have d1 : (x.table == t) = true := beq_iff_eq.2 e1
          have d11 : decide (x.table = t) = true := decide_eq_true e1
          have d2 : ((strOf x.key).toList == (strOf key).toList) = true := str_eqD.trans (decide_eq_true e2)
          clear hfa hno e1 e2 ex
          go_upto_region 5 with (fail)
          refine wp_region_quiet_lit (by kernel_rfl) (by kernel_rfl) ?_
          repeat (first | go_big_quiet_step (fail) | (go_big_quiet_want; refine quiet_conv byP rfl rfl r1 ?_; go_big_quiet_on; go_simp) | (go_big_quiet_want; refine quiet_conv byP rfl rfl r2 ?_; go_big_quiet_on; go_simp))
          first | (refine wpQuiet_nil ?_; intro _ hw'; obtain ⟨nq, hw''⟩ := hw'; subst hw'') | intro nq
          go_wp2_with fail
          refine (rWrite_any _ (show RdWr S (wr.drewN nq) _ x from hx) hx1 hx2).mono ?_
          rintro e w2 ⟨v2, rfl, ⟨ka, kc, va, vc, rfl, hk4, hv4, ht4⟩, hb2⟩
          replace hb2 : Below wr.heap.size wr w2 := (Go.Proofs.Ytjbdkhddnblieaa.Below.drewN (Below.refl wr.heap.size wr) nq).trans hb2
          have bz2 := bz.below hb2 bz.lt
          have hzq := q.size
          replace hk4 : RdS (fun k => wr.heap.size ≤ k ∧ k < w2.heap.size) w2 (.slice ka x.key.length kc) x.key := hk4
          replace hv4 : RdS (fun k => wr.heap.size ≤ k ∧ k < w2.heap.size) w2 (.slice va x.val.length vc) x.val := hv4
          have hzl := bz.lt
          go_wp2_with (first | (refine wpList_boxStore (us := [.int .i64 x.table, .slice ka x.key.length kc, .bool x.gone, .slice va x.val.length vc]) (by kernel_rfl) rfl rfl rfl rfl rfl rfl bz2 rfl ?_; intro w5 hg5 hB5) | fail)
          have c0 := hB5.cell (i := 0) rfl
          have c1 := hB5.cell (i := 1) rfl
          have c2 := hB5.cell (i := 2) rfl
          have c3 := hB5.cell (i := 3) rfl
          obtain ⟨fs, hu, _⟩ := wrS.hu
          refine bodyPost_ret (v := .tuple #[.agg #[.int .i64 x.table, .slice ka x.key.length kc, .bool x.gone, .slice va x.val.length vc], .bool true]) (by simp [results, Try.results21, go_sem, loadVar, isAgg, run_underlying hu, run_sizeOf' wrS.hs, loadCellsFrom, Addr.add, c0, c1, c2, c3]) rfl ?_
          rw [FndEnd, HK.out]
          have hk0 : ∀ k, wr.heap.size ≤ k ∧ k < w2.heap.size → w5.heap[k]? = w2.heap[k]? := fun k hk => hg5.block k hk.2 fun e => by injection e with e; omega
          exact ⟨_, rfl, ⟨ka, kc, va, vc, rfl, (hk4.keep hk0).weak fun k hk => ⟨by omega, Nat.lt_of_lt_of_le hk.2 hg5.size⟩, (hv4.keep hk0).weak fun k hk => ⟨by omega, Nat.lt_of_lt_of_le hk.2 hg5.size⟩, ht4⟩, (q.trans (hb2.mono q.size)).grown hg5 (Nat.le_trans q.size hb2.size) fun k e => by injection e with e; omega⟩
        · have d1 : (x.table == t) = true := beq_iff_eq.2 e1
          have d11 : decide (x.table = t) = true := decide_eq_true e1
          have d2 : ((strOf x.key).toList == (strOf key).toList) = false := str_eqD.trans (decide_eq_false e2)
          clear hfa
          have H := Lib.hid (show ∀ y ∈ d.writes.drop j, y.plc ≠ ⟨t, key⟩ from fun y hy => by
            rw [List.drop_eq_getElem_cons hlt] at hy
            rcases List.mem_cons.1 hy with h | h
            · rw [h, ← ex]; intro h2; injection h2 with h3 h4; exact e2 h4
            · exact hno y h)
          clear hno ex e1 e2
          go_upto_region 5 with (fail)
          refine wp_region_quiet_lit (by kernel_rfl) (by kernel_rfl) ?_
          repeat (first | go_big_quiet_step (fail) | (go_big_quiet_want; refine quiet_conv byP rfl rfl r1 ?_; go_big_quiet_on; go_simp) | (go_big_quiet_want; refine quiet_conv byP rfl rfl r2 ?_; go_big_quiet_on; go_simp))
          first | (refine wpQuiet_nil ?_; intro _ hw'; obtain ⟨nq, hw''⟩ := hw'; subst hw'') | intro nq
          go_wp2_with fail
          go_roundw
          case rel => exact ⟨j, (j : Int) - 1, by go_num, rfl, by omega, H.out, Below.drewN q _, bn, bz⟩
          case measure => simp [intOf]
      · have d1 : (x.table == t) = false := beq_eq_false_iff_ne.2 e1
        have d11 : decide (x.table = t) = false := decide_eq_false e1
        clear hfa
        have H := Lib.hid (show ∀ y ∈ d.writes.drop j, y.plc ≠ ⟨t, key⟩ from fun y hy => by
          rw [List.drop_eq_getElem_cons hlt] at hy
          rcases List.mem_cons.1 hy with h | h
          · rw [h, ← ex]; intro h2; injection h2 with h3 h4; exact e1 h3
          · exact hno y h)
        clear hno ex e1
        go_upto_region 5 with (fail)
        refine wp_region_quiet_lit (by kernel_rfl) (by kernel_rfl) ?_
        repeat (first | go_big_quiet_step (fail) | (go_big_quiet_want; refine quiet_conv byP rfl rfl r1 ?_; go_big_quiet_on; go_simp) | (go_big_quiet_want; refine quiet_conv byP rfl rfl r2 ?_; go_big_quiet_on; go_simp))
        first | (refine wpQuiet_nil ?_; intro _ hw'; obtain ⟨nq, hw''⟩ := hw'; subst hw'') | intro nq
        go_wp2_with fail
        go_roundw
        case rel => exact ⟨j, (j : Int) - 1, by go_num, rfl, by omega, H.out, Below.drewN q _, bn, bz⟩
        case measure => simp [intOf]
end Go.Proofs.Ytjbdkhddnblieaa
