/-
  TEXTS OF ONE PROOF, merged: DeltaTwiceW.
-/
import Derived.Test.YtjbdkhddnblieaaMa11
namespace Go.Proofs.Ytjbdkhddnblieaa
open Go.RowKit Go.Shelf
theorem put_last {d : Dl} (h0 : 0 < (lastD d).length) (h9 : (putD d (lastD d)[0]).2 = 0) : lastD (putD d (lastD d)[0]).1 = lastD d := by
  have hm : (lastD d)[0] ∈ lastD d := List.getElem_mem _
  generalize (lastD d)[0] = z at hm h9
  unfold putD at h9 ⊢
  split at h9
  · rename_i hok
    split at h9
    · cases h9
    · rename_i hl
      rw [if_pos hok, if_neg hl]
      have hp := put_ok hok.1 hok.2 hl
      unfold lastD at hm ⊢
      rw [if_pos hok.1] at hm ⊢
      rw [if_pos hp]
      exact last_again hm
  · cases h9
set_option maxRecDepth 100000 in
set_option maxHeartbeats 16000000 in
theorem DeltaTwice_w (w : World) {cs0 cs1 : Array Value} {a2 : Option Addr} {n2 c2 : Nat} {d : Dl} {x : Sp} {l : List Pq} (h0 : RdDl (· < w.heap.size) w (.agg cs0) d) (h1 : RdSp (· < w.heap.size) w (.agg cs1) x) (h2 : RdL Elt.pq (· < w.heap.size) w (.slice a2 n2 c2) l) :
    Calls Try.prog 7 #[.agg cs0, .agg cs1, .slice a2 n2 c2] w fun e w' => e = .returned (.bool true) ∧ Below w.heap.size w w' := by
  have hd := h0
  have hx := h1
  obtain ⟨a, c, a', c', e, hw, hm⟩ := h0
  injection e with e
  subst e
  obtain ⟨b, k, b', k', e, hlo, hhi, hxt⟩ := h1
  injection e with e
  subst e
  obtain ⟨rfl, hnc, hcm⟩ := h2.len
  have hl1 : x.lo.length ≤ 9223372036854775807 := by have := hlo.len; unfold maxLen at this; omega
  have hl2 : x.hi.length ≤ 9223372036854775807 := by have := hhi.len; unfold maxLen at this; omega
  have hll : l.length ≤ 9223372036854775807 := by unfold maxLen at hcm; omega
  obtain ⟨W0, hW, q, xD, xX, hsz⟩ := boxes2 w 25 39 [.slice a d.writes.length c, .slice a' d.marks.length c'] [.int .i64 x.table, .slice b x.lo.length k, .slice b' x.hi.length k', .bool x.isOpen]
  have hD := hd.below q
  have hX := hx.below q
  have hL := h2.below q
  clear hw hm hlo hhi hnc hcm hsz hd hx h2
  go_enter Try.func7, Try.ntmps7
  go_upto_region 1 with (fail)
  rw [show (w.alloc (.cells #[.slice a d.writes.length c, .slice a' d.marks.length c'] 25)).alloc (.cells #[.int .i64 x.table, .slice b x.lo.length k, .slice b' x.hi.length k', .bool x.isOpen] 39) = W0 from hW.symm]
  clear hW
  go_wp2_with fail
  have hcl := awake8_any W0
  refine hcl.mono ?_
  rintro e w1 ⟨rfl, hb⟩
  clear hcl
  replace hD := hD.below hb
  replace hX := hX.below hb
  replace hL := hL.below hb
  replace xD := xD.below hb xD.lt
  replace xX := xX.below hb xX.lt
  replace q := q.trans (hb.mono q.size)
  clear hb
  have b0 := xD.cell (i := 0) rfl
  have b1 := xD.cell (i := 1) rfl
  have x0 := xX.cell (i := 0) rfl
  have x1 := xX.cell (i := 1) rfl
  have x2 := xX.cell (i := 2) rfl
  have x3 := xX.cell (i := 3) rfl
  have hcl := few_any w1 hD
  go_wp2_with fail
  refine hcl.mono ?_
  rintro e w2 ⟨rfl, hb⟩
  clear hcl b0 b1 x0 x1 x2 x3
  replace hD := hD.below hb
  replace hX := hX.below hb
  replace hL := hL.below hb
  replace xD := xD.below hb xD.lt
  replace xX := xX.below hb xX.lt
  replace q := q.trans (hb.mono q.size)
  clear hb
  have b0 := xD.cell (i := 0) rfl
  have b1 := xD.cell (i := 1) rfl
  have x0 := xX.cell (i := 0) rfl
  have x1 := xX.cell (i := 1) rfl
  have x2 := xX.cell (i := 2) rfl
  have x3 := xX.cell (i := 3) rfl
  by_cases hf : fewD d
  case neg =>
    rw [decide_eq_false hf]
    go_wp2_with fail
    go_ret
    exact ⟨rfl, q⟩
  rw [decide_eq_true hf]
  replace hf := Lib.hid hf
  rcases Nat.lt_or_ge 100 x.lo.length with g1 | g1
  · have d1 : decide ((100 : Int) < (x.lo.length : Int)) = true := decide_eq_true (by omega)
    go_wp2_with fail
    go_ret
    exact ⟨rfl, q⟩
  have d1 : decide ((100 : Int) < (x.lo.length : Int)) = false := decide_eq_false (by omega)
  rcases Nat.lt_or_ge 100 x.hi.length with g2 | g2
  · have d2 : decide ((100 : Int) < (x.hi.length : Int)) = true := decide_eq_true (by omega)
    go_wp2_with fail
    go_ret
    exact ⟨rfl, q⟩
  have d2 : decide ((100 : Int) < (x.hi.length : Int)) = false := decide_eq_false (by omega)
  have hcl := short_any w2 hL
  go_wp2_with fail
  refine hcl.mono ?_
  rintro e w3 ⟨rfl, hb⟩
  clear hcl b0 b1 x0 x1 x2 x3
  replace hD := hD.below hb
  replace hX := hX.below hb
  replace hL := hL.below hb
  replace xD := xD.below hb xD.lt
  replace xX := xX.below hb xX.lt
  replace q := q.trans (hb.mono q.size)
  clear hb
  by_cases hs : shP l
  case neg =>
    rw [decide_eq_false hs]
    go_wp2_with fail
    go_ret
    exact ⟨rfl, q⟩
  rw [decide_eq_true hs]
  clear d1 d2 g1 g2 hl1 hl2
  obtain ⟨hsm, hsn⟩ := over_sm (x := x) hs hf.out
  have hsl : smQ l := ⟨by have := hs.1; omega, fun y hy => by have := hs.2 y hy; omega⟩
  have hs1 := hs.1
  replace hs := Lib.hid hs
  have b0 := xD.cell (i := 0) rfl
  have b1 := xD.cell (i := 1) rfl
  have x0 := xX.cell (i := 0) rfl
  have x1 := xX.cell (i := 1) rfl
  have x2 := xX.cell (i := 2) rfl
  have x3 := xX.cell (i := 3) rfl
  have hcl := dOver_any w3 hD hX hL hsl (by omega)
  go_wp2_with fail
  refine hcl.mono ?_
  rintro e w4 ⟨aO, cO, rfl, hO, hb⟩
  clear hcl b0 b1 x0 x1 x2 x3
  have rO : RdL Elt.pq (fun _ => True) _ (.slice aO (overD d x l).length cO) (overD d x l) := hO.rdL.weak fun _ _ => trivial
  clear hO
  replace hD := hD.below hb
  replace hX := hX.below hb
  replace hL := hL.below hb
  replace xD := xD.below hb xD.lt
  replace xX := xX.below hb xX.lt
  replace q := q.trans (hb.mono q.size)
  clear hb
  have b0 := xD.cell (i := 0) rfl
  have b1 := xD.cell (i := 1) rfl
  have x0 := xX.cell (i := 0) rfl
  have x1 := xX.cell (i := 1) rfl
  have x2 := xX.cell (i := 2) rfl
  have x3 := xX.cell (i := 3) rfl
  have hcl := dOver_any w4 hD hX rO hsm (by omega)
  rw [overD_twice] at hcl
  go_wp2_with fail
  refine hcl.mono ?_
  rintro e w5 ⟨aP, cP, rfl, hO, hb⟩
  clear hcl b0 b1 x0 x1 x2 x3
  have rP : RdL Elt.pq (fun _ => True) _ (.slice aP (overD d x l).length cP) (overD d x l) := hO.rdL.weak fun _ _ => trivial
  clear hO
  replace hD := hD.below hb
  replace hX := hX.below hb
  replace hL := hL.below hb
  replace xD := xD.below hb xD.lt
  replace xX := xX.below hb xX.lt
  replace rO := rO.below hb
  replace q := q.trans (hb.mono q.size)
  clear hb
  have hcl := refPairs_any w5 rP rO
  rw [decide_eq_true rfl] at hcl
  go_wp2_with fail
  refine hcl.mono ?_
  rintro e w6 ⟨rfl, hb⟩
  clear hcl
  replace hD := hD.below hb
  replace hX := hX.below hb
  replace hL := hL.below hb
  replace xD := xD.below hb xD.lt
  replace xX := xX.below hb xX.lt
  replace rO := rO.below hb
  replace rP := rP.below hb
  replace q := q.trans (hb.mono q.size)
  clear hb rP rO hsm hsn hsl hs hs1
  clear hL
  have b0 := xD.cell (i := 0) rfl
  have b1 := xD.cell (i := 1) rfl
  have hcl := dLast_any w6 hD
  go_wp2_with fail
  refine hcl.mono ?_
  rintro e w7 ⟨aL, cL, rfl, hO, hb⟩
  clear hcl b0 b1
  have rL : RdL Elt.wr (fun _ => True) _ (.slice aL (lastD d).length cL) (lastD d) := hO.rdL.weak fun _ _ => trivial
  clear hO
  replace hD := hD.below hb
  replace hX := hX.below hb
  replace xD := xD.below hb xD.lt
  replace xX := xX.below hb xX.lt
  replace q := q.trans (hb.mono q.size)
  clear hb
  have hlm : (lastD d).length ≤ 30 := by
    unfold lastD
    split
    · exact Nat.le_trans (last_len _) hf.out.1
    · simp
  rcases Nat.eq_zero_or_pos (lastD d).length with h0 | h0
  · have d1 : decide (((lastD d).length : Int) = 0) = true := decide_eq_true (by omega)
    have d2 : (((lastD d).length : Int) == 0) = true := beq_iff_eq.2 (by omega)
    go_wp2_with fail
    go_ret
    exact ⟨rfl, q⟩
  have d1 : decide (((lastD d).length : Int) = 0) = false := decide_eq_false (by omega)
  have d2 : (((lastD d).length : Int) == 0) = false := beq_eq_false_iff_ne.2 (by omega)
  go_upto_region 9 with (fail)
  obtain ⟨bw, ow, kw, lw, mw, nw, eL, wL0, y0, y1, y2, y3, hkW, hvW, htW⟩ := rL.wr 0 h0
  subst eL
  have hW0 : RdWr (fun _ => True) w7 (.agg #[.int .i64 (lastD d)[0].table, .slice kw (lastD d)[0].key.length lw, .bool (lastD d)[0].gone, .slice mw (lastD d)[0].val.length nw]) (lastD d)[0] := ⟨_, _, _, _, rfl, hkW, hvW, htW⟩
  have hbw := cell_lt y0
  have hsd : smD d := ⟨by have := hf.out.1; omega, by have := hf.out.2.1; omega, fun y hy => by have := hf.out.2.2 y hy; omega⟩
  have hwm : (lastD d)[0] ∈ d.writes := by
    have h9 : ∀ y ∈ lastD d, y ∈ d.writes := fun y h9 => by
      unfold lastD at h9
      split at h9
      · exact last_mem h9
      · cases h9
    exact h9 _ (List.getElem_mem _)
  have hwk : (lastD d)[0].key.length ≤ 1000000 := by have := hf.out.2.2 _ hwm; omega
  have hwv : (lastD d)[0].val.length ≤ 1000000 := by have := hf.out.2.2 _ hwm; omega
  have eP : ∀ args w, (callFunc 10 args).run Try.prog w = .ok (.enter 10 args) w := enters_of Try.func10 (by kernel_rfl) rfl
  refine wp_region_setl (K := fun _ _ => True) (by kernel_rfl) (by kernel_rfl) [4, 5, 6, 7, 8, 9] (by kernel_rfl) [lEq (.agg #[.slice a d.writes.length c, .slice a' d.marks.length c']), lEq (.slice (some ⟨bw, ow, none⟩) (lastD d).length cL), lEq (.pointer (some ⟨bw, ow + 0 * 4, none⟩)), lEq (.agg #[.int .i64 (lastD d)[0].table, .slice kw (lastD d)[0].key.length lw, .bool (lastD d)[0].gone, .slice mw (lastD d)[0].val.length nw]), lAny, lAny, lAny, lAny, lAny, lAny, lEq (.int .i64 ((putD d (lastD d)[0]).2 : Nat))]
    (CbL #[] 5 (DlR (putD d (lastD d)[0])) zDl DlB AnyV AnyV w7) (CbL.more (dlStays (putD d (lastD d)[0]))) (CbS.start _)
    ⟨?o0, ?o1, ?o2, ?o3, ?o4, ?o5, ?o6, ?o7, ?o8, ?o9, ?o10, trivial⟩ ?fin
  case o0 =>
    refine StOp.free rfl (by kernel_rfl) (fun A va D w' hF hT hN hE hd hu hg => ?_)
    have e1 : A.eval (.tmp 3) = .pointer (some ⟨w.heap.size, 0, none⟩) := hF 3 rfl
    have hBE := hE.be
    exact wp_load2 dlS rfl e1 ((xD.below hBE xD.lt).cell (i := 0) rfl) ((xD.below hBE xD.lt).cell (i := 1) rfl) ⟨_, rfl, rfl, Below.refl _ _⟩
  case o1 =>
    refine StOp.free rfl (by kernel_rfl) (fun A va D w' hF hT hN hE hd hu hg => ?_)
    have e1 : A.eval (.tmp 10) = .slice (some ⟨bw, ow, none⟩) (lastD d).length cL := hF 10 rfl
    exact BigFrame.wp_move _ rfl ⟨_, rfl, e1, Below.refl _ _⟩
  case o2 =>
    refine StOp.free rfl (by kernel_rfl) (fun A va D w' hF hT hN hE hd hu hg => ?_)
    have e1 : A.eval (.tmp 57) = .slice (some ⟨bw, ow, none⟩) (lastD d).length cL := (hT 57 1 (by simp) rfl).trans (hg ⟨1, .data⟩ (by simp) rfl rfl)
    exact wp_ixN (e := 28) rfl (by kernel_rfl) (by kernel_rfl) (e1) (rfl) rfl (by omega) ⟨_, rfl, rfl, Below.refl _ _⟩
  case o3 =>
    refine StOp.free rfl (by kernel_rfl) (fun A va D w' hF hT hN hE hd hu hg => ?_)
    have e1 : A.eval (.tmp 58) = .pointer (some ⟨bw, ow + 0 * 4, none⟩) := (hT 58 2 (by simp) rfl).trans (hg ⟨2, .data⟩ (by simp) rfl rfl)
    have hBE := hE.be
    exact wp_load4 wrS rfl e1 ((hBE.cell (p := ⟨bw, ow + 0 * 4, none⟩) hbw).trans y0) ((hBE.cell (p := ⟨bw, ow + 0 * 4 + 1, none⟩) hbw).trans y1) ((hBE.cell (p := ⟨bw, ow + 0 * 4 + 2, none⟩) hbw).trans y2) ((hBE.cell (p := ⟨bw, ow + 0 * 4 + 3, none⟩) hbw).trans y3) ⟨_, rfl, rfl, Below.refl _ _⟩
  case o4 =>
    refine StOp.set rfl (by kernel_rfl) (fun A va D w' hF hT hN hE hd hu hg => ?_)
    have e1 : A.eval (.tmp 56) = .agg #[.slice a d.writes.length c, .slice a' d.marks.length c'] := (hT 56 0 (by simp) rfl).trans (hg ⟨0, .data⟩ (by simp) rfl rfl)
    have e2 : A.eval (.tmp 59) = .agg #[.int .i64 (lastD d)[0].table, .slice kw (lastD d)[0].key.length lw, .bool (lastD d)[0].gone, .slice mw (lastD d)[0].val.length nw] := (hT 59 3 (by simp) rfl).trans (hg ⟨3, .data⟩ (by simp) rfl rfl)
    have hE2 := hE
    simp only [told, List.map_cons, List.map_nil, hN, Bool.false_eq_true, if_false] at hE2
    have hBE := hE2.be
    refine wp_callFn rfl eP (args := #[.agg #[.slice a d.writes.length c, .slice a' d.marks.length c'], .agg #[.int .i64 (lastD d)[0].table, .slice kw (lastD d)[0].key.length lw, .bool (lastD d)[0].gone, .slice mw (lastD d)[0].val.length nw]]) (by simp only [List.map_toArray, List.map_cons, List.map_nil, e1, e2]) ((dPut_any w' (hD.below hBE) hsd (hW0.below hBE) hwk hwv).mono ?_)
    rintro e w2 ⟨v, rfl, hrd, hb2⟩
    have h5 := CbS.call (dlStays (putD d (lastD d)[0])) hE2 (by simp) hb2 (v := v) (e := .int .i64 _) ⟨rfl, hrd⟩
    exact ⟨_, rfl, _, rfl, by simpa [CbL, told, don, upd] using h5, trivial⟩
  case o5 =>
    refine StOp.set rfl (by kernel_rfl) (fun A va D w' hF hT hN hE hd hu hg => ?_)
    have x1 : A.eval (.tmp 60) = va 4 := hT 60 4 (by simp) rfl
    have hE2 := hE
    have d4 : D 4 = true := hd ⟨4, .data⟩ (by simp) rfl
    simp only [told, List.map_cons, List.map_nil, hN, d4, Bool.false_eq_true, if_false, if_true] at hE2
    have h5 := CbS.move hE2
    exact BigFrame.wp_move _ rfl ⟨_, rfl, by rw [x1]; simpa [CbL, told, don, upd, d4] using h5, trivial⟩
  case o6 =>
    refine StOp.set rfl (by kernel_rfl) (fun A va D w' hF hT hN hE hd hu hg => ?_)
    have x1 : A.eval (.tmp 55) = va 5 := hT 55 5 (by simp) rfl
    have hE2 := hE
    have d5 : D 5 = true := hd ⟨5, .data⟩ (by simp) rfl
    simp only [told, List.map_cons, List.map_nil, hN, d5, Bool.false_eq_true, if_false, if_true] at hE2
    obtain ⟨v, e, em⟩ := CbS.tup hE2
    rw [em] at hE2
    have h5 := CbS.ex0 hE2
    exact wp_ex rfl (x1.trans em) rfl ⟨_, rfl, by simpa [CbL, told, don, upd, d5, em] using h5, trivial⟩
  case o7 =>
    refine StOp.set rfl (by kernel_rfl) (fun A va D w' hF hT hN hE hd hu hg => ?_)
    have x1 : A.eval (.tmp 55) = va 5 := hT 55 5 (by simp) rfl
    have hE2 := hE
    have d5 : D 5 = true := hd ⟨5, .data⟩ (by simp) rfl
    simp only [told, List.map_cons, List.map_nil, hN, d5, Bool.false_eq_true, if_false, if_true] at hE2
    obtain ⟨v, e, em⟩ := CbS.tup hE2
    rw [em] at hE2
    have h5 := CbS.ex1 hE2
    exact wp_ex rfl (x1.trans em) rfl ⟨_, rfl, by simpa [CbL, told, don, upd, d5, em] using h5, trivial⟩
  case o8 =>
    refine StOp.set rfl (by kernel_rfl) (fun A va D w' hF hT hN hE hd hu hg => ?_)
    have hE2 := hE
    simp only [told, List.map_cons, List.map_nil, hN, Bool.false_eq_true, if_false] at hE2
    refine wp_boxNew (vs := [.slice none 0 0, .slice none 0 0]) (by kernel_rfl) rfl (fun w2 hb2 hz => ⟨_, rfl, ?_, trivial⟩)
    have h5 := CbS.alloc (dlStays (putD d (lastD d)[0])) hE2 hb2 hz
    simpa [CbL, told, don, upd] using h5
  case o9 =>
    refine StOp.set rfl (by kernel_rfl) (fun A va D w' hF hT hN hE hd hu hg => ?_)
    have x1 : A.eval (.tmp 11) = va 8 := hT 11 8 (by simp) rfl
    have x2 : A.eval (.tmp 61) = va 6 := hT 61 6 (by simp) rfl
    have hE2 := hE
    have d8 : D 8 = true := hd ⟨8, .data⟩ (by simp) rfl
    have d6 : D 6 = true := hd ⟨6, .data⟩ (by simp) rfl
    simp only [told, List.map_cons, List.map_nil, hN, d8, d6, Bool.false_eq_true, if_false, if_true] at hE2
    obtain ⟨b9, eb, hb0⟩ := CbS.box hE2
    obtain ⟨e, hm⟩ := hE2.mx _ rfl
    obtain ⟨v, e2, ec, _, hrd⟩ := hE2.rr _ (hE2.mv _ hm)
    obtain ⟨A1, B1, A2, B2, ev, _⟩ := id hrd
    injection ec with ec
    injection ec with ec
    injection ec with ec _
    rw [← ec] at ev
    refine wp_boxStore (vs := [.slice none 0 0, .slice none 0 0]) (us := [.slice A1 _ B1, .slice A2 _ B2]) (by kernel_rfl) rfl (x1.trans eb) (x2.trans ev) rfl hb0 rfl (fun w2 hg2 ht2 => ⟨_, rfl, ?_, trivial⟩)
    rw [eb] at hE2
    have h5 := CbS.sto (u := undef) (dlStays (putD d (lastD d)[0])) hE2 hg2 ⟨_, _, ev, ht2⟩
    simpa [CbL, told, don, upd, d8, d6, eb] using h5
  case o10 =>
    refine StOp.free rfl (by kernel_rfl) (fun A va D w' hF hT hN hE hd hu hg => ?_)
    have x1 : A.eval (.tmp 62) = va 7 := hT 62 7 (by simp) rfl
    have hE2 := hE
    have d7 : D 7 = true := hd ⟨7, .data⟩ (by simp) rfl
    simp only [told, List.map_cons, List.map_nil, d7, if_true] at hE2
    have ee := CbS.errD hE2
    exact BigFrame.wp_assign _ rfl ⟨_, rfl, x1.trans ee, Below.refl _ _⟩
  case fin =>
  intro vs1 W1 hE hG
  obtain ⟨bM, ez, em, ec, hbM, hBx, hR, hbE⟩ := CbS.done (dlR _) hE (by simp)
  obtain ⟨ee, hM⟩ := hR
  obtain ⟨u1, u2, ev, xM⟩ := hBx
  have g0 : vs1 0 = .agg #[.slice a d.writes.length c, .slice a' d.marks.length c'] := hG 0 (by decide) rfl
  have g1 : vs1 1 = .slice (some ⟨bw, ow, none⟩) (lastD d).length cL := hG 1 (by decide) rfl
  have g2 : vs1 2 = .pointer (some ⟨bw, ow + 0 * 4, none⟩) := hG 2 (by decide) rfl
  have g3 : vs1 3 = .agg #[.int .i64 (lastD d)[0].table, .slice kw (lastD d)[0].key.length lw, .bool (lastD d)[0].gone, .slice mw (lastD d)[0].val.length nw] := hG 3 (by decide) rfl
  have g10 : vs1 10 = .int .i64 ((putD d (lastD d)[0]).2 : Nat) := hG 10 (by decide) rfl
  simp only [putAll, g0, g1, g2, g3, g10, ec, em, ev, ee, ez]
  rw [ev] at hM
  clear hE hG ec em ev ee ez g0 g1 g2 g3 g10
  replace hM : RdDl (fun _ => True) W1 _ _ := hM.weak fun _ _ => trivial
  replace hbE := hbE
  clear hD hX hW0 y0 y1 y2 y3 hkW hvW htW xD xX hbw
  replace rL := rL.below hbE
  replace q := q.trans (hbE.mono q.size)
  clear hbE
  have b0 := xM.cell (i := 0) rfl
  have b1 := xM.cell (i := 1) rfl
  have hcl := dLast_any W1 hM
  go_wp2_with fail
  refine hcl.mono ?_
  rintro e w8 ⟨aN, cN, rfl, hO, hb⟩
  clear hcl b0 b1
  have rN : RdL Elt.wr (fun _ => True) _ (.slice aN (lastD (putD d (lastD d)[0]).1).length cN) (lastD (putD d (lastD d)[0]).1) := hO.rdL.weak fun _ _ => trivial
  clear hO
  replace rL := rL.below hb
  replace hM := hM.below hb
  replace xM := xM.below hb xM.lt
  replace q := q.trans (hb.mono q.size)
  clear hb
  have hcl := refWrites_any w8 rN rL
  go_wp2_with fail
  refine hcl.mono ?_
  rintro e w9 ⟨rfl, hb⟩
  clear hcl
  replace rL := rL.below hb
  replace hM := hM.below hb
  replace xM := xM.below hb xM.lt
  replace rN := rN.below hb
  replace q := q.trans (hb.mono q.size)
  clear hb
  have hend : (putD d (lastD d)[0]).2 = 0 → lastD (putD d (lastD d)[0]).1 = lastD d := put_last h0
  rcases Nat.eq_zero_or_pos (putD d (lastD d)[0]).2 with h9 | h9
  · rw [hend h9, decide_eq_true rfl]
    have d3 : ((((putD d (lastD d)[0]).2 : Nat) : Int) != 0) = false := by rw [h9]; rfl
    have d4 : decide ((((putD d (lastD d)[0]).2 : Nat) : Int) = 0) = true := by rw [h9]; rfl
    go_wp2_with fail
    go_ret
    exact ⟨rfl, q⟩
  · have d3 : ((((putD d (lastD d)[0]).2 : Nat) : Int) != 0) = true := bne_iff_ne.2 (by omega)
    have d4 : decide ((((putD d (lastD d)[0]).2 : Nat) : Int) = 0) = false := decide_eq_false (by omega)
    go_wp2_with fail
    go_ret
    exact ⟨rfl, q⟩
end Go.Proofs.Ytjbdkhddnblieaa
