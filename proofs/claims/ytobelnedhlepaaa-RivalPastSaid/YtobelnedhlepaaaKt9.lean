/-
  TEXTS OF ONE PROOF, merged: RivalMoreW, RivalPastW.
-/
import Derived.Test.YtobelnedhlepaaaKt8
namespace Go.Proofs.Ytobelnedhlepaaa
open Go.RowKit Go.Shelf
theorem more_cases {me mo : Lv} {ws : List Wr} {l : List Ps} {lv : List Lv} : ((judgeP me ws l (lv ++ [mo])).2 = 0 ∧ (judgeP me ws l lv).2 = 0 ∧ (judgeP me ws l lv).1 = (judgeP me ws l (lv ++ [mo])).1) ∨ ((judgeP me ws l (lv ++ [mo])).2 = 140 ∧ (judgeP me ws l lv).2 = 0) ∨ ((judgeP me ws l (lv ++ [mo])).2 = 140 ∧ (judgeP me ws l lv).2 = 140 ∧ (judgeP me ws l lv).1 = false) := by
  unfold judgeP
  by_cases h : (judgeM me.reads ws (meetsP me.snap l) (lv ++ [mo])).2 = 0
  · have h2 := judgeM_more h
    exact .inl ⟨h, by rw [h2]; exact h, by rw [h2]⟩
  · have h2 := judgeM_err h
    by_cases h3 : (judgeM me.reads ws (meetsP me.snap l) lv).2 = 0
    · exact .inr (.inl ⟨by rw [h2], h3⟩)
    · have h4 := judgeM_err h3
      exact .inr (.inr ⟨by rw [h2], by rw [h4], by rw [h4]⟩)
set_option maxRecDepth 100000 in
set_option maxHeartbeats 16000000 in
theorem RivalMore_w (w : World) {S S2 S3 S4 S5 : Nat → Prop} {v v2 : Value} {me mo : Lv} {a a2 a3 : Option Addr} {n cx n2 cy n3 cz : Nat} {ws : List Wr} {l : List Ps} {lv : List Lv} (h0 : RdLv S w v me) (hws : RdL Elt.wr S2 w (.slice a n cx) ws) (hl : RdL Elt.ps S3 w (.slice a2 n2 cy) l) (hlv : RdL Elt.lv S4 w (.slice a3 n3 cz) lv) (h4 : RdLv S5 w v2 mo) :
    Calls Try.prog 6 #[v, .slice a n cx, .slice a2 n2 cy, .slice a3 n3 cz, v2] w fun e w' => e = .returned (.bool true) ∧ Below w.heap.size w w' := by
  have hJ := judges
  have hM := meetsC
  obtain ⟨aR, cR, rfl, hR, hw64⟩ := h0
  obtain ⟨aN, cN, rfl, hN, hn64⟩ := h4
  obtain ⟨rfl, _, _⟩ := hws.len
  obtain ⟨rfl, _, _⟩ := hl.len
  obtain ⟨rfl, _, _⟩ := hlv.len
  have eJ : ∀ args w, (callFunc 12 args).run Try.prog w = .ok (.enter 12 args) w := enters_of Try.func12 (by kernel_rfl) rfl
  obtain ⟨W, hW, q, Bx, By, hsz⟩ := spBoxes2 w 24 24 [.int .i64 me.snap, .slice aR me.reads.length cR] [.int .i64 mo.snap, .slice aN mo.reads.length cN]
  go_enter Try.func6, Try.ntmps6
  go_upto_region 1 with (fail)
  rw [show (w.alloc (.cells #[.int .i64 me.snap, .slice aR me.reads.length cR] 24)).alloc (.cells #[.int .i64 mo.snap, .slice aN mo.reads.length cN] 24) = W from hW.symm]
  clear hW hsz
  obtain ⟨mb, emb⟩ : ∃ k, k = w.heap.size + 1 := ⟨_, rfl⟩
  rw [← emb] at By ⊢
  clear emb
  have r0 := Bx.cell (i := 0) rfl
  have r1 := Bx.cell (i := 1) rfl
  have n0 := By.cell (i := 0) rfl
  have n1 := By.cell (i := 1) rfl
  clear Bx By
  replace hR := hR.below q
  replace hN := hN.below q
  replace hws := hws.below q
  replace hl := hl.below q
  replace hlv := hlv.below q
  go_wp2_with fail
  refine (awake14_any hJ hM W).mono ?_
  rintro e w9 ⟨rfl, hb⟩
  replace r0 := (hb.cell (p := ⟨w.heap.size, 0, none⟩) (cell_lt r0)).trans r0
  replace r1 := (hb.cell (p := ⟨w.heap.size, 1, none⟩) (cell_lt r1)).trans r1
  replace n0 := (hb.cell (p := ⟨mb, 0, none⟩) (cell_lt n0)).trans n0
  replace n1 := (hb.cell (p := ⟨mb, 1, none⟩) (cell_lt n1)).trans n1
  replace hR := hR.below hb
  replace hN := hN.below hb
  replace hws := hws.below hb
  replace hl := hl.below hb
  replace hlv := hlv.below hb
  replace q := q.trans (hb.mono q.size)
  clear hb
  go_wp2_with fail
  refine (rFew_any _ hR).mono ?_
  rintro e w9 ⟨rfl, hb⟩
  replace r0 := (hb.cell (p := ⟨w.heap.size, 0, none⟩) (cell_lt r0)).trans r0
  replace r1 := (hb.cell (p := ⟨w.heap.size, 1, none⟩) (cell_lt r1)).trans r1
  replace n0 := (hb.cell (p := ⟨mb, 0, none⟩) (cell_lt n0)).trans n0
  replace n1 := (hb.cell (p := ⟨mb, 1, none⟩) (cell_lt n1)).trans n1
  replace hR := hR.below hb
  replace hN := hN.below hb
  replace hws := hws.below hb
  replace hl := hl.below hb
  replace hlv := hlv.below hb
  replace q := q.trans (hb.mono q.size)
  clear hb
  by_cases hf : fewS me.reads
  case neg =>
    rw [decide_eq_false hf]
    go_wp2_with fail
    go_ret
    exact ⟨rfl, q⟩
  rw [decide_eq_true hf]
  have hf1 := Lib.hid hf
  clear hf
  go_wp2_with fail
  refine (rFew_any _ hN).mono ?_
  rintro e w9 ⟨rfl, hb⟩
  replace r0 := (hb.cell (p := ⟨w.heap.size, 0, none⟩) (cell_lt r0)).trans r0
  replace r1 := (hb.cell (p := ⟨w.heap.size, 1, none⟩) (cell_lt r1)).trans r1
  replace n0 := (hb.cell (p := ⟨mb, 0, none⟩) (cell_lt n0)).trans n0
  replace n1 := (hb.cell (p := ⟨mb, 1, none⟩) (cell_lt n1)).trans n1
  replace hR := hR.below hb
  replace hN := hN.below hb
  replace hws := hws.below hb
  replace hl := hl.below hb
  replace hlv := hlv.below hb
  replace q := q.trans (hb.mono q.size)
  clear hb
  by_cases hf : fewS mo.reads
  case neg =>
    rw [decide_eq_false hf]
    go_wp2_with fail
    go_ret
    exact ⟨rfl, q⟩
  rw [decide_eq_true hf]
  have hf4 := Lib.hid hf
  clear hf
  go_wp2_with fail
  refine (few_any _ (d := ⟨ws, []⟩) (S := S2) ⟨a, cx, none, 0, rfl, hws, RdL.nil _ _ _⟩).mono ?_
  rintro e w9 ⟨rfl, hb⟩
  replace r0 := (hb.cell (p := ⟨w.heap.size, 0, none⟩) (cell_lt r0)).trans r0
  replace r1 := (hb.cell (p := ⟨w.heap.size, 1, none⟩) (cell_lt r1)).trans r1
  replace n0 := (hb.cell (p := ⟨mb, 0, none⟩) (cell_lt n0)).trans n0
  replace n1 := (hb.cell (p := ⟨mb, 1, none⟩) (cell_lt n1)).trans n1
  replace hR := hR.below hb
  replace hN := hN.below hb
  replace hws := hws.below hb
  replace hl := hl.below hb
  replace hlv := hlv.below hb
  replace q := q.trans (hb.mono q.size)
  clear hb
  by_cases hf : fewD ⟨ws, []⟩
  case neg =>
    rw [decide_eq_false hf]
    go_wp2_with fail
    go_ret
    exact ⟨rfl, q⟩
  rw [decide_eq_true hf]
  have hf2 := Lib.hid hf
  clear hf
  go_wp2_with fail
  refine (rFewP_any _ hl hlv).mono ?_
  rintro e w9 ⟨rfl, hb⟩
  replace r0 := (hb.cell (p := ⟨w.heap.size, 0, none⟩) (cell_lt r0)).trans r0
  replace r1 := (hb.cell (p := ⟨w.heap.size, 1, none⟩) (cell_lt r1)).trans r1
  replace n0 := (hb.cell (p := ⟨mb, 0, none⟩) (cell_lt n0)).trans n0
  replace n1 := (hb.cell (p := ⟨mb, 1, none⟩) (cell_lt n1)).trans n1
  replace hR := hR.below hb
  replace hN := hN.below hb
  replace hws := hws.below hb
  replace hl := hl.below hb
  replace hlv := hlv.below hb
  replace q := q.trans (hb.mono q.size)
  clear hb
  by_cases hf : fewPs l lv
  case neg =>
    rw [decide_eq_false hf]
    go_wp2_with fail
    go_ret
    exact ⟨rfl, q⟩
  rw [decide_eq_true hf]
  have hf3 := Lib.hid hf
  clear hf
  have hsm := few_sm hf3.out
  have hmp : smP ⟨0, 0, false, me.reads, ws, false⟩ := few_smJ hf1.out hf2.out
  have hln : lv.length ≤ 999999 := Nat.le_trans hf3.out.2.1 (by omega)
  have hls : ∀ x ∈ lv, smL x.reads := few_smV hf3.out
  have hmo : smL mo.reads := (few_smJ hf4.out hf2.out).1
  clear hf1 hf2 hf3 hf4
  have hls2 := Lib.hid (show ∀ x ∈ lv ++ [mo], smL x.reads from fun x hx => by
    rcases List.mem_append.1 hx with h | h
    · exact hls x h
    · rw [List.mem_singleton.1 h]; exact hmo)
  clear hmo
  go_wp2_with fail
  refine (hJ.call _ (me := me) ⟨_, _, rfl, hR, hw64⟩ hws hl hlv hmp hsm (by omega) hls).mono ?_
  rintro e w9 ⟨rfl, hb⟩
  replace r0 := (hb.cell (p := ⟨w.heap.size, 0, none⟩) (cell_lt r0)).trans r0
  replace r1 := (hb.cell (p := ⟨w.heap.size, 1, none⟩) (cell_lt r1)).trans r1
  replace n0 := (hb.cell (p := ⟨mb, 0, none⟩) (cell_lt n0)).trans n0
  replace n1 := (hb.cell (p := ⟨mb, 1, none⟩) (cell_lt n1)).trans n1
  replace hR := hR.below hb
  replace hN := hN.below hb
  replace hws := hws.below hb
  replace hl := hl.below hb
  replace hlv := hlv.below hb
  replace q := q.trans (hb.mono q.size)
  clear hb
  have hmc := more_cases (me := me) (mo := mo) (ws := ws) (l := l) (lv := lv)
  obtain ⟨jo, ejo⟩ : ∃ j, j = (judgeP me ws l lv).1 := ⟨_, rfl⟩
  obtain ⟨je, eje⟩ : ∃ j, j = (judgeP me ws l lv).2 := ⟨_, rfl⟩
  rw [← ejo, ← eje]
  rw [← ejo, ← eje] at hmc
  clear ejo eje
  obtain ⟨ko, eko⟩ : ∃ j, j = (judgeP me ws l (lv ++ [mo])).1 := ⟨_, rfl⟩
  obtain ⟨ke, eke⟩ : ∃ j, j = (judgeP me ws l (lv ++ [mo])).2 := ⟨_, rfl⟩
  rw [← eko, ← eke] at hmc
  replace hmc := Lib.hid hmc
  replace eko := Lib.hid eko
  replace eke := Lib.hid eke
  replace hlv : RdL Elt.lv (· < w9.heap.size) w9 (.slice a3 lv.length cz) lv := hlv.fit.weak fun _ h => h.2
  replace hN : RdL Elt.sp (· < w9.heap.size) w9 (.slice aN mo.reads.length cN) mo.reads := hN.fit.weak fun _ h => h.2
  go_upto_region 5 with (fail)
  refine wp_region_setl (K := fun _ _ => True) (by kernel_rfl) (by kernel_rfl) [3, 5, 7, 8] (by kernel_rfl) [lEq (.agg #[.int .i64 me.snap, .slice aR me.reads.length cR]), lEq (.slice a ws.length cx), lEq (.slice a2 l.length cy), lAny, lEq (.slice a3 lv.length cz), lAny, lEq (.agg #[.int .i64 mo.snap, .slice aN mo.reads.length cN]), lAny, lAny, lEq (.tuple #[.bool ko, .int .i64 (ke : Int)]), lEq (.tuple #[.bool ko, .int .i64 (ke : Int)]), lEq (.bool ko), lEq (.int .i64 (ke : Int)), lEq (.bool ko), lEq (.int .i64 (ke : Int))]
    (Ap2L Elt.lv 24 lv mo [.int .i64 mo.snap, .slice aN mo.reads.length cN] w9) Ap2L.more Ap2E.start
    ⟨?o0, ?o1, ?o2, ?o3, ?o4, ?o5, ?o6, ?o7, ?o8, ?o9, ?o10, ?o11, ?o12, ?o13, ?o14, trivial⟩ ?fin
  case o0 =>
    refine StOp.free rfl (by kernel_rfl) (fun A va D w' hF hT hN2 hE hd hu hg => ?_)
    have e1 : A.eval (.tmp 5) = .pointer (some ⟨w.heap.size, 0, none⟩) := hF 5 rfl
    exact wp_load2 lvS rfl (e1) (((Ap2L.bl hE).cell (p := ⟨w.heap.size, 0, none⟩) (cell_lt r0)).trans r0) (((Ap2L.bl hE).cell (p := ⟨w.heap.size, 0 + 1, none⟩) (cell_lt r1)).trans r1) ⟨_, rfl, rfl, Below.refl _ _⟩
  case o1 =>
    refine StOp.free rfl (by kernel_rfl) (fun A va D w' hF hT hN2 hE hd hu hg => ?_)
    have e1 : A.eval (.tmp 1) = .slice a ws.length cx := hF 1 rfl
    exact BigFrame.wp_move _ rfl ⟨_, rfl, e1, Below.refl _ _⟩
  case o2 =>
    refine StOp.free rfl (by kernel_rfl) (fun A va D w' hF hT hN2 hE hd hu hg => ?_)
    have e1 : A.eval (.tmp 2) = .slice a2 l.length cy := hF 2 rfl
    exact BigFrame.wp_move _ rfl ⟨_, rfl, e1, Below.refl _ _⟩
  case o3 =>
    refine StOp.set rfl (by kernel_rfl) (fun A va D w' hF hT hN2 hE hd hu hg => ?_)
    have hE2 := hE
    simp only [told, List.map_cons, List.map_nil, hN2, Bool.false_eq_true, if_false] at hE2
    refine wp_buildZero (E := Elt.lv) lvP rfl (fun w2 hb2 hO => ?_)
    have h9 := Ap2E.three hE2 hb2 hO
    exact ⟨_, rfl, by simpa [Ap2L, told, don, upd] using h9, trivial⟩
  case o4 =>
    refine StOp.free rfl (by kernel_rfl) (fun A va D w' hF hT hN2 hE hd hu hg => ?_)
    have e1 : A.eval (.tmp 3) = .slice a3 lv.length cz := hF 3 rfl
    exact BigFrame.wp_move _ rfl ⟨_, rfl, e1, Below.refl _ _⟩
  case o5 =>
    refine StOp.set rfl (by kernel_rfl) (fun A va D w' hF hT hN2 hE hd hu hg => ?_)
    have x1 : A.eval (.tmp 52) = va 3 := hT 52 3 (by simp) rfl
    have e2 : A.eval (.tmp 53) = .slice a3 lv.length cz := (hT 53 4 (by simp) rfl).trans (hg ⟨4, .data⟩ (by simp) rfl rfl)
    have hE2 := hE
    have d3 := hd ⟨3, .data⟩ (by simp) rfl
    simp only [told, List.map_cons, List.map_nil, hN2, d3, Bool.false_eq_true, if_false, if_true] at hE2
    have hOw := hE2.cu (va 3) [] (by rw [hE2.no8]; rfl)
    obtain ⟨az, kz, ez⟩ := hOw.shape
    have hbl := hE2.bl
    rw [ez] at hOw
    refine wp_appendRB (E := Elt.lv) lvP rfl (x1.trans ez) hOw e2 (hlv.below hbl) (fun k hk => ⟨Nat.zero_le _, Nat.lt_of_lt_of_le hk hbl.size, fun e => by have := (hOw.block_lt k e.symm).1; omega⟩) hbl.size (fun v5 w2 hO5 hg5 hv5 => ?_) (by simp; omega)
    rw [← ez] at hg5 hv5
    rw [List.nil_append] at hO5
    have h9 := Ap2E.five hE2 hg5 hO5 hv5
    exact ⟨_, rfl, by simpa [Ap2L, told, don, upd, d3] using h9, trivial⟩
  case o6 =>
    refine StOp.free rfl (by kernel_rfl) (fun A va D w' hF hT hN2 hE hd hu hg => ?_)
    have e1 : A.eval (.tmp 9) = .pointer (some ⟨mb, 0, none⟩) := hF 9 rfl
    exact wp_load2 lvS rfl (e1) (((Ap2L.bl hE).cell (p := ⟨mb, 0, none⟩) (cell_lt n0)).trans n0) (((Ap2L.bl hE).cell (p := ⟨mb, 0 + 1, none⟩) (cell_lt n1)).trans n1) ⟨_, rfl, rfl, Below.refl _ _⟩
  case o7 =>
    refine StOp.set rfl (by kernel_rfl) (fun A va D w' hF hT hN2 hE hd hu hg => ?_)
    have e1 : A.eval (.tmp 55) = .agg #[.int .i64 mo.snap, .slice aN mo.reads.length cN] := (hT 55 6 (by simp) rfl).trans (hg ⟨6, .data⟩ (by simp) rfl rfl)
    have hE2 := hE
    simp only [told, List.map_cons, List.map_nil, hN2, Bool.false_eq_true, if_false] at hE2
    refine wp_buildOne (us := [.int .i64 mo.snap, .slice aN mo.reads.length cN]) lvP rfl e1 rfl rfl (by decide) (by decide) ?_
    have h9 := Ap2E.seven hE2
    exact ⟨_, rfl, by simpa [Ap2L, told, don, upd] using h9, trivial⟩
  case o8 =>
    refine StOp.set rfl (by kernel_rfl) (fun A va D w' hF hT hN2 hE hd hu hg => ?_)
    have x1 : A.eval (.tmp 54) = va 5 := hT 54 5 (by simp) rfl
    have x2 : A.eval (.tmp 56) = va 7 := hT 56 7 (by simp) rfl
    have hE2 := hE
    have d5 := hd ⟨5, .data⟩ (by simp) rfl
    have d7 := hd ⟨7, .data⟩ (by simp) rfl
    simp only [told, List.map_cons, List.map_nil, hN2, d5, d7, Bool.false_eq_true, if_false, if_true] at hE2
    have d3 : D 3 = true := by
      cases h3 : D 3 with
      | true => rfl
      | false =>
        rw [h3] at hE2
        exact absurd hE2.no5.1 (by simp)
    simp only [d3, if_true] at hE2
    have hOw := hE2.cu _ _ rfl
    obtain ⟨az, kz, ez⟩ := hOw.shape
    obtain ⟨g, eg, hg7, hB7, hne⟩ := hE2.rw _ rfl rfl
    have hbl := hE2.bl
    have hne2 := hne _ _ rfl
    rw [ez] at hOw hne2
    have hr1 := rd_row1 (E := Elt.lv) (S := fun k => k < w9.heap.size ∨ k = g) (x := mo) hB7 (.inr rfl) ⟨_, rfl, (hN.below hbl).weak fun _ h => .inl h, hn64⟩
    refine wp_appendRB (E := Elt.lv) lvP rfl (x1.trans ez) hOw (x2.trans eg) hr1 (fun k hk => ⟨Nat.zero_le _, by have := hbl.size; omega, fun e => by
      rcases hk with hk | rfl
      · have := (hOw.block_lt k e.symm).1; omega
      · exact hne2 e.symm⟩) hbl.size (fun v8 w2 hO8 hg8 _ => ?_) (by simp; omega)
    rw [← ez] at hg8
    have h9 := Ap2E.eight hE2 hg8 hO8
    exact ⟨_, rfl, by simpa [Ap2L, told, don, upd, d3, d5, d7] using h9, trivial⟩
  case o9 =>
    refine StOp.free rfl (by kernel_rfl) (fun A va D w' hF hT hN2 hE hd hu hg => ?_)
    have e1 : A.eval (.tmp 49) = .agg #[.int .i64 me.snap, .slice aR me.reads.length cR] := (hT 49 0 (by simp) rfl).trans (hg ⟨0, .data⟩ (by simp) rfl rfl)
    have e2 : A.eval (.tmp 50) = .slice a ws.length cx := (hT 50 1 (by simp) rfl).trans (hg ⟨1, .data⟩ (by simp) rfl rfl)
    have e3 : A.eval (.tmp 51) = .slice a2 l.length cy := (hT 51 2 (by simp) rfl).trans (hg ⟨2, .data⟩ (by simp) rfl rfl)
    have x4 : A.eval (.tmp 57) = va 8 := hT 57 8 (by simp) rfl
    have hE2 := hE
    have d8 := hd ⟨8, .data⟩ (by simp) rfl
    simp only [told, List.map_cons, List.map_nil, d8, if_true] at hE2
    have hOw := hE2.cu _ _ rfl
    obtain ⟨az, kz, ez⟩ := hOw.shape
    have hbl := hE2.bl
    rw [ez] at hOw
    have hcl := hJ.call w' (me := me) ⟨_, _, rfl, hR.below hbl, hw64⟩ (hws.below hbl) (hl.below hbl) hOw.rdL hmp hsm (by rw [List.length_append]; simp; omega) hls2.out
    rw [← eko.out, ← eke.out] at hcl
    refine wp_callFn rfl eJ (args := #[.agg #[.int .i64 me.snap, .slice aR me.reads.length cR], .slice a ws.length cx, .slice a2 l.length cy, .slice az (lv ++ [mo]).length kz]) (by simp only [List.map_toArray, List.map_cons, List.map_nil, e1, e2, e3, x4.trans ez]) (hcl.mono ?_)
    rintro e w2 ⟨rfl, hb2⟩
    exact ⟨_, rfl, _, rfl, rfl, hb2⟩
  case o10 =>
    refine StOp.free rfl (by kernel_rfl) (fun A va D w' hF hT hN2 hE hd hu hg => ?_)
    have e1 : A.eval (.tmp 58) = .tuple #[.bool ko, .int .i64 (ke : Int)] := (hT 58 9 (by simp) rfl).trans (hg ⟨9, .data⟩ (by simp) rfl rfl)
    exact BigFrame.wp_move _ rfl ⟨_, rfl, e1, Below.refl _ _⟩
  case o11 =>
    refine StOp.free rfl (by kernel_rfl) (fun A va D w' hF hT hN2 hE hd hu hg => ?_)
    have e1 : A.eval (.tmp 48) = .tuple #[.bool ko, .int .i64 (ke : Int)] := (hT 48 10 (by simp) rfl).trans (hg ⟨10, .data⟩ (by simp) rfl rfl)
    exact wp_ex rfl e1 rfl ⟨_, rfl, rfl, Below.refl _ _⟩
  case o12 =>
    refine StOp.free rfl (by kernel_rfl) (fun A va D w' hF hT hN2 hE hd hu hg => ?_)
    have e1 : A.eval (.tmp 48) = .tuple #[.bool ko, .int .i64 (ke : Int)] := (hT 48 10 (by simp) rfl).trans (hg ⟨10, .data⟩ (by simp) rfl rfl)
    exact wp_ex rfl e1 rfl ⟨_, rfl, rfl, Below.refl _ _⟩
  case o13 =>
    refine StOp.free rfl (by kernel_rfl) (fun A va D w' hF hT hN2 hE hd hu hg => ?_)
    have e1 : A.eval (.tmp 59) = .bool ko := (hT 59 11 (by simp) rfl).trans (hg ⟨11, .data⟩ (by simp) rfl rfl)
    exact BigFrame.wp_assign _ rfl ⟨_, rfl, e1, Below.refl _ _⟩
  case o14 =>
    refine StOp.free rfl (by kernel_rfl) (fun A va D w' hF hT hN2 hE hd hu hg => ?_)
    have e1 : A.eval (.tmp 60) = .int .i64 (ke : Int) := (hT 60 12 (by simp) rfl).trans (hg ⟨12, .data⟩ (by simp) rfl rfl)
    exact BigFrame.wp_assign _ rfl ⟨_, rfl, e1, Below.refl _ _⟩
  case fin =>
  intro vs1 W9 hE hG
  have hb := Ap2L.bl hE
  have e13 : vs1 13 = .bool ko := hG 13 (by decide) rfl
  have e14 : vs1 14 = .int .i64 (ke : Int) := hG 14 (by decide) rfl
  simp only [putAll, e13, e14]
  replace q := q.trans (hb.mono q.size)
  clear hG hE e13 e14 hb hR hN hws hl hlv r0 r1 n0 n1
  have d1 : (ko == ko) = true := beq_self_eq_true _
  replace hmc := hmc.out
  go_simp
  rcases hmc with ⟨rfl, rfl, rfl⟩ | ⟨rfl, rfl⟩ | ⟨rfl, rfl, rfl⟩
  · go_wp2_with fail
    go_ret
    exact ⟨rfl, q⟩
  · go_wp2_with fail
    go_ret
    exact ⟨rfl, q⟩
  · go_wp2_with fail
    go_ret
    exact ⟨rfl, q⟩
end Go.Proofs.Ytobelnedhlepaaa
namespace Go.Proofs.Ytobelnedhlepaaa
open Go.RowKit Go.Shelf
theorem past_turn {me : Lv} {ws : List Wr} {l : List Ps} {lv : List Lv} : judgeP me ws l.reverse lv = judgeP me ws l lv := by
  unfold judgeP
  refine judgeM_turn fun p => ?_
  unfold meetsP
  rw [List.mem_filter, List.mem_filter, List.mem_reverse]
theorem past_meets {me : Lv} {ws : List Wr} {l : List Ps} {lv : List Lv} : judgeP me ws (meetsP me.snap l) lv = judgeP me ws l lv := by
  unfold judgeP
  rw [meetsP_twice]
theorem sm_meets {s : Int} {l : List Ps} (h : smPs l) : smPs (meetsP s l) := ⟨Nat.le_trans (List.length_filter_le _ _) h.1, fun p hp => h.2 p (List.mem_filter.1 hp).1⟩
theorem sm_turn {l : List Ps} (h : smPs l) : smPs l.reverse := ⟨by rw [List.length_reverse]; exact h.1, fun p hp => h.2 p (List.mem_reverse.1 hp)⟩
theorem meets_above {s : Int} {l : List Ps} {p : Ps} (h : p ∈ meetsP s l) : s < p.stamp := by simpa using (List.mem_filter.1 h).2
theorem turn_step {l : List Ps} {j : Nat} (h : j < l.length) : (l.drop j).reverse = (l.drop (j + 1)).reverse ++ [l[j]] := by
  rw [List.drop_eq_getElem_cons h, List.reverse_cons]
set_option maxRecDepth 100000 in
set_option maxHeartbeats 16000000 in
theorem RivalPast_w (w : World) {S S2 S3 S4 : Nat → Prop} {v : Value} {me : Lv} {a a2 a3 : Option Addr} {n cx n2 cy n3 cz : Nat} {ws : List Wr} {l : List Ps} {lv : List Lv} (h0 : RdLv S w v me) (hws : RdL Elt.wr S2 w (.slice a n cx) ws) (hl : RdL Elt.ps S3 w (.slice a2 n2 cy) l) (hlv : RdL Elt.lv S4 w (.slice a3 n3 cz) lv) :
    Calls Try.prog 7 #[v, .slice a n cx, .slice a2 n2 cy, .slice a3 n3 cz] w fun e w' => e = .returned (.bool true) ∧ Below w.heap.size w w' := by
  have hJ := judges
  have hM := meetsC
  obtain ⟨aR, cR, rfl, hR, hw64⟩ := h0
  obtain ⟨rfl, _, _⟩ := hws.len
  obtain ⟨rfl, _, _⟩ := hl.len
  obtain ⟨rfl, _, _⟩ := hlv.len
  obtain ⟨W, hW, q, Bx, hsz⟩ := spBox w 24 [.int .i64 me.snap, .slice aR me.reads.length cR]
  go_enter Try.func7, Try.ntmps7
  go_upto_region 1 with (fail)
  rw [show w.alloc (.cells #[.int .i64 me.snap, .slice aR me.reads.length cR] 24) = W from hW.symm]
  clear hW hsz
  have r0 := Bx.cell (i := 0) rfl
  have r1 := Bx.cell (i := 1) rfl
  clear Bx
  replace hR := hR.below q
  replace hws := hws.below q
  replace hl := hl.below q
  replace hlv := hlv.below q
  go_wp2_with fail
  refine (awake14_any hJ hM W).mono ?_
  rintro e w9 ⟨rfl, hb⟩
  replace r0 := (hb.cell (p := ⟨w.heap.size, 0, none⟩) (cell_lt r0)).trans r0
  replace r1 := (hb.cell (p := ⟨w.heap.size, 1, none⟩) (cell_lt r1)).trans r1
  replace hR := hR.below hb
  replace hws := hws.below hb
  replace hl := hl.below hb
  replace hlv := hlv.below hb
  replace q := q.trans (hb.mono q.size)
  clear hb
  go_wp2_with fail
  refine (rFew_any _ hR).mono ?_
  rintro e w9 ⟨rfl, hb⟩
  replace r0 := (hb.cell (p := ⟨w.heap.size, 0, none⟩) (cell_lt r0)).trans r0
  replace r1 := (hb.cell (p := ⟨w.heap.size, 1, none⟩) (cell_lt r1)).trans r1
  replace hR := hR.below hb
  replace hws := hws.below hb
  replace hl := hl.below hb
  replace hlv := hlv.below hb
  replace q := q.trans (hb.mono q.size)
  clear hb
  by_cases hf : fewS me.reads
  case neg =>
    rw [decide_eq_false hf]
    go_wp2_with fail
    go_ret
    exact ⟨rfl, q⟩
  rw [decide_eq_true hf]
  have hf1 := Lib.hid hf
  clear hf
  go_wp2_with fail
  refine (few_any _ (d := ⟨ws, []⟩) (S := S2) ⟨a, cx, none, 0, rfl, hws, RdL.nil _ _ _⟩).mono ?_
  rintro e w9 ⟨rfl, hb⟩
  replace r0 := (hb.cell (p := ⟨w.heap.size, 0, none⟩) (cell_lt r0)).trans r0
  replace r1 := (hb.cell (p := ⟨w.heap.size, 1, none⟩) (cell_lt r1)).trans r1
  replace hR := hR.below hb
  replace hws := hws.below hb
  replace hl := hl.below hb
  replace hlv := hlv.below hb
  replace q := q.trans (hb.mono q.size)
  clear hb
  by_cases hf : fewD ⟨ws, []⟩
  case neg =>
    rw [decide_eq_false hf]
    go_wp2_with fail
    go_ret
    exact ⟨rfl, q⟩
  rw [decide_eq_true hf]
  have hf2 := Lib.hid hf
  clear hf
  go_wp2_with fail
  refine (rFewP_any _ hl hlv).mono ?_
  rintro e w9 ⟨rfl, hb⟩
  replace r0 := (hb.cell (p := ⟨w.heap.size, 0, none⟩) (cell_lt r0)).trans r0
  replace r1 := (hb.cell (p := ⟨w.heap.size, 1, none⟩) (cell_lt r1)).trans r1
  replace hR := hR.below hb
  replace hws := hws.below hb
  replace hl := hl.below hb
  replace hlv := hlv.below hb
  replace q := q.trans (hb.mono q.size)
  clear hb
  by_cases hf : fewPs l lv
  case neg =>
    rw [decide_eq_false hf]
    go_wp2_with fail
    go_ret
    exact ⟨rfl, q⟩
  rw [decide_eq_true hf]
  have hf3 := Lib.hid hf
  clear hf
  have hsm := few_sm hf3.out
  have hmp : smP ⟨0, 0, false, me.reads, ws, false⟩ := few_smJ hf1.out hf2.out
  have hln : lv.length ≤ 1000000 := Nat.le_trans hf3.out.2.1 (by omega)
  have hls : ∀ x ∈ lv, smL x.reads := few_smV hf3.out
  clear hf1 hf2 hf3
  go_wp2_with fail
  refine (hJ.call _ (me := me) ⟨_, _, rfl, hR, hw64⟩ hws hl hlv hmp hsm hln hls).mono ?_
  rintro e w9 ⟨rfl, hb⟩
  replace r0 := (hb.cell (p := ⟨w.heap.size, 0, none⟩) (cell_lt r0)).trans r0
  replace r1 := (hb.cell (p := ⟨w.heap.size, 1, none⟩) (cell_lt r1)).trans r1
  replace hR := hR.below hb
  replace hws := hws.below hb
  replace hl := hl.below hb
  replace hlv := hlv.below hb
  replace q := q.trans (hb.mono q.size)
  clear hb
  obtain ⟨jo, ejo⟩ : ∃ j, j = (judgeP me ws l lv).1 := ⟨_, rfl⟩
  obtain ⟨je, eje⟩ : ∃ j, j = (judgeP me ws l lv).2 := ⟨_, rfl⟩
  rw [← ejo, ← eje]
  replace ejo := Lib.hid ejo
  replace eje := Lib.hid eje
  have hmt := hM.call _ hw64 hl hsm
  go_wp2_with fail
  refine hmt.mono ?_
  rintro e w10 ⟨aM, cM, rfl, hO, hb⟩
  have hm : RdL Elt.ps (fun _ => True) w10 (.slice aM (meetsP me.snap l).length cM) (meetsP me.snap l) := hO.rdL.weak fun _ _ => trivial
  clear hO hmt
  replace r0 := (hb.cell (p := ⟨w.heap.size, 0, none⟩) (cell_lt r0)).trans r0
  replace r1 := (hb.cell (p := ⟨w.heap.size, 1, none⟩) (cell_lt r1)).trans r1
  replace hR := hR.below hb
  replace hws := hws.below hb
  replace hl := hl.below hb
  replace hlv := hlv.below hb
  replace q := q.trans (hb.mono q.size)
  clear hb
  have hcl := hJ.call _ (me := me) ⟨_, _, rfl, hR, hw64⟩ hws hm hlv hmp (sm_meets hsm) hln hls
  rw [past_meets, ← ejo.out, ← eje.out] at hcl
  obtain ⟨M, eM⟩ : ∃ M, M = meetsP me.snap l := ⟨_, rfl⟩
  rw [← eM] at hm hcl
  rw [← eM]
  replace eM := Lib.hid eM
  go_wp2_with fail
  refine hcl.mono ?_
  rintro e w11 ⟨rfl, hb⟩
  clear hcl
  replace r0 := (hb.cell (p := ⟨w.heap.size, 0, none⟩) (cell_lt r0)).trans r0
  replace r1 := (hb.cell (p := ⟨w.heap.size, 1, none⟩) (cell_lt r1)).trans r1
  replace hR := hR.below hb
  replace hws := hws.below hb
  replace hl := hl.below hb
  replace hlv := hlv.below hb
  replace hm := hm.below hb
  replace q := q.trans (hb.mono q.size)
  clear hb
  have hlm : l.length ≤ 1000000 := hsm.1
  have hq0 := q
  clear q
  go_upto_region 9 with (fail)
  have qv := Below.refl w11.heap.size w11
  go_loopw [15, 16] (fun tv iv wr => ∃ (k : Nat) (xs : List Ps) (ad : Option Addr) (ko : Nat), iv = .int .i64 ((k : Int) - 1) ∧ k ≤ l.length ∧ xs = (l.drop k).reverse ∧ tv = .slice ad xs.length ko ∧ OwnL Elt.ps 50 w11.heap.size 0 wr (.slice ad xs.length ko) xs ∧ Below w11.heap.size w11 wr) (fun _ i _ => (intOf i + 1).toNat)
  case atStart => exact ⟨l.length, [], none, 0, by go_num, Nat.le_refl _, by rw [List.drop_length]; rfl, rfl, OwnL.nil _ _ _ _ _, qv⟩
  case round =>
    clear qv
    obtain ⟨k, xs, ad, ko, rfl, hkl, exs, rfl, hO, q⟩ := hrel
    replace exs := Lib.hid exs
    rcases Nat.eq_zero_or_pos k with h0 | hpos
    · subst h0
      have exr := Lib.hid (show xs = l.reverse by rw [exs.out, List.drop_zero])
      clear exs
      have di : decide ((0 : Int) ≤ ((0 : Nat) : Int) - 1) = false := decide_eq_false (by omega)
      replace r0 := (q.cell (p := ⟨w.heap.size, 0, none⟩) (cell_lt r0)).trans r0
      replace r1 := (q.cell (p := ⟨w.heap.size, 1, none⟩) (cell_lt r1)).trans r1
      replace hR := hR.below q
      replace hws := hws.below q
      replace hl := hl.below q
      replace hlv := hlv.below q
      replace hm := hm.below q
      replace q := hq0.trans (q.mono hq0.size)
      have ht : RdL Elt.ps (fun _ => True) _ (.slice ad xs.length ko) xs := hO.rdL.weak fun _ _ => trivial
      clear hO
      have hcl := hJ.call _ (me := me) ⟨_, _, rfl, hR, hw64⟩ hws ht hlv hmp (by rw [exr.out]; exact sm_turn hsm) hln hls
      rw [show judgeP me ws xs lv = judgeP me ws l lv by rw [exr.out]; exact past_turn, ← ejo.out, ← eje.out] at hcl
      clear exr
      go_wp2_with fail
      refine hcl.mono ?_
      rintro e w12 ⟨rfl, hb⟩
      clear hcl ht
      replace r0 := (hb.cell (p := ⟨w.heap.size, 0, none⟩) (cell_lt r0)).trans r0
      replace r1 := (hb.cell (p := ⟨w.heap.size, 1, none⟩) (cell_lt r1)).trans r1
      replace hR := hR.below hb
      replace hws := hws.below hb
      replace hl := hl.below hb
      replace hlv := hlv.below hb
      replace hm := hm.below hb
      replace q := q.trans (hb.mono q.size)
      clear hb
      have hq1 := q
      clear q
      have q := Below.refl w12.heap.size w12
      have hab : ∀ p ∈ M, me.snap < p.stamp := fun p hp => meets_above (eM.out ▸ hp)
      replace hab := Lib.hid hab
      obtain ⟨_, _, hcm⟩ := hm.len
      have hMm : M.length ≤ 9223372036854775807 := by unfold maxLen at hcm; omega
      clear hcm
      go_upto_region 14 with (fail)
      go_loopw [19] (fun iv wr => ∃ (i : Nat), iv = .int .i64 i ∧ i ≤ M.length ∧ Below w12.heap.size w12 wr) (fun i _ => M.length - (intOf i).toNat)
      case atStart => exact ⟨0, rfl, Nat.zero_le _, q⟩
      case round =>
        clear q
        obtain ⟨i, rfl, hil, q⟩ := hrel
        rcases Nat.lt_or_ge i M.length with hlt | hge
        · have di2 : decide ((i : Int) < (M.length : Int)) = true := decide_eq_true (by omega)
          obtain ⟨g1, o1, A1, A2, A3, A4, rfl, _, ⟨_, c1, _, _, _, _⟩, _, _, _⟩ := (hm.below q).ps i hlt
          have h9 := hab.out _ (List.getElem_mem hlt)
          have d9 : decide (M[i].stamp ≤ me.snap) = false := decide_eq_false (by omega)
          have z0 := (q.cell (p := ⟨w.heap.size, 0, none⟩) (cell_lt r0)).trans r0
          obtain ⟨sp, esp⟩ : ∃ s, s = M[i].stamp := ⟨_, rfl⟩
          rw [← esp] at c1 h9 d9
          clear esp
          go_upto_region 16 with (fail)
          go_quiet (fail)
          go_wp2_with fail
          go_roundw
          case rel => exact ⟨i + 1, by go_num, by omega, Below.drewN q _⟩
          case measure => simp [intOf]; omega
        · obtain rfl : i = M.length := by omega
          have di2 : decide ((M.length : Int) < (M.length : Int)) = false := decide_eq_false (by omega)
          have d1 : (jo == jo) = true := beq_self_eq_true _
          have d2 : ((je : Int) == (je : Int)) = true := beq_self_eq_true _
          replace q := hq1.trans (q.mono hq1.size)
          clear hab r0 r1 hR hws hl hlv hm
          go_wp2_with fail
          go_ret
          exact ⟨rfl, q⟩
    · obtain ⟨j, rfl⟩ : ∃ j, k = j + 1 := ⟨k - 1, by omega⟩
      have ej : (((j + 1 : Nat) : Int) - 1) = (j : Int) := by omega
      rw [ej]
      clear ej
      have hlt : j < l.length := by omega
      have di : decide ((0 : Int) ≤ (j : Int)) = true := decide_eq_true (by omega)
      have hxl : xs.length ≤ 1000000 := by rw [exs.out, List.length_reverse, List.length_drop]; omega
      have exn := Lib.hid (show xs ++ [l[j]] = (l.drop j).reverse by rw [turn_step hlt, exs.out])
      clear exs
      obtain ⟨g1, o1, A1, A2, A3, A4, rfl, hbS, ⟨c0, c1, c2, c3, c4, c5⟩, hk1, hk2, h64, h64b⟩ := ((hl.fit).below q).ps j hlt
      obtain ⟨x, ex⟩ : ∃ x, x = l[j] := ⟨_, rfl⟩
      rw [← ex] at c0 c1 c2 c3 c4 c5 hk1 hk2 exn h64 h64b
      clear ex
      have hR6 : Elt.ps.R (fun k => S3 k ∧ k < w11.heap.size) wr x [.int .i64 x.snap, .int .i64 x.stamp, .bool x.held, .slice A1 x.reads.length A2, .slice A3 x.writes.length A4, .bool x.out] := ⟨_, _, rfl, hk1, hk2, h64, h64b⟩
      have hrr : ∀ k, Value.ownBlock (.slice ad xs.length ko) = some k → w11.heap.size ≤ k ∧ k < wr.heap.size := fun k hk => hO.block_lt k hk
      have hqs := q.size
      go_upto_region 11 with (fail)
      go_wp2_with (first
        | (refine wpList_buildOne (us := [.int .i64 x.snap, .int .i64 x.stamp, .bool x.held, .slice A1 x.reads.length A2, .slice A3 x.writes.length A4, .bool x.out]) psP rfl rfl rfl rfl rfl (by decide) (by decide) ?_; intro w2 hb2 hrow)
        | (refine wpList_apvRow (E := Elt.ps) (n := xs.length + 1) (S := fun k => S3 k ∧ k < w11.heap.size) psP rfl rfl rfl rfl (hO.below hb2) hrow (Elt.below hR6 hb2) (fun k hk => ⟨Nat.zero_le _, Nat.lt_of_lt_of_le hk.2 (Nat.le_trans hqs hb2.size), fun e => by have := hrr k e.symm; omega⟩) (Nat.le_trans hqs hb2.size) (by omega) rfl ?_; intro ad9 c9 w3 hO9 hg9 ho9)
        | fail)
      have qn := (q.trans (hb2.mono hqs)).grown hg9 (Nat.le_trans hqs hb2.size) fun k hk => (hrr k hk).1
      go_roundw
      case rel => exact ⟨j, xs ++ [x], ad9, c9, by go_num, by omega, exn.out, by rw [List.length_append]; rfl, by rw [List.length_append]; exact hO9, qn⟩
      case measure => simp [intOf]
end Go.Proofs.Ytobelnedhlepaaa
