/-
  TEXTS OF ONE PROOF, merged: RvK, RivalTellsW, Bow, RvC, RvE, RivalOrderW, RivalFreeW, RvP.
-/
import Derived.Test.YtobelnedhlepaaaKt7
namespace Go.Proofs.Ytobelnedhlepaaa
open Go.RowKit Go.Shelf
section
variable {P : Program} {t : TypeId} {ops : Array Oper} {rest : List Oper} {o : Oper} {a : Act} {K : Act → World → Prop} {Q : Exit → Act → World → Prop} {w : World}
theorem wp_oneNew {z : Value} (hz : (P.info? t).bind (·.zero) = some z) (hc : z.cells = #[z]) (ho : o.op = .alloc t) (h : ∀ w', Below w.heap.size w w' → BoxN w' w.heap.size t [z] → K (a.put o.dst (.pointer (some ⟨w.heap.size, 0, none⟩))) w') : o.wp P a w K Q := by
  have hzz : (zeroValue t).run P w = .ok z w := by
    cases hi : P.info? t with
    | none => simp [hi] at hz
    | some i => simp [hi] at hz; simp [zeroValue, typeInfo, hi, hz]
  have hrun : (execOp a.eval o).run P w = .ok (.value (.pointer (some ⟨w.heap.size, 0, none⟩))) (w.alloc (.cells #[z] t)) := by
    unfold Value.cells at hc
    simp [execOp, ho, newVar, hzz, Value.cells, hc, go_sem]
  unfold Oper.wp
  rw [hrun]
  exact h _ ((Below.refl _ _).alloc (Nat.le_refl _) _) (BoxN.new w t [z])
theorem wpList_oneNew {z : Value} (hz : (P.info? t).bind (·.zero) = some z) (hc : z.cells = #[z]) (ho : o.op = .alloc t) (hgd : Region.wanted o (yielded ops a.tmps) = true) (h : ∀ w', Below w.heap.size w w' → BoxN w' w.heap.size t [z] → wpList P ops Q rest (a.put o.dst (.pointer (some ⟨w.heap.size, 0, none⟩))) w') : wpList P ops Q (o :: rest) a w :=
  BigFrame.wpList_want hgd fun _ hK => wp_oneNew hz hc ho fun w' h1 h2 => hK _ _ (h w' h1 h2)
theorem jump_ret {l : Nat} {J : Act → World → Prop} : Exit.jump l J Q .ret a w = Q .ret a w := rfl
end
theorem boxed_under {w w' : World} {b : Nat} {t : TypeId} {v : Value} (h : Boxed w b t v) (hb : Below w.heap.size w w') : Boxed w' b t v := (hb.block _ h.lt).trans h
theorem any_bad {r : List Sp} {ws : List Wr} (M : List Ps) : M.any (badP r ws) = (M.any (fun p => sameW p.writes ws) || M.any fun p => hitL r p.writes && p.out) := by
  induction M with
  | nil => rfl
  | cons x M ih =>
    simp only [List.any_cons, ih, badP]
    cases sameW x.writes ws <;> cases M.any (fun p => sameW p.writes ws) <;> simp
theorem judge_bad {r : List Sp} {ws : List Wr} {M : List Ps} {lv : List Lv} (h : M.any (badP r ws) = true) : judgeM r ws M lv = (false, 140) := by
  unfold judgeM
  rw [if_pos h]
theorem judge_ring {r : List Sp} {ws : List Wr} {M : List Ps} {lv : List Lv} (h : M.any (badP r ws) = false) (h1 : M.any (overP r) = true) (h2 : (M.any (underP ws) || lv.any (underL ws)) = true) : judgeM r ws M lv = (false, 140) := by
  unfold judgeM
  rw [h, h1, h2]
  rfl
theorem judge_may {r : List Sp} {ws : List Wr} {M : List Ps} {lv : List Lv} {o : Bool} (h : M.any (badP r ws) = false) (h1 : M.any (overP r) = o) (h2 : (o && (M.any (underP ws) || lv.any (underL ws))) = false) : judgeM r ws M lv = (o, 0) := by
  unfold judgeM
  rw [h, h1, h2]
  rfl
set_option maxRecDepth 100000 in
set_option maxHeartbeats 4000000 in
theorem judge1_any (w : World) {S S2 : Nat → Prop} {v : Value} {p : Ps} {wb : Nat} {a : Option Addr} {n c : Nat} {ws : List Wr} (hp : RdPs S2 w v p) (hB : Boxed w wb 25 (.slice a n c)) (hw : RdL Elt.wr S w (.slice a n c) ws) :
    Calls Try.prog 23 #[v, .pointer (some ⟨wb, 0, none⟩)] w fun e w' => e = .returned (.bool (sameW p.writes ws)) ∧ Below w.heap.size w w' := by
  obtain ⟨a1, a2, a3, a4, rfl, hkr, hkw, _, _⟩ := hp
  obtain ⟨W, hW, q, Bx, hsz⟩ := spBox w 50 [.int .i64 p.snap, .int .i64 p.stamp, .bool p.held, .slice a1 p.reads.length a2, .slice a3 p.writes.length a4, .bool p.out]
  clear hsz
  go_enter Try.func23, Try.ntmps23
  go_upto_region 1 with (fail)
  rw [show w.alloc (.cells #[.int .i64 p.snap, .int .i64 p.stamp, .bool p.held, .slice a1 p.reads.length a2, .slice a3 p.writes.length a4, .bool p.out] 50) = W from hW.symm]
  clear hW
  have c4 := Bx.cell (i := 4) rfl
  have d0 := (q.cell (p := ⟨_, _, none⟩) (cell_lt hB.cell)).trans hB.cell
  go_wp2_with fail
  refine (sSame_any W (hkw.below q) (hw.below q)).mono ?_
  rintro e w1 ⟨rfl, hb⟩
  clear c4 d0
  go_wp2_with fail
  go_ret
  exact ⟨rfl, q.trans (hb.mono q.size)⟩
set_option maxRecDepth 100000 in
set_option maxHeartbeats 4000000 in
theorem judge2_any (w : World) {S S2 : Nat → Prop} {v : Value} {p : Ps} {mb : Nat} {s : Int} {a : Option Addr} {n c : Nat} {r : List Sp} (hp : RdPs S2 w v p) (hB : BoxN w mb 24 [.int .i64 s, .slice a n c]) (hr : RdL Elt.sp S w (.slice a n c) r) :
    Calls Try.prog 25 #[v, .pointer (some ⟨mb, 0, none⟩)] w fun e w' => e = .returned (.bool (hitL r p.writes)) ∧ Below w.heap.size w w' := by
  obtain ⟨a1, a2, a3, a4, rfl, hkr, hkw, _, _⟩ := hp
  obtain ⟨W, hW, q, Bx, hsz⟩ := spBox w 50 [.int .i64 p.snap, .int .i64 p.stamp, .bool p.held, .slice a1 p.reads.length a2, .slice a3 p.writes.length a4, .bool p.out]
  clear hsz
  go_enter Try.func25, Try.ntmps25
  go_upto_region 1 with (fail)
  rw [show w.alloc (.cells #[.int .i64 p.snap, .int .i64 p.stamp, .bool p.held, .slice a1 p.reads.length a2, .slice a3 p.writes.length a4, .bool p.out] 50) = W from hW.symm]
  clear hW
  have c4 := Bx.cell (i := 4) rfl
  have d1 := (q.cell (p := ⟨_, _, none⟩) (cell_lt (hB.cell (i := 1) rfl))).trans (hB.cell (i := 1) rfl)
  go_wp2_with fail
  refine (sHit_any W (hr.below q) (hkw.below q)).mono ?_
  rintro e w1 ⟨rfl, hb⟩
  clear c4 d1
  go_wp2_with fail
  go_ret
  exact ⟨rfl, q.trans (hb.mono q.size)⟩
set_option maxRecDepth 100000 in
set_option maxHeartbeats 4000000 in
theorem judge4_any (w : World) {S S2 : Nat → Prop} {v : Value} {p : Ps} {wb : Nat} {a : Option Addr} {n c : Nat} {ws : List Wr} (hp : RdPs S2 w v p) (hB : Boxed w wb 25 (.slice a n c)) (hw : RdL Elt.wr S w (.slice a n c) ws) :
    Calls Try.prog 28 #[v, .pointer (some ⟨wb, 0, none⟩)] w fun e w' => e = .returned (.bool (hitL p.reads ws)) ∧ Below w.heap.size w w' := by
  obtain ⟨a1, a2, a3, a4, rfl, hkr, hkw, _, _⟩ := hp
  obtain ⟨W, hW, q, Bx, hsz⟩ := spBox w 50 [.int .i64 p.snap, .int .i64 p.stamp, .bool p.held, .slice a1 p.reads.length a2, .slice a3 p.writes.length a4, .bool p.out]
  clear hsz
  go_enter Try.func28, Try.ntmps28
  go_upto_region 1 with (fail)
  rw [show w.alloc (.cells #[.int .i64 p.snap, .int .i64 p.stamp, .bool p.held, .slice a1 p.reads.length a2, .slice a3 p.writes.length a4, .bool p.out] 50) = W from hW.symm]
  clear hW
  have c3 := Bx.cell (i := 3) rfl
  have d0 := (q.cell (p := ⟨_, _, none⟩) (cell_lt hB.cell)).trans hB.cell
  go_wp2_with fail
  refine (sHit_any W (hkr.below q) (hw.below q)).mono ?_
  rintro e w1 ⟨rfl, hb⟩
  clear c3 d0
  go_wp2_with fail
  go_ret
  exact ⟨rfl, q.trans (hb.mono q.size)⟩
set_option maxRecDepth 100000 in
set_option maxHeartbeats 4000000 in
theorem judge5_any (w : World) {S S2 : Nat → Prop} {v : Value} {x : Lv} {wb : Nat} {a : Option Addr} {n c : Nat} {ws : List Wr} (hp : RdLv S2 w v x) (hB : Boxed w wb 25 (.slice a n c)) (hw : RdL Elt.wr S w (.slice a n c) ws) :
    Calls Try.prog 29 #[v, .pointer (some ⟨wb, 0, none⟩)] w fun e w' => e = .returned (.bool (hitL x.reads ws)) ∧ Below w.heap.size w w' := by
  obtain ⟨a1, a2, rfl, hkr, _⟩ := hp
  obtain ⟨W, hW, q, Bx, hsz⟩ := spBox w 24 [.int .i64 x.snap, .slice a1 x.reads.length a2]
  clear hsz
  go_enter Try.func29, Try.ntmps29
  go_upto_region 1 with (fail)
  rw [show w.alloc (.cells #[.int .i64 x.snap, .slice a1 x.reads.length a2] 24) = W from hW.symm]
  clear hW
  have c1 := Bx.cell (i := 1) rfl
  have d0 := (q.cell (p := ⟨_, _, none⟩) (cell_lt hB.cell)).trans hB.cell
  go_wp2_with fail
  refine (sHit_any W (hkr.below q) (hw.below q)).mono ?_
  rintro e w1 ⟨rfl, hb⟩
  clear c1 d0
  go_wp2_with fail
  go_ret
  exact ⟨rfl, q.trans (hb.mono q.size)⟩
set_option maxRecDepth 100000 in
set_option maxHeartbeats 4000000 in
theorem judge3_any (w : World) {S S2 : Nat → Prop} {v : Value} {p : Ps} {mb fb : Nat} {s : Int} {a : Option Addr} {n c : Nat} {r : List Sp} (hp : RdPs S2 w v p) (hF : Boxed w fb 60 (.func (.func 25) #[] #[.pointer (some ⟨mb, 0, none⟩)])) (hB : BoxN w mb 24 [.int .i64 s, .slice a n c]) (hr : RdL Elt.sp S w (.slice a n c) r) :
    Calls Try.prog 27 #[v, .pointer (some ⟨fb, 0, none⟩)] w fun e w' => e = .returned (.bool (hitL r p.writes && p.out)) ∧ Below w.heap.size w w' := by
  have hp0 := hp
  obtain ⟨a1, a2, a3, a4, rfl, hkr, hkw, _, _⟩ := hp
  clear hkr hkw
  obtain ⟨W, hW, q, Bx, hsz⟩ := spBox w 50 [.int .i64 p.snap, .int .i64 p.stamp, .bool p.held, .slice a1 p.reads.length a2, .slice a3 p.writes.length a4, .bool p.out]
  clear hsz
  have eJ : ∀ args w, (callFunc 25 args).run Try.prog w = .ok (.enter 25 args) w := enters_of Try.func25 (by kernel_rfl) rfl
  go_enter Try.func27, Try.ntmps27
  go_upto_region 1 with (fail)
  rw [show w.alloc (.cells #[.int .i64 p.snap, .int .i64 p.stamp, .bool p.held, .slice a1 p.reads.length a2, .slice a3 p.writes.length a4, .bool p.out] 50) = W from hW.symm]
  clear hW
  have c0 := Bx.cell (i := 0) rfl
  have c1 := Bx.cell (i := 1) rfl
  have c2 := Bx.cell (i := 2) rfl
  have c3 := Bx.cell (i := 3) rfl
  have c4 := Bx.cell (i := 4) rfl
  have c5 := Bx.cell (i := 5) rfl
  have d0 := (q.cell (p := ⟨_, _, none⟩) (cell_lt hF.cell)).trans hF.cell
  have hcl := judge2_any W (hp0.below q) (hB.below q hB.lt) (hr.below q)
  clear hF hB hp0 hr Bx
  obtain ⟨o, eo⟩ : ∃ o, o = p.out := ⟨_, rfl⟩
  rw [← eo] at c5 hcl
  replace eo := Lib.hid eo
  cases o with
  | false =>
    clear hcl
    go_wp2_with fail
    go_ret
    exact ⟨by rw [← eo.out, Bool.and_false]; rfl, q⟩
  | true =>
    go_wp2_with fail
    refine hcl.mono ?_
    rintro e w1 ⟨rfl, hb⟩
    clear c0 c1 c2 c3 c4 c5 d0 hcl
    go_wp2_with fail
    go_ret
    exact ⟨by rw [← eo.out, Bool.and_true]; rfl, q.trans (hb.mono q.size)⟩
set_option maxRecDepth 100000 in
set_option maxHeartbeats 16000000 in
theorem sJudge_any (w : World) {S S2 S3 S4 : Nat → Prop} {v : Value} {me : Lv} {a a2 a3 : Option Addr} {n cx n2 cy n3 cz : Nat} {ws : List Wr} {l : List Ps} {lv : List Lv} (hme : RdLv S w v me) (hws : RdL Elt.wr S2 w (.slice a n cx) ws) (hl : RdL Elt.ps S3 w (.slice a2 n2 cy) l) (hlv : RdL Elt.lv S4 w (.slice a3 n3 cz) lv) (hsm : smPs l) :
    Calls Try.prog 12 #[v, .slice a n cx, .slice a2 n2 cy, .slice a3 n3 cz] w fun e w' => e = .returned (.tuple #[.bool (judgeP me ws l lv).1, .int .i64 ((judgeP me ws l lv).2 : Int)]) ∧ Below w.heap.size w w' := by
  obtain ⟨aR, cR, rfl, hR, hw64⟩ := hme
  obtain ⟨W, hW, q0, Bm, Bw, hsz⟩ := spBoxes2 w 24 25 [.int .i64 me.snap, .slice aR me.reads.length cR] [.slice a n cx]
  have e3 : ∀ args w, (callFunc 23 args).run Try.prog w = .ok (.enter 23 args) w := enters_of Try.func23 (by kernel_rfl) rfl
  unfold judgeP
  go_enter Try.func12, Try.ntmps12
  go_upto_region 1 with (fail)
  rw [show (w.alloc (.cells #[.int .i64 me.snap, .slice aR me.reads.length cR] 24)).alloc (.cells #[.slice a n cx] 25) = W from hW.symm]
  clear hW e3
  refine wp_scope_jumps 0 (fun a' w' => (∃ x0 x1 x2 x3 x4 x5 x6 x7 x8 x9 x10 x11 x12 x13 x14 x15 x16 x17 x18 x19 x20 x21 x22 x23 x24 x25 x26 x27 x28 x29 x30 x31 x32 x33 x34 x35 x36 x37 x38 x39 x40 x41 x42 x43 x44 x45 x46 x47 x48 : Value, a' = { tmps := #[x0, x1, x2, x3, x4, x5, x6, x7, x8, x9, x10, x11, x12, x13, x14, x15, x16, x17, x18, x19, x20, x21, x22, x23, x24, x25, x26, x27, x28, x29, x30, x31, x32, x33, x34, x35, x36, x37, x38, x39, x40, x41, x42, x43, x44, x45, x46, x47, x48], defers := [] }) ∧ judgeM me.reads ws (meetsP me.snap l) lv = (false, 140) ∧ Below w.heap.size w w') (fun _ _ => 0) rfl ?first ?pass
  case pass =>
    rintro a' w' ⟨⟨x0, x1, x2, x3, x4, x5, x6, x7, x8, x9, x10, x11, x12, x13, x14, x15, x16, x17, x18, x19, x20, x21, x22, x23, x24, x25, x26, x27, x28, x29, x30, x31, x32, x33, x34, x35, x36, x37, x38, x39, x40, x41, x42, x43, x44, x45, x46, x47, x48, rfl⟩, hJ, q⟩
    clear hR hws hl hlv hsm hw64 q0 Bm Bw hsz
    dsimp only
    go_wp2_with fail
    rw [jump_ret]
    go_ret2
    exact ⟨by rw [hJ]; rfl, q⟩
  case first =>
    go_upto_region 3 with (first
      | (refine wpList_oneNew (z := .nilFunc) (by kernel_rfl) rfl rfl rfl ?_; intro w1 hb1 Bf)
      | (refine wpList_boxSet (t := 60) (b := W.heap.size) (j := 0) (vs := [.nilFunc]) (u := .func (.func 25) #[] #[.pointer (some ⟨w.heap.size, 0, none⟩)]) rfl rfl rfl (by kernel_rfl) rfl rfl rfl rfl Bf (by decide) ?_; intro w2 hg2 Bg)
      | fail)
    have hbb := hb1.grown hg2 hb1.size fun k e => by injection e with e; omega
    have q := q0.trans (hbb.mono q0.size)
    replace Bm := Bm.below hbb Bm.lt
    replace Bw : Boxed w2 (w.heap.size + 1) 25 (.slice a n cx) := Bw.below hbb Bw.lt
    replace Bg : Boxed w2 W.heap.size 60 (.func (.func 25) #[] #[.pointer (some ⟨w.heap.size, 0, none⟩)]) := Bg
    clear hb1 hg2 hbb q0 hsz Bf
    obtain ⟨fb, efb⟩ : ∃ k, k = W.heap.size := ⟨_, rfl⟩
    rw [← efb] at Bg ⊢
    clear efb
    obtain ⟨wb, ewb⟩ : ∃ k, k = w.heap.size + 1 := ⟨_, rfl⟩
    rw [← ewb] at Bw ⊢
    clear ewb
    have r0 := Bm.cell (i := 0) rfl
    replace hR := hR.below q
    replace hws := hws.below q
    replace hlv := hlv.below q
    have hmt := sMeetsP_any w2 hw64 (hl.below q) hsm
    clear hl hsm hw64
    go_wp2_with fail
    refine hmt.mono ?_
    rintro e w3 ⟨aM, cM, rfl, hO, hb⟩
    have hM : RdL Elt.ps (fun _ => True) w3 (.slice aM (meetsP me.snap l).length cM) (meetsP me.snap l) := hO.rdL.weak fun _ _ => trivial
    clear hO r0 hmt
    replace q := q.trans (hb.mono q.size)
    replace Bm := Bm.below hb Bm.lt
    replace Bw := boxed_under Bw hb
    replace Bg := boxed_under Bg hb
    replace hR := hR.below hb
    replace hws := hws.below hb
    replace hlv := hlv.below hb
    clear hb
    obtain ⟨M, eM⟩ : ∃ M, M = meetsP me.snap l := ⟨_, rfl⟩
    rw [← eM] at hM
    replace eM := Lib.hid eM
    have d := Bg.cell
    have hc2 := containsP_any w3 hM 25 #[] #[.pointer (some ⟨w.heap.size, 0, none⟩)] (enters_of Try.func25 (by kernel_rfl) rfl) (overP me.reads) (fun V _ _ hb hp => judge2_any V hp (Bm.below hb Bm.lt) (hR.below hb))
    rw [← eM.out]
    go_wp2_with fail
    refine hc2.mono ?_
    rintro e w4 ⟨rfl, hb⟩
    clear hc2 d
    replace q := q.trans (hb.mono q.size)
    replace Bm := Bm.below hb Bm.lt
    replace Bw := boxed_under Bw hb
    replace Bg := boxed_under Bg hb
    replace hR := hR.below hb
    replace hws := hws.below hb
    replace hlv := hlv.below hb
    replace hM := hM.below hb
    clear hb
    obtain ⟨bo, ebo⟩ : ∃ b, b = M.any (overP me.reads) := ⟨_, rfl⟩
    rw [← ebo]
    replace ebo := Lib.hid ebo
    have hc1 := containsP_any w4 hM 23 #[] #[.pointer (some ⟨wb, 0, none⟩)] (enters_of Try.func23 (by kernel_rfl) rfl) (fun p => sameW p.writes ws) (fun V _ _ hb hp => judge1_any V hp (boxed_under Bw hb) (hws.below hb))
    go_wp2_with fail
    refine hc1.mono ?_
    rintro e w5 ⟨rfl, hb⟩
    clear hc1
    replace q := q.trans (hb.mono q.size)
    replace Bm := Bm.below hb Bm.lt
    replace Bw := boxed_under Bw hb
    replace Bg := boxed_under Bg hb
    replace hR := hR.below hb
    replace hws := hws.below hb
    replace hlv := hlv.below hb
    replace hM := hM.below hb
    clear hb
    obtain ⟨b1, eb1⟩ : ∃ b, b = M.any fun p => sameW p.writes ws := ⟨_, rfl⟩
    rw [← eb1]
    cases b1 with
    | true =>
      have hJ := Lib.hid (judge_bad (lv := lv) (r := me.reads) (by rw [any_bad, ← eb1, Bool.true_or]))
      clear eb1 ebo
      go_wp2_with fail
      go_step3
      exact ⟨rfl, ⟨_, _, _, _, _, _, _, _, _, _, _, _, _, _, _, _, _, _, _, _, _, _, _, _, _, _, _, _, _, _, _, _, _, _, _, _, _, _, _, _, _, _, _, _, _, _, _, _, _, rfl⟩, by rw [← eM.out]; exact hJ.out, q⟩
    | false =>
      have hc2 := containsP_any w5 hM 27 #[] #[.pointer (some ⟨fb, 0, none⟩)] (enters_of Try.func27 (by kernel_rfl) rfl) (fun p => hitL me.reads p.writes && p.out) (fun V _ _ hb hp => judge3_any V hp (boxed_under Bg hb) (Bm.below hb Bm.lt) (hR.below hb))
      have hbad := any_bad (r := me.reads) (ws := ws) M
      rw [← eb1, Bool.false_or] at hbad
      replace hbad := Lib.hid hbad
      clear eb1
      go_wp2_with fail
      refine hc2.mono ?_
      rintro e w6 ⟨rfl, hb⟩
      clear hc2
      replace q := q.trans (hb.mono q.size)
      replace Bw := boxed_under Bw hb
      replace hws := hws.below hb
      replace hlv := hlv.below hb
      replace hM := hM.below hb
      clear hb
      clear Bm Bg hR
      obtain ⟨b2, eb2⟩ : ∃ b, b = M.any fun p => hitL me.reads p.writes && p.out := ⟨_, rfl⟩
      rw [← eb2]
      cases b2 with
      | true =>
        have hJ := Lib.hid (judge_bad (lv := lv) (hbad.out.trans eb2.symm))
        clear eb2 ebo hbad
        go_wp2_with fail
        go_step3
        exact ⟨rfl, ⟨_, _, _, _, _, _, _, _, _, _, _, _, _, _, _, _, _, _, _, _, _, _, _, _, _, _, _, _, _, _, _, _, _, _, _, _, _, _, _, _, _, _, _, _, _, _, _, _, _, rfl⟩, by rw [← eM.out]; exact hJ.out, q⟩
      | false =>
        replace hbad := Lib.hid (hbad.out.trans eb2.symm)
        clear eb2
        cases bo with
        | false =>
          have hJ := Lib.hid (judge_may (lv := lv) hbad.out ebo.out.symm (by rw [Bool.false_and]))
          clear ebo hbad
          go_wp2_with fail
          rw [jump_ret]
          go_ret2
          exact ⟨by rw [← eM.out, hJ.out]; rfl, q⟩
        | true =>
          have hc3 := containsP_any w6 hM 28 #[] #[.pointer (some ⟨wb, 0, none⟩)] (enters_of Try.func28 (by kernel_rfl) rfl) (underP ws) (fun V _ _ hb hp => judge4_any V hp (boxed_under Bw hb) (hws.below hb))
          go_wp2_with fail
          refine hc3.mono ?_
          rintro e w7 ⟨rfl, hb⟩
          clear hc3
          replace q := q.trans (hb.mono q.size)
          replace Bw := boxed_under Bw hb
          replace hws := hws.below hb
          replace hlv := hlv.below hb
          replace hM := hM.below hb
          clear hb
          obtain ⟨b3, eb3⟩ : ∃ b, b = M.any (underP ws) := ⟨_, rfl⟩
          rw [← eb3]
          cases b3 with
          | true =>
            have hJ := Lib.hid (judge_ring (lv := lv) hbad.out ebo.out.symm (by rw [← eb3, Bool.true_or]))
            clear eb3 ebo hbad
            go_wp2_with fail
            go_step3
            exact ⟨rfl, ⟨_, _, _, _, _, _, _, _, _, _, _, _, _, _, _, _, _, _, _, _, _, _, _, _, _, _, _, _, _, _, _, _, _, _, _, _, _, _, _, _, _, _, _, _, _, _, _, _, _, rfl⟩, by rw [← eM.out]; exact hJ.out, q⟩
          | false =>
            replace eb3 := Lib.hid eb3
            have hc4 := containsL_any w7 hlv 29 #[] #[.pointer (some ⟨wb, 0, none⟩)] (enters_of Try.func29 (by kernel_rfl) rfl) (underL ws) (fun V _ _ hb hp => judge5_any V hp (boxed_under Bw hb) (hws.below hb))
            go_wp2_with fail
            refine hc4.mono ?_
            rintro e w8 ⟨rfl, hb⟩
            clear hc4
            replace q := q.trans (hb.mono q.size)
            replace Bw := boxed_under Bw hb
            replace hws := hws.below hb
            replace hlv := hlv.below hb
            replace hM := hM.below hb
            clear hb
            obtain ⟨b4, eb4⟩ : ∃ b, b = lv.any (underL ws) := ⟨_, rfl⟩
            rw [← eb4]
            cases b4 with
            | true =>
              have hJ := Lib.hid (judge_ring hbad.out ebo.out.symm (by rw [← eb3.out, ← eb4, Bool.false_or]))
              clear eb3 eb4 ebo hbad
              go_wp2_with fail
              go_step3
              exact ⟨rfl, ⟨_, _, _, _, _, _, _, _, _, _, _, _, _, _, _, _, _, _, _, _, _, _, _, _, _, _, _, _, _, _, _, _, _, _, _, _, _, _, _, _, _, _, _, _, _, _, _, _, _, rfl⟩, by rw [← eM.out]; exact hJ.out, q⟩
            | false =>
              have hJ := Lib.hid (judge_may hbad.out ebo.out.symm (by rw [← eb3.out, ← eb4]; rfl))
              clear eb3 eb4 ebo hbad
              go_wp2_with fail
              rw [jump_ret]
              go_ret2
              exact ⟨by rw [← eM.out, hJ.out]; rfl, q⟩
theorem judges : Judges := ⟨fun w _ _ _ _ _ _ _ _ _ _ _ _ _ _ _ _ _ _ hme hws hl hlv _ hsm _ _ => sJudge_any w hme hws hl hlv hsm⟩
end Go.Proofs.Ytobelnedhlepaaa
namespace Go.Proofs.Ytobelnedhlepaaa
open Go.RowKit Go.Shelf
def sgVq (l : List Ps) : SG := ⟨fun w v => ∃ a c, v = .slice a l.length c ∧ RdL Elt.ps (fun _ => True) w (.slice a l.length c) l, fun _ _ _ ⟨a, c, e, h⟩ hb => ⟨a, c, e, h.below hb⟩⟩
theorem few_smJ {r : List Sp} {ws : List Wr} (h : fewS r) (h2 : fewD ⟨ws, []⟩) : smP ⟨0, 0, false, r, ws, false⟩ :=
  ⟨⟨Nat.le_trans h.1 (by omega), fun s hs => ⟨Nat.le_trans (h.2 s hs).1 (by omega), Nat.le_trans (h.2 s hs).2 (by omega)⟩⟩, Nat.le_trans h2.1 (by omega), fun y hy => ⟨Nat.le_trans (h2.2.2 y hy).1 (by omega), Nat.le_trans (h2.2.2 y hy).2 (by omega)⟩⟩
theorem few_smV {l : List Ps} {lv : List Lv} (h : fewPs l lv) : ∀ x ∈ lv, smL x.reads := fun x hx => ⟨Nat.le_trans (h.2.2.2 x hx).1.1 (by omega), fun s hs => ⟨Nat.le_trans ((h.2.2.2 x hx).1.2 s hs).1 (by omega), Nat.le_trans ((h.2.2.2 x hx).1.2 s hs).2 (by omega)⟩⟩
set_option maxRecDepth 100000 in
set_option maxHeartbeats 16000000 in
theorem RivalTells_w (w : World) {S S2 S3 S4 : Nat → Prop} {v : Value} {me : Lv} {a a2 a3 : Option Addr} {n cx n2 cy n3 cz : Nat} {ws : List Wr} {l : List Ps} {lv : List Lv} (h0 : RdLv S w v me) (hws : RdL Elt.wr S2 w (.slice a n cx) ws) (hl : RdL Elt.ps S3 w (.slice a2 n2 cy) l) (hlv : RdL Elt.lv S4 w (.slice a3 n3 cz) lv) :
    Calls Try.prog 3 #[v, .slice a n cx, .slice a2 n2 cy, .slice a3 n3 cz] w fun e w' => e = .returned (.bool true) ∧ Below w.heap.size w w' := by
  have hJ := judges
  have hM := meetsC
  obtain ⟨aR, cR, rfl, hR, hw64⟩ := h0
  obtain ⟨rfl, _, _⟩ := hws.len
  obtain ⟨rfl, _, _⟩ := hl.len
  obtain ⟨rfl, _, _⟩ := hlv.len
  obtain ⟨W, hW, q, Bx, hsz⟩ := spBox w 24 [.int .i64 me.snap, .slice aR me.reads.length cR]
  have eM : ∀ args w, (callFunc 15 args).run Try.prog w = .ok (.enter 15 args) w := enters_of Try.func15 (by kernel_rfl) rfl
  have eR : ∀ args w, (callFunc 16 args).run Try.prog w = .ok (.enter 16 args) w := enters_of Try.func16 (by kernel_rfl) rfl
  have eA : ∀ args w, (callFunc 14 args).run Try.prog w = .ok (.enter 14 args) w := enters_of Try.func14 (by kernel_rfl) rfl
  go_enter Try.func3, Try.ntmps3
  go_upto_region 1 with (fail)
  rw [show w.alloc (.cells #[.int .i64 me.snap, .slice aR me.reads.length cR] 24) = W from hW.symm]
  clear hW hsz
  have r0 := Bx.cell (i := 0) rfl
  have r1 := Bx.cell (i := 1) rfl
  clear Bx
  replace hR := hR.below q
  replace hws := hws.below q
  replace hl := hl.below q
  replace hlv := hlv.below q
  go_wp2_with fail
  refine (awake14_any hJ hM W).mono ?_
  rintro e w9 ⟨rfl, hb⟩
  replace r0 := (hb.cell (p := ⟨w.heap.size, 0, none⟩) (cell_lt r0)).trans r0
  replace r1 := (hb.cell (p := ⟨w.heap.size, 1, none⟩) (cell_lt r1)).trans r1
  replace hR := hR.below hb
  replace hws := hws.below hb
  replace hl := hl.below hb
  replace hlv := hlv.below hb
  replace q := q.trans (hb.mono q.size)
  clear hb
  go_wp2_with fail
  refine (rFew_any _ hR).mono ?_
  rintro e w9 ⟨rfl, hb⟩
  replace r0 := (hb.cell (p := ⟨w.heap.size, 0, none⟩) (cell_lt r0)).trans r0
  replace r1 := (hb.cell (p := ⟨w.heap.size, 1, none⟩) (cell_lt r1)).trans r1
  replace hR := hR.below hb
  replace hws := hws.below hb
  replace hl := hl.below hb
  replace hlv := hlv.below hb
  replace q := q.trans (hb.mono q.size)
  clear hb
  by_cases hf : fewS me.reads
  case neg =>
    rw [decide_eq_false hf]
    go_wp2_with fail
    go_ret
    exact ⟨rfl, q⟩
  rw [decide_eq_true hf]
  have hf1 := Lib.hid hf
  clear hf
  go_wp2_with fail
  refine (few_any _ (d := ⟨ws, []⟩) (S := S2) ⟨a, cx, none, 0, rfl, hws, RdL.nil _ _ _⟩).mono ?_
  rintro e w9 ⟨rfl, hb⟩
  replace r0 := (hb.cell (p := ⟨w.heap.size, 0, none⟩) (cell_lt r0)).trans r0
  replace r1 := (hb.cell (p := ⟨w.heap.size, 1, none⟩) (cell_lt r1)).trans r1
  replace hR := hR.below hb
  replace hws := hws.below hb
  replace hl := hl.below hb
  replace hlv := hlv.below hb
  replace q := q.trans (hb.mono q.size)
  clear hb
  by_cases hf : fewD ⟨ws, []⟩
  case neg =>
    rw [decide_eq_false hf]
    go_wp2_with fail
    go_ret
    exact ⟨rfl, q⟩
  rw [decide_eq_true hf]
  have hf2 := Lib.hid hf
  clear hf
  go_wp2_with fail
  refine (rFewP_any _ hl hlv).mono ?_
  rintro e w9 ⟨rfl, hb⟩
  replace r0 := (hb.cell (p := ⟨w.heap.size, 0, none⟩) (cell_lt r0)).trans r0
  replace r1 := (hb.cell (p := ⟨w.heap.size, 1, none⟩) (cell_lt r1)).trans r1
  replace hR := hR.below hb
  replace hws := hws.below hb
  replace hl := hl.below hb
  replace hlv := hlv.below hb
  replace q := q.trans (hb.mono q.size)
  clear hb
  by_cases hf : fewPs l lv
  case neg =>
    rw [decide_eq_false hf]
    go_wp2_with fail
    go_ret
    exact ⟨rfl, q⟩
  rw [decide_eq_true hf]
  have hf3 := Lib.hid hf
  clear hf
  have hsm := few_sm hf3.out
  have hmp : smP ⟨0, 0, false, me.reads, ws, false⟩ := few_smJ hf1.out hf2.out
  have hln : lv.length ≤ 1000000 := Nat.le_trans hf3.out.2.1 (by omega)
  have hls : ∀ x ∈ lv, smL x.reads := few_smV hf3.out
  clear hf1 hf2 hf3
  go_upto_region 4 with (fail)
  go_wp2_with fail
  refine (hJ.call _ (me := me) ⟨_, _, rfl, hR, hw64⟩ hws hl hlv hmp hsm hln hls).mono ?_
  rintro e w9 ⟨rfl, hb⟩
  replace r0 := (hb.cell (p := ⟨w.heap.size, 0, none⟩) (cell_lt r0)).trans r0
  replace r1 := (hb.cell (p := ⟨w.heap.size, 1, none⟩) (cell_lt r1)).trans r1
  replace hR := hR.below hb
  replace hws := hws.below hb
  replace hl := hl.below hb
  replace hlv := hlv.below hb
  replace q := q.trans (hb.mono q.size)
  clear hb
  obtain ⟨jo, ejo⟩ : ∃ j, j = (judgeP me ws l lv).1 := ⟨_, rfl⟩
  obtain ⟨je, eje⟩ : ∃ j, j = (judgeP me ws l lv).2 := ⟨_, rfl⟩
  rw [← ejo, ← eje]
  have hcl := rJudge_any _ (me := me) ⟨_, _, rfl, hR, hw64⟩ hws hl hlv hsm
  rw [← ejo, ← eje] at hcl
  clear ejo eje
  go_wp2_with fail
  refine hcl.mono ?_
  rintro e w9 ⟨rfl, hb⟩
  clear hcl
  replace r0 := (hb.cell (p := ⟨w.heap.size, 0, none⟩) (cell_lt r0)).trans r0
  replace r1 := (hb.cell (p := ⟨w.heap.size, 1, none⟩) (cell_lt r1)).trans r1
  replace hR := hR.below hb
  replace hws := hws.below hb
  replace hl := hl.below hb
  replace hlv := hlv.below hb
  replace q := q.trans (hb.mono q.size)
  clear hb
  go_upto_region 6 with (fail)
  refine wp_region_gsg (by kernel_rfl) (by kernel_rfl) [sgEq (.pointer (some ⟨w.heap.size, 0, none⟩)), sgEq (.int .i64 me.snap), sgEq (.slice a2 l.length cy), sgVq (meetsP me.snap l), sgEq (.pointer (some ⟨w.heap.size, 0, none⟩)), sgEq (.int .i64 me.snap), sgEq (.slice a2 l.length cy), sgVq (meetsP me.snap l), sgEq (.bool true), sgEq (.bool true)]
    ⟨?o0, ?o1, ?o2, ?o3, ?o4, ?o5, ?o6, ?o7, ?o8, ?o9, trivial⟩ ?fin
  case o0 =>
    refine GdOp.plain rfl (fun A vs w' hF hT hb hd => ?_)
    have e1 : A.eval (.tmp 4) = .pointer (some ⟨w.heap.size, 0, none⟩) := hF 4 rfl
    exact wp_fieldN lvS rfl (e1) (by omega) ⟨_, rfl, rfl, Below.refl _ _⟩
  case o1 =>
    refine GdOp.plain rfl (fun A vs w' hF hT hb hd => ?_)
    have e1 : A.eval (.tmp 49) = .pointer (some ⟨w.heap.size, 0, none⟩) := (hT 49 0 (by simp) rfl).trans (hd ⟨0, .data⟩ (by simp) rfl)
    exact wp_ld_int (k := .i64) rfl e1 (by kernel_rfl) (((hb.cell (p := ⟨w.heap.size, 0, none⟩) (cell_lt r0)).trans r0)) ⟨_, rfl, rfl, Below.refl _ _⟩
  case o2 =>
    refine GdOp.plain rfl (fun A vs w' hF hT hb hd => ?_)
    have e1 : A.eval (.tmp 2) = .slice a2 l.length cy := hF 2 rfl
    exact BigFrame.wp_move _ rfl ⟨_, rfl, e1, Below.refl _ _⟩
  case o3 =>
    refine GdOp.plain rfl (fun A vs w' hF hT hb hd => ?_)
    have e1 : A.eval (.tmp 50) = .int .i64 me.snap := (hT 50 1 (by simp) rfl).trans (hd ⟨1, .data⟩ (by simp) rfl)
    have e2 : A.eval (.tmp 51) = .slice a2 l.length cy := (hT 51 2 (by simp) rfl).trans (hd ⟨2, .data⟩ (by simp) rfl)
    refine wp_callFn rfl eM (args := #[.int .i64 me.snap, .slice a2 l.length cy]) (by simp only [List.map_toArray, List.map_cons, List.map_nil, e1, e2]) ((hM.call w' hw64 (hl.below hb) hsm).mono ?_)
    rintro e w2 ⟨ad, c, rfl, hO, hb2⟩
    exact ⟨_, rfl, _, rfl, ⟨ad, c, rfl, hO.rdL.weak fun _ _ => trivial⟩, hb2⟩
  case o4 =>
    refine GdOp.plain rfl (fun A vs w' hF hT hb hd => ?_)
    have e1 : A.eval (.tmp 4) = .pointer (some ⟨w.heap.size, 0, none⟩) := hF 4 rfl
    exact wp_fieldN lvS rfl (e1) (by omega) ⟨_, rfl, rfl, Below.refl _ _⟩
  case o5 =>
    refine GdOp.plain rfl (fun A vs w' hF hT hb hd => ?_)
    have e1 : A.eval (.tmp 53) = .pointer (some ⟨w.heap.size, 0, none⟩) := (hT 53 4 (by simp) rfl).trans (hd ⟨4, .data⟩ (by simp) rfl)
    exact wp_ld_int (k := .i64) rfl e1 (by kernel_rfl) (((hb.cell (p := ⟨w.heap.size, 0, none⟩) (cell_lt r0)).trans r0)) ⟨_, rfl, rfl, Below.refl _ _⟩
  case o6 =>
    refine GdOp.plain rfl (fun A vs w' hF hT hb hd => ?_)
    have e1 : A.eval (.tmp 2) = .slice a2 l.length cy := hF 2 rfl
    exact BigFrame.wp_move _ rfl ⟨_, rfl, e1, Below.refl _ _⟩
  case o7 =>
    refine GdOp.plain rfl (fun A vs w' hF hT hb hd => ?_)
    have e1 : A.eval (.tmp 54) = .int .i64 me.snap := (hT 54 5 (by simp) rfl).trans (hd ⟨5, .data⟩ (by simp) rfl)
    have e2 : A.eval (.tmp 55) = .slice a2 l.length cy := (hT 55 6 (by simp) rfl).trans (hd ⟨6, .data⟩ (by simp) rfl)
    refine wp_callFn rfl eR (args := #[.int .i64 me.snap, .slice a2 l.length cy]) (by simp only [List.map_toArray, List.map_cons, List.map_nil, e1, e2]) ((rMeets_any w' hw64 (hl.below hb) hsm).mono ?_)
    rintro e w2 ⟨ad, c, rfl, hO, hb2⟩
    exact ⟨_, rfl, _, rfl, ⟨ad, c, rfl, hO.rdL.weak fun _ _ => trivial⟩, hb2⟩
  case o8 =>
    refine GdOp.plain rfl (fun A vs w' hF hT hb hd => ?_)
    obtain ⟨a5, c5, q5, h5⟩ := hd ⟨3, .data⟩ (by simp) rfl
    obtain ⟨a6, c6, q6, h6⟩ := hd ⟨7, .data⟩ (by simp) rfl
    have e1 : A.eval (.tmp 52) = .slice a5 (meetsP me.snap l).length c5 := (hT 52 3 (by simp) rfl).trans q5
    have e2 : A.eval (.tmp 56) = .slice a6 (meetsP me.snap l).length c6 := (hT 56 7 (by simp) rfl).trans q6
    have hq := rAllP_any w' h5 h6
    rw [decide_eq_true (rfl : meetsP me.snap l = meetsP me.snap l)] at hq
    refine wp_callFn rfl eA (args := #[.slice a5 (meetsP me.snap l).length c5, .slice a6 (meetsP me.snap l).length c6]) (by simp only [List.map_toArray, List.map_cons, List.map_nil, e1, e2]) (hq.mono ?_)
    rintro e w2 ⟨rfl, hb2⟩
    exact ⟨_, rfl, _, rfl, rfl, hb2⟩
  case o9 =>
    refine GdOp.plain rfl (fun A vs w' hF hT hb hd => ?_)
    have e1 : A.eval (.tmp 57) = .bool true := (hT 57 8 (by simp) rfl).trans (hd ⟨8, .data⟩ (by simp) rfl)
    exact BigFrame.wp_assign _ rfl ⟨_, rfl, e1, Below.refl _ _⟩
  case fin =>
  intro vs9 W9 hb9 hG9
  have e0 : vs9 0 = .pointer (some ⟨w.heap.size, 0, none⟩) := hG9 0 (by decide)
  have e1 : vs9 1 = .int .i64 me.snap := hG9 1 (by decide)
  have e2 : vs9 2 = .slice a2 l.length cy := hG9 2 (by decide)
  obtain ⟨x3, y3, e3, _⟩ := hG9 3 (by decide)
  have e4 : vs9 4 = .pointer (some ⟨w.heap.size, 0, none⟩) := hG9 4 (by decide)
  have e5 : vs9 5 = .int .i64 me.snap := hG9 5 (by decide)
  have e6 : vs9 6 = .slice a2 l.length cy := hG9 6 (by decide)
  obtain ⟨x7, y7, e7, _⟩ := hG9 7 (by decide)
  have e8 : vs9 8 = .bool true := hG9 8 (by decide)
  have e9 : vs9 9 = .bool true := hG9 9 (by decide)
  simp only [putAll, e0, e1, e2, e3, e4, e5, e6, e7, e8, e9]
  clear hG9 e0 e1 e2 e3 e4 e5 e6 e7 e8 e9
  replace q := q.trans (hb9.mono q.size)
  clear hb9
  go_simp
  have d1 : (jo == jo) = true := beq_self_eq_true _
  have d2 : ((je : Int) == (je : Int)) = true := beq_self_eq_true _
  clear r0 r1 hR hws hl hlv
  go_wp2_with fail
  go_ret
  exact ⟨rfl, q⟩
end Go.Proofs.Ytobelnedhlepaaa
namespace Go.Proofs.Ytobelnedhlepaaa
open Go.RowKit
def BoV (w : World) (g : Nat) (t : TypeId) (D : List Bool) : Prop := ∃ cur, w.heap[g]? = some (.cells cur t (0, 0)) ∧ cur.toList.take D.length = D.map Value.bool
structure BwP (P : Program) (T E : TypeId) : Prop where
  hT : P.underlying T = some (.slice E)
  hi : (P.info? E).map (fun i => (i.zero, i.size, i.bytes)) = some (some (.bool false), 1, 1)
theorem BwP.info {P : Program} {T E : TypeId} (h : BwP P T E) : ∃ i, P.info? E = some i ∧ i.zero = some (.bool false) ∧ i.size = 1 ∧ i.bytes = 1 := by
  have := h.hi
  cases hi : P.info? E with
  | none => simp [hi] at this
  | some i => simp [hi] at this; exact ⟨i, rfl, this⟩
theorem BwP.hs {P : Program} {T E : TypeId} (h : BwP P T E) : (P.info? E).map (·.size) = some 1 := by
  obtain ⟨i, hi, _, hs, _⟩ := h.info
  rw [hi, Option.map_some, hs]
section
variable {P : Program} {T t : TypeId} {ops : Array Oper} {rest : List Oper} {o : Oper} {a : Act} {Q : Exit → Act → World → Prop} {w w' : World} {g : Nat} {D : List Bool}
theorem BoV.lt (h : BoV w g t D) : g < w.heap.size := let ⟨_, h1, _⟩ := h; (Array.getElem?_eq_some_iff.1 h1).1
theorem BoV.cell (h : BoV w g t D) {i : Nat} (hi : i < D.length) : w.cell? ⟨g, i, none⟩ = some (.bool D[i]) := by
  obtain ⟨cur, h1, h2⟩ := h
  have h3 : (cur.toList.take D.length)[i]? = (D.map Value.bool)[i]? := by rw [h2]
  rw [List.getElem?_take_of_lt hi, List.getElem?_map, List.getElem?_eq_getElem hi] at h3
  simp only [World.cell?, h1]
  simpa using h3
theorem BoV.froz (h : BoV w g t D) (j : Nat) : w.frozen? ⟨g, j, none⟩ = false := by
  obtain ⟨cur, h1, _⟩ := h
  simp [World.frozen?, h1]
theorem BoV.same (h : BoV w g t D) (e : w'.heap[g]? = w.heap[g]?) : BoV w' g t D := let ⟨c, h1, h2⟩ := h; ⟨c, e.trans h1, h2⟩
theorem BoV.below {n : Nat} (h : BoV w g t D) (hb : Below n w w') (hn : g < n) : BoV w' g t D := h.same (hb.block g hn)
theorem BoV.grown {c : Option Nat} (h : BoV w g t D) (hg : w.grownBy w' c) (hn : c ≠ some g) : BoV w' g t D := h.same (hg.block g h.lt fun e => hn e.symm)
theorem BoV.put (h : BoV w g t D) (j : Nat) (b : Bool) : BoV (w.setCell ⟨g, j, none⟩ (.bool b)) g t (D.set j b) := by
  obtain ⟨cur, h1, h2⟩ := h
  refine ⟨cur.setIfInBounds j (.bool b), ?_, ?_⟩
  · simp only [World.setCell, Array.getElem?_modify, h1]
    simp
  · rw [Array.toList_setIfInBounds, List.length_set, List.take_set, h2, List.map_set]
theorem wpList_makeB (hP : BwP P T t) {x y : Operand} (ho : o.op = .makeSlice T x y) (hgd : Region.wanted o (yielded ops a.tmps) = true) {k : Nat} {kl kc : IntKind} (hx : a.eval x = .int kl (k : Int)) (hy : a.eval y = .int kc (k : Int)) (hk : k ≤ 1073741824)
    (h : ∀ w', Below w.heap.size w w' → BoV w' w.heap.size t (List.replicate k false) → wpList P ops Q rest (a.put o.dst (.slice (some ⟨w.heap.size, 0, none⟩) k k)) w') : wpList P ops Q (o :: rest) a w := by
  refine BigFrame.wpList_want hgd fun K hK => ?_
  obtain ⟨i, hi, hz, hsz, hby⟩ := hP.info
  obtain ⟨w', hrun, h2, h3⟩ := run_make_full (P := P) w w.heap.size T t i (.bool false) 1 hP.hT hi hz hsz kl kc k (by rw [hby]; omega) (by unfold maxLen; omega) (Nat.le_refl _)
  unfold Oper.wp execOp
  simp only [ho, hx, hy, Sem.run_bind, Sem.run_pure, Result.andThen_ok, hrun]
  refine hK _ _ (h _ ((Below.refl _ w).grown h3 (Nat.le_refl _) (fun k hk => by cases hk)) ?_)
  rcases h2.2 with ⟨e, _⟩ | ⟨g, cap, cur, e, _, hc, _, _, _, ht⟩
  · cases e
  · injection e with e1 e2 e3
    injection e1 with e1
    injection e1 with e1
    subst e1
    refine ⟨cur, hc, ?_⟩
    have e4 : (madeCells (Value.cells (.bool false)) (k * 1)).toList = List.replicate k (.bool false) := by
      show (madeCells #[.bool false] (k * 1)).toList = _
      rw [toList_madeCells_one, Nat.mul_one]
    rw [e4, Nat.mul_one] at ht
    rw [List.length_replicate, ht, List.map_replicate]
theorem wpList_putB {x y : Operand} {b : Bool} {j : Nat} (hP : BwP P T t) (ho : o.op = .store t x y) (hd : o.dst = none) (hgd : Region.wanted o (yielded ops a.tmps) = true) (hx : a.eval x = .pointer (some ⟨g, j, none⟩)) (hy : a.eval y = .bool b) (hB : BoV w g t D) (hj : j < D.length)
    (h : ∀ w', w.grownBy w' (some g) → BoV w' g t (D.set j b) → wpList P ops Q rest a w') : wpList P ops Q (o :: rest) a w := by
  refine BigFrame.wpList_want hgd fun K hK => ?_
  have hc := hB.cell hj
  have hf := hB.froz j
  refine wp_skip ?_ (hK _ (w.setCell ⟨g, j, none⟩ (.bool b)) (by rw [hd]; exact h _ (grown_set w g j _) (hB.put j b)))
  simp only [execOp, ho, hx, hy]
  simp [Instr.storeAt, storeVar, run_sizeOf' hP.hs, storeCells, Value.cells, run_store _ _ _ _ _ (show (Value.bool b).oneCell' = true from rfl), hc, hf, Addr.add, go_sem]
end
end Go.Proofs.Ytobelnedhlepaaa
namespace Go.Proofs.Ytobelnedhlepaaa
open Go.RowKit Go.Shelf
set_option maxRecDepth 100000 in
set_option maxHeartbeats 16000000 in
theorem rEdge_any (w : World) {S S2 : Nat → Prop} {v u : Value} {a b : Ps} (ha : RdPs S w v a) (hb : RdPs S2 w u b) :
    Calls Try.prog 35 #[v, u] w fun e w' => e = .returned (.bool (edgeP a b)) ∧ Below w.heap.size w w' := by
  obtain ⟨a1, a2, a3, a4, rfl, ha1, ha2, _, _⟩ := ha
  obtain ⟨b1, b2, b3, b4, rfl, hb1, hb2, _, _⟩ := hb
  obtain ⟨W, hW, q, Bx, By, hsz⟩ := spBoxes2 w 50 50 [.int .i64 a.snap, .int .i64 a.stamp, .bool a.held, .slice a1 a.reads.length a2, .slice a3 a.writes.length a4, .bool a.out] [.int .i64 b.snap, .int .i64 b.stamp, .bool b.held, .slice b1 b.reads.length b2, .slice b3 b.writes.length b4, .bool b.out]
  have he := Lib.hid (show edgeP a b = ((sameW a.writes b.writes && decide (a.stamp < b.stamp)) || (hitL b.reads a.writes && decide (a.stamp ≤ b.snap)) || (hitL a.reads b.writes && decide (a.snap < b.stamp))) from rfl)
  go_enter Try.func35, Try.ntmps35
  go_upto_region 1 with (fail)
  rw [show (w.alloc (.cells #[.int .i64 a.snap, .int .i64 a.stamp, .bool a.held, .slice a1 a.reads.length a2, .slice a3 a.writes.length a4, .bool a.out] 50)).alloc (.cells #[.int .i64 b.snap, .int .i64 b.stamp, .bool b.held, .slice b1 b.reads.length b2, .slice b3 b.writes.length b4, .bool b.out] 50) = W from hW.symm]
  clear hW
  have c0 := Bx.cell (i := 0) rfl
  have c1 := Bx.cell (i := 1) rfl
  have c3 := Bx.cell (i := 3) rfl
  have c4 := Bx.cell (i := 4) rfl
  have d0 := By.cell (i := 0) rfl
  have d1 := By.cell (i := 1) rfl
  have d3 := By.cell (i := 3) rfl
  have d4 := By.cell (i := 4) rfl
  clear Bx By
  replace ha1 := ha1.below q
  replace ha2 := ha2.below q
  replace hb1 := hb1.below q
  replace hb2 := hb2.below q
  go_wp2_with fail
  refine (rSameW_any _ ha2 hb2).mono ?_
  rintro e w1 ⟨rfl, hb⟩
  replace c0 := (hb.cell (p := ⟨w.heap.size, 0, none⟩) (cell_lt c0)).trans c0
  replace c1 := (hb.cell (p := ⟨w.heap.size, 1, none⟩) (cell_lt c1)).trans c1
  replace c3 := (hb.cell (p := ⟨w.heap.size, 3, none⟩) (cell_lt c3)).trans c3
  replace c4 := (hb.cell (p := ⟨w.heap.size, 4, none⟩) (cell_lt c4)).trans c4
  replace d0 := (hb.cell (p := ⟨w.heap.size + 1, 0, none⟩) (cell_lt d0)).trans d0
  replace d1 := (hb.cell (p := ⟨w.heap.size + 1, 1, none⟩) (cell_lt d1)).trans d1
  replace d3 := (hb.cell (p := ⟨w.heap.size + 1, 3, none⟩) (cell_lt d3)).trans d3
  replace d4 := (hb.cell (p := ⟨w.heap.size + 1, 4, none⟩) (cell_lt d4)).trans d4
  replace ha1 := ha1.below hb
  replace ha2 := ha2.below hb
  replace hb1 := hb1.below hb
  replace hb2 := hb2.below hb
  replace q := q.trans (hb.mono q.size)
  clear hb
  go_wp2_with fail
  refine (rHit_any _ hb1 ha2).mono ?_
  rintro e w2 ⟨rfl, hb⟩
  replace c0 := (hb.cell (p := ⟨w.heap.size, 0, none⟩) (cell_lt c0)).trans c0
  replace c1 := (hb.cell (p := ⟨w.heap.size, 1, none⟩) (cell_lt c1)).trans c1
  replace c3 := (hb.cell (p := ⟨w.heap.size, 3, none⟩) (cell_lt c3)).trans c3
  replace c4 := (hb.cell (p := ⟨w.heap.size, 4, none⟩) (cell_lt c4)).trans c4
  replace d0 := (hb.cell (p := ⟨w.heap.size + 1, 0, none⟩) (cell_lt d0)).trans d0
  replace d1 := (hb.cell (p := ⟨w.heap.size + 1, 1, none⟩) (cell_lt d1)).trans d1
  replace d3 := (hb.cell (p := ⟨w.heap.size + 1, 3, none⟩) (cell_lt d3)).trans d3
  replace d4 := (hb.cell (p := ⟨w.heap.size + 1, 4, none⟩) (cell_lt d4)).trans d4
  replace ha1 := ha1.below hb
  replace ha2 := ha2.below hb
  replace hb1 := hb1.below hb
  replace hb2 := hb2.below hb
  replace q := q.trans (hb.mono q.size)
  clear hb
  go_wp2_with fail
  refine (rHit_any _ ha1 hb2).mono ?_
  rintro e w3 ⟨rfl, hb⟩
  replace c0 := (hb.cell (p := ⟨w.heap.size, 0, none⟩) (cell_lt c0)).trans c0
  replace c1 := (hb.cell (p := ⟨w.heap.size, 1, none⟩) (cell_lt c1)).trans c1
  replace d0 := (hb.cell (p := ⟨w.heap.size + 1, 0, none⟩) (cell_lt d0)).trans d0
  replace d1 := (hb.cell (p := ⟨w.heap.size + 1, 1, none⟩) (cell_lt d1)).trans d1
  replace q := q.trans (hb.mono q.size)
  clear hb
  clear c3 c4 d3 d4 ha1 ha2 hb1 hb2
  replace he := he.out
  obtain ⟨b1, e1⟩ : ∃ t, t = sameW a.writes b.writes := ⟨_, rfl⟩
  obtain ⟨b2, e2⟩ : ∃ t, t = hitL b.reads a.writes := ⟨_, rfl⟩
  obtain ⟨b3, e3⟩ : ∃ t, t = hitL a.reads b.writes := ⟨_, rfl⟩
  rw [← e1, ← e2, ← e3] at he
  rw [← e1, ← e2, ← e3]
  clear e1 e2 e3
  replace he := Lib.hid he
  cases b1 with
  | true =>
    rcases Int.lt_or_le a.stamp b.stamp with h1 | h1
    · have kh1 : decide (a.stamp < b.stamp) = true := decide_eq_true (by omega)
      have HK := Lib.hid (show edgeP a b = true by rw [he.out]; simp [kh1])
      clear he
      go_wp2_with fail
      go_ret
      exact ⟨by first | (rw [HK.out]; done) | (rw [HK.out]; rfl), q⟩
    · have kh1 : decide (a.stamp < b.stamp) = false := decide_eq_false (by omega)
      cases b2 with
      | true =>
        rcases Int.lt_or_le b.snap a.stamp |>.symm with h2 | h2
        · have kh2 : decide (a.stamp ≤ b.snap) = true := decide_eq_true (by omega)
          have HK := Lib.hid (show edgeP a b = true by rw [he.out]; simp [kh1, kh2])
          clear he
          go_wp2_with fail
          go_ret
          exact ⟨by first | (rw [HK.out]; done) | (rw [HK.out]; rfl), q⟩
        · have kh2 : decide (a.stamp ≤ b.snap) = false := decide_eq_false (by omega)
          cases b3 with
          | true =>
            rcases Int.lt_or_le a.snap b.stamp with h3 | h3
            · have kh3 : decide (a.snap < b.stamp) = true := decide_eq_true (by omega)
              have HK := Lib.hid (show edgeP a b = true by rw [he.out]; simp [kh1, kh2, kh3])
              clear he
              go_wp2_with fail
              go_ret
              exact ⟨by first | (rw [HK.out]; done) | (rw [HK.out]; rfl), q⟩
            · have kh3 : decide (a.snap < b.stamp) = false := decide_eq_false (by omega)
              have HK := Lib.hid (show edgeP a b = false by rw [he.out]; simp [kh1, kh2, kh3])
              clear he
              go_wp2_with fail
              go_ret
              exact ⟨by first | (rw [HK.out]; done) | (rw [HK.out]; rfl), q⟩
          | false =>
            have HK := Lib.hid (show edgeP a b = false by rw [he.out]; simp [kh1, kh2])
            clear he
            go_wp2_with fail
            go_ret
            exact ⟨by first | (rw [HK.out]; done) | (rw [HK.out]; rfl), q⟩
      | false =>
        cases b3 with
        | true =>
          rcases Int.lt_or_le a.snap b.stamp with h3 | h3
          · have kh3 : decide (a.snap < b.stamp) = true := decide_eq_true (by omega)
            have HK := Lib.hid (show edgeP a b = true by rw [he.out]; simp [kh1, kh3])
            clear he
            go_wp2_with fail
            go_ret
            exact ⟨by first | (rw [HK.out]; done) | (rw [HK.out]; rfl), q⟩
          · have kh3 : decide (a.snap < b.stamp) = false := decide_eq_false (by omega)
            have HK := Lib.hid (show edgeP a b = false by rw [he.out]; simp [kh1, kh3])
            clear he
            go_wp2_with fail
            go_ret
            exact ⟨by first | (rw [HK.out]; done) | (rw [HK.out]; rfl), q⟩
        | false =>
          have HK := Lib.hid (show edgeP a b = false by rw [he.out]; simp [kh1])
          clear he
          go_wp2_with fail
          go_ret
          exact ⟨by first | (rw [HK.out]; done) | (rw [HK.out]; rfl), q⟩
  | false =>
    cases b2 with
    | true =>
      rcases Int.lt_or_le b.snap a.stamp |>.symm with h2 | h2
      · have kh2 : decide (a.stamp ≤ b.snap) = true := decide_eq_true (by omega)
        have HK := Lib.hid (show edgeP a b = true by rw [he.out]; simp [kh2])
        clear he
        go_wp2_with fail
        go_ret
        exact ⟨by first | (rw [HK.out]; done) | (rw [HK.out]; rfl), q⟩
      · have kh2 : decide (a.stamp ≤ b.snap) = false := decide_eq_false (by omega)
        cases b3 with
        | true =>
          rcases Int.lt_or_le a.snap b.stamp with h3 | h3
          · have kh3 : decide (a.snap < b.stamp) = true := decide_eq_true (by omega)
            have HK := Lib.hid (show edgeP a b = true by rw [he.out]; simp [kh2, kh3])
            clear he
            go_wp2_with fail
            go_ret
            exact ⟨by first | (rw [HK.out]; done) | (rw [HK.out]; rfl), q⟩
          · have kh3 : decide (a.snap < b.stamp) = false := decide_eq_false (by omega)
            have HK := Lib.hid (show edgeP a b = false by rw [he.out]; simp [kh2, kh3])
            clear he
            go_wp2_with fail
            go_ret
            exact ⟨by first | (rw [HK.out]; done) | (rw [HK.out]; rfl), q⟩
        | false =>
          have HK := Lib.hid (show edgeP a b = false by rw [he.out]; simp [kh2])
          clear he
          go_wp2_with fail
          go_ret
          exact ⟨by first | (rw [HK.out]; done) | (rw [HK.out]; rfl), q⟩
    | false =>
      cases b3 with
      | true =>
        rcases Int.lt_or_le a.snap b.stamp with h3 | h3
        · have kh3 : decide (a.snap < b.stamp) = true := decide_eq_true (by omega)
          have HK := Lib.hid (show edgeP a b = true by rw [he.out]; simp [kh3])
          clear he
          go_wp2_with fail
          go_ret
          exact ⟨by first | (rw [HK.out]; done) | (rw [HK.out]; rfl), q⟩
        · have kh3 : decide (a.snap < b.stamp) = false := decide_eq_false (by omega)
          have HK := Lib.hid (show edgeP a b = false by rw [he.out]; simp [kh3])
          clear he
          go_wp2_with fail
          go_ret
          exact ⟨by first | (rw [HK.out]; done) | (rw [HK.out]; rfl), q⟩
      | false =>
        have HK := Lib.hid (show edgeP a b = false by rw [he.out]; simp [])
        clear he
        go_wp2_with fail
        go_ret
        exact ⟨by first | (rw [HK.out]; done) | (rw [HK.out]; rfl), q⟩
end Go.Proofs.Ytobelnedhlepaaa
namespace Go.Proofs.Ytobelnedhlepaaa
open Go.RowKit Go.Shelf
theorem boP : BwP Try.prog 66 4 := ⟨by kernel_rfl, by kernel_rfl⟩
def aheadD (P : List Ps) (D : List Bool) (i m : Nat) : Prop := m ≠ i ∧ D.getD m true = false ∧ ∃ (hm : m < P.length) (hi : i < P.length), edgeP P[m] P[i] = true
def freeD (P : List Ps) (D : List Bool) (i : Nat) : Prop := D.getD i true = false ∧ ∀ m, m < P.length → ¬ aheadD P D i m
theorem some_left {D : List Bool} (h : D.count true < D.length) : ∃ j, j < D.length ∧ D.getD j true = false := by
  apply Classical.byContradiction
  intro hno
  have : D.count true = D.length := by
    rw [List.count_eq_length]
    intro b hb
    obtain ⟨j, hj, rfl⟩ := List.getElem_of_mem hb
    cases e : D[j] with
    | true => rfl
    | false => exact absurd ⟨j, hj, by rw [List.getD_eq_getElem?_getD, List.getElem?_eq_getElem hj]; exact e⟩ hno
  omega
theorem free_of {P : List Ps} {D : List Bool} (hP : GoodP P) (hl : D.length = P.length) (h : D.count true < P.length) (hno : ∀ j, j < P.length → ¬ freeD P D j) : False := by
  obtain ⟨j, hj, hu⟩ := some_left (by rw [hl]; exact h)
  obtain ⟨i, hi, hu2, hf⟩ := hP.next (U := fun j => D.getD j true = false) ⟨j, by omega, hu⟩
  refine hno i hi ⟨hu2, fun m hm => ?_⟩
  rintro ⟨h1, h2, h3, h4, h5⟩
  rw [hf m h3 h2 h1] at h5
  cases h5
theorem left_lt {D : List Bool} {j : Nat} (h : D.getD j true = false) : j < D.length := by
  rcases Nat.lt_or_ge j D.length with h1 | h1
  · exact h1
  · rw [List.getD_eq_getElem?_getD, List.getElem?_eq_none h1] at h
    cases h
theorem count_put {D : List Bool} {j : Nat} (h : D.getD j true = false) : (D.set j true).count true = D.count true + 1 := by
  have hj := left_lt h
  rw [List.getD_eq_getElem?_getD, List.getElem?_eq_getElem hj] at h
  have h2 : D[j] = false := h
  rw [List.count_set hj, h2]
  simp
theorem getD_at {D : List Bool} {j : Nat} (hj : j < D.length) : D.getD j true = D[j] := by
  rw [List.getD_eq_getElem?_getD, List.getElem?_eq_getElem hj]; rfl
theorem inR_int (S : Nat → Prop) (w : World) {x : Int} (h : W64 x) : Elt.int.R S w x [.int .i64 x] := ⟨rfl, h⟩
set_option maxRecDepth 100000 in
set_option maxHeartbeats 16000000 in
theorem rOrder_any (w : World) {S : Nat → Prop} {a : Option Addr} {n cx : Nat} {P : List Ps} (hl : RdL Elt.ps S w (.slice a n cx) P) (hP : GoodP P) (hn : P.length ≤ 1000000) :
    Calls Try.prog 18 #[.slice a n cx] w fun e w' => ∃ ad c, e = .returned (.tuple #[.slice ad P.length c, .bool true]) ∧ Below w.heap.size w w' := by
  obtain ⟨rfl, hnc, hcm⟩ := hl.len
  have hlm : P.length ≤ 9223372036854775807 := by omega
  have eE : ∀ args w, (callFunc 35 args).run Try.prog w = .ok (.enter 35 args) w := enters_of Try.func35 (by kernel_rfl) rfl
  clear hnc hcm
  replace hP := Lib.hid hP
  go_enter Try.func18, Try.ntmps18
  go_wp2_with (first | (refine wpList_makeB boP rfl rfl rfl rfl (by omega) ?_; intro w1 hb1 hB1) | fail)
  go_upto_region 3 with (fail)
  have hO1 : OwnL Elt.int 3 (w.heap.size + 1) (w.heap.size + 1) w1 (.slice none 0 0) [] := OwnL.nil _ _ _ _ _
  go_loopw [4] (fun ov wr => ∃ (ord : List Int) (D : List Bool) (ad : Option Addr) (ko : Nat), ov = .slice ad ord.length ko ∧ OwnL Elt.int 3 (w.heap.size + 1) (w.heap.size + 1) wr (.slice ad ord.length ko) ord ∧ BoV wr w.heap.size 4 D ∧ D.length = P.length ∧ ord.length = D.count true ∧ Below w.heap.size w wr) (fun ov _ => P.length - (match ov with | .slice _ m _ => m | _ => 0))
  case atStart => exact ⟨[], List.replicate P.length false, none, 0, rfl, hO1, hB1, List.length_replicate, by simp [List.count_replicate], hb1⟩
  case round =>
    clear hO1 hB1 hb1
    obtain ⟨ord, D, ad, ko, rfl, hO, hB, hDl, hcnt, q⟩ := hrel
    replace hcnt := Lib.hid hcnt
    have hol : ord.length ≤ P.length := by rw [hcnt.out, ← hDl]; exact List.count_le_length
    rcases Nat.lt_or_ge ord.length P.length with hlt | hge
    · have di : decide ((ord.length : Int) < (P.length : Int)) = true := decide_eq_true (by omega)
      go_upto_region 6 with (fail)
      clear di
      have hbase := hB.lt
      go_loopw [6, 7] (fun nv iv wr => ∃ (i : Nat) (z : Int), iv = .int .i64 i ∧ i ≤ P.length ∧ nv = .int .i64 z ∧ ((z = -1 ∧ ∀ j, j < i → ¬ freeD P D j) ∨ ∃ j : Nat, z = (j : Int) ∧ D.getD j true = false) ∧ OwnL Elt.int 3 (w.heap.size + 1) (w.heap.size + 1) wr (.slice ad ord.length ko) ord ∧ BoV wr w.heap.size 4 D ∧ Below w.heap.size w wr) (fun _ i _ => P.length - (intOf i).toNat)
      case atStart => exact ⟨0, -1, rfl, Nat.zero_le _, rfl, .inl ⟨rfl, fun j h => absurd h (Nat.not_lt_zero _)⟩, hO, hB, q⟩
      case round =>
        clear q hO hB
        obtain ⟨i, z, rfl, hil, rfl, hz, hO, hB, q⟩ := hrel
        rcases Nat.lt_or_ge i P.length with hlt2 | hge
        · have di : decide ((i : Int) < (P.length : Int)) = true := decide_eq_true (by omega)
          rcases hz with ⟨rfl, hno⟩ | ⟨j, rfl, hj⟩
          · have dz : decide ((-1 : Int) < 0) = true := by decide
            replace hno := Lib.hid hno
            have ci := hB.cell (i := i) (by omega)
            have hgi := Lib.hid (getD_at (D := D) (j := i) (by omega))
            obtain ⟨bi, ebi⟩ : ∃ b, b = D[i] := ⟨_, rfl⟩
            rw [← ebi] at ci hgi
            clear ebi
            go_upto_region 10 with (fail)
            clear ci di dz
            go_loopw [8, 9] (fun fv kv wr => ∃ (k : Nat) (b : Bool), kv = .int .i64 k ∧ k ≤ P.length ∧ fv = .bool b ∧ (b = true → D.getD i true = false ∧ ∀ m, m < k → ¬ aheadD P D i m) ∧ (b = false → ¬ freeD P D i) ∧ OwnL Elt.int 3 (w.heap.size + 1) (w.heap.size + 1) wr (.slice ad ord.length ko) ord ∧ BoV wr w.heap.size 4 D ∧ Below w.heap.size w wr) (fun _ k _ => P.length - (intOf k).toNat)
            case atStart => exact ⟨0, !bi, rfl, Nat.zero_le _, rfl, fun h => ⟨by rw [hgi.out]; simpa using h, fun m h2 => absurd h2 (Nat.not_lt_zero _)⟩, fun h h2 => by have := h2.1; rw [hgi.out] at this; simp [this] at h, hO, hB, q⟩
            case round =>
              clear q hO hB hgi
              obtain ⟨k, b, rfl, hkl, rfl, hyes, hno2, hO, hB, q⟩ := hrel
              replace hyes := Lib.hid hyes
              replace hno2 := Lib.hid hno2
              rcases Nat.lt_or_ge k P.length with hlt3 | hge
              · have dk : decide ((k : Int) < (P.length : Int)) = true := decide_eq_true (by omega)
                cases b with
                | true =>
                  have hy := hyes.out rfl
                  have hui := Lib.hid hy.1
                  have hrest := Lib.hid hy.2
                  clear hyes hno2 hy
                  by_cases hki : k = i
                  · have d1 : ((k : Int) != (i : Int)) = false := by simp [hki]
                    have hnx := Lib.hid (show ∀ m, m < k + 1 → ¬ aheadD P D i m from fun m hm ha => by
                      rcases Nat.lt_or_ge m k with h | h
                      · exact hrest.out m h ha
                      · exact ha.1 (by omega))
                    clear hrest
                    replace hki := Lib.hid hki
                    go_wp2_with fail
                    go_roundw
                    case rel => exact ⟨k + 1, true, by go_num, by omega, rfl, fun _ => ⟨hui.out, hnx.out⟩, (by intro h; cases h), hO, hB, q⟩
                    case measure => simp [intOf]; omega
                  · have d1 : ((k : Int) != (i : Int)) = true := by simp; omega
                    have ck := hB.cell (i := k) (by omega)
                    have hgk := Lib.hid (getD_at (D := D) (j := k) (by omega))
                    obtain ⟨bk, ebk⟩ : ∃ b, b = D[k] := ⟨_, rfl⟩
                    rw [← ebk] at ck hgk
                    clear ebk
                    replace hki := Lib.hid hki
                    cases bk with
                    | true =>
                      have hnx := Lib.hid (show ∀ m, m < k + 1 → ¬ aheadD P D i m from fun m hm ha => by
                        rcases Nat.lt_or_ge m k with h | h
                        · exact hrest.out m h ha
                        · obtain rfl : m = k := by omega
                          have := ha.2.1
                          rw [hgk.out] at this
                          cases this)
                      clear hrest hgk
                      go_wp2_with fail
                      go_roundw
                      case rel => exact ⟨k + 1, true, by go_num, by omega, rfl, fun _ => ⟨hui.out, hnx.out⟩, (by intro h; cases h), hO, hB, q⟩
                      case measure => simp [intOf]; omega
                    | false =>
                      obtain ⟨g1, o1, A1, A2, A3, A4, rfl, _, hhc, hk1, hk2, hw64⟩ := (hl.below q).ps k hlt3
                      obtain ⟨g2, o2, B1, B2, B3, B4, e2, _, hhd, hk3, hk4, hw65⟩ := (hl.below q).ps i hlt2
                      injection e2 with e2
                      injection e2 with f1 f2 _
                      subst f1 f2
                      have hx : RdPs S wr (.agg #[.int .i64 P[k].snap, .int .i64 P[k].stamp, .bool P[k].held, .slice A1 P[k].reads.length A2, .slice A3 P[k].writes.length A4, .bool P[k].out]) P[k] := ⟨_, _, _, _, rfl, hk1, hk2, hw64⟩
                      have hy : RdPs S wr (.agg #[.int .i64 P[i].snap, .int .i64 P[i].stamp, .bool P[i].held, .slice B1 P[i].reads.length B2, .slice B3 P[i].writes.length B4, .bool P[i].out]) P[i] := ⟨_, _, _, _, rfl, hk3, hk4, hw65⟩
                      replace hhc := cells6 hhc
                      replace hhd := cells6 hhd
                      have hyes := Lib.hid (show edgeP P[k] P[i] = true → ¬ freeD P D i from fun h h2 => h2.2 k hlt3 ⟨hki.out, hgk.out, hlt3, hlt2, h⟩)
                      have hnx := Lib.hid (show edgeP P[k] P[i] = false → ∀ m, m < k + 1 → ¬ aheadD P D i m from fun h m hm ha => by
                        rcases Nat.lt_or_ge m k with h3 | h3
                        · exact hrest.out m h3 ha
                        · obtain rfl : m = k := by omega
                          obtain ⟨_, _, _, _, h4⟩ := ha
                          rw [h] at h4
                          cases h4)
                      obtain ⟨x, ex⟩ : ∃ x, x = P[k] := ⟨_, rfl⟩
                      obtain ⟨y, ey⟩ : ∃ y, y = P[i] := ⟨_, rfl⟩
                      rw [← ex] at hhc hx hyes hnx
                      rw [← ey] at hhd hy hyes hnx
                      clear hk1 hk2 hk3 hk4 hw64 hw65 ex ey hrest hgk
                      go_upto_region 13 with (fail)
                      clear ck d1 dk
                      refine wp_region_gsg (by kernel_rfl) (by kernel_rfl) [sgEq (.slice (some ⟨g1, o1, none⟩) P.length cx), sgEq (.int .i64 (k : Int)), sgEq (.pointer (some ⟨g1, o1 + k * 6, none⟩)), sgEq (.agg #[.int .i64 x.snap, .int .i64 x.stamp, .bool x.held, .slice A1 x.reads.length A2, .slice A3 x.writes.length A4, .bool x.out]), sgEq (.slice (some ⟨g1, o1, none⟩) P.length cx), sgEq (.int .i64 (i : Int)), sgEq (.pointer (some ⟨g1, o1 + i * 6, none⟩)), sgEq (.agg #[.int .i64 y.snap, .int .i64 y.stamp, .bool y.held, .slice B1 y.reads.length B2, .slice B3 y.writes.length B4, .bool y.out]), sgEq (.bool (edgeP x y)), sgEq (.bool (edgeP x y))]
                        ⟨?o0, ?o1, ?o2, ?o3, ?o4, ?o5, ?o6, ?o7, ?o8, ?o9, trivial⟩ ?fin
                      case o0 =>
                        refine GdOp.plain rfl (fun A vs w' hF hT hb hd => ?_)
                        have e1 : A.eval (.tmp 0) = .slice (some ⟨g1, o1, none⟩) P.length cx := hF 0 rfl
                        exact BigFrame.wp_move _ rfl ⟨_, rfl, e1, Below.refl _ _⟩
                      case o1 =>
                        refine GdOp.plain rfl (fun A vs w' hF hT hb hd => ?_)
                        have e1 : A.eval (.tmp 9) = .int .i64 (k : Int) := hF 9 rfl
                        exact BigFrame.wp_move _ rfl ⟨_, rfl, e1, Below.refl _ _⟩
                      case o2 =>
                        refine GdOp.plain rfl (fun A vs w' hF hT hb hd => ?_)
                        have e1 : A.eval (.tmp 53) = .slice (some ⟨g1, o1, none⟩) P.length cx := (hT 53 0 (by simp) rfl).trans (hd ⟨0, .data⟩ (by simp) rfl)
                        have e2 : A.eval (.tmp 54) = .int .i64 (k : Int) := (hT 54 1 (by simp) rfl).trans (hd ⟨1, .data⟩ (by simp) rfl)
                        exact wp_ixN (e := 50) rfl (by kernel_rfl) (by kernel_rfl) (e1) (e2) rfl (by omega) ⟨_, rfl, rfl, Below.refl _ _⟩
                      case o3 =>
                        refine GdOp.plain rfl (fun A vs w' hF hT hb hd => ?_)
                        have e1 : A.eval (.tmp 55) = .pointer (some ⟨g1, o1 + k * 6, none⟩) := (hT 55 2 (by simp) rfl).trans (hd ⟨2, .data⟩ (by simp) rfl)
                        exact wp_loadN (us := [.int .i64 x.snap, .int .i64 x.stamp, .bool x.held, .slice A1 x.reads.length A2, .slice A3 x.writes.length A4, .bool x.out]) psS rfl e1 (fun j u hj => (hb.cell (p := ⟨_, _, none⟩) (cell_lt (hhc j u hj))).trans (hhc j u hj)) ⟨_, rfl, rfl, Below.refl _ _⟩
                      case o4 =>
                        refine GdOp.plain rfl (fun A vs w' hF hT hb hd => ?_)
                        have e1 : A.eval (.tmp 0) = .slice (some ⟨g1, o1, none⟩) P.length cx := hF 0 rfl
                        exact BigFrame.wp_move _ rfl ⟨_, rfl, e1, Below.refl _ _⟩
                      case o5 =>
                        refine GdOp.plain rfl (fun A vs w' hF hT hb hd => ?_)
                        have e1 : A.eval (.tmp 7) = .int .i64 (i : Int) := hF 7 rfl
                        exact BigFrame.wp_move _ rfl ⟨_, rfl, e1, Below.refl _ _⟩
                      case o6 =>
                        refine GdOp.plain rfl (fun A vs w' hF hT hb hd => ?_)
                        have e1 : A.eval (.tmp 57) = .slice (some ⟨g1, o1, none⟩) P.length cx := (hT 57 4 (by simp) rfl).trans (hd ⟨4, .data⟩ (by simp) rfl)
                        have e2 : A.eval (.tmp 58) = .int .i64 (i : Int) := (hT 58 5 (by simp) rfl).trans (hd ⟨5, .data⟩ (by simp) rfl)
                        exact wp_ixN (e := 50) rfl (by kernel_rfl) (by kernel_rfl) (e1) (e2) rfl (by omega) ⟨_, rfl, rfl, Below.refl _ _⟩
                      case o7 =>
                        refine GdOp.plain rfl (fun A vs w' hF hT hb hd => ?_)
                        have e1 : A.eval (.tmp 59) = .pointer (some ⟨g1, o1 + i * 6, none⟩) := (hT 59 6 (by simp) rfl).trans (hd ⟨6, .data⟩ (by simp) rfl)
                        exact wp_loadN (us := [.int .i64 y.snap, .int .i64 y.stamp, .bool y.held, .slice B1 y.reads.length B2, .slice B3 y.writes.length B4, .bool y.out]) psS rfl e1 (fun j u hj => (hb.cell (p := ⟨_, _, none⟩) (cell_lt (hhd j u hj))).trans (hhd j u hj)) ⟨_, rfl, rfl, Below.refl _ _⟩
                      case o8 =>
                        refine GdOp.plain rfl (fun A vs w' hF hT hb hd => ?_)
                        have e1 : A.eval (.tmp 56) = .agg #[.int .i64 x.snap, .int .i64 x.stamp, .bool x.held, .slice A1 x.reads.length A2, .slice A3 x.writes.length A4, .bool x.out] := (hT 56 3 (by simp) rfl).trans (hd ⟨3, .data⟩ (by simp) rfl)
                        have e2 : A.eval (.tmp 60) = .agg #[.int .i64 y.snap, .int .i64 y.stamp, .bool y.held, .slice B1 y.reads.length B2, .slice B3 y.writes.length B4, .bool y.out] := (hT 60 7 (by simp) rfl).trans (hd ⟨7, .data⟩ (by simp) rfl)
                        refine wp_callFn rfl eE (args := #[.agg #[.int .i64 x.snap, .int .i64 x.stamp, .bool x.held, .slice A1 x.reads.length A2, .slice A3 x.writes.length A4, .bool x.out], .agg #[.int .i64 y.snap, .int .i64 y.stamp, .bool y.held, .slice B1 y.reads.length B2, .slice B3 y.writes.length B4, .bool y.out]]) (by simp only [List.map_toArray, List.map_cons, List.map_nil, e1, e2]) ((rEdge_any w' (hx.below hb) (hy.below hb)).mono ?_)
                        rintro e w2 ⟨rfl, hb2⟩
                        exact ⟨_, rfl, _, rfl, rfl, hb2⟩
                      case o9 =>
                        refine GdOp.plain rfl (fun A vs w' hF hT hb hd => ?_)
                        have e1 : A.eval (.tmp 61) = .bool (edgeP x y) := (hT 61 8 (by simp) rfl).trans (hd ⟨8, .data⟩ (by simp) rfl)
                        exact BigFrame.wp_assign _ rfl ⟨_, rfl, e1, Below.refl _ _⟩
                      case fin =>
                      intro vs9 W9 hb9 hG9
                      have e0 : vs9 0 = .slice (some ⟨g1, o1, none⟩) P.length cx := hG9 0 (by decide)
                      have e1 : vs9 1 = .int .i64 (k : Int) := hG9 1 (by decide)
                      have e2 : vs9 2 = .pointer (some ⟨g1, o1 + k * 6, none⟩) := hG9 2 (by decide)
                      have e3 : vs9 3 = .agg #[.int .i64 x.snap, .int .i64 x.stamp, .bool x.held, .slice A1 x.reads.length A2, .slice A3 x.writes.length A4, .bool x.out] := hG9 3 (by decide)
                      have e4 : vs9 4 = .slice (some ⟨g1, o1, none⟩) P.length cx := hG9 4 (by decide)
                      have e5 : vs9 5 = .int .i64 (i : Int) := hG9 5 (by decide)
                      have e6 : vs9 6 = .pointer (some ⟨g1, o1 + i * 6, none⟩) := hG9 6 (by decide)
                      have e7 : vs9 7 = .agg #[.int .i64 y.snap, .int .i64 y.stamp, .bool y.held, .slice B1 y.reads.length B2, .slice B3 y.writes.length B4, .bool y.out] := hG9 7 (by decide)
                      have e8 : vs9 8 = .bool (edgeP x y) := hG9 8 (by decide)
                      have e9 : vs9 9 = .bool (edgeP x y) := hG9 9 (by decide)
                      simp only [putAll, e0, e1, e2, e3, e4, e5, e6, e7, e8, e9]
                      clear hG9 e0 e1 e2 e3 e4 e5 e6 e7 e8 e9
                      replace q := q.trans (hb9.mono q.size)
                      replace hB := hB.below hb9 hB.lt
                      replace hO := hO.below hb9
                      clear hb9
                      go_simp
                      clear hx hy hhc hhd
                      cases he : edgeP x y with
                      | true =>
                        have hnf := Lib.hid (hyes.out he)
                        clear hyes hnx he
                        go_wp2_with fail
                        go_roundw
                        case rel => exact ⟨k + 1, false, by go_num, by omega, rfl, (by intro h; cases h), fun _ => hnf.out, hO, hB, q⟩
                        case measure => simp [intOf]; omega
                      | false =>
                        have hnf := Lib.hid (hnx.out he)
                        clear hyes hnx he
                        go_wp2_with fail
                        go_roundw
                        case rel => exact ⟨k + 1, true, by go_num, by omega, rfl, fun _ => ⟨hui.out, hnf.out⟩, (by intro h; cases h), hO, hB, q⟩
                        case measure => simp [intOf]; omega
                | false =>
                  have hnf := Lib.hid (hno2.out rfl)
                  clear hyes hno2
                  have hno3 := Lib.hid (show ∀ j, j < i + 1 → ¬ freeD P D j from fun j hj => by
                    rcases Nat.lt_or_ge j i with h | h
                    · exact hno.out j h
                    · obtain rfl : j = i := by omega
                      exact hnf.out)
                  clear hno hnf
                  go_wp2_with fail
                  go_roundw
                  case rel => exact ⟨i + 1, -1, by go_num, by omega, rfl, .inl ⟨rfl, hno3.out⟩, hO, hB, q⟩
                  case measure => simp [intOf]; omega
              · obtain rfl : k = P.length := by omega
                have dk : decide ((P.length : Int) < (P.length : Int)) = false := decide_eq_false (by omega)
                cases b with
                | true =>
                  have hui := Lib.hid (hyes.out rfl).1
                  clear hyes hno2 hno
                  go_wp2_with fail
                  go_roundw
                  case rel => exact ⟨i + 1, i, by go_num, by omega, rfl, .inr ⟨i, rfl, hui.out⟩, hO, hB, q⟩
                  case measure => simp [intOf]; omega
                | false =>
                  have hnf := Lib.hid (hno2.out rfl)
                  clear hyes hno2
                  have hno3 := Lib.hid (show ∀ j, j < i + 1 → ¬ freeD P D j from fun j hj => by
                    rcases Nat.lt_or_ge j i with h | h
                    · exact hno.out j h
                    · obtain rfl : j = i := by omega
                      exact hnf.out)
                  clear hno hnf
                  go_wp2_with fail
                  go_roundw
                  case rel => exact ⟨i + 1, -1, by go_num, by omega, rfl, .inl ⟨rfl, hno3.out⟩, hO, hB, q⟩
                  case measure => simp [intOf]; omega
          · have dz : decide ((j : Int) < 0) = false := decide_eq_false (by omega)
            have hjl := left_lt hj
            have hcp := Lib.hid (count_put hj)
            replace hj := Lib.hid hj
            have hqs := q.size
            have hlt0 := hB.lt
            have hown : ∀ g, Value.ownBlock (.slice ad ord.length ko) = some g → w.heap.size + 1 ≤ g ∧ g < wr.heap.size := fun g hg => hO.block_lt g hg
            go_wp2_with (first
              | (refine wpList_putB boP rfl rfl rfl rfl rfl hB hjl ?_; intro w2 hgw hB2)
              | (refine wpList_buildOne inP rfl rfl rfl (us := [.int .i64 (j : Int)]) rfl rfl (by decide) (by decide) ?_; intro w3 hb3 hrow)
              | (refine wpList_apvRow (E := Elt.int) (n := ord.length + 1) (S := fun k => False) inP rfl rfl rfl rfl ((hO.other hgw (Nat.lt_succ_self _) (Nat.lt_succ_self _)).below hb3) hrow (inR_int _ _ (by unfold W64; omega)) (fun k hk => hk.elim) (by have := hgw.size; have := hb3.size; omega) (by omega) rfl ?_; intro ad9 c9 w4 hO9 hg9 ho9)
              | fail)
            have hB4 := (hB2.below hb3 hB2.lt).grown hg9 fun e => by have := (hown _ e).1; omega
            have q2 := q.grown hgw q.size fun k hk => by injection hk with hk; omega
            have q3 := (q2.trans (hb3.mono q2.size))
            have q4 := q3.grown hg9 q3.size fun k hk => by have := (hown k hk).1; omega
            go_roundw
            case rel => exact ⟨ord ++ [(j : Int)], D.set j true, ad9, c9, by rw [List.length_append]; rfl, by rw [List.length_append]; exact hO9, hB4, by rw [List.length_set]; exact hDl, by rw [hcp.out, List.length_append, hcnt.out]; rfl, q4⟩
            case measure => simp; omega
        · obtain rfl : i = P.length := by omega
          have di : decide ((P.length : Int) < (P.length : Int)) = false := decide_eq_false (by omega)
          rcases hz with ⟨rfl, hno⟩ | ⟨j, rfl, hj⟩
          · exact (free_of hP.out hDl (by rw [← hcnt.out]; exact hlt) hno).elim
          · have dz : decide ((j : Int) < 0) = false := decide_eq_false (by omega)
            have hjl := left_lt hj
            have hcp := Lib.hid (count_put hj)
            replace hj := Lib.hid hj
            have hqs := q.size
            have hlt0 := hB.lt
            have hown : ∀ g, Value.ownBlock (.slice ad ord.length ko) = some g → w.heap.size + 1 ≤ g ∧ g < wr.heap.size := fun g hg => hO.block_lt g hg
            go_wp2_with (first
              | (refine wpList_putB boP rfl rfl rfl rfl rfl hB hjl ?_; intro w2 hgw hB2)
              | (refine wpList_buildOne inP rfl rfl rfl (us := [.int .i64 (j : Int)]) rfl rfl (by decide) (by decide) ?_; intro w3 hb3 hrow)
              | (refine wpList_apvRow (E := Elt.int) (n := ord.length + 1) (S := fun k => False) inP rfl rfl rfl rfl ((hO.other hgw (Nat.lt_succ_self _) (Nat.lt_succ_self _)).below hb3) hrow (inR_int _ _ (by unfold W64; omega)) (fun k hk => hk.elim) (by have := hgw.size; have := hb3.size; omega) (by omega) rfl ?_; intro ad9 c9 w4 hO9 hg9 ho9)
              | fail)
            have hB4 := (hB2.below hb3 hB2.lt).grown hg9 fun e => by have := (hown _ e).1; omega
            have q2 := q.grown hgw q.size fun k hk => by injection hk with hk; omega
            have q3 := (q2.trans (hb3.mono q2.size))
            have q4 := q3.grown hg9 q3.size fun k hk => by have := (hown k hk).1; omega
            go_roundw
            case rel => exact ⟨ord ++ [(j : Int)], D.set j true, ad9, c9, by rw [List.length_append]; rfl, by rw [List.length_append]; exact hO9, hB4, by rw [List.length_set]; exact hDl, by rw [hcp.out, List.length_append, hcnt.out]; rfl, q4⟩
            case measure => simp; omega
    · have e1 : ord.length = P.length := by omega
      have di : decide ((ord.length : Int) < (P.length : Int)) = false := decide_eq_false (by omega)
      go_wp2_with fail
      go_ret2
      exact ⟨_, _, by rw [e1]; rfl, q⟩
end Go.Proofs.Ytobelnedhlepaaa
namespace Go.Proofs.Ytobelnedhlepaaa
open Go.RowKit Go.Shelf
theorem few_smO {x : Ot} (h : fewS x.reads) (h2 : fewD ⟨x.writes, []⟩) : smP ⟨0, 0, false, x.reads, x.writes, false⟩ :=
  ⟨⟨Nat.le_trans h.1 (by omega), fun s hs => ⟨Nat.le_trans (h.2 s hs).1 (by omega), Nat.le_trans (h.2 s hs).2 (by omega)⟩⟩, Nat.le_trans h2.1 (by omega), fun y hy => ⟨Nat.le_trans (h2.2.2 y hy).1 (by omega), Nat.le_trans (h2.2.2 y hy).2 (by omega)⟩⟩
set_option maxRecDepth 100000 in
set_option maxHeartbeats 16000000 in
theorem RivalOrder_w (w : World) {S : Nat → Prop} {a : Option Addr} {n cx : Nat} {l : List Ot} (h0 : RdL Elt.one14 S w (.slice a n cx) l) :
    Calls Try.prog 4 #[.slice a n cx] w fun e w' => e = .returned (.bool true) ∧ Below w.heap.size w w' := by
  have hJ := judges
  have hM := meetsC
  obtain ⟨rfl, hnc, hcm⟩ := h0.len
  have hlm : l.length ≤ 9223372036854775807 := by unfold maxLen at hcm; omega
  have q := Below.refl w.heap.size w
  clear hnc hcm
  go_enter Try.func4, Try.ntmps4
  go_wp2_with fail
  refine (awake14_any hJ hM w).mono ?_
  rintro e w1 ⟨rfl, hb⟩
  replace q := q.trans (hb.mono q.size)
  clear hb
  rcases Nat.lt_or_ge 8 l.length with h8 | h8
  · have d8 : decide ((8 : Int) < (l.length : Int)) = true := decide_eq_true (by omega)
    go_wp2_with fail
    go_ret
    exact ⟨rfl, q⟩
  have d8 : decide ((8 : Int) < (l.length : Int)) = false := decide_eq_false (by omega)
  go_upto_region 5 with (fail)
  clear d8
  go_loopw [4] (fun iv wr => ∃ (i : Nat), iv = .int .i64 i ∧ i ≤ l.length ∧ (∀ x ∈ l.take i, smP ⟨0, 0, false, x.reads, x.writes, false⟩) ∧ Below w.heap.size w wr) (fun i _ => l.length - (intOf i).toNat)
  case atStart => exact ⟨0, rfl, Nat.zero_le _, by simp, q⟩
  case round =>
    clear q
    obtain ⟨i, rfl, hil, hall, q⟩ := hrel
    replace hall := Lib.hid hall
    rcases Nat.lt_or_ge i l.length with hlt | hge
    · have di : decide ((i : Int) < (l.length : Int)) = true := decide_eq_true (by omega)
      obtain ⟨g1, o1, A1, A2, A3, A4, rfl, _, ⟨_, _, c2, c3, _⟩, hk1, hk2, _⟩ := (h0.below q).ot i hlt
      have hnx := Lib.hid (fun h => all_snoc (P := fun x : Ot => smP ⟨0, 0, false, x.reads, x.writes, false⟩) hlt hall.out h)
      obtain ⟨x, ex⟩ : ∃ x, x = l[i] := ⟨_, rfl⟩
      rw [← ex] at c2 c3 hk1 hk2 hnx
      clear ex hall
      have m1 : x.reads.length ≤ 9223372036854775807 := by have := hk1.len; unfold maxLen at this; omega
      have m2 : x.writes.length ≤ 9223372036854775807 := by have := hk2.len; unfold maxLen at this; omega
      rcases Nat.lt_or_ge 6 x.reads.length with h6 | h6
      · have d6 : decide ((6 : Int) < (x.reads.length : Int)) = true := decide_eq_true (by omega)
        go_wp2_with fail
        go_ret
        exact ⟨rfl, q⟩
      have d6 : decide ((6 : Int) < (x.reads.length : Int)) = false := decide_eq_false (by omega)
      rcases Nat.lt_or_ge 6 x.writes.length with h7 | h7
      · have d7 : decide ((6 : Int) < (x.writes.length : Int)) = true := decide_eq_true (by omega)
        go_wp2_with fail
        go_ret
        exact ⟨rfl, q⟩
      have d7 : decide ((6 : Int) < (x.writes.length : Int)) = false := decide_eq_false (by omega)
      go_wp2_with fail
      refine (rFew_any wr hk1).mono ?_
      rintro e w2 ⟨rfl, hb⟩
      replace c3 := (hb.cell (p := ⟨_, _, none⟩) (cell_lt c3)).trans c3
      replace hk2 := hk2.below hb
      replace q := q.trans (hb.mono q.size)
      clear c2 hb hk1 di d6 d7
      by_cases f1 : fewS x.reads
      case neg =>
        rw [decide_eq_false f1]
        go_wp2_with fail
        go_ret
        exact ⟨rfl, q⟩
      rw [decide_eq_true f1]
      replace f1 := Lib.hid f1
      go_wp2_with fail
      refine (few_any w2 (d := ⟨x.writes, []⟩) (S := S) ⟨A3, A4, none, 0, rfl, hk2, RdL.nil _ _ _⟩).mono ?_
      rintro e w3 ⟨rfl, hb⟩
      replace q := q.trans (hb.mono q.size)
      clear c3 hb hk2
      by_cases f2 : fewD ⟨x.writes, []⟩
      case neg =>
        rw [decide_eq_false f2]
        go_wp2_with fail
        go_ret
        exact ⟨rfl, q⟩
      rw [decide_eq_true f2]
      have hn2 := Lib.hid (hnx.out (few_smO f1.out f2))
      clear f1 f2 hnx
      go_wp2_with fail
      go_roundw
      case rel => exact ⟨i + 1, by go_num, by omega, hn2.out, q⟩
      case measure => simp [intOf]; omega
    · obtain rfl : i = l.length := by omega
      have di : decide ((l.length : Int) < (l.length : Int)) = false := decide_eq_false (by omega)
      replace hall := Lib.hid (show ∀ x ∈ l, smP ⟨0, 0, false, x.reads, x.writes, false⟩ from fun x hx => hall.out x (by rw [List.take_length]; exact hx))
      go_wp2_with fail
      refine (committed_any hJ wr (h0.below q) hall.out (by omega)).mono ?_
      rintro e w3 ⟨P, ad, c, rfl, hG, hPl, hR, hb⟩
      replace q := q.trans (hb.mono q.size)
      clear hb di hall
      replace hG := Lib.hid hG
      have hpm : P.length ≤ 8 := by omega
      go_wp2_with fail
      refine (rOrder_any w3 hR hG.out (by omega)).mono ?_
      rintro e w4 ⟨ad2, c2, rfl, hb⟩
      replace q := q.trans (hb.mono q.size)
      clear hb hR hG
      have d1 : ((P.length : Int) == (P.length : Int)) = true := beq_self_eq_true _
      go_wp2_with fail
      go_ret
      exact ⟨rfl, q⟩
end Go.Proofs.Ytobelnedhlepaaa
namespace Go.Proofs.Ytobelnedhlepaaa
open Go.RowKit Go.Shelf
def okF (me : Lv) (ws : List Wr) (p : Ps) : Bool := !(decide (me.snap < p.stamp) && (hitL me.reads p.writes || sameW p.writes ws))
theorem all_snocB {α : Type} {f : α → Bool} {l : List α} {k : Nat} (hlt : k < l.length) : (l.take (k + 1)).all f = ((l.take k).all f && f l[k]) := by
  rw [List.take_succ_eq_append_getElem hlt, List.all_append]
  simp
theorem free_J {me : Lv} {ws : List Wr} {l : List Ps} {lv : List Lv} (h : l.all (okF me ws) = true) : judgeP me ws l lv = (false, 0) := by
  refine judgeM_free fun p hp => ?_
  obtain ⟨h1, h2⟩ := List.mem_filter.1 hp
  have h3 := List.all_eq_true.1 h p h1
  unfold okF at h3
  rw [h2] at h3
  simpa using h3
set_option maxRecDepth 100000 in
set_option maxHeartbeats 16000000 in
theorem RivalFree_w (w : World) {S S2 S3 S4 : Nat → Prop} {v : Value} {me : Lv} {a a2 a3 : Option Addr} {n cx n2 cy n3 cz : Nat} {ws : List Wr} {l : List Ps} {lv : List Lv} (h0 : RdLv S w v me) (hws : RdL Elt.wr S2 w (.slice a n cx) ws) (hl : RdL Elt.ps S3 w (.slice a2 n2 cy) l) (hlv : RdL Elt.lv S4 w (.slice a3 n3 cz) lv) :
    Calls Try.prog 5 #[v, .slice a n cx, .slice a2 n2 cy, .slice a3 n3 cz] w fun e w' => e = .returned (.bool true) ∧ Below w.heap.size w w' := by
  have hJ := judges
  have hM := meetsC
  obtain ⟨aR, cR, rfl, hR, hw64⟩ := h0
  obtain ⟨rfl, _, _⟩ := hws.len
  obtain ⟨rfl, _, _⟩ := hl.len
  obtain ⟨rfl, _, _⟩ := hlv.len
  obtain ⟨W, hW, q, Bx, hsz⟩ := spBox w 24 [.int .i64 me.snap, .slice aR me.reads.length cR]
  have eH : ∀ args w, (callFunc 19 args).run Try.prog w = .ok (.enter 19 args) w := enters_of Try.func19 (by kernel_rfl) rfl
  go_enter Try.func5, Try.ntmps5
  go_upto_region 1 with (fail)
  rw [show w.alloc (.cells #[.int .i64 me.snap, .slice aR me.reads.length cR] 24) = W from hW.symm]
  clear hW hsz
  have r0 := Bx.cell (i := 0) rfl
  have r1 := Bx.cell (i := 1) rfl
  clear Bx
  replace hR := hR.below q
  replace hws := hws.below q
  replace hl := hl.below q
  replace hlv := hlv.below q
  go_wp2_with fail
  refine (awake14_any hJ hM W).mono ?_
  rintro e w9 ⟨rfl, hb⟩
  replace r0 := (hb.cell (p := ⟨w.heap.size, 0, none⟩) (cell_lt r0)).trans r0
  replace r1 := (hb.cell (p := ⟨w.heap.size, 1, none⟩) (cell_lt r1)).trans r1
  replace hR := hR.below hb
  replace hws := hws.below hb
  replace hl := hl.below hb
  replace hlv := hlv.below hb
  replace q := q.trans (hb.mono q.size)
  clear hb
  go_wp2_with fail
  refine (rFew_any _ hR).mono ?_
  rintro e w9 ⟨rfl, hb⟩
  replace r0 := (hb.cell (p := ⟨w.heap.size, 0, none⟩) (cell_lt r0)).trans r0
  replace r1 := (hb.cell (p := ⟨w.heap.size, 1, none⟩) (cell_lt r1)).trans r1
  replace hR := hR.below hb
  replace hws := hws.below hb
  replace hl := hl.below hb
  replace hlv := hlv.below hb
  replace q := q.trans (hb.mono q.size)
  clear hb
  by_cases hf : fewS me.reads
  case neg =>
    rw [decide_eq_false hf]
    go_wp2_with fail
    go_ret
    exact ⟨rfl, q⟩
  rw [decide_eq_true hf]
  have hf1 := Lib.hid hf
  clear hf
  go_wp2_with fail
  refine (few_any _ (d := ⟨ws, []⟩) (S := S2) ⟨a, cx, none, 0, rfl, hws, RdL.nil _ _ _⟩).mono ?_
  rintro e w9 ⟨rfl, hb⟩
  replace r0 := (hb.cell (p := ⟨w.heap.size, 0, none⟩) (cell_lt r0)).trans r0
  replace r1 := (hb.cell (p := ⟨w.heap.size, 1, none⟩) (cell_lt r1)).trans r1
  replace hR := hR.below hb
  replace hws := hws.below hb
  replace hl := hl.below hb
  replace hlv := hlv.below hb
  replace q := q.trans (hb.mono q.size)
  clear hb
  by_cases hf : fewD ⟨ws, []⟩
  case neg =>
    rw [decide_eq_false hf]
    go_wp2_with fail
    go_ret
    exact ⟨rfl, q⟩
  rw [decide_eq_true hf]
  have hf2 := Lib.hid hf
  clear hf
  go_wp2_with fail
  refine (rFewP_any _ hl hlv).mono ?_
  rintro e w9 ⟨rfl, hb⟩
  replace r0 := (hb.cell (p := ⟨w.heap.size, 0, none⟩) (cell_lt r0)).trans r0
  replace r1 := (hb.cell (p := ⟨w.heap.size, 1, none⟩) (cell_lt r1)).trans r1
  replace hR := hR.below hb
  replace hws := hws.below hb
  replace hl := hl.below hb
  replace hlv := hlv.below hb
  replace q := q.trans (hb.mono q.size)
  clear hb
  by_cases hf : fewPs l lv
  case neg =>
    rw [decide_eq_false hf]
    go_wp2_with fail
    go_ret
    exact ⟨rfl, q⟩
  rw [decide_eq_true hf]
  have hf3 := Lib.hid hf
  clear hf
  have hsm := few_sm hf3.out
  have hmp : smP ⟨0, 0, false, me.reads, ws, false⟩ := few_smJ hf1.out hf2.out
  have hln : lv.length ≤ 1000000 := Nat.le_trans hf3.out.2.1 (by omega)
  have hls : ∀ x ∈ lv, smL x.reads := few_smV hf3.out
  clear hf1 hf2 hf3
  have hq0 := q
  clear q
  have hlm : l.length ≤ 1000000 := hsm.1
  go_upto_region 6 with (fail)
  have qv := Below.refl w9.heap.size w9
  go_loopw [10, 11] (fun fv iv wr => ∃ (i : Nat), iv = .int .i64 i ∧ i ≤ l.length ∧ fv = .bool ((l.take i).all (okF me ws)) ∧ Below w9.heap.size w9 wr) (fun _ i _ => l.length - (intOf i).toNat)
  case atStart => exact ⟨0, rfl, Nat.zero_le _, by simp, qv⟩
  case round =>
    clear qv
    obtain ⟨i, rfl, hil, rfl, q⟩ := hrel
    replace hR := hR.below q
    replace hws := hws.below q
    replace r0 := (q.cell (p := ⟨w.heap.size, 0, none⟩) (cell_lt r0)).trans r0
    replace r1 := (q.cell (p := ⟨w.heap.size, 1, none⟩) (cell_lt r1)).trans r1
    rcases Nat.lt_or_ge i l.length with hlt | hge
    · have di : decide ((i : Int) < (l.length : Int)) = true := decide_eq_true (by omega)
      obtain ⟨g1, o1, A1, A2, A3, A4, rfl, _, ⟨_, c1, _, _, c4, _⟩, _, hk2, _⟩ := (hl.below q).ps i hlt
      have hsn := Lib.hid (all_snocB (f := okF me ws) hlt)
      obtain ⟨p, ep⟩ : ∃ p, p = l[i] := ⟨_, rfl⟩
      rw [← ep] at c1 c4 hk2 hsn
      clear ep
      go_upto_region 8 with (fail)
      refine wp_region_gsg (by kernel_rfl) (by kernel_rfl) [sgEq (.pointer (some ⟨w.heap.size, 0 + 1, none⟩)), sgEq (.slice aR me.reads.length cR), sgEq (.slice (some ⟨g1, o1, none⟩) l.length cy), sgEq (.int .i64 (i : Int)), sgEq (.pointer (some ⟨g1, o1 + i * 6, none⟩)), sgEq (.pointer (some ⟨g1, o1 + i * 6 + 4, none⟩)), sgEq (.slice A3 p.writes.length A4), sgEq (.bool (hitL me.reads p.writes)), sgEq (.bool (hitL me.reads p.writes))]
        ⟨?o0, ?o1, ?o2, ?o3, ?o4, ?o5, ?o6, ?o7, ?o8, trivial⟩ ?fin
      case o0 =>
        refine GdOp.plain rfl (fun A vs w' hF hT hb hd => ?_)
        have e1 : A.eval (.tmp 4) = .pointer (some ⟨w.heap.size, 0, none⟩) := hF 4 rfl
        exact wp_fieldN lvS rfl (e1) (by omega) ⟨_, rfl, rfl, Below.refl _ _⟩
      case o1 =>
        refine GdOp.plain rfl (fun A vs w' hF hT hb hd => ?_)
        have e1 : A.eval (.tmp 42) = .pointer (some ⟨w.heap.size, 0 + 1, none⟩) := (hT 42 0 (by simp) rfl).trans (hd ⟨0, .data⟩ (by simp) rfl)
        exact wp_ld_slice (e := 57) rfl e1 (by kernel_rfl) (((hb.cell (p := ⟨w.heap.size, 1, none⟩) (cell_lt r1)).trans r1)) ⟨_, rfl, rfl, Below.refl _ _⟩
      case o2 =>
        refine GdOp.plain rfl (fun A vs w' hF hT hb hd => ?_)
        have e1 : A.eval (.tmp 2) = .slice (some ⟨g1, o1, none⟩) l.length cy := hF 2 rfl
        exact BigFrame.wp_move _ rfl ⟨_, rfl, e1, Below.refl _ _⟩
      case o3 =>
        refine GdOp.plain rfl (fun A vs w' hF hT hb hd => ?_)
        have e1 : A.eval (.tmp 11) = .int .i64 (i : Int) := hF 11 rfl
        exact BigFrame.wp_move _ rfl ⟨_, rfl, e1, Below.refl _ _⟩
      case o4 =>
        refine GdOp.plain rfl (fun A vs w' hF hT hb hd => ?_)
        have e1 : A.eval (.tmp 44) = .slice (some ⟨g1, o1, none⟩) l.length cy := (hT 44 2 (by simp) rfl).trans (hd ⟨2, .data⟩ (by simp) rfl)
        have e2 : A.eval (.tmp 45) = .int .i64 (i : Int) := (hT 45 3 (by simp) rfl).trans (hd ⟨3, .data⟩ (by simp) rfl)
        exact wp_ixN (e := 50) rfl (by kernel_rfl) (by kernel_rfl) (e1) (e2) rfl (by omega) ⟨_, rfl, rfl, Below.refl _ _⟩
      case o5 =>
        refine GdOp.plain rfl (fun A vs w' hF hT hb hd => ?_)
        have e1 : A.eval (.tmp 46) = .pointer (some ⟨g1, o1 + i * 6, none⟩) := (hT 46 4 (by simp) rfl).trans (hd ⟨4, .data⟩ (by simp) rfl)
        exact wp_fieldN psS rfl (e1) (by omega) ⟨_, rfl, rfl, Below.refl _ _⟩
      case o6 =>
        refine GdOp.plain rfl (fun A vs w' hF hT hb hd => ?_)
        have e1 : A.eval (.tmp 47) = .pointer (some ⟨g1, o1 + i * 6 + 4, none⟩) := (hT 47 5 (by simp) rfl).trans (hd ⟨5, .data⟩ (by simp) rfl)
        exact wp_ld_slice (e := 59) rfl e1 (by kernel_rfl) (((hb.cell (p := ⟨_, _, none⟩) (cell_lt c4)).trans c4)) ⟨_, rfl, rfl, Below.refl _ _⟩
      case o7 =>
        refine GdOp.plain rfl (fun A vs w' hF hT hb hd => ?_)
        have e1 : A.eval (.tmp 43) = .slice aR me.reads.length cR := (hT 43 1 (by simp) rfl).trans (hd ⟨1, .data⟩ (by simp) rfl)
        have e2 : A.eval (.tmp 48) = .slice A3 p.writes.length A4 := (hT 48 6 (by simp) rfl).trans (hd ⟨6, .data⟩ (by simp) rfl)
        refine wp_callFn rfl eH (args := #[.slice aR me.reads.length cR, .slice A3 p.writes.length A4]) (by simp only [List.map_toArray, List.map_cons, List.map_nil, e1, e2]) ((rHit_any w' (hR.below hb) (hk2.below hb)).mono ?_)
        rintro e w2 ⟨rfl, hb2⟩
        exact ⟨_, rfl, _, rfl, rfl, hb2⟩
      case o8 =>
        refine GdOp.plain rfl (fun A vs w' hF hT hb hd => ?_)
        have e1 : A.eval (.tmp 49) = .bool (hitL me.reads p.writes) := (hT 49 7 (by simp) rfl).trans (hd ⟨7, .data⟩ (by simp) rfl)
        exact BigFrame.wp_assign _ rfl ⟨_, rfl, e1, Below.refl _ _⟩
      case fin =>
      intro vs9 W9 hb9 hG9
      have e0 : vs9 0 = .pointer (some ⟨w.heap.size, 0 + 1, none⟩) := hG9 0 (by decide)
      have e1 : vs9 1 = .slice aR me.reads.length cR := hG9 1 (by decide)
      have e2 : vs9 2 = .slice (some ⟨g1, o1, none⟩) l.length cy := hG9 2 (by decide)
      have e3 : vs9 3 = .int .i64 (i : Int) := hG9 3 (by decide)
      have e4 : vs9 4 = .pointer (some ⟨g1, o1 + i * 6, none⟩) := hG9 4 (by decide)
      have e5 : vs9 5 = .pointer (some ⟨g1, o1 + i * 6 + 4, none⟩) := hG9 5 (by decide)
      have e6 : vs9 6 = .slice A3 p.writes.length A4 := hG9 6 (by decide)
      have e7 : vs9 7 = .bool (hitL me.reads p.writes) := hG9 7 (by decide)
      have e8 : vs9 8 = .bool (hitL me.reads p.writes) := hG9 8 (by decide)
      simp only [putAll, e0, e1, e2, e3, e4, e5, e6, e7, e8]
      clear hG9 e0 e1 e2 e3 e4 e5 e6 e7 e8
      replace hR := hR.below hb9
      replace hk2 := hk2.below hb9
      replace hws := hws.below hb9
      replace q := q.trans (hb9.mono q.size)
      replace r0 := (hb9.cell (p := ⟨w.heap.size, 0, none⟩) (cell_lt r0)).trans r0
      replace c4 := (hb9.cell (p := ⟨_, _, none⟩) (cell_lt c4)).trans c4
      replace c1 := (hb9.cell (p := ⟨_, _, none⟩) (cell_lt c1)).trans c1
      clear hb9
      go_simp
      go_wp2_with fail
      refine (rSameW_any _ hk2 hws).mono ?_
      rintro e w5 ⟨rfl, hb⟩
      replace c1 := (hb.cell (p := ⟨_, _, none⟩) (cell_lt c1)).trans c1
      replace r0 := (hb.cell (p := ⟨w.heap.size, 0, none⟩) (cell_lt r0)).trans r0
      replace q := q.trans (hb.mono q.size)
      clear hb hR hk2 hws c4 r1
      obtain ⟨bs, ebs⟩ : ∃ b, sameW p.writes ws = b := ⟨_, rfl⟩
      obtain ⟨bv, ebv⟩ : ∃ b, hitL me.reads p.writes = b := ⟨_, rfl⟩
      rw [ebs, ebv]
      replace ebs := Lib.hid ebs
      replace ebv := Lib.hid ebv
      rcases Int.lt_or_le me.snap p.stamp with h9 | h9
      · have d9 : decide (me.snap < p.stamp) = true := decide_eq_true h9
        go_upto_region 10 with (fail)
        cases bv with
        | true =>
          have k1 := Lib.hid (show (l.take (i + 1)).all (okF me ws) = false by rw [hsn.out]; simp [okF, h9, ebs.out, ebv.out])
          clear hsn
          go_quiet (fail)
          go_wp2_with fail
          go_roundw
          case rel => exact ⟨i + 1, by go_num, by omega, by rw [k1.out], Below.drewN q _⟩
          case measure => simp [intOf]; omega
        | false =>
          cases bs with
          | true =>
            have k1 := Lib.hid (show (l.take (i + 1)).all (okF me ws) = false by rw [hsn.out]; simp [okF, h9, ebs.out, ebv.out])
            clear hsn
            go_quiet (fail)
            go_wp2_with fail
            go_roundw
            case rel => exact ⟨i + 1, by go_num, by omega, by rw [k1.out], Below.drewN q _⟩
            case measure => simp [intOf]; omega
          | false =>
            have k1 := Lib.hid (show (l.take (i + 1)).all (okF me ws) = (l.take i).all (okF me ws) by rw [hsn.out]; simp [okF, h9, ebs.out, ebv.out])
            clear hsn
            go_quiet (fail)
            go_wp2_with fail
            go_roundw
            case rel => exact ⟨i + 1, by go_num, by omega, by rw [k1.out], Below.drewN q _⟩
            case measure => simp [intOf]; omega
      · have d9 : decide (me.snap < p.stamp) = false := decide_eq_false (by omega)
        replace h9 : ¬ me.snap < p.stamp := by omega
        go_upto_region 10 with (fail)
        have k1 := Lib.hid (show (l.take (i + 1)).all (okF me ws) = (l.take i).all (okF me ws) by rw [hsn.out]; simp [okF, h9, ebs.out, ebv.out])
        clear hsn
        go_quiet (fail)
        go_wp2_with fail
        go_roundw
        case rel => exact ⟨i + 1, by go_num, by omega, by rw [k1.out], Below.drewN q _⟩
        case measure => simp [intOf]; omega
    · obtain rfl : i = l.length := by omega
      have di : decide ((l.length : Int) < (l.length : Int)) = false := decide_eq_false (by omega)
      rw [List.take_length]
      replace hl := hl.below q
      replace hlv := hlv.below q
      replace q := hq0.trans (q.mono hq0.size)
      obtain ⟨bf, ebf⟩ : ∃ b, l.all (okF me ws) = b := ⟨_, rfl⟩
      rw [ebf]
      have hfr := Lib.hid (fun h : bf = true => free_J (lv := lv) (ebf.trans h))
      clear ebf
      go_wp2_with fail
      refine (hJ.call _ (me := me) ⟨_, _, rfl, hR, hw64⟩ hws hl hlv hmp hsm hln hls).mono ?_
      rintro e w6 ⟨rfl, hb⟩
      replace r0 := (hb.cell (p := ⟨w.heap.size, 0, none⟩) (cell_lt r0)).trans r0
      replace r1 := (hb.cell (p := ⟨w.heap.size, 1, none⟩) (cell_lt r1)).trans r1
      replace hR := hR.below hb
      replace hws := hws.below hb
      replace hl := hl.below hb
      replace hlv := hlv.below hb
      replace q := q.trans (hb.mono q.size)
      clear hb
      obtain ⟨jo, ejo⟩ : ∃ j, j = (judgeP me ws l lv).1 := ⟨_, rfl⟩
      obtain ⟨je, eje⟩ : ∃ j, j = (judgeP me ws l lv).2 := ⟨_, rfl⟩
      rw [← ejo, ← eje]
      have hfr2 := Lib.hid (show bf = true → jo = false ∧ je = 0 from fun h => by rw [ejo, eje, hfr.out h]; exact ⟨rfl, rfl⟩)
      clear ejo eje hfr
      have hcl := hJ.call _ (me := me) (ws := ws) (l := []) (lv := lv) ⟨_, _, rfl, hR, hw64⟩ hws (RdL.nil Elt.ps (fun _ => True) _) hlv hmp ⟨by simp, fun _ h => by cases h⟩ hln hls
      rw [show judgeP me ws [] lv = (false, 0) from rfl] at hcl
      go_wp2_with fail
      refine hcl.mono ?_
      rintro e w7 ⟨rfl, hb⟩
      clear hcl
      replace r0 := (hb.cell (p := ⟨w.heap.size, 0, none⟩) (cell_lt r0)).trans r0
      replace r1 := (hb.cell (p := ⟨w.heap.size, 1, none⟩) (cell_lt r1)).trans r1
      replace hR := hR.below hb
      replace hws := hws.below hb
      replace hl := hl.below hb
      replace hlv := hlv.below hb
      replace q := q.trans (hb.mono q.size)
      clear hb
      clear r0 r1 hR hws hl hlv
      cases bf with
      | true =>
        obtain ⟨rfl, rfl⟩ := hfr2.out rfl
        go_wp2_with fail
        go_ret
        exact ⟨rfl, q⟩
      | false =>
        clear hfr2
        go_wp2_with fail
        go_ret
        exact ⟨rfl, q⟩
end Go.Proofs.Ytobelnedhlepaaa
namespace Go.Proofs.Ytobelnedhlepaaa
open Go.RowKit
section
variable {α : Type} {E : Elt α} {P : Program} {T Te : TypeId} {o : Oper} {a : Act} {K : Act → World → Prop} {Q : Exit → Act → World → Prop} {w : World}
theorem wp_appendRB (hP : LoP P T Te E.size) {s x : Operand} (ho : o.op = .call { callee := .builtin .append, args := #[s, x], argTypes := #[T, T] })
    {base lo : Nat} {ad ax : Option Addr} {n c cx nx : Nat} {xs ys : List α} {S : Nat → Prop} (hs : a.eval s = .slice ad n c) (hown : OwnL E Te base lo w (.slice ad n c) xs) (hx : a.eval x = .slice ax nx cx) (hr : RdL E S w (.slice ax nx cx) ys)
    (hS : ∀ k, S k → lo ≤ k ∧ k < w.heap.size ∧ some k ≠ Value.ownBlock (.slice ad n c)) (hbase : base ≤ w.heap.size)
    (h : ∀ v' w', OwnL E Te base lo w' v' (xs ++ ys) → w.grownBy w' (Value.ownBlock (.slice ad n c)) → (v'.ownBlock = Value.ownBlock (.slice ad n c) ∨ v'.ownBlock = some w.heap.size) → K (a.put o.dst v') w') (hlen : xs.length + ys.length ≤ 1073741824) : o.wp P a w K Q := by
  obtain ⟨rfl, _, _⟩ := hr.len
  by_cases h0 : ys = []
  · subst h0
    obtain ⟨i, z, hi, hz, hsz, hby, hzs⟩ := hP.all
    have hsrc : Src P i.size T (.slice ax 0 cx) 0 [] w := by
      cases ax with
      | none => exact Src.ofNil w hP.hT cx
      | some p => exact Src.ofSlice w hP.hT p 0 cx [] (by simp) (fun j u h => by simp at h) (fun u h => by cases h)
    have hle : n ≤ c := hown.rdL.len.2.1
    have hrun := run_append_nothing w T T o.type Te i hP.hT hi ad n c hle _ hsrc
    have h2 := h (.slice ad n c) w (by rw [List.append_nil]; exact hown) ⟨rfl, rfl, rfl, Nat.le_refl _, fun _ _ _ => rfl⟩ (.inl rfl)
    unfold Oper.wp execOp
    simp only [ho, resolve, invoke, builtin, Sem.run_bind, Sem.run_pure, Result.andThen_ok, List.map_toArray, List.map_cons, List.map_nil, hs, hx]
    rw [show (Builtin.append_ #[T, T] o.type #[.slice ad n c, .slice ax ([] : List α).length cx]).run P w = _ from hrun]
    exact h2
  · obtain ⟨b, off, _, rfl, _⟩ := hr.at 0 (List.length_pos_iff.2 h0)
    obtain ⟨ns, hn, hc⟩ := hr.flat
    obtain ⟨v', w', hrun, h2, h3, h4⟩ := run_append_L hP w o.type hown (fun j u hj => by rw [Addr.add_lit]; exact hc j u hj) hn hS hbase hlen (c := cx)
    unfold Oper.wp execOp
    simp only [ho, resolve, invoke, builtin, Sem.run_bind, Sem.run_pure, Result.andThen_ok, List.map_toArray, List.map_cons, List.map_nil, hs, hx, hrun]
    exact h _ _ h2 h3 h4
end
def cur2 {α : Type} (xs : List α) (y : α) : Option Value → Option Value → Option Value → Option (Value × List α)
  | _, _, some u => some (u, xs ++ [y])
  | _, some u, none => some (u, xs)
  | some u, none, none => some (u, [])
  | none, none, none => none
structure Ap2E {α : Type} (E : Elt α) (Te : TypeId) (xs : List α) (y : α) (us : List Value) (W : World) (o3 o5 o7 o8 : Option Value) (w : World) : Prop where
  bl : Below W.heap.size W w
  cu : ∀ u l, cur2 xs y o3 o5 o8 = some (u, l) → OwnL E Te W.heap.size 0 w u l
  rw : ∀ u, o7 = some u → o8 = none → ∃ g, u = .slice (some ⟨g, 0, none⟩) 1 1 ∧ (W.heap.size ≤ g ∧ g < w.heap.size) ∧ BoxN w g Te us ∧ ∀ v l, cur2 xs y o3 o5 o8 = some (v, l) → v.ownBlock ≠ some g
  d5 : o5 ≠ none → o3 ≠ none
  d8 : o8 ≠ none → o5 ≠ none ∧ o7 ≠ none
def Ap2L {α : Type} (E : Elt α) (Te : TypeId) (xs : List α) (y : α) (us : List Value) (W : World) : List (Option Value) → World → Prop
  | [o3, o5, o7, o8], w => Ap2E E Te xs y us W o3 o5 o7 o8 w
  | _, _ => False
section
variable {α : Type} {E : Elt α} {Te : TypeId} {xs : List α} {y : α} {us : List Value} {W w w2 : World} {o3 o5 o7 o8 : Option Value}
theorem Ap2E.start : Ap2E E Te xs y us W none none none none W :=
  ⟨Below.refl _ _, fun _ _ h => (by cases h), fun _ h => (by cases h), fun h => absurd rfl h, fun h => absurd rfl h⟩
theorem Ap2E.more (h : Ap2E E Te xs y us W o3 o5 o7 o8 w) (hb : Below w.heap.size w w2) : Ap2E E Te xs y us W o3 o5 o7 o8 w2 where
  bl := h.bl.trans (hb.mono h.bl.size)
  cu u l hu := (h.cu u l hu).below hb
  rw u hu h8 := by
    obtain ⟨g, e, h1, h2, h3⟩ := h.rw u hu h8
    exact ⟨g, e, ⟨h1.1, Nat.lt_of_lt_of_le h1.2 hb.size⟩, h2.below hb h1.2, h3⟩
  d5 := h.d5
  d8 := h.d8
theorem Ap2L.more : ∀ (l : List (Option Value)) (w w' : World), Ap2L E Te xs y us W l w → Below w.heap.size w w' → Ap2L E Te xs y us W l w'
  | [_, _, _, _], _, _, h, hb => Ap2E.more h hb
theorem Ap2L.bl : ∀ {l : List (Option Value)} {w : World}, Ap2L E Te xs y us W l w → Below W.heap.size W w
  | [_, _, _, _], _, h => Ap2E.bl h
theorem Ap2E.no5 (h : Ap2E E Te xs y us W none o5 o7 o8 w) : o5 = none ∧ o8 = none := by
  have h5 : o5 = none := by
    cases e : o5 with
    | none => rfl
    | some v => exact absurd rfl (h.d5 (by rw [e]; simp))
  refine ⟨h5, ?_⟩
  cases e : o8 with
  | none => rfl
  | some v => exact absurd h5 (h.d8 (by rw [e]; simp)).1
theorem Ap2E.no8 (h : Ap2E E Te xs y us W o3 none o7 o8 w) : o8 = none := by
  cases e : o8 with
  | none => rfl
  | some v => exact absurd rfl (h.d8 (by rw [e]; simp)).1
theorem Ap2E.no8r (h : Ap2E E Te xs y us W o3 o5 none o8 w) : o8 = none := by
  cases e : o8 with
  | none => rfl
  | some v => exact absurd rfl (h.d8 (by rw [e]; simp)).2
theorem Ap2E.three (h : Ap2E E Te xs y us W none o5 o7 o8 w) (hb : Below w.heap.size w w2) {v : Value} (hO : OwnL E Te w.heap.size w.heap.size w2 v []) : Ap2E E Te xs y us W (some v) o5 o7 o8 w2 := by
  obtain ⟨rfl, rfl⟩ := h.no5
  have h2 := h.more hb
  refine ⟨h2.bl, fun u l hu => ?_, fun u hu _ => ?_, fun e => absurd rfl e, fun e => absurd rfl e⟩
  · injection hu with hu
    injection hu with h3 h4
    subst h3 h4
    exact hO.to h.bl.size (Nat.zero_le _)
  · obtain ⟨g, e, h3, h4, _⟩ := h2.rw u hu rfl
    obtain ⟨g', e', h3', _⟩ := h.rw u hu rfl
    rw [e] at e'
    cases e'
    refine ⟨g, e, h3, h4, fun v' l hv e2 => ?_⟩
    injection hv with hv
    injection hv with h5 _
    subst h5
    have := (hO.block_lt g e2).1
    omega
theorem Ap2E.seven (h : Ap2E E Te xs y us W o3 o5 none o8 w) : Ap2E E Te xs y us W o3 o5 (some (.slice (some ⟨w.heap.size, 0, none⟩) 1 1)) o8 (w.alloc (.cells us.toArray Te)) := by
  have h8 := h.no8r
  subst h8
  have hb : Below w.heap.size w (w.alloc (.cells us.toArray Te)) := (Below.refl _ _).alloc (Nat.le_refl _) _
  have h2 := h.more hb
  refine ⟨h2.bl, h2.cu, fun u hu _ => ?_, h2.d5, fun e => absurd rfl e⟩
  injection hu with hu
  subst hu
  refine ⟨_, rfl, ⟨h.bl.size, by simp⟩, BoxN.new _ _ _, fun v l hv e => ?_⟩
  have := (h.cu v l hv).block_lt _ e
  omega
theorem Ap2E.five {v3 v5 : Value} (h : Ap2E E Te xs y us W (some v3) none o7 o8 w) (hg : w.grownBy w2 v3.ownBlock) (hO : OwnL E Te W.heap.size 0 w2 v5 xs) (hv : v5.ownBlock = v3.ownBlock ∨ v5.ownBlock = some w.heap.size) : Ap2E E Te xs y us W (some v3) (some v5) o7 o8 w2 := by
  have h8 := h.no8
  subst h8
  have h3 := h.cu v3 [] rfl
  refine ⟨h.bl.grown hg h.bl.size fun k hk => (h3.block_lt k hk).1, fun u l hu => ?_, fun u hu _ => ?_, fun _ => by simp, fun e => absurd rfl e⟩
  · injection hu with hu
    injection hu with h4 h5
    subst h4 h5
    exact hO
  · obtain ⟨g, e, h4, h5, h6⟩ := h.rw u hu rfl
    have h7 := h6 v3 [] rfl
    refine ⟨g, e, ⟨h4.1, Nat.lt_of_lt_of_le h4.2 hg.size⟩, (hg.block g h4.2 fun e => h7 e.symm).trans h5, fun v l hv2 e2 => ?_⟩
    injection hv2 with hv2
    injection hv2 with h8 _
    subst h8
    rcases hv with hv | hv
    · exact h7 (hv.symm.trans e2)
    · rw [hv] at e2
      injection e2 with e2
      omega
theorem Ap2E.eight {v3 v5 v7 v8 : Value} (h : Ap2E E Te xs y us W (some v3) (some v5) (some v7) none w) (hg : w.grownBy w2 v5.ownBlock) (hO : OwnL E Te W.heap.size 0 w2 v8 (xs ++ [y])) : Ap2E E Te xs y us W (some v3) (some v5) (some v7) (some v8) w2 := by
  have h5 := h.cu v5 xs rfl
  refine ⟨h.bl.grown hg h.bl.size fun k hk => (h5.block_lt k hk).1, fun u l hu => ?_, fun u _ e => (by cases e), fun _ => by simp, fun _ => by simp⟩
  injection hu with hu
  injection hu with h3 h4
  subst h3 h4
  exact hO
end
end Go.Proofs.Ytobelnedhlepaaa
