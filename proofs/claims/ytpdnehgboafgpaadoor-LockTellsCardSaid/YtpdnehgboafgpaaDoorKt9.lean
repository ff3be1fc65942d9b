/-
  TEXTS OF ONE PROOF, merged: LkY, LtA, LtB, LtC.
-/
import Derived.Test.YtpdnehgboafgpaaDoorKt8
namespace Go.Proofs.YtpdnehgboafgpaaDoor
open Go.RowKit Go.Shelf
def k0 : Lk := ⟨0, false, pointS 0 [97], 5⟩
def k1 : Lk := ⟨1, false, pointS 0 [97], 3⟩
def k2 : Lk := ⟨2, false, pointS 0 [98], 5⟩
def k3 : Lk := ⟨1, false, pointS 0 [99], 3⟩
def k4 : Lk := ⟨0, false, pointS 0 [97], 3⟩
def u0 : Lk := ⟨0, true, ⟨0, [], [], false⟩, 2⟩
def u1 : Lk := ⟨0, true, ⟨0, [], [], false⟩, 3⟩
def v0 : Lk := ⟨0, true, ⟨0, [], [], false⟩, 4⟩
def zk : Lk := ⟨0, false, ⟨0, [], [], false⟩, 0⟩
theorem ask11_1 : askL [] [] k0 = ([k0], [], 0) := by decide
theorem ask11_2 : askL [k0] [] k1 = ([k0], [k1], 110) := by decide
theorem ask11_3 : askL [k0] [k1] k2 = ([k0, k2], [k1], 0) := by decide
theorem ask11_4 : askL [k0, k2] [k1] k3 = ([k0, k2], [k1], 1) := by decide
theorem ask11_5 : askL [k0, k2] [k1] k4 = ([k0, k2], [k1], 0) := by decide
theorem drop11 : dropC [k0, k2] [k1] 0 = ([k2, k1], [], [1]) := by decide
theorem rise11 : riseL [1] = [1] := by
  simp [riseL, Lib.compact, Lib.compactUpTo]
  exact ⟨0, by simp [Lib.keeps], rfl⟩
theorem ask11_7 : askL [] [] u0 = ([u0], [], 0) := by decide
theorem ask11_8 : askL [u0] [] u1 = ([v0], [], 0) := by decide
theorem ask11_6 : askL (List.replicate 41 zk) [] k4 = (List.replicate 41 zk, [], 1) := by decide
theorem blk11 {l : List Int} (h : (okLk [k0] [k1] ∧ ∃ i, ∃ h : i < [k1].length, [k1][i].owner = 1 ∧ (∀ y ∈ [k1].take i, y.owner ≠ 1) ∧ l = riseL (blkO [k1][i] ([k0] ++ [k1].take i))) ∨ (decide (okLk [k0] [k1]) && waitsL [k1] 1) = false ∧ l = []) : l = [0] := by
  rcases h with ⟨_, i, hi, _, _, rfl⟩ | ⟨h, _⟩
  · obtain rfl : i = 0 := by simpa using hi
    have e : blkO k1 [k0] = [0] := by decide
    show riseL (blkO k1 [k0]) = [0]
    rw [e]
    simp [riseL, Lib.compact, Lib.compactUpTo]
    exact ⟨0, by simp [Lib.keeps], rfl⟩
  · exact absurd h (by decide)
theorem made11 {α : Type} {E : Elt α} {S : Nat → Prop} {w : World} {x : α} {us : List Value} {b : Nat} {t : TypeId} (hx : E.R S w x us) (hrow : w.heap[b]? = some (.cells us.toArray t (0, 0))) (hS : S b) : RdL E S w (.slice (some ⟨b, 0, none⟩) 1 1) [x] :=
  ⟨_, 1, rfl, Nat.le_refl _, by unfold maxLen; omega, .inr ⟨b, 0, rfl, hS, fun r h => by
    obtain rfl : r = 0 := by simpa using h
    exact ⟨us, hx, fun j u hj => by simp [World.cell?, hrow, hj]⟩⟩⟩
theorem sm41 : smK (List.replicate 41 zk) := ⟨by decide, fun x hx => by obtain rfl := List.eq_of_mem_replicate hx; decide⟩
theorem wp_mk41 {o : Oper} {a : Act} {K : Act → World → Prop} {Q : Exit → Act → World → Prop} {w : World} {x y : Operand} (ho : o.op = .makeSlice 22 x y) (hx : a.eval x = .int .i64 41) (hy : a.eval y = .int .i64 41)
    (h : ∀ w', Below w.heap.size w w' → RdL Elt.lk (fun g => w.heap.size ≤ g ∧ g < w'.heap.size) w' (.slice (some ⟨w.heap.size, 0, none⟩) 41 41) (List.replicate 41 zk) → K (a.put o.dst (.slice (some ⟨w.heap.size, 0, none⟩) 41 41)) w') : o.wp Tryd.prog a w K Q := by
  obtain ⟨i, hi, he⟩ := Option.map_eq_some_iff.1 (show (Tryd.prog.info? 29).map (fun i => (i.zero, i.bytes, i.size)) = some (some (.agg #[.int .i64 0, .bool false, .int .i64 0, .slice none 0 0, .slice none 0 0, .bool false, .int .i64 0]), 88, 7) by kernel_rfl)
  injection he with h1 he
  injection he with h2 h3
  have hr := run_make (P := Tryd.prog) w 22 29 i _ (by kernel_rfl) hi h1 .i64 .i64 41 41 (by decide) (by decide) (by rw [h2]; decide) (by decide)
  rw [h3] at hr
  unfold Oper.wp execOp
  simp only [ho, hx, hy, Sem.run_bind, Sem.run_pure, Result.andThen_ok, hr]
  refine h _ ((Below.refl _ _).alloc (Nat.le_refl _) _) ⟨_, 41, rfl, by simp, by unfold maxLen; omega, .inr ⟨_, 0, rfl, ⟨Nat.le_refl _, by simp [World.alloc, -World.alloc_eq]⟩, fun r hl => ⟨lkC zk (.slice none 0 0) (.slice none 0 0), ?_, fun j u hj => ?_⟩⟩⟩
  · rw [List.getElem_replicate]
    exact ⟨_, _, rfl, RdS.nil _ _, RdS.nil _ _, by unfold Lk64 W64 zk; decide⟩
  · have hr41 : r < 41 := by simpa using hl
    have hj7 : j < 7 := by have := (List.getElem?_eq_some_iff.1 hj).1; simpa [lkC] using this
    have hm : (r * 7 + j) % 7 = j := by omega
    have hn : r * 7 + j < 287 := by omega
    have e7 : Elt.lk.size = 7 := rfl
    rw [e7]
    simp only [World.cell?, World.alloc, Array.getElem?_push_size]
    rw [← hj]
    simp only [madeCells, Value.cells, Nat.zero_add, Array.getElem?_map, Array.getElem?_range]
    rcases j with _ | _ | _ | _ | _ | _ | _ | j
    all_goals first | omega | (simp [hn, hm, lkC, zk]; done) | (simp [lkC, zk]; omega)
set_option maxRecDepth 100000 in
set_option maxHeartbeats 32000000 in
theorem awake11_any (w : World) (hT : TabAt w) : Calls Tryd.prog 8 #[] w fun e w' => e = .returned (.bool true) ∧ Below w.heap.size w w' := by
  have eOne : ∀ args w, (callFunc 31 args).run Tryd.prog w = .ok (.enter 31 args) w := enters_of Tryd.func31 (by kernel_rfl) rfl
  have eAsk : ∀ args w, (callFunc 30 args).run Tryd.prog w = .ok (.enter 30 args) w := enters_of Tryd.func30 (by kernel_rfl) rfl
  go_enter Tryd.func8, Tryd.ntmps8
  try dsimp only [List.append]
  have q := Below.refl w.heap.size w
  have tb := hT
  go_wp2_with fail
  refine (one_any w (o := 0) (m := 5) (b := 97) (by unfold W64; decide) (by unfold W64; decide)).mono ?_
  rintro e w1 ⟨v, rfl, hv, hb⟩
  replace tb := tb.below hb
  replace q := q.trans (hb.mono q.size)
  clear hb
  have hcl := lAsk_any w1 tb (H := []) (Q := []) (x := k0) (S := fun _ => True) ⟨none, 0, none, 0, rfl, RdL.nil _ _ _, RdL.nil _ _ _⟩ (by unfold smK; decide) (by unfold smK; decide) (by decide) (by decide) hv (by decide) (by decide)
  rw [ask11_1] at hcl
  go_wp2_with fail
  refine hcl.mono ?_
  rintro e w2 ⟨aA, cA, mA, nA, rfl, ⟨_, _, _, _, er, rhA, rqA⟩, hb⟩
  injection er with er
  injection er with er
  injection er with er1 er
  injection er with er2 _
  rw [← er1] at rhA
  rw [← er2] at rqA
  clear hcl hv er1 er2
  replace tb := tb.below hb
  replace q := q.trans (hb.mono q.size)
  clear hb
  replace rhA : RdL Elt.lk (fun _ => True) _ (.slice aA 1 cA) [k0] := rhA.weak fun _ _ => trivial
  replace rqA : RdL Elt.lk (fun _ => True) _ (.slice mA 0 nA) [] := rqA.weak fun _ _ => trivial
  go_upto_region 2 with (first | (refine wpList_boxNew (vs := [.slice none 0 0, .slice none 0 0]) (by kernel_rfl) rfl rfl ?_; intro wa hba hBa) | (refine wpList_boxStore (us := [.slice aA 1 cA, .slice mA 0 nA]) (by kernel_rfl) rfl rfl rfl rfl rfl rfl hBa rfl ?_; intro w3 hgw xA) | fail)
  try go_simp
  have hbw := hba.grown hgw hba.size fun k hk => by injection hk with hk; omega
  replace rhA := rhA.below hbw
  replace rqA := rqA.below hbw
  replace tb := tb.below hbw
  replace q := q.trans (hbw.mono q.size)
  clear hbw hgw hba hBa
  obtain ⟨bA, hbA⟩ : ∃ bA, bA = w2.heap.size := ⟨_, rfl⟩
  rw [← hbA] at xA
  rw [← hbA]
  clear hbA
  replace xA : BoxN _ _ _ [.slice aA 1 cA, .slice mA 0 nA] := xA
  refine wp_region_setl (K := fun _ _ => True) (by kernel_rfl) (by kernel_rfl) [1, 2, 3, 4, 5, 6, 7] (by kernel_rfl) [lEq (.agg #[.slice aA 1 cA, .slice mA 0 nA]), lAny, lAny, lAny, lAny, lAny, lAny, lAny, lEq (.int .i64 ((([k0], [k1], 110)).2.2 : Nat))]
    (CbK #[] 5 (LsR ([k0], [k1], 110)) zLs LsB (LkV k1) AnyVk _) (CbK.more (lsStays ([k0], [k1], 110) k1)) (CbS.start _)
    ⟨?o0, ?o1, ?o2, ?o3, ?o4, ?o5, ?o6, ?o7, ?o8, trivial⟩ ?fin
  case o0 =>
    refine StOp.free rfl (by kernel_rfl) (fun A va D w' hF hT hN hE hd hu hg => ?_)
    have e1 : A.eval (.tmp 1) = .pointer (some ⟨bA, 0, none⟩) := hF 1 rfl
    have hBE := CbK.below hE
    exact wp_load2 lsS rfl e1 ((xA.below hBE xA.lt).cell (i := 0) rfl) ((xA.below hBE xA.lt).cell (i := 1) rfl) ⟨_, rfl, rfl, Below.refl _ _⟩
  case o1 =>
    refine StOp.set rfl (by kernel_rfl) (fun A va D w' hF hT hN hE hd hu hg => ?_)
    have hE2 := hE
    simp only [told, List.map_cons, List.map_nil, hN, Bool.false_eq_true, if_false] at hE2
    refine wp_callFn rfl eOne (args := #[.int .i64 1, .string ⟨#[97]⟩, .int .i64 3]) (by simp only [List.map_toArray, List.map_cons, List.map_nil]; rfl) ((one_any w' (o := 1) (m := 3) (b := 97) (by unfold W64; decide) (by unfold W64; decide)).mono ?_)
    rintro e w2 ⟨v, rfl, hv, hb2⟩
    have h5 := CbS.key (lsStays ([k0], [k1], 110) k1) hE2 rfl hb2 (u := v) hv
    exact ⟨_, rfl, _, rfl, by simpa [CbK, told, don, upd] using h5, trivial⟩
  case o2 =>
    refine StOp.set rfl (by kernel_rfl) (fun A va D w' hF hT hN hE hd hu hg => ?_)
    have e1 : A.eval (.tmp 27) = .agg #[.slice aA 1 cA, .slice mA 0 nA] := (hT 27 0 (by simp) rfl).trans (hg ⟨0, .data⟩ (by simp) rfl rfl)
    have x2 : A.eval (.tmp 28) = va 1 := hT 28 1 (by simp) rfl
    have hE2 := hE
    have d1 : D 1 = true := hd ⟨1, .data⟩ (by simp) rfl
    simp only [told, List.map_cons, List.map_nil, hN, d1, Bool.false_eq_true, if_false, if_true] at hE2
    have hBE := hE2.be
    have hcl := lAsk_any w' (tb.below hBE) (H := [k0]) (Q := []) (x := k1) ⟨aA, cA, mA, nA, rfl, rhA.below hBE, rqA.below hBE⟩ (by unfold smK; decide) (by unfold smK; decide) (by decide) (by decide) (hE2.k1 _ rfl) (by decide) (by decide)
    rw [ask11_2] at hcl
    refine wp_callFn rfl eAsk (args := #[.agg #[.slice aA 1 cA, .slice mA 0 nA], va 1]) (by simp only [List.map_toArray, List.map_cons, List.map_nil, e1, x2]) (hcl.mono ?_)
    rintro e w2 ⟨a, c, a2, c2, rfl, hrd, hb2⟩
    have h5 := CbS.call (lsStays ([k0], [k1], 110) k1) hE2 (by simp) hb2 (v := .agg #[.slice a _ c, .slice a2 _ c2]) (e := .int .i64 _) ⟨rfl, hrd⟩
    exact ⟨_, rfl, _, rfl, by simpa [CbK, told, don, upd, d1] using h5, trivial⟩
  case o3 =>
    refine StOp.set rfl (by kernel_rfl) (fun A va D w' hF hT hN hE hd hu hg => ?_)
    have x1 : A.eval (.tmp 29) = va 2 := hT 29 2 (by simp) rfl
    have hE2 := hE
    have d2 : D 2 = true := hd ⟨2, .data⟩ (by simp) rfl
    simp only [told, List.map_cons, List.map_nil, hN, d2, Bool.false_eq_true, if_false, if_true] at hE2
    have h5 := CbS.move hE2
    exact BigFrame.wp_move _ rfl ⟨_, rfl, by rw [x1]; simpa [CbK, told, don, upd, d2] using h5, trivial⟩
  case o4 =>
    refine StOp.set rfl (by kernel_rfl) (fun A va D w' hF hT hN hE hd hu hg => ?_)
    have x1 : A.eval (.tmp 26) = va 3 := hT 26 3 (by simp) rfl
    have hE2 := hE
    have d3 : D 3 = true := hd ⟨3, .data⟩ (by simp) rfl
    simp only [told, List.map_cons, List.map_nil, hN, d3, Bool.false_eq_true, if_false, if_true] at hE2
    obtain ⟨v, e, em⟩ := CbS.tup hE2
    rw [em] at hE2
    have h5 := CbS.ex0 hE2
    exact wp_ex rfl (x1.trans em) rfl ⟨_, rfl, by simpa [CbK, told, don, upd, d3, em] using h5, trivial⟩
  case o5 =>
    refine StOp.set rfl (by kernel_rfl) (fun A va D w' hF hT hN hE hd hu hg => ?_)
    have x1 : A.eval (.tmp 26) = va 3 := hT 26 3 (by simp) rfl
    have hE2 := hE
    have d3 : D 3 = true := hd ⟨3, .data⟩ (by simp) rfl
    simp only [told, List.map_cons, List.map_nil, hN, d3, Bool.false_eq_true, if_false, if_true] at hE2
    obtain ⟨v, e, em⟩ := CbS.tup hE2
    rw [em] at hE2
    have h5 := CbS.ex1 hE2
    exact wp_ex rfl (x1.trans em) rfl ⟨_, rfl, by simpa [CbK, told, don, upd, d3, em] using h5, trivial⟩
  case o6 =>
    refine StOp.set rfl (by kernel_rfl) (fun A va D w' hF hT hN hE hd hu hg => ?_)
    have hE2 := hE
    simp only [told, List.map_cons, List.map_nil, hN, Bool.false_eq_true, if_false] at hE2
    refine wp_boxNew (vs := [.slice none 0 0, .slice none 0 0]) (by kernel_rfl) rfl (fun w2 hb2 hz => ⟨_, rfl, ?_, trivial⟩)
    have h5 := CbS.alloc (lsStays ([k0], [k1], 110) k1) hE2 hb2 hz
    simpa [CbK, told, don, upd] using h5
  case o7 =>
    refine StOp.set rfl (by kernel_rfl) (fun A va D w' hF hT hN hE hd hu hg => ?_)
    have x1 : A.eval (.tmp 3) = va 6 := hT 3 6 (by simp) rfl
    have x2 : A.eval (.tmp 30) = va 4 := hT 30 4 (by simp) rfl
    have hE2 := hE
    have d6 : D 6 = true := hd ⟨6, .data⟩ (by simp) rfl
    have d4 : D 4 = true := hd ⟨4, .data⟩ (by simp) rfl
    simp only [told, List.map_cons, List.map_nil, hN, d6, d4, Bool.false_eq_true, if_false, if_true] at hE2
    obtain ⟨b9, eb, hb0⟩ := CbS.box hE2
    obtain ⟨e, hm⟩ := hE2.mx _ rfl
    obtain ⟨v, e2, ec, _, hrd⟩ := hE2.rr _ (hE2.mv _ hm)
    obtain ⟨A1, B1, A2, B2, ev, _⟩ := id hrd
    injection ec with ec
    injection ec with ec
    injection ec with ec _
    rw [← ec] at ev
    refine wp_boxStore (vs := [.slice none 0 0, .slice none 0 0]) (us := [.slice A1 _ B1, .slice A2 _ B2]) (by kernel_rfl) rfl (x1.trans eb) (x2.trans ev) rfl hb0 rfl (fun w2 hg2 ht2 => ⟨_, rfl, ?_, trivial⟩)
    rw [eb] at hE2
    have h5 := CbS.sto (u := undef) (lsStays ([k0], [k1], 110) k1) hE2 hg2 ⟨_, _, ev, ht2⟩
    simpa [CbK, told, don, upd, d6, d4, eb] using h5
  case o8 =>
    refine StOp.free rfl (by kernel_rfl) (fun A va D w' hF hT hN hE hd hu hg => ?_)
    have x1 : A.eval (.tmp 31) = va 5 := hT 31 5 (by simp) rfl
    have hE2 := hE
    have d5 : D 5 = true := hd ⟨5, .data⟩ (by simp) rfl
    simp only [told, List.map_cons, List.map_nil, d5, if_true] at hE2
    have ee := CbS.errL hE2
    exact BigFrame.wp_assign _ rfl ⟨_, rfl, x1.trans ee, Below.refl _ _⟩
  case fin =>
  intro vs1 W1 hE hG
  obtain ⟨bB, aB, cB, mB, nB, ez, em, ec, ev, ee, xB, rhB, rqB, hb⟩ := CbS.locks hE (by simp)
  have g0 : vs1 0 = .agg #[.slice aA 1 cA, .slice mA 0 nA] := hG 0 (by decide) rfl
  have g8 : vs1 8 = .int .i64 ((([k0], [k1], 110)).2.2 : Nat) := hG 8 (by decide) rfl
  simp only [putAll, g0, g8, ec, em, ev, ee, ez]
  clear hE hG g0 g8 ec em ev ee ez
  replace rhA := rhA.below hb
  replace rqA := rqA.below hb
  replace xA := xA.below hb xA.lt
  replace tb := tb.below hb
  replace q := q.trans (hb.mono q.size)
  clear hb
  replace xB : BoxN _ _ _ [.slice aB 1 cB, .slice mB 1 nB] := xB
  replace rhB : RdL Elt.lk (fun _ => True) _ (.slice aB 1 cB) [k0] := rhB.weak fun _ _ => trivial
  replace rqB : RdL Elt.lk (fun _ => True) _ (.slice mB 1 nB) [k1] := rqB.weak fun _ _ => trivial
  obtain ⟨w2, hwe⟩ : ∃ W, W = W1 := ⟨_, rfl⟩
  rw [← hwe] at rhA
  rw [← hwe] at rqA
  rw [← hwe] at xA
  rw [← hwe] at xB
  rw [← hwe] at rhB
  rw [← hwe] at rqB
  rw [← hwe] at tb
  rw [← hwe] at q
  rw [← hwe]
  clear hwe
  go_simp
  go_upto_region 3 with (fail)
  refine wp_region_setl (K := fun _ _ => True) (by kernel_rfl) (by kernel_rfl) [1, 2, 3, 4, 5, 6, 7] (by kernel_rfl) [lEq (.agg #[.slice aB 1 cB, .slice mB 1 nB]), lAny, lAny, lAny, lAny, lAny, lAny, lAny, lEq (.int .i64 ((([k0, k2], [k1], 0)).2.2 : Nat))]
    (CbK #[] 5 (LsR ([k0, k2], [k1], 0)) zLs LsB (LkV k2) AnyVk _) (CbK.more (lsStays ([k0, k2], [k1], 0) k2)) (CbS.start _)
    ⟨?o0, ?o1, ?o2, ?o3, ?o4, ?o5, ?o6, ?o7, ?o8, trivial⟩ ?fin
  case o0 =>
    refine StOp.free rfl (by kernel_rfl) (fun A va D w' hF hT hN hE hd hu hg => ?_)
    have e1 : A.eval (.tmp 3) = .pointer (some ⟨bB, 0, none⟩) := hF 3 rfl
    have hBE := CbK.below hE
    exact wp_load2 lsS rfl e1 ((xB.below hBE xB.lt).cell (i := 0) rfl) ((xB.below hBE xB.lt).cell (i := 1) rfl) ⟨_, rfl, rfl, Below.refl _ _⟩
  case o1 =>
    refine StOp.set rfl (by kernel_rfl) (fun A va D w' hF hT hN hE hd hu hg => ?_)
    have hE2 := hE
    simp only [told, List.map_cons, List.map_nil, hN, Bool.false_eq_true, if_false] at hE2
    refine wp_callFn rfl eOne (args := #[.int .i64 2, .string ⟨#[98]⟩, .int .i64 5]) (by simp only [List.map_toArray, List.map_cons, List.map_nil]; rfl) ((one_any w' (o := 2) (m := 5) (b := 98) (by unfold W64; decide) (by unfold W64; decide)).mono ?_)
    rintro e w2 ⟨v, rfl, hv, hb2⟩
    have h5 := CbS.key (lsStays ([k0, k2], [k1], 0) k2) hE2 rfl hb2 (u := v) hv
    exact ⟨_, rfl, _, rfl, by simpa [CbK, told, don, upd] using h5, trivial⟩
  case o2 =>
    refine StOp.set rfl (by kernel_rfl) (fun A va D w' hF hT hN hE hd hu hg => ?_)
    have e1 : A.eval (.tmp 33) = .agg #[.slice aB 1 cB, .slice mB 1 nB] := (hT 33 0 (by simp) rfl).trans (hg ⟨0, .data⟩ (by simp) rfl rfl)
    have x2 : A.eval (.tmp 34) = va 1 := hT 34 1 (by simp) rfl
    have hE2 := hE
    have d1 : D 1 = true := hd ⟨1, .data⟩ (by simp) rfl
    simp only [told, List.map_cons, List.map_nil, hN, d1, Bool.false_eq_true, if_false, if_true] at hE2
    have hBE := hE2.be
    have hcl := lAsk_any w' (tb.below hBE) (H := [k0]) (Q := [k1]) (x := k2) ⟨aB, cB, mB, nB, rfl, rhB.below hBE, rqB.below hBE⟩ (by unfold smK; decide) (by unfold smK; decide) (by decide) (by decide) (hE2.k1 _ rfl) (by decide) (by decide)
    rw [ask11_3] at hcl
    refine wp_callFn rfl eAsk (args := #[.agg #[.slice aB 1 cB, .slice mB 1 nB], va 1]) (by simp only [List.map_toArray, List.map_cons, List.map_nil, e1, x2]) (hcl.mono ?_)
    rintro e w2 ⟨a, c, a2, c2, rfl, hrd, hb2⟩
    have h5 := CbS.call (lsStays ([k0, k2], [k1], 0) k2) hE2 (by simp) hb2 (v := .agg #[.slice a _ c, .slice a2 _ c2]) (e := .int .i64 _) ⟨rfl, hrd⟩
    exact ⟨_, rfl, _, rfl, by simpa [CbK, told, don, upd, d1] using h5, trivial⟩
  case o3 =>
    refine StOp.set rfl (by kernel_rfl) (fun A va D w' hF hT hN hE hd hu hg => ?_)
    have x1 : A.eval (.tmp 35) = va 2 := hT 35 2 (by simp) rfl
    have hE2 := hE
    have d2 : D 2 = true := hd ⟨2, .data⟩ (by simp) rfl
    simp only [told, List.map_cons, List.map_nil, hN, d2, Bool.false_eq_true, if_false, if_true] at hE2
    have h5 := CbS.move hE2
    exact BigFrame.wp_move _ rfl ⟨_, rfl, by rw [x1]; simpa [CbK, told, don, upd, d2] using h5, trivial⟩
  case o4 =>
    refine StOp.set rfl (by kernel_rfl) (fun A va D w' hF hT hN hE hd hu hg => ?_)
    have x1 : A.eval (.tmp 32) = va 3 := hT 32 3 (by simp) rfl
    have hE2 := hE
    have d3 : D 3 = true := hd ⟨3, .data⟩ (by simp) rfl
    simp only [told, List.map_cons, List.map_nil, hN, d3, Bool.false_eq_true, if_false, if_true] at hE2
    obtain ⟨v, e, em⟩ := CbS.tup hE2
    rw [em] at hE2
    have h5 := CbS.ex0 hE2
    exact wp_ex rfl (x1.trans em) rfl ⟨_, rfl, by simpa [CbK, told, don, upd, d3, em] using h5, trivial⟩
  case o5 =>
    refine StOp.set rfl (by kernel_rfl) (fun A va D w' hF hT hN hE hd hu hg => ?_)
    have x1 : A.eval (.tmp 32) = va 3 := hT 32 3 (by simp) rfl
    have hE2 := hE
    have d3 : D 3 = true := hd ⟨3, .data⟩ (by simp) rfl
    simp only [told, List.map_cons, List.map_nil, hN, d3, Bool.false_eq_true, if_false, if_true] at hE2
    obtain ⟨v, e, em⟩ := CbS.tup hE2
    rw [em] at hE2
    have h5 := CbS.ex1 hE2
    exact wp_ex rfl (x1.trans em) rfl ⟨_, rfl, by simpa [CbK, told, don, upd, d3, em] using h5, trivial⟩
  case o6 =>
    refine StOp.set rfl (by kernel_rfl) (fun A va D w' hF hT hN hE hd hu hg => ?_)
    have hE2 := hE
    simp only [told, List.map_cons, List.map_nil, hN, Bool.false_eq_true, if_false] at hE2
    refine wp_boxNew (vs := [.slice none 0 0, .slice none 0 0]) (by kernel_rfl) rfl (fun w2 hb2 hz => ⟨_, rfl, ?_, trivial⟩)
    have h5 := CbS.alloc (lsStays ([k0, k2], [k1], 0) k2) hE2 hb2 hz
    simpa [CbK, told, don, upd] using h5
  case o7 =>
    refine StOp.set rfl (by kernel_rfl) (fun A va D w' hF hT hN hE hd hu hg => ?_)
    have x1 : A.eval (.tmp 5) = va 6 := hT 5 6 (by simp) rfl
    have x2 : A.eval (.tmp 36) = va 4 := hT 36 4 (by simp) rfl
    have hE2 := hE
    have d6 : D 6 = true := hd ⟨6, .data⟩ (by simp) rfl
    have d4 : D 4 = true := hd ⟨4, .data⟩ (by simp) rfl
    simp only [told, List.map_cons, List.map_nil, hN, d6, d4, Bool.false_eq_true, if_false, if_true] at hE2
    obtain ⟨b9, eb, hb0⟩ := CbS.box hE2
    obtain ⟨e, hm⟩ := hE2.mx _ rfl
    obtain ⟨v, e2, ec, _, hrd⟩ := hE2.rr _ (hE2.mv _ hm)
    obtain ⟨A1, B1, A2, B2, ev, _⟩ := id hrd
    injection ec with ec
    injection ec with ec
    injection ec with ec _
    rw [← ec] at ev
    refine wp_boxStore (vs := [.slice none 0 0, .slice none 0 0]) (us := [.slice A1 _ B1, .slice A2 _ B2]) (by kernel_rfl) rfl (x1.trans eb) (x2.trans ev) rfl hb0 rfl (fun w2 hg2 ht2 => ⟨_, rfl, ?_, trivial⟩)
    rw [eb] at hE2
    have h5 := CbS.sto (u := undef) (lsStays ([k0, k2], [k1], 0) k2) hE2 hg2 ⟨_, _, ev, ht2⟩
    simpa [CbK, told, don, upd, d6, d4, eb] using h5
  case o8 =>
    refine StOp.free rfl (by kernel_rfl) (fun A va D w' hF hT hN hE hd hu hg => ?_)
    have x1 : A.eval (.tmp 37) = va 5 := hT 37 5 (by simp) rfl
    have hE2 := hE
    have d5 : D 5 = true := hd ⟨5, .data⟩ (by simp) rfl
    simp only [told, List.map_cons, List.map_nil, d5, if_true] at hE2
    have ee := CbS.errL hE2
    exact BigFrame.wp_assign _ rfl ⟨_, rfl, x1.trans ee, Below.refl _ _⟩
  case fin =>
  intro vs1 W1 hE hG
  obtain ⟨bC, aC, cC, mC, nC, ez, em, ec, ev, ee, xC, rhC, rqC, hb⟩ := CbS.locks hE (by simp)
  have g0 : vs1 0 = .agg #[.slice aB 1 cB, .slice mB 1 nB] := hG 0 (by decide) rfl
  have g8 : vs1 8 = .int .i64 ((([k0, k2], [k1], 0)).2.2 : Nat) := hG 8 (by decide) rfl
  simp only [putAll, g0, g8, ec, em, ev, ee, ez]
  clear hE hG g0 g8 ec em ev ee ez
  replace rhA := rhA.below hb
  replace rqA := rqA.below hb
  replace xA := xA.below hb xA.lt
  replace xB := xB.below hb xB.lt
  replace rhB := rhB.below hb
  replace rqB := rqB.below hb
  replace tb := tb.below hb
  replace q := q.trans (hb.mono q.size)
  clear hb
  replace xC : BoxN _ _ _ [.slice aC 2 cC, .slice mC 1 nC] := xC
  replace rhC : RdL Elt.lk (fun _ => True) _ (.slice aC 2 cC) [k0, k2] := rhC.weak fun _ _ => trivial
  replace rqC : RdL Elt.lk (fun _ => True) _ (.slice mC 1 nC) [k1] := rqC.weak fun _ _ => trivial
  obtain ⟨w3, hwe⟩ : ∃ W, W = W1 := ⟨_, rfl⟩
  rw [← hwe] at rhA
  rw [← hwe] at rqA
  rw [← hwe] at xA
  rw [← hwe] at xB
  rw [← hwe] at rhB
  rw [← hwe] at rqB
  rw [← hwe] at xC
  rw [← hwe] at rhC
  rw [← hwe] at rqC
  rw [← hwe] at tb
  rw [← hwe] at q
  rw [← hwe]
  clear hwe
  go_simp
  go_upto_region 4 with (fail)
  refine wp_region_setl (K := fun _ _ => True) (by kernel_rfl) (by kernel_rfl) [1, 2, 3, 4, 5, 6, 7] (by kernel_rfl) [lEq (.agg #[.slice aC 2 cC, .slice mC 1 nC]), lAny, lAny, lAny, lAny, lAny, lAny, lAny, lEq (.int .i64 ((([k0, k2], [k1], 1)).2.2 : Nat))]
    (CbK #[] 5 (LsR ([k0, k2], [k1], 1)) zLs LsB (LkV k3) AnyVk _) (CbK.more (lsStays ([k0, k2], [k1], 1) k3)) (CbS.start _)
    ⟨?o0, ?o1, ?o2, ?o3, ?o4, ?o5, ?o6, ?o7, ?o8, trivial⟩ ?fin
  case o0 =>
    refine StOp.free rfl (by kernel_rfl) (fun A va D w' hF hT hN hE hd hu hg => ?_)
    have e1 : A.eval (.tmp 5) = .pointer (some ⟨bC, 0, none⟩) := hF 5 rfl
    have hBE := CbK.below hE
    exact wp_load2 lsS rfl e1 ((xC.below hBE xC.lt).cell (i := 0) rfl) ((xC.below hBE xC.lt).cell (i := 1) rfl) ⟨_, rfl, rfl, Below.refl _ _⟩
  case o1 =>
    refine StOp.set rfl (by kernel_rfl) (fun A va D w' hF hT hN hE hd hu hg => ?_)
    have hE2 := hE
    simp only [told, List.map_cons, List.map_nil, hN, Bool.false_eq_true, if_false] at hE2
    refine wp_callFn rfl eOne (args := #[.int .i64 1, .string ⟨#[99]⟩, .int .i64 3]) (by simp only [List.map_toArray, List.map_cons, List.map_nil]; rfl) ((one_any w' (o := 1) (m := 3) (b := 99) (by unfold W64; decide) (by unfold W64; decide)).mono ?_)
    rintro e w2 ⟨v, rfl, hv, hb2⟩
    have h5 := CbS.key (lsStays ([k0, k2], [k1], 1) k3) hE2 rfl hb2 (u := v) hv
    exact ⟨_, rfl, _, rfl, by simpa [CbK, told, don, upd] using h5, trivial⟩
  case o2 =>
    refine StOp.set rfl (by kernel_rfl) (fun A va D w' hF hT hN hE hd hu hg => ?_)
    have e1 : A.eval (.tmp 39) = .agg #[.slice aC 2 cC, .slice mC 1 nC] := (hT 39 0 (by simp) rfl).trans (hg ⟨0, .data⟩ (by simp) rfl rfl)
    have x2 : A.eval (.tmp 40) = va 1 := hT 40 1 (by simp) rfl
    have hE2 := hE
    have d1 : D 1 = true := hd ⟨1, .data⟩ (by simp) rfl
    simp only [told, List.map_cons, List.map_nil, hN, d1, Bool.false_eq_true, if_false, if_true] at hE2
    have hBE := hE2.be
    have hcl := lAsk_any w' (tb.below hBE) (H := [k0, k2]) (Q := [k1]) (x := k3) ⟨aC, cC, mC, nC, rfl, rhC.below hBE, rqC.below hBE⟩ (by unfold smK; decide) (by unfold smK; decide) (by decide) (by decide) (hE2.k1 _ rfl) (by decide) (by decide)
    rw [ask11_4] at hcl
    refine wp_callFn rfl eAsk (args := #[.agg #[.slice aC 2 cC, .slice mC 1 nC], va 1]) (by simp only [List.map_toArray, List.map_cons, List.map_nil, e1, x2]) (hcl.mono ?_)
    rintro e w2 ⟨a, c, a2, c2, rfl, hrd, hb2⟩
    have h5 := CbS.call (lsStays ([k0, k2], [k1], 1) k3) hE2 (by simp) hb2 (v := .agg #[.slice a _ c, .slice a2 _ c2]) (e := .int .i64 _) ⟨rfl, hrd⟩
    exact ⟨_, rfl, _, rfl, by simpa [CbK, told, don, upd, d1] using h5, trivial⟩
  case o3 =>
    refine StOp.set rfl (by kernel_rfl) (fun A va D w' hF hT hN hE hd hu hg => ?_)
    have x1 : A.eval (.tmp 41) = va 2 := hT 41 2 (by simp) rfl
    have hE2 := hE
    have d2 : D 2 = true := hd ⟨2, .data⟩ (by simp) rfl
    simp only [told, List.map_cons, List.map_nil, hN, d2, Bool.false_eq_true, if_false, if_true] at hE2
    have h5 := CbS.move hE2
    exact BigFrame.wp_move _ rfl ⟨_, rfl, by rw [x1]; simpa [CbK, told, don, upd, d2] using h5, trivial⟩
  case o4 =>
    refine StOp.set rfl (by kernel_rfl) (fun A va D w' hF hT hN hE hd hu hg => ?_)
    have x1 : A.eval (.tmp 38) = va 3 := hT 38 3 (by simp) rfl
    have hE2 := hE
    have d3 : D 3 = true := hd ⟨3, .data⟩ (by simp) rfl
    simp only [told, List.map_cons, List.map_nil, hN, d3, Bool.false_eq_true, if_false, if_true] at hE2
    obtain ⟨v, e, em⟩ := CbS.tup hE2
    rw [em] at hE2
    have h5 := CbS.ex0 hE2
    exact wp_ex rfl (x1.trans em) rfl ⟨_, rfl, by simpa [CbK, told, don, upd, d3, em] using h5, trivial⟩
  case o5 =>
    refine StOp.set rfl (by kernel_rfl) (fun A va D w' hF hT hN hE hd hu hg => ?_)
    have x1 : A.eval (.tmp 38) = va 3 := hT 38 3 (by simp) rfl
    have hE2 := hE
    have d3 : D 3 = true := hd ⟨3, .data⟩ (by simp) rfl
    simp only [told, List.map_cons, List.map_nil, hN, d3, Bool.false_eq_true, if_false, if_true] at hE2
    obtain ⟨v, e, em⟩ := CbS.tup hE2
    rw [em] at hE2
    have h5 := CbS.ex1 hE2
    exact wp_ex rfl (x1.trans em) rfl ⟨_, rfl, by simpa [CbK, told, don, upd, d3, em] using h5, trivial⟩
  case o6 =>
    refine StOp.set rfl (by kernel_rfl) (fun A va D w' hF hT hN hE hd hu hg => ?_)
    have hE2 := hE
    simp only [told, List.map_cons, List.map_nil, hN, Bool.false_eq_true, if_false] at hE2
    refine wp_boxNew (vs := [.slice none 0 0, .slice none 0 0]) (by kernel_rfl) rfl (fun w2 hb2 hz => ⟨_, rfl, ?_, trivial⟩)
    have h5 := CbS.alloc (lsStays ([k0, k2], [k1], 1) k3) hE2 hb2 hz
    simpa [CbK, told, don, upd] using h5
  case o7 =>
    refine StOp.set rfl (by kernel_rfl) (fun A va D w' hF hT hN hE hd hu hg => ?_)
    have x1 : A.eval (.tmp 7) = va 6 := hT 7 6 (by simp) rfl
    have x2 : A.eval (.tmp 42) = va 4 := hT 42 4 (by simp) rfl
    have hE2 := hE
    have d6 : D 6 = true := hd ⟨6, .data⟩ (by simp) rfl
    have d4 : D 4 = true := hd ⟨4, .data⟩ (by simp) rfl
    simp only [told, List.map_cons, List.map_nil, hN, d6, d4, Bool.false_eq_true, if_false, if_true] at hE2
    obtain ⟨b9, eb, hb0⟩ := CbS.box hE2
    obtain ⟨e, hm⟩ := hE2.mx _ rfl
    obtain ⟨v, e2, ec, _, hrd⟩ := hE2.rr _ (hE2.mv _ hm)
    obtain ⟨A1, B1, A2, B2, ev, _⟩ := id hrd
    injection ec with ec
    injection ec with ec
    injection ec with ec _
    rw [← ec] at ev
    refine wp_boxStore (vs := [.slice none 0 0, .slice none 0 0]) (us := [.slice A1 _ B1, .slice A2 _ B2]) (by kernel_rfl) rfl (x1.trans eb) (x2.trans ev) rfl hb0 rfl (fun w2 hg2 ht2 => ⟨_, rfl, ?_, trivial⟩)
    rw [eb] at hE2
    have h5 := CbS.sto (u := undef) (lsStays ([k0, k2], [k1], 1) k3) hE2 hg2 ⟨_, _, ev, ht2⟩
    simpa [CbK, told, don, upd, d6, d4, eb] using h5
  case o8 =>
    refine StOp.free rfl (by kernel_rfl) (fun A va D w' hF hT hN hE hd hu hg => ?_)
    have x1 : A.eval (.tmp 43) = va 5 := hT 43 5 (by simp) rfl
    have hE2 := hE
    have d5 : D 5 = true := hd ⟨5, .data⟩ (by simp) rfl
    simp only [told, List.map_cons, List.map_nil, d5, if_true] at hE2
    have ee := CbS.errL hE2
    exact BigFrame.wp_assign _ rfl ⟨_, rfl, x1.trans ee, Below.refl _ _⟩
  case fin =>
  intro vs1 W1 hE hG
  obtain ⟨bE, aE, cE, mE, nE, ez, em, ec, ev, ee, xE, rhE, rqE, hb⟩ := CbS.locks hE (by simp)
  have g0 : vs1 0 = .agg #[.slice aC 2 cC, .slice mC 1 nC] := hG 0 (by decide) rfl
  have g8 : vs1 8 = .int .i64 ((([k0, k2], [k1], 1)).2.2 : Nat) := hG 8 (by decide) rfl
  simp only [putAll, g0, g8, ec, em, ev, ee, ez]
  clear hE hG g0 g8 ec em ev ee ez
  replace rhA := rhA.below hb
  replace rqA := rqA.below hb
  replace xA := xA.below hb xA.lt
  replace xB := xB.below hb xB.lt
  replace rhB := rhB.below hb
  replace rqB := rqB.below hb
  replace xC := xC.below hb xC.lt
  replace rhC := rhC.below hb
  replace rqC := rqC.below hb
  replace tb := tb.below hb
  replace q := q.trans (hb.mono q.size)
  clear hb
  replace xE : BoxN _ _ _ [.slice aE 2 cE, .slice mE 1 nE] := xE
  replace rhE : RdL Elt.lk (fun _ => True) _ (.slice aE 2 cE) [k0, k2] := rhE.weak fun _ _ => trivial
  replace rqE : RdL Elt.lk (fun _ => True) _ (.slice mE 1 nE) [k1] := rqE.weak fun _ _ => trivial
  obtain ⟨w4, hwe⟩ : ∃ W, W = W1 := ⟨_, rfl⟩
  rw [← hwe] at rhA
  rw [← hwe] at rqA
  rw [← hwe] at xA
  rw [← hwe] at xB
  rw [← hwe] at rhB
  rw [← hwe] at rqB
  rw [← hwe] at xC
  rw [← hwe] at rhC
  rw [← hwe] at rqC
  rw [← hwe] at xE
  rw [← hwe] at rhE
  rw [← hwe] at rqE
  rw [← hwe] at tb
  rw [← hwe] at q
  rw [← hwe]
  clear hwe
  go_simp
  clear xE rhE rqE
  have b0 := xC.cell (i := 0) rfl
  have b1 := xC.cell (i := 1) rfl
  have hcl := lDrop_any _ tb (o := 0) (H := [k0, k2]) (Q := [k1]) ⟨aC, cC, mC, nC, rfl, rhC, rqC⟩ (by unfold smK; decide) (by unfold smK; decide) (by decide) (by decide)
  rw [drop11] at hcl
  go_wp2_with fail
  refine hcl.mono ?_
  rintro e w5 ⟨aD, cD, mD, nD, aL, cL, rfl, ⟨_, _, _, _, er, rhD, rqD⟩, hL, hb⟩
  injection er with er
  injection er with er
  injection er with er1 er
  injection er with er2 _
  rw [← er1] at rhD
  rw [← er2] at rqD
  rw [show riseL ([k2, k1], ([] : List Lk), [(1 : Int)]).2.2 = [1] from rise11] at hL ⊢
  have rL : RdL Elt.int (fun _ => True) _ (.slice aL 1 cL) [1] := hL.rdL.weak fun _ _ => trivial
  clear hcl er1 er2 hL b0 b1
  replace rhA := rhA.below hb
  replace rqA := rqA.below hb
  replace xA := xA.below hb xA.lt
  replace xB := xB.below hb xB.lt
  replace rhB := rhB.below hb
  replace rqB := rqB.below hb
  replace xC := xC.below hb xC.lt
  replace rhC := rhC.below hb
  replace rqC := rqC.below hb
  replace tb := tb.below hb
  replace q := q.trans (hb.mono q.size)
  clear hb
  replace rhD : RdL Elt.lk (fun _ => True) _ (.slice aD 2 cD) [k2, k1] := rhD.weak fun _ _ => trivial
  replace rqD : RdL Elt.lk (fun _ => True) _ (.slice mD 0 nD) [] := rqD.weak fun _ _ => trivial
  go_upto_region 6 with (first | (refine wpList_boxNew (vs := [.slice none 0 0, .slice none 0 0]) (by kernel_rfl) rfl rfl ?_; intro wa hba hBa) | (refine wpList_boxStore (us := [.slice aD 2 cD, .slice mD 0 nD]) (by kernel_rfl) rfl rfl rfl rfl rfl rfl hBa rfl ?_; intro w5b hgw xD) | fail)
  try go_simp
  have hbw := hba.grown hgw hba.size fun k hk => by injection hk with hk; omega
  replace rhA := rhA.below hbw
  replace rqA := rqA.below hbw
  replace xA := xA.below hbw xA.lt
  replace xB := xB.below hbw xB.lt
  replace rhB := rhB.below hbw
  replace rqB := rqB.below hbw
  replace xC := xC.below hbw xC.lt
  replace rhC := rhC.below hbw
  replace rqC := rqC.below hbw
  replace rhD := rhD.below hbw
  replace rqD := rqD.below hbw
  replace rL := rL.below hbw
  replace tb := tb.below hbw
  replace q := q.trans (hbw.mono q.size)
  clear hbw hgw hba hBa
  replace xD : BoxN _ _ _ [.slice aD 2 cD, .slice mD 0 nD] := xD
  refine wp_region_setl (K := fun _ _ => True) (by kernel_rfl) (by kernel_rfl) [1, 2, 3, 4, 5, 6, 7] (by kernel_rfl) [lEq (.agg #[.slice aC 2 cC, .slice mC 1 nC]), lAny, lAny, lAny, lAny, lAny, lAny, lAny, lEq (.int .i64 ((([k0, k2], [k1], 0)).2.2 : Nat))]
    (CbK #[] 5 (LsR ([k0, k2], [k1], 0)) zLs LsB (LkV k4) AnyVk _) (CbK.more (lsStays ([k0, k2], [k1], 0) k4)) (CbS.start _)
    ⟨?o0, ?o1, ?o2, ?o3, ?o4, ?o5, ?o6, ?o7, ?o8, trivial⟩ ?fin
  case o0 =>
    refine StOp.free rfl (by kernel_rfl) (fun A va D w' hF hT hN hE hd hu hg => ?_)
    have e1 : A.eval (.tmp 5) = .pointer (some ⟨bC, 0, none⟩) := hF 5 rfl
    have hBE := CbK.below hE
    exact wp_load2 lsS rfl e1 ((xC.below hBE xC.lt).cell (i := 0) rfl) ((xC.below hBE xC.lt).cell (i := 1) rfl) ⟨_, rfl, rfl, Below.refl _ _⟩
  case o1 =>
    refine StOp.set rfl (by kernel_rfl) (fun A va D w' hF hT hN hE hd hu hg => ?_)
    have hE2 := hE
    simp only [told, List.map_cons, List.map_nil, hN, Bool.false_eq_true, if_false] at hE2
    refine wp_callFn rfl eOne (args := #[.int .i64 0, .string ⟨#[97]⟩, .int .i64 3]) (by simp only [List.map_toArray, List.map_cons, List.map_nil]; rfl) ((one_any w' (o := 0) (m := 3) (b := 97) (by unfold W64; decide) (by unfold W64; decide)).mono ?_)
    rintro e w2 ⟨v, rfl, hv, hb2⟩
    have h5 := CbS.key (lsStays ([k0, k2], [k1], 0) k4) hE2 rfl hb2 (u := v) hv
    exact ⟨_, rfl, _, rfl, by simpa [CbK, told, don, upd] using h5, trivial⟩
  case o2 =>
    refine StOp.set rfl (by kernel_rfl) (fun A va D w' hF hT hN hE hd hu hg => ?_)
    have e1 : A.eval (.tmp 50) = .agg #[.slice aC 2 cC, .slice mC 1 nC] := (hT 50 0 (by simp) rfl).trans (hg ⟨0, .data⟩ (by simp) rfl rfl)
    have x2 : A.eval (.tmp 51) = va 1 := hT 51 1 (by simp) rfl
    have hE2 := hE
    have d1 : D 1 = true := hd ⟨1, .data⟩ (by simp) rfl
    simp only [told, List.map_cons, List.map_nil, hN, d1, Bool.false_eq_true, if_false, if_true] at hE2
    have hBE := hE2.be
    have hcl := lAsk_any w' (tb.below hBE) (H := [k0, k2]) (Q := [k1]) (x := k4) ⟨aC, cC, mC, nC, rfl, rhC.below hBE, rqC.below hBE⟩ (by unfold smK; decide) (by unfold smK; decide) (by decide) (by decide) (hE2.k1 _ rfl) (by decide) (by decide)
    rw [ask11_5] at hcl
    refine wp_callFn rfl eAsk (args := #[.agg #[.slice aC 2 cC, .slice mC 1 nC], va 1]) (by simp only [List.map_toArray, List.map_cons, List.map_nil, e1, x2]) (hcl.mono ?_)
    rintro e w2 ⟨a, c, a2, c2, rfl, hrd, hb2⟩
    have h5 := CbS.call (lsStays ([k0, k2], [k1], 0) k4) hE2 (by simp) hb2 (v := .agg #[.slice a _ c, .slice a2 _ c2]) (e := .int .i64 _) ⟨rfl, hrd⟩
    exact ⟨_, rfl, _, rfl, by simpa [CbK, told, don, upd, d1] using h5, trivial⟩
  case o3 =>
    refine StOp.set rfl (by kernel_rfl) (fun A va D w' hF hT hN hE hd hu hg => ?_)
    have x1 : A.eval (.tmp 52) = va 2 := hT 52 2 (by simp) rfl
    have hE2 := hE
    have d2 : D 2 = true := hd ⟨2, .data⟩ (by simp) rfl
    simp only [told, List.map_cons, List.map_nil, hN, d2, Bool.false_eq_true, if_false, if_true] at hE2
    have h5 := CbS.move hE2
    exact BigFrame.wp_move _ rfl ⟨_, rfl, by rw [x1]; simpa [CbK, told, don, upd, d2] using h5, trivial⟩
  case o4 =>
    refine StOp.set rfl (by kernel_rfl) (fun A va D w' hF hT hN hE hd hu hg => ?_)
    have x1 : A.eval (.tmp 49) = va 3 := hT 49 3 (by simp) rfl
    have hE2 := hE
    have d3 : D 3 = true := hd ⟨3, .data⟩ (by simp) rfl
    simp only [told, List.map_cons, List.map_nil, hN, d3, Bool.false_eq_true, if_false, if_true] at hE2
    obtain ⟨v, e, em⟩ := CbS.tup hE2
    rw [em] at hE2
    have h5 := CbS.ex0 hE2
    exact wp_ex rfl (x1.trans em) rfl ⟨_, rfl, by simpa [CbK, told, don, upd, d3, em] using h5, trivial⟩
  case o5 =>
    refine StOp.set rfl (by kernel_rfl) (fun A va D w' hF hT hN hE hd hu hg => ?_)
    have x1 : A.eval (.tmp 49) = va 3 := hT 49 3 (by simp) rfl
    have hE2 := hE
    have d3 : D 3 = true := hd ⟨3, .data⟩ (by simp) rfl
    simp only [told, List.map_cons, List.map_nil, hN, d3, Bool.false_eq_true, if_false, if_true] at hE2
    obtain ⟨v, e, em⟩ := CbS.tup hE2
    rw [em] at hE2
    have h5 := CbS.ex1 hE2
    exact wp_ex rfl (x1.trans em) rfl ⟨_, rfl, by simpa [CbK, told, don, upd, d3, em] using h5, trivial⟩
  case o6 =>
    refine StOp.set rfl (by kernel_rfl) (fun A va D w' hF hT hN hE hd hu hg => ?_)
    have hE2 := hE
    simp only [told, List.map_cons, List.map_nil, hN, Bool.false_eq_true, if_false] at hE2
    refine wp_boxNew (vs := [.slice none 0 0, .slice none 0 0]) (by kernel_rfl) rfl (fun w2 hb2 hz => ⟨_, rfl, ?_, trivial⟩)
    have h5 := CbS.alloc (lsStays ([k0, k2], [k1], 0) k4) hE2 hb2 hz
    simpa [CbK, told, don, upd] using h5
  case o7 =>
    refine StOp.set rfl (by kernel_rfl) (fun A va D w' hF hT hN hE hd hu hg => ?_)
    have x1 : A.eval (.tmp 11) = va 6 := hT 11 6 (by simp) rfl
    have x2 : A.eval (.tmp 53) = va 4 := hT 53 4 (by simp) rfl
    have hE2 := hE
    have d6 : D 6 = true := hd ⟨6, .data⟩ (by simp) rfl
    have d4 : D 4 = true := hd ⟨4, .data⟩ (by simp) rfl
    simp only [told, List.map_cons, List.map_nil, hN, d6, d4, Bool.false_eq_true, if_false, if_true] at hE2
    obtain ⟨b9, eb, hb0⟩ := CbS.box hE2
    obtain ⟨e, hm⟩ := hE2.mx _ rfl
    obtain ⟨v, e2, ec, _, hrd⟩ := hE2.rr _ (hE2.mv _ hm)
    obtain ⟨A1, B1, A2, B2, ev, _⟩ := id hrd
    injection ec with ec
    injection ec with ec
    injection ec with ec _
    rw [← ec] at ev
    refine wp_boxStore (vs := [.slice none 0 0, .slice none 0 0]) (us := [.slice A1 _ B1, .slice A2 _ B2]) (by kernel_rfl) rfl (x1.trans eb) (x2.trans ev) rfl hb0 rfl (fun w2 hg2 ht2 => ⟨_, rfl, ?_, trivial⟩)
    rw [eb] at hE2
    have h5 := CbS.sto (u := undef) (lsStays ([k0, k2], [k1], 0) k4) hE2 hg2 ⟨_, _, ev, ht2⟩
    simpa [CbK, told, don, upd, d6, d4, eb] using h5
  case o8 =>
    refine StOp.free rfl (by kernel_rfl) (fun A va D w' hF hT hN hE hd hu hg => ?_)
    have x1 : A.eval (.tmp 54) = va 5 := hT 54 5 (by simp) rfl
    have hE2 := hE
    have d5 : D 5 = true := hd ⟨5, .data⟩ (by simp) rfl
    simp only [told, List.map_cons, List.map_nil, d5, if_true] at hE2
    have ee := CbS.errL hE2
    exact BigFrame.wp_assign _ rfl ⟨_, rfl, x1.trans ee, Below.refl _ _⟩
  case fin =>
  intro vs1 W1 hE hG
  obtain ⟨bF, aF, cF, mF, nF, ez, em, ec, ev, ee, xF, rhF, rqF, hb⟩ := CbS.locks hE (by simp)
  have g0 : vs1 0 = .agg #[.slice aC 2 cC, .slice mC 1 nC] := hG 0 (by decide) rfl
  have g8 : vs1 8 = .int .i64 ((([k0, k2], [k1], 0)).2.2 : Nat) := hG 8 (by decide) rfl
  simp only [putAll, g0, g8, ec, em, ev, ee, ez]
  clear hE hG g0 g8 ec em ev ee ez
  replace rhA := rhA.below hb
  replace rqA := rqA.below hb
  replace xA := xA.below hb xA.lt
  replace xB := xB.below hb xB.lt
  replace rhB := rhB.below hb
  replace rqB := rqB.below hb
  replace xC := xC.below hb xC.lt
  replace rhC := rhC.below hb
  replace rqC := rqC.below hb
  replace rhD := rhD.below hb
  replace rqD := rqD.below hb
  replace rL := rL.below hb
  replace xD := xD.below hb xD.lt
  replace tb := tb.below hb
  replace q := q.trans (hb.mono q.size)
  clear hb
  replace xF : BoxN _ _ _ [.slice aF 2 cF, .slice mF 1 nF] := xF
  replace rhF : RdL Elt.lk (fun _ => True) _ (.slice aF 2 cF) [k0, k2] := rhF.weak fun _ _ => trivial
  replace rqF : RdL Elt.lk (fun _ => True) _ (.slice mF 1 nF) [k1] := rqF.weak fun _ _ => trivial
  obtain ⟨w6, hwe⟩ : ∃ W, W = W1 := ⟨_, rfl⟩
  rw [← hwe] at rhA
  rw [← hwe] at rqA
  rw [← hwe] at xA
  rw [← hwe] at xB
  rw [← hwe] at rhB
  rw [← hwe] at rqB
  rw [← hwe] at xC
  rw [← hwe] at rhC
  rw [← hwe] at rqC
  rw [← hwe] at rhD
  rw [← hwe] at rqD
  rw [← hwe] at rL
  rw [← hwe] at xD
  rw [← hwe] at xF
  rw [← hwe] at rhF
  rw [← hwe] at rqF
  rw [← hwe] at tb
  rw [← hwe] at q
  rw [← hwe]
  clear hwe
  go_simp
  clear xF rhF rqF
  go_upto_region 7 with (fail)
  refine wp_region_setl (K := fun _ _ => True) (by kernel_rfl) (by kernel_rfl) [0, 1, 2, 3, 4, 5, 6, 7, 8] (by kernel_rfl) [lAny, lAny, lAny, lAny, lAny, lAny, lAny, lAny, lAny, lEq (.int .i64 (((List.replicate 41 zk, ([] : List Lk), 1)).2.2 : Nat))]
    (E7 (List.replicate 41 zk, ([] : List Lk), 1) (List.replicate 41 zk) k4 w6) E7.more (show E7 (List.replicate 41 zk, ([] : List Lk), 1) (List.replicate 41 zk) k4 w6 [none, none, none, none, none, none, none, none, none] w6 from ⟨CbS.start _, fun _ h => by cases h⟩)
    ⟨?o0, ?o1, ?o2, ?o3, ?o4, ?o5, ?o6, ?o7, ?o8, ?o9, trivial⟩ ?fin
  case o0 =>
    refine StOp.set rfl (by kernel_rfl) (fun A va D w' hF hT hN hE hd hu hg => ?_)
    have hE2 := hE
    simp only [told, List.map_cons, List.map_nil, hN, Bool.false_eq_true, if_false] at hE2
    obtain ⟨hE3, hE4⟩ := hE2
    refine wp_mk41 rfl rfl rfl (fun w2 hb2 hv => ⟨_, rfl, ?_, trivial⟩)
    have h5 := CbS.key (lsStays2 (List.replicate 41 zk, ([] : List Lk), 1) (List.replicate 41 zk) k4) hE3 rfl hb2 (u := .slice _ _ _) ⟨_, _, rfl, hv⟩
    have h6 : E7 (List.replicate 41 zk, ([] : List Lk), 1) (List.replicate 41 zk) k4 _ [_, _, _, _, _, _, _, _, _] _ := ⟨h5, fun u hu => by obtain ⟨g, hg, _⟩ := hE4 u hu; cases hg⟩
    simpa [told, don, upd] using h6
  case o1 =>
    refine StOp.set rfl (by kernel_rfl) (fun A va D w' hF hT hN hE hd hu hg => ?_)
    have x1 : A.eval (.tmp 56) = va 0 := hT 56 0 (by simp) rfl
    have hE2 := hE
    have d0 : D 0 = true := hd ⟨0, .data⟩ (by simp) rfl
    simp only [told, List.map_cons, List.map_nil, hN, d0, Bool.false_eq_true, if_false, if_true] at hE2
    obtain ⟨hE3, hE4⟩ := hE2
    obtain ⟨a, c, ev, _⟩ := hE3.k1 _ rfl
    refine wp_bLocks rfl (x1.trans ev) ⟨_, rfl, ?_, trivial⟩
    have h5 := hE3
    have h6 : E7 (List.replicate 41 zk, ([] : List Lk), 1) (List.replicate 41 zk) k4 _ [_, some (.agg #[.slice a (List.replicate 41 zk).length c, .slice none 0 0]), _, _, _, _, _, _, _] _ := ⟨h5, fun u hu => ⟨_, rfl, (Option.some.inj hu).symm.trans (by rw [ev])⟩⟩
    simpa [told, don, upd, d0] using h6
  case o2 =>
    refine StOp.set rfl (by kernel_rfl) (fun A va D w' hF hT hN hE hd hu hg => ?_)
    have hE2 := hE
    simp only [told, List.map_cons, List.map_nil, hN, Bool.false_eq_true, if_false] at hE2
    obtain ⟨hE3, hE4⟩ := hE2
    refine wp_callFn rfl eOne (args := #[.int .i64 0, .string ⟨#[97]⟩, .int .i64 3]) (by simp only [List.map_toArray, List.map_cons, List.map_nil]; rfl) ((one_any w' (o := 0) (m := 3) (b := 97) (by unfold W64; decide) (by unfold W64; decide)).mono ?_)
    rintro e w2 ⟨v, rfl, hv, hb2⟩
    have h5 := CbS.vers (lsStays2 (List.replicate 41 zk, ([] : List Lk), 1) (List.replicate 41 zk) k4) hE3 hb2 (u := v) hv
    have h6 : E7 (List.replicate 41 zk, ([] : List Lk), 1) (List.replicate 41 zk) k4 _ [_, _, _, _, _, _, _, _, _] _ := ⟨h5, hE4⟩
    exact ⟨_, rfl, _, rfl, by simpa [told, don, upd] using h6, trivial⟩
  case o3 =>
    refine StOp.set rfl (by kernel_rfl) (fun A va D w' hF hT hN hE hd hu hg => ?_)
    have x1 : A.eval (.tmp 57) = va 1 := hT 57 1 (by simp) rfl
    have x2 : A.eval (.tmp 58) = va 2 := hT 58 2 (by simp) rfl
    have hE2 := hE
    have d1 : D 1 = true := hd ⟨1, .data⟩ (by simp) rfl
    have d2 : D 2 = true := hd ⟨2, .data⟩ (by simp) rfl
    simp only [told, List.map_cons, List.map_nil, hN, d1, d2, Bool.false_eq_true, if_false, if_true] at hE2
    obtain ⟨hE3, hE4⟩ := hE2
    have hBE := hE3.be
    obtain ⟨g, hg, ev⟩ := hE4 _ rfl
    obtain ⟨ga, gc, eg, hr⟩ := hE3.k1 g hg
    have hcl := lAsk_any w' (tb.below hBE) (H := List.replicate 41 zk) (Q := []) (x := k4) ⟨ga, gc, none, 0, rfl, hr, RdL.nil _ _ _⟩ sm41 (by unfold smK; decide) (by decide) (by decide) (hE3.k2 _ rfl) (by decide) (by decide)
    rw [ask11_6] at hcl
    refine wp_callFn rfl eAsk (args := #[.agg #[.slice ga (List.replicate 41 zk).length gc, .slice none 0 0], va 2]) (by simp only [List.map_toArray, List.map_cons, List.map_nil, x1, x2, ev, eg]) (hcl.mono ?_)
    rintro e w2 ⟨a, c, a2, c2, rfl, hrd, hb2⟩
    have h5 := CbS.call (lsStays2 (List.replicate 41 zk, ([] : List Lk), 1) (List.replicate 41 zk) k4) hE3 (by simp) hb2 (v := .agg #[.slice a _ c, .slice a2 _ c2]) (e := .int .i64 _) ⟨rfl, hrd⟩
    have h6 : E7 (List.replicate 41 zk, ([] : List Lk), 1) (List.replicate 41 zk) k4 _ [_, _, _, _, _, _, _, _, _] _ := ⟨h5, hE4⟩
    exact ⟨_, rfl, _, rfl, by simpa [told, don, upd, d1, d2] using h6, trivial⟩
  case o4 =>
    refine StOp.set rfl (by kernel_rfl) (fun A va D w' hF hT hN hE hd hu hg => ?_)
    have x1 : A.eval (.tmp 59) = va 3 := hT 59 3 (by simp) rfl
    have hE2 := hE
    have d3 : D 3 = true := hd ⟨3, .data⟩ (by simp) rfl
    simp only [told, List.map_cons, List.map_nil, hN, d3, Bool.false_eq_true, if_false, if_true] at hE2
    obtain ⟨hE3, hE4⟩ := hE2
    have h5 := CbS.move hE3
    have h6 : E7 (List.replicate 41 zk, ([] : List Lk), 1) (List.replicate 41 zk) k4 _ [_, _, _, _, _, _, _, _, _] _ := ⟨h5, hE4⟩
    exact BigFrame.wp_move _ rfl ⟨_, rfl, by rw [x1]; simpa [told, don, upd, d3] using h6, trivial⟩
  case o5 =>
    refine StOp.set rfl (by kernel_rfl) (fun A va D w' hF hT hN hE hd hu hg => ?_)
    have x1 : A.eval (.tmp 55) = va 4 := hT 55 4 (by simp) rfl
    have hE2 := hE
    have d4 : D 4 = true := hd ⟨4, .data⟩ (by simp) rfl
    simp only [told, List.map_cons, List.map_nil, hN, d4, Bool.false_eq_true, if_false, if_true] at hE2
    obtain ⟨hE3, hE4⟩ := hE2
    obtain ⟨v, e, em⟩ := CbS.tup hE3
    rw [em] at hE3
    have h5 := CbS.ex0 hE3
    have h6 : E7 (List.replicate 41 zk, ([] : List Lk), 1) (List.replicate 41 zk) k4 _ [_, _, _, _, _, _, _, _, _] _ := ⟨h5, hE4⟩
    exact wp_ex rfl (x1.trans em) rfl ⟨_, rfl, by simpa [told, don, upd, d4, em] using h6, trivial⟩
  case o6 =>
    refine StOp.set rfl (by kernel_rfl) (fun A va D w' hF hT hN hE hd hu hg => ?_)
    have x1 : A.eval (.tmp 55) = va 4 := hT 55 4 (by simp) rfl
    have hE2 := hE
    have d4 : D 4 = true := hd ⟨4, .data⟩ (by simp) rfl
    simp only [told, List.map_cons, List.map_nil, hN, d4, Bool.false_eq_true, if_false, if_true] at hE2
    obtain ⟨hE3, hE4⟩ := hE2
    obtain ⟨v, e, em⟩ := CbS.tup hE3
    rw [em] at hE3
    have h5 := CbS.ex1 hE3
    have h6 : E7 (List.replicate 41 zk, ([] : List Lk), 1) (List.replicate 41 zk) k4 _ [_, _, _, _, _, _, _, _, _] _ := ⟨h5, hE4⟩
    exact wp_ex rfl (x1.trans em) rfl ⟨_, rfl, by simpa [told, don, upd, d4, em] using h6, trivial⟩
  case o7 =>
    refine StOp.set rfl (by kernel_rfl) (fun A va D w' hF hT hN hE hd hu hg => ?_)
    have hE2 := hE
    simp only [told, List.map_cons, List.map_nil, hN, Bool.false_eq_true, if_false] at hE2
    obtain ⟨hE3, hE4⟩ := hE2
    refine wp_boxNew (vs := [.slice none 0 0, .slice none 0 0]) (by kernel_rfl) rfl (fun w2 hb2 hz => ⟨_, rfl, ?_, trivial⟩)
    have h5 := CbS.alloc (lsStays2 (List.replicate 41 zk, ([] : List Lk), 1) (List.replicate 41 zk) k4) hE3 hb2 hz
    have h6 : E7 (List.replicate 41 zk, ([] : List Lk), 1) (List.replicate 41 zk) k4 _ [_, _, _, _, _, _, _, _, _] _ := ⟨h5, hE4⟩
    simpa [told, don, upd] using h6
  case o8 =>
    refine StOp.set rfl (by kernel_rfl) (fun A va D w' hF hT hN hE hd hu hg => ?_)
    have x1 : A.eval (.tmp 13) = va 7 := hT 13 7 (by simp) rfl
    have x2 : A.eval (.tmp 60) = va 5 := hT 60 5 (by simp) rfl
    have hE2 := hE
    have d7 : D 7 = true := hd ⟨7, .data⟩ (by simp) rfl
    have d5 : D 5 = true := hd ⟨5, .data⟩ (by simp) rfl
    simp only [told, List.map_cons, List.map_nil, hN, d7, d5, Bool.false_eq_true, if_false, if_true] at hE2
    obtain ⟨hE3, hE4⟩ := hE2
    obtain ⟨b9, eb, hb0⟩ := CbS.box hE3
    obtain ⟨e, hm⟩ := hE3.mx _ rfl
    obtain ⟨v, e2, ec, _, hrd⟩ := hE3.rr _ (hE3.mv _ hm)
    obtain ⟨A1, B1, A2, B2, ev, _⟩ := id hrd
    injection ec with ec
    injection ec with ec
    injection ec with ec _
    rw [← ec] at ev
    refine wp_boxStore (vs := [.slice none 0 0, .slice none 0 0]) (us := [.slice A1 _ B1, .slice A2 _ B2]) (by kernel_rfl) rfl (x1.trans eb) (x2.trans ev) rfl hb0 rfl (fun w2 hg2 ht2 => ⟨_, rfl, ?_, trivial⟩)
    rw [eb] at hE3
    have h5 := CbS.sto (u := undef) (lsStays2 (List.replicate 41 zk, ([] : List Lk), 1) (List.replicate 41 zk) k4) hE3 hg2 ⟨_, _, ev, ht2⟩
    have h6 : E7 (List.replicate 41 zk, ([] : List Lk), 1) (List.replicate 41 zk) k4 _ [_, _, _, _, _, _, _, _, _] _ := ⟨h5, hE4⟩
    simpa [told, don, upd, d7, d5, eb] using h6
  case o9 =>
    refine StOp.free rfl (by kernel_rfl) (fun A va D w' hF hT hN hE hd hu hg => ?_)
    have x1 : A.eval (.tmp 61) = va 6 := hT 61 6 (by simp) rfl
    have hE2 := hE
    have d6 : D 6 = true := hd ⟨6, .data⟩ (by simp) rfl
    simp only [told, List.map_cons, List.map_nil, d6, if_true] at hE2
    have ee := CbS.errL hE2.1
    exact BigFrame.wp_assign _ rfl ⟨_, rfl, x1.trans ee, Below.refl _ _⟩
  case fin =>
  intro vs1 W1 hE hG
  obtain ⟨bJ, aJ, cJ, mJ, nJ, ez, em, ec, ev, ee, _, _, _, hb⟩ := CbS.locks hE.1 (by simp)
  have g9 : vs1 9 = .int .i64 (((List.replicate 41 zk, ([] : List Lk), 1)).2.2 : Nat) := hG 9 (by decide) rfl
  simp only [putAll, g9, ec, em, ev, ee, ez]
  clear hE hG g9 ec em ev ee ez
  replace rhA := rhA.below hb
  replace rqA := rqA.below hb
  replace xA := xA.below hb xA.lt
  replace xB := xB.below hb xB.lt
  replace rhB := rhB.below hb
  replace rqB := rqB.below hb
  replace xC := xC.below hb xC.lt
  replace rhC := rhC.below hb
  replace rqC := rqC.below hb
  replace rhD := rhD.below hb
  replace rqD := rqD.below hb
  replace rL := rL.below hb
  replace xD := xD.below hb xD.lt
  replace tb := tb.below hb
  replace q := q.trans (hb.mono q.size)
  clear hb
  obtain ⟨w7, hwe⟩ : ∃ W, W = W1 := ⟨_, rfl⟩
  rw [← hwe] at rhA
  rw [← hwe] at rqA
  rw [← hwe] at xA
  rw [← hwe] at xB
  rw [← hwe] at rhB
  rw [← hwe] at rqB
  rw [← hwe] at xC
  rw [← hwe] at rhC
  rw [← hwe] at rqC
  rw [← hwe] at rhD
  rw [← hwe] at rqD
  rw [← hwe] at rL
  rw [← hwe] at xD
  rw [← hwe] at tb
  rw [← hwe] at q
  rw [← hwe]
  clear hwe
  go_simp
  have hcl := lAsk_any _ tb (H := []) (Q := []) (x := u0) (S2 := fun _ => True) (S := fun _ => True) ⟨none, 0, none, 0, rfl, RdL.nil _ _ _, RdL.nil _ _ _⟩ (by unfold smK; decide) (by unfold smK; decide) (by decide) (by decide) ⟨none, 0, none, 0, rfl, RdS.nil _ _, RdS.nil _ _, by unfold Lk64 W64; decide⟩ (by decide) (by decide)
  rw [ask11_7] at hcl
  go_wp2_with fail
  refine hcl.mono ?_
  rintro e w8 ⟨aU, cU, mU, nU, rfl, ⟨_, _, _, _, er, rhU, rqU⟩, hb⟩
  injection er with er
  injection er with er
  injection er with er1 er
  injection er with er2 _
  rw [← er1] at rhU
  rw [← er2] at rqU
  clear hcl er1 er2
  replace rhA := rhA.below hb
  replace rqA := rqA.below hb
  replace xA := xA.below hb xA.lt
  replace xB := xB.below hb xB.lt
  replace rhB := rhB.below hb
  replace rqB := rqB.below hb
  replace xC := xC.below hb xC.lt
  replace rhC := rhC.below hb
  replace rqC := rqC.below hb
  replace rhD := rhD.below hb
  replace rqD := rqD.below hb
  replace rL := rL.below hb
  replace xD := xD.below hb xD.lt
  replace tb := tb.below hb
  replace q := q.trans (hb.mono q.size)
  clear hb
  replace rhU : RdL Elt.lk (fun _ => True) _ (.slice aU 1 cU) [u0] := rhU.weak fun _ _ => trivial
  replace rqU : RdL Elt.lk (fun _ => True) _ (.slice mU 0 nU) [] := rqU.weak fun _ _ => trivial
  go_upto_region 9 with (first | (refine wpList_boxNew (vs := [.slice none 0 0, .slice none 0 0]) (by kernel_rfl) rfl rfl ?_; intro wa hba hBa) | (refine wpList_boxStore (us := [.slice aU 1 cU, .slice mU 0 nU]) (by kernel_rfl) rfl rfl rfl rfl rfl rfl hBa rfl ?_; intro w8b hgw xU) | fail)
  try go_simp
  have hbw := hba.grown hgw hba.size fun k hk => by injection hk with hk; omega
  replace rhA := rhA.below hbw
  replace rqA := rqA.below hbw
  replace xA := xA.below hbw xA.lt
  replace xB := xB.below hbw xB.lt
  replace rhB := rhB.below hbw
  replace rqB := rqB.below hbw
  replace xC := xC.below hbw xC.lt
  replace rhC := rhC.below hbw
  replace rqC := rqC.below hbw
  replace rhD := rhD.below hbw
  replace rqD := rqD.below hbw
  replace rL := rL.below hbw
  replace xD := xD.below hbw xD.lt
  replace rhU := rhU.below hbw
  replace rqU := rqU.below hbw
  replace tb := tb.below hbw
  replace q := q.trans (hbw.mono q.size)
  clear hbw hgw hba hBa
  replace xU : BoxN _ _ _ [.slice aU 1 cU, .slice mU 0 nU] := xU
  have b0 := xU.cell (i := 0) rfl
  have b1 := xU.cell (i := 1) rfl
  have hcl := lAsk_any _ tb (H := [u0]) (Q := []) (x := u1) (S2 := fun _ => True) ⟨aU, cU, mU, nU, rfl, rhU, rqU⟩ (by unfold smK; decide) (by unfold smK; decide) (by decide) (by decide) ⟨none, 0, none, 0, rfl, RdS.nil _ _, RdS.nil _ _, by unfold Lk64 W64; decide⟩ (by decide) (by decide)
  rw [ask11_8] at hcl
  go_wp2_with fail
  refine hcl.mono ?_
  rintro e w9 ⟨aV, cV, mV, nV, rfl, ⟨_, _, _, _, er, rhV, rqV⟩, hb⟩
  injection er with er
  injection er with er
  injection er with er1 er
  injection er with er2 _
  rw [← er1] at rhV
  rw [← er2] at rqV
  clear hcl er1 er2
  replace rhA := rhA.below hb
  replace rqA := rqA.below hb
  replace xA := xA.below hb xA.lt
  replace xB := xB.below hb xB.lt
  replace rhB := rhB.below hb
  replace rqB := rqB.below hb
  replace xC := xC.below hb xC.lt
  replace rhC := rhC.below hb
  replace rqC := rqC.below hb
  replace rhD := rhD.below hb
  replace rqD := rqD.below hb
  replace rL := rL.below hb
  replace xD := xD.below hb xD.lt
  replace rhU := rhU.below hb
  replace rqU := rqU.below hb
  replace xU := xU.below hb xU.lt
  replace tb := tb.below hb
  replace q := q.trans (hb.mono q.size)
  clear hb
  replace rhV : RdL Elt.lk (fun _ => True) _ (.slice aV 1 cV) [v0] := rhV.weak fun _ _ => trivial
  replace rqV : RdL Elt.lk (fun _ => True) _ (.slice mV 0 nV) [] := rqV.weak fun _ _ => trivial
  go_upto_region 10 with (first | (refine wpList_boxNew (vs := [.slice none 0 0, .slice none 0 0]) (by kernel_rfl) rfl rfl ?_; intro wa hba hBa) | (refine wpList_boxStore (us := [.slice aV 1 cV, .slice mV 0 nV]) (by kernel_rfl) rfl rfl rfl rfl rfl rfl hBa rfl ?_; intro w9b hgw xV) | fail)
  try go_simp
  have hbw := hba.grown hgw hba.size fun k hk => by injection hk with hk; omega
  replace rhA := rhA.below hbw
  replace rqA := rqA.below hbw
  replace xA := xA.below hbw xA.lt
  replace xB := xB.below hbw xB.lt
  replace rhB := rhB.below hbw
  replace rqB := rqB.below hbw
  replace xC := xC.below hbw xC.lt
  replace rhC := rhC.below hbw
  replace rqC := rqC.below hbw
  replace rhD := rhD.below hbw
  replace rqD := rqD.below hbw
  replace rL := rL.below hbw
  replace xD := xD.below hbw xD.lt
  replace rhU := rhU.below hbw
  replace rqU := rqU.below hbw
  replace xU := xU.below hbw xU.lt
  replace rhV := rhV.below hbw
  replace rqV := rqV.below hbw
  replace tb := tb.below hbw
  replace q := q.trans (hbw.mono q.size)
  clear hbw hgw hba hBa
  replace xV : BoxN _ _ _ [.slice aV 1 cV, .slice mV 0 nV] := xV
  clear b0 b1
  have v0 := xV.cell (i := 0) rfl
  have v1 := xV.cell (i := 1) rfl
  have b0 := xB.cell (i := 0) rfl
  have b1 := xB.cell (i := 1) rfl
  go_upto_region 12 with (fail)
  go_wp2_with fail
  have hcl := lWaits_any _ tb (o := 1) (H := [k0]) (Q := [k1]) ⟨aB, cB, mB, nB, rfl, rhB, rqB⟩ (by decide) (by decide)
  rw [show (decide (okLk [k0] [k1]) && waitsL [k1] 1) = true from by decide] at hcl
  refine hcl.mono ?_
  rintro e w10 ⟨rfl, hb⟩
  clear hcl v0 v1 b0 b1
  replace rhA := rhA.below hb
  replace rqA := rqA.below hb
  replace xA := xA.below hb xA.lt
  replace xB := xB.below hb xB.lt
  replace rhB := rhB.below hb
  replace rqB := rqB.below hb
  replace xC := xC.below hb xC.lt
  replace rhC := rhC.below hb
  replace rqC := rqC.below hb
  replace rhD := rhD.below hb
  replace rqD := rqD.below hb
  replace rL := rL.below hb
  replace xD := xD.below hb xD.lt
  replace rhU := rhU.below hb
  replace rqU := rqU.below hb
  replace xU := xU.below hb xU.lt
  replace rhV := rhV.below hb
  replace rqV := rqV.below hb
  replace xV := xV.below hb xV.lt
  replace tb := tb.below hb
  replace q := q.trans (hb.mono q.size)
  clear hb
  have b0 := xB.cell (i := 0) rfl
  have b1 := xB.cell (i := 1) rfl
  go_wp2_with fail
  have hcl := lBlockers_any _ tb (o := 1) (H := [k0]) (Q := [k1]) ⟨aB, cB, mB, nB, rfl, rhB, rqB⟩ (by decide) (by decide)
  refine hcl.mono ?_
  rintro e w11 ⟨l9, aM, cM, rfl, hM, hb, hc9⟩
  obtain rfl : l9 = [0] := blk11 hc9
  have rM : RdL Elt.int (fun _ => True) _ (.slice aM 1 cM) [0] := hM.rdL.weak fun _ _ => trivial
  clear hcl hM hc9 b0 b1
  replace rhA := rhA.below hb
  replace rqA := rqA.below hb
  replace xA := xA.below hb xA.lt
  replace xB := xB.below hb xB.lt
  replace rhB := rhB.below hb
  replace rqB := rqB.below hb
  replace xC := xC.below hb xC.lt
  replace rhC := rhC.below hb
  replace rqC := rqC.below hb
  replace rhD := rhD.below hb
  replace rqD := rqD.below hb
  replace rL := rL.below hb
  replace xD := xD.below hb xD.lt
  replace rhU := rhU.below hb
  replace rqU := rqU.below hb
  replace xU := xU.below hb xU.lt
  replace rhV := rhV.below hb
  replace rqV := rqV.below hb
  replace xV := xV.below hb xV.lt
  replace tb := tb.below hb
  replace q := q.trans (hb.mono q.size)
  clear hb
  go_wp2_with (first | (refine wpList_buildOne inP rfl rfl rfl (us := [.int .i64 0]) rfl rfl (by decide) (by decide) ?_; intro w12 hb12 hrow) | fail)
  replace rhA := rhA.below hb12
  replace rqA := rqA.below hb12
  replace xA := xA.below hb12 xA.lt
  replace xB := xB.below hb12 xB.lt
  replace rhB := rhB.below hb12
  replace rqB := rqB.below hb12
  replace xC := xC.below hb12 xC.lt
  replace rhC := rhC.below hb12
  replace rqC := rqC.below hb12
  replace rhD := rhD.below hb12
  replace rqD := rqD.below hb12
  replace rL := rL.below hb12
  replace xD := xD.below hb12 xD.lt
  replace rhU := rhU.below hb12
  replace rqU := rqU.below hb12
  replace xU := xU.below hb12 xU.lt
  replace rhV := rhV.below hb12
  replace rqV := rqV.below hb12
  replace xV := xV.below hb12 xV.lt
  replace rM := rM.below hb12
  replace tb := tb.below hb12
  replace q := q.trans (hb12.mono q.size)
  have hl1 : RdL Elt.int (fun _ => True) w12 (.slice (some ⟨w11.heap.size, 0, none⟩) 1 1) [0] := made11 ⟨rfl, by unfold W64; decide⟩ hrow trivial
  clear hrow hb12
  have hcl := numbers_any _ rM hl1
  rw [decide_eq_true rfl] at hcl
  refine hcl.mono ?_
  rintro e w13 ⟨rfl, hb⟩
  clear hcl hl1
  replace rhA := rhA.below hb
  replace rqA := rqA.below hb
  replace xA := xA.below hb xA.lt
  replace xB := xB.below hb xB.lt
  replace rhB := rhB.below hb
  replace rqB := rqB.below hb
  replace xC := xC.below hb xC.lt
  replace rhC := rhC.below hb
  replace rqC := rqC.below hb
  replace rhD := rhD.below hb
  replace rqD := rqD.below hb
  replace rL := rL.below hb
  replace xD := xD.below hb xD.lt
  replace rhU := rhU.below hb
  replace rqU := rqU.below hb
  replace xU := xU.below hb xU.lt
  replace rhV := rhV.below hb
  replace rqV := rqV.below hb
  replace xV := xV.below hb xV.lt
  replace rM := rM.below hb
  replace tb := tb.below hb
  replace q := q.trans (hb.mono q.size)
  clear hb
  have d0 := xD.cell (i := 0) rfl
  have d1 := xD.cell (i := 1) rfl
  go_wp2_with (first | (refine wpList_buildOne inP rfl rfl rfl (us := [.int .i64 1]) rfl rfl (by decide) (by decide) ?_; intro w14 hb14 hrow) | fail)
  replace rhA := rhA.below hb14
  replace rqA := rqA.below hb14
  replace xA := xA.below hb14 xA.lt
  replace xB := xB.below hb14 xB.lt
  replace rhB := rhB.below hb14
  replace rqB := rqB.below hb14
  replace xC := xC.below hb14 xC.lt
  replace rhC := rhC.below hb14
  replace rqC := rqC.below hb14
  replace rhD := rhD.below hb14
  replace rqD := rqD.below hb14
  replace rL := rL.below hb14
  replace xD := xD.below hb14 xD.lt
  replace rhU := rhU.below hb14
  replace rqU := rqU.below hb14
  replace xU := xU.below hb14 xU.lt
  replace rhV := rhV.below hb14
  replace rqV := rqV.below hb14
  replace xV := xV.below hb14 xV.lt
  replace rM := rM.below hb14
  replace tb := tb.below hb14
  replace q := q.trans (hb14.mono q.size)
  have hl1 : RdL Elt.int (fun _ => True) w14 (.slice (some ⟨w13.heap.size, 0, none⟩) 1 1) [1] := made11 ⟨rfl, by unfold W64; decide⟩ hrow trivial
  clear hrow hb14 d0 d1
  have hcl := numbers_any _ rL hl1
  rw [decide_eq_true rfl] at hcl
  refine hcl.mono ?_
  rintro e w15 ⟨rfl, hb⟩
  clear hcl hl1
  replace rhA := rhA.below hb
  replace rqA := rqA.below hb
  replace xA := xA.below hb xA.lt
  replace xB := xB.below hb xB.lt
  replace rhB := rhB.below hb
  replace rqB := rqB.below hb
  replace xC := xC.below hb xC.lt
  replace rhC := rhC.below hb
  replace rqC := rqC.below hb
  replace rhD := rhD.below hb
  replace rqD := rqD.below hb
  replace rL := rL.below hb
  replace xD := xD.below hb xD.lt
  replace rhU := rhU.below hb
  replace rqU := rqU.below hb
  replace xU := xU.below hb xU.lt
  replace rhV := rhV.below hb
  replace rqV := rqV.below hb
  replace xV := xV.below hb xV.lt
  replace rM := rM.below hb
  replace tb := tb.below hb
  replace q := q.trans (hb.mono q.size)
  clear hb
  have d0 := xD.cell (i := 0) rfl
  have d1 := xD.cell (i := 1) rfl
  go_upto_region 13 with (fail)
  have v0 := xV.cell (i := 0) rfl
  have v1 := xV.cell (i := 1) rfl
  have c0 := xC.cell (i := 0) rfl
  have c1 := xC.cell (i := 1) rfl
  obtain ⟨bv, ov, VA, VC, VA2, VC2, rfl, _, _, _, _, _, _, _, l6, _⟩ := rhV.lk 0 (by decide)
  replace l6 : _ = some (Value.int .i64 4) := l6
  go_wp2_with fail
  have hcl := lCheck_any _ tb (H := [k0, k2]) (Q := [k1]) ⟨aC, cC, mC, nC, rfl, rhC, rqC⟩ (by decide) (by decide)
  rw [decide_eq_true (show okLk [k0, k2] [k1] from by decide)] at hcl
  refine hcl.mono ?_
  rintro e w16 ⟨rfl, hb⟩
  clear hcl v0 v1 c0 c1 l6
  replace rhA := rhA.below hb
  replace rqA := rqA.below hb
  replace xA := xA.below hb xA.lt
  replace xB := xB.below hb xB.lt
  replace rhB := rhB.below hb
  replace rqB := rqB.below hb
  replace xC := xC.below hb xC.lt
  replace rhC := rhC.below hb
  replace rqC := rqC.below hb
  replace rhD := rhD.below hb
  replace rqD := rqD.below hb
  replace rL := rL.below hb
  replace xD := xD.below hb xD.lt
  replace rhU := rhU.below hb
  replace rqU := rqU.below hb
  replace xU := xU.below hb xU.lt
  replace rhV := rhV.below hb
  replace rqV := rqV.below hb
  replace xV := xV.below hb xV.lt
  replace rM := rM.below hb
  replace tb := tb.below hb
  replace q := q.trans (hb.mono q.size)
  clear hb
  have c0 := xC.cell (i := 0) rfl
  have c1 := xC.cell (i := 1) rfl
  go_wp2_with fail
  have hcl := lCheck_any _ tb (H := []) (Q := [k1]) (S := fun _ => True) ⟨none, 0, mC, nC, rfl, RdL.nil _ _ _, rqC⟩ (by decide) (by decide)
  rw [decide_eq_false (show ¬ okLk [] [k1] from by decide)] at hcl
  refine hcl.mono ?_
  rintro e w17 ⟨rfl, hb⟩
  clear hcl c0 c1
  replace rhA := rhA.below hb
  replace rqA := rqA.below hb
  replace xA := xA.below hb xA.lt
  replace xB := xB.below hb xB.lt
  replace rhB := rhB.below hb
  replace rqB := rqB.below hb
  replace xC := xC.below hb xC.lt
  replace rhC := rhC.below hb
  replace rqC := rqC.below hb
  replace rhD := rhD.below hb
  replace rqD := rqD.below hb
  replace rL := rL.below hb
  replace xD := xD.below hb xD.lt
  replace rhU := rhU.below hb
  replace rqU := rqU.below hb
  replace xU := xU.below hb xU.lt
  replace rhV := rhV.below hb
  replace rqV := rqV.below hb
  replace xV := xV.below hb xV.lt
  replace rM := rM.below hb
  replace tb := tb.below hb
  replace q := q.trans (hb.mono q.size)
  clear hb
  go_wp2_with fail
  go_ret
  exact ⟨rfl, q⟩
end Go.Proofs.YtpdnehgboafgpaaDoor
namespace Go.Proofs.YtpdnehgboafgpaaDoor
open Go.RowKit Go.Shelf
def placeP (Q : List Lk) (o : Int) (p : Int) : Prop := (∃ i, ∃ h : i < Q.length, p = (i : Int) ∧ Q[i].owner = o ∧ ∀ y ∈ Q.take i, y.owner ≠ o) ∨ (p = -1 ∧ waitsL Q o = false)
theorem placeP.waits {Q : List Lk} {o p : Int} (h : placeP Q o p) : decide (0 ≤ p) = waitsL Q o := by
  rcases h with ⟨i, hi, rfl, h1, _⟩ | ⟨rfl, h1⟩
  · rw [decide_eq_true (by omega)]
    unfold waitsL
    symm
    rw [List.any_eq_true]
    exact ⟨_, List.getElem_mem hi, decide_eq_true h1⟩
  · rw [h1]; rfl
set_option maxRecDepth 100000 in
set_option maxHeartbeats 4000000 in
theorem place_any (w : World) {S : Nat → Prop} {v : Value} {H Q : List Lk} {o : Int} (h : RdLs S w v H Q) :
    Calls Tryd.prog 34 #[v, .int .i64 o] w fun e w' => ∃ p, e = .returned (.int .i64 p) ∧ placeP Q o p ∧ Below w.heap.size w w' := by
  obtain ⟨aH, cH, aQ, cQ, rfl, hH, hQ⟩ := h
  obtain ⟨_, hc2, hm2⟩ := hQ.len
  have hl2 : Q.length ≤ 9223372036854775807 := by unfold maxLen at hm2; omega
  clear hc2 hm2
  obtain ⟨W, hW, q, Bw, hsz⟩ := spBox w 24 [.slice aH H.length cH, .slice aQ Q.length cQ]
  clear hsz
  go_enter Tryd.func34, Tryd.ntmps34
  go_upto_region 1 with (fail)
  rw [show w.alloc (.cells #[.slice aH H.length cH, .slice aQ Q.length cQ] 24) = W from hW.symm]
  clear hW
  go_upto_region 2 with (fail)
  go_loopw [5] (fun iv wr => ∃ (k : Nat), iv = .int .i64 k ∧ k ≤ Q.length ∧ (∀ y ∈ Q.take k, y.owner ≠ o) ∧ Below w.heap.size w wr ∧ BoxN wr w.heap.size 24 [.slice aH H.length cH, .slice aQ Q.length cQ])
    (fun i _ => Q.length - (intOf i).toNat)
  case atStart => exact ⟨0, rfl, Nat.zero_le _, by simp, q, Bw⟩
  case round =>
    clear q Bw
    obtain ⟨k, rfl, hkl, hall, q, Bw⟩ := hrel
    have b1 := Bw.cell (i := 1) rfl
    rcases Nat.lt_or_ge k Q.length with hlt | hge
    · obtain ⟨b, off, A, C, A2, C2, rfl, hb, c0, _⟩ := (hQ.below q).lk k hlt
      have hsn := Lib.hid (List.take_succ_eq_append_getElem hlt)
      have hk := Lib.hid (show ∀ p : Int, p = (k : Int) → Q[k].owner = o → placeP Q o p from fun p h1 h2 => .inl ⟨k, hlt, h1, h2, hall⟩)
      obtain ⟨z, ez⟩ : ∃ z, z = Q[k].owner := ⟨_, rfl⟩
      rw [← ez] at c0 hk
      replace ez := Lib.hid ez
      have d0 : decide ((k : Int) < (Q.length : Int)) = true := decide_eq_true (by omega)
      by_cases h3 : z = o
      · have d3 : (z == o) = true := beq_iff_eq.2 h3
        have hp := hk.out _ rfl h3
        clear hall hk h3 ez hsn
        go_wp2_with fail
        go_ret
        exact ⟨_, rfl, hp, q⟩
      · have d3 : (z == o) = false := beq_eq_false_iff_ne.2 h3
        have hall2 := Lib.hid (show ∀ y ∈ Q.take (k + 1), y.owner ≠ o from fun y hy => by
          rw [hsn.out] at hy
          rcases List.mem_append.1 hy with h | h
          · exact hall y h
          · obtain rfl : y = Q[k] := by simpa using h
            rw [← ez.out]; exact h3)
        clear hall hk h3 ez hsn
        go_wp2_with fail
        go_roundw
        case rel => exact ⟨k + 1, by go_num, by omega, hall2.out, q, Bw⟩
        case measure => simp [intOf]; omega
    · obtain rfl : k = Q.length := by omega
      have d0 : decide ((Q.length : Int) < (Q.length : Int)) = false := decide_eq_false (by omega)
      rw [List.take_length] at hall
      have hp : placeP Q o (-1) := .inr ⟨rfl, waits_no.2 hall⟩
      clear hall
      go_wp2_with fail
      go_ret
      exact ⟨_, rfl, hp, q⟩
end Go.Proofs.YtpdnehgboafgpaaDoor
namespace Go.Proofs.YtpdnehgboafgpaaDoor
open Go.RowKit Go.Shelf
def markL (f : Nat → Bool) (n : Nat) : List Int := ((List.range n).filter f).map fun (k : Nat) => (k : Int)
theorem markL_succ (f : Nat → Bool) (n : Nat) : markL f (n + 1) = markL f n ++ (if f n = true then [(n : Int)] else []) := by
  unfold markL
  rw [List.range_succ, List.filter_append, List.map_append]
  congr 1
  cases h : f n <;> simp [h]
theorem markL_len (f : Nat → Bool) (n : Nat) : (markL f n).length ≤ n := by
  unfold markL
  rw [List.length_map]
  exact Nat.le_trans (List.length_filter_le _ _) (by simp)
def b4 (f : Nat → Bool) : List Value := [.bool (f 0), .bool (f 1), .bool (f 2), .bool (f 3)]
theorem b4_at (f : Nat → Bool) {k : Nat} (h : k < 4) : (b4 f)[k]? = some (.bool (f k)) := by
  rcases k with _ | _ | _ | _ | k
  all_goals first | rfl | omega
set_option maxRecDepth 100000 in
set_option maxHeartbeats 4000000 in
theorem list_any (w : World) (f : Nat → Bool) :
    Calls Tryd.prog 35 #[.agg #[.bool (f 0), .bool (f 1), .bool (f 2), .bool (f 3)]] w fun e w' => ∃ a c, e = .returned (.slice a (markL f 4).length c) ∧ OwnL Elt.int 3 w.heap.size w.heap.size w' (.slice a (markL f 4).length c) (markL f 4) ∧ Below w.heap.size w w' := by
  obtain ⟨W, hW, q, Bw, hsz⟩ := spBox w 51 [.bool (f 0), .bool (f 1), .bool (f 2), .bool (f 3)]
  have hsz1 : w.heap.size + 1 ≤ W.heap.size := by have := Bw.lt; omega
  clear hsz
  go_enter Tryd.func35, Tryd.ntmps35
  go_upto_region 1 with (fail)
  rw [show w.alloc (.cells #[.bool (f 0), .bool (f 1), .bool (f 2), .bool (f 3)] 51) = W from hW.symm]
  clear hW
  go_upto_region 3 with (fail)
  go_loopw [3, 4] (fun ov iv wr => ∃ (k : Nat) (ad : Option Addr) (co : Nat), iv = .int .i64 k ∧ k ≤ 4 ∧ ov = .slice ad (markL f k).length co ∧ OwnL Elt.int 3 (w.heap.size + 1) (w.heap.size + 1) wr (.slice ad (markL f k).length co) (markL f k) ∧ Below w.heap.size w wr ∧ w.heap.size + 1 ≤ wr.heap.size ∧ BoxN wr w.heap.size 51 (b4 f))
    (fun _ i _ => 4 - (intOf i).toNat)
  case atStart => exact ⟨0, none, 0, rfl, by omega, rfl, OwnL.nil _ _ _ _ _, q, hsz1, Bw⟩
  case round =>
    clear q Bw hsz1
    obtain ⟨k, ad, co, rfl, hk4, rfl, hO, q, hsz1, Bw⟩ := hrel
    rcases Nat.lt_or_ge k 4 with hlt | hge
    · have ck := Bw.cell (i := k) (b4_at f hlt)
      have ck1 : wr.cell? ⟨w.heap.size, 0 + k * 1, none⟩ = some (.bool (f k)) := by rw [show 0 + k * 1 = k by omega]; exact ck
      have ck2 : wr.cell? ⟨w.heap.size, 0 + k, none⟩ = some (.bool (f k)) := by rw [show 0 + k = k by omega]; exact ck
      have hsn := Lib.hid (markL_succ f k)
      have hln0 := markL_len f k
      obtain ⟨xs, exs⟩ : ∃ xs, xs = markL f k := ⟨_, rfl⟩
      rw [← exs] at hO hsn hln0
      rw [← exs]
      clear exs
      obtain ⟨bk, ebk⟩ : ∃ b, b = f k := ⟨_, rfl⟩
      rw [← ebk] at ck ck1 ck2 hsn
      clear ebk
      have d0 : decide ((k : Int) < 4) = true := decide_eq_true (by omega)
      cases bk with
      | true =>
        have hs2 := Lib.hid (show markL f (k + 1) = xs ++ [(k : Int)] by rw [hsn.out]; simp)
        clear hsn
        have hrr : ∀ k, Value.ownBlock (.slice ad xs.length co) = some k → w.heap.size + 1 ≤ k ∧ k < wr.heap.size := fun k hk => hO.block_lt k hk
        have hR : ∀ V, Elt.int.R (fun k => w.heap.size + 1 ≤ k ∧ k < w.heap.size) V (k : Int) [.int .i64 (k : Int)] := fun V => ⟨rfl, by unfold W64; omega⟩
        have hSV : ∀ V : World, ∀ k, (w.heap.size + 1 ≤ k ∧ k < w.heap.size) → w.heap.size + 1 ≤ k ∧ k < V.heap.size ∧ some k ≠ Value.ownBlock (.slice ad xs.length co) := fun V k hk => by omega
        have hbs : ∀ V : World, Below wr.heap.size wr V → w.heap.size + 1 ≤ V.heap.size := fun V h => by have := h.size; omega
        go_wp2_with (first
          | (refine wpList_buildOne inP rfl rfl rfl (us := [.int .i64 (k : Int)]) rfl rfl (by decide) (by decide) ?_; intro w6 hb6 hrow)
          | (refine wpList_apvRow (E := Elt.int) (n := xs.length + 1) inP rfl rfl rfl rfl (hO.below hb6) hrow (hR _) (hSV _) (hbs _ hb6) (by omega) rfl ?_; intro ad9 c9 w7 hO9 hg7 ho9)
          | fail)
        have hln : (xs ++ [(k : Int)]).length = xs.length + 1 := by rw [List.length_append]; rfl
        have q9 : Below w.heap.size w w7 := (q.trans (hb6.mono q.size)).grown hg7 (q.trans (hb6.mono q.size)).size fun k hk => by have := (hrr k hk).1; omega
        have Bw9 : BoxN w7 w.heap.size 51 (b4 f) := (Bw.below hb6 Bw.lt).other hg7 fun e => by have := (hrr _ e).1; omega
        have hz9 : w.heap.size + 1 ≤ w7.heap.size := by have := Bw9.lt; omega
        rw [← hln] at hO9
        clear hrr hR hSV hbs hg7 hO hrow hb6 ho9
        go_roundw
        case rel => exact ⟨k + 1, ad9, c9, by go_num, by omega, by rw [hs2.out, hln], by rw [hs2.out]; exact hO9, q9, hz9, Bw9⟩
        case measure => simp [intOf]; omega
      | false =>
        have hs2 := Lib.hid (show markL f (k + 1) = xs by rw [hsn.out]; simp)
        clear hsn
        go_wp2_with fail
        go_roundw
        case rel => exact ⟨k + 1, ad, co, by go_num, by omega, by rw [hs2.out], by rw [hs2.out]; exact hO, q, hsz1, Bw⟩
        case measure => simp [intOf]; omega
    · obtain rfl : k = 4 := by omega
      go_wp2_with fail
      go_ret
      exact ⟨_, _, rfl, hO.to (by omega) (by omega), q⟩
end Go.Proofs.YtpdnehgboafgpaaDoor
namespace Go.Proofs.YtpdnehgboafgpaaDoor
open Go.RowKit Go.Shelf
theorem RdL.lk7 {S : Nat → Prop} {w : World} {a : Option Addr} {n c : Nat} {l : List Lk} (h : RdL Elt.lk S w (.slice a n c) l) (i : Nat) (hi : i < l.length) :
    ∃ (b off : Nat) (kA : Option Addr) (kB : Nat) (kC : Option Addr) (kD : Nat), a = some ⟨b, off, none⟩ ∧ S b ∧ (∀ (j : Nat) (u : Value), ([.int .i64 l[i].owner, .bool l[i].whole, .int .i64 l[i].span.table, .slice kA l[i].span.lo.length kB, .slice kC l[i].span.hi.length kD, .bool l[i].span.isOpen, .int .i64 l[i].mode] : List Value)[j]? = some u → w.cell? ⟨b, off + i * 7 + j, none⟩ = some u) ∧
      RdLk S w (.agg #[.int .i64 l[i].owner, .bool l[i].whole, .int .i64 l[i].span.table, .slice kA l[i].span.lo.length kB, .slice kC l[i].span.hi.length kD, .bool l[i].span.isOpen, .int .i64 l[i].mode]) l[i] := by
  obtain ⟨b, off, vs, rfl, hb, ⟨k, u, rfl, hk, hu, hi⟩, hc⟩ := h.at i hi
  obtain ⟨A, C, rfl, _, _⟩ := hk.shape
  obtain ⟨A2, C2, rfl, _, _⟩ := hu.shape
  exact ⟨b, off, A, C, A2, C2, rfl, hb, hc, ⟨A, C, A2, C2, rfl, hk, hu, hi⟩⟩
def mkF (l : List Int) (k : Nat) : Bool := decide ((k : Int) ∈ l)
theorem set_b4 {l : List Int} {j : Nat} (h : j < 4) : (b4 (mkF l)).set j (.bool true) = b4 (mkF (l ++ [(j : Int)])) := by
  rcases j with _ | _ | _ | _ | j
  all_goals first | omega | simp [b4, mkF]
theorem blkO_snoc2 {x : Lk} {H l : List Lk} {k : Nat} (h : k < l.length) : blkO x (H ++ l.take (k + 1)) = blkO x (H ++ l.take k) ++ (if clashL x l[k] = true then [l[k].owner] else []) := by
  have e := blkO_snoc (x := x) h
  unfold blkO at e ⊢
  rw [List.filter_append, List.map_append, e, List.filter_append, List.map_append, List.append_assoc]
set_option maxRecDepth 100000 in
set_option maxHeartbeats 4000000 in
theorem refBlk_any (w : World) {S : Nat → Prop} {v : Value} {H Q : List Lk} {at9 : Nat} (h : RdLs S w v H Q) (hat9 : at9 < Q.length) (hHO : ∀ y ∈ H, 0 ≤ y.owner ∧ y.owner < 4) (hQO : ∀ y ∈ Q, 0 ≤ y.owner ∧ y.owner < 4) :
    Calls Tryd.prog 36 #[v, .int .i64 (at9 : Nat)] w fun e w' => e = .returned (.agg #[.bool (mkF (blkO Q[at9] (H ++ Q.take at9)) 0), .bool (mkF (blkO Q[at9] (H ++ Q.take at9)) 1), .bool (mkF (blkO Q[at9] (H ++ Q.take at9)) 2), .bool (mkF (blkO Q[at9] (H ++ Q.take at9)) 3)]) ∧ Below w.heap.size w w' := by
  obtain ⟨aH, cH, aQ, cQ, rfl, hH, hQ⟩ := h
  have hl1 : H.length ≤ 9223372036854775807 := by obtain ⟨_, hc, hm⟩ := hH.len; unfold maxLen at hm; omega
  have hl2 : Q.length ≤ 9223372036854775807 := by obtain ⟨_, hc, hm⟩ := hQ.len; unfold maxLen at hm; omega
  obtain ⟨bQ, oQ, _, _, _, _, rfl, _⟩ := hQ.lk7 at9 hat9
  obtain ⟨x, ex9⟩ : ∃ x, x = Q[at9] := ⟨_, rfl⟩
  rw [← ex9]
  replace ex9 := Lib.hid ex9
  have eC : ∀ args w, (callFunc 17 args).run Tryd.prog w = .ok (.enter 17 args) w := enters_of Tryd.func17 (by kernel_rfl) rfl
  obtain ⟨z4, hz4⟩ : ∃ z, z = [Value.bool false, .bool false, .bool false, .bool false] := ⟨_, rfl⟩
  obtain ⟨W, hW, q, Bl, Br, hsz⟩ := boxes2 w 24 51 [.slice aH H.length cH, .slice (some ⟨bQ, oQ, none⟩) Q.length cQ] [.bool false, .bool false, .bool false, .bool false]
  go_enter Tryd.func36, Tryd.ntmps36
  go_upto_region 1 with (fail)
  rw [show (w.alloc (.cells #[.slice aH H.length cH, .slice (some ⟨bQ, oQ, none⟩) Q.length cQ] 24)).alloc (.cells #[.bool false, .bool false, .bool false, .bool false] 51) = W from hW.symm]
  clear hW
  rw [← hz4] at Br
  go_upto_region 2 with (first | (refine wpList_boxNew (vs := [.bool false, .bool false, .bool false, .bool false]) (by kernel_rfl) rfl rfl ?_; intro wa hba hBa) | (refine wpList_boxStore (us := [.bool false, .bool false, .bool false, .bool false]) (by kernel_rfl) rfl rfl rfl rfl rfl rfl hBa rfl ?_; intro wb hgw Bo) | fail)
  try go_simp
  have hbw := hba.grown hgw hba.size fun k hk => by injection hk with hk; omega
  replace Bl := Bl.below hbw Bl.lt
  replace Br := Br.below hbw Br.lt
  replace q := q.trans (hbw.mono q.size)
  have e9 : W.heap.size = w.heap.size + 1 + 1 := by omega
  replace Bo : BoxN wb (w.heap.size + 1 + 1) 51 [.bool false, .bool false, .bool false, .bool false] := by rw [← e9]; exact Bo
  clear e9
  clear hbw hgw hba hBa
  go_upto_region 3 with (fail)
  go_loopw [6] (fun iv wr => ∃ (i : Nat), iv = .int .i64 (i : Int) ∧ i ≤ H.length ∧ BoxN wr w.heap.size 24 [.slice aH H.length cH, .slice (some ⟨bQ, oQ, none⟩) Q.length cQ] ∧ BoxN wr (w.heap.size + 1) 51 z4 ∧ BoxN wr (w.heap.size + 1 + 1) 51 (b4 (mkF (blkO x (H.take i)))) ∧ Below w.heap.size w wr) (fun iv _ => H.length - (intOf iv).toNat)
  case atStart => exact ⟨0, rfl, Nat.zero_le _, Bl, Br, by simpa [b4, mkF, blkO] using Bo, q⟩
  case round =>
  clear Bl Br Bo q
  obtain ⟨i, rfl, hil, Bl, Br, Bo, q⟩ := hrel
  rcases Nat.lt_or_ge i H.length with hlt | hge
  · have hown := hHO _ (List.getElem_mem hlt)
    obtain ⟨b, off, kA, kB, kC, kD, eL, _, hcy, hy⟩ := (hH.below q).lk7 i hlt
    subst eL
    have hat := Lib.hid (blkO_snoc (x := x) hlt)
    obtain ⟨y, ey⟩ : ∃ y, y = H[i] := ⟨_, rfl⟩
    rw [← ey] at hcy hy hat hown
    clear ey
    obtain ⟨bs, ebs⟩ : ∃ l, l = blkO x (H.take i) := ⟨_, rfl⟩
    rw [← ebs] at hat Bo
    clear ebs
    obtain ⟨bQ3, oQ3, xA, xB, xC, xD, eQ, _, hcx, hX⟩ := (hQ.below q).lk7 at9 hat9
    injection eQ with eQ
    injection eQ with f1 f2 _
    subst f1 f2
    rw [← ex9.out] at hcx hX
    have b0 := Bl.cell (i := 0) rfl
    have b1 := Bl.cell (i := 1) rfl
    have d0 : decide ((i : Int) < ((H.length : Nat) : Int)) = true := decide_eq_true (by omega)
    go_upto_region 5 with (fail)
    clear d0 b0 b1
    have c0 : wr.cell? ⟨b, off + i * 7, none⟩ = some (.int .i64 y.owner) := hcy 0 _ rfl
    refine wp_region_gsg (by kernel_rfl) (by kernel_rfl) [sgEq (.pointer (some ⟨w.heap.size, 0, none⟩)), sgEq (.slice (some ⟨b, off, none⟩) H.length cH), sgEq (.int .i64 (i : Nat)), sgEq (.pointer (some ⟨b, off + i * 7, none⟩)), sgEq (.agg #[.int .i64 y.owner, .bool y.whole, .int .i64 y.span.table, .slice kA y.span.lo.length kB, .slice kC y.span.hi.length kD, .bool y.span.isOpen, .int .i64 y.mode]), sgEq (.pointer (some ⟨w.heap.size, 0 + 1, none⟩)), sgEq (.slice (some ⟨bQ, oQ, none⟩) Q.length cQ), sgEq (.int .i64 (at9 : Nat)), sgEq (.pointer (some ⟨bQ, oQ + at9 * 7, none⟩)), sgEq (.agg #[.int .i64 x.owner, .bool x.whole, .int .i64 x.span.table, .slice xA x.span.lo.length xB, .slice xC x.span.hi.length xD, .bool x.span.isOpen, .int .i64 x.mode]), sgEq (.bool (clashL y x)), sgEq (.bool (clashL y x))]
      ⟨?o0, ?o1, ?o2, ?o3, ?o4, ?o5, ?o6, ?o7, ?o8, ?o9, ?o10, ?o11, trivial⟩ ?fin
    case o0 =>
      refine GdOp.plain rfl (fun A vs w' hF hT hb hd => ?_)
      have e1 : A.eval (.tmp 2) = .pointer (some ⟨w.heap.size, 0, none⟩) := hF 2 rfl
      exact wp_fieldN lsS rfl (e1) (by omega) ⟨_, rfl, rfl, Below.refl _ _⟩
    case o1 =>
      refine GdOp.plain rfl (fun A vs w' hF hT hb hd => ?_)
      have e1 : A.eval (.tmp 18) = .pointer (some ⟨w.heap.size, 0, none⟩) := (hT 18 0 (by simp) rfl).trans (hd ⟨0, .data⟩ (by simp) rfl)
      exact wp_ld_slice (e := 29) rfl e1 (by kernel_rfl) ((Bl.below hb Bl.lt).cell (i := 0) rfl) ⟨_, rfl, rfl, Below.refl _ _⟩
    case o2 =>
      refine GdOp.plain rfl (fun A vs w' hF hT hb hd => ?_)
      have e1 : A.eval (.tmp 6) = .int .i64 (i : Nat) := hF 6 rfl
      exact BigFrame.wp_move _ rfl ⟨_, rfl, e1, Below.refl _ _⟩
    case o3 =>
      refine GdOp.plain rfl (fun A vs w' hF hT hb hd => ?_)
      have e1 : A.eval (.tmp 19) = .slice (some ⟨b, off, none⟩) H.length cH := (hT 19 1 (by simp) rfl).trans (hd ⟨1, .data⟩ (by simp) rfl)
      have e2 : A.eval (.tmp 20) = .int .i64 (i : Nat) := (hT 20 2 (by simp) rfl).trans (hd ⟨2, .data⟩ (by simp) rfl)
      exact wp_ixN (e := 29) rfl (by kernel_rfl) (by kernel_rfl) (e1) (e2) rfl (by omega) ⟨_, rfl, rfl, Below.refl _ _⟩
    case o4 =>
      refine GdOp.plain rfl (fun A vs w' hF hT hb hd => ?_)
      have e1 : A.eval (.tmp 21) = .pointer (some ⟨b, off + i * 7, none⟩) := (hT 21 3 (by simp) rfl).trans (hd ⟨3, .data⟩ (by simp) rfl)
      exact wp_loadU (us := [.int .i64 y.owner, .bool y.whole, .int .i64 y.span.table, .slice kA y.span.lo.length kB, .slice kC y.span.hi.length kD, .bool y.span.isOpen, .int .i64 y.mode]) lkS rfl e1 (fun j u hj => (hb.cell (p := ⟨b, off + i * 7 + j, none⟩) (cell_lt (hcy j u hj))).trans (hcy j u hj)) ⟨_, rfl, rfl, Below.refl _ _⟩
    case o5 =>
      refine GdOp.plain rfl (fun A vs w' hF hT hb hd => ?_)
      have e1 : A.eval (.tmp 2) = .pointer (some ⟨w.heap.size, 0, none⟩) := hF 2 rfl
      exact wp_fieldN lsS rfl (e1) (by omega) ⟨_, rfl, rfl, Below.refl _ _⟩
    case o6 =>
      refine GdOp.plain rfl (fun A vs w' hF hT hb hd => ?_)
      have e1 : A.eval (.tmp 23) = .pointer (some ⟨w.heap.size, 0 + 1, none⟩) := (hT 23 5 (by simp) rfl).trans (hd ⟨5, .data⟩ (by simp) rfl)
      exact wp_ld_slice (e := 29) rfl e1 (by kernel_rfl) ((Bl.below hb Bl.lt).cell (i := 1) rfl) ⟨_, rfl, rfl, Below.refl _ _⟩
    case o7 =>
      refine GdOp.plain rfl (fun A vs w' hF hT hb hd => ?_)
      have e1 : A.eval (.tmp 1) = .int .i64 (at9 : Nat) := hF 1 rfl
      exact BigFrame.wp_move _ rfl ⟨_, rfl, e1, Below.refl _ _⟩
    case o8 =>
      refine GdOp.plain rfl (fun A vs w' hF hT hb hd => ?_)
      have e1 : A.eval (.tmp 24) = .slice (some ⟨bQ, oQ, none⟩) Q.length cQ := (hT 24 6 (by simp) rfl).trans (hd ⟨6, .data⟩ (by simp) rfl)
      have e2 : A.eval (.tmp 25) = .int .i64 (at9 : Nat) := (hT 25 7 (by simp) rfl).trans (hd ⟨7, .data⟩ (by simp) rfl)
      exact wp_ixN (e := 29) rfl (by kernel_rfl) (by kernel_rfl) (e1) (e2) rfl (by omega) ⟨_, rfl, rfl, Below.refl _ _⟩
    case o9 =>
      refine GdOp.plain rfl (fun A vs w' hF hT hb hd => ?_)
      have e1 : A.eval (.tmp 26) = .pointer (some ⟨bQ, oQ + at9 * 7, none⟩) := (hT 26 8 (by simp) rfl).trans (hd ⟨8, .data⟩ (by simp) rfl)
      exact wp_loadU (us := [.int .i64 x.owner, .bool x.whole, .int .i64 x.span.table, .slice xA x.span.lo.length xB, .slice xC x.span.hi.length xD, .bool x.span.isOpen, .int .i64 x.mode]) lkS rfl e1 (fun j u hj => (hb.cell (p := ⟨bQ, oQ + at9 * 7 + j, none⟩) (cell_lt (hcx j u hj))).trans (hcx j u hj)) ⟨_, rfl, rfl, Below.refl _ _⟩
    case o10 =>
      refine GdOp.plain rfl (fun A vs w' hF hT hb hd => ?_)
      have e1 : A.eval (.tmp 22) = .agg #[.int .i64 y.owner, .bool y.whole, .int .i64 y.span.table, .slice kA y.span.lo.length kB, .slice kC y.span.hi.length kD, .bool y.span.isOpen, .int .i64 y.mode] := (hT 22 4 (by simp) rfl).trans (hd ⟨4, .data⟩ (by simp) rfl)
      have e2 : A.eval (.tmp 27) = .agg #[.int .i64 x.owner, .bool x.whole, .int .i64 x.span.table, .slice xA x.span.lo.length xB, .slice xC x.span.hi.length xD, .bool x.span.isOpen, .int .i64 x.mode] := (hT 27 9 (by simp) rfl).trans (hd ⟨9, .data⟩ (by simp) rfl)
      refine wp_callFn rfl eC (args := #[.agg #[.int .i64 y.owner, .bool y.whole, .int .i64 y.span.table, .slice kA y.span.lo.length kB, .slice kC y.span.hi.length kD, .bool y.span.isOpen, .int .i64 y.mode], .agg #[.int .i64 x.owner, .bool x.whole, .int .i64 x.span.table, .slice xA x.span.lo.length xB, .slice xC x.span.hi.length xD, .bool x.span.isOpen, .int .i64 x.mode]]) (by simp only [List.map_toArray, List.map_cons, List.map_nil, e1, e2]) ((rClash_any w' (hy.below hb) (hX.below hb)).mono ?_)
      rintro e w2 ⟨rfl, hb2⟩
      exact ⟨_, rfl, _, rfl, rfl, hb2⟩
    case o11 =>
      refine GdOp.plain rfl (fun A vs w' hF hT hb hd => ?_)
      have e1 : A.eval (.tmp 28) = .bool (clashL y x) := (hT 28 10 (by simp) rfl).trans (hd ⟨10, .data⟩ (by simp) rfl)
      exact BigFrame.wp_assign _ rfl ⟨_, rfl, e1, Below.refl _ _⟩
    case fin =>
    intro vs9 W9 hb9 hG9
    have q9w := hb9
    have e0 : vs9 0 = .pointer (some ⟨w.heap.size, 0, none⟩) := hG9 0 (by decide)
    have e1 : vs9 1 = .slice (some ⟨b, off, none⟩) H.length cH := hG9 1 (by decide)
    have e2 : vs9 2 = .int .i64 (i : Nat) := hG9 2 (by decide)
    have e3 : vs9 3 = .pointer (some ⟨b, off + i * 7, none⟩) := hG9 3 (by decide)
    have e4 : vs9 4 = .agg #[.int .i64 y.owner, .bool y.whole, .int .i64 y.span.table, .slice kA y.span.lo.length kB, .slice kC y.span.hi.length kD, .bool y.span.isOpen, .int .i64 y.mode] := hG9 4 (by decide)
    have e5 : vs9 5 = .pointer (some ⟨w.heap.size, 0 + 1, none⟩) := hG9 5 (by decide)
    have e6 : vs9 6 = .slice (some ⟨bQ, oQ, none⟩) Q.length cQ := hG9 6 (by decide)
    have e7 : vs9 7 = .int .i64 (at9 : Nat) := hG9 7 (by decide)
    have e8 : vs9 8 = .pointer (some ⟨bQ, oQ + at9 * 7, none⟩) := hG9 8 (by decide)
    have e9 : vs9 9 = .agg #[.int .i64 x.owner, .bool x.whole, .int .i64 x.span.table, .slice xA x.span.lo.length xB, .slice xC x.span.hi.length xD, .bool x.span.isOpen, .int .i64 x.mode] := hG9 9 (by decide)
    have e10 : vs9 10 = .bool (clashL y x) := hG9 10 (by decide)
    have e11 : vs9 11 = .bool (clashL y x) := hG9 11 (by decide)
    simp only [putAll, e0, e1, e2, e3, e4, e5, e6, e7, e8, e9, e10, e11]
    clear hG9 e0 e1 e2 e3 e4 e5 e6 e7 e8 e9 e10 e11
    replace Bl := Bl.below hb9 Bl.lt
    replace Br := Br.below hb9 Br.lt
    replace Bo := Bo.below hb9 Bo.lt
    replace q := q.trans (hb9.mono q.size)
    clear hb9
    go_simp
    replace c0 := (q9w.cell (p := ⟨_, _, none⟩) (cell_lt c0)).trans c0
    clear hcy hcx hy hX
    replace hat := Lib.hid (hat.out.trans (by rw [clash_comm x y]))
    cases hcl : clashL y x with
    | true =>
      have hat2 := Lib.hid (show blkO x (H.take (i + 1)) = bs ++ [y.owner] by rw [hat.out, hcl]; rfl)
      clear hat hcl
      obtain ⟨jo, hjo, hj4⟩ : ∃ jo : Nat, y.owner = (jo : Int) ∧ jo < 4 := ⟨y.owner.toNat, by omega, by omega⟩
      rw [hjo] at c0 hat2
      clear hjo hown
      have b0 := Bl.cell (i := 0) rfl
      have b1 := Bl.cell (i := 1) rfl
      obtain ⟨bv, ebv⟩ : ∃ v, v = b4 (mkF bs) := ⟨_, rfl⟩
      rw [← ebv] at Bo
      have hb4 : jo < bv.length := by rw [ebv]; simpa [b4] using hj4
      replace ebv := Lib.hid ebv
      go_wp2_with (first | (refine wpList_boxSet (j := jo) (u := .bool true) rfl rfl rfl (by kernel_rfl) (by first | rfl | (simp [Act.eval]; done)) rfl rfl rfl Bo hb4 ?_; intro wn hgn Bn) | fail)
      rw [ebv.out, set_b4 hj4] at Bn
      replace Bl := Bl.other hgn fun e => by injection e with e; omega
      replace Br := Br.other hgn fun e => by injection e with e; omega
      replace q := q.grown hgn q.size fun k hk => by injection hk with hk; omega
      go_roundw
      case rel => exact ⟨i + 1, by go_num, by omega, Bl, Br, by rw [hat2.out]; exact Bn, q⟩
      case measure => simp [intOf]; omega
    | false =>
      have hat2 := Lib.hid (show blkO x (H.take (i + 1)) = bs by rw [hat.out, hcl]; simp)
      clear hat hcl c0
      go_wp2_with fail
      go_roundw
      case rel => exact ⟨i + 1, by go_num, by omega, Bl, Br, by rw [hat2.out]; exact Bo, q⟩
      case measure => simp [intOf]; omega
  · obtain rfl : i = H.length := by omega
    rw [List.take_length] at Bo
    have d0 : decide ((H.length : Int) < (H.length : Int)) = false := decide_eq_false (by omega)
    have b0 := Bl.cell (i := 0) rfl
    go_upto_region 9 with (fail)
    clear d0 b0
    go_loopw [8] (fun iv wr => ∃ (i : Nat), iv = .int .i64 (i : Int) ∧ i ≤ at9 ∧ BoxN wr w.heap.size 24 [.slice aH H.length cH, .slice (some ⟨bQ, oQ, none⟩) Q.length cQ] ∧ BoxN wr (w.heap.size + 1) 51 z4 ∧ BoxN wr (w.heap.size + 1 + 1) 51 (b4 (mkF (blkO x (H ++ Q.take i)))) ∧ Below w.heap.size w wr) (fun iv _ => at9 - (intOf iv).toNat)
    case atStart => exact ⟨0, rfl, Nat.zero_le _, Bl, Br, by rw [List.take_zero, List.append_nil]; exact Bo, q⟩
    case round =>
    clear Bl Br Bo q
    obtain ⟨i, rfl, hil, Bl, Br, Bo, q⟩ := hrel
    rcases Nat.lt_or_ge i at9 with hlt | hge
    · have hltQ : i < Q.length := by omega
      have hown := hQO _ (List.getElem_mem hltQ)
      obtain ⟨b2, o2, kA, kB, kC, kD, eL, _, hcy, hy⟩ := (hQ.below q).lk7 i hltQ
      injection eL with eL
      injection eL with f1 f2 _
      subst f1 f2
      have hat := Lib.hid (blkO_snoc2 (x := x) (H := H) hltQ)
      obtain ⟨y, ey⟩ : ∃ y, y = Q[i] := ⟨_, rfl⟩
      rw [← ey] at hcy hy hat hown
      clear ey
      obtain ⟨bs, ebs⟩ : ∃ l, l = blkO x (H ++ Q.take i) := ⟨_, rfl⟩
      rw [← ebs] at hat Bo
      clear ebs
      obtain ⟨bQ3, oQ3, xA, xB, xC, xD, eQ, _, hcx, hX⟩ := (hQ.below q).lk7 at9 hat9
      injection eQ with eQ
      injection eQ with f1 f2 _
      subst f1 f2
      rw [← ex9.out] at hcx hX
      have b0 := Bl.cell (i := 0) rfl
      have b1 := Bl.cell (i := 1) rfl
      have d0 : decide ((i : Int) < ((at9 : Nat) : Int)) = true := decide_eq_true (by omega)
      go_upto_region 11 with (fail)
      clear d0 b0 b1
      have c0 : wr.cell? ⟨bQ, oQ + i * 7, none⟩ = some (.int .i64 y.owner) := hcy 0 _ rfl
      refine wp_region_gsg (by kernel_rfl) (by kernel_rfl) [sgEq (.pointer (some ⟨w.heap.size, 0 + 1, none⟩)), sgEq (.slice (some ⟨bQ, oQ, none⟩) Q.length cQ), sgEq (.int .i64 (i : Nat)), sgEq (.pointer (some ⟨bQ, oQ + i * 7, none⟩)), sgEq (.agg #[.int .i64 y.owner, .bool y.whole, .int .i64 y.span.table, .slice kA y.span.lo.length kB, .slice kC y.span.hi.length kD, .bool y.span.isOpen, .int .i64 y.mode]), sgEq (.pointer (some ⟨w.heap.size, 0 + 1, none⟩)), sgEq (.slice (some ⟨bQ, oQ, none⟩) Q.length cQ), sgEq (.int .i64 (at9 : Nat)), sgEq (.pointer (some ⟨bQ, oQ + at9 * 7, none⟩)), sgEq (.agg #[.int .i64 x.owner, .bool x.whole, .int .i64 x.span.table, .slice xA x.span.lo.length xB, .slice xC x.span.hi.length xD, .bool x.span.isOpen, .int .i64 x.mode]), sgEq (.bool (clashL y x)), sgEq (.bool (clashL y x))]
        ⟨?o0, ?o1, ?o2, ?o3, ?o4, ?o5, ?o6, ?o7, ?o8, ?o9, ?o10, ?o11, trivial⟩ ?fin
      case o0 =>
        refine GdOp.plain rfl (fun A vs w' hF hT hb hd => ?_)
        have e1 : A.eval (.tmp 2) = .pointer (some ⟨w.heap.size, 0, none⟩) := hF 2 rfl
        exact wp_fieldN lsS rfl (e1) (by omega) ⟨_, rfl, rfl, Below.refl _ _⟩
      case o1 =>
        refine GdOp.plain rfl (fun A vs w' hF hT hb hd => ?_)
        have e1 : A.eval (.tmp 42) = .pointer (some ⟨w.heap.size, 0 + 1, none⟩) := (hT 42 0 (by simp) rfl).trans (hd ⟨0, .data⟩ (by simp) rfl)
        exact wp_ld_slice (e := 29) rfl e1 (by kernel_rfl) ((Bl.below hb Bl.lt).cell (i := 1) rfl) ⟨_, rfl, rfl, Below.refl _ _⟩
      case o2 =>
        refine GdOp.plain rfl (fun A vs w' hF hT hb hd => ?_)
        have e1 : A.eval (.tmp 8) = .int .i64 (i : Nat) := hF 8 rfl
        exact BigFrame.wp_move _ rfl ⟨_, rfl, e1, Below.refl _ _⟩
      case o3 =>
        refine GdOp.plain rfl (fun A vs w' hF hT hb hd => ?_)
        have e1 : A.eval (.tmp 43) = .slice (some ⟨bQ, oQ, none⟩) Q.length cQ := (hT 43 1 (by simp) rfl).trans (hd ⟨1, .data⟩ (by simp) rfl)
        have e2 : A.eval (.tmp 44) = .int .i64 (i : Nat) := (hT 44 2 (by simp) rfl).trans (hd ⟨2, .data⟩ (by simp) rfl)
        exact wp_ixN (e := 29) rfl (by kernel_rfl) (by kernel_rfl) (e1) (e2) rfl (by omega) ⟨_, rfl, rfl, Below.refl _ _⟩
      case o4 =>
        refine GdOp.plain rfl (fun A vs w' hF hT hb hd => ?_)
        have e1 : A.eval (.tmp 45) = .pointer (some ⟨bQ, oQ + i * 7, none⟩) := (hT 45 3 (by simp) rfl).trans (hd ⟨3, .data⟩ (by simp) rfl)
        exact wp_loadU (us := [.int .i64 y.owner, .bool y.whole, .int .i64 y.span.table, .slice kA y.span.lo.length kB, .slice kC y.span.hi.length kD, .bool y.span.isOpen, .int .i64 y.mode]) lkS rfl e1 (fun j u hj => (hb.cell (p := ⟨bQ, oQ + i * 7 + j, none⟩) (cell_lt (hcy j u hj))).trans (hcy j u hj)) ⟨_, rfl, rfl, Below.refl _ _⟩
      case o5 =>
        refine GdOp.plain rfl (fun A vs w' hF hT hb hd => ?_)
        have e1 : A.eval (.tmp 2) = .pointer (some ⟨w.heap.size, 0, none⟩) := hF 2 rfl
        exact wp_fieldN lsS rfl (e1) (by omega) ⟨_, rfl, rfl, Below.refl _ _⟩
      case o6 =>
        refine GdOp.plain rfl (fun A vs w' hF hT hb hd => ?_)
        have e1 : A.eval (.tmp 47) = .pointer (some ⟨w.heap.size, 0 + 1, none⟩) := (hT 47 5 (by simp) rfl).trans (hd ⟨5, .data⟩ (by simp) rfl)
        exact wp_ld_slice (e := 29) rfl e1 (by kernel_rfl) ((Bl.below hb Bl.lt).cell (i := 1) rfl) ⟨_, rfl, rfl, Below.refl _ _⟩
      case o7 =>
        refine GdOp.plain rfl (fun A vs w' hF hT hb hd => ?_)
        have e1 : A.eval (.tmp 1) = .int .i64 (at9 : Nat) := hF 1 rfl
        exact BigFrame.wp_move _ rfl ⟨_, rfl, e1, Below.refl _ _⟩
      case o8 =>
        refine GdOp.plain rfl (fun A vs w' hF hT hb hd => ?_)
        have e1 : A.eval (.tmp 48) = .slice (some ⟨bQ, oQ, none⟩) Q.length cQ := (hT 48 6 (by simp) rfl).trans (hd ⟨6, .data⟩ (by simp) rfl)
        have e2 : A.eval (.tmp 49) = .int .i64 (at9 : Nat) := (hT 49 7 (by simp) rfl).trans (hd ⟨7, .data⟩ (by simp) rfl)
        exact wp_ixN (e := 29) rfl (by kernel_rfl) (by kernel_rfl) (e1) (e2) rfl (by omega) ⟨_, rfl, rfl, Below.refl _ _⟩
      case o9 =>
        refine GdOp.plain rfl (fun A vs w' hF hT hb hd => ?_)
        have e1 : A.eval (.tmp 50) = .pointer (some ⟨bQ, oQ + at9 * 7, none⟩) := (hT 50 8 (by simp) rfl).trans (hd ⟨8, .data⟩ (by simp) rfl)
        exact wp_loadU (us := [.int .i64 x.owner, .bool x.whole, .int .i64 x.span.table, .slice xA x.span.lo.length xB, .slice xC x.span.hi.length xD, .bool x.span.isOpen, .int .i64 x.mode]) lkS rfl e1 (fun j u hj => (hb.cell (p := ⟨bQ, oQ + at9 * 7 + j, none⟩) (cell_lt (hcx j u hj))).trans (hcx j u hj)) ⟨_, rfl, rfl, Below.refl _ _⟩
      case o10 =>
        refine GdOp.plain rfl (fun A vs w' hF hT hb hd => ?_)
        have e1 : A.eval (.tmp 46) = .agg #[.int .i64 y.owner, .bool y.whole, .int .i64 y.span.table, .slice kA y.span.lo.length kB, .slice kC y.span.hi.length kD, .bool y.span.isOpen, .int .i64 y.mode] := (hT 46 4 (by simp) rfl).trans (hd ⟨4, .data⟩ (by simp) rfl)
        have e2 : A.eval (.tmp 51) = .agg #[.int .i64 x.owner, .bool x.whole, .int .i64 x.span.table, .slice xA x.span.lo.length xB, .slice xC x.span.hi.length xD, .bool x.span.isOpen, .int .i64 x.mode] := (hT 51 9 (by simp) rfl).trans (hd ⟨9, .data⟩ (by simp) rfl)
        refine wp_callFn rfl eC (args := #[.agg #[.int .i64 y.owner, .bool y.whole, .int .i64 y.span.table, .slice kA y.span.lo.length kB, .slice kC y.span.hi.length kD, .bool y.span.isOpen, .int .i64 y.mode], .agg #[.int .i64 x.owner, .bool x.whole, .int .i64 x.span.table, .slice xA x.span.lo.length xB, .slice xC x.span.hi.length xD, .bool x.span.isOpen, .int .i64 x.mode]]) (by simp only [List.map_toArray, List.map_cons, List.map_nil, e1, e2]) ((rClash_any w' (hy.below hb) (hX.below hb)).mono ?_)
        rintro e w2 ⟨rfl, hb2⟩
        exact ⟨_, rfl, _, rfl, rfl, hb2⟩
      case o11 =>
        refine GdOp.plain rfl (fun A vs w' hF hT hb hd => ?_)
        have e1 : A.eval (.tmp 52) = .bool (clashL y x) := (hT 52 10 (by simp) rfl).trans (hd ⟨10, .data⟩ (by simp) rfl)
        exact BigFrame.wp_assign _ rfl ⟨_, rfl, e1, Below.refl _ _⟩
      case fin =>
      intro vs9 W9 hb9 hG9
      have q9w := hb9
      have e0 : vs9 0 = .pointer (some ⟨w.heap.size, 0 + 1, none⟩) := hG9 0 (by decide)
      have e1 : vs9 1 = .slice (some ⟨bQ, oQ, none⟩) Q.length cQ := hG9 1 (by decide)
      have e2 : vs9 2 = .int .i64 (i : Nat) := hG9 2 (by decide)
      have e3 : vs9 3 = .pointer (some ⟨bQ, oQ + i * 7, none⟩) := hG9 3 (by decide)
      have e4 : vs9 4 = .agg #[.int .i64 y.owner, .bool y.whole, .int .i64 y.span.table, .slice kA y.span.lo.length kB, .slice kC y.span.hi.length kD, .bool y.span.isOpen, .int .i64 y.mode] := hG9 4 (by decide)
      have e5 : vs9 5 = .pointer (some ⟨w.heap.size, 0 + 1, none⟩) := hG9 5 (by decide)
      have e6 : vs9 6 = .slice (some ⟨bQ, oQ, none⟩) Q.length cQ := hG9 6 (by decide)
      have e7 : vs9 7 = .int .i64 (at9 : Nat) := hG9 7 (by decide)
      have e8 : vs9 8 = .pointer (some ⟨bQ, oQ + at9 * 7, none⟩) := hG9 8 (by decide)
      have e9 : vs9 9 = .agg #[.int .i64 x.owner, .bool x.whole, .int .i64 x.span.table, .slice xA x.span.lo.length xB, .slice xC x.span.hi.length xD, .bool x.span.isOpen, .int .i64 x.mode] := hG9 9 (by decide)
      have e10 : vs9 10 = .bool (clashL y x) := hG9 10 (by decide)
      have e11 : vs9 11 = .bool (clashL y x) := hG9 11 (by decide)
      simp only [putAll, e0, e1, e2, e3, e4, e5, e6, e7, e8, e9, e10, e11]
      clear hG9 e0 e1 e2 e3 e4 e5 e6 e7 e8 e9 e10 e11
      replace Bl := Bl.below hb9 Bl.lt
      replace Br := Br.below hb9 Br.lt
      replace Bo := Bo.below hb9 Bo.lt
      replace q := q.trans (hb9.mono q.size)
      clear hb9
      go_simp
      replace c0 := (q9w.cell (p := ⟨_, _, none⟩) (cell_lt c0)).trans c0
      clear hcy hcx hy hX
      replace hat := Lib.hid (hat.out.trans (by rw [clash_comm x y]))
      cases hcl : clashL y x with
      | true =>
        have hat2 := Lib.hid (show blkO x (H ++ Q.take (i + 1)) = bs ++ [y.owner] by rw [hat.out, hcl]; rfl)
        clear hat hcl
        obtain ⟨jo, hjo, hj4⟩ : ∃ jo : Nat, y.owner = (jo : Int) ∧ jo < 4 := ⟨y.owner.toNat, by omega, by omega⟩
        rw [hjo] at c0 hat2
        clear hjo hown
        have b0 := Bl.cell (i := 0) rfl
        have b1 := Bl.cell (i := 1) rfl
        obtain ⟨bv, ebv⟩ : ∃ v, v = b4 (mkF bs) := ⟨_, rfl⟩
        rw [← ebv] at Bo
        have hb4 : jo < bv.length := by rw [ebv]; simpa [b4] using hj4
        replace ebv := Lib.hid ebv
        go_wp2_with (first | (refine wpList_boxSet (j := jo) (u := .bool true) rfl rfl rfl (by kernel_rfl) (by first | rfl | (simp [Act.eval]; done)) rfl rfl rfl Bo hb4 ?_; intro wn hgn Bn) | fail)
        rw [ebv.out, set_b4 hj4] at Bn
        replace Bl := Bl.other hgn fun e => by injection e with e; omega
        replace Br := Br.other hgn fun e => by injection e with e; omega
        replace q := q.grown hgn q.size fun k hk => by injection hk with hk; omega
        go_roundw
        case rel => exact ⟨i + 1, by go_num, by omega, Bl, Br, by rw [hat2.out]; exact Bn, q⟩
        case measure => simp [intOf]; omega
      | false =>
        have hat2 := Lib.hid (show blkO x (H ++ Q.take (i + 1)) = bs by rw [hat.out, hcl]; simp)
        clear hat hcl c0
        go_wp2_with fail
        go_roundw
        case rel => exact ⟨i + 1, by go_num, by omega, Bl, Br, by rw [hat2.out]; exact Bo, q⟩
        case measure => simp [intOf]; omega
    · obtain rfl : i = at9 := by omega
      have d0 : decide ((i : Int) < (i : Int)) = false := decide_eq_false (by omega)
      obtain ⟨f, ef⟩ : ∃ f, f = mkF (blkO x (H ++ Q.take i)) := ⟨_, rfl⟩
      rw [← ef] at Bo
      replace ef := Lib.hid ef
      have o0 := Bo.cell (i := 0) (b4_at f (by omega))
      have o1 := Bo.cell (i := 1) (b4_at f (by omega))
      have o2 := Bo.cell (i := 2) (b4_at f (by omega))
      have o3 := Bo.cell (i := 3) (b4_at f (by omega))
      have Br4 : BoxN wr (w.heap.size + 1) 51 [.bool false, .bool false, .bool false, .bool false] := by rw [← hz4]; exact Br
      go_wp2_with (first | (refine wpList_boxStore (us := [.bool (f 0), .bool (f 1), .bool (f 2), .bool (f 3)]) (by kernel_rfl) rfl rfl rfl rfl rfl rfl Br4 rfl ?_; intro wz hgz Bz) | fail)
      have z0 := Bz.cell (i := 0) rfl
      have z1 := Bz.cell (i := 1) rfl
      have z2 := Bz.cell (i := 2) rfl
      have z3 := Bz.cell (i := 3) rfl
      have hu := Tryd.underlying51
      have hs : (Tryd.prog.info? 51).map (·.size) = some 4 := by kernel_rfl
      refine bodyPost_ret (v := .agg #[.bool (f 0), .bool (f 1), .bool (f 2), .bool (f 3)]) (by simp [results, Tryd.results36, go_sem, loadVar, isAgg, run_underlying hu, run_sizeOf' hs, loadCellsFrom, Addr.add, z0, z1, z2, z3]) rfl ?_
      exact ⟨by rw [ef.out], q.grown hgz q.size fun k hk => by injection hk with hk; omega⟩
end Go.Proofs.YtpdnehgboafgpaaDoor
