/-
  TEXTS OF ONE PROOF, merged: LkY, LkZ, LockAloneW, LkQ.
-/
import Derived.KernelRfl
import Derived.Test.YtccoklhmbikfmaaDoorKa7
namespace Go.Proofs.YtccoklhmbikfmaaDoor
open Go.RowKit Go.Shelf
def k0 : Lk := ⟨0, false, pointS 0 [97], 5⟩
def k1 : Lk := ⟨1, false, pointS 0 [97], 3⟩
def k2 : Lk := ⟨2, false, pointS 0 [98], 5⟩
def k3 : Lk := ⟨1, false, pointS 0 [99], 3⟩
def k4 : Lk := ⟨0, false, pointS 0 [97], 3⟩
def u0 : Lk := ⟨0, true, ⟨0, [], [], false⟩, 2⟩
def u1 : Lk := ⟨0, true, ⟨0, [], [], false⟩, 3⟩
def v0 : Lk := ⟨0, true, ⟨0, [], [], false⟩, 4⟩
def zk : Lk := ⟨0, false, ⟨0, [], [], false⟩, 0⟩
theorem ask11_1 : askL [] [] k0 = ([k0], [], 0) := by decide
theorem ask11_2 : askL [k0] [] k1 = ([k0], [k1], 110) := by decide
theorem ask11_3 : askL [k0] [k1] k2 = ([k0, k2], [k1], 0) := by decide
theorem ask11_4 : askL [k0, k2] [k1] k3 = ([k0, k2], [k1], 1) := by decide
theorem ask11_5 : askL [k0, k2] [k1] k4 = ([k0, k2], [k1], 0) := by decide
theorem drop11 : dropC [k0, k2] [k1] 0 = ([k2, k1], [], [1]) := by decide
theorem rise11 : riseL [1] = [1] := by
  simp [riseL, Lib.compact, Lib.compactUpTo]
  exact ⟨0, by simp [Lib.keeps], rfl⟩
theorem ask11_7 : askL [] [] u0 = ([u0], [], 0) := by decide
theorem ask11_8 : askL [u0] [] u1 = ([v0], [], 0) := by decide
theorem ask11_6 : askL (List.replicate 41 zk) [] k4 = (List.replicate 41 zk, [], 1) := by decide
theorem blk11 {l : List Int} (h : (okLk [k0] [k1] ∧ ∃ i, ∃ h : i < [k1].length, [k1][i].owner = 1 ∧ (∀ y ∈ [k1].take i, y.owner ≠ 1) ∧ l = riseL (blkO [k1][i] ([k0] ++ [k1].take i))) ∨ (decide (okLk [k0] [k1]) && waitsL [k1] 1) = false ∧ l = []) : l = [0] := by
  rcases h with ⟨_, i, hi, _, _, rfl⟩ | ⟨h, _⟩
  · obtain rfl : i = 0 := by simpa using hi
    have e : blkO k1 [k0] = [0] := by decide
    show riseL (blkO k1 [k0]) = [0]
    rw [e]
    simp [riseL, Lib.compact, Lib.compactUpTo]
    exact ⟨0, by simp [Lib.keeps], rfl⟩
  · exact absurd h (by decide)
theorem made11 {α : Type} {E : Elt α} {S : Nat → Prop} {w : World} {x : α} {us : List Value} {b : Nat} {t : TypeId} (hx : E.R S w x us) (hrow : w.heap[b]? = some (.cells us.toArray t (0, 0))) (hS : S b) : RdL E S w (.slice (some ⟨b, 0, none⟩) 1 1) [x] :=
  ⟨_, 1, rfl, Nat.le_refl _, by unfold maxLen; omega, .inr ⟨b, 0, rfl, hS, fun r h => by
    obtain rfl : r = 0 := by simpa using h
    exact ⟨us, hx, fun j u hj => by simp [World.cell?, hrow, hj]⟩⟩⟩
theorem sm41 : smK (List.replicate 41 zk) := ⟨by decide, fun x hx => by obtain rfl := List.eq_of_mem_replicate hx; decide⟩
theorem wp_mk41 {o : Oper} {a : Act} {K : Act → World → Prop} {Q : Exit → Act → World → Prop} {w : World} {x y : Operand} (ho : o.op = .makeSlice 22 x y) (hx : a.eval x = .int .i64 41) (hy : a.eval y = .int .i64 41)
    (h : ∀ w', Below w.heap.size w w' → RdL Elt.lk (fun g => w.heap.size ≤ g ∧ g < w'.heap.size) w' (.slice (some ⟨w.heap.size, 0, none⟩) 41 41) (List.replicate 41 zk) → K (a.put o.dst (.slice (some ⟨w.heap.size, 0, none⟩) 41 41)) w') : o.wp Tryd.prog a w K Q := by
  obtain ⟨i, hi, he⟩ := Option.map_eq_some_iff.1 (show (Tryd.prog.info? 29).map (fun i => (i.zero, i.bytes, i.size)) = some (some (.agg #[.int .i64 0, .bool false, .int .i64 0, .slice none 0 0, .slice none 0 0, .bool false, .int .i64 0]), 88, 7) by kernel_rfl)
  injection he with h1 he
  injection he with h2 h3
  have hr := run_make (P := Tryd.prog) w 22 29 i _ (by kernel_rfl) hi h1 .i64 .i64 41 41 (by decide) (by decide) (by rw [h2]; decide) (by decide)
  rw [h3] at hr
  unfold Oper.wp execOp
  simp only [ho, hx, hy, Sem.run_bind, Sem.run_pure, Result.andThen_ok, hr]
  refine h _ ((Below.refl _ _).alloc (Nat.le_refl _) _) ⟨_, 41, rfl, by simp, by unfold maxLen; omega, .inr ⟨_, 0, rfl, ⟨Nat.le_refl _, by simp [World.alloc, -World.alloc_eq]⟩, fun r hl => ⟨lkC zk (.slice none 0 0) (.slice none 0 0), ?_, fun j u hj => ?_⟩⟩⟩
  · rw [List.getElem_replicate]
    exact ⟨_, _, rfl, RdS.nil _ _, RdS.nil _ _, by unfold Lk64 W64 zk; decide⟩
  · have hr41 : r < 41 := by simpa using hl
    have hj7 : j < 7 := by have := (List.getElem?_eq_some_iff.1 hj).1; simpa [lkC] using this
    have hm : (r * 7 + j) % 7 = j := by omega
    have hn : r * 7 + j < 287 := by omega
    have e7 : Elt.lk.size = 7 := rfl
    rw [e7]
    simp only [World.cell?, World.alloc, Array.getElem?_push_size]
    rw [← hj]
    simp only [madeCells, Value.cells, Nat.zero_add, Array.getElem?_map, Array.getElem?_range]
    rcases j with _ | _ | _ | _ | _ | _ | _ | j
    all_goals first | omega | (simp [hn, hm, lkC, zk]; done) | (simp [lkC, zk]; omega)
set_option maxRecDepth 100000 in
set_option maxHeartbeats 32000000 in
theorem awake11_any (w : World) (hT : TabAt w) : Calls Tryd.prog 6 #[] w fun e w' => e = .returned (.bool true) ∧ Below w.heap.size w w' := by
  have eOne : ∀ args w, (callFunc 21 args).run Tryd.prog w = .ok (.enter 21 args) w := enters_of Tryd.func21 (by kernel_rfl) rfl
  have eAsk : ∀ args w, (callFunc 19 args).run Tryd.prog w = .ok (.enter 19 args) w := enters_of Tryd.func19 (by kernel_rfl) rfl
  go_enter Tryd.func6, Tryd.ntmps6
  try dsimp only [List.append]
  have q := Below.refl w.heap.size w
  have tb := hT
  go_wp2_with fail
  refine (one_any w (o := 0) (m := 5) (b := 97) (by unfold W64; decide) (by unfold W64; decide)).mono ?_
  rintro e w1 ⟨v, rfl, hv, hb⟩
  replace tb := tb.below hb
  replace q := q.trans (hb.mono q.size)
  clear hb
  have hcl := lAsk_any w1 tb (H := []) (Q := []) (x := k0) (S := fun _ => True) ⟨none, 0, none, 0, rfl, RdL.nil _ _ _, RdL.nil _ _ _⟩ (by unfold smK; decide) (by unfold smK; decide) (by decide) (by decide) hv (by decide) (by decide)
  rw [ask11_1] at hcl
  go_wp2_with fail
  refine hcl.mono ?_
  rintro e w2 ⟨aA, cA, mA, nA, rfl, ⟨_, _, _, _, er, rhA, rqA⟩, hb⟩
  injection er with er
  injection er with er
  injection er with er1 er
  injection er with er2 _
  rw [← er1] at rhA
  rw [← er2] at rqA
  clear hcl hv er1 er2
  replace tb := tb.below hb
  replace q := q.trans (hb.mono q.size)
  clear hb
  replace rhA : RdL Elt.lk (fun _ => True) _ (.slice aA 1 cA) [k0] := rhA.weak fun _ _ => trivial
  replace rqA : RdL Elt.lk (fun _ => True) _ (.slice mA 0 nA) [] := rqA.weak fun _ _ => trivial
  go_upto_region 2 with (first | (refine wpList_boxNew (vs := [.slice none 0 0, .slice none 0 0]) (by kernel_rfl) rfl rfl ?_; intro wa hba hBa) | (refine wpList_boxStore (us := [.slice aA 1 cA, .slice mA 0 nA]) (by kernel_rfl) rfl rfl rfl rfl rfl rfl hBa rfl ?_; intro w3 hgw xA) | fail)
  try go_simp
  have hbw := hba.grown hgw hba.size fun k hk => by injection hk with hk; omega
  replace rhA := rhA.below hbw
  replace rqA := rqA.below hbw
  replace tb := tb.below hbw
  replace q := q.trans (hbw.mono q.size)
  clear hbw hgw hba hBa
  obtain ⟨bA, hbA⟩ : ∃ bA, bA = w2.heap.size := ⟨_, rfl⟩
  rw [← hbA] at xA
  rw [← hbA]
  clear hbA
  replace xA : BoxN _ _ _ [.slice aA 1 cA, .slice mA 0 nA] := xA
  refine wp_region_setl (K := fun _ _ => True) (by kernel_rfl) (by kernel_rfl) [1, 2, 3, 4, 5, 6, 7] (by kernel_rfl) [lEq (.agg #[.slice aA 1 cA, .slice mA 0 nA]), lAny, lAny, lAny, lAny, lAny, lAny, lAny, lEq (.int .i64 ((([k0], [k1], 110)).2.2 : Nat))]
    (CbK #[] 5 (LsR ([k0], [k1], 110)) zLs LsB (LkV k1) AnyVk _) (CbK.more (lsStays ([k0], [k1], 110) k1)) (CbS.start _)
    ⟨?o0, ?o1, ?o2, ?o3, ?o4, ?o5, ?o6, ?o7, ?o8, trivial⟩ ?fin
  case o0 =>
    refine StOp.free rfl (by kernel_rfl) (fun A va D w' hF hT hN hE hd hu hg => ?_)
    have e1 : A.eval (.tmp 1) = .pointer (some ⟨bA, 0, none⟩) := hF 1 rfl
    have hBE := CbK.below hE
    exact wp_load2 lsS rfl e1 ((xA.below hBE xA.lt).cell (i := 0) rfl) ((xA.below hBE xA.lt).cell (i := 1) rfl) ⟨_, rfl, rfl, Below.refl _ _⟩
  case o1 =>
    refine StOp.set rfl (by kernel_rfl) (fun A va D w' hF hT hN hE hd hu hg => ?_)
    have hE2 := hE
    simp only [told, List.map_cons, List.map_nil, hN, Bool.false_eq_true, if_false] at hE2
    refine wp_callFn rfl eOne (args := #[.int .i64 1, .string ⟨#[97]⟩, .int .i64 3]) (by simp only [List.map_toArray, List.map_cons, List.map_nil]; rfl) ((one_any w' (o := 1) (m := 3) (b := 97) (by unfold W64; decide) (by unfold W64; decide)).mono ?_)
    rintro e w2 ⟨v, rfl, hv, hb2⟩
    have h5 := CbS.key (lsStays ([k0], [k1], 110) k1) hE2 rfl hb2 (u := v) hv
    exact ⟨_, rfl, _, rfl, by simpa [CbK, told, don, upd] using h5, trivial⟩
  case o2 =>
    refine StOp.set rfl (by kernel_rfl) (fun A va D w' hF hT hN hE hd hu hg => ?_)
    have e1 : A.eval (.tmp 27) = .agg #[.slice aA 1 cA, .slice mA 0 nA] := (hT 27 0 (by simp) rfl).trans (hg ⟨0, .data⟩ (by simp) rfl rfl)
    have x2 : A.eval (.tmp 28) = va 1 := hT 28 1 (by simp) rfl
    have hE2 := hE
    have d1 : D 1 = true := hd ⟨1, .data⟩ (by simp) rfl
    simp only [told, List.map_cons, List.map_nil, hN, d1, Bool.false_eq_true, if_false, if_true] at hE2
    have hBE := hE2.be
    have hcl := lAsk_any w' (tb.below hBE) (H := [k0]) (Q := []) (x := k1) ⟨aA, cA, mA, nA, rfl, rhA.below hBE, rqA.below hBE⟩ (by unfold smK; decide) (by unfold smK; decide) (by decide) (by decide) (hE2.k1 _ rfl) (by decide) (by decide)
    rw [ask11_2] at hcl
    refine wp_callFn rfl eAsk (args := #[.agg #[.slice aA 1 cA, .slice mA 0 nA], va 1]) (by simp only [List.map_toArray, List.map_cons, List.map_nil, e1, x2]) (hcl.mono ?_)
    rintro e w2 ⟨a, c, a2, c2, rfl, hrd, hb2⟩
    have h5 := CbS.call (lsStays ([k0], [k1], 110) k1) hE2 (by simp) hb2 (v := .agg #[.slice a _ c, .slice a2 _ c2]) (e := .int .i64 _) ⟨rfl, hrd⟩
    exact ⟨_, rfl, _, rfl, by simpa [CbK, told, don, upd, d1] using h5, trivial⟩
  case o3 =>
    refine StOp.set rfl (by kernel_rfl) (fun A va D w' hF hT hN hE hd hu hg => ?_)
    have x1 : A.eval (.tmp 29) = va 2 := hT 29 2 (by simp) rfl
    have hE2 := hE
    have d2 : D 2 = true := hd ⟨2, .data⟩ (by simp) rfl
    simp only [told, List.map_cons, List.map_nil, hN, d2, Bool.false_eq_true, if_false, if_true] at hE2
    have h5 := CbS.move hE2
    exact BigFrame.wp_move _ rfl ⟨_, rfl, by rw [x1]; simpa [CbK, told, don, upd, d2] using h5, trivial⟩
  case o4 =>
    refine StOp.set rfl (by kernel_rfl) (fun A va D w' hF hT hN hE hd hu hg => ?_)
    have x1 : A.eval (.tmp 26) = va 3 := hT 26 3 (by simp) rfl
    have hE2 := hE
    have d3 : D 3 = true := hd ⟨3, .data⟩ (by simp) rfl
    simp only [told, List.map_cons, List.map_nil, hN, d3, Bool.false_eq_true, if_false, if_true] at hE2
    obtain ⟨v, e, em⟩ := CbS.tup hE2
    rw [em] at hE2
    have h5 := CbS.ex0 hE2
    exact wp_ex rfl (x1.trans em) rfl ⟨_, rfl, by simpa [CbK, told, don, upd, d3, em] using h5, trivial⟩
  case o5 =>
    refine StOp.set rfl (by kernel_rfl) (fun A va D w' hF hT hN hE hd hu hg => ?_)
    have x1 : A.eval (.tmp 26) = va 3 := hT 26 3 (by simp) rfl
    have hE2 := hE
    have d3 : D 3 = true := hd ⟨3, .data⟩ (by simp) rfl
    simp only [told, List.map_cons, List.map_nil, hN, d3, Bool.false_eq_true, if_false, if_true] at hE2
    obtain ⟨v, e, em⟩ := CbS.tup hE2
    rw [em] at hE2
    have h5 := CbS.ex1 hE2
    exact wp_ex rfl (x1.trans em) rfl ⟨_, rfl, by simpa [CbK, told, don, upd, d3, em] using h5, trivial⟩
  case o6 =>
    refine StOp.set rfl (by kernel_rfl) (fun A va D w' hF hT hN hE hd hu hg => ?_)
    have hE2 := hE
    simp only [told, List.map_cons, List.map_nil, hN, Bool.false_eq_true, if_false] at hE2
    refine wp_boxNew (vs := [.slice none 0 0, .slice none 0 0]) (by kernel_rfl) rfl (fun w2 hb2 hz => ⟨_, rfl, ?_, trivial⟩)
    have h5 := CbS.alloc (lsStays ([k0], [k1], 110) k1) hE2 hb2 hz
    simpa [CbK, told, don, upd] using h5
  case o7 =>
    refine StOp.set rfl (by kernel_rfl) (fun A va D w' hF hT hN hE hd hu hg => ?_)
    have x1 : A.eval (.tmp 3) = va 6 := hT 3 6 (by simp) rfl
    have x2 : A.eval (.tmp 30) = va 4 := hT 30 4 (by simp) rfl
    have hE2 := hE
    have d6 : D 6 = true := hd ⟨6, .data⟩ (by simp) rfl
    have d4 : D 4 = true := hd ⟨4, .data⟩ (by simp) rfl
    simp only [told, List.map_cons, List.map_nil, hN, d6, d4, Bool.false_eq_true, if_false, if_true] at hE2
    obtain ⟨b9, eb, hb0⟩ := CbS.box hE2
    obtain ⟨e, hm⟩ := hE2.mx _ rfl
    obtain ⟨v, e2, ec, _, hrd⟩ := hE2.rr _ (hE2.mv _ hm)
    obtain ⟨A1, B1, A2, B2, ev, _⟩ := id hrd
    injection ec with ec
    injection ec with ec
    injection ec with ec _
    rw [← ec] at ev
    refine wp_boxStore (vs := [.slice none 0 0, .slice none 0 0]) (us := [.slice A1 _ B1, .slice A2 _ B2]) (by kernel_rfl) rfl (x1.trans eb) (x2.trans ev) rfl hb0 rfl (fun w2 hg2 ht2 => ⟨_, rfl, ?_, trivial⟩)
    rw [eb] at hE2
    have h5 := CbS.sto (u := undef) (lsStays ([k0], [k1], 110) k1) hE2 hg2 ⟨_, _, ev, ht2⟩
    simpa [CbK, told, don, upd, d6, d4, eb] using h5
  case o8 =>
    refine StOp.free rfl (by kernel_rfl) (fun A va D w' hF hT hN hE hd hu hg => ?_)
    have x1 : A.eval (.tmp 31) = va 5 := hT 31 5 (by simp) rfl
    have hE2 := hE
    have d5 : D 5 = true := hd ⟨5, .data⟩ (by simp) rfl
    simp only [told, List.map_cons, List.map_nil, d5, if_true] at hE2
    have ee := CbS.errL hE2
    exact BigFrame.wp_assign _ rfl ⟨_, rfl, x1.trans ee, Below.refl _ _⟩
  case fin =>
  intro vs1 W1 hE hG
  obtain ⟨bB, aB, cB, mB, nB, ez, em, ec, ev, ee, xB, rhB, rqB, hb⟩ := CbS.locks hE (by simp)
  have g0 : vs1 0 = .agg #[.slice aA 1 cA, .slice mA 0 nA] := hG 0 (by decide) rfl
  have g8 : vs1 8 = .int .i64 ((([k0], [k1], 110)).2.2 : Nat) := hG 8 (by decide) rfl
  simp only [putAll, g0, g8, ec, em, ev, ee, ez]
  clear hE hG g0 g8 ec em ev ee ez
  replace rhA := rhA.below hb
  replace rqA := rqA.below hb
  replace xA := xA.below hb xA.lt
  replace tb := tb.below hb
  replace q := q.trans (hb.mono q.size)
  clear hb
  replace xB : BoxN _ _ _ [.slice aB 1 cB, .slice mB 1 nB] := xB
  replace rhB : RdL Elt.lk (fun _ => True) _ (.slice aB 1 cB) [k0] := rhB.weak fun _ _ => trivial
  replace rqB : RdL Elt.lk (fun _ => True) _ (.slice mB 1 nB) [k1] := rqB.weak fun _ _ => trivial
  obtain ⟨w2, hwe⟩ : ∃ W, W = W1 := ⟨_, rfl⟩
  rw [← hwe] at rhA
  rw [← hwe] at rqA
  rw [← hwe] at xA
  rw [← hwe] at xB
  rw [← hwe] at rhB
  rw [← hwe] at rqB
  rw [← hwe] at tb
  rw [← hwe] at q
  rw [← hwe]
  clear hwe
  go_simp
  go_upto_region 3 with (fail)
  refine wp_region_setl (K := fun _ _ => True) (by kernel_rfl) (by kernel_rfl) [1, 2, 3, 4, 5, 6, 7] (by kernel_rfl) [lEq (.agg #[.slice aB 1 cB, .slice mB 1 nB]), lAny, lAny, lAny, lAny, lAny, lAny, lAny, lEq (.int .i64 ((([k0, k2], [k1], 0)).2.2 : Nat))]
    (CbK #[] 5 (LsR ([k0, k2], [k1], 0)) zLs LsB (LkV k2) AnyVk _) (CbK.more (lsStays ([k0, k2], [k1], 0) k2)) (CbS.start _)
    ⟨?o0, ?o1, ?o2, ?o3, ?o4, ?o5, ?o6, ?o7, ?o8, trivial⟩ ?fin
  case o0 =>
    refine StOp.free rfl (by kernel_rfl) (fun A va D w' hF hT hN hE hd hu hg => ?_)
    have e1 : A.eval (.tmp 3) = .pointer (some ⟨bB, 0, none⟩) := hF 3 rfl
    have hBE := CbK.below hE
    exact wp_load2 lsS rfl e1 ((xB.below hBE xB.lt).cell (i := 0) rfl) ((xB.below hBE xB.lt).cell (i := 1) rfl) ⟨_, rfl, rfl, Below.refl _ _⟩
  case o1 =>
    refine StOp.set rfl (by kernel_rfl) (fun A va D w' hF hT hN hE hd hu hg => ?_)
    have hE2 := hE
    simp only [told, List.map_cons, List.map_nil, hN, Bool.false_eq_true, if_false] at hE2
    refine wp_callFn rfl eOne (args := #[.int .i64 2, .string ⟨#[98]⟩, .int .i64 5]) (by simp only [List.map_toArray, List.map_cons, List.map_nil]; rfl) ((one_any w' (o := 2) (m := 5) (b := 98) (by unfold W64; decide) (by unfold W64; decide)).mono ?_)
    rintro e w2 ⟨v, rfl, hv, hb2⟩
    have h5 := CbS.key (lsStays ([k0, k2], [k1], 0) k2) hE2 rfl hb2 (u := v) hv
    exact ⟨_, rfl, _, rfl, by simpa [CbK, told, don, upd] using h5, trivial⟩
  case o2 =>
    refine StOp.set rfl (by kernel_rfl) (fun A va D w' hF hT hN hE hd hu hg => ?_)
    have e1 : A.eval (.tmp 33) = .agg #[.slice aB 1 cB, .slice mB 1 nB] := (hT 33 0 (by simp) rfl).trans (hg ⟨0, .data⟩ (by simp) rfl rfl)
    have x2 : A.eval (.tmp 34) = va 1 := hT 34 1 (by simp) rfl
    have hE2 := hE
    have d1 : D 1 = true := hd ⟨1, .data⟩ (by simp) rfl
    simp only [told, List.map_cons, List.map_nil, hN, d1, Bool.false_eq_true, if_false, if_true] at hE2
    have hBE := hE2.be
    have hcl := lAsk_any w' (tb.below hBE) (H := [k0]) (Q := [k1]) (x := k2) ⟨aB, cB, mB, nB, rfl, rhB.below hBE, rqB.below hBE⟩ (by unfold smK; decide) (by unfold smK; decide) (by decide) (by decide) (hE2.k1 _ rfl) (by decide) (by decide)
    rw [ask11_3] at hcl
    refine wp_callFn rfl eAsk (args := #[.agg #[.slice aB 1 cB, .slice mB 1 nB], va 1]) (by simp only [List.map_toArray, List.map_cons, List.map_nil, e1, x2]) (hcl.mono ?_)
    rintro e w2 ⟨a, c, a2, c2, rfl, hrd, hb2⟩
    have h5 := CbS.call (lsStays ([k0, k2], [k1], 0) k2) hE2 (by simp) hb2 (v := .agg #[.slice a _ c, .slice a2 _ c2]) (e := .int .i64 _) ⟨rfl, hrd⟩
    exact ⟨_, rfl, _, rfl, by simpa [CbK, told, don, upd, d1] using h5, trivial⟩
  case o3 =>
    refine StOp.set rfl (by kernel_rfl) (fun A va D w' hF hT hN hE hd hu hg => ?_)
    have x1 : A.eval (.tmp 35) = va 2 := hT 35 2 (by simp) rfl
    have hE2 := hE
    have d2 : D 2 = true := hd ⟨2, .data⟩ (by simp) rfl
    simp only [told, List.map_cons, List.map_nil, hN, d2, Bool.false_eq_true, if_false, if_true] at hE2
    have h5 := CbS.move hE2
    exact BigFrame.wp_move _ rfl ⟨_, rfl, by rw [x1]; simpa [CbK, told, don, upd, d2] using h5, trivial⟩
  case o4 =>
    refine StOp.set rfl (by kernel_rfl) (fun A va D w' hF hT hN hE hd hu hg => ?_)
    have x1 : A.eval (.tmp 32) = va 3 := hT 32 3 (by simp) rfl
    have hE2 := hE
    have d3 : D 3 = true := hd ⟨3, .data⟩ (by simp) rfl
    simp only [told, List.map_cons, List.map_nil, hN, d3, Bool.false_eq_true, if_false, if_true] at hE2
    obtain ⟨v, e, em⟩ := CbS.tup hE2
    rw [em] at hE2
    have h5 := CbS.ex0 hE2
    exact wp_ex rfl (x1.trans em) rfl ⟨_, rfl, by simpa [CbK, told, don, upd, d3, em] using h5, trivial⟩
  case o5 =>
    refine StOp.set rfl (by kernel_rfl) (fun A va D w' hF hT hN hE hd hu hg => ?_)
    have x1 : A.eval (.tmp 32) = va 3 := hT 32 3 (by simp) rfl
    have hE2 := hE
    have d3 : D 3 = true := hd ⟨3, .data⟩ (by simp) rfl
    simp only [told, List.map_cons, List.map_nil, hN, d3, Bool.false_eq_true, if_false, if_true] at hE2
    obtain ⟨v, e, em⟩ := CbS.tup hE2
    rw [em] at hE2
    have h5 := CbS.ex1 hE2
    exact wp_ex rfl (x1.trans em) rfl ⟨_, rfl, by simpa [CbK, told, don, upd, d3, em] using h5, trivial⟩
  case o6 =>
    refine StOp.set rfl (by kernel_rfl) (fun A va D w' hF hT hN hE hd hu hg => ?_)
    have hE2 := hE
    simp only [told, List.map_cons, List.map_nil, hN, Bool.false_eq_true, if_false] at hE2
    refine wp_boxNew (vs := [.slice none 0 0, .slice none 0 0]) (by kernel_rfl) rfl (fun w2 hb2 hz => ⟨_, rfl, ?_, trivial⟩)
    have h5 := CbS.alloc (lsStays ([k0, k2], [k1], 0) k2) hE2 hb2 hz
    simpa [CbK, told, don, upd] using h5
  case o7 =>
    refine StOp.set rfl (by kernel_rfl) (fun A va D w' hF hT hN hE hd hu hg => ?_)
    have x1 : A.eval (.tmp 5) = va 6 := hT 5 6 (by simp) rfl
    have x2 : A.eval (.tmp 36) = va 4 := hT 36 4 (by simp) rfl
    have hE2 := hE
    have d6 : D 6 = true := hd ⟨6, .data⟩ (by simp) rfl
    have d4 : D 4 = true := hd ⟨4, .data⟩ (by simp) rfl
    simp only [told, List.map_cons, List.map_nil, hN, d6, d4, Bool.false_eq_true, if_false, if_true] at hE2
    obtain ⟨b9, eb, hb0⟩ := CbS.box hE2
    obtain ⟨e, hm⟩ := hE2.mx _ rfl
    obtain ⟨v, e2, ec, _, hrd⟩ := hE2.rr _ (hE2.mv _ hm)
    obtain ⟨A1, B1, A2, B2, ev, _⟩ := id hrd
    injection ec with ec
    injection ec with ec
    injection ec with ec _
    rw [← ec] at ev
    refine wp_boxStore (vs := [.slice none 0 0, .slice none 0 0]) (us := [.slice A1 _ B1, .slice A2 _ B2]) (by kernel_rfl) rfl (x1.trans eb) (x2.trans ev) rfl hb0 rfl (fun w2 hg2 ht2 => ⟨_, rfl, ?_, trivial⟩)
    rw [eb] at hE2
    have h5 := CbS.sto (u := undef) (lsStays ([k0, k2], [k1], 0) k2) hE2 hg2 ⟨_, _, ev, ht2⟩
    simpa [CbK, told, don, upd, d6, d4, eb] using h5
  case o8 =>
    refine StOp.free rfl (by kernel_rfl) (fun A va D w' hF hT hN hE hd hu hg => ?_)
    have x1 : A.eval (.tmp 37) = va 5 := hT 37 5 (by simp) rfl
    have hE2 := hE
    have d5 : D 5 = true := hd ⟨5, .data⟩ (by simp) rfl
    simp only [told, List.map_cons, List.map_nil, d5, if_true] at hE2
    have ee := CbS.errL hE2
    exact BigFrame.wp_assign _ rfl ⟨_, rfl, x1.trans ee, Below.refl _ _⟩
  case fin =>
  intro vs1 W1 hE hG
  obtain ⟨bC, aC, cC, mC, nC, ez, em, ec, ev, ee, xC, rhC, rqC, hb⟩ := CbS.locks hE (by simp)
  have g0 : vs1 0 = .agg #[.slice aB 1 cB, .slice mB 1 nB] := hG 0 (by decide) rfl
  have g8 : vs1 8 = .int .i64 ((([k0, k2], [k1], 0)).2.2 : Nat) := hG 8 (by decide) rfl
  simp only [putAll, g0, g8, ec, em, ev, ee, ez]
  clear hE hG g0 g8 ec em ev ee ez
  replace rhA := rhA.below hb
  replace rqA := rqA.below hb
  replace xA := xA.below hb xA.lt
  replace xB := xB.below hb xB.lt
  replace rhB := rhB.below hb
  replace rqB := rqB.below hb
  replace tb := tb.below hb
  replace q := q.trans (hb.mono q.size)
  clear hb
  replace xC : BoxN _ _ _ [.slice aC 2 cC, .slice mC 1 nC] := xC
  replace rhC : RdL Elt.lk (fun _ => True) _ (.slice aC 2 cC) [k0, k2] := rhC.weak fun _ _ => trivial
  replace rqC : RdL Elt.lk (fun _ => True) _ (.slice mC 1 nC) [k1] := rqC.weak fun _ _ => trivial
  obtain ⟨w3, hwe⟩ : ∃ W, W = W1 := ⟨_, rfl⟩
  rw [← hwe] at rhA
  rw [← hwe] at rqA
  rw [← hwe] at xA
  rw [← hwe] at xB
  rw [← hwe] at rhB
  rw [← hwe] at rqB
  rw [← hwe] at xC
  rw [← hwe] at rhC
  rw [← hwe] at rqC
  rw [← hwe] at tb
  rw [← hwe] at q
  rw [← hwe]
  clear hwe
  go_simp
  go_upto_region 4 with (fail)
  refine wp_region_setl (K := fun _ _ => True) (by kernel_rfl) (by kernel_rfl) [1, 2, 3, 4, 5, 6, 7] (by kernel_rfl) [lEq (.agg #[.slice aC 2 cC, .slice mC 1 nC]), lAny, lAny, lAny, lAny, lAny, lAny, lAny, lEq (.int .i64 ((([k0, k2], [k1], 1)).2.2 : Nat))]
    (CbK #[] 5 (LsR ([k0, k2], [k1], 1)) zLs LsB (LkV k3) AnyVk _) (CbK.more (lsStays ([k0, k2], [k1], 1) k3)) (CbS.start _)
    ⟨?o0, ?o1, ?o2, ?o3, ?o4, ?o5, ?o6, ?o7, ?o8, trivial⟩ ?fin
  case o0 =>
    refine StOp.free rfl (by kernel_rfl) (fun A va D w' hF hT hN hE hd hu hg => ?_)
    have e1 : A.eval (.tmp 5) = .pointer (some ⟨bC, 0, none⟩) := hF 5 rfl
    have hBE := CbK.below hE
    exact wp_load2 lsS rfl e1 ((xC.below hBE xC.lt).cell (i := 0) rfl) ((xC.below hBE xC.lt).cell (i := 1) rfl) ⟨_, rfl, rfl, Below.refl _ _⟩
  case o1 =>
    refine StOp.set rfl (by kernel_rfl) (fun A va D w' hF hT hN hE hd hu hg => ?_)
    have hE2 := hE
    simp only [told, List.map_cons, List.map_nil, hN, Bool.false_eq_true, if_false] at hE2
    refine wp_callFn rfl eOne (args := #[.int .i64 1, .string ⟨#[99]⟩, .int .i64 3]) (by simp only [List.map_toArray, List.map_cons, List.map_nil]; rfl) ((one_any w' (o := 1) (m := 3) (b := 99) (by unfold W64; decide) (by unfold W64; decide)).mono ?_)
    rintro e w2 ⟨v, rfl, hv, hb2⟩
    have h5 := CbS.key (lsStays ([k0, k2], [k1], 1) k3) hE2 rfl hb2 (u := v) hv
    exact ⟨_, rfl, _, rfl, by simpa [CbK, told, don, upd] using h5, trivial⟩
  case o2 =>
    refine StOp.set rfl (by kernel_rfl) (fun A va D w' hF hT hN hE hd hu hg => ?_)
    have e1 : A.eval (.tmp 39) = .agg #[.slice aC 2 cC, .slice mC 1 nC] := (hT 39 0 (by simp) rfl).trans (hg ⟨0, .data⟩ (by simp) rfl rfl)
    have x2 : A.eval (.tmp 40) = va 1 := hT 40 1 (by simp) rfl
    have hE2 := hE
    have d1 : D 1 = true := hd ⟨1, .data⟩ (by simp) rfl
    simp only [told, List.map_cons, List.map_nil, hN, d1, Bool.false_eq_true, if_false, if_true] at hE2
    have hBE := hE2.be
    have hcl := lAsk_any w' (tb.below hBE) (H := [k0, k2]) (Q := [k1]) (x := k3) ⟨aC, cC, mC, nC, rfl, rhC.below hBE, rqC.below hBE⟩ (by unfold smK; decide) (by unfold smK; decide) (by decide) (by decide) (hE2.k1 _ rfl) (by decide) (by decide)
    rw [ask11_4] at hcl
    refine wp_callFn rfl eAsk (args := #[.agg #[.slice aC 2 cC, .slice mC 1 nC], va 1]) (by simp only [List.map_toArray, List.map_cons, List.map_nil, e1, x2]) (hcl.mono ?_)
    rintro e w2 ⟨a, c, a2, c2, rfl, hrd, hb2⟩
    have h5 := CbS.call (lsStays ([k0, k2], [k1], 1) k3) hE2 (by simp) hb2 (v := .agg #[.slice a _ c, .slice a2 _ c2]) (e := .int .i64 _) ⟨rfl, hrd⟩
    exact ⟨_, rfl, _, rfl, by simpa [CbK, told, don, upd, d1] using h5, trivial⟩
  case o3 =>
    refine StOp.set rfl (by kernel_rfl) (fun A va D w' hF hT hN hE hd hu hg => ?_)
    have x1 : A.eval (.tmp 41) = va 2 := hT 41 2 (by simp) rfl
    have hE2 := hE
    have d2 : D 2 = true := hd ⟨2, .data⟩ (by simp) rfl
    simp only [told, List.map_cons, List.map_nil, hN, d2, Bool.false_eq_true, if_false, if_true] at hE2
    have h5 := CbS.move hE2
    exact BigFrame.wp_move _ rfl ⟨_, rfl, by rw [x1]; simpa [CbK, told, don, upd, d2] using h5, trivial⟩
  case o4 =>
    refine StOp.set rfl (by kernel_rfl) (fun A va D w' hF hT hN hE hd hu hg => ?_)
    have x1 : A.eval (.tmp 38) = va 3 := hT 38 3 (by simp) rfl
    have hE2 := hE
    have d3 : D 3 = true := hd ⟨3, .data⟩ (by simp) rfl
    simp only [told, List.map_cons, List.map_nil, hN, d3, Bool.false_eq_true, if_false, if_true] at hE2
    obtain ⟨v, e, em⟩ := CbS.tup hE2
    rw [em] at hE2
    have h5 := CbS.ex0 hE2
    exact wp_ex rfl (x1.trans em) rfl ⟨_, rfl, by simpa [CbK, told, don, upd, d3, em] using h5, trivial⟩
  case o5 =>
    refine StOp.set rfl (by kernel_rfl) (fun A va D w' hF hT hN hE hd hu hg => ?_)
    have x1 : A.eval (.tmp 38) = va 3 := hT 38 3 (by simp) rfl
    have hE2 := hE
    have d3 : D 3 = true := hd ⟨3, .data⟩ (by simp) rfl
    simp only [told, List.map_cons, List.map_nil, hN, d3, Bool.false_eq_true, if_false, if_true] at hE2
    obtain ⟨v, e, em⟩ := CbS.tup hE2
    rw [em] at hE2
    have h5 := CbS.ex1 hE2
    exact wp_ex rfl (x1.trans em) rfl ⟨_, rfl, by simpa [CbK, told, don, upd, d3, em] using h5, trivial⟩
  case o6 =>
    refine StOp.set rfl (by kernel_rfl) (fun A va D w' hF hT hN hE hd hu hg => ?_)
    have hE2 := hE
    simp only [told, List.map_cons, List.map_nil, hN, Bool.false_eq_true, if_false] at hE2
    refine wp_boxNew (vs := [.slice none 0 0, .slice none 0 0]) (by kernel_rfl) rfl (fun w2 hb2 hz => ⟨_, rfl, ?_, trivial⟩)
    have h5 := CbS.alloc (lsStays ([k0, k2], [k1], 1) k3) hE2 hb2 hz
    simpa [CbK, told, don, upd] using h5
  case o7 =>
    refine StOp.set rfl (by kernel_rfl) (fun A va D w' hF hT hN hE hd hu hg => ?_)
    have x1 : A.eval (.tmp 7) = va 6 := hT 7 6 (by simp) rfl
    have x2 : A.eval (.tmp 42) = va 4 := hT 42 4 (by simp) rfl
    have hE2 := hE
    have d6 : D 6 = true := hd ⟨6, .data⟩ (by simp) rfl
    have d4 : D 4 = true := hd ⟨4, .data⟩ (by simp) rfl
    simp only [told, List.map_cons, List.map_nil, hN, d6, d4, Bool.false_eq_true, if_false, if_true] at hE2
    obtain ⟨b9, eb, hb0⟩ := CbS.box hE2
    obtain ⟨e, hm⟩ := hE2.mx _ rfl
    obtain ⟨v, e2, ec, _, hrd⟩ := hE2.rr _ (hE2.mv _ hm)
    obtain ⟨A1, B1, A2, B2, ev, _⟩ := id hrd
    injection ec with ec
    injection ec with ec
    injection ec with ec _
    rw [← ec] at ev
    refine wp_boxStore (vs := [.slice none 0 0, .slice none 0 0]) (us := [.slice A1 _ B1, .slice A2 _ B2]) (by kernel_rfl) rfl (x1.trans eb) (x2.trans ev) rfl hb0 rfl (fun w2 hg2 ht2 => ⟨_, rfl, ?_, trivial⟩)
    rw [eb] at hE2
    have h5 := CbS.sto (u := undef) (lsStays ([k0, k2], [k1], 1) k3) hE2 hg2 ⟨_, _, ev, ht2⟩
    simpa [CbK, told, don, upd, d6, d4, eb] using h5
  case o8 =>
    refine StOp.free rfl (by kernel_rfl) (fun A va D w' hF hT hN hE hd hu hg => ?_)
    have x1 : A.eval (.tmp 43) = va 5 := hT 43 5 (by simp) rfl
    have hE2 := hE
    have d5 : D 5 = true := hd ⟨5, .data⟩ (by simp) rfl
    simp only [told, List.map_cons, List.map_nil, d5, if_true] at hE2
    have ee := CbS.errL hE2
    exact BigFrame.wp_assign _ rfl ⟨_, rfl, x1.trans ee, Below.refl _ _⟩
  case fin =>
  intro vs1 W1 hE hG
  obtain ⟨bE, aE, cE, mE, nE, ez, em, ec, ev, ee, xE, rhE, rqE, hb⟩ := CbS.locks hE (by simp)
  have g0 : vs1 0 = .agg #[.slice aC 2 cC, .slice mC 1 nC] := hG 0 (by decide) rfl
  have g8 : vs1 8 = .int .i64 ((([k0, k2], [k1], 1)).2.2 : Nat) := hG 8 (by decide) rfl
  simp only [putAll, g0, g8, ec, em, ev, ee, ez]
  clear hE hG g0 g8 ec em ev ee ez
  replace rhA := rhA.below hb
  replace rqA := rqA.below hb
  replace xA := xA.below hb xA.lt
  replace xB := xB.below hb xB.lt
  replace rhB := rhB.below hb
  replace rqB := rqB.below hb
  replace xC := xC.below hb xC.lt
  replace rhC := rhC.below hb
  replace rqC := rqC.below hb
  replace tb := tb.below hb
  replace q := q.trans (hb.mono q.size)
  clear hb
  replace xE : BoxN _ _ _ [.slice aE 2 cE, .slice mE 1 nE] := xE
  replace rhE : RdL Elt.lk (fun _ => True) _ (.slice aE 2 cE) [k0, k2] := rhE.weak fun _ _ => trivial
  replace rqE : RdL Elt.lk (fun _ => True) _ (.slice mE 1 nE) [k1] := rqE.weak fun _ _ => trivial
  obtain ⟨w4, hwe⟩ : ∃ W, W = W1 := ⟨_, rfl⟩
  rw [← hwe] at rhA
  rw [← hwe] at rqA
  rw [← hwe] at xA
  rw [← hwe] at xB
  rw [← hwe] at rhB
  rw [← hwe] at rqB
  rw [← hwe] at xC
  rw [← hwe] at rhC
  rw [← hwe] at rqC
  rw [← hwe] at xE
  rw [← hwe] at rhE
  rw [← hwe] at rqE
  rw [← hwe] at tb
  rw [← hwe] at q
  rw [← hwe]
  clear hwe
  go_simp
  clear xE rhE rqE
  have b0 := xC.cell (i := 0) rfl
  have b1 := xC.cell (i := 1) rfl
  have hcl := lDrop_any _ tb (o := 0) (H := [k0, k2]) (Q := [k1]) ⟨aC, cC, mC, nC, rfl, rhC, rqC⟩ (by unfold smK; decide) (by unfold smK; decide) (by decide) (by decide)
  rw [drop11] at hcl
  go_wp2_with fail
  refine hcl.mono ?_
  rintro e w5 ⟨aD, cD, mD, nD, aL, cL, rfl, ⟨_, _, _, _, er, rhD, rqD⟩, hL, hb⟩
  injection er with er
  injection er with er
  injection er with er1 er
  injection er with er2 _
  rw [← er1] at rhD
  rw [← er2] at rqD
  rw [show riseL ([k2, k1], ([] : List Lk), [(1 : Int)]).2.2 = [1] from rise11] at hL ⊢
  have rL : RdL Elt.int (fun _ => True) _ (.slice aL 1 cL) [1] := hL.rdL.weak fun _ _ => trivial
  clear hcl er1 er2 hL b0 b1
  replace rhA := rhA.below hb
  replace rqA := rqA.below hb
  replace xA := xA.below hb xA.lt
  replace xB := xB.below hb xB.lt
  replace rhB := rhB.below hb
  replace rqB := rqB.below hb
  replace xC := xC.below hb xC.lt
  replace rhC := rhC.below hb
  replace rqC := rqC.below hb
  replace tb := tb.below hb
  replace q := q.trans (hb.mono q.size)
  clear hb
  replace rhD : RdL Elt.lk (fun _ => True) _ (.slice aD 2 cD) [k2, k1] := rhD.weak fun _ _ => trivial
  replace rqD : RdL Elt.lk (fun _ => True) _ (.slice mD 0 nD) [] := rqD.weak fun _ _ => trivial
  go_upto_region 6 with (first | (refine wpList_boxNew (vs := [.slice none 0 0, .slice none 0 0]) (by kernel_rfl) rfl rfl ?_; intro wa hba hBa) | (refine wpList_boxStore (us := [.slice aD 2 cD, .slice mD 0 nD]) (by kernel_rfl) rfl rfl rfl rfl rfl rfl hBa rfl ?_; intro w5b hgw xD) | fail)
  try go_simp
  have hbw := hba.grown hgw hba.size fun k hk => by injection hk with hk; omega
  replace rhA := rhA.below hbw
  replace rqA := rqA.below hbw
  replace xA := xA.below hbw xA.lt
  replace xB := xB.below hbw xB.lt
  replace rhB := rhB.below hbw
  replace rqB := rqB.below hbw
  replace xC := xC.below hbw xC.lt
  replace rhC := rhC.below hbw
  replace rqC := rqC.below hbw
  replace rhD := rhD.below hbw
  replace rqD := rqD.below hbw
  replace rL := rL.below hbw
  replace tb := tb.below hbw
  replace q := q.trans (hbw.mono q.size)
  clear hbw hgw hba hBa
  replace xD : BoxN _ _ _ [.slice aD 2 cD, .slice mD 0 nD] := xD
  refine wp_region_setl (K := fun _ _ => True) (by kernel_rfl) (by kernel_rfl) [1, 2, 3, 4, 5, 6, 7] (by kernel_rfl) [lEq (.agg #[.slice aC 2 cC, .slice mC 1 nC]), lAny, lAny, lAny, lAny, lAny, lAny, lAny, lEq (.int .i64 ((([k0, k2], [k1], 0)).2.2 : Nat))]
    (CbK #[] 5 (LsR ([k0, k2], [k1], 0)) zLs LsB (LkV k4) AnyVk _) (CbK.more (lsStays ([k0, k2], [k1], 0) k4)) (CbS.start _)
    ⟨?o0, ?o1, ?o2, ?o3, ?o4, ?o5, ?o6, ?o7, ?o8, trivial⟩ ?fin
  case o0 =>
    refine StOp.free rfl (by kernel_rfl) (fun A va D w' hF hT hN hE hd hu hg => ?_)
    have e1 : A.eval (.tmp 5) = .pointer (some ⟨bC, 0, none⟩) := hF 5 rfl
    have hBE := CbK.below hE
    exact wp_load2 lsS rfl e1 ((xC.below hBE xC.lt).cell (i := 0) rfl) ((xC.below hBE xC.lt).cell (i := 1) rfl) ⟨_, rfl, rfl, Below.refl _ _⟩
  case o1 =>
    refine StOp.set rfl (by kernel_rfl) (fun A va D w' hF hT hN hE hd hu hg => ?_)
    have hE2 := hE
    simp only [told, List.map_cons, List.map_nil, hN, Bool.false_eq_true, if_false] at hE2
    refine wp_callFn rfl eOne (args := #[.int .i64 0, .string ⟨#[97]⟩, .int .i64 3]) (by simp only [List.map_toArray, List.map_cons, List.map_nil]; rfl) ((one_any w' (o := 0) (m := 3) (b := 97) (by unfold W64; decide) (by unfold W64; decide)).mono ?_)
    rintro e w2 ⟨v, rfl, hv, hb2⟩
    have h5 := CbS.key (lsStays ([k0, k2], [k1], 0) k4) hE2 rfl hb2 (u := v) hv
    exact ⟨_, rfl, _, rfl, by simpa [CbK, told, don, upd] using h5, trivial⟩
  case o2 =>
    refine StOp.set rfl (by kernel_rfl) (fun A va D w' hF hT hN hE hd hu hg => ?_)
    have e1 : A.eval (.tmp 50) = .agg #[.slice aC 2 cC, .slice mC 1 nC] := (hT 50 0 (by simp) rfl).trans (hg ⟨0, .data⟩ (by simp) rfl rfl)
    have x2 : A.eval (.tmp 51) = va 1 := hT 51 1 (by simp) rfl
    have hE2 := hE
    have d1 : D 1 = true := hd ⟨1, .data⟩ (by simp) rfl
    simp only [told, List.map_cons, List.map_nil, hN, d1, Bool.false_eq_true, if_false, if_true] at hE2
    have hBE := hE2.be
    have hcl := lAsk_any w' (tb.below hBE) (H := [k0, k2]) (Q := [k1]) (x := k4) ⟨aC, cC, mC, nC, rfl, rhC.below hBE, rqC.below hBE⟩ (by unfold smK; decide) (by unfold smK; decide) (by decide) (by decide) (hE2.k1 _ rfl) (by decide) (by decide)
    rw [ask11_5] at hcl
    refine wp_callFn rfl eAsk (args := #[.agg #[.slice aC 2 cC, .slice mC 1 nC], va 1]) (by simp only [List.map_toArray, List.map_cons, List.map_nil, e1, x2]) (hcl.mono ?_)
    rintro e w2 ⟨a, c, a2, c2, rfl, hrd, hb2⟩
    have h5 := CbS.call (lsStays ([k0, k2], [k1], 0) k4) hE2 (by simp) hb2 (v := .agg #[.slice a _ c, .slice a2 _ c2]) (e := .int .i64 _) ⟨rfl, hrd⟩
    exact ⟨_, rfl, _, rfl, by simpa [CbK, told, don, upd, d1] using h5, trivial⟩
  case o3 =>
    refine StOp.set rfl (by kernel_rfl) (fun A va D w' hF hT hN hE hd hu hg => ?_)
    have x1 : A.eval (.tmp 52) = va 2 := hT 52 2 (by simp) rfl
    have hE2 := hE
    have d2 : D 2 = true := hd ⟨2, .data⟩ (by simp) rfl
    simp only [told, List.map_cons, List.map_nil, hN, d2, Bool.false_eq_true, if_false, if_true] at hE2
    have h5 := CbS.move hE2
    exact BigFrame.wp_move _ rfl ⟨_, rfl, by rw [x1]; simpa [CbK, told, don, upd, d2] using h5, trivial⟩
  case o4 =>
    refine StOp.set rfl (by kernel_rfl) (fun A va D w' hF hT hN hE hd hu hg => ?_)
    have x1 : A.eval (.tmp 49) = va 3 := hT 49 3 (by simp) rfl
    have hE2 := hE
    have d3 : D 3 = true := hd ⟨3, .data⟩ (by simp) rfl
    simp only [told, List.map_cons, List.map_nil, hN, d3, Bool.false_eq_true, if_false, if_true] at hE2
    obtain ⟨v, e, em⟩ := CbS.tup hE2
    rw [em] at hE2
    have h5 := CbS.ex0 hE2
    exact wp_ex rfl (x1.trans em) rfl ⟨_, rfl, by simpa [CbK, told, don, upd, d3, em] using h5, trivial⟩
  case o5 =>
    refine StOp.set rfl (by kernel_rfl) (fun A va D w' hF hT hN hE hd hu hg => ?_)
    have x1 : A.eval (.tmp 49) = va 3 := hT 49 3 (by simp) rfl
    have hE2 := hE
    have d3 : D 3 = true := hd ⟨3, .data⟩ (by simp) rfl
    simp only [told, List.map_cons, List.map_nil, hN, d3, Bool.false_eq_true, if_false, if_true] at hE2
    obtain ⟨v, e, em⟩ := CbS.tup hE2
    rw [em] at hE2
    have h5 := CbS.ex1 hE2
    exact wp_ex rfl (x1.trans em) rfl ⟨_, rfl, by simpa [CbK, told, don, upd, d3, em] using h5, trivial⟩
  case o6 =>
    refine StOp.set rfl (by kernel_rfl) (fun A va D w' hF hT hN hE hd hu hg => ?_)
    have hE2 := hE
    simp only [told, List.map_cons, List.map_nil, hN, Bool.false_eq_true, if_false] at hE2
    refine wp_boxNew (vs := [.slice none 0 0, .slice none 0 0]) (by kernel_rfl) rfl (fun w2 hb2 hz => ⟨_, rfl, ?_, trivial⟩)
    have h5 := CbS.alloc (lsStays ([k0, k2], [k1], 0) k4) hE2 hb2 hz
    simpa [CbK, told, don, upd] using h5
  case o7 =>
    refine StOp.set rfl (by kernel_rfl) (fun A va D w' hF hT hN hE hd hu hg => ?_)
    have x1 : A.eval (.tmp 11) = va 6 := hT 11 6 (by simp) rfl
    have x2 : A.eval (.tmp 53) = va 4 := hT 53 4 (by simp) rfl
    have hE2 := hE
    have d6 : D 6 = true := hd ⟨6, .data⟩ (by simp) rfl
    have d4 : D 4 = true := hd ⟨4, .data⟩ (by simp) rfl
    simp only [told, List.map_cons, List.map_nil, hN, d6, d4, Bool.false_eq_true, if_false, if_true] at hE2
    obtain ⟨b9, eb, hb0⟩ := CbS.box hE2
    obtain ⟨e, hm⟩ := hE2.mx _ rfl
    obtain ⟨v, e2, ec, _, hrd⟩ := hE2.rr _ (hE2.mv _ hm)
    obtain ⟨A1, B1, A2, B2, ev, _⟩ := id hrd
    injection ec with ec
    injection ec with ec
    injection ec with ec _
    rw [← ec] at ev
    refine wp_boxStore (vs := [.slice none 0 0, .slice none 0 0]) (us := [.slice A1 _ B1, .slice A2 _ B2]) (by kernel_rfl) rfl (x1.trans eb) (x2.trans ev) rfl hb0 rfl (fun w2 hg2 ht2 => ⟨_, rfl, ?_, trivial⟩)
    rw [eb] at hE2
    have h5 := CbS.sto (u := undef) (lsStays ([k0, k2], [k1], 0) k4) hE2 hg2 ⟨_, _, ev, ht2⟩
    simpa [CbK, told, don, upd, d6, d4, eb] using h5
  case o8 =>
    refine StOp.free rfl (by kernel_rfl) (fun A va D w' hF hT hN hE hd hu hg => ?_)
    have x1 : A.eval (.tmp 54) = va 5 := hT 54 5 (by simp) rfl
    have hE2 := hE
    have d5 : D 5 = true := hd ⟨5, .data⟩ (by simp) rfl
    simp only [told, List.map_cons, List.map_nil, d5, if_true] at hE2
    have ee := CbS.errL hE2
    exact BigFrame.wp_assign _ rfl ⟨_, rfl, x1.trans ee, Below.refl _ _⟩
  case fin =>
  intro vs1 W1 hE hG
  obtain ⟨bF, aF, cF, mF, nF, ez, em, ec, ev, ee, xF, rhF, rqF, hb⟩ := CbS.locks hE (by simp)
  have g0 : vs1 0 = .agg #[.slice aC 2 cC, .slice mC 1 nC] := hG 0 (by decide) rfl
  have g8 : vs1 8 = .int .i64 ((([k0, k2], [k1], 0)).2.2 : Nat) := hG 8 (by decide) rfl
  simp only [putAll, g0, g8, ec, em, ev, ee, ez]
  clear hE hG g0 g8 ec em ev ee ez
  replace rhA := rhA.below hb
  replace rqA := rqA.below hb
  replace xA := xA.below hb xA.lt
  replace xB := xB.below hb xB.lt
  replace rhB := rhB.below hb
  replace rqB := rqB.below hb
  replace xC := xC.below hb xC.lt
  replace rhC := rhC.below hb
  replace rqC := rqC.below hb
  replace rhD := rhD.below hb
  replace rqD := rqD.below hb
  replace rL := rL.below hb
  replace xD := xD.below hb xD.lt
  replace tb := tb.below hb
  replace q := q.trans (hb.mono q.size)
  clear hb
  replace xF : BoxN _ _ _ [.slice aF 2 cF, .slice mF 1 nF] := xF
  replace rhF : RdL Elt.lk (fun _ => True) _ (.slice aF 2 cF) [k0, k2] := rhF.weak fun _ _ => trivial
  replace rqF : RdL Elt.lk (fun _ => True) _ (.slice mF 1 nF) [k1] := rqF.weak fun _ _ => trivial
  obtain ⟨w6, hwe⟩ : ∃ W, W = W1 := ⟨_, rfl⟩
  rw [← hwe] at rhA
  rw [← hwe] at rqA
  rw [← hwe] at xA
  rw [← hwe] at xB
  rw [← hwe] at rhB
  rw [← hwe] at rqB
  rw [← hwe] at xC
  rw [← hwe] at rhC
  rw [← hwe] at rqC
  rw [← hwe] at rhD
  rw [← hwe] at rqD
  rw [← hwe] at rL
  rw [← hwe] at xD
  rw [← hwe] at xF
  rw [← hwe] at rhF
  rw [← hwe] at rqF
  rw [← hwe] at tb
  rw [← hwe] at q
  rw [← hwe]
  clear hwe
  go_simp
  clear xF rhF rqF
  go_upto_region 7 with (fail)
  refine wp_region_setl (K := fun _ _ => True) (by kernel_rfl) (by kernel_rfl) [0, 1, 2, 3, 4, 5, 6, 7, 8] (by kernel_rfl) [lAny, lAny, lAny, lAny, lAny, lAny, lAny, lAny, lAny, lEq (.int .i64 (((List.replicate 41 zk, ([] : List Lk), 1)).2.2 : Nat))]
    (E7 (List.replicate 41 zk, ([] : List Lk), 1) (List.replicate 41 zk) k4 w6) E7.more (show E7 (List.replicate 41 zk, ([] : List Lk), 1) (List.replicate 41 zk) k4 w6 [none, none, none, none, none, none, none, none, none] w6 from ⟨CbS.start _, fun _ h => by cases h⟩)
    ⟨?o0, ?o1, ?o2, ?o3, ?o4, ?o5, ?o6, ?o7, ?o8, ?o9, trivial⟩ ?fin
  case o0 =>
    refine StOp.set rfl (by kernel_rfl) (fun A va D w' hF hT hN hE hd hu hg => ?_)
    have hE2 := hE
    simp only [told, List.map_cons, List.map_nil, hN, Bool.false_eq_true, if_false] at hE2
    obtain ⟨hE3, hE4⟩ := hE2
    refine wp_mk41 rfl rfl rfl (fun w2 hb2 hv => ⟨_, rfl, ?_, trivial⟩)
    have h5 := CbS.key (lsStays2 (List.replicate 41 zk, ([] : List Lk), 1) (List.replicate 41 zk) k4) hE3 rfl hb2 (u := .slice _ _ _) ⟨_, _, rfl, hv⟩
    have h6 : E7 (List.replicate 41 zk, ([] : List Lk), 1) (List.replicate 41 zk) k4 _ [_, _, _, _, _, _, _, _, _] _ := ⟨h5, fun u hu => by obtain ⟨g, hg, _⟩ := hE4 u hu; cases hg⟩
    simpa [told, don, upd] using h6
  case o1 =>
    refine StOp.set rfl (by kernel_rfl) (fun A va D w' hF hT hN hE hd hu hg => ?_)
    have x1 : A.eval (.tmp 56) = va 0 := hT 56 0 (by simp) rfl
    have hE2 := hE
    have d0 : D 0 = true := hd ⟨0, .data⟩ (by simp) rfl
    simp only [told, List.map_cons, List.map_nil, hN, d0, Bool.false_eq_true, if_false, if_true] at hE2
    obtain ⟨hE3, hE4⟩ := hE2
    obtain ⟨a, c, ev, _⟩ := hE3.k1 _ rfl
    refine wp_bLocks rfl (x1.trans ev) ⟨_, rfl, ?_, trivial⟩
    have h5 := hE3
    have h6 : E7 (List.replicate 41 zk, ([] : List Lk), 1) (List.replicate 41 zk) k4 _ [_, some (.agg #[.slice a (List.replicate 41 zk).length c, .slice none 0 0]), _, _, _, _, _, _, _] _ := ⟨h5, fun u hu => ⟨_, rfl, (Option.some.inj hu).symm.trans (by rw [ev])⟩⟩
    simpa [told, don, upd, d0] using h6
  case o2 =>
    refine StOp.set rfl (by kernel_rfl) (fun A va D w' hF hT hN hE hd hu hg => ?_)
    have hE2 := hE
    simp only [told, List.map_cons, List.map_nil, hN, Bool.false_eq_true, if_false] at hE2
    obtain ⟨hE3, hE4⟩ := hE2
    refine wp_callFn rfl eOne (args := #[.int .i64 0, .string ⟨#[97]⟩, .int .i64 3]) (by simp only [List.map_toArray, List.map_cons, List.map_nil]; rfl) ((one_any w' (o := 0) (m := 3) (b := 97) (by unfold W64; decide) (by unfold W64; decide)).mono ?_)
    rintro e w2 ⟨v, rfl, hv, hb2⟩
    have h5 := CbS.vers (lsStays2 (List.replicate 41 zk, ([] : List Lk), 1) (List.replicate 41 zk) k4) hE3 hb2 (u := v) hv
    have h6 : E7 (List.replicate 41 zk, ([] : List Lk), 1) (List.replicate 41 zk) k4 _ [_, _, _, _, _, _, _, _, _] _ := ⟨h5, hE4⟩
    exact ⟨_, rfl, _, rfl, by simpa [told, don, upd] using h6, trivial⟩
  case o3 =>
    refine StOp.set rfl (by kernel_rfl) (fun A va D w' hF hT hN hE hd hu hg => ?_)
    have x1 : A.eval (.tmp 57) = va 1 := hT 57 1 (by simp) rfl
    have x2 : A.eval (.tmp 58) = va 2 := hT 58 2 (by simp) rfl
    have hE2 := hE
    have d1 : D 1 = true := hd ⟨1, .data⟩ (by simp) rfl
    have d2 : D 2 = true := hd ⟨2, .data⟩ (by simp) rfl
    simp only [told, List.map_cons, List.map_nil, hN, d1, d2, Bool.false_eq_true, if_false, if_true] at hE2
    obtain ⟨hE3, hE4⟩ := hE2
    have hBE := hE3.be
    obtain ⟨g, hg, ev⟩ := hE4 _ rfl
    obtain ⟨ga, gc, eg, hr⟩ := hE3.k1 g hg
    have hcl := lAsk_any w' (tb.below hBE) (H := List.replicate 41 zk) (Q := []) (x := k4) ⟨ga, gc, none, 0, rfl, hr, RdL.nil _ _ _⟩ sm41 (by unfold smK; decide) (by decide) (by decide) (hE3.k2 _ rfl) (by decide) (by decide)
    rw [ask11_6] at hcl
    refine wp_callFn rfl eAsk (args := #[.agg #[.slice ga (List.replicate 41 zk).length gc, .slice none 0 0], va 2]) (by simp only [List.map_toArray, List.map_cons, List.map_nil, x1, x2, ev, eg]) (hcl.mono ?_)
    rintro e w2 ⟨a, c, a2, c2, rfl, hrd, hb2⟩
    have h5 := CbS.call (lsStays2 (List.replicate 41 zk, ([] : List Lk), 1) (List.replicate 41 zk) k4) hE3 (by simp) hb2 (v := .agg #[.slice a _ c, .slice a2 _ c2]) (e := .int .i64 _) ⟨rfl, hrd⟩
    have h6 : E7 (List.replicate 41 zk, ([] : List Lk), 1) (List.replicate 41 zk) k4 _ [_, _, _, _, _, _, _, _, _] _ := ⟨h5, hE4⟩
    exact ⟨_, rfl, _, rfl, by simpa [told, don, upd, d1, d2] using h6, trivial⟩
  case o4 =>
    refine StOp.set rfl (by kernel_rfl) (fun A va D w' hF hT hN hE hd hu hg => ?_)
    have x1 : A.eval (.tmp 59) = va 3 := hT 59 3 (by simp) rfl
    have hE2 := hE
    have d3 : D 3 = true := hd ⟨3, .data⟩ (by simp) rfl
    simp only [told, List.map_cons, List.map_nil, hN, d3, Bool.false_eq_true, if_false, if_true] at hE2
    obtain ⟨hE3, hE4⟩ := hE2
    have h5 := CbS.move hE3
    have h6 : E7 (List.replicate 41 zk, ([] : List Lk), 1) (List.replicate 41 zk) k4 _ [_, _, _, _, _, _, _, _, _] _ := ⟨h5, hE4⟩
    exact BigFrame.wp_move _ rfl ⟨_, rfl, by rw [x1]; simpa [told, don, upd, d3] using h6, trivial⟩
  case o5 =>
    refine StOp.set rfl (by kernel_rfl) (fun A va D w' hF hT hN hE hd hu hg => ?_)
    have x1 : A.eval (.tmp 55) = va 4 := hT 55 4 (by simp) rfl
    have hE2 := hE
    have d4 : D 4 = true := hd ⟨4, .data⟩ (by simp) rfl
    simp only [told, List.map_cons, List.map_nil, hN, d4, Bool.false_eq_true, if_false, if_true] at hE2
    obtain ⟨hE3, hE4⟩ := hE2
    obtain ⟨v, e, em⟩ := CbS.tup hE3
    rw [em] at hE3
    have h5 := CbS.ex0 hE3
    have h6 : E7 (List.replicate 41 zk, ([] : List Lk), 1) (List.replicate 41 zk) k4 _ [_, _, _, _, _, _, _, _, _] _ := ⟨h5, hE4⟩
    exact wp_ex rfl (x1.trans em) rfl ⟨_, rfl, by simpa [told, don, upd, d4, em] using h6, trivial⟩
  case o6 =>
    refine StOp.set rfl (by kernel_rfl) (fun A va D w' hF hT hN hE hd hu hg => ?_)
    have x1 : A.eval (.tmp 55) = va 4 := hT 55 4 (by simp) rfl
    have hE2 := hE
    have d4 : D 4 = true := hd ⟨4, .data⟩ (by simp) rfl
    simp only [told, List.map_cons, List.map_nil, hN, d4, Bool.false_eq_true, if_false, if_true] at hE2
    obtain ⟨hE3, hE4⟩ := hE2
    obtain ⟨v, e, em⟩ := CbS.tup hE3
    rw [em] at hE3
    have h5 := CbS.ex1 hE3
    have h6 : E7 (List.replicate 41 zk, ([] : List Lk), 1) (List.replicate 41 zk) k4 _ [_, _, _, _, _, _, _, _, _] _ := ⟨h5, hE4⟩
    exact wp_ex rfl (x1.trans em) rfl ⟨_, rfl, by simpa [told, don, upd, d4, em] using h6, trivial⟩
  case o7 =>
    refine StOp.set rfl (by kernel_rfl) (fun A va D w' hF hT hN hE hd hu hg => ?_)
    have hE2 := hE
    simp only [told, List.map_cons, List.map_nil, hN, Bool.false_eq_true, if_false] at hE2
    obtain ⟨hE3, hE4⟩ := hE2
    refine wp_boxNew (vs := [.slice none 0 0, .slice none 0 0]) (by kernel_rfl) rfl (fun w2 hb2 hz => ⟨_, rfl, ?_, trivial⟩)
    have h5 := CbS.alloc (lsStays2 (List.replicate 41 zk, ([] : List Lk), 1) (List.replicate 41 zk) k4) hE3 hb2 hz
    have h6 : E7 (List.replicate 41 zk, ([] : List Lk), 1) (List.replicate 41 zk) k4 _ [_, _, _, _, _, _, _, _, _] _ := ⟨h5, hE4⟩
    simpa [told, don, upd] using h6
  case o8 =>
    refine StOp.set rfl (by kernel_rfl) (fun A va D w' hF hT hN hE hd hu hg => ?_)
    have x1 : A.eval (.tmp 13) = va 7 := hT 13 7 (by simp) rfl
    have x2 : A.eval (.tmp 60) = va 5 := hT 60 5 (by simp) rfl
    have hE2 := hE
    have d7 : D 7 = true := hd ⟨7, .data⟩ (by simp) rfl
    have d5 : D 5 = true := hd ⟨5, .data⟩ (by simp) rfl
    simp only [told, List.map_cons, List.map_nil, hN, d7, d5, Bool.false_eq_true, if_false, if_true] at hE2
    obtain ⟨hE3, hE4⟩ := hE2
    obtain ⟨b9, eb, hb0⟩ := CbS.box hE3
    obtain ⟨e, hm⟩ := hE3.mx _ rfl
    obtain ⟨v, e2, ec, _, hrd⟩ := hE3.rr _ (hE3.mv _ hm)
    obtain ⟨A1, B1, A2, B2, ev, _⟩ := id hrd
    injection ec with ec
    injection ec with ec
    injection ec with ec _
    rw [← ec] at ev
    refine wp_boxStore (vs := [.slice none 0 0, .slice none 0 0]) (us := [.slice A1 _ B1, .slice A2 _ B2]) (by kernel_rfl) rfl (x1.trans eb) (x2.trans ev) rfl hb0 rfl (fun w2 hg2 ht2 => ⟨_, rfl, ?_, trivial⟩)
    rw [eb] at hE3
    have h5 := CbS.sto (u := undef) (lsStays2 (List.replicate 41 zk, ([] : List Lk), 1) (List.replicate 41 zk) k4) hE3 hg2 ⟨_, _, ev, ht2⟩
    have h6 : E7 (List.replicate 41 zk, ([] : List Lk), 1) (List.replicate 41 zk) k4 _ [_, _, _, _, _, _, _, _, _] _ := ⟨h5, hE4⟩
    simpa [told, don, upd, d7, d5, eb] using h6
  case o9 =>
    refine StOp.free rfl (by kernel_rfl) (fun A va D w' hF hT hN hE hd hu hg => ?_)
    have x1 : A.eval (.tmp 61) = va 6 := hT 61 6 (by simp) rfl
    have hE2 := hE
    have d6 : D 6 = true := hd ⟨6, .data⟩ (by simp) rfl
    simp only [told, List.map_cons, List.map_nil, d6, if_true] at hE2
    have ee := CbS.errL hE2.1
    exact BigFrame.wp_assign _ rfl ⟨_, rfl, x1.trans ee, Below.refl _ _⟩
  case fin =>
  intro vs1 W1 hE hG
  obtain ⟨bJ, aJ, cJ, mJ, nJ, ez, em, ec, ev, ee, _, _, _, hb⟩ := CbS.locks hE.1 (by simp)
  have g9 : vs1 9 = .int .i64 (((List.replicate 41 zk, ([] : List Lk), 1)).2.2 : Nat) := hG 9 (by decide) rfl
  simp only [putAll, g9, ec, em, ev, ee, ez]
  clear hE hG g9 ec em ev ee ez
  replace rhA := rhA.below hb
  replace rqA := rqA.below hb
  replace xA := xA.below hb xA.lt
  replace xB := xB.below hb xB.lt
  replace rhB := rhB.below hb
  replace rqB := rqB.below hb
  replace xC := xC.below hb xC.lt
  replace rhC := rhC.below hb
  replace rqC := rqC.below hb
  replace rhD := rhD.below hb
  replace rqD := rqD.below hb
  replace rL := rL.below hb
  replace xD := xD.below hb xD.lt
  replace tb := tb.below hb
  replace q := q.trans (hb.mono q.size)
  clear hb
  obtain ⟨w7, hwe⟩ : ∃ W, W = W1 := ⟨_, rfl⟩
  rw [← hwe] at rhA
  rw [← hwe] at rqA
  rw [← hwe] at xA
  rw [← hwe] at xB
  rw [← hwe] at rhB
  rw [← hwe] at rqB
  rw [← hwe] at xC
  rw [← hwe] at rhC
  rw [← hwe] at rqC
  rw [← hwe] at rhD
  rw [← hwe] at rqD
  rw [← hwe] at rL
  rw [← hwe] at xD
  rw [← hwe] at tb
  rw [← hwe] at q
  rw [← hwe]
  clear hwe
  go_simp
  have hcl := lAsk_any _ tb (H := []) (Q := []) (x := u0) (S2 := fun _ => True) (S := fun _ => True) ⟨none, 0, none, 0, rfl, RdL.nil _ _ _, RdL.nil _ _ _⟩ (by unfold smK; decide) (by unfold smK; decide) (by decide) (by decide) ⟨none, 0, none, 0, rfl, RdS.nil _ _, RdS.nil _ _, by unfold Lk64 W64; decide⟩ (by decide) (by decide)
  rw [ask11_7] at hcl
  go_wp2_with fail
  refine hcl.mono ?_
  rintro e w8 ⟨aU, cU, mU, nU, rfl, ⟨_, _, _, _, er, rhU, rqU⟩, hb⟩
  injection er with er
  injection er with er
  injection er with er1 er
  injection er with er2 _
  rw [← er1] at rhU
  rw [← er2] at rqU
  clear hcl er1 er2
  replace rhA := rhA.below hb
  replace rqA := rqA.below hb
  replace xA := xA.below hb xA.lt
  replace xB := xB.below hb xB.lt
  replace rhB := rhB.below hb
  replace rqB := rqB.below hb
  replace xC := xC.below hb xC.lt
  replace rhC := rhC.below hb
  replace rqC := rqC.below hb
  replace rhD := rhD.below hb
  replace rqD := rqD.below hb
  replace rL := rL.below hb
  replace xD := xD.below hb xD.lt
  replace tb := tb.below hb
  replace q := q.trans (hb.mono q.size)
  clear hb
  replace rhU : RdL Elt.lk (fun _ => True) _ (.slice aU 1 cU) [u0] := rhU.weak fun _ _ => trivial
  replace rqU : RdL Elt.lk (fun _ => True) _ (.slice mU 0 nU) [] := rqU.weak fun _ _ => trivial
  go_upto_region 9 with (first | (refine wpList_boxNew (vs := [.slice none 0 0, .slice none 0 0]) (by kernel_rfl) rfl rfl ?_; intro wa hba hBa) | (refine wpList_boxStore (us := [.slice aU 1 cU, .slice mU 0 nU]) (by kernel_rfl) rfl rfl rfl rfl rfl rfl hBa rfl ?_; intro w8b hgw xU) | fail)
  try go_simp
  have hbw := hba.grown hgw hba.size fun k hk => by injection hk with hk; omega
  replace rhA := rhA.below hbw
  replace rqA := rqA.below hbw
  replace xA := xA.below hbw xA.lt
  replace xB := xB.below hbw xB.lt
  replace rhB := rhB.below hbw
  replace rqB := rqB.below hbw
  replace xC := xC.below hbw xC.lt
  replace rhC := rhC.below hbw
  replace rqC := rqC.below hbw
  replace rhD := rhD.below hbw
  replace rqD := rqD.below hbw
  replace rL := rL.below hbw
  replace xD := xD.below hbw xD.lt
  replace rhU := rhU.below hbw
  replace rqU := rqU.below hbw
  replace tb := tb.below hbw
  replace q := q.trans (hbw.mono q.size)
  clear hbw hgw hba hBa
  replace xU : BoxN _ _ _ [.slice aU 1 cU, .slice mU 0 nU] := xU
  have b0 := xU.cell (i := 0) rfl
  have b1 := xU.cell (i := 1) rfl
  have hcl := lAsk_any _ tb (H := [u0]) (Q := []) (x := u1) (S2 := fun _ => True) ⟨aU, cU, mU, nU, rfl, rhU, rqU⟩ (by unfold smK; decide) (by unfold smK; decide) (by decide) (by decide) ⟨none, 0, none, 0, rfl, RdS.nil _ _, RdS.nil _ _, by unfold Lk64 W64; decide⟩ (by decide) (by decide)
  rw [ask11_8] at hcl
  go_wp2_with fail
  refine hcl.mono ?_
  rintro e w9 ⟨aV, cV, mV, nV, rfl, ⟨_, _, _, _, er, rhV, rqV⟩, hb⟩
  injection er with er
  injection er with er
  injection er with er1 er
  injection er with er2 _
  rw [← er1] at rhV
  rw [← er2] at rqV
  clear hcl er1 er2
  replace rhA := rhA.below hb
  replace rqA := rqA.below hb
  replace xA := xA.below hb xA.lt
  replace xB := xB.below hb xB.lt
  replace rhB := rhB.below hb
  replace rqB := rqB.below hb
  replace xC := xC.below hb xC.lt
  replace rhC := rhC.below hb
  replace rqC := rqC.below hb
  replace rhD := rhD.below hb
  replace rqD := rqD.below hb
  replace rL := rL.below hb
  replace xD := xD.below hb xD.lt
  replace rhU := rhU.below hb
  replace rqU := rqU.below hb
  replace xU := xU.below hb xU.lt
  replace tb := tb.below hb
  replace q := q.trans (hb.mono q.size)
  clear hb
  replace rhV : RdL Elt.lk (fun _ => True) _ (.slice aV 1 cV) [v0] := rhV.weak fun _ _ => trivial
  replace rqV : RdL Elt.lk (fun _ => True) _ (.slice mV 0 nV) [] := rqV.weak fun _ _ => trivial
  go_upto_region 10 with (first | (refine wpList_boxNew (vs := [.slice none 0 0, .slice none 0 0]) (by kernel_rfl) rfl rfl ?_; intro wa hba hBa) | (refine wpList_boxStore (us := [.slice aV 1 cV, .slice mV 0 nV]) (by kernel_rfl) rfl rfl rfl rfl rfl rfl hBa rfl ?_; intro w9b hgw xV) | fail)
  try go_simp
  have hbw := hba.grown hgw hba.size fun k hk => by injection hk with hk; omega
  replace rhA := rhA.below hbw
  replace rqA := rqA.below hbw
  replace xA := xA.below hbw xA.lt
  replace xB := xB.below hbw xB.lt
  replace rhB := rhB.below hbw
  replace rqB := rqB.below hbw
  replace xC := xC.below hbw xC.lt
  replace rhC := rhC.below hbw
  replace rqC := rqC.below hbw
  replace rhD := rhD.below hbw
  replace rqD := rqD.below hbw
  replace rL := rL.below hbw
  replace xD := xD.below hbw xD.lt
  replace rhU := rhU.below hbw
  replace rqU := rqU.below hbw
  replace xU := xU.below hbw xU.lt
  replace rhV := rhV.below hbw
  replace rqV := rqV.below hbw
  replace tb := tb.below hbw
  replace q := q.trans (hbw.mono q.size)
  clear hbw hgw hba hBa
  replace xV : BoxN _ _ _ [.slice aV 1 cV, .slice mV 0 nV] := xV
  clear b0 b1
  have v0 := xV.cell (i := 0) rfl
  have v1 := xV.cell (i := 1) rfl
  have b0 := xB.cell (i := 0) rfl
  have b1 := xB.cell (i := 1) rfl
  go_upto_region 12 with (fail)
  go_wp2_with fail
  have hcl := lWaits_any _ tb (o := 1) (H := [k0]) (Q := [k1]) ⟨aB, cB, mB, nB, rfl, rhB, rqB⟩ (by decide) (by decide)
  rw [show (decide (okLk [k0] [k1]) && waitsL [k1] 1) = true from by decide] at hcl
  refine hcl.mono ?_
  rintro e w10 ⟨rfl, hb⟩
  clear hcl v0 v1 b0 b1
  replace rhA := rhA.below hb
  replace rqA := rqA.below hb
  replace xA := xA.below hb xA.lt
  replace xB := xB.below hb xB.lt
  replace rhB := rhB.below hb
  replace rqB := rqB.below hb
  replace xC := xC.below hb xC.lt
  replace rhC := rhC.below hb
  replace rqC := rqC.below hb
  replace rhD := rhD.below hb
  replace rqD := rqD.below hb
  replace rL := rL.below hb
  replace xD := xD.below hb xD.lt
  replace rhU := rhU.below hb
  replace rqU := rqU.below hb
  replace xU := xU.below hb xU.lt
  replace rhV := rhV.below hb
  replace rqV := rqV.below hb
  replace xV := xV.below hb xV.lt
  replace tb := tb.below hb
  replace q := q.trans (hb.mono q.size)
  clear hb
  have b0 := xB.cell (i := 0) rfl
  have b1 := xB.cell (i := 1) rfl
  go_wp2_with fail
  have hcl := lBlockers_any _ tb (o := 1) (H := [k0]) (Q := [k1]) ⟨aB, cB, mB, nB, rfl, rhB, rqB⟩ (by decide) (by decide)
  refine hcl.mono ?_
  rintro e w11 ⟨l9, aM, cM, rfl, hM, hb, hc9⟩
  obtain rfl : l9 = [0] := blk11 hc9
  have rM : RdL Elt.int (fun _ => True) _ (.slice aM 1 cM) [0] := hM.rdL.weak fun _ _ => trivial
  clear hcl hM hc9 b0 b1
  replace rhA := rhA.below hb
  replace rqA := rqA.below hb
  replace xA := xA.below hb xA.lt
  replace xB := xB.below hb xB.lt
  replace rhB := rhB.below hb
  replace rqB := rqB.below hb
  replace xC := xC.below hb xC.lt
  replace rhC := rhC.below hb
  replace rqC := rqC.below hb
  replace rhD := rhD.below hb
  replace rqD := rqD.below hb
  replace rL := rL.below hb
  replace xD := xD.below hb xD.lt
  replace rhU := rhU.below hb
  replace rqU := rqU.below hb
  replace xU := xU.below hb xU.lt
  replace rhV := rhV.below hb
  replace rqV := rqV.below hb
  replace xV := xV.below hb xV.lt
  replace tb := tb.below hb
  replace q := q.trans (hb.mono q.size)
  clear hb
  go_wp2_with (first | (refine wpList_buildOne inP rfl rfl rfl (us := [.int .i64 0]) rfl rfl (by decide) (by decide) ?_; intro w12 hb12 hrow) | fail)
  replace rhA := rhA.below hb12
  replace rqA := rqA.below hb12
  replace xA := xA.below hb12 xA.lt
  replace xB := xB.below hb12 xB.lt
  replace rhB := rhB.below hb12
  replace rqB := rqB.below hb12
  replace xC := xC.below hb12 xC.lt
  replace rhC := rhC.below hb12
  replace rqC := rqC.below hb12
  replace rhD := rhD.below hb12
  replace rqD := rqD.below hb12
  replace rL := rL.below hb12
  replace xD := xD.below hb12 xD.lt
  replace rhU := rhU.below hb12
  replace rqU := rqU.below hb12
  replace xU := xU.below hb12 xU.lt
  replace rhV := rhV.below hb12
  replace rqV := rqV.below hb12
  replace xV := xV.below hb12 xV.lt
  replace rM := rM.below hb12
  replace tb := tb.below hb12
  replace q := q.trans (hb12.mono q.size)
  have hl1 : RdL Elt.int (fun _ => True) w12 (.slice (some ⟨w11.heap.size, 0, none⟩) 1 1) [0] := made11 ⟨rfl, by unfold W64; decide⟩ hrow trivial
  clear hrow hb12
  have hcl := numbers_any _ rM hl1
  rw [decide_eq_true rfl] at hcl
  refine hcl.mono ?_
  rintro e w13 ⟨rfl, hb⟩
  clear hcl hl1
  replace rhA := rhA.below hb
  replace rqA := rqA.below hb
  replace xA := xA.below hb xA.lt
  replace xB := xB.below hb xB.lt
  replace rhB := rhB.below hb
  replace rqB := rqB.below hb
  replace xC := xC.below hb xC.lt
  replace rhC := rhC.below hb
  replace rqC := rqC.below hb
  replace rhD := rhD.below hb
  replace rqD := rqD.below hb
  replace rL := rL.below hb
  replace xD := xD.below hb xD.lt
  replace rhU := rhU.below hb
  replace rqU := rqU.below hb
  replace xU := xU.below hb xU.lt
  replace rhV := rhV.below hb
  replace rqV := rqV.below hb
  replace xV := xV.below hb xV.lt
  replace rM := rM.below hb
  replace tb := tb.below hb
  replace q := q.trans (hb.mono q.size)
  clear hb
  have d0 := xD.cell (i := 0) rfl
  have d1 := xD.cell (i := 1) rfl
  go_wp2_with (first | (refine wpList_buildOne inP rfl rfl rfl (us := [.int .i64 1]) rfl rfl (by decide) (by decide) ?_; intro w14 hb14 hrow) | fail)
  replace rhA := rhA.below hb14
  replace rqA := rqA.below hb14
  replace xA := xA.below hb14 xA.lt
  replace xB := xB.below hb14 xB.lt
  replace rhB := rhB.below hb14
  replace rqB := rqB.below hb14
  replace xC := xC.below hb14 xC.lt
  replace rhC := rhC.below hb14
  replace rqC := rqC.below hb14
  replace rhD := rhD.below hb14
  replace rqD := rqD.below hb14
  replace rL := rL.below hb14
  replace xD := xD.below hb14 xD.lt
  replace rhU := rhU.below hb14
  replace rqU := rqU.below hb14
  replace xU := xU.below hb14 xU.lt
  replace rhV := rhV.below hb14
  replace rqV := rqV.below hb14
  replace xV := xV.below hb14 xV.lt
  replace rM := rM.below hb14
  replace tb := tb.below hb14
  replace q := q.trans (hb14.mono q.size)
  have hl1 : RdL Elt.int (fun _ => True) w14 (.slice (some ⟨w13.heap.size, 0, none⟩) 1 1) [1] := made11 ⟨rfl, by unfold W64; decide⟩ hrow trivial
  clear hrow hb14 d0 d1
  have hcl := numbers_any _ rL hl1
  rw [decide_eq_true rfl] at hcl
  refine hcl.mono ?_
  rintro e w15 ⟨rfl, hb⟩
  clear hcl hl1
  replace rhA := rhA.below hb
  replace rqA := rqA.below hb
  replace xA := xA.below hb xA.lt
  replace xB := xB.below hb xB.lt
  replace rhB := rhB.below hb
  replace rqB := rqB.below hb
  replace xC := xC.below hb xC.lt
  replace rhC := rhC.below hb
  replace rqC := rqC.below hb
  replace rhD := rhD.below hb
  replace rqD := rqD.below hb
  replace rL := rL.below hb
  replace xD := xD.below hb xD.lt
  replace rhU := rhU.below hb
  replace rqU := rqU.below hb
  replace xU := xU.below hb xU.lt
  replace rhV := rhV.below hb
  replace rqV := rqV.below hb
  replace xV := xV.below hb xV.lt
  replace rM := rM.below hb
  replace tb := tb.below hb
  replace q := q.trans (hb.mono q.size)
  clear hb
  have d0 := xD.cell (i := 0) rfl
  have d1 := xD.cell (i := 1) rfl
  go_upto_region 13 with (fail)
  have v0 := xV.cell (i := 0) rfl
  have v1 := xV.cell (i := 1) rfl
  have c0 := xC.cell (i := 0) rfl
  have c1 := xC.cell (i := 1) rfl
  obtain ⟨bv, ov, VA, VC, VA2, VC2, rfl, _, _, _, _, _, _, _, l6, _⟩ := rhV.lk 0 (by decide)
  replace l6 : _ = some (Value.int .i64 4) := l6
  go_wp2_with fail
  have hcl := lCheck_any _ tb (H := [k0, k2]) (Q := [k1]) ⟨aC, cC, mC, nC, rfl, rhC, rqC⟩ (by decide) (by decide)
  rw [decide_eq_true (show okLk [k0, k2] [k1] from by decide)] at hcl
  refine hcl.mono ?_
  rintro e w16 ⟨rfl, hb⟩
  clear hcl v0 v1 c0 c1 l6
  replace rhA := rhA.below hb
  replace rqA := rqA.below hb
  replace xA := xA.below hb xA.lt
  replace xB := xB.below hb xB.lt
  replace rhB := rhB.below hb
  replace rqB := rqB.below hb
  replace xC := xC.below hb xC.lt
  replace rhC := rhC.below hb
  replace rqC := rqC.below hb
  replace rhD := rhD.below hb
  replace rqD := rqD.below hb
  replace rL := rL.below hb
  replace xD := xD.below hb xD.lt
  replace rhU := rhU.below hb
  replace rqU := rqU.below hb
  replace xU := xU.below hb xU.lt
  replace rhV := rhV.below hb
  replace rqV := rqV.below hb
  replace xV := xV.below hb xV.lt
  replace rM := rM.below hb
  replace tb := tb.below hb
  replace q := q.trans (hb.mono q.size)
  clear hb
  have c0 := xC.cell (i := 0) rfl
  have c1 := xC.cell (i := 1) rfl
  go_wp2_with fail
  have hcl := lCheck_any _ tb (H := []) (Q := [k1]) (S := fun _ => True) ⟨none, 0, mC, nC, rfl, RdL.nil _ _ _, rqC⟩ (by decide) (by decide)
  rw [decide_eq_false (show ¬ okLk [] [k1] from by decide)] at hcl
  refine hcl.mono ?_
  rintro e w17 ⟨rfl, hb⟩
  clear hcl c0 c1
  replace rhA := rhA.below hb
  replace rqA := rqA.below hb
  replace xA := xA.below hb xA.lt
  replace xB := xB.below hb xB.lt
  replace rhB := rhB.below hb
  replace rqB := rqB.below hb
  replace xC := xC.below hb xC.lt
  replace rhC := rhC.below hb
  replace rqC := rqC.below hb
  replace rhD := rhD.below hb
  replace rqD := rqD.below hb
  replace rL := rL.below hb
  replace xD := xD.below hb xD.lt
  replace rhU := rhU.below hb
  replace rqU := rqU.below hb
  replace xU := xU.below hb xU.lt
  replace rhV := rhV.below hb
  replace rqV := rqV.below hb
  replace xV := xV.below hb xV.lt
  replace rM := rM.below hb
  replace tb := tb.below hb
  replace q := q.trans (hb.mono q.size)
  clear hb
  go_wp2_with fail
  go_ret
  exact ⟨rfl, q⟩
end Go.Proofs.YtccoklhmbikfmaaDoor
namespace Go.Proofs.YtccoklhmbikfmaaDoor
def RdLs2 (S : Nat → Prop) (w : World) (v : Value) (d : List Lk × List Lk) : Prop := RdLs S w v d.1 d.2
def anyC (l : List Lk) (x : Lk) : Bool := l.any fun y => clashL y x
theorem anyC_snoc {l : List Lk} {x : Lk} {i : Nat} (h : i < l.length) : anyC (l.take (i + 1)) x = (anyC (l.take i) x || clashL l[i] x) := by
  unfold anyC
  rw [List.take_succ_eq_append_getElem h, List.any_append]
  simp
theorem blk_any {H Q : List Lk} {x : Lk} : (anyC H x || anyC Q x) = blk x H Q := by
  unfold anyC blk
  congr 1 <;> exact congrArg (List.any _) (funext fun y => clash_comm y x)
theorem ask_small {H Q : List Lk} {x : Lk} {r : List Lk × List Lk × Nat} (ok : okLk H Q) (e : r = askL H Q x) : r.1.length ≤ 9223372036854775807 ∧ r.2.2 ≤ 200 := by
  subst e
  have := ok.1
  have h2 := heldA_len (joined x H) H
  unfold askL
  split
  · split
    · exact ⟨by dsimp only; omega, by simp⟩
    · split
      · exact ⟨by dsimp only; omega, by simp⟩
      · split
        · exact ⟨by dsimp only; omega, by simp⟩
        · exact ⟨by dsimp only; omega, by simp⟩
  · exact ⟨by dsimp only; omega, by simp⟩
end Go.Proofs.YtccoklhmbikfmaaDoor
namespace Go.Proofs.YtccoklhmbikfmaaDoor
open Go.RowKit Go.Shelf
set_option maxRecDepth 100000 in
set_option maxHeartbeats 32000000 in
theorem LockAlone_w (w : World) (hT : TabAt w) {cs0 cs1 : Array Value} {d : List Lk × List Lk} {x : Lk} (h0 : RdLs2 (· < w.heap.size) w (.agg cs0) d) (h1 : RdLk (· < w.heap.size) w (.agg cs1) x) :
    Calls Tryd.prog 5 #[.agg cs0, .agg cs1] w fun e w' => e = .returned (.bool true) ∧ Below w.heap.size w w' := by
  obtain ⟨H, Q⟩ := d
  replace h0 : RdLs (· < w.heap.size) w (.agg cs0) H Q := h0
  have hd := h0
  obtain ⟨aH, cH, aQ, cQ, e, hH, hQ⟩ := h0
  injection e with e
  subst e
  have hx := h1
  obtain ⟨x1, x2, x3, x4, e, hl1, hl2, _⟩ := h1
  injection e with e
  subst e
  clear hl1 hl2
  obtain ⟨W0, hW, q, Bl, Bx, hsz⟩ := boxes2 w 24 29 [.slice aH H.length cH, .slice aQ Q.length cQ] [.int .i64 x.owner, .bool x.whole, .int .i64 x.span.table, .slice x1 x.span.lo.length x2, .slice x3 x.span.hi.length x4, .bool x.span.isOpen, .int .i64 x.mode]
  clear hsz
  have eC : ∀ args w, (callFunc 14 args).run Tryd.prog w = .ok (.enter 14 args) w := enters_of Tryd.func14 (by kernel_rfl) rfl
  go_enter Tryd.func5, Tryd.ntmps5
  go_upto_region 1 with (fail)
  rw [show (w.alloc (.cells #[.slice aH H.length cH, .slice aQ Q.length cQ] 24)).alloc (.cells #[.int .i64 x.owner, .bool x.whole, .int .i64 x.span.table, .slice x1 x.span.lo.length x2, .slice x3 x.span.hi.length x4, .bool x.span.isOpen, .int .i64 x.mode] 29) = W0 from hW.symm]
  clear hW
  go_wp2_with fail
  refine (awake11_any W0 (hT.below q)).mono ?_
  rintro e w1 ⟨rfl, hb⟩
  replace Bl := Bl.below hb Bl.lt
  replace Bx := Bx.below hb Bx.lt
  replace q := q.trans (hb.mono q.size)
  clear hb
  have b0 := Bl.cell (i := 0) rfl
  have b1 := Bl.cell (i := 1) rfl
  have hcl := fewK_any _ (RdLs.below hd q)
  go_wp2_with fail
  refine hcl.mono ?_
  rintro e wq1 ⟨rfl, hb⟩
  clear hcl b0 b1
  replace Bl := Bl.below hb Bl.lt
  replace Bx := Bx.below hb Bx.lt
  replace q := q.trans (hb.mono q.size)
  clear hb
  by_cases hf : fewK H Q
  case neg =>
    rw [decide_eq_false hf]
    go_wp2_with fail
    go_ret
    exact ⟨rfl, q⟩
  rw [decide_eq_true hf]
  have c0 := Bx.cell (i := 0) rfl
  have c1 := Bx.cell (i := 1) rfl
  have c2 := Bx.cell (i := 2) rfl
  have c3 := Bx.cell (i := 3) rfl
  have c4 := Bx.cell (i := 4) rfl
  have c5 := Bx.cell (i := 5) rfl
  have c6 := Bx.cell (i := 6) rfl
  have hcl := shortL_any _ (hx.below q)
  go_wp2_with fail
  refine hcl.mono ?_
  rintro e wq2 ⟨rfl, hb⟩
  clear hcl c0 c1 c2 c3 c4 c5 c6
  replace Bl := Bl.below hb Bl.lt
  replace Bx := Bx.below hb Bx.lt
  replace q := q.trans (hb.mono q.size)
  clear hb
  by_cases sx : shortS x.span
  case neg =>
    rw [decide_eq_false sx]
    go_wp2_with fail
    go_ret
    exact ⟨rfl, q⟩
  rw [decide_eq_true sx]
  have hsH : smK H := ⟨by have := hf.1.1; omega, fun y hy => by have := hf.1.2 y hy; exact ⟨by omega, by omega⟩⟩
  have hsQ : smK Q := ⟨by have := hf.2.1; omega, fun y hy => by have := hf.2.2 y hy; exact ⟨by omega, by omega⟩⟩
  have hnH : H.length ≤ 60 := hf.1.1
  have hnQ : Q.length ≤ 60 := hf.2.1
  have hsx1 : x.span.lo.length ≤ 1000000 := by have := sx.1; omega
  have hsx2 : x.span.hi.length ≤ 1000000 := by have := sx.2; omega
  clear hf sx
  have b0 := Bl.cell (i := 0) rfl
  have b1 := Bl.cell (i := 1) rfl
  have hcl := lCheck_any _ (hT.below q) (RdLs.below hd q) (by omega) (by omega)
  go_wp2_with fail
  refine hcl.mono ?_
  rintro e wq3 ⟨rfl, hb⟩
  clear hcl b0 b1
  replace Bl := Bl.below hb Bl.lt
  replace Bx := Bx.below hb Bx.lt
  replace q := q.trans (hb.mono q.size)
  clear hb
  by_cases ok : okLk H Q
  case neg =>
    rw [decide_eq_false ok]
    go_wp2_with fail
    go_ret
    exact ⟨rfl, q⟩
  rw [decide_eq_true ok]
  go_upto_region 6 with (fail)
  go_loopw [6, 7] (fun cv iv wr => ∃ (i : Nat), iv = .int .i64 (i : Int) ∧ i ≤ H.length ∧ cv = .bool (anyC (H.take i) x) ∧ BoxN wr w.heap.size 24 [.slice aH H.length cH, .slice aQ Q.length cQ] ∧ BoxN wr (w.heap.size + 1) 29 [.int .i64 x.owner, .bool x.whole, .int .i64 x.span.table, .slice x1 x.span.lo.length x2, .slice x3 x.span.hi.length x4, .bool x.span.isOpen, .int .i64 x.mode] ∧ Below w.heap.size w wr) (fun _ iv _ => H.length - (intOf iv).toNat)
  case atStart => exact ⟨0, rfl, Nat.zero_le _, rfl, Bl, Bx, q⟩
  case round =>
  clear Bl Bx q
  obtain ⟨i, rfl, hil, rfl, Bl, Bx, q⟩ := hrel
  have tb := hT.below q
  have hX := hx.below q
  rcases Nat.lt_or_ge i H.length with hlt | hge
  · obtain ⟨b, off, vs, eL, _, ⟨kk, uu, rfl, hk, hu, hi⟩, hcell⟩ := (hH.below q).at i hlt
    obtain ⟨KA, KC, rfl, _, _⟩ := hk.shape
    obtain ⟨VA, VC, rfl, _, _⟩ := hu.shape
    subst eL
    have hat := Lib.hid (anyC_snoc (x := x) hlt)
    obtain ⟨y, ey⟩ : ∃ y, y = H[i] := ⟨_, rfl⟩
    rw [← ey] at hcell hk hu hi hat
    clear ey
    replace hcell : ∀ (j : Nat) (u : Value), ([.int .i64 y.owner, .bool y.whole, .int .i64 y.span.table, .slice KA y.span.lo.length KC, .slice VA y.span.hi.length VC, .bool y.span.isOpen, .int .i64 y.mode] : List Value)[j]? = some u → wr.cell? ⟨b, off + i * 7 + j, none⟩ = some u := hcell
    have hy : RdLk _ wr (.agg #[.int .i64 y.owner, .bool y.whole, .int .i64 y.span.table, .slice KA y.span.lo.length KC, .slice VA y.span.hi.length VC, .bool y.span.isOpen, .int .i64 y.mode]) y := ⟨KA, KC, VA, VC, rfl, hk, hu, hi⟩
    clear hk hu hi
    have d0 : decide ((i : Int) < (H.length : Int)) = true := decide_eq_true (by omega)
    obtain ⟨bk, ebk⟩ : ∃ bk, bk = (anyC (H.take i) x) := ⟨_, rfl⟩
    rw [← ebk]
    have hat2 := Lib.hid (show (anyC (H.take (i + 1)) x) = (bk || clashL y x) by rw [hat.out, ebk])
    clear ebk hat
    have b0 := Bl.cell (i := 0) rfl
    cases bk with
    | true =>
      go_upto_region 8 with (fail)
      clear d0 b0
      refine wp_region_sink2 (by kernel_rfl) (by kernel_rfl) (fun A B => Below A.heap.size A B) 9 (fun i => decide (i < 9)) (by kernel_rfl) (fun i => decide (i = 10)) (by kernel_rfl) (fun _ => false) (fun A => Below wr.heap.size wr A) (fun A h => h) (fun A => Below.refl _ _) (fun A B h k => h.trans (k.mono h.size)) (fun A B h k => h.trans (k.mono h.size))
        [mEq (.bool true), mEq (.bool true), mEq (undef), mEq (undef), mEq (undef), mEq (undef), mEq (undef), mEq (undef), mEq (undef)]
        (sgEq (.bool true)) (fun _ => sgEq (.bool true))
        ⟨?o0, ?o1, ?o2, ?o3, ?o4, ?o5, ?o6, ?o7, ?o8, ?o9, ?o10, trivial⟩ ?fin
      case o0 =>
        refine GdOpM.plain rfl (fun A vs w' hF hT hR h0 hu hd => ?_)
        have e1 : A.eval (.tmp 6) = .bool true := (hT 6 10 (by simp) rfl).trans (hu (.inl rfl) 10 6 rfl rfl)
        exact BigFrame.wp_move _ rfl ⟨_, rfl, e1, Below.refl _ _⟩
      case o1 =>
        refine GdOpM.plain rfl (fun A vs w' hF hT hR h0 hu hd => ?_)
        have e1 : A.eval (.tmp 34) = .bool true := (hT 34 0 (by simp) rfl).trans (hd ⟨0, .data⟩ (by simp) rfl)
        exact BigFrame.wp_move _ rfl ⟨_, rfl, e1, Below.refl _ _⟩
      case o2 =>
        exact GdOpM.left rfl ⟨_, _, rfl, rfl, by simp⟩ (by kernel_rfl) (fun vs w v h => .inl h) (fun vs w => rfl)
      case o3 =>
        exact GdOpM.left rfl ⟨_, _, rfl, rfl, by simp⟩ (by kernel_rfl) (fun vs w v h => .inl h) (fun vs w => rfl)
      case o4 =>
        exact GdOpM.left rfl ⟨_, _, rfl, rfl, by simp⟩ (by kernel_rfl) (fun vs w v h => .inl h) (fun vs w => rfl)
      case o5 =>
        exact GdOpM.left rfl ⟨_, _, rfl, rfl, by simp⟩ (by kernel_rfl) (fun vs w v h => .inl h) (fun vs w => rfl)
      case o6 =>
        exact GdOpM.left rfl ⟨_, _, rfl, rfl, by simp⟩ (by kernel_rfl) (fun vs w v h => .inl h) (fun vs w => rfl)
      case o7 =>
        exact GdOpM.left rfl ⟨_, _, rfl, rfl, by simp⟩ (by kernel_rfl) (fun vs w v h => .inl h) (fun vs w => rfl)
      case o8 =>
        exact GdOpM.left rfl ⟨_, _, rfl, rfl, by simp⟩ (by kernel_rfl) (fun vs w v h => .inl h) (fun vs w => rfl)
      case o9 =>
        refine GdOpM.plain rfl (fun A vs w' hF hT hR h0 hu hd => ?_)
        have e1 : A.eval (.tmp 35) = .bool true := (hT 35 1 (by simp) rfl).trans (hd ⟨1, .data⟩ (by simp) rfl)
        have e3 : A.eval (.tmp 42) = undef := (hT 42 8 (by simp) rfl).trans (hd ⟨8, .data⟩ (by simp) rfl)
        exact wp_pk rfl e1 (fun _ => rfl) (by simp) ⟨_, rfl, rfl, Below.refl _ _⟩
      case o10 =>
        refine GdOpM.plain rfl (fun A vs w' hF hT hR h0 hu hd => ?_)
        have e1 : A.eval (.tmp 43) = .bool true := (hT 43 9 (by simp) rfl).trans (hd ⟨9, .data⟩ (by simp) rfl)
        exact BigFrame.wp_assign _ rfl ⟨_, rfl, e1, Below.refl _ _⟩
      case fin =>
      intro vs9 W9 hb9 hG9
      have e0 : vs9 0 = .bool true := hG9 0 (by decide) rfl
      have e1 : vs9 1 = .bool true := hG9 1 (by decide) rfl
      have e2 : vs9 2 = undef := hG9 2 (by decide) rfl
      have e3 : vs9 3 = undef := hG9 3 (by decide) rfl
      have e4 : vs9 4 = undef := hG9 4 (by decide) rfl
      have e5 : vs9 5 = undef := hG9 5 (by decide) rfl
      have e6 : vs9 6 = undef := hG9 6 (by decide) rfl
      have e7 : vs9 7 = undef := hG9 7 (by decide) rfl
      have e8 : vs9 8 = undef := hG9 8 (by decide) rfl
      have e9 : vs9 9 = .bool true := hG9 9 (by decide) rfl
      have e10 : vs9 10 = .bool true := hG9 10 (by decide) rfl
      simp only [putAll, e0, e1, e2, e3, e4, e5, e6, e7, e8, e9, e10]
      clear hG9 e0 e1 e2 e3 e4 e5 e6 e7 e8 e9 e10
      replace Bl := Bl.below hb9 Bl.lt
      replace Bx := Bx.below hb9 Bx.lt
      replace q := q.trans (hb9.mono q.size)
      clear hb9
      go_simp
      clear hcell hy
      go_wp2_with fail
      go_roundw
      case rel => exact ⟨i + 1, by go_num, by omega, by rw [hat2.out]; rfl, Bl, Bx, q⟩
      case measure => simp [intOf]; omega
    | false =>
      go_upto_region 8 with (fail)
      clear d0 b0
      refine wp_region_sink2 (by kernel_rfl) (by kernel_rfl) (fun A B => Below A.heap.size A B) 9 (fun i => decide (i < 9)) (by kernel_rfl) (fun i => decide (i = 10)) (by kernel_rfl) (fun _ => false) (fun A => Below wr.heap.size wr A) (fun A h => h) (fun A => Below.refl _ _) (fun A B h k => h.trans (k.mono h.size)) (fun A B h k => h.trans (k.mono h.size))
        [mEq (.bool false), mEq (.bool false), mEq (.pointer (some ⟨w.heap.size, 0, none⟩)), mEq (.slice (some ⟨b, off, none⟩) H.length cH), mEq (.int .i64 (i : Nat)), mEq (.pointer (some ⟨b, off + i * 7, none⟩)), mEq (.agg #[.int .i64 y.owner, .bool y.whole, .int .i64 y.span.table, .slice KA y.span.lo.length KC, .slice VA y.span.hi.length VC, .bool y.span.isOpen, .int .i64 y.mode]), mEq (.agg #[.int .i64 x.owner, .bool x.whole, .int .i64 x.span.table, .slice x1 x.span.lo.length x2, .slice x3 x.span.hi.length x4, .bool x.span.isOpen, .int .i64 x.mode]), mEq (.bool (clashL y x))]
        (sgEq (.bool (clashL y x))) (fun _ => sgEq (.bool (clashL y x)))
        ⟨?o0, ?o1, ?o2, ?o3, ?o4, ?o5, ?o6, ?o7, ?o8, ?o9, ?o10, trivial⟩ ?fin
      case o0 =>
        refine GdOpM.plain rfl (fun A vs w' hF hT hR h0 hu hd => ?_)
        have e1 : A.eval (.tmp 6) = .bool false := (hT 6 10 (by simp) rfl).trans (hu (.inl rfl) 10 6 rfl rfl)
        exact BigFrame.wp_move _ rfl ⟨_, rfl, e1, Below.refl _ _⟩
      case o1 =>
        refine GdOpM.plain rfl (fun A vs w' hF hT hR h0 hu hd => ?_)
        have e1 : A.eval (.tmp 34) = .bool false := (hT 34 0 (by simp) rfl).trans (hd ⟨0, .data⟩ (by simp) rfl)
        exact BigFrame.wp_move _ rfl ⟨_, rfl, e1, Below.refl _ _⟩
      case o2 =>
        refine GdOpM.taken rfl ⟨_, _, rfl, rfl, by simp⟩ (by kernel_rfl) (fun vs w v h => h) (fun A vs w' hF hT hR h0 hu hd => ?_)
        have e1 : A.eval (.tmp 2) = .pointer (some ⟨w.heap.size, 0, none⟩) := hF 2 rfl
        exact wp_fieldN lsS rfl (e1) (by omega) ⟨_, rfl, rfl, Below.refl _ _⟩
      case o3 =>
        refine GdOpM.taken rfl ⟨_, _, rfl, rfl, by simp⟩ (by kernel_rfl) (fun vs w v h => h) (fun A vs w' hF hT hR h0 hu hd => ?_)
        have hb : Below wr.heap.size wr w' := h0 (.inl rfl)
        have e1 : A.eval (.tmp 36) = .pointer (some ⟨w.heap.size, 0, none⟩) := (hT 36 2 (by simp) rfl).trans (hd ⟨2, .data⟩ (by simp) rfl)
        exact wp_ld_slice (e := 29) rfl e1 (by kernel_rfl) ((Bl.below hb Bl.lt).cell (i := 0) rfl) ⟨_, rfl, rfl, Below.refl _ _⟩
      case o4 =>
        refine GdOpM.taken rfl ⟨_, _, rfl, rfl, by simp⟩ (by kernel_rfl) (fun vs w v h => h) (fun A vs w' hF hT hR h0 hu hd => ?_)
        have e1 : A.eval (.tmp 7) = .int .i64 (i : Nat) := hF 7 rfl
        exact BigFrame.wp_move _ rfl ⟨_, rfl, e1, Below.refl _ _⟩
      case o5 =>
        refine GdOpM.taken rfl ⟨_, _, rfl, rfl, by simp⟩ (by kernel_rfl) (fun vs w v h => h) (fun A vs w' hF hT hR h0 hu hd => ?_)
        have e1 : A.eval (.tmp 37) = .slice (some ⟨b, off, none⟩) H.length cH := (hT 37 3 (by simp) rfl).trans (hd ⟨3, .data⟩ (by simp) rfl)
        have e2 : A.eval (.tmp 38) = .int .i64 (i : Nat) := (hT 38 4 (by simp) rfl).trans (hd ⟨4, .data⟩ (by simp) rfl)
        exact wp_ixN (e := 29) rfl (by kernel_rfl) (by kernel_rfl) (e1) (e2) rfl (by omega) ⟨_, rfl, rfl, Below.refl _ _⟩
      case o6 =>
        refine GdOpM.taken rfl ⟨_, _, rfl, rfl, by simp⟩ (by kernel_rfl) (fun vs w v h => h) (fun A vs w' hF hT hR h0 hu hd => ?_)
        have hb : Below wr.heap.size wr w' := h0 (.inl rfl)
        have e1 : A.eval (.tmp 39) = .pointer (some ⟨b, off + i * 7, none⟩) := (hT 39 5 (by simp) rfl).trans (hd ⟨5, .data⟩ (by simp) rfl)
        exact wp_loadU (us := [.int .i64 y.owner, .bool y.whole, .int .i64 y.span.table, .slice KA y.span.lo.length KC, .slice VA y.span.hi.length VC, .bool y.span.isOpen, .int .i64 y.mode]) lkS rfl e1 (fun j u hj => (hb.cell (p := ⟨b, off + i * 7 + j, none⟩) (cell_lt (hcell j u hj))).trans (hcell j u hj)) ⟨_, rfl, rfl, Below.refl _ _⟩
      case o7 =>
        refine GdOpM.taken rfl ⟨_, _, rfl, rfl, by simp⟩ (by kernel_rfl) (fun vs w v h => h) (fun A vs w' hF hT hR h0 hu hd => ?_)
        have hb : Below wr.heap.size wr w' := h0 (.inl rfl)
        have e1 : A.eval (.tmp 3) = .pointer (some ⟨w.heap.size + 1, 0, none⟩) := hF 3 rfl
        exact wp_loadU (us := [.int .i64 x.owner, .bool x.whole, .int .i64 x.span.table, .slice x1 x.span.lo.length x2, .slice x3 x.span.hi.length x4, .bool x.span.isOpen, .int .i64 x.mode]) lkS rfl e1 (fun j u hj => by rw [Nat.zero_add]; exact (Bx.below hb Bx.lt).cell hj) ⟨_, rfl, rfl, Below.refl _ _⟩
      case o8 =>
        refine GdOpM.taken rfl ⟨_, _, rfl, rfl, by simp⟩ (by kernel_rfl) (fun vs w v h => h) (fun A vs w' hF hT hR h0 hu hd => ?_)
        have hb : Below wr.heap.size wr w' := h0 (.inl rfl)
        have e1 : A.eval (.tmp 40) = .agg #[.int .i64 y.owner, .bool y.whole, .int .i64 y.span.table, .slice KA y.span.lo.length KC, .slice VA y.span.hi.length VC, .bool y.span.isOpen, .int .i64 y.mode] := (hT 40 6 (by simp) rfl).trans (hd ⟨6, .data⟩ (by simp) rfl)
        have e2 : A.eval (.tmp 41) = .agg #[.int .i64 x.owner, .bool x.whole, .int .i64 x.span.table, .slice x1 x.span.lo.length x2, .slice x3 x.span.hi.length x4, .bool x.span.isOpen, .int .i64 x.mode] := (hT 41 7 (by simp) rfl).trans (hd ⟨7, .data⟩ (by simp) rfl)
        refine wp_callFn rfl eC (args := #[.agg #[.int .i64 y.owner, .bool y.whole, .int .i64 y.span.table, .slice KA y.span.lo.length KC, .slice VA y.span.hi.length VC, .bool y.span.isOpen, .int .i64 y.mode], .agg #[.int .i64 x.owner, .bool x.whole, .int .i64 x.span.table, .slice x1 x.span.lo.length x2, .slice x3 x.span.hi.length x4, .bool x.span.isOpen, .int .i64 x.mode]]) (by simp only [List.map_toArray, List.map_cons, List.map_nil, e1, e2]) ((clash_any w' (tb.below hb) (hy.below hb) (hX.below hb)).mono ?_)
        rintro e w2 ⟨rfl, hb2⟩
        exact ⟨_, rfl, _, rfl, rfl, hb2⟩
      case o9 =>
        refine GdOpM.plain rfl (fun A vs w' hF hT hR h0 hu hd => ?_)
        have e1 : A.eval (.tmp 35) = .bool false := (hT 35 1 (by simp) rfl).trans (hd ⟨1, .data⟩ (by simp) rfl)
        have e3 : A.eval (.tmp 42) = .bool (clashL y x) := (hT 42 8 (by simp) rfl).trans (hd ⟨8, .data⟩ (by simp) rfl)
        exact wp_pk rfl e1 (by simp) (fun _ => e3) ⟨_, rfl, rfl, Below.refl _ _⟩
      case o10 =>
        refine GdOpM.plain rfl (fun A vs w' hF hT hR h0 hu hd => ?_)
        have e1 : A.eval (.tmp 43) = .bool (clashL y x) := (hT 43 9 (by simp) rfl).trans (hd ⟨9, .data⟩ (by simp) rfl)
        exact BigFrame.wp_assign _ rfl ⟨_, rfl, e1, Below.refl _ _⟩
      case fin =>
      intro vs9 W9 hb9 hG9
      have e0 : vs9 0 = .bool false := hG9 0 (by decide) rfl
      have e1 : vs9 1 = .bool false := hG9 1 (by decide) rfl
      have e2 : vs9 2 = .pointer (some ⟨w.heap.size, 0, none⟩) := hG9 2 (by decide) rfl
      have e3 : vs9 3 = .slice (some ⟨b, off, none⟩) H.length cH := hG9 3 (by decide) rfl
      have e4 : vs9 4 = .int .i64 (i : Nat) := hG9 4 (by decide) rfl
      have e5 : vs9 5 = .pointer (some ⟨b, off + i * 7, none⟩) := hG9 5 (by decide) rfl
      have e6 : vs9 6 = .agg #[.int .i64 y.owner, .bool y.whole, .int .i64 y.span.table, .slice KA y.span.lo.length KC, .slice VA y.span.hi.length VC, .bool y.span.isOpen, .int .i64 y.mode] := hG9 6 (by decide) rfl
      have e7 : vs9 7 = .agg #[.int .i64 x.owner, .bool x.whole, .int .i64 x.span.table, .slice x1 x.span.lo.length x2, .slice x3 x.span.hi.length x4, .bool x.span.isOpen, .int .i64 x.mode] := hG9 7 (by decide) rfl
      have e8 : vs9 8 = .bool (clashL y x) := hG9 8 (by decide) rfl
      have e9 : vs9 9 = .bool (clashL y x) := hG9 9 (by decide) rfl
      have e10 : vs9 10 = .bool (clashL y x) := hG9 10 (by decide) rfl
      simp only [putAll, e0, e1, e2, e3, e4, e5, e6, e7, e8, e9, e10]
      clear hG9 e0 e1 e2 e3 e4 e5 e6 e7 e8 e9 e10
      replace Bl := Bl.below hb9 Bl.lt
      replace Bx := Bx.below hb9 Bx.lt
      replace q := q.trans (hb9.mono q.size)
      clear hb9
      go_simp
      clear hcell hy
      go_wp2_with fail
      go_roundw
      case rel => exact ⟨i + 1, by go_num, by omega, by rw [hat2.out]; rfl, Bl, Bx, q⟩
      case measure => simp [intOf]; omega
  · obtain rfl : i = H.length := by omega
    rw [List.take_length]
    have d0 : decide ((H.length : Int) < (H.length : Int)) = false := decide_eq_false (by omega)
    obtain ⟨ba, eba⟩ : ∃ ba, ba = anyC H x := ⟨_, rfl⟩
    rw [← eba]
    clear tb hX hil hge
    have b0 := Bl.cell (i := 0) rfl
    go_upto_region 10 with (fail)
    clear d0 b0
    go_loopw [6, 8] (fun cv iv wr => ∃ (i : Nat), iv = .int .i64 (i : Int) ∧ i ≤ Q.length ∧ cv = .bool (ba || anyC (Q.take i) x) ∧ BoxN wr w.heap.size 24 [.slice aH H.length cH, .slice aQ Q.length cQ] ∧ BoxN wr (w.heap.size + 1) 29 [.int .i64 x.owner, .bool x.whole, .int .i64 x.span.table, .slice x1 x.span.lo.length x2, .slice x3 x.span.hi.length x4, .bool x.span.isOpen, .int .i64 x.mode] ∧ Below w.heap.size w wr) (fun _ iv _ => Q.length - (intOf iv).toNat)
    case atStart => exact ⟨0, rfl, Nat.zero_le _, by simp [anyC], Bl, Bx, q⟩
    case round =>
    clear Bl Bx q
    obtain ⟨i, rfl, hil, rfl, Bl, Bx, q⟩ := hrel
    have tb := hT.below q
    have hX := hx.below q
    rcases Nat.lt_or_ge i Q.length with hlt | hge
    · obtain ⟨b, off, vs, eL, _, ⟨kk, uu, rfl, hk, hu, hi⟩, hcell⟩ := (hQ.below q).at i hlt
      obtain ⟨KA, KC, rfl, _, _⟩ := hk.shape
      obtain ⟨VA, VC, rfl, _, _⟩ := hu.shape
      subst eL
      have hat := Lib.hid (anyC_snoc (x := x) hlt)
      obtain ⟨y, ey⟩ : ∃ y, y = Q[i] := ⟨_, rfl⟩
      rw [← ey] at hcell hk hu hi hat
      clear ey
      replace hcell : ∀ (j : Nat) (u : Value), ([.int .i64 y.owner, .bool y.whole, .int .i64 y.span.table, .slice KA y.span.lo.length KC, .slice VA y.span.hi.length VC, .bool y.span.isOpen, .int .i64 y.mode] : List Value)[j]? = some u → wr.cell? ⟨b, off + i * 7 + j, none⟩ = some u := hcell
      have hy : RdLk _ wr (.agg #[.int .i64 y.owner, .bool y.whole, .int .i64 y.span.table, .slice KA y.span.lo.length KC, .slice VA y.span.hi.length VC, .bool y.span.isOpen, .int .i64 y.mode]) y := ⟨KA, KC, VA, VC, rfl, hk, hu, hi⟩
      clear hk hu hi
      have d0 : decide ((i : Int) < (Q.length : Int)) = true := decide_eq_true (by omega)
      obtain ⟨bk, ebk⟩ : ∃ bk, bk = (ba || anyC (Q.take i) x) := ⟨_, rfl⟩
      rw [← ebk]
      have hat2 := Lib.hid (show (ba || anyC (Q.take (i + 1)) x) = (bk || clashL y x) by rw [hat.out, ebk]; rw [Bool.or_assoc])
      clear ebk hat
      have b1 := Bl.cell (i := 1) rfl
      cases bk with
      | true =>
        go_upto_region 12 with (fail)
        clear d0 b1
        refine wp_region_sink2 (by kernel_rfl) (by kernel_rfl) (fun A B => Below A.heap.size A B) 9 (fun i => decide (i < 9)) (by kernel_rfl) (fun i => decide (i = 10)) (by kernel_rfl) (fun _ => false) (fun A => Below wr.heap.size wr A) (fun A h => h) (fun A => Below.refl _ _) (fun A B h k => h.trans (k.mono h.size)) (fun A B h k => h.trans (k.mono h.size))
          [mEq (.bool true), mEq (.bool true), mEq (undef), mEq (undef), mEq (undef), mEq (undef), mEq (undef), mEq (undef), mEq (undef)]
          (sgEq (.bool true)) (fun _ => sgEq (.bool true))
          ⟨?o0, ?o1, ?o2, ?o3, ?o4, ?o5, ?o6, ?o7, ?o8, ?o9, ?o10, trivial⟩ ?fin
        case o0 =>
          refine GdOpM.plain rfl (fun A vs w' hF hT hR h0 hu hd => ?_)
          have e1 : A.eval (.tmp 6) = .bool true := (hT 6 10 (by simp) rfl).trans (hu (.inl rfl) 10 6 rfl rfl)
          exact BigFrame.wp_move _ rfl ⟨_, rfl, e1, Below.refl _ _⟩
        case o1 =>
          refine GdOpM.plain rfl (fun A vs w' hF hT hR h0 hu hd => ?_)
          have e1 : A.eval (.tmp 51) = .bool true := (hT 51 0 (by simp) rfl).trans (hd ⟨0, .data⟩ (by simp) rfl)
          exact BigFrame.wp_move _ rfl ⟨_, rfl, e1, Below.refl _ _⟩
        case o2 =>
          exact GdOpM.left rfl ⟨_, _, rfl, rfl, by simp⟩ (by kernel_rfl) (fun vs w v h => .inl h) (fun vs w => rfl)
        case o3 =>
          exact GdOpM.left rfl ⟨_, _, rfl, rfl, by simp⟩ (by kernel_rfl) (fun vs w v h => .inl h) (fun vs w => rfl)
        case o4 =>
          exact GdOpM.left rfl ⟨_, _, rfl, rfl, by simp⟩ (by kernel_rfl) (fun vs w v h => .inl h) (fun vs w => rfl)
        case o5 =>
          exact GdOpM.left rfl ⟨_, _, rfl, rfl, by simp⟩ (by kernel_rfl) (fun vs w v h => .inl h) (fun vs w => rfl)
        case o6 =>
          exact GdOpM.left rfl ⟨_, _, rfl, rfl, by simp⟩ (by kernel_rfl) (fun vs w v h => .inl h) (fun vs w => rfl)
        case o7 =>
          exact GdOpM.left rfl ⟨_, _, rfl, rfl, by simp⟩ (by kernel_rfl) (fun vs w v h => .inl h) (fun vs w => rfl)
        case o8 =>
          exact GdOpM.left rfl ⟨_, _, rfl, rfl, by simp⟩ (by kernel_rfl) (fun vs w v h => .inl h) (fun vs w => rfl)
        case o9 =>
          refine GdOpM.plain rfl (fun A vs w' hF hT hR h0 hu hd => ?_)
          have e1 : A.eval (.tmp 52) = .bool true := (hT 52 1 (by simp) rfl).trans (hd ⟨1, .data⟩ (by simp) rfl)
          have e3 : A.eval (.tmp 59) = undef := (hT 59 8 (by simp) rfl).trans (hd ⟨8, .data⟩ (by simp) rfl)
          exact wp_pk rfl e1 (fun _ => rfl) (by simp) ⟨_, rfl, rfl, Below.refl _ _⟩
        case o10 =>
          refine GdOpM.plain rfl (fun A vs w' hF hT hR h0 hu hd => ?_)
          have e1 : A.eval (.tmp 60) = .bool true := (hT 60 9 (by simp) rfl).trans (hd ⟨9, .data⟩ (by simp) rfl)
          exact BigFrame.wp_assign _ rfl ⟨_, rfl, e1, Below.refl _ _⟩
        case fin =>
        intro vs9 W9 hb9 hG9
        have e0 : vs9 0 = .bool true := hG9 0 (by decide) rfl
        have e1 : vs9 1 = .bool true := hG9 1 (by decide) rfl
        have e2 : vs9 2 = undef := hG9 2 (by decide) rfl
        have e3 : vs9 3 = undef := hG9 3 (by decide) rfl
        have e4 : vs9 4 = undef := hG9 4 (by decide) rfl
        have e5 : vs9 5 = undef := hG9 5 (by decide) rfl
        have e6 : vs9 6 = undef := hG9 6 (by decide) rfl
        have e7 : vs9 7 = undef := hG9 7 (by decide) rfl
        have e8 : vs9 8 = undef := hG9 8 (by decide) rfl
        have e9 : vs9 9 = .bool true := hG9 9 (by decide) rfl
        have e10 : vs9 10 = .bool true := hG9 10 (by decide) rfl
        simp only [putAll, e0, e1, e2, e3, e4, e5, e6, e7, e8, e9, e10]
        clear hG9 e0 e1 e2 e3 e4 e5 e6 e7 e8 e9 e10
        replace Bl := Bl.below hb9 Bl.lt
        replace Bx := Bx.below hb9 Bx.lt
        replace q := q.trans (hb9.mono q.size)
        clear hb9
        go_simp
        clear hcell hy
        go_wp2_with fail
        go_roundw
        case rel => exact ⟨i + 1, by go_num, by omega, by rw [hat2.out]; rfl, Bl, Bx, q⟩
        case measure => simp [intOf]; omega
      | false =>
        go_upto_region 12 with (fail)
        clear d0 b1
        refine wp_region_sink2 (by kernel_rfl) (by kernel_rfl) (fun A B => Below A.heap.size A B) 9 (fun i => decide (i < 9)) (by kernel_rfl) (fun i => decide (i = 10)) (by kernel_rfl) (fun _ => false) (fun A => Below wr.heap.size wr A) (fun A h => h) (fun A => Below.refl _ _) (fun A B h k => h.trans (k.mono h.size)) (fun A B h k => h.trans (k.mono h.size))
          [mEq (.bool false), mEq (.bool false), mEq (.pointer (some ⟨w.heap.size, 0 + 1, none⟩)), mEq (.slice (some ⟨b, off, none⟩) Q.length cQ), mEq (.int .i64 (i : Nat)), mEq (.pointer (some ⟨b, off + i * 7, none⟩)), mEq (.agg #[.int .i64 y.owner, .bool y.whole, .int .i64 y.span.table, .slice KA y.span.lo.length KC, .slice VA y.span.hi.length VC, .bool y.span.isOpen, .int .i64 y.mode]), mEq (.agg #[.int .i64 x.owner, .bool x.whole, .int .i64 x.span.table, .slice x1 x.span.lo.length x2, .slice x3 x.span.hi.length x4, .bool x.span.isOpen, .int .i64 x.mode]), mEq (.bool (clashL y x))]
          (sgEq (.bool (clashL y x))) (fun _ => sgEq (.bool (clashL y x)))
          ⟨?o0, ?o1, ?o2, ?o3, ?o4, ?o5, ?o6, ?o7, ?o8, ?o9, ?o10, trivial⟩ ?fin
        case o0 =>
          refine GdOpM.plain rfl (fun A vs w' hF hT hR h0 hu hd => ?_)
          have e1 : A.eval (.tmp 6) = .bool false := (hT 6 10 (by simp) rfl).trans (hu (.inl rfl) 10 6 rfl rfl)
          exact BigFrame.wp_move _ rfl ⟨_, rfl, e1, Below.refl _ _⟩
        case o1 =>
          refine GdOpM.plain rfl (fun A vs w' hF hT hR h0 hu hd => ?_)
          have e1 : A.eval (.tmp 51) = .bool false := (hT 51 0 (by simp) rfl).trans (hd ⟨0, .data⟩ (by simp) rfl)
          exact BigFrame.wp_move _ rfl ⟨_, rfl, e1, Below.refl _ _⟩
        case o2 =>
          refine GdOpM.taken rfl ⟨_, _, rfl, rfl, by simp⟩ (by kernel_rfl) (fun vs w v h => h) (fun A vs w' hF hT hR h0 hu hd => ?_)
          have e1 : A.eval (.tmp 2) = .pointer (some ⟨w.heap.size, 0, none⟩) := hF 2 rfl
          exact wp_fieldN lsS rfl (e1) (by omega) ⟨_, rfl, rfl, Below.refl _ _⟩
        case o3 =>
          refine GdOpM.taken rfl ⟨_, _, rfl, rfl, by simp⟩ (by kernel_rfl) (fun vs w v h => h) (fun A vs w' hF hT hR h0 hu hd => ?_)
          have hb : Below wr.heap.size wr w' := h0 (.inl rfl)
          have e1 : A.eval (.tmp 53) = .pointer (some ⟨w.heap.size, 0 + 1, none⟩) := (hT 53 2 (by simp) rfl).trans (hd ⟨2, .data⟩ (by simp) rfl)
          exact wp_ld_slice (e := 29) rfl e1 (by kernel_rfl) ((Bl.below hb Bl.lt).cell (i := 1) rfl) ⟨_, rfl, rfl, Below.refl _ _⟩
        case o4 =>
          refine GdOpM.taken rfl ⟨_, _, rfl, rfl, by simp⟩ (by kernel_rfl) (fun vs w v h => h) (fun A vs w' hF hT hR h0 hu hd => ?_)
          have e1 : A.eval (.tmp 8) = .int .i64 (i : Nat) := hF 8 rfl
          exact BigFrame.wp_move _ rfl ⟨_, rfl, e1, Below.refl _ _⟩
        case o5 =>
          refine GdOpM.taken rfl ⟨_, _, rfl, rfl, by simp⟩ (by kernel_rfl) (fun vs w v h => h) (fun A vs w' hF hT hR h0 hu hd => ?_)
          have e1 : A.eval (.tmp 54) = .slice (some ⟨b, off, none⟩) Q.length cQ := (hT 54 3 (by simp) rfl).trans (hd ⟨3, .data⟩ (by simp) rfl)
          have e2 : A.eval (.tmp 55) = .int .i64 (i : Nat) := (hT 55 4 (by simp) rfl).trans (hd ⟨4, .data⟩ (by simp) rfl)
          exact wp_ixN (e := 29) rfl (by kernel_rfl) (by kernel_rfl) (e1) (e2) rfl (by omega) ⟨_, rfl, rfl, Below.refl _ _⟩
        case o6 =>
          refine GdOpM.taken rfl ⟨_, _, rfl, rfl, by simp⟩ (by kernel_rfl) (fun vs w v h => h) (fun A vs w' hF hT hR h0 hu hd => ?_)
          have hb : Below wr.heap.size wr w' := h0 (.inl rfl)
          have e1 : A.eval (.tmp 56) = .pointer (some ⟨b, off + i * 7, none⟩) := (hT 56 5 (by simp) rfl).trans (hd ⟨5, .data⟩ (by simp) rfl)
          exact wp_loadU (us := [.int .i64 y.owner, .bool y.whole, .int .i64 y.span.table, .slice KA y.span.lo.length KC, .slice VA y.span.hi.length VC, .bool y.span.isOpen, .int .i64 y.mode]) lkS rfl e1 (fun j u hj => (hb.cell (p := ⟨b, off + i * 7 + j, none⟩) (cell_lt (hcell j u hj))).trans (hcell j u hj)) ⟨_, rfl, rfl, Below.refl _ _⟩
        case o7 =>
          refine GdOpM.taken rfl ⟨_, _, rfl, rfl, by simp⟩ (by kernel_rfl) (fun vs w v h => h) (fun A vs w' hF hT hR h0 hu hd => ?_)
          have hb : Below wr.heap.size wr w' := h0 (.inl rfl)
          have e1 : A.eval (.tmp 3) = .pointer (some ⟨w.heap.size + 1, 0, none⟩) := hF 3 rfl
          exact wp_loadU (us := [.int .i64 x.owner, .bool x.whole, .int .i64 x.span.table, .slice x1 x.span.lo.length x2, .slice x3 x.span.hi.length x4, .bool x.span.isOpen, .int .i64 x.mode]) lkS rfl e1 (fun j u hj => by rw [Nat.zero_add]; exact (Bx.below hb Bx.lt).cell hj) ⟨_, rfl, rfl, Below.refl _ _⟩
        case o8 =>
          refine GdOpM.taken rfl ⟨_, _, rfl, rfl, by simp⟩ (by kernel_rfl) (fun vs w v h => h) (fun A vs w' hF hT hR h0 hu hd => ?_)
          have hb : Below wr.heap.size wr w' := h0 (.inl rfl)
          have e1 : A.eval (.tmp 57) = .agg #[.int .i64 y.owner, .bool y.whole, .int .i64 y.span.table, .slice KA y.span.lo.length KC, .slice VA y.span.hi.length VC, .bool y.span.isOpen, .int .i64 y.mode] := (hT 57 6 (by simp) rfl).trans (hd ⟨6, .data⟩ (by simp) rfl)
          have e2 : A.eval (.tmp 58) = .agg #[.int .i64 x.owner, .bool x.whole, .int .i64 x.span.table, .slice x1 x.span.lo.length x2, .slice x3 x.span.hi.length x4, .bool x.span.isOpen, .int .i64 x.mode] := (hT 58 7 (by simp) rfl).trans (hd ⟨7, .data⟩ (by simp) rfl)
          refine wp_callFn rfl eC (args := #[.agg #[.int .i64 y.owner, .bool y.whole, .int .i64 y.span.table, .slice KA y.span.lo.length KC, .slice VA y.span.hi.length VC, .bool y.span.isOpen, .int .i64 y.mode], .agg #[.int .i64 x.owner, .bool x.whole, .int .i64 x.span.table, .slice x1 x.span.lo.length x2, .slice x3 x.span.hi.length x4, .bool x.span.isOpen, .int .i64 x.mode]]) (by simp only [List.map_toArray, List.map_cons, List.map_nil, e1, e2]) ((clash_any w' (tb.below hb) (hy.below hb) (hX.below hb)).mono ?_)
          rintro e w2 ⟨rfl, hb2⟩
          exact ⟨_, rfl, _, rfl, rfl, hb2⟩
        case o9 =>
          refine GdOpM.plain rfl (fun A vs w' hF hT hR h0 hu hd => ?_)
          have e1 : A.eval (.tmp 52) = .bool false := (hT 52 1 (by simp) rfl).trans (hd ⟨1, .data⟩ (by simp) rfl)
          have e3 : A.eval (.tmp 59) = .bool (clashL y x) := (hT 59 8 (by simp) rfl).trans (hd ⟨8, .data⟩ (by simp) rfl)
          exact wp_pk rfl e1 (by simp) (fun _ => e3) ⟨_, rfl, rfl, Below.refl _ _⟩
        case o10 =>
          refine GdOpM.plain rfl (fun A vs w' hF hT hR h0 hu hd => ?_)
          have e1 : A.eval (.tmp 60) = .bool (clashL y x) := (hT 60 9 (by simp) rfl).trans (hd ⟨9, .data⟩ (by simp) rfl)
          exact BigFrame.wp_assign _ rfl ⟨_, rfl, e1, Below.refl _ _⟩
        case fin =>
        intro vs9 W9 hb9 hG9
        have e0 : vs9 0 = .bool false := hG9 0 (by decide) rfl
        have e1 : vs9 1 = .bool false := hG9 1 (by decide) rfl
        have e2 : vs9 2 = .pointer (some ⟨w.heap.size, 0 + 1, none⟩) := hG9 2 (by decide) rfl
        have e3 : vs9 3 = .slice (some ⟨b, off, none⟩) Q.length cQ := hG9 3 (by decide) rfl
        have e4 : vs9 4 = .int .i64 (i : Nat) := hG9 4 (by decide) rfl
        have e5 : vs9 5 = .pointer (some ⟨b, off + i * 7, none⟩) := hG9 5 (by decide) rfl
        have e6 : vs9 6 = .agg #[.int .i64 y.owner, .bool y.whole, .int .i64 y.span.table, .slice KA y.span.lo.length KC, .slice VA y.span.hi.length VC, .bool y.span.isOpen, .int .i64 y.mode] := hG9 6 (by decide) rfl
        have e7 : vs9 7 = .agg #[.int .i64 x.owner, .bool x.whole, .int .i64 x.span.table, .slice x1 x.span.lo.length x2, .slice x3 x.span.hi.length x4, .bool x.span.isOpen, .int .i64 x.mode] := hG9 7 (by decide) rfl
        have e8 : vs9 8 = .bool (clashL y x) := hG9 8 (by decide) rfl
        have e9 : vs9 9 = .bool (clashL y x) := hG9 9 (by decide) rfl
        have e10 : vs9 10 = .bool (clashL y x) := hG9 10 (by decide) rfl
        simp only [putAll, e0, e1, e2, e3, e4, e5, e6, e7, e8, e9, e10]
        clear hG9 e0 e1 e2 e3 e4 e5 e6 e7 e8 e9 e10
        replace Bl := Bl.below hb9 Bl.lt
        replace Bx := Bx.below hb9 Bx.lt
        replace q := q.trans (hb9.mono q.size)
        clear hb9
        go_simp
        clear hcell hy
        go_wp2_with fail
        go_roundw
        case rel => exact ⟨i + 1, by go_num, by omega, by rw [hat2.out]; rfl, Bl, Bx, q⟩
        case measure => simp [intOf]; omega
    · obtain rfl : i = Q.length := by omega
      rw [List.take_length]
      have d0 : decide ((Q.length : Int) < (Q.length : Int)) = false := decide_eq_false (by omega)
      obtain ⟨bw, ebw⟩ : ∃ bw, bw = (ba || anyC Q x) := ⟨_, rfl⟩
      rw [← ebw]
      have hblk := Lib.hid (show bw = blk x H Q by rw [ebw, eba, blk_any])
      clear ebw eba hil hge
      have b1 := Bl.cell (i := 1) rfl
      go_upto_region 13 with (fail)
      clear d0 b1
      have b0 := Bl.cell (i := 0) rfl
      have b1 := Bl.cell (i := 1) rfl
      have c0 := Bx.cell (i := 0) rfl
      have c1 := Bx.cell (i := 1) rfl
      have c2 := Bx.cell (i := 2) rfl
      have c3 := Bx.cell (i := 3) rfl
      have c4 := Bx.cell (i := 4) rfl
      have c5 := Bx.cell (i := 5) rfl
      have c6 := Bx.cell (i := 6) rfl
      have hcl := lAsk_any _ tb (RdLs.below hd q) hsH hsQ (by omega) (by omega) hX hsx1 hsx2
      have hal := ask_alone ok x
      obtain ⟨r, er⟩ : ∃ r, r = askL H Q x := ⟨_, rfl⟩
      rw [← er] at hcl hal
      have hlr : r.1.length ≤ 9223372036854775807 ∧ r.2.2 ≤ 200 := ask_small ok er
      clear er tb hX
      go_wp2_with fail
      refine hcl.mono ?_
      rintro e v1 ⟨ra, rc, ra2, rc2, rfl, hrd, hb⟩
      clear hcl b0 b1 c0 c1 c2 c3 c4 c5 c6
      replace hrd : RdLs (fun _ => True) _ _ r.1 r.2.1 := hrd.weak fun _ _ => trivial
      replace Bl := Bl.below hb Bl.lt
      replace Bx := Bx.below hb Bx.lt
      replace q := q.trans (hb.mono q.size)
      clear hb
      go_upto_region 14 with (first | (refine wpList_boxNew (vs := [.slice none 0 0, .slice none 0 0]) (by kernel_rfl) rfl rfl ?_; intro wa hba hBa) | (refine wpList_boxStore (us := [.slice ra r.1.length rc, .slice ra2 r.2.1.length rc2]) (by kernel_rfl) rfl rfl rfl rfl rfl rfl hBa rfl ?_; intro v2 hgw Br) | fail)
      try go_simp
      have hbw := hba.grown hgw hba.size fun k hk => by injection hk with hk; omega
      replace Bl := Bl.below hbw Bl.lt
      replace Bx := Bx.below hbw Bx.lt
      replace hrd := hrd.below hbw
      replace q := q.trans (hbw.mono q.size)
      clear hbw hgw hba hBa
      have b0 := Bl.cell (i := 0) rfl
      have b1 := Bl.cell (i := 1) rfl
      have r0 := Br.cell (i := 0) rfl
      have r1 := Br.cell (i := 1) rfl
      rcases Nat.eq_zero_or_pos r.2.2 with hz | hz
      · have d1 : ((r.2.2 : Int) != 0) = false := by rw [hz]; rfl
        have d2 : decide ((r.2.2 : Int) = 0) = true := by rw [hz]; rfl
        have d3 : ((r.2.2 : Int) == 0) = true := by rw [hz]; rfl
        cases bw with
        | true =>
          obtain ⟨hr1, hr2⟩ := hal hblk.out.symm hz
          have d4 : decide ((r.1.length : Int) = (H.length : Int)) = true := decide_eq_true (by rw [hr1])
          have d5 : ((r.1.length : Int) == (H.length : Int)) = true := beq_iff_eq.2 (by rw [hr1])
          have hcl := rSame_any _ hrd (RdLs.below hd q)
          rw [decide_eq_true (show r.1 = H ∧ r.2.1 = Q from ⟨hr1, hr2⟩)] at hcl
          clear hal hblk hr1 hr2 hz
          go_wp2_with fail
          refine hcl.mono ?_
          rintro e v3 ⟨rfl, hb⟩
          clear hcl b0 b1 r0 r1
          replace Bl := Bl.below hb Bl.lt
          replace Bx := Bx.below hb Bx.lt
          replace hrd := hrd.below hb
          replace Br := Br.below hb Br.lt
          replace q := q.trans (hb.mono q.size)
          clear hb
          go_wp2_with fail
          go_ret
          exact ⟨rfl, q⟩
        | false =>
          clear hal hblk hz
          by_cases hl : r.1.length = H.length
          · have d4 : decide ((r.1.length : Int) = (H.length : Int)) = true := decide_eq_true (by omega)
            have d5 : ((r.1.length : Int) == (H.length : Int)) = true := beq_iff_eq.2 (by omega)
            have hcl := rSame_any _ hrd (RdLs.below hd q)
            obtain ⟨bs, ebs⟩ : ∃ bs, bs = decide (r.1 = H ∧ r.2.1 = Q) := ⟨_, rfl⟩
            rw [← ebs] at hcl
            clear ebs hl
            go_wp2_with fail
            refine hcl.mono ?_
            rintro e v3 ⟨rfl, hb⟩
            clear hcl b0 b1 r0 r1
            replace Bl := Bl.below hb Bl.lt
            replace Bx := Bx.below hb Bx.lt
            replace hrd := hrd.below hb
            replace Br := Br.below hb Br.lt
            replace q := q.trans (hb.mono q.size)
            clear hb
            go_wp2_with fail
            go_ret
            exact ⟨rfl, q⟩
          · have d4 : decide ((r.1.length : Int) = (H.length : Int)) = false := decide_eq_false (by omega)
            have d5 : ((r.1.length : Int) == (H.length : Int)) = false := beq_eq_false_iff_ne.2 (by omega)
            go_wp2_with fail
            go_ret
            exact ⟨rfl, q⟩
      · have d1 : ((r.2.2 : Int) != 0) = true := bne_iff_ne.2 (by omega)
        have d2 : decide ((r.2.2 : Int) = 0) = false := decide_eq_false (by omega)
        have d3 : ((r.2.2 : Int) == 0) = false := beq_eq_false_iff_ne.2 (by omega)
        clear hal hblk
        cases bw with
        | true =>
          go_wp2_with fail
          go_ret
          exact ⟨rfl, q⟩
        | false =>
          go_wp2_with fail
          go_ret
          exact ⟨rfl, q⟩
end Go.Proofs.YtccoklhmbikfmaaDoor
namespace Go.Proofs.YtccoklhmbikfmaaDoor
def modeRows : List (List Bool) := [[true, true, true, true, false], [true, true, false, false, false], [true, false, true, false, false], [true, false, false, false, false], [false, false, false, false, false]]
theorem tab_of {W : World} {rest : List (String × DataW Unit)} (h : laidMet Tryd.prog (("banksman/mode.together", matB modeRows) :: rest) W) : TabAt W := by
  have hg : Tryd.prog.globalNamed "banksman/mode.together" = some 0 := by kernel_rfl
  have hty : (Tryd.prog.globals[0]?).map (·.type) = some 82 := by kernel_rfl
  intro a b ha hb
  rcases md_cases a with rfl | rfl | rfl | rfl | rfl | h1
  case inr.inr.inr.inr.inr => rw [h1] at ha; cases ha
  all_goals rcases md_cases b with rfl | rfl | rfl | rfl | rfl | h1
  all_goals first
    | (exfalso; rw [h1] at hb; cases hb)
    | exact mat_of_laid (n := 5) (m := 5) (e := 81) (b := 4) hg hty Tryd.underlying82 Tryd.underlying81 Tryd.underlying4 (by kernel_rfl) (by kernel_rfl) h rfl rfl
end Go.Proofs.YtccoklhmbikfmaaDoor
