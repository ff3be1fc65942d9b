/-
  TEXTS OF ONE PROOF, merged: LkI, LkT, LtB, LtC, LtE, WaB.
-/
import Derived.Test.YtpdnehgboafgpaaDoorKw6
namespace Go.Proofs.YtpdnehgboafgpaaDoor
open Go.RowKit Go.Shelf
theorem akS : SgP Tryd.prog 61 9 := ⟨⟨_, Tryd.underlying61⟩, by kernel_rfl⟩
def ResJ (W : World) (bR : Nat) (us : List Value) : List Value → World → Prop
  | [], V => Below W.heap.size W V
  | _ :: _, V => W.grownBy V (some bR) ∧ BoxN V bR 61 us
theorem ResJ.below {W : World} {bR : Nat} {us : List Value} : ∀ (l : List Value) (V V' : World), ResJ W bR us l V → Below V.heap.size V V' → ResJ W bR us l V'
  | [], _, _, h, hb => Below.trans h (hb.mono (Below.size h))
  | _ :: _, _, _, ⟨h, h2⟩, hb => ⟨grownT h (grownB hb _), h2.below hb h2.lt⟩
theorem ResJ.low {W : World} {bR : Nat} {us : List Value} : ∀ {l : List Value} {V : World}, ResJ W bR us l V → W.grownBy V (some bR)
  | [], _, h => grownB h _
  | _ :: _, _, h => h.1
theorem eWait1 : Enters Tryd.prog 63 := enters_of Tryd.func63 (by kernel_rfl) rfl
set_option maxRecDepth 100000 in
set_option maxHeartbeats 4000000 in
theorem wait1_no (w : World) {x : Lk} {x1 x3 aH aQ : Option Addr} {x2 x4 cH cQ bO : Nat} {vT vS : Value} {H p : List Lk} {o : Int} (ho : BoxN w bO 3 [.int .i64 o]) (hc : x.owner ≠ o) :
    Calls Tryd.prog 63 #[.agg (akV x x1 x2 x3 x4 aH H.length cH aQ p.length cQ).toArray, .pointer (some ⟨bO, 0, none⟩), vT, vS] w fun e w' => e = .returned (.int .i64 0) ∧ Below w.heap.size w w' := by
  unfold akV
  obtain ⟨W, hW, q, Bx, hsz⟩ := spBox w 61 [.int .i64 x.owner, .bool x.whole, .int .i64 x.span.table, .slice x1 x.span.lo.length x2, .slice x3 x.span.hi.length x4, .bool x.span.isOpen, .int .i64 x.mode, .slice aH H.length cH, .slice aQ p.length cQ]
  clear hsz
  go_enter Tryd.func63, Tryd.ntmps63
  go_upto_region 1 with (fail)
  rw [show w.alloc (.cells #[.int .i64 x.owner, .bool x.whole, .int .i64 x.span.table, .slice x1 x.span.lo.length x2, .slice x3 x.span.hi.length x4, .bool x.span.isOpen, .int .i64 x.mode, .slice aH H.length cH, .slice aQ p.length cQ] 61) = W from hW.symm]
  clear hW
  have c0 := Bx.cell (i := 0) rfl
  have c1 := Bx.cell (i := 1) rfl
  have c2 := Bx.cell (i := 2) rfl
  have c3 := Bx.cell (i := 3) rfl
  have c4 := Bx.cell (i := 4) rfl
  have c5 := Bx.cell (i := 5) rfl
  have c6 := Bx.cell (i := 6) rfl
  have c7 := Bx.cell (i := 7) rfl
  have c8 := Bx.cell (i := 8) rfl
  have o0 := (ho.below q ho.lt).cell (i := 0) rfl
  have d1 : (x.owner != o) = true := bne_iff_ne.2 hc
  have d2 : (x.owner == o) = false := beq_eq_false_iff_ne.2 hc
  have d3 : decide (x.owner = o) = false := decide_eq_false hc
  have d4 : (x.owner = o) = False := eq_false hc
  clear hc
  go_wp2_with fail
  go_ret
  exact ⟨rfl, q⟩
set_option maxRecDepth 100000 in
set_option maxHeartbeats 4000000 in
theorem wait1_yes (w : World) {x : Lk} {x1 x3 aH aQ : Option Addr} {x2 x4 cH cQ bO bT bS : Nat} {H p : List Lk} {o : Int} {us0 : List Value} {g0 : Bool} (ho : BoxN w bO 3 [.int .i64 o]) (hT : BoxN w bT 61 us0) (hl0 : us0.length = 9) (hS : BoxN w bS 4 [.bool g0]) (hne : bT ≠ bS) (hc : x.owner = o) :
    Calls Tryd.prog 63 #[.agg (akV x x1 x2 x3 x4 aH H.length cH aQ p.length cQ).toArray, .pointer (some ⟨bO, 0, none⟩), .pointer (some ⟨bT, 0, none⟩), .pointer (some ⟨bS, 0, none⟩)] w fun e w' => e = .returned (.int .i64 2) ∧ Trd (fun k => k = bT ∨ k = bS) w w' ∧ BoxN w' bT 61 (akV x x1 x2 x3 x4 aH H.length cH aQ p.length cQ) ∧ BoxN w' bS 4 [.bool true] := by
  unfold akV
  replace hc := Lib.hid hc
  obtain ⟨W, hW, q, Bx, hsz⟩ := spBox w 61 [.int .i64 x.owner, .bool x.whole, .int .i64 x.span.table, .slice x1 x.span.lo.length x2, .slice x3 x.span.hi.length x4, .bool x.span.isOpen, .int .i64 x.mode, .slice aH H.length cH, .slice aQ p.length cQ]
  clear hsz
  go_enter Tryd.func63, Tryd.ntmps63
  go_upto_region 1 with (fail)
  rw [show w.alloc (.cells #[.int .i64 x.owner, .bool x.whole, .int .i64 x.span.table, .slice x1 x.span.lo.length x2, .slice x3 x.span.hi.length x4, .bool x.span.isOpen, .int .i64 x.mode, .slice aH H.length cH, .slice aQ p.length cQ] 61) = W from hW.symm]
  clear hW
  have c0 := Bx.cell (i := 0) rfl
  have c1 := Bx.cell (i := 1) rfl
  have c2 := Bx.cell (i := 2) rfl
  have c3 := Bx.cell (i := 3) rfl
  have c4 := Bx.cell (i := 4) rfl
  have c5 := Bx.cell (i := 5) rfl
  have c6 := Bx.cell (i := 6) rfl
  have c7 := Bx.cell (i := 7) rfl
  have c8 := Bx.cell (i := 8) rfl
  have o0 := (ho.below q ho.lt).cell (i := 0) rfl
  have d1 : (x.owner != o) = false := by rw [bne_eq_false_iff_eq]; exact hc.out
  have d2 : (x.owner == o) = true := beq_iff_eq.2 hc.out
  have d3 : decide (x.owner = o) = true := decide_eq_true hc.out
  clear hc
  have hT1 := hT.below q hT.lt
  have hS1 := hS.below q hS.lt
  go_wp2_with (first
    | (refine wpList_boxStore (us := [.int .i64 x.owner, .bool x.whole, .int .i64 x.span.table, .slice x1 x.span.lo.length x2, .slice x3 x.span.hi.length x4, .bool x.span.isOpen, .int .i64 x.mode, .slice aH H.length cH, .slice aQ p.length cQ]) (by kernel_rfl) rfl rfl rfl rfl rfl rfl hT1 hl0 ?_; intro w5 hg5 hT5)
    | (refine wpList_boxSet (j := 0) rfl rfl rfl (by kernel_rfl) rfl rfl rfl rfl (hS1.other hg5 (by intro e; injection e with e; exact hne e)) (by simp) ?_; intro w6 hg6 hS6)
    | fail)
  go_ret
  exact ⟨rfl, ((Trd.of q).trans (Trd.ofGrown hg5 (F := fun k => k = bT ∨ k = bS) (fun k e => by injection e with e; exact .inl e.symm)) (fun _ _ h => h)).trans (Trd.ofGrown hg6 (F := fun k => k = bT ∨ k = bS) (fun k e => by injection e with e; exact .inr e.symm)) (fun _ _ h => h), hT5.other hg6 (by intro e; injection e with e; exact hne e.symm), hS6⟩
def WaitEnd (H Q : List Lk) (o : Int) (w : World) (e : Ending) (w' : World) : Prop :=
  Below w.heap.size w w' ∧ ((okLk H Q ∧ ∃ i, ∃ h : i < Q.length, Q[i].owner = o ∧ (∀ y ∈ Q.take i, y.owner ≠ o) ∧ ∃ x1 x2 x3 x4 aH cH aQ cQ, e = .returned (.tuple #[.agg (akV Q[i] x1 x2 x3 x4 aH H.length cH aQ (Q.take i).length cQ).toArray, .bool true]) ∧
      RdLk (fun k => k < w'.heap.size) w' (.agg #[.int .i64 Q[i].owner, .bool Q[i].whole, .int .i64 Q[i].span.table, .slice x1 Q[i].span.lo.length x2, .slice x3 Q[i].span.hi.length x4, .bool Q[i].span.isOpen, .int .i64 Q[i].mode]) Q[i] ∧ RdL Elt.lk (fun k => k < w'.heap.size) w' (.slice aH H.length cH) H ∧ RdL Elt.lk (fun k => k < w'.heap.size) w' (.slice aQ (Q.take i).length cQ) (Q.take i))
    ∨ (decide (okLk H Q) && waitsL Q o) = false ∧ e = .returned (.tuple #[.agg #[.int .i64 0, .bool false, .int .i64 0, .slice none 0 0, .slice none 0 0, .bool false, .int .i64 0, .slice none 0 0, .slice none 0 0], .bool false]))
set_option maxRecDepth 100000 in
set_option maxHeartbeats 4000000 in
theorem waiting_any (w : World) (hT : TabAt w) {S : Nat → Prop} {v : Value} {H Q : List Lk} {o : Int} (h : RdLs S w v H Q) (hnH : H.length ≤ 1000000) (hnQ : Q.length ≤ 1000000) :
    Calls Tryd.prog 32 #[v, .int .i64 o] w (WaitEnd H Q o w) := by
  have hfull := h
  obtain ⟨aH, cH, aL, cL, rfl, hH, hQ⟩ := h
  obtain ⟨Wa, hW, q, Bw, Bo, Br, hsz⟩ := spBoxes3 w 24 3 61 [.slice aH H.length cH, .slice aL Q.length cL] [.int .i64 o] [.int .i64 0, .bool false, .int .i64 0, .slice none 0 0, .slice none 0 0, .bool false, .int .i64 0, .slice none 0 0, .slice none 0 0]
  go_enter Tryd.func32, Tryd.ntmps32
  go_upto_region 1 with (fail)
  rw [show ((w.alloc (.cells #[.slice aH H.length cH, .slice aL Q.length cL] 24)).alloc (.cells #[.int .i64 o] 3)).alloc (.cells #[.int .i64 0, .bool false, .int .i64 0, .slice none 0 0, .slice none 0 0, .bool false, .int .i64 0, .slice none 0 0, .slice none 0 0] 61) = Wa from hW.symm]
  clear hW hsz
  have zr := Br.lt
  obtain ⟨W0, eW0⟩ : ∃ W0, W0 = Wa := ⟨_, rfl⟩
  rw [← eW0] at q Bw Bo Br zr ⊢
  clear eW0
  go_upto_region 2 with (first | (refine wpList_boxNew (vs := [.int .i64 0, .bool false, .int .i64 0, .slice none 0 0, .slice none 0 0, .bool false, .int .i64 0, .slice none 0 0, .slice none 0 0]) (by kernel_rfl) rfl rfl ?_; intro W1 hb1 hT1) | fail)
  go_simp
  have z1 := hb1.size
  have zT := hT1.lt
  go_upto_region 3 with (first | (refine wpList_boxNew1 (u := .bool false) (by kernel_rfl) rfl rfl rfl ?_; intro wa hba hBa) | (refine wpList_boxSet (j := 0) rfl rfl rfl (by kernel_rfl) rfl rfl rfl rfl hBa (by simp) ?_; intro W2 hg2 hS2) | fail)
  go_simp
  have hb2 : Below W1.heap.size W1 W2 := hba.grown hg2 hba.size fun k hk => by injection hk with hk; omega
  have zS := hS2.lt
  replace hS2 : BoxN W2 W1.heap.size 4 [.bool false] := hS2
  clear hba hBa hg2
  have hb12 := hb1.trans (hb2.mono hb1.size)
  replace Bw := Bw.below hb12 Bw.lt
  replace Bo := Bo.below hb12 Bo.lt
  replace Br := Br.below hb12 Br.lt
  replace hT1 := hT1.below hb2 hT1.lt
  replace q := q.trans (hb12.mono q.size)
  clear hb1 hb2 hb12
  have b0 := Bw.cell (i := 0) rfl
  have b1 := Bw.cell (i := 1) rfl
  have hCk := lCheck_any W2 (hT.below q) (hfull.below q) hnH hnQ
  go_wp2_with fail
  refine hCk.mono ?_
  rintro e w3 ⟨rfl, hb⟩
  have z3 := hb.size
  replace Bw := Bw.below hb Bw.lt
  replace Bo := Bo.below hb Bo.lt
  replace Br := Br.below hb Br.lt
  replace hT1 := hT1.below hb hT1.lt
  replace hS2 := hS2.below hb hS2.lt
  replace q := q.trans (hb.mono q.size)
  clear b0 b1 hCk hb
  cases hok : decide (okLk H Q) with
  | false =>
    have Hh := Lib.hid (show (decide (okLk H Q) && waitsL Q o) = false by rw [hok]; rfl)
    clear hok
    go_upto_region 4 with (fail)
    refine wp_region_lnl (K := fun A B => A.grownBy B (some (w.heap.size + 1 + 1))) (by kernel_rfl) (by kernel_rfl) [2] (by kernel_rfl) [lEq (.agg #[.int .i64 0, .bool false, .int .i64 0, .slice none 0 0, .slice none 0 0, .bool false, .int .i64 0, .slice none 0 0, .slice none 0 0]), lEq (.bool false), lAny, lEq (.bool false)] (ResJ (w3) (w.heap.size + 1 + 1) [.int .i64 0, .bool false, .int .i64 0, .slice none 0 0, .slice none 0 0, .bool false, .int .i64 0, .slice none 0 0, .slice none 0 0]) ResJ.below (show Below (w3).heap.size (w3) (w3) from Below.refl _ _)
      ⟨?o0, ?o1, ?o2, ?o3, trivial⟩ ?fin
    case o0 =>
      refine LnOp.side rfl (by kernel_rfl) (fun A va w' k hF hT hk hJ hb hu hp hd => ?_)
      have e1 : A.eval (.tmp 6) = .pointer (some ⟨W0.heap.size, 0, none⟩) := hF 6 rfl
      have hX2 := hT1.other (ResJ.low hJ) (by intro e; injection e with e; omega)
      exact wp_loadU (us := [.int .i64 0, .bool false, .int .i64 0, .slice none 0 0, .slice none 0 0, .bool false, .int .i64 0, .slice none 0 0, .slice none 0 0]) akS rfl e1 (fun j u hj => by rw [Nat.zero_add]; exact hX2.cell hj) ⟨_, rfl, rfl, Below.refl _ _⟩
    case o1 =>
      refine LnOp.side rfl (by kernel_rfl) (fun A va w' k hF hT hk hJ hb hu hp hd => ?_)
      have e1 : A.eval (.tmp 7) = .pointer (some ⟨W1.heap.size, 0, none⟩) := hF 7 rfl
      exact wp_ld_bool  rfl (e1) (by kernel_rfl) ((hS2.other (ResJ.low hJ) (by intro e; injection e with e; omega)).cell (i := 0) rfl) ⟨_, rfl, rfl, Below.refl _ _⟩
    case o2 =>
      refine LnOp.line 0 rfl rfl (fun A va w' hF hT hJ hu hd => ?_)
      have e1 : A.eval (.tmp 4) = .pointer (some ⟨w.heap.size + 1 + 1, 0, none⟩) := hF 4 rfl
      have e2 : A.eval (.tmp 11) = .agg #[.int .i64 0, .bool false, .int .i64 0, .slice none 0 0, .slice none 0 0, .bool false, .int .i64 0, .slice none 0 0, .slice none 0 0] := (hT 11 0 (by simp) rfl).trans (hd ⟨0, .data⟩ (by simp) rfl rfl)
      have hJ0 : Below (w3).heap.size (w3) w' := hJ
      refine wp_boxStore (vs := [.int .i64 0, .bool false, .int .i64 0, .slice none 0 0, .slice none 0 0, .bool false, .int .i64 0, .slice none 0 0, .slice none 0 0]) (us := [.int .i64 0, .bool false, .int .i64 0, .slice none 0 0, .slice none 0 0, .bool false, .int .i64 0, .slice none 0 0, .slice none 0 0]) (by kernel_rfl) rfl e1 e2 rfl (Br.below hJ0 Br.lt) rfl (fun w2 hg hz => ⟨_, rfl, ⟨grownT (grownB hJ0 _) hg, hz⟩, hg⟩)
    case o3 =>
      refine LnOp.side rfl (by kernel_rfl) (fun A va w' k hF hT hk hJ hb hu hp hd => ?_)
      have e1 : A.eval (.tmp 12) = .bool false := (hT 12 1 (by simp) rfl).trans (hd ⟨1, .data⟩ (by simp) rfl rfl)
      exact BigFrame.wp_assign _ rfl ⟨_, rfl, e1, Below.refl _ _⟩
    case fin =>
      intro vs1 W9 hJ hG
      obtain ⟨hg9, hR9⟩ := hJ
      have g0 : vs1 0 = .agg #[.int .i64 0, .bool false, .int .i64 0, .slice none 0 0, .slice none 0 0, .bool false, .int .i64 0, .slice none 0 0, .slice none 0 0] := hG 0 (by decide) rfl
      have g1 : vs1 1 = .bool false := hG 1 (by decide) rfl
      have g3 : vs1 3 = .bool false := hG 3 (by decide) rfl
      clear hG
      simp only [putAll, g0, g1, g3]
      clear g0 g1 g3
      go_simp
      have r0 := hR9.cell (i := 0) rfl
      have r1 := hR9.cell (i := 1) rfl
      have r2 := hR9.cell (i := 2) rfl
      have r3 := hR9.cell (i := 3) rfl
      have r4 := hR9.cell (i := 4) rfl
      have r5 := hR9.cell (i := 5) rfl
      have r6 := hR9.cell (i := 6) rfl
      have r7 := hR9.cell (i := 7) rfl
      have r8 := hR9.cell (i := 8) rfl
      go_wp2_with fail
      obtain ⟨⟨fs, hu⟩, hs⟩ := akS
      refine bodyPost_ret (v := .tuple #[.agg #[.int .i64 0, .bool false, .int .i64 0, .slice none 0 0, .slice none 0 0, .bool false, .int .i64 0, .slice none 0 0, .slice none 0 0], .bool false]) (by simp [results, Tryd.results32, go_sem, loadVar, isAgg, run_underlying hu, run_sizeOf' hs, loadCellsFrom, Addr.add, r0, r1, r2, r3, r4, r5, r6, r7, r8]) rfl ?_
      exact ⟨q.grown hg9 q.size (fun k e => by injection e with e; omega), .inr ⟨Hh.out, rfl⟩⟩
  | true =>
    have hok2 := Lib.hid (show okLk H Q from of_decide_eq_true hok)
    clear hok
    have hT3 := hT.below q
    have hz0 : 0 < w.heap.size := by have := cell_lt (hT 1 1 rfl rfl); omega
    have b0 := Bw.cell (i := 0) rfl
    have b1 := Bw.cell (i := 1) rfl
    have hlk := look_any (S := fun k => S k ∧ k < w.heap.size) w3 (((hH.fit).below q)) (((hQ.fit).below q)) hnQ 63 #[.pointer (some ⟨w.heap.size + 1, 0, none⟩), .pointer (some ⟨W0.heap.size, 0, none⟩), .pointer (some ⟨W1.heap.size, 0, none⟩)] eWait1 (fun k => k = W0.heap.size ∨ k = W1.heap.size) (fun k hk => by omega) (fun k hk e => by have := hk.2; have := q.size; omega)
      (fun V => BoxN V W0.heap.size 61 [.int .i64 0, .bool false, .int .i64 0, .slice none 0 0, .slice none 0 0, .bool false, .int .i64 0, .slice none 0 0, .slice none 0 0] ∧ BoxN V W1.heap.size 4 [.bool false]) (fun A B hA hk => ⟨(hk _ (.inl rfl)).trans hA.1, (hk _ (.inr rfl)).trans hA.2⟩) ⟨hT1, hS2⟩ (fun _ x => !decide (x.owner = o))
      (fun p x V => ∃ x1 x2 x3 x4 aQ cQ, BoxN V W0.heap.size 61 (akV x x1 x2 x3 x4 aH H.length cH aQ p.length cQ) ∧ BoxN V W1.heap.size 4 [.bool true] ∧ RdLk (fun k => (((S k ∧ k < w.heap.size) ∨ w3.heap.size ≤ k) ∧ ¬ (k = W0.heap.size ∨ k = W1.heap.size) ∧ k ≠ w3.heap.size + 1) ∧ k < V.heap.size) V (.agg #[.int .i64 x.owner, .bool x.whole, .int .i64 x.span.table, .slice x1 x.span.lo.length x2, .slice x3 x.span.hi.length x4, .bool x.span.isOpen, .int .i64 x.mode]) x ∧ RdL Elt.lk (fun k => (((S k ∧ k < w.heap.size) ∨ w3.heap.size ≤ k) ∧ ¬ (k = W0.heap.size ∨ k = W1.heap.size) ∧ k ≠ w3.heap.size + 1) ∧ k < V.heap.size) V (.slice aH H.length cH) H ∧ RdL Elt.lk (fun k => (((S k ∧ k < w.heap.size) ∨ w3.heap.size ≤ k) ∧ ¬ (k = W0.heap.size ∨ k = W1.heap.size) ∧ k ≠ w3.heap.size + 1) ∧ k < V.heap.size) V (.slice aQ p.length cQ) p)
      (fun p x A B hA hg => by
        obtain ⟨x1, x2, x3, x4, aQ, cQ, h1, h2, h3, h4, h5⟩ := hA
        have hk : ∀ k, ((((S k ∧ k < w.heap.size) ∨ w3.heap.size ≤ k) ∧ ¬ (k = W0.heap.size ∨ k = W1.heap.size) ∧ k ≠ w3.heap.size + 1) ∧ k < A.heap.size) → B.heap[k]? = A.heap[k]? := fun k hk => hg.block k hk.2 fun e => by injection e with e; exact hk.1.2.2 e
        have hw : ∀ k, ((((S k ∧ k < w.heap.size) ∨ w3.heap.size ≤ k) ∧ ¬ (k = W0.heap.size ∨ k = W1.heap.size) ∧ k ≠ w3.heap.size + 1) ∧ k < A.heap.size) → ((((S k ∧ k < w.heap.size) ∨ w3.heap.size ≤ k) ∧ ¬ (k = W0.heap.size ∨ k = W1.heap.size) ∧ k ≠ w3.heap.size + 1) ∧ k < B.heap.size) := fun k hk => ⟨hk.1, Nat.lt_of_lt_of_le hk.2 hg.size⟩
        exact ⟨x1, x2, x3, x4, aQ, cQ, h1.other hg (by intro e; injection e with e; omega), h2.other hg (by intro e; injection e with e; omega), (h3.keep hk).weak hw, (h4.keep hk).weak hw, (h5.keep hk).weak hw⟩)
      (fun V x p x1 x2 x3 x4 aQ cQ ht hzV hSt hx hH2 hp => by
        have hOV := Bo.trd ht (by omega)
        by_cases hc : x.owner = o
        · refine (wait1_yes V hOV hSt.1 rfl hSt.2 (by omega) hc).mono ?_
          rintro e V' ⟨rfl, h1, h2, h3⟩
          have hN : ∀ {S9 : Nat → Prop}, (∀ k, S9 k → ¬ (k = W0.heap.size ∨ k = W1.heap.size)) → ∀ k, S9 k ∧ k < V.heap.size → V'.heap[k]? = V.heap[k]? := fun hS9 k hk => h1.block k hk.2 (hS9 k hk.1)
          refine ⟨h1, .inr ⟨by simp [hc], rfl, x1, x2, x3, x4, aQ, cQ, h2, h3, (hx.fit.keep (hN fun k hk => hk.2.1)).weak fun k hk => ⟨hk.1, Nat.lt_of_lt_of_le hk.2 h1.size⟩, (hH2.fit.keep (hN fun k hk => hk.2.1)).weak fun k hk => ⟨hk.1, Nat.lt_of_lt_of_le hk.2 h1.size⟩, (hp.fit.keep (hN fun k hk => hk.2.1)).weak fun k hk => ⟨hk.1, Nat.lt_of_lt_of_le hk.2 h1.size⟩⟩⟩
        · refine (wait1_no V hOV hc).mono ?_
          rintro e V' ⟨rfl, h1⟩
          exact ⟨Trd.of h1, .inl ⟨by simp [hc], rfl, hSt.1.below h1 hSt.1.lt, hSt.2.below h1 hSt.2.lt⟩⟩)
    go_upto_region 5 with (fail)
    go_wp2_with fail
    refine hlk.mono ?_
    rintro e w4 ⟨⟨vv, rfl⟩, ht, hres⟩
    have z4 := ht.size
    have q4 : Below w.heap.size w w4 := q.trans (ht.below q.size fun k hk e => by omega)
    replace Br := Br.trd ht (by omega)
    clear hlk b0 b1 ht hT1 hS2 Bw Bo
    rcases hres with ⟨hall, hT1, hS2⟩ | ⟨i, hi, hbef, hno, x1, x2, x3, x4, aQ, cQ, hT1, hS2, hx, hH2, hp⟩
    · have Hh := Lib.hid (show (decide (okLk H Q) && waitsL Q o) = false by
        rw [Bool.and_eq_false_iff]; right
        exact waits_no.2 fun y hy => by
          obtain ⟨j, hj, rfl⟩ := List.mem_iff_getElem.1 hy
          simpa using hall j hj)
      clear hall hok2
      go_upto_region 6 with (fail)
      refine wp_region_lnl (K := fun A B => A.grownBy B (some (w.heap.size + 1 + 1))) (by kernel_rfl) (by kernel_rfl) [2] (by kernel_rfl) [lEq (.agg #[.int .i64 0, .bool false, .int .i64 0, .slice none 0 0, .slice none 0 0, .bool false, .int .i64 0, .slice none 0 0, .slice none 0 0]), lEq (.bool false), lAny, lEq (.bool false)] (ResJ (w4) (w.heap.size + 1 + 1) [.int .i64 0, .bool false, .int .i64 0, .slice none 0 0, .slice none 0 0, .bool false, .int .i64 0, .slice none 0 0, .slice none 0 0]) ResJ.below (show Below (w4).heap.size (w4) (w4) from Below.refl _ _)
        ⟨?o0, ?o1, ?o2, ?o3, trivial⟩ ?fin
      case o0 =>
        refine LnOp.side rfl (by kernel_rfl) (fun A va w' k hF hT hk hJ hb hu hp hd => ?_)
        have e1 : A.eval (.tmp 6) = .pointer (some ⟨W0.heap.size, 0, none⟩) := hF 6 rfl
        have hX2 := hT1.other (ResJ.low hJ) (by intro e; injection e with e; omega)
        exact wp_loadU (us := [.int .i64 0, .bool false, .int .i64 0, .slice none 0 0, .slice none 0 0, .bool false, .int .i64 0, .slice none 0 0, .slice none 0 0]) akS rfl e1 (fun j u hj => by rw [Nat.zero_add]; exact hX2.cell hj) ⟨_, rfl, rfl, Below.refl _ _⟩
      case o1 =>
        refine LnOp.side rfl (by kernel_rfl) (fun A va w' k hF hT hk hJ hb hu hp hd => ?_)
        have e1 : A.eval (.tmp 7) = .pointer (some ⟨W1.heap.size, 0, none⟩) := hF 7 rfl
        exact wp_ld_bool  rfl (e1) (by kernel_rfl) ((hS2.other (ResJ.low hJ) (by intro e; injection e with e; omega)).cell (i := 0) rfl) ⟨_, rfl, rfl, Below.refl _ _⟩
      case o2 =>
        refine LnOp.line 0 rfl rfl (fun A va w' hF hT hJ hu hd => ?_)
        have e1 : A.eval (.tmp 4) = .pointer (some ⟨w.heap.size + 1 + 1, 0, none⟩) := hF 4 rfl
        have e2 : A.eval (.tmp 16) = .agg #[.int .i64 0, .bool false, .int .i64 0, .slice none 0 0, .slice none 0 0, .bool false, .int .i64 0, .slice none 0 0, .slice none 0 0] := (hT 16 0 (by simp) rfl).trans (hd ⟨0, .data⟩ (by simp) rfl rfl)
        have hJ0 : Below (w4).heap.size (w4) w' := hJ
        refine wp_boxStore (vs := [.int .i64 0, .bool false, .int .i64 0, .slice none 0 0, .slice none 0 0, .bool false, .int .i64 0, .slice none 0 0, .slice none 0 0]) (us := [.int .i64 0, .bool false, .int .i64 0, .slice none 0 0, .slice none 0 0, .bool false, .int .i64 0, .slice none 0 0, .slice none 0 0]) (by kernel_rfl) rfl e1 e2 rfl (Br.below hJ0 Br.lt) rfl (fun w2 hg hz => ⟨_, rfl, ⟨grownT (grownB hJ0 _) hg, hz⟩, hg⟩)
      case o3 =>
        refine LnOp.side rfl (by kernel_rfl) (fun A va w' k hF hT hk hJ hb hu hp hd => ?_)
        have e1 : A.eval (.tmp 17) = .bool false := (hT 17 1 (by simp) rfl).trans (hd ⟨1, .data⟩ (by simp) rfl rfl)
        exact BigFrame.wp_assign _ rfl ⟨_, rfl, e1, Below.refl _ _⟩
      case fin =>
        intro vs1 W9 hJ hG
        obtain ⟨hg9, hR9⟩ := hJ
        have g0 : vs1 0 = .agg #[.int .i64 0, .bool false, .int .i64 0, .slice none 0 0, .slice none 0 0, .bool false, .int .i64 0, .slice none 0 0, .slice none 0 0] := hG 0 (by decide) rfl
        have g1 : vs1 1 = .bool false := hG 1 (by decide) rfl
        have g3 : vs1 3 = .bool false := hG 3 (by decide) rfl
        clear hG
        simp only [putAll, g0, g1, g3]
        clear g0 g1 g3
        go_simp
        have r0 := hR9.cell (i := 0) rfl
        have r1 := hR9.cell (i := 1) rfl
        have r2 := hR9.cell (i := 2) rfl
        have r3 := hR9.cell (i := 3) rfl
        have r4 := hR9.cell (i := 4) rfl
        have r5 := hR9.cell (i := 5) rfl
        have r6 := hR9.cell (i := 6) rfl
        have r7 := hR9.cell (i := 7) rfl
        have r8 := hR9.cell (i := 8) rfl
        go_wp2_with fail
        obtain ⟨⟨fs, hu⟩, hs⟩ := akS
        refine bodyPost_ret (v := .tuple #[.agg #[.int .i64 0, .bool false, .int .i64 0, .slice none 0 0, .slice none 0 0, .bool false, .int .i64 0, .slice none 0 0, .slice none 0 0], .bool false]) (by simp [results, Tryd.results32, go_sem, loadVar, isAgg, run_underlying hu, run_sizeOf' hs, loadCellsFrom, Addr.add, r0, r1, r2, r3, r4, r5, r6, r7, r8]) rfl ?_
        exact ⟨q4.grown hg9 q4.size (fun k e => by injection e with e; omega), .inr ⟨Hh.out, rfl⟩⟩
    · have hbe := Lib.hid (show ∀ y ∈ Q.take i, y.owner ≠ o from fun y hy => by
        obtain ⟨j, hj, rfl⟩ := List.mem_iff_getElem.1 hy
        rw [List.length_take] at hj
        rw [List.getElem_take]
        simpa using hbef j (by omega))
      have hno2 := Lib.hid (show Q[i].owner = o by simpa using hno)
      obtain ⟨x, ex⟩ : ∃ x, x = Q[i] := ⟨_, rfl⟩
      obtain ⟨p, ep⟩ : ∃ p, p = Q.take i := ⟨_, rfl⟩
      rw [← ex] at hT1 hx
      rw [← ep] at hT1 hp
      replace ex := Lib.hid ex
      replace ep := Lib.hid ep
      unfold akV at hT1
      clear hbef hno
      go_upto_region 6 with (fail)
      refine wp_region_lnl (K := fun A B => A.grownBy B (some (w.heap.size + 1 + 1))) (by kernel_rfl) (by kernel_rfl) [2] (by kernel_rfl) [lEq (.agg #[.int .i64 x.owner, .bool x.whole, .int .i64 x.span.table, .slice x1 x.span.lo.length x2, .slice x3 x.span.hi.length x4, .bool x.span.isOpen, .int .i64 x.mode, .slice aH H.length cH, .slice aQ p.length cQ]), lEq (.bool true), lAny, lEq (.bool true)] (ResJ (w4) (w.heap.size + 1 + 1) [.int .i64 x.owner, .bool x.whole, .int .i64 x.span.table, .slice x1 x.span.lo.length x2, .slice x3 x.span.hi.length x4, .bool x.span.isOpen, .int .i64 x.mode, .slice aH H.length cH, .slice aQ p.length cQ]) ResJ.below (show Below (w4).heap.size (w4) (w4) from Below.refl _ _)
        ⟨?o0, ?o1, ?o2, ?o3, trivial⟩ ?fin
      case o0 =>
        refine LnOp.side rfl (by kernel_rfl) (fun A va w' k hF hT hk hJ hb hu hp hd => ?_)
        have e1 : A.eval (.tmp 6) = .pointer (some ⟨W0.heap.size, 0, none⟩) := hF 6 rfl
        have hX2 := hT1.other (ResJ.low hJ) (by intro e; injection e with e; omega)
        exact wp_loadU (us := [.int .i64 x.owner, .bool x.whole, .int .i64 x.span.table, .slice x1 x.span.lo.length x2, .slice x3 x.span.hi.length x4, .bool x.span.isOpen, .int .i64 x.mode, .slice aH H.length cH, .slice aQ p.length cQ]) akS rfl e1 (fun j u hj => by rw [Nat.zero_add]; exact hX2.cell hj) ⟨_, rfl, rfl, Below.refl _ _⟩
      case o1 =>
        refine LnOp.side rfl (by kernel_rfl) (fun A va w' k hF hT hk hJ hb hu hp hd => ?_)
        have e1 : A.eval (.tmp 7) = .pointer (some ⟨W1.heap.size, 0, none⟩) := hF 7 rfl
        exact wp_ld_bool  rfl (e1) (by kernel_rfl) ((hS2.other (ResJ.low hJ) (by intro e; injection e with e; omega)).cell (i := 0) rfl) ⟨_, rfl, rfl, Below.refl _ _⟩
      case o2 =>
        refine LnOp.line 0 rfl rfl (fun A va w' hF hT hJ hu hd => ?_)
        have e1 : A.eval (.tmp 4) = .pointer (some ⟨w.heap.size + 1 + 1, 0, none⟩) := hF 4 rfl
        have e2 : A.eval (.tmp 16) = .agg #[.int .i64 x.owner, .bool x.whole, .int .i64 x.span.table, .slice x1 x.span.lo.length x2, .slice x3 x.span.hi.length x4, .bool x.span.isOpen, .int .i64 x.mode, .slice aH H.length cH, .slice aQ p.length cQ] := (hT 16 0 (by simp) rfl).trans (hd ⟨0, .data⟩ (by simp) rfl rfl)
        have hJ0 : Below (w4).heap.size (w4) w' := hJ
        refine wp_boxStore (vs := [.int .i64 0, .bool false, .int .i64 0, .slice none 0 0, .slice none 0 0, .bool false, .int .i64 0, .slice none 0 0, .slice none 0 0]) (us := [.int .i64 x.owner, .bool x.whole, .int .i64 x.span.table, .slice x1 x.span.lo.length x2, .slice x3 x.span.hi.length x4, .bool x.span.isOpen, .int .i64 x.mode, .slice aH H.length cH, .slice aQ p.length cQ]) (by kernel_rfl) rfl e1 e2 rfl (Br.below hJ0 Br.lt) rfl (fun w2 hg hz => ⟨_, rfl, ⟨grownT (grownB hJ0 _) hg, hz⟩, hg⟩)
      case o3 =>
        refine LnOp.side rfl (by kernel_rfl) (fun A va w' k hF hT hk hJ hb hu hp hd => ?_)
        have e1 : A.eval (.tmp 17) = .bool true := (hT 17 1 (by simp) rfl).trans (hd ⟨1, .data⟩ (by simp) rfl rfl)
        exact BigFrame.wp_assign _ rfl ⟨_, rfl, e1, Below.refl _ _⟩
      case fin =>
        intro vs1 W9 hJ hG
        obtain ⟨hg9, hR9⟩ := hJ
        have g0 : vs1 0 = .agg #[.int .i64 x.owner, .bool x.whole, .int .i64 x.span.table, .slice x1 x.span.lo.length x2, .slice x3 x.span.hi.length x4, .bool x.span.isOpen, .int .i64 x.mode, .slice aH H.length cH, .slice aQ p.length cQ] := hG 0 (by decide) rfl
        have g1 : vs1 1 = .bool true := hG 1 (by decide) rfl
        have g3 : vs1 3 = .bool true := hG 3 (by decide) rfl
        clear hG
        simp only [putAll, g0, g1, g3]
        clear g0 g1 g3
        go_simp
        have r0 := hR9.cell (i := 0) rfl
        have r1 := hR9.cell (i := 1) rfl
        have r2 := hR9.cell (i := 2) rfl
        have r3 := hR9.cell (i := 3) rfl
        have r4 := hR9.cell (i := 4) rfl
        have r5 := hR9.cell (i := 5) rfl
        have r6 := hR9.cell (i := 6) rfl
        have r7 := hR9.cell (i := 7) rfl
        have r8 := hR9.cell (i := 8) rfl
        go_wp2_with fail
        obtain ⟨⟨fs, hu⟩, hs⟩ := akS
        refine bodyPost_ret (v := .tuple #[.agg #[.int .i64 x.owner, .bool x.whole, .int .i64 x.span.table, .slice x1 x.span.lo.length x2, .slice x3 x.span.hi.length x4, .bool x.span.isOpen, .int .i64 x.mode, .slice aH H.length cH, .slice aQ p.length cQ], .bool true]) (by simp [results, Tryd.results32, go_sem, loadVar, isAgg, run_underlying hu, run_sizeOf' hs, loadCellsFrom, Addr.add, r0, r1, r2, r3, r4, r5, r6, r7, r8]) rfl ?_
        have z9 := hg9.size
        have hk9 : ∀ k, ((((S k ∧ k < w.heap.size) ∨ w3.heap.size ≤ k) ∧ ¬ (k = W0.heap.size ∨ k = W1.heap.size) ∧ k ≠ w3.heap.size + 1) ∧ k < w4.heap.size) → W9.heap[k]? = w4.heap[k]? := fun k hk => hg9.block k hk.2 fun e => by injection e with e; rcases hk.1.1 with h | h <;> omega
        have hw9 : ∀ k, ((((S k ∧ k < w.heap.size) ∨ w3.heap.size ≤ k) ∧ ¬ (k = W0.heap.size ∨ k = W1.heap.size) ∧ k ≠ w3.heap.size + 1) ∧ k < w4.heap.size) → k < W9.heap.size := fun k hk => Nat.lt_of_lt_of_le hk.2 hg9.size
        refine ⟨q4.grown hg9 q4.size (fun k e => by injection e with e; omega), .inl ⟨hok2.out, i, hi, hno2.out, hbe.out, ?_⟩⟩
        rw [← ex.out, ← ep.out]
        exact ⟨x1, x2, x3, x4, aH, cH, aQ, cQ, rfl, (hx.keep hk9).weak hw9, (hH2.keep hk9).weak hw9, (hp.keep hk9).weak hw9⟩
set_option maxRecDepth 100000 in
set_option maxHeartbeats 4000000 in
theorem lWaits_any (w : World) (hT : TabAt w) {S : Nat → Prop} {v : Value} {H Q : List Lk} {o : Int} (h : RdLs S w v H Q) (hnH : H.length ≤ 1000000) (hnQ : Q.length ≤ 1000000) :
    Calls Tryd.prog 18 #[v, .int .i64 o] w fun e w' => e = .returned (.bool (decide (okLk H Q) && waitsL Q o)) ∧ Below w.heap.size w w' := by
  have hfull := h
  obtain ⟨aH, cH, aL, cL, rfl, hH, hQ⟩ := h
  clear hH hQ
  obtain ⟨W, hW, q, Bw, hsz⟩ := spBox w 24 [.slice aH H.length cH, .slice aL Q.length cL]
  clear hsz
  go_enter Tryd.func18, Tryd.ntmps18
  go_upto_region 1 with (fail)
  rw [show w.alloc (.cells #[.slice aH H.length cH, .slice aL Q.length cL] 24) = W from hW.symm]
  clear hW
  have hC := waiting_any W (hT.below q) (o := o) (hfull.below q) hnH hnQ
  have b0 := Bw.cell (i := 0) rfl
  have b1 := Bw.cell (i := 1) rfl
  go_wp2_with fail
  refine hC.mono ?_
  rintro e w1 ⟨hb, hres⟩
  replace q := q.trans (hb.mono q.size)
  clear hC b0 b1 Bw hb
  rcases hres with ⟨hok, i, hi, hio, _, x1, x2, x3, x4, aH2, cH2, aQ2, cQ2, rfl, _⟩ | ⟨hno, rfl⟩
  · have Hh := Lib.hid (show (decide (okLk H Q) && waitsL Q o) = true by
      rw [decide_eq_true hok, Bool.true_and]
      unfold waitsL
      exact List.any_eq_true.2 ⟨_, List.getElem_mem hi, by simpa using hio⟩)
    obtain ⟨x, ex⟩ : ∃ x, x = Q[i] := ⟨_, rfl⟩
    obtain ⟨p, ep⟩ : ∃ p, p = Q.take i := ⟨_, rfl⟩
    rw [← ex, ← ep]
    clear ex ep hio hok
    unfold akV
    go_wp2_with (first | (refine wpList_boxNew (vs := [.int .i64 0, .bool false, .int .i64 0, .slice none 0 0, .slice none 0 0, .bool false, .int .i64 0, .slice none 0 0, .slice none 0 0]) (by kernel_rfl) rfl rfl ?_; intro wa hba hBa) | (refine wpList_boxStore (us := [.int .i64 x.owner, .bool x.whole, .int .i64 x.span.table, .slice x1 x.span.lo.length x2, .slice x3 x.span.hi.length x4, .bool x.span.isOpen, .int .i64 x.mode, .slice aH2 H.length cH2, .slice aQ2 p.length cQ2]) (by kernel_rfl) rfl rfl rfl rfl rfl rfl hBa rfl ?_; intro W3 hgw hYW) | fail)
    go_ret
    exact ⟨by first | (rw [Hh.out]; done) | (rw [Hh.out]; rfl), q.trans ((hba.grown hgw hba.size fun k hk => by injection hk with hk; omega).mono q.size)⟩
  · have Hh := Lib.hid hno
    clear hno
    go_wp2_with (first | (refine wpList_boxNew (vs := [.int .i64 0, .bool false, .int .i64 0, .slice none 0 0, .slice none 0 0, .bool false, .int .i64 0, .slice none 0 0, .slice none 0 0]) (by kernel_rfl) rfl rfl ?_; intro wa hba hBa) | (refine wpList_boxStore (us := [.int .i64 0, .bool false, .int .i64 0, .slice none 0 0, .slice none 0 0, .bool false, .int .i64 0, .slice none 0 0, .slice none 0 0]) (by kernel_rfl) rfl rfl rfl rfl rfl rfl hBa rfl ?_; intro W3 hgw hYW) | fail)
    go_ret
    exact ⟨by first | (rw [Hh.out]; done) | (rw [Hh.out]; rfl), q.trans ((hba.grown hgw hba.size fun k hk => by injection hk with hk; omega).mono q.size)⟩
end Go.Proofs.YtpdnehgboafgpaaDoor
namespace Go.Proofs.YtpdnehgboafgpaaDoor
open Go.RowKit Go.Shelf
def blkO (x : Lk) (l : List Lk) : List Int := (l.filter (clashL x)).map (·.owner)
theorem blkO_snoc {x : Lk} {l : List Lk} {k : Nat} (h : k < l.length) : blkO x (l.take (k + 1)) = blkO x (l.take k) ++ (if clashL x l[k] = true then [l[k].owner] else []) := by
  unfold blkO
  rw [List.take_succ_eq_append_getElem h, List.filter_append, List.map_append]
  congr 1
  by_cases e : clashL x l[k] = true <;> simp [e]
theorem RdL.srcC {α : Type} {E : Elt α} {S : Nat → Prop} {w : World} {ad : Option Addr} {n c : Nat} {xs : List α} (h : RdL E S w (.slice ad n c) xs) : ∃ vs, Flat E S w xs vs ∧ SrcC E.size w ad xs.length vs := by
  have hs := h
  obtain ⟨a', cap, h1, h2, h3, h4⟩ := h
  cases h1
  rcases h4 with rfl | ⟨b, off, rfl, hb, hq⟩
  · exact ⟨[], rfl, by simp, fun _ => rfl, fun p _ j u hj => by simp at hj, fun u hu => by cases hu⟩
  · obtain ⟨vs, h5, h6⟩ := hs.flat
    exact ⟨vs, h5, h5.len, (fun h => by cases h), fun p hp j u hj => by cases hp; rw [Addr.add_lit]; exact h6 j u hj, h5.one⟩
section
variable {ops : Array Oper} {rest : List Oper} {o : Oper} {a : Act} {Q : Exit → Act → World → Prop} {w : World} {x y : Operand} {a1 a2 : Option Addr} {n1 n2 c1 c2 : Nat}
theorem wpList_two (ho : o.op = .buildSlice 99 2 #[(0, x), (1, y)]) (hgd : Region.wanted o (yielded ops a.tmps) = true) (hx : a.eval x = .slice a1 n1 c1) (hy : a.eval y = .slice a2 n2 c2)
    (h : ∀ w', Below w.heap.size w w' → w'.heap[w.heap.size]? = some (.cells #[.slice a1 n1 c1, .slice a2 n2 c2] 22 (0, 0)) → wpList Tryd.prog ops Q rest (a.put o.dst (.slice (some ⟨w.heap.size, 0, none⟩) 2 2)) w') : wpList Tryd.prog ops Q (o :: rest) a w := by
  have hrun : (Instr.buildSlice 99 2 #[(0, .slice a1 n1 c1), (1, .slice a2 n2 c2)]).run Tryd.prog w = .ok (.slice (some ⟨w.heap.size, 0, none⟩) 2 2) (w.alloc (.cells #[.slice a1 n1 c1, .slice a2 n2 c2] 22)) := by
    go_simp
  refine BigFrame.wpList_want hgd fun _ hK => ?_
  unfold Oper.wp execOp
  simp only [ho, hx, hy, Sem.run_bind, Sem.run_pure, Result.andThen_ok, List.map_toArray, List.map_cons, List.map_nil, hrun]
  exact hK _ _ (h _ ((Below.refl _ _).alloc (Nat.le_refl _) _) (by simp only [World.alloc, Array.getElem?_push_size]))
end
set_option maxRecDepth 100000 in
set_option maxHeartbeats 4000000 in
theorem blockers_any (w : World) (hT : TabAt w) {S S2 S3 : Nat → Prop} {x : Lk} {x1 x3 aH aQ : Option Addr} {x2 x4 cH cQ : Nat} {H Q : List Lk} (hx : RdLk S w (.agg #[.int .i64 x.owner, .bool x.whole, .int .i64 x.span.table, .slice x1 x.span.lo.length x2, .slice x3 x.span.hi.length x4, .bool x.span.isOpen, .int .i64 x.mode]) x)
    (hH : RdL Elt.lk S2 w (.slice aH H.length cH) H) (hQ : RdL Elt.lk S3 w (.slice aQ Q.length cQ) Q) (hnH : H.length ≤ 400000) (hnQ : Q.length ≤ 400000) :
    Calls Tryd.prog 33 #[.agg #[.int .i64 x.owner, .bool x.whole, .int .i64 x.span.table, .slice x1 x.span.lo.length x2, .slice x3 x.span.hi.length x4, .bool x.span.isOpen, .int .i64 x.mode, .slice aH H.length cH, .slice aQ Q.length cQ]] w fun e w' => ∃ a c, e = .returned (.slice a (riseL (blkO x (H ++ Q))).length c) ∧ OwnL Elt.int 3 w.heap.size w.heap.size w' (.slice a (riseL (blkO x (H ++ Q))).length c) (riseL (blkO x (H ++ Q))) ∧ Below w.heap.size w w' := by
  obtain ⟨W, hW, q, Bx, hsz⟩ := spBox w 61 [.int .i64 x.owner, .bool x.whole, .int .i64 x.span.table, .slice x1 x.span.lo.length x2, .slice x3 x.span.hi.length x4, .bool x.span.isOpen, .int .i64 x.mode, .slice aH H.length cH, .slice aQ Q.length cQ]
  clear hsz
  go_enter Tryd.func33, Tryd.ntmps33
  go_upto_region 1 with (fail)
  rw [show w.alloc (.cells #[.int .i64 x.owner, .bool x.whole, .int .i64 x.span.table, .slice x1 x.span.lo.length x2, .slice x3 x.span.hi.length x4, .bool x.span.isOpen, .int .i64 x.mode, .slice aH H.length cH, .slice aQ Q.length cQ] 61) = W from hW.symm]
  clear hW
  have c7 := Bx.cell (i := 7) rfl
  have c8 := Bx.cell (i := 8) rfl
  go_wp2_with (first | (refine wpList_two rfl rfl rfl rfl ?_; intro w1 hb1 hrow) | fail)
  have q1 := q.trans (hb1.mono q.size)
  obtain ⟨vH, fH, sH⟩ := ((hH.below q1).fit.weak (S' := fun k => k < w1.heap.size) fun k hk => hk.2).srcC
  obtain ⟨vQ, fQ, sQ⟩ := ((hQ.below q1).fit.weak (S' := fun k => k < w1.heap.size) fun k hk => hk.2).srcC
  have z1 : W.heap.size < w1.heap.size := (Array.getElem?_eq_some_iff.1 hrow).1
  have hC := concat_l w1 (B := W.heap.size) (m := 2) (ps := [⟨aH, H.length, cH, vH⟩, ⟨aQ, Q.length, cQ, vQ⟩]) (fun k hk => by
    match k, hk with
    | 0, _ => simp [World.cell?, hrow, Pc.v]
    | 1, _ => simp [World.cell?, hrow, Pc.v]) rfl (by omega) (fun p hp => by
    simp only [List.mem_cons, List.not_mem_nil, or_false] at hp
    rcases hp with rfl | rfl
    · exact sH
    · exact sQ) (by simp [sumC]; omega)
  refine hC.mono ?_
  rintro e w2 ⟨v2, rfl, hr2, hrb, hb2⟩
  have hsum : sumC [⟨aH, H.length, cH, vH⟩, ⟨aQ, Q.length, cQ, vQ⟩] = (H ++ Q).length := by simp [sumC]
  have hall : allC [⟨aH, H.length, cH, vH⟩, ⟨aQ, Q.length, cQ, vQ⟩] = vH ++ vQ := by simp [allC]
  rw [hsum, hall] at hr2
  have hF2 : OwnF Elt.lk 29 (fun k => k < w1.heap.size) w2 v2 (H ++ Q) := ⟨_, hr2, (fH.keep fun k hk => hb2.block k hk).append (fQ.keep fun k hk => hb2.block k hk)⟩
  obtain ⟨aL, cL, rfl, hLn, hLc⟩ := hF2.shape
  have hL : RdL Elt.lk (fun k => k < w2.heap.size) w2 (.slice aL (H ++ Q).length cL) (H ++ Q) := hF2.rdL.fit.weak fun k hk => hk.2
  obtain ⟨L, eL⟩ : ∃ L, L = H ++ Q := ⟨_, rfl⟩
  have hLl : L.length ≤ 800000 := by rw [eL, List.length_append]; omega
  rw [← eL] at hL ⊢
  have z2 := hb2.size
  have q2 := q1.trans (hb2.mono q1.size)
  have zx := Bx.lt
  have Bx2 := Bx.below (hb1.trans (hb2.mono hb1.size)) Bx.lt
  clear hC hsum hall hr2 hF2 hrb sH sQ fH fQ hrow c7 c8 hLn hLc hH hQ
  replace eL := Lib.hid eL
  go_upto_region 3 with (fail)
  go_loopw [3, 15] (fun ov iv wr => ∃ (k : Nat) (ad : Option Addr) (ko : Nat), iv = .int .i64 k ∧ k ≤ L.length ∧ ov = .slice ad (blkO x (L.take k)).length ko ∧ OwnL Elt.int 3 w2.heap.size w2.heap.size wr (.slice ad (blkO x (L.take k)).length ko) (blkO x (L.take k)) ∧ Below w2.heap.size w2 wr)
    (fun _ i _ => L.length - (intOf i).toNat)
  case atStart => exact ⟨0, none, 0, rfl, Nat.zero_le _, rfl, OwnL.nil _ _ _ _ _, Below.refl _ _⟩
  case round =>
    obtain ⟨k, ad, ko, rfl, hkl, rfl, hO, qr⟩ := hrel
    have zr := qr.size
    have q3 := q2.trans (qr.mono q2.size)
    have Bx3 := Bx2.below qr Bx2.lt
    rcases Nat.lt_or_ge k L.length with hlt | hge
    · obtain ⟨b, off, KA, KC, VA, VC, rfl, hb, c0, c1, c2, c3, c4, c5, c6, hk1, hk2, hw64⟩ := (hL.below qr).lk k hlt
      have hsn := Lib.hid (blkO_snoc (x := x) hlt)
      obtain ⟨y, ey⟩ : ∃ y, y = L[k] := ⟨_, rfl⟩
      obtain ⟨xs, exs⟩ : ∃ xs, xs = blkO x (L.take k) := ⟨_, rfl⟩
      have hxl : xs.length ≤ 800000 := by
        rw [exs]; unfold blkO; rw [List.length_map]
        refine Nat.le_trans (List.length_filter_le _ _) ?_
        rw [List.length_take]; omega
      rw [← ey] at c0 c1 c2 c3 c4 c5 c6 hk1 hk2 hw64 hsn
      rw [← exs] at hO hsn ⊢
      clear ey exs
      go_upto_region 5 with (first | (refine wpList_boxNew (vs := [.int .i64 0, .bool false, .int .i64 0, .slice none 0 0, .slice none 0 0, .bool false, .int .i64 0]) (by kernel_rfl) rfl rfl ?_; intro wa hba hBa) | (refine wpList_boxStore (us := [.int .i64 y.owner, .bool y.whole, .int .i64 y.span.table, .slice KA y.span.lo.length KC, .slice VA y.span.hi.length VC, .bool y.span.isOpen, .int .i64 y.mode]) (by kernel_rfl) rfl rfl rfl rfl rfl rfl hBa rfl ?_; intro W4 hgw hYW) | fail)
      go_simp
      have hbw : Below wr.heap.size wr W4 := hba.grown hgw hba.size fun k hk => by injection hk with hk; omega
      have hy : RdLk (fun k => k < w2.heap.size) W4 (.agg #[.int .i64 y.owner, .bool y.whole, .int .i64 y.span.table, .slice KA y.span.lo.length KC, .slice VA y.span.hi.length VC, .bool y.span.isOpen, .int .i64 y.mode]) y := ⟨_, _, _, _, rfl, hk1.below hbw, hk2.below hbw, hw64⟩
      have q4 := q3.trans (hbw.mono q3.size)
      have qr4 := qr.trans (hbw.mono qr.size)
      have Bx4 := Bx3.below hbw Bx3.lt
      replace hO := hO.below hbw
      have zw := hbw.size
      clear c0 c1 c2 c3 c4 c5 c6 hk1 hk2 hba hBa hgw hbw
      have hC := clashes_any W4 (hT.below q4) (hx.below q4) hy
      have c0 := Bx4.cell (i := 0) rfl
      have c1 := Bx4.cell (i := 1) rfl
      have c2 := Bx4.cell (i := 2) rfl
      have c3 := Bx4.cell (i := 3) rfl
      have c4 := Bx4.cell (i := 4) rfl
      have c5 := Bx4.cell (i := 5) rfl
      have c6 := Bx4.cell (i := 6) rfl
      have f0 := hYW.cell (i := 0) rfl
      have f1 := hYW.cell (i := 1) rfl
      have f2 := hYW.cell (i := 2) rfl
      have f3 := hYW.cell (i := 3) rfl
      have f4 := hYW.cell (i := 4) rfl
      have f5 := hYW.cell (i := 5) rfl
      have f6 := hYW.cell (i := 6) rfl
      go_wp2_with fail
      refine hC.mono ?_
      rintro e w5 ⟨rfl, hb5⟩
      have z5 := hb5.size
      replace hO := hO.below hb5
      replace hYW := hYW.below hb5 hYW.lt
      replace qr4 := qr4.trans (hb5.mono qr4.size)
      clear c0 c1 c2 c3 c4 c5 c6 f0 f1 f2 f3 f4 f5 f6 hC hb5 hy
      have f0 := hYW.cell (i := 0) rfl
      cases hcl : clashL x y with
      | false =>
        have hs2 := Lib.hid (show blkO x (L.take (k + 1)) = xs by rw [hsn.out, hcl]; simp)
        clear hcl hsn
        go_wp2_with fail
        go_roundw
        case rel => exact ⟨k + 1, ad, ko, by go_num, by omega, by rw [hs2.out], by rw [hs2.out]; exact hO, qr4⟩
        case measure => simp [intOf]; omega
      | true =>
        have hs2 := Lib.hid (show blkO x (L.take (k + 1)) = xs ++ [y.owner] by rw [hsn.out, hcl]; simp)
        clear hcl hsn
        have hrr : ∀ k, Value.ownBlock (.slice ad xs.length ko) = some k → w2.heap.size ≤ k ∧ k < w5.heap.size := fun k hk => hO.block_lt k hk
        have hR : ∀ V, Elt.int.R (fun k => w2.heap.size ≤ k ∧ k < w2.heap.size) V y.owner [.int .i64 y.owner] := fun V => ⟨rfl, hw64.1⟩
        have hSV : ∀ V : World, ∀ k, (w2.heap.size ≤ k ∧ k < w2.heap.size) → w2.heap.size ≤ k ∧ k < V.heap.size ∧ some k ≠ Value.ownBlock (.slice ad xs.length ko) := fun V k hk => by omega
        have hbs : ∀ V : World, Below w5.heap.size w5 V → w2.heap.size ≤ V.heap.size := fun V h => by have := h.size; have := qr4.size; omega
        go_wp2_with (first
          | (refine wpList_buildOne inP rfl rfl rfl (us := [.int .i64 y.owner]) rfl rfl (by decide) (by decide) ?_; intro w6 hb6 hrow)
          | (refine wpList_apvRow (E := Elt.int) (n := xs.length + 1) inP rfl rfl rfl rfl (hO.below hb6) hrow (hR _) (hSV _) (hbs _ hb6) (by omega) rfl ?_; intro ad9 c9 w7 hO9 hg7 ho9)
          | fail)
        have hln : (xs ++ [y.owner]).length = xs.length + 1 := by rw [List.length_append]; rfl
        have q9 : Below w2.heap.size w2 w7 := (qr4.trans (hb6.mono qr4.size)).grown hg7 (qr4.trans (hb6.mono qr4.size)).size fun k hk => (hrr k hk).1
        rw [← hln] at hO9
        clear hrr hR hSV hbs hg7 hO hrow hb6 ho9 hYW f0
        go_roundw
        case rel => exact ⟨k + 1, ad9, c9, by go_num, by omega, by rw [hs2.out, hln], by rw [hs2.out]; exact hO9, q9⟩
        case measure => simp [intOf]; omega
    · obtain rfl : k = L.length := by omega
      rw [List.take_length] at hO ⊢
      have hbl : (blkO x L).length ≤ 800000 := by
        unfold blkO; rw [List.length_map]
        exact Nat.le_trans (List.length_filter_le _ _) hLl
      have hR := rising_any wr hO (by omega)
      have hOl := fun k hk => hO.block_lt k hk
      go_wp2_with fail
      refine hR.mono ?_
      rintro e w4 ⟨c', rfl, hO4, hg4⟩
      go_wp2_with fail
      go_ret
      have zq := q2.size
      rw [← eL.out]
      exact ⟨_, _, rfl, hO4.to (by omega) (by omega), q3.grown hg4 q3.size fun k hk => by have := hOl k hk; omega⟩
set_option maxRecDepth 100000 in
set_option maxHeartbeats 4000000 in
theorem lBlockers_any (w : World) (hT : TabAt w) {S : Nat → Prop} {v : Value} {H Q : List Lk} {o : Int} (h : RdLs S w v H Q) (hnH : H.length ≤ 400000) (hnQ : Q.length ≤ 400000) :
    Calls Tryd.prog 12 #[v, .int .i64 o] w fun e w' => ∃ l a c, e = .returned (.slice a l.length c) ∧ OwnL Elt.int 3 w.heap.size w.heap.size w' (.slice a l.length c) l ∧ Below w.heap.size w w' ∧
      ((okLk H Q ∧ ∃ i, ∃ h : i < Q.length, Q[i].owner = o ∧ (∀ y ∈ Q.take i, y.owner ≠ o) ∧ l = riseL (blkO Q[i] (H ++ Q.take i))) ∨ (decide (okLk H Q) && waitsL Q o) = false ∧ l = []) := by
  have hfull := h
  obtain ⟨aH, cH, aL, cL, rfl, hH, hQ⟩ := h
  clear hH hQ
  obtain ⟨W, hW, q, Bw, hsz⟩ := spBox w 24 [.slice aH H.length cH, .slice aL Q.length cL]
  clear hsz
  go_enter Tryd.func12, Tryd.ntmps12
  go_upto_region 1 with (fail)
  rw [show w.alloc (.cells #[.slice aH H.length cH, .slice aL Q.length cL] 24) = W from hW.symm]
  clear hW
  have hC := waiting_any W (hT.below q) (o := o) (hfull.below q) (by omega) (by omega)
  have b0 := Bw.cell (i := 0) rfl
  have b1 := Bw.cell (i := 1) rfl
  go_wp2_with fail
  refine hC.mono ?_
  rintro e w1 ⟨hb, hres⟩
  replace q := q.trans (hb.mono q.size)
  clear hC b0 b1 Bw hb
  rcases hres with ⟨hok, i, hi, hio, hbe, x1, x2, x3, x4, aH2, cH2, aQ2, cQ2, rfl, hx, hH, hQ⟩ | ⟨hno, rfl⟩
  · have hpl : (Q.take i).length ≤ 400000 := by rw [List.length_take]; omega
    have hfin := Lib.hid (show ∀ l, l = riseL (blkO Q[i] (H ++ Q.take i)) → ((okLk H Q ∧ ∃ i, ∃ h : i < Q.length, Q[i].owner = o ∧ (∀ y ∈ Q.take i, y.owner ≠ o) ∧ l = riseL (blkO Q[i] (H ++ Q.take i))) ∨ (decide (okLk H Q) && waitsL Q o) = false ∧ l = []) from fun l hl => .inl ⟨hok, i, hi, hio, hbe, hl⟩)
    obtain ⟨x, ex⟩ : ∃ x, x = Q[i] := ⟨_, rfl⟩
    obtain ⟨p, ep⟩ : ∃ p, p = Q.take i := ⟨_, rfl⟩
    rw [← ex, ← ep] at hfin
    rw [← ex] at hx ⊢
    rw [← ep] at hQ hpl ⊢
    clear ex ep hio hok hbe
    unfold akV
    go_upto_region 2 with (first | (refine wpList_boxNew (vs := [.int .i64 0, .bool false, .int .i64 0, .slice none 0 0, .slice none 0 0, .bool false, .int .i64 0, .slice none 0 0, .slice none 0 0]) (by kernel_rfl) rfl rfl ?_; intro wa hba hBa) | (refine wpList_boxStore (us := [.int .i64 x.owner, .bool x.whole, .int .i64 x.span.table, .slice x1 x.span.lo.length x2, .slice x3 x.span.hi.length x4, .bool x.span.isOpen, .int .i64 x.mode, .slice aH2 H.length cH2, .slice aQ2 p.length cQ2]) (by kernel_rfl) rfl rfl rfl rfl rfl rfl hBa rfl ?_; intro W3 hgw hYW) | fail)
    have hbw : Below w1.heap.size w1 W3 := hba.grown hgw hba.size fun k hk => by injection hk with hk; omega
    replace q := q.trans (hbw.mono q.size)
    have hB := blockers_any W3 (hT.below q) (hx.below hbw) (hH.below hbw) (hQ.below hbw) hnH hpl
    have f0 := hYW.cell (i := 0) rfl
    have f1 := hYW.cell (i := 1) rfl
    have f2 := hYW.cell (i := 2) rfl
    have f3 := hYW.cell (i := 3) rfl
    have f4 := hYW.cell (i := 4) rfl
    have f5 := hYW.cell (i := 5) rfl
    have f6 := hYW.cell (i := 6) rfl
    have f7 := hYW.cell (i := 7) rfl
    have f8 := hYW.cell (i := 8) rfl
    go_wp2_with fail
    refine hB.mono ?_
    rintro e w4 ⟨a9, c9, rfl, hO9, hb9⟩
    go_wp2_with fail
    go_ret
    exact ⟨_, _, _, rfl, hO9.to q.size q.size, q.trans (hb9.mono q.size), hfin.out _ rfl⟩
  · have Hh := Lib.hid hno
    clear hno
    go_upto_region 2 with (first | (refine wpList_boxNew (vs := [.int .i64 0, .bool false, .int .i64 0, .slice none 0 0, .slice none 0 0, .bool false, .int .i64 0, .slice none 0 0, .slice none 0 0]) (by kernel_rfl) rfl rfl ?_; intro wa hba hBa) | (refine wpList_boxStore (us := [.int .i64 0, .bool false, .int .i64 0, .slice none 0 0, .slice none 0 0, .bool false, .int .i64 0, .slice none 0 0, .slice none 0 0]) (by kernel_rfl) rfl rfl rfl rfl rfl rfl hBa rfl ?_; intro W3 hgw hYW) | fail)
    have hbw : Below w1.heap.size w1 W3 := hba.grown hgw hba.size fun k hk => by injection hk with hk; omega
    replace q := q.trans (hbw.mono q.size)
    have hB := blockers_any W3 (hT.below q) (S := fun _ => True) (S2 := fun _ => True) (S3 := fun _ => True) (x := ⟨0, false, ⟨0, [], [], false⟩, 0⟩) (x1 := none) (x2 := 0) (x3 := none) (x4 := 0) (aH := none) (cH := 0) (aQ := none) (cQ := 0) (H := []) (Q := []) ⟨none, 0, none, 0, rfl, RdS.nil _ _, RdS.nil _ _, by unfold Lk64 W64; simp⟩ (RdL.nil _ _ _) (RdL.nil _ _ _) (by simp) (by simp)
    have f0 := hYW.cell (i := 0) rfl
    have f1 := hYW.cell (i := 1) rfl
    have f2 := hYW.cell (i := 2) rfl
    have f3 := hYW.cell (i := 3) rfl
    have f4 := hYW.cell (i := 4) rfl
    have f5 := hYW.cell (i := 5) rfl
    have f6 := hYW.cell (i := 6) rfl
    have f7 := hYW.cell (i := 7) rfl
    have f8 := hYW.cell (i := 8) rfl
    go_wp2_with fail
    refine hB.mono ?_
    rintro e w4 ⟨a9, c9, rfl, hO9, hb9⟩
    have e0 : riseL (blkO ⟨0, false, ⟨0, [], [], false⟩, 0⟩ ([] ++ [])) = [] := by simp [blkO, riseL, Lib.compact, Lib.compactUpTo]
    rw [e0] at hO9 ⊢
    go_wp2_with fail
    go_ret
    exact ⟨_, _, _, rfl, hO9.to q.size q.size, q.trans (hb9.mono q.size), .inr ⟨Hh.out, rfl⟩⟩
end Go.Proofs.YtpdnehgboafgpaaDoor
namespace Go.Proofs.YtpdnehgboafgpaaDoor
open Go.RowKit Go.Shelf
def markL (f : Nat → Bool) (n : Nat) : List Int := ((List.range n).filter f).map fun (k : Nat) => (k : Int)
theorem markL_succ (f : Nat → Bool) (n : Nat) : markL f (n + 1) = markL f n ++ (if f n = true then [(n : Int)] else []) := by
  unfold markL
  rw [List.range_succ, List.filter_append, List.map_append]
  congr 1
  cases h : f n <;> simp [h]
theorem markL_len (f : Nat → Bool) (n : Nat) : (markL f n).length ≤ n := by
  unfold markL
  rw [List.length_map]
  exact Nat.le_trans (List.length_filter_le _ _) (by simp)
def b4 (f : Nat → Bool) : List Value := [.bool (f 0), .bool (f 1), .bool (f 2), .bool (f 3)]
theorem b4_at (f : Nat → Bool) {k : Nat} (h : k < 4) : (b4 f)[k]? = some (.bool (f k)) := by
  rcases k with _ | _ | _ | _ | k
  all_goals first | rfl | omega
set_option maxRecDepth 100000 in
set_option maxHeartbeats 4000000 in
theorem list_any (w : World) (f : Nat → Bool) :
    Calls Tryd.prog 35 #[.agg #[.bool (f 0), .bool (f 1), .bool (f 2), .bool (f 3)]] w fun e w' => ∃ a c, e = .returned (.slice a (markL f 4).length c) ∧ OwnL Elt.int 3 w.heap.size w.heap.size w' (.slice a (markL f 4).length c) (markL f 4) ∧ Below w.heap.size w w' := by
  obtain ⟨W, hW, q, Bw, hsz⟩ := spBox w 51 [.bool (f 0), .bool (f 1), .bool (f 2), .bool (f 3)]
  have hsz1 : w.heap.size + 1 ≤ W.heap.size := by have := Bw.lt; omega
  clear hsz
  go_enter Tryd.func35, Tryd.ntmps35
  go_upto_region 1 with (fail)
  rw [show w.alloc (.cells #[.bool (f 0), .bool (f 1), .bool (f 2), .bool (f 3)] 51) = W from hW.symm]
  clear hW
  go_upto_region 3 with (fail)
  go_loopw [3, 4] (fun ov iv wr => ∃ (k : Nat) (ad : Option Addr) (co : Nat), iv = .int .i64 k ∧ k ≤ 4 ∧ ov = .slice ad (markL f k).length co ∧ OwnL Elt.int 3 (w.heap.size + 1) (w.heap.size + 1) wr (.slice ad (markL f k).length co) (markL f k) ∧ Below w.heap.size w wr ∧ w.heap.size + 1 ≤ wr.heap.size ∧ BoxN wr w.heap.size 51 (b4 f))
    (fun _ i _ => 4 - (intOf i).toNat)
  case atStart => exact ⟨0, none, 0, rfl, by omega, rfl, OwnL.nil _ _ _ _ _, q, hsz1, Bw⟩
  case round =>
    clear q Bw hsz1
    obtain ⟨k, ad, co, rfl, hk4, rfl, hO, q, hsz1, Bw⟩ := hrel
    rcases Nat.lt_or_ge k 4 with hlt | hge
    · have ck := Bw.cell (i := k) (b4_at f hlt)
      have ck1 : wr.cell? ⟨w.heap.size, 0 + k * 1, none⟩ = some (.bool (f k)) := by rw [show 0 + k * 1 = k by omega]; exact ck
      have ck2 : wr.cell? ⟨w.heap.size, 0 + k, none⟩ = some (.bool (f k)) := by rw [show 0 + k = k by omega]; exact ck
      have hsn := Lib.hid (markL_succ f k)
      have hln0 := markL_len f k
      obtain ⟨xs, exs⟩ : ∃ xs, xs = markL f k := ⟨_, rfl⟩
      rw [← exs] at hO hsn hln0
      rw [← exs]
      clear exs
      obtain ⟨bk, ebk⟩ : ∃ b, b = f k := ⟨_, rfl⟩
      rw [← ebk] at ck ck1 ck2 hsn
      clear ebk
      have d0 : decide ((k : Int) < 4) = true := decide_eq_true (by omega)
      cases bk with
      | true =>
        have hs2 := Lib.hid (show markL f (k + 1) = xs ++ [(k : Int)] by rw [hsn.out]; simp)
        clear hsn
        have hrr : ∀ k, Value.ownBlock (.slice ad xs.length co) = some k → w.heap.size + 1 ≤ k ∧ k < wr.heap.size := fun k hk => hO.block_lt k hk
        have hR : ∀ V, Elt.int.R (fun k => w.heap.size + 1 ≤ k ∧ k < w.heap.size) V (k : Int) [.int .i64 (k : Int)] := fun V => ⟨rfl, by unfold W64; omega⟩
        have hSV : ∀ V : World, ∀ k, (w.heap.size + 1 ≤ k ∧ k < w.heap.size) → w.heap.size + 1 ≤ k ∧ k < V.heap.size ∧ some k ≠ Value.ownBlock (.slice ad xs.length co) := fun V k hk => by omega
        have hbs : ∀ V : World, Below wr.heap.size wr V → w.heap.size + 1 ≤ V.heap.size := fun V h => by have := h.size; omega
        go_wp2_with (first
          | (refine wpList_buildOne inP rfl rfl rfl (us := [.int .i64 (k : Int)]) rfl rfl (by decide) (by decide) ?_; intro w6 hb6 hrow)
          | (refine wpList_apvRow (E := Elt.int) (n := xs.length + 1) inP rfl rfl rfl rfl (hO.below hb6) hrow (hR _) (hSV _) (hbs _ hb6) (by omega) rfl ?_; intro ad9 c9 w7 hO9 hg7 ho9)
          | fail)
        have hln : (xs ++ [(k : Int)]).length = xs.length + 1 := by rw [List.length_append]; rfl
        have q9 : Below w.heap.size w w7 := (q.trans (hb6.mono q.size)).grown hg7 (q.trans (hb6.mono q.size)).size fun k hk => by have := (hrr k hk).1; omega
        have Bw9 : BoxN w7 w.heap.size 51 (b4 f) := (Bw.below hb6 Bw.lt).other hg7 fun e => by have := (hrr _ e).1; omega
        have hz9 : w.heap.size + 1 ≤ w7.heap.size := by have := Bw9.lt; omega
        rw [← hln] at hO9
        clear hrr hR hSV hbs hg7 hO hrow hb6 ho9
        go_roundw
        case rel => exact ⟨k + 1, ad9, c9, by go_num, by omega, by rw [hs2.out, hln], by rw [hs2.out]; exact hO9, q9, hz9, Bw9⟩
        case measure => simp [intOf]; omega
      | false =>
        have hs2 := Lib.hid (show markL f (k + 1) = xs by rw [hsn.out]; simp)
        clear hsn
        go_wp2_with fail
        go_roundw
        case rel => exact ⟨k + 1, ad, co, by go_num, by omega, by rw [hs2.out], by rw [hs2.out]; exact hO, q, hsz1, Bw⟩
        case measure => simp [intOf]; omega
    · obtain rfl : k = 4 := by omega
      go_wp2_with fail
      go_ret
      exact ⟨_, _, rfl, hO.to (by omega) (by omega), q⟩
end Go.Proofs.YtpdnehgboafgpaaDoor
namespace Go.Proofs.YtpdnehgboafgpaaDoor
open Go.RowKit Go.Shelf
theorem RdL.lk7 {S : Nat → Prop} {w : World} {a : Option Addr} {n c : Nat} {l : List Lk} (h : RdL Elt.lk S w (.slice a n c) l) (i : Nat) (hi : i < l.length) :
    ∃ (b off : Nat) (kA : Option Addr) (kB : Nat) (kC : Option Addr) (kD : Nat), a = some ⟨b, off, none⟩ ∧ S b ∧ (∀ (j : Nat) (u : Value), ([.int .i64 l[i].owner, .bool l[i].whole, .int .i64 l[i].span.table, .slice kA l[i].span.lo.length kB, .slice kC l[i].span.hi.length kD, .bool l[i].span.isOpen, .int .i64 l[i].mode] : List Value)[j]? = some u → w.cell? ⟨b, off + i * 7 + j, none⟩ = some u) ∧
      RdLk S w (.agg #[.int .i64 l[i].owner, .bool l[i].whole, .int .i64 l[i].span.table, .slice kA l[i].span.lo.length kB, .slice kC l[i].span.hi.length kD, .bool l[i].span.isOpen, .int .i64 l[i].mode]) l[i] := by
  obtain ⟨b, off, vs, rfl, hb, ⟨k, u, rfl, hk, hu, hi⟩, hc⟩ := h.at i hi
  obtain ⟨A, C, rfl, _, _⟩ := hk.shape
  obtain ⟨A2, C2, rfl, _, _⟩ := hu.shape
  exact ⟨b, off, A, C, A2, C2, rfl, hb, hc, ⟨A, C, A2, C2, rfl, hk, hu, hi⟩⟩
def mkF (l : List Int) (k : Nat) : Bool := decide ((k : Int) ∈ l)
theorem set_b4 {l : List Int} {j : Nat} (h : j < 4) : (b4 (mkF l)).set j (.bool true) = b4 (mkF (l ++ [(j : Int)])) := by
  rcases j with _ | _ | _ | _ | j
  all_goals first | omega | simp [b4, mkF]
theorem blkO_snoc2 {x : Lk} {H l : List Lk} {k : Nat} (h : k < l.length) : blkO x (H ++ l.take (k + 1)) = blkO x (H ++ l.take k) ++ (if clashL x l[k] = true then [l[k].owner] else []) := by
  have e := blkO_snoc (x := x) h
  unfold blkO at e ⊢
  rw [List.filter_append, List.map_append, e, List.filter_append, List.map_append, List.append_assoc]
set_option maxRecDepth 100000 in
set_option maxHeartbeats 4000000 in
theorem refBlk_any (w : World) {S : Nat → Prop} {v : Value} {H Q : List Lk} {at9 : Nat} (h : RdLs S w v H Q) (hat9 : at9 < Q.length) (hHO : ∀ y ∈ H, 0 ≤ y.owner ∧ y.owner < 4) (hQO : ∀ y ∈ Q, 0 ≤ y.owner ∧ y.owner < 4) :
    Calls Tryd.prog 36 #[v, .int .i64 (at9 : Nat)] w fun e w' => e = .returned (.agg #[.bool (mkF (blkO Q[at9] (H ++ Q.take at9)) 0), .bool (mkF (blkO Q[at9] (H ++ Q.take at9)) 1), .bool (mkF (blkO Q[at9] (H ++ Q.take at9)) 2), .bool (mkF (blkO Q[at9] (H ++ Q.take at9)) 3)]) ∧ Below w.heap.size w w' := by
  obtain ⟨aH, cH, aQ, cQ, rfl, hH, hQ⟩ := h
  have hl1 : H.length ≤ 9223372036854775807 := by obtain ⟨_, hc, hm⟩ := hH.len; unfold maxLen at hm; omega
  have hl2 : Q.length ≤ 9223372036854775807 := by obtain ⟨_, hc, hm⟩ := hQ.len; unfold maxLen at hm; omega
  obtain ⟨bQ, oQ, _, _, _, _, rfl, _⟩ := hQ.lk7 at9 hat9
  obtain ⟨x, ex9⟩ : ∃ x, x = Q[at9] := ⟨_, rfl⟩
  rw [← ex9]
  replace ex9 := Lib.hid ex9
  have eC : ∀ args w, (callFunc 17 args).run Tryd.prog w = .ok (.enter 17 args) w := enters_of Tryd.func17 (by kernel_rfl) rfl
  obtain ⟨z4, hz4⟩ : ∃ z, z = [Value.bool false, .bool false, .bool false, .bool false] := ⟨_, rfl⟩
  obtain ⟨W, hW, q, Bl, Br, hsz⟩ := boxes2 w 24 51 [.slice aH H.length cH, .slice (some ⟨bQ, oQ, none⟩) Q.length cQ] [.bool false, .bool false, .bool false, .bool false]
  go_enter Tryd.func36, Tryd.ntmps36
  go_upto_region 1 with (fail)
  rw [show (w.alloc (.cells #[.slice aH H.length cH, .slice (some ⟨bQ, oQ, none⟩) Q.length cQ] 24)).alloc (.cells #[.bool false, .bool false, .bool false, .bool false] 51) = W from hW.symm]
  clear hW
  rw [← hz4] at Br
  go_upto_region 2 with (first | (refine wpList_boxNew (vs := [.bool false, .bool false, .bool false, .bool false]) (by kernel_rfl) rfl rfl ?_; intro wa hba hBa) | (refine wpList_boxStore (us := [.bool false, .bool false, .bool false, .bool false]) (by kernel_rfl) rfl rfl rfl rfl rfl rfl hBa rfl ?_; intro wb hgw Bo) | fail)
  try go_simp
  have hbw := hba.grown hgw hba.size fun k hk => by injection hk with hk; omega
  replace Bl := Bl.below hbw Bl.lt
  replace Br := Br.below hbw Br.lt
  replace q := q.trans (hbw.mono q.size)
  have e9 : W.heap.size = w.heap.size + 1 + 1 := by omega
  replace Bo : BoxN wb (w.heap.size + 1 + 1) 51 [.bool false, .bool false, .bool false, .bool false] := by rw [← e9]; exact Bo
  clear e9
  clear hbw hgw hba hBa
  go_upto_region 3 with (fail)
  go_loopw [6] (fun iv wr => ∃ (i : Nat), iv = .int .i64 (i : Int) ∧ i ≤ H.length ∧ BoxN wr w.heap.size 24 [.slice aH H.length cH, .slice (some ⟨bQ, oQ, none⟩) Q.length cQ] ∧ BoxN wr (w.heap.size + 1) 51 z4 ∧ BoxN wr (w.heap.size + 1 + 1) 51 (b4 (mkF (blkO x (H.take i)))) ∧ Below w.heap.size w wr) (fun iv _ => H.length - (intOf iv).toNat)
  case atStart => exact ⟨0, rfl, Nat.zero_le _, Bl, Br, by simpa [b4, mkF, blkO] using Bo, q⟩
  case round =>
  clear Bl Br Bo q
  obtain ⟨i, rfl, hil, Bl, Br, Bo, q⟩ := hrel
  rcases Nat.lt_or_ge i H.length with hlt | hge
  · have hown := hHO _ (List.getElem_mem hlt)
    obtain ⟨b, off, kA, kB, kC, kD, eL, _, hcy, hy⟩ := (hH.below q).lk7 i hlt
    subst eL
    have hat := Lib.hid (blkO_snoc (x := x) hlt)
    obtain ⟨y, ey⟩ : ∃ y, y = H[i] := ⟨_, rfl⟩
    rw [← ey] at hcy hy hat hown
    clear ey
    obtain ⟨bs, ebs⟩ : ∃ l, l = blkO x (H.take i) := ⟨_, rfl⟩
    rw [← ebs] at hat Bo
    clear ebs
    obtain ⟨bQ3, oQ3, xA, xB, xC, xD, eQ, _, hcx, hX⟩ := (hQ.below q).lk7 at9 hat9
    injection eQ with eQ
    injection eQ with f1 f2 _
    subst f1 f2
    rw [← ex9.out] at hcx hX
    have b0 := Bl.cell (i := 0) rfl
    have b1 := Bl.cell (i := 1) rfl
    have d0 : decide ((i : Int) < ((H.length : Nat) : Int)) = true := decide_eq_true (by omega)
    go_upto_region 5 with (fail)
    clear d0 b0 b1
    have c0 : wr.cell? ⟨b, off + i * 7, none⟩ = some (.int .i64 y.owner) := hcy 0 _ rfl
    refine wp_region_gsg (by kernel_rfl) (by kernel_rfl) [sgEq (.pointer (some ⟨w.heap.size, 0, none⟩)), sgEq (.slice (some ⟨b, off, none⟩) H.length cH), sgEq (.int .i64 (i : Nat)), sgEq (.pointer (some ⟨b, off + i * 7, none⟩)), sgEq (.agg #[.int .i64 y.owner, .bool y.whole, .int .i64 y.span.table, .slice kA y.span.lo.length kB, .slice kC y.span.hi.length kD, .bool y.span.isOpen, .int .i64 y.mode]), sgEq (.pointer (some ⟨w.heap.size, 0 + 1, none⟩)), sgEq (.slice (some ⟨bQ, oQ, none⟩) Q.length cQ), sgEq (.int .i64 (at9 : Nat)), sgEq (.pointer (some ⟨bQ, oQ + at9 * 7, none⟩)), sgEq (.agg #[.int .i64 x.owner, .bool x.whole, .int .i64 x.span.table, .slice xA x.span.lo.length xB, .slice xC x.span.hi.length xD, .bool x.span.isOpen, .int .i64 x.mode]), sgEq (.bool (clashL y x)), sgEq (.bool (clashL y x))]
      ⟨?o0, ?o1, ?o2, ?o3, ?o4, ?o5, ?o6, ?o7, ?o8, ?o9, ?o10, ?o11, trivial⟩ ?fin
    case o0 =>
      refine GdOp.plain rfl (fun A vs w' hF hT hb hd => ?_)
      have e1 : A.eval (.tmp 2) = .pointer (some ⟨w.heap.size, 0, none⟩) := hF 2 rfl
      exact wp_fieldN lsS rfl (e1) (by omega) ⟨_, rfl, rfl, Below.refl _ _⟩
    case o1 =>
      refine GdOp.plain rfl (fun A vs w' hF hT hb hd => ?_)
      have e1 : A.eval (.tmp 18) = .pointer (some ⟨w.heap.size, 0, none⟩) := (hT 18 0 (by simp) rfl).trans (hd ⟨0, .data⟩ (by simp) rfl)
      exact wp_ld_slice (e := 29) rfl e1 (by kernel_rfl) ((Bl.below hb Bl.lt).cell (i := 0) rfl) ⟨_, rfl, rfl, Below.refl _ _⟩
    case o2 =>
      refine GdOp.plain rfl (fun A vs w' hF hT hb hd => ?_)
      have e1 : A.eval (.tmp 6) = .int .i64 (i : Nat) := hF 6 rfl
      exact BigFrame.wp_move _ rfl ⟨_, rfl, e1, Below.refl _ _⟩
    case o3 =>
      refine GdOp.plain rfl (fun A vs w' hF hT hb hd => ?_)
      have e1 : A.eval (.tmp 19) = .slice (some ⟨b, off, none⟩) H.length cH := (hT 19 1 (by simp) rfl).trans (hd ⟨1, .data⟩ (by simp) rfl)
      have e2 : A.eval (.tmp 20) = .int .i64 (i : Nat) := (hT 20 2 (by simp) rfl).trans (hd ⟨2, .data⟩ (by simp) rfl)
      exact wp_ixN (e := 29) rfl (by kernel_rfl) (by kernel_rfl) (e1) (e2) rfl (by omega) ⟨_, rfl, rfl, Below.refl _ _⟩
    case o4 =>
      refine GdOp.plain rfl (fun A vs w' hF hT hb hd => ?_)
      have e1 : A.eval (.tmp 21) = .pointer (some ⟨b, off + i * 7, none⟩) := (hT 21 3 (by simp) rfl).trans (hd ⟨3, .data⟩ (by simp) rfl)
      exact wp_loadU (us := [.int .i64 y.owner, .bool y.whole, .int .i64 y.span.table, .slice kA y.span.lo.length kB, .slice kC y.span.hi.length kD, .bool y.span.isOpen, .int .i64 y.mode]) lkS rfl e1 (fun j u hj => (hb.cell (p := ⟨b, off + i * 7 + j, none⟩) (cell_lt (hcy j u hj))).trans (hcy j u hj)) ⟨_, rfl, rfl, Below.refl _ _⟩
    case o5 =>
      refine GdOp.plain rfl (fun A vs w' hF hT hb hd => ?_)
      have e1 : A.eval (.tmp 2) = .pointer (some ⟨w.heap.size, 0, none⟩) := hF 2 rfl
      exact wp_fieldN lsS rfl (e1) (by omega) ⟨_, rfl, rfl, Below.refl _ _⟩
    case o6 =>
      refine GdOp.plain rfl (fun A vs w' hF hT hb hd => ?_)
      have e1 : A.eval (.tmp 23) = .pointer (some ⟨w.heap.size, 0 + 1, none⟩) := (hT 23 5 (by simp) rfl).trans (hd ⟨5, .data⟩ (by simp) rfl)
      exact wp_ld_slice (e := 29) rfl e1 (by kernel_rfl) ((Bl.below hb Bl.lt).cell (i := 1) rfl) ⟨_, rfl, rfl, Below.refl _ _⟩
    case o7 =>
      refine GdOp.plain rfl (fun A vs w' hF hT hb hd => ?_)
      have e1 : A.eval (.tmp 1) = .int .i64 (at9 : Nat) := hF 1 rfl
      exact BigFrame.wp_move _ rfl ⟨_, rfl, e1, Below.refl _ _⟩
    case o8 =>
      refine GdOp.plain rfl (fun A vs w' hF hT hb hd => ?_)
      have e1 : A.eval (.tmp 24) = .slice (some ⟨bQ, oQ, none⟩) Q.length cQ := (hT 24 6 (by simp) rfl).trans (hd ⟨6, .data⟩ (by simp) rfl)
      have e2 : A.eval (.tmp 25) = .int .i64 (at9 : Nat) := (hT 25 7 (by simp) rfl).trans (hd ⟨7, .data⟩ (by simp) rfl)
      exact wp_ixN (e := 29) rfl (by kernel_rfl) (by kernel_rfl) (e1) (e2) rfl (by omega) ⟨_, rfl, rfl, Below.refl _ _⟩
    case o9 =>
      refine GdOp.plain rfl (fun A vs w' hF hT hb hd => ?_)
      have e1 : A.eval (.tmp 26) = .pointer (some ⟨bQ, oQ + at9 * 7, none⟩) := (hT 26 8 (by simp) rfl).trans (hd ⟨8, .data⟩ (by simp) rfl)
      exact wp_loadU (us := [.int .i64 x.owner, .bool x.whole, .int .i64 x.span.table, .slice xA x.span.lo.length xB, .slice xC x.span.hi.length xD, .bool x.span.isOpen, .int .i64 x.mode]) lkS rfl e1 (fun j u hj => (hb.cell (p := ⟨bQ, oQ + at9 * 7 + j, none⟩) (cell_lt (hcx j u hj))).trans (hcx j u hj)) ⟨_, rfl, rfl, Below.refl _ _⟩
    case o10 =>
      refine GdOp.plain rfl (fun A vs w' hF hT hb hd => ?_)
      have e1 : A.eval (.tmp 22) = .agg #[.int .i64 y.owner, .bool y.whole, .int .i64 y.span.table, .slice kA y.span.lo.length kB, .slice kC y.span.hi.length kD, .bool y.span.isOpen, .int .i64 y.mode] := (hT 22 4 (by simp) rfl).trans (hd ⟨4, .data⟩ (by simp) rfl)
      have e2 : A.eval (.tmp 27) = .agg #[.int .i64 x.owner, .bool x.whole, .int .i64 x.span.table, .slice xA x.span.lo.length xB, .slice xC x.span.hi.length xD, .bool x.span.isOpen, .int .i64 x.mode] := (hT 27 9 (by simp) rfl).trans (hd ⟨9, .data⟩ (by simp) rfl)
      refine wp_callFn rfl eC (args := #[.agg #[.int .i64 y.owner, .bool y.whole, .int .i64 y.span.table, .slice kA y.span.lo.length kB, .slice kC y.span.hi.length kD, .bool y.span.isOpen, .int .i64 y.mode], .agg #[.int .i64 x.owner, .bool x.whole, .int .i64 x.span.table, .slice xA x.span.lo.length xB, .slice xC x.span.hi.length xD, .bool x.span.isOpen, .int .i64 x.mode]]) (by simp only [List.map_toArray, List.map_cons, List.map_nil, e1, e2]) ((rClash_any w' (hy.below hb) (hX.below hb)).mono ?_)
      rintro e w2 ⟨rfl, hb2⟩
      exact ⟨_, rfl, _, rfl, rfl, hb2⟩
    case o11 =>
      refine GdOp.plain rfl (fun A vs w' hF hT hb hd => ?_)
      have e1 : A.eval (.tmp 28) = .bool (clashL y x) := (hT 28 10 (by simp) rfl).trans (hd ⟨10, .data⟩ (by simp) rfl)
      exact BigFrame.wp_assign _ rfl ⟨_, rfl, e1, Below.refl _ _⟩
    case fin =>
    intro vs9 W9 hb9 hG9
    have q9w := hb9
    have e0 : vs9 0 = .pointer (some ⟨w.heap.size, 0, none⟩) := hG9 0 (by decide)
    have e1 : vs9 1 = .slice (some ⟨b, off, none⟩) H.length cH := hG9 1 (by decide)
    have e2 : vs9 2 = .int .i64 (i : Nat) := hG9 2 (by decide)
    have e3 : vs9 3 = .pointer (some ⟨b, off + i * 7, none⟩) := hG9 3 (by decide)
    have e4 : vs9 4 = .agg #[.int .i64 y.owner, .bool y.whole, .int .i64 y.span.table, .slice kA y.span.lo.length kB, .slice kC y.span.hi.length kD, .bool y.span.isOpen, .int .i64 y.mode] := hG9 4 (by decide)
    have e5 : vs9 5 = .pointer (some ⟨w.heap.size, 0 + 1, none⟩) := hG9 5 (by decide)
    have e6 : vs9 6 = .slice (some ⟨bQ, oQ, none⟩) Q.length cQ := hG9 6 (by decide)
    have e7 : vs9 7 = .int .i64 (at9 : Nat) := hG9 7 (by decide)
    have e8 : vs9 8 = .pointer (some ⟨bQ, oQ + at9 * 7, none⟩) := hG9 8 (by decide)
    have e9 : vs9 9 = .agg #[.int .i64 x.owner, .bool x.whole, .int .i64 x.span.table, .slice xA x.span.lo.length xB, .slice xC x.span.hi.length xD, .bool x.span.isOpen, .int .i64 x.mode] := hG9 9 (by decide)
    have e10 : vs9 10 = .bool (clashL y x) := hG9 10 (by decide)
    have e11 : vs9 11 = .bool (clashL y x) := hG9 11 (by decide)
    simp only [putAll, e0, e1, e2, e3, e4, e5, e6, e7, e8, e9, e10, e11]
    clear hG9 e0 e1 e2 e3 e4 e5 e6 e7 e8 e9 e10 e11
    replace Bl := Bl.below hb9 Bl.lt
    replace Br := Br.below hb9 Br.lt
    replace Bo := Bo.below hb9 Bo.lt
    replace q := q.trans (hb9.mono q.size)
    clear hb9
    go_simp
    replace c0 := (q9w.cell (p := ⟨_, _, none⟩) (cell_lt c0)).trans c0
    clear hcy hcx hy hX
    replace hat := Lib.hid (hat.out.trans (by rw [clash_comm x y]))
    cases hcl : clashL y x with
    | true =>
      have hat2 := Lib.hid (show blkO x (H.take (i + 1)) = bs ++ [y.owner] by rw [hat.out, hcl]; rfl)
      clear hat hcl
      obtain ⟨jo, hjo, hj4⟩ : ∃ jo : Nat, y.owner = (jo : Int) ∧ jo < 4 := ⟨y.owner.toNat, by omega, by omega⟩
      rw [hjo] at c0 hat2
      clear hjo hown
      have b0 := Bl.cell (i := 0) rfl
      have b1 := Bl.cell (i := 1) rfl
      obtain ⟨bv, ebv⟩ : ∃ v, v = b4 (mkF bs) := ⟨_, rfl⟩
      rw [← ebv] at Bo
      have hb4 : jo < bv.length := by rw [ebv]; simpa [b4] using hj4
      replace ebv := Lib.hid ebv
      go_wp2_with (first | (refine wpList_boxSet (j := jo) (u := .bool true) rfl rfl rfl (by kernel_rfl) (by first | rfl | (simp [Act.eval]; done)) rfl rfl rfl Bo hb4 ?_; intro wn hgn Bn) | fail)
      rw [ebv.out, set_b4 hj4] at Bn
      replace Bl := Bl.other hgn fun e => by injection e with e; omega
      replace Br := Br.other hgn fun e => by injection e with e; omega
      replace q := q.grown hgn q.size fun k hk => by injection hk with hk; omega
      go_roundw
      case rel => exact ⟨i + 1, by go_num, by omega, Bl, Br, by rw [hat2.out]; exact Bn, q⟩
      case measure => simp [intOf]; omega
    | false =>
      have hat2 := Lib.hid (show blkO x (H.take (i + 1)) = bs by rw [hat.out, hcl]; simp)
      clear hat hcl c0
      go_wp2_with fail
      go_roundw
      case rel => exact ⟨i + 1, by go_num, by omega, Bl, Br, by rw [hat2.out]; exact Bo, q⟩
      case measure => simp [intOf]; omega
  · obtain rfl : i = H.length := by omega
    rw [List.take_length] at Bo
    have d0 : decide ((H.length : Int) < (H.length : Int)) = false := decide_eq_false (by omega)
    have b0 := Bl.cell (i := 0) rfl
    go_upto_region 9 with (fail)
    clear d0 b0
    go_loopw [8] (fun iv wr => ∃ (i : Nat), iv = .int .i64 (i : Int) ∧ i ≤ at9 ∧ BoxN wr w.heap.size 24 [.slice aH H.length cH, .slice (some ⟨bQ, oQ, none⟩) Q.length cQ] ∧ BoxN wr (w.heap.size + 1) 51 z4 ∧ BoxN wr (w.heap.size + 1 + 1) 51 (b4 (mkF (blkO x (H ++ Q.take i)))) ∧ Below w.heap.size w wr) (fun iv _ => at9 - (intOf iv).toNat)
    case atStart => exact ⟨0, rfl, Nat.zero_le _, Bl, Br, by rw [List.take_zero, List.append_nil]; exact Bo, q⟩
    case round =>
    clear Bl Br Bo q
    obtain ⟨i, rfl, hil, Bl, Br, Bo, q⟩ := hrel
    rcases Nat.lt_or_ge i at9 with hlt | hge
    · have hltQ : i < Q.length := by omega
      have hown := hQO _ (List.getElem_mem hltQ)
      obtain ⟨b2, o2, kA, kB, kC, kD, eL, _, hcy, hy⟩ := (hQ.below q).lk7 i hltQ
      injection eL with eL
      injection eL with f1 f2 _
      subst f1 f2
      have hat := Lib.hid (blkO_snoc2 (x := x) (H := H) hltQ)
      obtain ⟨y, ey⟩ : ∃ y, y = Q[i] := ⟨_, rfl⟩
      rw [← ey] at hcy hy hat hown
      clear ey
      obtain ⟨bs, ebs⟩ : ∃ l, l = blkO x (H ++ Q.take i) := ⟨_, rfl⟩
      rw [← ebs] at hat Bo
      clear ebs
      obtain ⟨bQ3, oQ3, xA, xB, xC, xD, eQ, _, hcx, hX⟩ := (hQ.below q).lk7 at9 hat9
      injection eQ with eQ
      injection eQ with f1 f2 _
      subst f1 f2
      rw [← ex9.out] at hcx hX
      have b0 := Bl.cell (i := 0) rfl
      have b1 := Bl.cell (i := 1) rfl
      have d0 : decide ((i : Int) < ((at9 : Nat) : Int)) = true := decide_eq_true (by omega)
      go_upto_region 11 with (fail)
      clear d0 b0 b1
      have c0 : wr.cell? ⟨bQ, oQ + i * 7, none⟩ = some (.int .i64 y.owner) := hcy 0 _ rfl
      refine wp_region_gsg (by kernel_rfl) (by kernel_rfl) [sgEq (.pointer (some ⟨w.heap.size, 0 + 1, none⟩)), sgEq (.slice (some ⟨bQ, oQ, none⟩) Q.length cQ), sgEq (.int .i64 (i : Nat)), sgEq (.pointer (some ⟨bQ, oQ + i * 7, none⟩)), sgEq (.agg #[.int .i64 y.owner, .bool y.whole, .int .i64 y.span.table, .slice kA y.span.lo.length kB, .slice kC y.span.hi.length kD, .bool y.span.isOpen, .int .i64 y.mode]), sgEq (.pointer (some ⟨w.heap.size, 0 + 1, none⟩)), sgEq (.slice (some ⟨bQ, oQ, none⟩) Q.length cQ), sgEq (.int .i64 (at9 : Nat)), sgEq (.pointer (some ⟨bQ, oQ + at9 * 7, none⟩)), sgEq (.agg #[.int .i64 x.owner, .bool x.whole, .int .i64 x.span.table, .slice xA x.span.lo.length xB, .slice xC x.span.hi.length xD, .bool x.span.isOpen, .int .i64 x.mode]), sgEq (.bool (clashL y x)), sgEq (.bool (clashL y x))]
        ⟨?o0, ?o1, ?o2, ?o3, ?o4, ?o5, ?o6, ?o7, ?o8, ?o9, ?o10, ?o11, trivial⟩ ?fin
      case o0 =>
        refine GdOp.plain rfl (fun A vs w' hF hT hb hd => ?_)
        have e1 : A.eval (.tmp 2) = .pointer (some ⟨w.heap.size, 0, none⟩) := hF 2 rfl
        exact wp_fieldN lsS rfl (e1) (by omega) ⟨_, rfl, rfl, Below.refl _ _⟩
      case o1 =>
        refine GdOp.plain rfl (fun A vs w' hF hT hb hd => ?_)
        have e1 : A.eval (.tmp 42) = .pointer (some ⟨w.heap.size, 0 + 1, none⟩) := (hT 42 0 (by simp) rfl).trans (hd ⟨0, .data⟩ (by simp) rfl)
        exact wp_ld_slice (e := 29) rfl e1 (by kernel_rfl) ((Bl.below hb Bl.lt).cell (i := 1) rfl) ⟨_, rfl, rfl, Below.refl _ _⟩
      case o2 =>
        refine GdOp.plain rfl (fun A vs w' hF hT hb hd => ?_)
        have e1 : A.eval (.tmp 8) = .int .i64 (i : Nat) := hF 8 rfl
        exact BigFrame.wp_move _ rfl ⟨_, rfl, e1, Below.refl _ _⟩
      case o3 =>
        refine GdOp.plain rfl (fun A vs w' hF hT hb hd => ?_)
        have e1 : A.eval (.tmp 43) = .slice (some ⟨bQ, oQ, none⟩) Q.length cQ := (hT 43 1 (by simp) rfl).trans (hd ⟨1, .data⟩ (by simp) rfl)
        have e2 : A.eval (.tmp 44) = .int .i64 (i : Nat) := (hT 44 2 (by simp) rfl).trans (hd ⟨2, .data⟩ (by simp) rfl)
        exact wp_ixN (e := 29) rfl (by kernel_rfl) (by kernel_rfl) (e1) (e2) rfl (by omega) ⟨_, rfl, rfl, Below.refl _ _⟩
      case o4 =>
        refine GdOp.plain rfl (fun A vs w' hF hT hb hd => ?_)
        have e1 : A.eval (.tmp 45) = .pointer (some ⟨bQ, oQ + i * 7, none⟩) := (hT 45 3 (by simp) rfl).trans (hd ⟨3, .data⟩ (by simp) rfl)
        exact wp_loadU (us := [.int .i64 y.owner, .bool y.whole, .int .i64 y.span.table, .slice kA y.span.lo.length kB, .slice kC y.span.hi.length kD, .bool y.span.isOpen, .int .i64 y.mode]) lkS rfl e1 (fun j u hj => (hb.cell (p := ⟨bQ, oQ + i * 7 + j, none⟩) (cell_lt (hcy j u hj))).trans (hcy j u hj)) ⟨_, rfl, rfl, Below.refl _ _⟩
      case o5 =>
        refine GdOp.plain rfl (fun A vs w' hF hT hb hd => ?_)
        have e1 : A.eval (.tmp 2) = .pointer (some ⟨w.heap.size, 0, none⟩) := hF 2 rfl
        exact wp_fieldN lsS rfl (e1) (by omega) ⟨_, rfl, rfl, Below.refl _ _⟩
      case o6 =>
        refine GdOp.plain rfl (fun A vs w' hF hT hb hd => ?_)
        have e1 : A.eval (.tmp 47) = .pointer (some ⟨w.heap.size, 0 + 1, none⟩) := (hT 47 5 (by simp) rfl).trans (hd ⟨5, .data⟩ (by simp) rfl)
        exact wp_ld_slice (e := 29) rfl e1 (by kernel_rfl) ((Bl.below hb Bl.lt).cell (i := 1) rfl) ⟨_, rfl, rfl, Below.refl _ _⟩
      case o7 =>
        refine GdOp.plain rfl (fun A vs w' hF hT hb hd => ?_)
        have e1 : A.eval (.tmp 1) = .int .i64 (at9 : Nat) := hF 1 rfl
        exact BigFrame.wp_move _ rfl ⟨_, rfl, e1, Below.refl _ _⟩
      case o8 =>
        refine GdOp.plain rfl (fun A vs w' hF hT hb hd => ?_)
        have e1 : A.eval (.tmp 48) = .slice (some ⟨bQ, oQ, none⟩) Q.length cQ := (hT 48 6 (by simp) rfl).trans (hd ⟨6, .data⟩ (by simp) rfl)
        have e2 : A.eval (.tmp 49) = .int .i64 (at9 : Nat) := (hT 49 7 (by simp) rfl).trans (hd ⟨7, .data⟩ (by simp) rfl)
        exact wp_ixN (e := 29) rfl (by kernel_rfl) (by kernel_rfl) (e1) (e2) rfl (by omega) ⟨_, rfl, rfl, Below.refl _ _⟩
      case o9 =>
        refine GdOp.plain rfl (fun A vs w' hF hT hb hd => ?_)
        have e1 : A.eval (.tmp 50) = .pointer (some ⟨bQ, oQ + at9 * 7, none⟩) := (hT 50 8 (by simp) rfl).trans (hd ⟨8, .data⟩ (by simp) rfl)
        exact wp_loadU (us := [.int .i64 x.owner, .bool x.whole, .int .i64 x.span.table, .slice xA x.span.lo.length xB, .slice xC x.span.hi.length xD, .bool x.span.isOpen, .int .i64 x.mode]) lkS rfl e1 (fun j u hj => (hb.cell (p := ⟨bQ, oQ + at9 * 7 + j, none⟩) (cell_lt (hcx j u hj))).trans (hcx j u hj)) ⟨_, rfl, rfl, Below.refl _ _⟩
      case o10 =>
        refine GdOp.plain rfl (fun A vs w' hF hT hb hd => ?_)
        have e1 : A.eval (.tmp 46) = .agg #[.int .i64 y.owner, .bool y.whole, .int .i64 y.span.table, .slice kA y.span.lo.length kB, .slice kC y.span.hi.length kD, .bool y.span.isOpen, .int .i64 y.mode] := (hT 46 4 (by simp) rfl).trans (hd ⟨4, .data⟩ (by simp) rfl)
        have e2 : A.eval (.tmp 51) = .agg #[.int .i64 x.owner, .bool x.whole, .int .i64 x.span.table, .slice xA x.span.lo.length xB, .slice xC x.span.hi.length xD, .bool x.span.isOpen, .int .i64 x.mode] := (hT 51 9 (by simp) rfl).trans (hd ⟨9, .data⟩ (by simp) rfl)
        refine wp_callFn rfl eC (args := #[.agg #[.int .i64 y.owner, .bool y.whole, .int .i64 y.span.table, .slice kA y.span.lo.length kB, .slice kC y.span.hi.length kD, .bool y.span.isOpen, .int .i64 y.mode], .agg #[.int .i64 x.owner, .bool x.whole, .int .i64 x.span.table, .slice xA x.span.lo.length xB, .slice xC x.span.hi.length xD, .bool x.span.isOpen, .int .i64 x.mode]]) (by simp only [List.map_toArray, List.map_cons, List.map_nil, e1, e2]) ((rClash_any w' (hy.below hb) (hX.below hb)).mono ?_)
        rintro e w2 ⟨rfl, hb2⟩
        exact ⟨_, rfl, _, rfl, rfl, hb2⟩
      case o11 =>
        refine GdOp.plain rfl (fun A vs w' hF hT hb hd => ?_)
        have e1 : A.eval (.tmp 52) = .bool (clashL y x) := (hT 52 10 (by simp) rfl).trans (hd ⟨10, .data⟩ (by simp) rfl)
        exact BigFrame.wp_assign _ rfl ⟨_, rfl, e1, Below.refl _ _⟩
      case fin =>
      intro vs9 W9 hb9 hG9
      have q9w := hb9
      have e0 : vs9 0 = .pointer (some ⟨w.heap.size, 0 + 1, none⟩) := hG9 0 (by decide)
      have e1 : vs9 1 = .slice (some ⟨bQ, oQ, none⟩) Q.length cQ := hG9 1 (by decide)
      have e2 : vs9 2 = .int .i64 (i : Nat) := hG9 2 (by decide)
      have e3 : vs9 3 = .pointer (some ⟨bQ, oQ + i * 7, none⟩) := hG9 3 (by decide)
      have e4 : vs9 4 = .agg #[.int .i64 y.owner, .bool y.whole, .int .i64 y.span.table, .slice kA y.span.lo.length kB, .slice kC y.span.hi.length kD, .bool y.span.isOpen, .int .i64 y.mode] := hG9 4 (by decide)
      have e5 : vs9 5 = .pointer (some ⟨w.heap.size, 0 + 1, none⟩) := hG9 5 (by decide)
      have e6 : vs9 6 = .slice (some ⟨bQ, oQ, none⟩) Q.length cQ := hG9 6 (by decide)
      have e7 : vs9 7 = .int .i64 (at9 : Nat) := hG9 7 (by decide)
      have e8 : vs9 8 = .pointer (some ⟨bQ, oQ + at9 * 7, none⟩) := hG9 8 (by decide)
      have e9 : vs9 9 = .agg #[.int .i64 x.owner, .bool x.whole, .int .i64 x.span.table, .slice xA x.span.lo.length xB, .slice xC x.span.hi.length xD, .bool x.span.isOpen, .int .i64 x.mode] := hG9 9 (by decide)
      have e10 : vs9 10 = .bool (clashL y x) := hG9 10 (by decide)
      have e11 : vs9 11 = .bool (clashL y x) := hG9 11 (by decide)
      simp only [putAll, e0, e1, e2, e3, e4, e5, e6, e7, e8, e9, e10, e11]
      clear hG9 e0 e1 e2 e3 e4 e5 e6 e7 e8 e9 e10 e11
      replace Bl := Bl.below hb9 Bl.lt
      replace Br := Br.below hb9 Br.lt
      replace Bo := Bo.below hb9 Bo.lt
      replace q := q.trans (hb9.mono q.size)
      clear hb9
      go_simp
      replace c0 := (q9w.cell (p := ⟨_, _, none⟩) (cell_lt c0)).trans c0
      clear hcy hcx hy hX
      replace hat := Lib.hid (hat.out.trans (by rw [clash_comm x y]))
      cases hcl : clashL y x with
      | true =>
        have hat2 := Lib.hid (show blkO x (H ++ Q.take (i + 1)) = bs ++ [y.owner] by rw [hat.out, hcl]; rfl)
        clear hat hcl
        obtain ⟨jo, hjo, hj4⟩ : ∃ jo : Nat, y.owner = (jo : Int) ∧ jo < 4 := ⟨y.owner.toNat, by omega, by omega⟩
        rw [hjo] at c0 hat2
        clear hjo hown
        have b0 := Bl.cell (i := 0) rfl
        have b1 := Bl.cell (i := 1) rfl
        obtain ⟨bv, ebv⟩ : ∃ v, v = b4 (mkF bs) := ⟨_, rfl⟩
        rw [← ebv] at Bo
        have hb4 : jo < bv.length := by rw [ebv]; simpa [b4] using hj4
        replace ebv := Lib.hid ebv
        go_wp2_with (first | (refine wpList_boxSet (j := jo) (u := .bool true) rfl rfl rfl (by kernel_rfl) (by first | rfl | (simp [Act.eval]; done)) rfl rfl rfl Bo hb4 ?_; intro wn hgn Bn) | fail)
        rw [ebv.out, set_b4 hj4] at Bn
        replace Bl := Bl.other hgn fun e => by injection e with e; omega
        replace Br := Br.other hgn fun e => by injection e with e; omega
        replace q := q.grown hgn q.size fun k hk => by injection hk with hk; omega
        go_roundw
        case rel => exact ⟨i + 1, by go_num, by omega, Bl, Br, by rw [hat2.out]; exact Bn, q⟩
        case measure => simp [intOf]; omega
      | false =>
        have hat2 := Lib.hid (show blkO x (H ++ Q.take (i + 1)) = bs by rw [hat.out, hcl]; simp)
        clear hat hcl c0
        go_wp2_with fail
        go_roundw
        case rel => exact ⟨i + 1, by go_num, by omega, Bl, Br, by rw [hat2.out]; exact Bo, q⟩
        case measure => simp [intOf]; omega
    · obtain rfl : i = at9 := by omega
      have d0 : decide ((i : Int) < (i : Int)) = false := decide_eq_false (by omega)
      obtain ⟨f, ef⟩ : ∃ f, f = mkF (blkO x (H ++ Q.take i)) := ⟨_, rfl⟩
      rw [← ef] at Bo
      replace ef := Lib.hid ef
      have o0 := Bo.cell (i := 0) (b4_at f (by omega))
      have o1 := Bo.cell (i := 1) (b4_at f (by omega))
      have o2 := Bo.cell (i := 2) (b4_at f (by omega))
      have o3 := Bo.cell (i := 3) (b4_at f (by omega))
      have Br4 : BoxN wr (w.heap.size + 1) 51 [.bool false, .bool false, .bool false, .bool false] := by rw [← hz4]; exact Br
      go_wp2_with (first | (refine wpList_boxStore (us := [.bool (f 0), .bool (f 1), .bool (f 2), .bool (f 3)]) (by kernel_rfl) rfl rfl rfl rfl rfl rfl Br4 rfl ?_; intro wz hgz Bz) | fail)
      have z0 := Bz.cell (i := 0) rfl
      have z1 := Bz.cell (i := 1) rfl
      have z2 := Bz.cell (i := 2) rfl
      have z3 := Bz.cell (i := 3) rfl
      have hu := Tryd.underlying51
      have hs : (Tryd.prog.info? 51).map (·.size) = some 4 := by kernel_rfl
      refine bodyPost_ret (v := .agg #[.bool (f 0), .bool (f 1), .bool (f 2), .bool (f 3)]) (by simp [results, Tryd.results36, go_sem, loadVar, isAgg, run_underlying hu, run_sizeOf' hs, loadCellsFrom, Addr.add, z0, z1, z2, z3]) rfl ?_
      exact ⟨by rw [ef.out], q.grown hgz q.size fun k hk => by injection hk with hk; omega⟩
end Go.Proofs.YtpdnehgboafgpaaDoor
namespace Go.Proofs.YtpdnehgboafgpaaDoor
theorem compact_sup (l : List Int) : ∀ x ∈ l, x ∈ Lib.compact l := by
  intro x hx
  have ex : ∃ i, ∃ h : i < l.length, l[i] = x := List.mem_iff_getElem.1 hx
  have hf : ∃ i, ∃ h : i < l.length, l[i] = x ∧ ∀ j, j < i → ∀ h : j < l.length, l[j] ≠ x := by
    obtain ⟨i, hi, e⟩ := ex
    induction i using Nat.strongRecOn with
    | ind i ih =>
      by_cases h : ∃ j, ∃ hj : j < l.length, j < i ∧ l[j] = x
      · obtain ⟨j, hj, hji, e2⟩ := h
        exact ih j hji hj e2
      · exact ⟨i, hi, e, fun j hji hj e2 => h ⟨j, hj, hji, e2⟩⟩
  obtain ⟨i, hi, e, hn⟩ := hf
  unfold Lib.compact Lib.compactUpTo
  refine List.mem_map.2 ⟨i, List.mem_filter.2 ⟨List.mem_range.2 hi, ?_⟩, by simp [getElem!_pos, hi, e]⟩
  unfold Lib.keeps
  rcases i with _ | i
  · simp
  · have h2 := hn i (by omega) (by omega)
    simp [getElem!_pos, hi, show i < l.length by omega, e]
    first | exact fun h => h2 h.symm | exact fun h => h2 h | exact h2
theorem compact_lt {l : List Int} (h : l.Pairwise (· ≤ ·)) : (Lib.compact l).Pairwise (· < ·) := by
  unfold Lib.compact Lib.compactUpTo
  rw [List.pairwise_map]
  rw [List.pairwise_iff_getElem] at h
  have hr : ((List.range l.length).filter (Lib.keeps l.toArray)).Pairwise (· < ·) := List.Pairwise.filter _ List.pairwise_lt_range
  refine hr.imp_of_mem ?_
  intro i j hi hj hij
  obtain ⟨h1, _⟩ := List.mem_filter.1 hi
  obtain ⟨h2, h3⟩ := List.mem_filter.1 hj
  rw [List.mem_range] at h1 h2
  rcases j with _ | j
  · omega
  · unfold Lib.keeps at h3
    simp [getElem!_pos, h2, show j < l.length by omega] at h3
    simp only [List.getElem!_toArray, getElem!_pos, h1, h2]
    have a1 : l[i] ≤ l[j] := by
      rcases Nat.lt_or_ge i j with h4 | h4
      · exact h i j h1 (by omega) h4
      · obtain rfl : i = j := by omega
        exact Int.le_refl _
    have a2 := h j (j + 1) (by omega) h2 (by omega)
    first | omega | (simp [getElem!_pos, h1, h2]; omega)
theorem lt_ext : ∀ {l m : List Int}, l.Pairwise (· < ·) → m.Pairwise (· < ·) → (∀ x, x ∈ l ↔ x ∈ m) → l = m
  | [], [], _, _, _ => rfl
  | [], y :: m, _, _, h => by have := (h y).2 List.mem_cons_self; simp at this
  | x :: l, [], _, _, h => by have := (h x).1 List.mem_cons_self; simp at this
  | x :: l, y :: m, h1, h2, h => by
    rw [List.pairwise_cons] at h1 h2
    have e : x = y := by
      rcases List.mem_cons.1 ((h x).1 List.mem_cons_self) with e | e
      · exact e
      · rcases List.mem_cons.1 ((h y).2 List.mem_cons_self) with e2 | e2
        · exact e2.symm
        · have := h1.1 y e2; have := h2.1 x e; omega
    subst e
    rw [lt_ext h1.2 h2.2 fun z => ?_]
    constructor
    · intro hz
      rcases List.mem_cons.1 ((h z).1 (List.mem_cons_of_mem _ hz)) with e | e
      · have := h1.1 z hz; omega
      · exact e
    · intro hz
      rcases List.mem_cons.1 ((h z).2 (List.mem_cons_of_mem _ hz)) with e | e
      · have := h2.1 z hz; omega
      · exact e
theorem sort_le (l : List Int) : (l.mergeSort fun x y => decide (x ≤ y)).Pairwise (· ≤ ·) := by
  have := List.pairwise_mergeSort (le := fun x y : Int => decide (x ≤ y)) (fun a b c h1 h2 => by simp at h1 h2 ⊢; omega) (fun a b => by simp; omega) l
  exact this.imp fun h => by simpa using h
theorem rise_mem {l : List Int} {x : Int} : x ∈ riseL l ↔ x ∈ l := by
  constructor
  · intro h
    unfold riseL at h
    have hp := List.mergeSort_perm l fun x y : Int => decide (x ≤ y)
    unfold Lib.compact Lib.compactUpTo at h
    obtain ⟨i, hi, rfl⟩ := List.mem_map.1 h
    have hi' := List.mem_range.1 (List.mem_filter.1 hi).1
    refine hp.subset ?_
    simp only [List.getElem!_toArray, getElem!_pos, hi']
    exact List.getElem_mem hi'
  · intro h
    exact compact_sup _ x ((List.mergeSort_perm l _).symm.subset h)
theorem mark_mem {f : Nat → Bool} {n : Nat} {x : Int} : x ∈ markL f n ↔ ∃ k : Nat, x = (k : Int) ∧ k < n ∧ f k = true := by
  unfold markL
  simp only [List.mem_map, List.mem_filter, List.mem_range]
  constructor
  · rintro ⟨k, h, rfl⟩; exact ⟨k, rfl, h⟩
  · rintro ⟨k, rfl, h⟩; exact ⟨k, h, rfl⟩
theorem mark_lt (f : Nat → Bool) (n : Nat) : (markL f n).Pairwise (· < ·) := by
  unfold markL
  rw [List.pairwise_map]
  exact (List.Pairwise.filter f List.pairwise_lt_range).imp fun h => by omega
theorem rise_mark {l : List Int} (h : ∀ x ∈ l, 0 ≤ x ∧ x < 4) : riseL l = markL (mkF l) 4 := by
  refine lt_ext (compact_lt (sort_le l)) (mark_lt _ _) fun x => ?_
  rw [rise_mem, mark_mem]
  constructor
  · intro hx
    have := h x hx
    exact ⟨x.toNat, by omega, by omega, by unfold mkF; rw [show ((x.toNat : Nat) : Int) = x by omega]; simpa using hx⟩
  · rintro ⟨k, rfl, _, hk⟩
    simpa [mkF] using hk
end Go.Proofs.YtpdnehgboafgpaaDoor
namespace Go.Proofs.YtpdnehgboafgpaaDoor
open Go.RowKit Go.Shelf
def cmpN (x y : Int) : Int := if x < y then -1 else if y < x then 1 else 0
def orI (x y : Int) : Int := if x = 0 then y else x
theorem cmpI_lt {x y : Int} (h : x < y) : cmpN x y = -1 := if_pos h
theorem cmpI_gt {x y : Int} (h : y < x) : cmpN x y = 1 := by unfold cmpN; rw [if_neg (by omega), if_pos h]
theorem cmpI_eq {x y : Int} (h : x = y) : cmpN x y = 0 := by unfold cmpN; rw [if_neg (by omega), if_neg (by omega)]
theorem cmpI_w64 (x y : Int) : W64 (cmpN x y) := by unfold cmpN W64; split <;> (try split) <;> omega
theorem younger_pos {x y a b : Int} : 0 < orI (cmpN x y) (cmpN a b) ↔ y < x ∨ y = x ∧ b < a := by
  unfold orI cmpN
  split <;> split <;> (try split) <;> (try split) <;> omega
def i4 (s : Nat → Int) : List Value := [.int .i64 (s 0), .int .i64 (s 1), .int .i64 (s 2), .int .i64 (s 3)]
theorem i4_at (s : Nat → Int) {k : Nat} (h : k < 4) : (i4 s)[k]? = some (.int .i64 (s k)) := by
  rcases k with _ | _ | _ | _ | k
  all_goals first | rfl | omega
set_option maxRecDepth 100000 in
set_option maxHeartbeats 1000000 in
theorem wMay_any (w : World) (x : Int) : Calls Tryd.prog 78 #[.int .i64 x] w fun e w' => e = .returned (.bool (decide (0 ≤ x) && decide (x < 4))) ∧ Below w.heap.size w w' := by
  go_enter Tryd.func78, Tryd.ntmps78
  by_cases h1 : 0 ≤ x
  · have d1 : decide (0 ≤ x) = true := decide_eq_true h1
    by_cases h2 : x < 4
    · have d2 : decide (x < 4) = true := decide_eq_true h2
      clear h1 h2
      rw [d1, d2]
      go_wp2_with fail
      go_ret
      exact ⟨rfl, Below.refl _ _⟩
    · have d2 : decide (x < 4) = false := decide_eq_false h2
      clear h1 h2
      rw [d1, d2]
      go_wp2_with fail
      go_ret
      exact ⟨rfl, Below.refl _ _⟩
  · have d1 : decide (0 ≤ x) = false := decide_eq_false h1
    clear h1
    rw [d1]
    go_wp2_with fail
    go_ret
    exact ⟨rfl, Below.refl _ _⟩
set_option maxRecDepth 100000 in
set_option maxHeartbeats 1000000 in
theorem isNaN_any (w : World) (x : Int) : Calls Tryd.prog 85 #[.int .i64 x] w fun e w' => e = .returned (.bool false) ∧ w' = w := by
  go_enter Tryd.func85, Tryd.ntmps85
  have d1 : (x != x) = false := by simp
  go_wp2_with fail
  go_ret
  exact ⟨by simp, rfl⟩
set_option maxRecDepth 100000 in
set_option maxHeartbeats 1000000 in
theorem cmpI_any (w : World) (x y : Int) : Calls Tryd.prog 77 #[.int .i64 x, .int .i64 y] w fun e w' => e = .returned (.int .i64 (cmpN x y)) ∧ Below w.heap.size w w' := by
  go_enter Tryd.func77, Tryd.ntmps77
  go_wp2_with fail
  refine (isNaN_any _ x).mono ?_
  rintro e w1 ⟨rfl, rfl⟩
  go_wp2_with fail
  refine (isNaN_any _ y).mono ?_
  rintro e w1 ⟨rfl, rfl⟩
  rcases Int.lt_trichotomy x y with h | h | h
  · have H := Lib.hid (cmpI_lt h)
    have d1 : decide (x < y) = true := decide_eq_true h
    clear h
    go_wp2_with fail
    go_ret
    exact ⟨by first | (rw [H.out]; done) | (rw [H.out]; rfl), Below.refl _ _⟩
  · have H := Lib.hid (cmpI_eq h)
    have d1 : decide (x < y) = false := decide_eq_false (by omega)
    have d2 : decide (y < x) = false := decide_eq_false (by omega)
    clear h
    go_wp2_with fail
    go_ret
    exact ⟨by first | (rw [H.out]; done) | (rw [H.out]; rfl), Below.refl _ _⟩
  · have H := Lib.hid (cmpI_gt h)
    have d1 : decide (x < y) = false := decide_eq_false (by omega)
    have d2 : decide (y < x) = true := decide_eq_true h
    clear h
    go_wp2_with fail
    go_ret
    exact ⟨by first | (rw [H.out]; done) | (rw [H.out]; rfl), Below.refl _ _⟩
set_option maxRecDepth 100000 in
set_option maxHeartbeats 1000000 in
theorem or_any (w : World) {S : Nat → Prop} {a : Option Addr} {n c : Nat} {x y : Int} (h : RdL Elt.int S w (.slice a n c) [x, y]) : Calls Tryd.prog 76 #[.slice a n c] w fun e w' => e = .returned (.int .i64 (orI x y)) ∧ Below w.heap.size w w' := by
  obtain ⟨rfl, _, _⟩ := h.len
  obtain ⟨b, off, rfl, _, c0, _⟩ := h.num 0 (by simp)
  obtain ⟨b2, o2, e2, _, c1, _⟩ := h.num 1 (by simp)
  injection e2 with e2
  injection e2 with f1 f2 _
  subst f1 f2
  clear h
  replace c0 : w.cell? ⟨b, off, none⟩ = some (.int .i64 x) := c0
  replace c1 : w.cell? ⟨b, off + 1, none⟩ = some (.int .i64 y) := c1
  go_enter Tryd.func76, Tryd.ntmps76
  go_upto_region 3 with (fail)
  go_loopw [5, 8] (fun _ iv wr => ∃ k : Nat, iv = .int .i64 (k : Int) ∧ k ≤ 2 ∧ (0 < k → x = 0) ∧ (1 < k → y = 0) ∧ Below w.heap.size w wr) (fun _ iv _ => 2 - (intOf iv).toNat)
  case atStart => exact ⟨0, rfl, by omega, by omega, by omega, Below.refl _ _⟩
  case round =>
    obtain ⟨k, rfl, hk, hx0, hy0, q⟩ := hrel
    replace hx0 := Lib.hid hx0
    replace c0 : wr.cell? ⟨b, off, none⟩ = some (.int .i64 x) := (q.cell (p := ⟨_, _, none⟩) (cell_lt c0)).trans c0
    replace c1 : wr.cell? ⟨b, off + 1, none⟩ = some (.int .i64 y) := (q.cell (p := ⟨_, _, none⟩) (cell_lt c1)).trans c1
    replace hy0 := Lib.hid hy0
    rcases k with _ | _ | _ | k
    · by_cases h1 : x = 0
      · have d1 : (x != 0) = false := by simp [h1]
        replace h1 := Lib.hid h1
        go_wp2_with fail
        go_roundw
        case rel => exact ⟨1, rfl, by omega, fun _ => h1.out, by omega, q⟩
        case measure => simp [intOf]
      · have d1 : (x != 0) = true := by simp [h1]
        have H := Lib.hid (show orI x y = x from if_neg h1)
        clear h1
        go_wp2_with fail
        go_ret
        exact ⟨by first | (rw [H.out]; done) | (rw [H.out]; rfl), q⟩
    · have H := Lib.hid (show orI x y = y from if_pos (hx0.out (by omega)))
      by_cases h1 : y = 0
      · have d1 : (y != 0) = false := by simp [h1]
        replace h1 := Lib.hid h1
        go_wp2_with fail
        go_roundw
        case rel => exact ⟨2, rfl, by omega, fun _ => hx0.out (by omega), fun _ => h1.out, q⟩
        case measure => simp [intOf]
      · have d1 : (y != 0) = true := by simp [h1]
        clear h1
        go_wp2_with fail
        go_ret
        exact ⟨by first | (rw [H.out]; done) | (rw [H.out]; rfl), q⟩
    · have H := Lib.hid (show orI x y = 0 by rw [show orI x y = y from if_pos (hx0.out (by omega))]; exact hy0.out (by omega))
      go_wp2_with fail
      go_ret
      exact ⟨by first | (rw [H.out]; done) | (rw [H.out]; rfl), q⟩
    · omega
def sgVi (l : List Int) : SG := ⟨fun w v => ∃ a c, v = .slice a l.length c ∧ RdL Elt.int (fun _ => True) w (.slice a l.length c) l, fun _ _ _ ⟨a, c, e, h⟩ hb => ⟨a, c, e, h.below hb⟩⟩
set_option maxRecDepth 100000 in
set_option maxHeartbeats 1000000 in
theorem younger_any (w : World) (s : Nat → Int) {i j : Nat} (hi : i < 4) (hj : j < 4) : Calls Tryd.prog 51 #[.agg #[.int .i64 (s 0), .int .i64 (s 1), .int .i64 (s 2), .int .i64 (s 3)], .int .i64 (i : Nat), .int .i64 (j : Nat)] w fun e w' => e = .returned (.int .i64 (orI (cmpN (s i) (s j)) (cmpN (i : Int) (j : Int)))) ∧ Below w.heap.size w w' := by
  have eC : ∀ args w, (callFunc 77 args).run Tryd.prog w = .ok (.enter 77 args) w := enters_of Tryd.func77 (by kernel_rfl) rfl
  have eO : ∀ args w, (callFunc 76 args).run Tryd.prog w = .ok (.enter 76 args) w := enters_of Tryd.func76 (by kernel_rfl) rfl
  obtain ⟨W, hW, q, Bs, hsz⟩ := spBox w 77 [.int .i64 (s 0), .int .i64 (s 1), .int .i64 (s 2), .int .i64 (s 3)]
  clear hsz
  replace Bs : BoxN W w.heap.size 77 (i4 s) := Bs
  go_enter Tryd.func51, Tryd.ntmps51
  go_upto_region 1 with (fail)
  rw [show w.alloc (.cells #[.int .i64 (s 0), .int .i64 (s 1), .int .i64 (s 2), .int .i64 (s 3)] 77) = W from hW.symm]
  clear hW
  refine wp_region_gsa (by kernel_rfl) (by kernel_rfl) [sgEq (.int .i64 (i : Nat)), sgEq (.pointer (some ⟨w.heap.size, i, none⟩)), sgEq (.int .i64 (s i)), sgEq (.int .i64 (j : Nat)), sgEq (.pointer (some ⟨w.heap.size, j, none⟩)), sgEq (.int .i64 (s j)), sgEq (.int .i64 (cmpN (s i) (s j))), sgEq (.int .i64 (i : Nat)), sgEq (.int .i64 (j : Nat)), sgEq (.int .i64 (cmpN (i : Int) (j : Int))), sgVi [cmpN (s i) (s j), cmpN (i : Int) (j : Int)], sgEq (.int .i64 (orI (cmpN (s i) (s j)) (cmpN (i : Int) (j : Int)))), sgEq (.int .i64 (orI (cmpN (s i) (s j)) (cmpN (i : Int) (j : Int))))]
    ⟨?o0, ?o1, ?o2, ?o3, ?o4, ?o5, ?o6, ?o7, ?o8, ?o9, ?o10, ?o11, ?o12, trivial⟩ ?fin
  case o0 =>
    refine GdOp.plain rfl (fun A vs w' hF hT hb hd => ?_)
    have e1 : A.eval (.tmp 1) = .int .i64 (i : Nat) := hF 1 rfl
    exact BigFrame.wp_move _ rfl ⟨_, rfl, e1, Below.refl _ _⟩
  case o1 =>
    refine GdOp.plain rfl (fun A vs w' hF hT hb hd => ?_)
    have e1 : A.eval (.tmp 3) = .pointer (some ⟨w.heap.size, 0, none⟩) := hF 3 rfl
    have e2 : A.eval (.tmp 7) = .int .i64 (i : Nat) := (hT 7 0 (by simp) rfl).trans (hd ⟨0, .data⟩ (by simp) rfl)
    exact wp_ixA (e := 3) (sz := 1) (by kernel_rfl) (by kernel_rfl) rfl (e1) (e2) rfl hi (by omega) ⟨_, rfl, rfl, Below.refl _ _⟩
  case o2 =>
    refine GdOp.plain rfl (fun A vs w' hF hT hb hd => ?_)
    have e1 : A.eval (.tmp 8) = .pointer (some ⟨w.heap.size, i, none⟩) := (hT 8 1 (by simp) rfl).trans (hd ⟨1, .data⟩ (by simp) rfl)
    exact wp_ld_int (k := .i64) rfl e1 (by kernel_rfl) ((Bs.below hb Bs.lt).cell (i4_at s hi)) ⟨_, rfl, rfl, Below.refl _ _⟩
  case o3 =>
    refine GdOp.plain rfl (fun A vs w' hF hT hb hd => ?_)
    have e1 : A.eval (.tmp 2) = .int .i64 (j : Nat) := hF 2 rfl
    exact BigFrame.wp_move _ rfl ⟨_, rfl, e1, Below.refl _ _⟩
  case o4 =>
    refine GdOp.plain rfl (fun A vs w' hF hT hb hd => ?_)
    have e1 : A.eval (.tmp 3) = .pointer (some ⟨w.heap.size, 0, none⟩) := hF 3 rfl
    have e2 : A.eval (.tmp 10) = .int .i64 (j : Nat) := (hT 10 3 (by simp) rfl).trans (hd ⟨3, .data⟩ (by simp) rfl)
    exact wp_ixA (e := 3) (sz := 1) (by kernel_rfl) (by kernel_rfl) rfl (e1) (e2) rfl hj (by omega) ⟨_, rfl, rfl, Below.refl _ _⟩
  case o5 =>
    refine GdOp.plain rfl (fun A vs w' hF hT hb hd => ?_)
    have e1 : A.eval (.tmp 11) = .pointer (some ⟨w.heap.size, j, none⟩) := (hT 11 4 (by simp) rfl).trans (hd ⟨4, .data⟩ (by simp) rfl)
    exact wp_ld_int (k := .i64) rfl e1 (by kernel_rfl) ((Bs.below hb Bs.lt).cell (i4_at s hj)) ⟨_, rfl, rfl, Below.refl _ _⟩
  case o6 =>
    refine GdOp.plain rfl (fun A vs w' hF hT hb hd => ?_)
    have e1 : A.eval (.tmp 9) = .int .i64 (s i) := (hT 9 2 (by simp) rfl).trans (hd ⟨2, .data⟩ (by simp) rfl)
    have e2 : A.eval (.tmp 12) = .int .i64 (s j) := (hT 12 5 (by simp) rfl).trans (hd ⟨5, .data⟩ (by simp) rfl)
    refine wp_callFn rfl eC (args := #[.int .i64 (s i), .int .i64 (s j)]) (by simp only [List.map_toArray, List.map_cons, List.map_nil, e1, e2]) ((cmpI_any w' (s i) (s j)).mono ?_)
    rintro e w2 ⟨rfl, hb2⟩
    exact ⟨_, rfl, _, rfl, rfl, hb2⟩
  case o7 =>
    refine GdOp.plain rfl (fun A vs w' hF hT hb hd => ?_)
    have e1 : A.eval (.tmp 1) = .int .i64 (i : Nat) := hF 1 rfl
    exact BigFrame.wp_move _ rfl ⟨_, rfl, e1, Below.refl _ _⟩
  case o8 =>
    refine GdOp.plain rfl (fun A vs w' hF hT hb hd => ?_)
    have e1 : A.eval (.tmp 2) = .int .i64 (j : Nat) := hF 2 rfl
    exact BigFrame.wp_move _ rfl ⟨_, rfl, e1, Below.refl _ _⟩
  case o9 =>
    refine GdOp.plain rfl (fun A vs w' hF hT hb hd => ?_)
    have e1 : A.eval (.tmp 14) = .int .i64 (i : Nat) := (hT 14 7 (by simp) rfl).trans (hd ⟨7, .data⟩ (by simp) rfl)
    have e2 : A.eval (.tmp 15) = .int .i64 (j : Nat) := (hT 15 8 (by simp) rfl).trans (hd ⟨8, .data⟩ (by simp) rfl)
    refine wp_callFn rfl eC (args := #[.int .i64 ((i : Int)), .int .i64 ((j : Int))]) (by simp only [List.map_toArray, List.map_cons, List.map_nil, e1, e2]) ((cmpI_any w' ((i : Int)) ((j : Int))).mono ?_)
    rintro e w2 ⟨rfl, hb2⟩
    exact ⟨_, rfl, _, rfl, rfl, hb2⟩
  case o10 =>
    refine GdOp.plain rfl (fun A vs w' hF hT hb hd => ?_)
    have e1 : A.eval (.tmp 13) = .int .i64 (cmpN (s i) (s j)) := (hT 13 6 (by simp) rfl).trans (hd ⟨6, .data⟩ (by simp) rfl)
    have e2 : A.eval (.tmp 16) = .int .i64 (cmpN (i : Int) (j : Int)) := (hT 16 9 (by simp) rfl).trans (hd ⟨9, .data⟩ (by simp) rfl)
    refine wp_ints2 rfl (e1) (e2) (fun w2 hb2 hrow => ⟨_, rfl, ?_, hb2⟩)
    exact ⟨_, _, rfl, rd_ints2 hrow trivial (cmpI_w64 _ _) (cmpI_w64 _ _)⟩
  case o11 =>
    refine GdOp.plain rfl (fun A vs w' hF hT hb hd => ?_)
    obtain ⟨a9, c9, q9, hr9⟩ := hd ⟨10, .data⟩ (by simp) rfl
    have e1 : A.eval (.tmp 17) = .slice a9 2 c9 := (hT 17 10 (by simp) rfl).trans q9
    refine wp_callFn rfl eO (args := #[.slice a9 2 c9]) (by simp only [List.map_toArray, List.map_cons, List.map_nil, e1]) ((or_any w' hr9).mono ?_)
    rintro e w2 ⟨rfl, hb2⟩
    exact ⟨_, rfl, _, rfl, rfl, hb2⟩
  case o12 =>
    refine GdOp.plain rfl (fun A vs w' hF hT hb hd => ?_)
    have e1 : A.eval (.tmp 18) = .int .i64 (orI (cmpN (s i) (s j)) (cmpN (i : Int) (j : Int))) := (hT 18 11 (by simp) rfl).trans (hd ⟨11, .data⟩ (by simp) rfl)
    exact BigFrame.wp_assign _ rfl ⟨_, rfl, e1, Below.refl _ _⟩
  case fin =>
    intro A9 vs9 W9 hA9 hb9 hG9
    have e6 : A9.eval (.tmp 6) = .int .i64 (orI (cmpN (s i) (s j)) (cmpN (i : Int) (j : Int))) := (hA9.2.2.2 6 12 (by simp) rfl).trans (hG9 12 (by decide))
    have hd9 : A9.defers = [] := hA9.1
    clear hG9 hA9
    go_wp2
    refine bodyPost_ret (v := .int .i64 (orI (cmpN (s i) (s j)) (cmpN (i : Int) (j : Int)))) ?_ hd9 ⟨rfl, q.trans (hb9.mono q.size)⟩
    rw [← e6]
    exact results_tmp rfl _ _ _
theorem eYounger : Enters Tryd.prog 51 := enters_of Tryd.func51 (by kernel_rfl) rfl
def stI (s : Nat → Int) (k : Int) : Int := s k.toNat
set_option maxRecDepth 100000 in
set_option maxHeartbeats 1000000 in
theorem maxFn_any (w : World) (s : Nat → Int) {S : Nat → Prop} {a : Option Addr} {n c : Nat} {l : List Int} (hl : RdL Elt.int S w (.slice a n c) l) (h0 : 0 < l.length) (hr : ∀ x ∈ l, 0 ≤ x ∧ x < 4) :
    Calls Tryd.prog 50 #[.slice a n c, .func (.func 51) #[.agg #[.int .i64 (s 0), .int .i64 (s 1), .int .i64 (s 2), .int .i64 (s 3)]] #[]] w fun e w' => ∃ v, e = .returned (.int .i64 v) ∧ vicP l (stI s) v ∧ Below w.heap.size w w' := by
  obtain ⟨rfl, hnc, hcm⟩ := hl.len
  have hlm : l.length ≤ 9223372036854775807 := by unfold maxLen at hcm; omega
  have hEE := eYounger
  unfold Enters at hEE
  have q := Below.refl w.heap.size w
  obtain ⟨b, off, rfl, _, c0, _⟩ := hl.num 0 h0
  replace c0 : w.cell? ⟨b, off, none⟩ = some (.int .i64 l[0]) := c0
  have hv0 := Lib.hid (show vicP (l.take 1) (stI s) l[0] by
    have e : l.take 1 = [l[0]] := by
      rw [List.take_succ_eq_append_getElem h0]; rfl
    rw [e]; exact vic_one _ _)
  obtain ⟨v0, ev0⟩ : ∃ v, v = l[0] := ⟨_, rfl⟩
  rw [← ev0] at c0 hv0
  clear ev0
  have d0 : decide ((l.length : Int) < 1) = false := decide_eq_false (by omega)
  go_enter Tryd.func50, Tryd.ntmps50
  go_upto_region 5 with (fail)
  clear d0 c0
  replace h0 := Lib.hid h0
  go_loopw [5, 6] (fun vv iv wr => ∃ (v : Int) (k : Nat), vv = .int .i64 v ∧ iv = .int .i64 (k : Int) ∧ 1 ≤ k ∧ k ≤ l.length ∧ vicP (l.take k) (stI s) v ∧ Below w.heap.size w wr)
    (fun _ i _ => l.length - (intOf i).toNat)
  case atStart => exact ⟨v0, 1, rfl, rfl, by omega, h0.out, hv0.out, q⟩
  case round =>
    clear q hv0
    obtain ⟨v, k, rfl, rfl, hk1, hkl, hv, q⟩ := hrel
    replace hv := Lib.hid hv
    rcases Nat.lt_or_ge k l.length with hlt | hge
    · obtain ⟨b2, o2, e2, _, ck, _⟩ := (hl.below q).num k hlt
      injection e2 with e2
      injection e2 with f1 f2 _
      subst f1 f2
      have hx := hr _ (List.getElem_mem hlt)
      have hvr := hr v (List.take_subset _ _ hv.out.1)
      have hsn := Lib.hid (List.take_succ_eq_append_getElem hlt)
      obtain ⟨x, ex⟩ : ∃ x, x = l[k] := ⟨_, rfl⟩
      rw [← ex] at ck hx hsn
      clear ex
      obtain ⟨i, rfl⟩ : ∃ i : Nat, x = (i : Int) := ⟨x.toNat, by omega⟩
      obtain ⟨j, rfl⟩ : ∃ j : Nat, v = (j : Int) := ⟨v.toNat, by omega⟩
      have d1 : decide ((k : Int) < (l.length : Int)) = true := decide_eq_true (by omega)
      have hcl := younger_any wr s (i := i) (j := j) (by omega) (by omega)
      have hyp := Lib.hid (younger_pos (x := s i) (y := s j) (a := (i : Int)) (b := (j : Int)))
      obtain ⟨z, ez⟩ : ∃ z, z = orI (cmpN (s i) (s j)) (cmpN (i : Int) (j : Int)) := ⟨_, rfl⟩
      rw [← ez] at hcl hyp
      clear ez hx hvr
      go_upto_region 7 with (fail)
      go_wp2_with fail
      refine hcl.mono ?_
      rintro e w1 ⟨rfl, hb⟩
      replace q := q.trans (hb.mono q.size)
      replace ck := (hb.cell (p := ⟨_, _, none⟩) (cell_lt ck)).trans ck
      clear hcl hb d1
      by_cases hz : 0 < z
      · have d2 : decide (0 < z) = true := decide_eq_true hz
        have hv2 := Lib.hid (show vicP (l.take (k + 1)) (stI s) (i : Int) by
          rw [hsn.out]
          refine vic_more hv.out ?_
          have := hyp.out.1 hz
          simp only [stI, Int.toNat_natCast]
          omega)
        clear hz hyp hsn hv
        go_wp2_with fail
        go_roundw
        case rel => exact ⟨i, k + 1, rfl, by go_num, by omega, by omega, hv2.out, q⟩
        case measure => simp [intOf]; omega
      · have d2 : decide (0 < z) = false := decide_eq_false hz
        have hv2 := Lib.hid (show vicP (l.take (k + 1)) (stI s) (j : Int) by
          rw [hsn.out]
          refine vic_stay hv.out ?_
          have h3 : ¬ (s j < s i ∨ s j = s i ∧ (j : Int) < i) := fun h => hz (hyp.out.2 h)
          simp only [stI, Int.toNat_natCast]
          omega)
        clear hz hyp hsn hv
        go_wp2_with fail
        go_roundw
        case rel => exact ⟨j, k + 1, rfl, by go_num, by omega, by omega, hv2.out, q⟩
        case measure => simp [intOf]; omega
    · obtain rfl : k = l.length := by omega
      have d1 : decide ((l.length : Int) < (l.length : Int)) = false := decide_eq_false (by omega)
      have hv2 := Lib.hid (show vicP l (stI s) v by have := hv.out; rwa [List.take_length] at this)
      clear hv
      go_wp2_with fail
      go_ret
      exact ⟨_, rfl, hv2.out, q⟩
end Go.Proofs.YtpdnehgboafgpaaDoor
