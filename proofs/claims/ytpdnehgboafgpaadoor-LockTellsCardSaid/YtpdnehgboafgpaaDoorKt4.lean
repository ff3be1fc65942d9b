/-
  TEXTS OF ONE PROOF, merged: DltD, LkB, LkC, ModB, SpA.
-/
import Derived.Test.YtpdnehgboafgpaaDoorKt3
namespace Go.Proofs.YtpdnehgboafgpaaDoor
open Go.RowKit Go.Shelf
theorem boxes2 (w : World) (t t2 : TypeId) (us vs : List Value) : ∃ W, W = (w.alloc (.cells us.toArray t)).alloc (.cells vs.toArray t2) ∧ Below w.heap.size w W ∧ BoxN W w.heap.size t us ∧ BoxN W (w.heap.size + 1) t2 vs ∧ W.heap.size = w.heap.size + 1 + 1 := by
  have h1 : Below w.heap.size w (w.alloc (.cells us.toArray t)) := (Below.refl _ _).alloc (Nat.le_refl _) _
  have s1 : (w.alloc (.cells us.toArray t)).heap.size = w.heap.size + 1 := World.size_alloc _ _
  have b1 := BoxN.new w t us
  generalize w.alloc (.cells us.toArray t) = w1 at *
  have h2 : Below w1.heap.size w1 (w1.alloc (.cells vs.toArray t2)) := (Below.refl _ _).alloc (Nat.le_refl _) _
  have s2 : (w1.alloc (.cells vs.toArray t2)).heap.size = w1.heap.size + 1 := World.size_alloc _ _
  have b2 := BoxN.new w1 t2 vs
  rw [s1] at b2 s2
  exact ⟨_, rfl, h1.trans (h2.mono h1.size), b1.below h2 b1.lt, b2, s2⟩
def NewS (W V : World) (k : Value) (xs : List UInt8) : Prop := ∃ a c, k = .slice a xs.length c ∧ RdS (fun g => W.heap.size ≤ g ∧ g < V.heap.size) V (.slice a xs.length c) xs
theorem NewS.below {W V V' : World} {k : Value} {xs : List UInt8} (h : NewS W V k xs) (hb : Below V.heap.size V V') : NewS W V' k xs := by
  obtain ⟨a, c, e, hr⟩ := h
  exact ⟨a, c, e, (hr.below hb).weak fun g hg => ⟨hg.1, Nat.lt_of_lt_of_le hg.2 hb.size⟩⟩
theorem NewS.grown {W V V' : World} {k : Value} {xs : List UInt8} {b : Nat} (h : NewS W V k xs) (hg : V.grownBy V' (some b)) (hb : b < W.heap.size) : NewS W V' k xs := by
  obtain ⟨a, c, e, hr⟩ := h
  exact ⟨a, c, e, (hr.keep fun k hk => hg.block k hk.2 fun e => by injection e with e; have := hk.1; omega).weak fun g h => ⟨h.1, Nat.lt_of_lt_of_le h.2 hg.size⟩⟩
theorem NewS.of {W V V' : World} {E : TypeId} {a : Option Addr} {k c : Nat} {xs : List UInt8} (h : Below W.heap.size W V) (hf : Fresh E V V' (.slice a k c) xs) : NewS W V' (.slice a k c) xs := by
  obtain rfl : k = xs.length := hf.len
  exact ⟨a, c, rfl, hf.2.rdS.weak fun g hg => ⟨Nat.le_trans h.size hg.1, hg.2⟩⟩
end Go.Proofs.YtpdnehgboafgpaaDoor
namespace Go.Proofs.YtpdnehgboafgpaaDoor
open Go.RowKit Go.Shelf
theorem lkF2 : FdP Tryd.prog 29 2 2 := ⟨_, _, 3, Tryd.underlying29, rfl, rfl, by kernel_rfl⟩
theorem lkF3 : FdP Tryd.prog 29 3 6 := ⟨_, _, 0, Tryd.underlying29, rfl, rfl, by kernel_rfl⟩
theorem askF0 : FdP Tryd.prog 61 0 0 := ⟨_, _, 6, Tryd.underlying61, rfl, rfl, by kernel_rfl⟩
theorem askF1 : FdP Tryd.prog 61 1 7 := ⟨_, _, 1, Tryd.underlying61, rfl, rfl, by kernel_rfl⟩
theorem oneF0 : FdP Tryd.prog 59 0 0 := ⟨_, _, 6, Tryd.underlying59, rfl, rfl, by kernel_rfl⟩
theorem lkS : SgP Tryd.prog 29 7 := ⟨⟨_, Tryd.underlying29⟩, by kernel_rfl⟩
theorem lsS : StP Tryd.prog 24 2 := StP.of (by kernel_rfl)
def LlnJ (W : World) (b : Nat) (x : Lk) : List Value → World → Prop
  | [], V => Below W.heap.size W V
  | [k], V => Below W.heap.size W V ∧ NewS W V k x.span.lo
  | [k, v], V => Below W.heap.size W V ∧ NewS W V k x.span.lo ∧ NewS W V v x.span.hi
  | [k, v, _], V => W.grownBy V (some b) ∧ (∃ v0, BoxN V b 29 [.int .i64 x.owner, .bool x.whole, .int .i64 x.span.table, k, v0, .bool x.span.isOpen, .int .i64 x.mode]) ∧ NewS W V k x.span.lo ∧ NewS W V v x.span.hi
  | _, V => W.grownBy V (some b) ∧ ∃ k v, BoxN V b 29 [.int .i64 x.owner, .bool x.whole, .int .i64 x.span.table, k, v, .bool x.span.isOpen, .int .i64 x.mode] ∧ NewS W V k x.span.lo ∧ NewS W V v x.span.hi
theorem LlnJ.below {W : World} {b : Nat} {x : Lk} : ∀ (l : List Value) (V V' : World), LlnJ W b x l V → Below V.heap.size V V' → LlnJ W b x l V'
  | [], _, _, h, hb => Below.trans h (hb.mono (Below.size h))
  | [_], _, _, ⟨h, h1⟩, hb => ⟨h.trans (hb.mono h.size), h1.below hb⟩
  | [_, _], _, _, ⟨h, h1, h2⟩, hb => ⟨h.trans (hb.mono h.size), h1.below hb, h2.below hb⟩
  | [_, _, _], _, _, ⟨h, ⟨v0, h0⟩, h1, h2⟩, hb => ⟨grown_trans h (grown_below' hb _), ⟨v0, h0.below hb h0.lt⟩, h1.below hb, h2.below hb⟩
  | _ :: _ :: _ :: _ :: _, _, _, ⟨h, k, v, h0, h1, h2⟩, hb => ⟨grown_trans h (grown_below' hb _), k, v, h0.below hb h0.lt, h1.below hb, h2.below hb⟩
set_option maxRecDepth 100000 in
set_option maxHeartbeats 4000000 in
theorem lAlone_any (w : World) {S : Nat → Prop} {v : Value} {x : Lk} (h : RdLk S w v x) (h1 : x.span.lo.length ≤ 1000000) (h2 : x.span.hi.length ≤ 1000000) :
    Calls Tryd.prog 58 #[v] w (LkEnd w x) := by
  obtain ⟨a, c, a2, c2, rfl, hk, hv, ht⟩ := h
  obtain ⟨W, hW, q, bn, bz, hsz⟩ := boxes2 w 29 29 [.int .i64 x.owner, .bool x.whole, .int .i64 x.span.table, .slice a x.span.lo.length c, .slice a2 x.span.hi.length c2, .bool x.span.isOpen, .int .i64 x.mode] [.int .i64 0, .bool false, .int .i64 0, .slice none 0 0, .slice none 0 0, .bool false, .int .i64 0]
  have eK : ∀ args w, (callFunc 75 args).run Tryd.prog w = .ok (.enter 75 args) w := enters_of Tryd.func75 (by kernel_rfl) rfl
  go_enter Tryd.func58, Tryd.ntmps58
  go_upto_region 1 with (fail)
  rw [show (w.alloc (.cells #[.int .i64 x.owner, .bool x.whole, .int .i64 x.span.table, .slice a x.span.lo.length c, .slice a2 x.span.hi.length c2, .bool x.span.isOpen, .int .i64 x.mode] 29)).alloc (.cells #[.int .i64 0, .bool false, .int .i64 0, .slice none 0 0, .slice none 0 0, .bool false, .int .i64 0] 29) = W from hW.symm]
  clear hW
  have hk' := hk.below q
  have hv' := hv.below q
  refine wp_region_lnl (K := fun A B => A.grownBy B (some w.heap.size)) (by kernel_rfl) (by kernel_rfl) [3, 7, 10, 13] (by kernel_rfl) [lEq (.pointer (some ⟨w.heap.size, 0 + 2, none⟩)), lEq (.pointer (some ⟨w.heap.size, 0 + 2 + 1, none⟩)), lEq (.slice a x.span.lo.length c), lAny, lEq (.pointer (some ⟨w.heap.size, 0 + 2, none⟩)), lEq (.pointer (some ⟨w.heap.size, 0 + 2 + 2, none⟩)), lEq (.slice a2 x.span.hi.length c2), lAny, lEq (.pointer (some ⟨w.heap.size, 0 + 2, none⟩)), lEq (.pointer (some ⟨w.heap.size, 0 + 2 + 1, none⟩)), lAny, lEq (.pointer (some ⟨w.heap.size, 0 + 2, none⟩)), lEq (.pointer (some ⟨w.heap.size, 0 + 2 + 2, none⟩)), lAny] (LlnJ W w.heap.size x) LlnJ.below (show Below W.heap.size W W from Below.refl _ _)
    ⟨?o0, ?o1, ?o2, ?o3, ?o4, ?o5, ?o6, ?o7, ?o8, ?o9, ?o10, ?o11, ?o12, ?o13, trivial⟩ ?fin
  case o0 =>
    refine LnOp.side rfl (by kernel_rfl) (fun A va w' k hF hT hk hJ hb hu hp hd => ?_)
    have e1 : A.eval (.tmp 1) = .pointer (some ⟨w.heap.size, 0, none⟩) := hF 1 rfl
    exact wp_fieldO lkF2 rfl (e1) ⟨_, rfl, rfl, Below.refl _ _⟩
  case o1 =>
    refine LnOp.side rfl (by kernel_rfl) (fun A va w' k hF hT hk hJ hb hu hp hd => ?_)
    have e1 : A.eval (.tmp 3) = .pointer (some ⟨w.heap.size, 0 + 2, none⟩) := (hT 3 0 (by simp) rfl).trans (hd ⟨0, .data⟩ (by simp) rfl rfl)
    exact wp_fieldN spS rfl (e1) (by omega) ⟨_, rfl, rfl, Below.refl _ _⟩
  case o2 =>
    refine LnOp.side rfl (by kernel_rfl) (fun A va w' k hF hT hk hJ hb hu hp hd => ?_)
    have e1 : A.eval (.tmp 4) = .pointer (some ⟨w.heap.size, 0 + 2 + 1, none⟩) := (hT 4 1 (by simp) rfl).trans (hd ⟨1, .data⟩ (by simp) rfl rfl)
    obtain rfl : k = 0 := by have := hb 0 3 rfl (by kernel_rfl); omega
    have hJ0 : Below W.heap.size W w' := hJ
    exact wp_ld_slice (e := 5) rfl e1 (by kernel_rfl) ((bn.below (hJ0.mono (by omega)) bn.lt).cell (i := 3) rfl) ⟨_, rfl, rfl, Below.refl _ _⟩
  case o3 =>
    refine LnOp.line 0 rfl rfl (fun A va w' hF hT hJ hu hd => ?_)
    have e1 : A.eval (.tmp 5) = .slice a x.span.lo.length c := (hT 5 2 (by simp) rfl).trans (hd ⟨2, .data⟩ (by simp) rfl rfl)
    have hJ0 : Below W.heap.size W w' := hJ
    have hB : Below w.heap.size w w' := q.trans (hJ0.mono q.size)
    refine wp_callFn rfl eK (by simp only [List.map_toArray, List.map_cons, List.map_nil, e1]) ((clone_any w' (hk.below hB).rd (Nat.le_refl _) h1).mono ?_)
    rintro e w2 ⟨ad, k', c', rfl, hf⟩
    exact ⟨_, rfl, _, rfl, ⟨hJ0.trans (hf.1.mono hJ0.size), NewS.of hJ0 hf⟩, grown_below' hf.1 _⟩
  case o4 =>
    refine LnOp.side rfl (by kernel_rfl) (fun A va w' k hF hT hk hJ hb hu hp hd => ?_)
    have e1 : A.eval (.tmp 1) = .pointer (some ⟨w.heap.size, 0, none⟩) := hF 1 rfl
    exact wp_fieldO lkF2 rfl (e1) ⟨_, rfl, rfl, Below.refl _ _⟩
  case o5 =>
    refine LnOp.side rfl (by kernel_rfl) (fun A va w' k hF hT hk hJ hb hu hp hd => ?_)
    have e1 : A.eval (.tmp 7) = .pointer (some ⟨w.heap.size, 0 + 2, none⟩) := (hT 7 4 (by simp) rfl).trans (hd ⟨4, .data⟩ (by simp) rfl rfl)
    exact wp_fieldN spS rfl (e1) (by omega) ⟨_, rfl, rfl, Below.refl _ _⟩
  case o6 =>
    refine LnOp.side rfl (by kernel_rfl) (fun A va w' k hF hT hk hJ hb hu hp hd => ?_)
    have e1 : A.eval (.tmp 8) = .pointer (some ⟨w.heap.size, 0 + 2 + 2, none⟩) := (hT 8 5 (by simp) rfl).trans (hd ⟨5, .data⟩ (by simp) rfl rfl)
    have hJ0 : Below W.heap.size W w' := by
      have h5 := hb 1 7 rfl (by kernel_rfl)
      rcases k with _ | _ | k
      · exact hJ
      · exact hJ.1
      · omega
    exact wp_ld_slice (e := 5) rfl e1 (by kernel_rfl) ((bn.below (hJ0.mono (by omega)) bn.lt).cell (i := 4) rfl) ⟨_, rfl, rfl, Below.refl _ _⟩
  case o7 =>
    refine LnOp.line 1 rfl rfl (fun A va w' hF hT hJ hu hd => ?_)
    have e1 : A.eval (.tmp 9) = .slice a2 x.span.hi.length c2 := (hT 9 6 (by simp) rfl).trans (hd ⟨6, .data⟩ (by simp) rfl rfl)
    obtain ⟨hJ0, hJ1⟩ := hJ
    have hB : Below w.heap.size w w' := q.trans (hJ0.mono q.size)
    refine wp_callFn rfl eK (by simp only [List.map_toArray, List.map_cons, List.map_nil, e1]) ((clone_any w' (hv.below hB).rd (Nat.le_refl _) h2).mono ?_)
    rintro e w2 ⟨ad, k', c', rfl, hf⟩
    exact ⟨_, rfl, _, rfl, ⟨hJ0.trans (hf.1.mono hJ0.size), hJ1.below hf.1, NewS.of hJ0 hf⟩, grown_below' hf.1 _⟩
  case o8 =>
    refine LnOp.side rfl (by kernel_rfl) (fun A va w' k hF hT hk hJ hb hu hp hd => ?_)
    have e1 : A.eval (.tmp 1) = .pointer (some ⟨w.heap.size, 0, none⟩) := hF 1 rfl
    exact wp_fieldO lkF2 rfl (e1) ⟨_, rfl, rfl, Below.refl _ _⟩
  case o9 =>
    refine LnOp.side rfl (by kernel_rfl) (fun A va w' k hF hT hk hJ hb hu hp hd => ?_)
    have e1 : A.eval (.tmp 11) = .pointer (some ⟨w.heap.size, 0 + 2, none⟩) := (hT 11 8 (by simp) rfl).trans (hd ⟨8, .data⟩ (by simp) rfl rfl)
    exact wp_fieldN spS rfl (e1) (by omega) ⟨_, rfl, rfl, Below.refl _ _⟩
  case o10 =>
    refine LnOp.line 2 rfl rfl (fun A va w' hF hT hJ hu hd => ?_)
    have e1 : A.eval (.tmp 12) = .pointer (some ⟨w.heap.size, 0 + 2 + 1, none⟩) := (hT 12 9 (by simp) rfl).trans (hd ⟨9, .data⟩ (by simp) rfl rfl)
    have x2 : A.eval (.tmp 6) = va 3 := hT 6 3 (by simp) rfl
    obtain ⟨hJ0, ⟨ka, kc, ek, hkr⟩, hv1⟩ := hJ
    refine wp_boxSet (j := 3) rfl (by kernel_rfl) e1 (x2.trans ek) rfl rfl (bn.below hJ0 (by omega)) (by simp) (fun w2 hg hB2 => ?_)
    have hbW : w.heap.size < W.heap.size := by omega
    exact ⟨_, rfl, ⟨grown_trans (grown_below2 hJ0 rfl _) hg, ⟨_, by rw [ek]; exact hB2⟩, NewS.grown ⟨ka, kc, ek, hkr⟩ hg hbW, hv1.grown hg hbW⟩, hg⟩
  case o11 =>
    refine LnOp.side rfl (by kernel_rfl) (fun A va w' k hF hT hk hJ hb hu hp hd => ?_)
    have e1 : A.eval (.tmp 1) = .pointer (some ⟨w.heap.size, 0, none⟩) := hF 1 rfl
    exact wp_fieldO lkF2 rfl (e1) ⟨_, rfl, rfl, Below.refl _ _⟩
  case o12 =>
    refine LnOp.side rfl (by kernel_rfl) (fun A va w' k hF hT hk hJ hb hu hp hd => ?_)
    have e1 : A.eval (.tmp 13) = .pointer (some ⟨w.heap.size, 0 + 2, none⟩) := (hT 13 11 (by simp) rfl).trans (hd ⟨11, .data⟩ (by simp) rfl rfl)
    exact wp_fieldN spS rfl (e1) (by omega) ⟨_, rfl, rfl, Below.refl _ _⟩
  case o13 =>
    refine LnOp.line 3 rfl rfl (fun A va w' hF hT hJ hu hd => ?_)
    have e1 : A.eval (.tmp 14) = .pointer (some ⟨w.heap.size, 0 + 2 + 2, none⟩) := (hT 14 12 (by simp) rfl).trans (hd ⟨12, .data⟩ (by simp) rfl rfl)
    have x2 : A.eval (.tmp 10) = va 7 := hT 10 7 (by simp) rfl
    obtain ⟨hg0, ⟨v0, hB0⟩, hk1, ⟨va2, vc, ev, hvr⟩⟩ := hJ
    refine wp_boxSet (j := 4) rfl (by kernel_rfl) e1 (x2.trans ev) rfl rfl hB0 (by simp) (fun w2 hg hB2 => ?_)
    have hbW : w.heap.size < W.heap.size := by omega
    exact ⟨_, rfl, ⟨grown_trans hg0 hg, _, _, by rw [ev]; exact hB2, hk1.grown hg hbW, NewS.grown ⟨va2, vc, ev, hvr⟩ hg hbW⟩, hg⟩
  case fin =>
    intro vs1 W9 hJ hG
    obtain ⟨hg9, k9, v9, hb9, ⟨ka, kc, rfl, hk9⟩, ⟨va, vc, rfl, hv9⟩⟩ := hJ
    have q9 : Below w.heap.size w W9 := q.grown hg9 q.size fun k e => by injection e with e; omega
    have bz9 := bz.other hg9 (by simp)
    clear hG
    simp only [putAll]
    go_simp
    have c0 := hb9.cell (i := 0) rfl
    have c1 := hb9.cell (i := 1) rfl
    have c2 := hb9.cell (i := 2) rfl
    have c3 := hb9.cell (i := 3) rfl
    have c4 := hb9.cell (i := 4) rfl
    have c5 := hb9.cell (i := 5) rfl
    have c6 := hb9.cell (i := 6) rfl
    go_wp2_with (first | (refine wpList_boxStore (us := [.int .i64 x.owner, .bool x.whole, .int .i64 x.span.table, .slice ka x.span.lo.length kc, .slice va x.span.hi.length vc, .bool x.span.isOpen, .int .i64 x.mode]) (by kernel_rfl) rfl rfl rfl rfl rfl rfl bz9 rfl ?_; intro wd hgd hBd) | fail)
    have d0 := hBd.cell (i := 0) rfl
    have d1 := hBd.cell (i := 1) rfl
    have d2 := hBd.cell (i := 2) rfl
    have d3 := hBd.cell (i := 3) rfl
    have d4 := hBd.cell (i := 4) rfl
    have d5 := hBd.cell (i := 5) rfl
    have d6 := hBd.cell (i := 6) rfl
    obtain ⟨⟨fs, hu⟩, hs⟩ := lkS
    refine bodyPost_ret (v := .agg #[.int .i64 x.owner, .bool x.whole, .int .i64 x.span.table, .slice ka x.span.lo.length kc, .slice va x.span.hi.length vc, .bool x.span.isOpen, .int .i64 x.mode]) (by simp [results, Tryd.results58, go_sem, loadVar, isAgg, run_underlying hu, run_sizeOf' hs, loadCellsFrom, Addr.add, d0, d1, d2, d3, d4, d5, d6]) rfl ?_
    have hk0 : ∀ k, W.heap.size ≤ k ∧ k < W9.heap.size → wd.heap[k]? = W9.heap[k]? := fun k hk => hgd.block k hk.2 fun e => by injection e with e; omega
    exact ⟨_, rfl, ⟨ka, kc, va, vc, rfl, (hk9.keep hk0).weak fun k hk => ⟨by omega, Nat.lt_of_lt_of_le hk.2 hgd.size⟩, (hv9.keep hk0).weak fun k hk => ⟨by omega, Nat.lt_of_lt_of_le hk.2 hgd.size⟩, ht⟩, q9.grown hgd q9.size fun k e => by injection e with e; omega⟩
end Go.Proofs.YtpdnehgboafgpaaDoor
namespace Go.Proofs.YtpdnehgboafgpaaDoor
open Go.RowKit Go.Shelf
def smK (l : List Lk) : Prop := l.length ≤ 1000000 ∧ ∀ x ∈ l, x.span.lo.length ≤ 1000000 ∧ x.span.hi.length ≤ 1000000
def OwnKs (B : Nat) (w : World) (a a2 : Option Addr) (c c2 : Nat) (H Q : List Lk) : Prop := ∃ D : Nat → Prop, OwnF Elt.lk 29 D w (.slice a H.length c) H ∧ OwnF Elt.lk 29 D w (.slice a2 Q.length c2) Q ∧
  (∀ k, D k → B ≤ k ∧ k < w.heap.size ∧ Value.ownBlock (.slice a H.length c) ≠ some k ∧ Value.ownBlock (.slice a2 Q.length c2) ≠ some k) ∧ (∀ k, Value.ownBlock (.slice a H.length c) = some k → B ≤ k ∧ Value.ownBlock (.slice a2 Q.length c2) ≠ some k) ∧ ∀ k, Value.ownBlock (.slice a2 Q.length c2) = some k → B ≤ k
theorem OwnKs.rd {B : Nat} {w : World} {a a2 : Option Addr} {c c2 : Nat} {H Q : List Lk} (h : OwnKs B w a a2 c c2 H Q) : RdLs (fun k => B ≤ k ∧ k < w.heap.size) w (.agg #[.slice a H.length c, .slice a2 Q.length c2]) H Q := by
  obtain ⟨D, h1, h2, h3, h4, h5⟩ := h
  exact ⟨a, c, a2, c2, rfl, h1.rdL.weak fun k hk => hk.elim (fun h => ⟨(h3 k h).1, (h3 k h).2.1⟩) fun h => ⟨(h4 k h).1, h1.lt h⟩, h2.rdL.weak fun k hk => hk.elim (fun h => ⟨(h3 k h).1, (h3 k h).2.1⟩) fun h => ⟨h5 k h, h2.lt h⟩⟩
theorem OwnKs.below {B : Nat} {w w' : World} {a a2 : Option Addr} {c c2 : Nat} {H Q : List Lk} (h : OwnKs B w a a2 c c2 H Q) (hb : Below w.heap.size w w') : OwnKs B w' a a2 c c2 H Q := by
  obtain ⟨D, h1, h2, h3, h4, h5⟩ := h
  exact ⟨D, h1.below hb fun k hk => (h3 k hk).2.1, h2.below hb fun k hk => (h3 k hk).2.1, fun k hk => ⟨(h3 k hk).1, Nat.lt_of_lt_of_le (h3 k hk).2.1 hb.size, (h3 k hk).2.2⟩, h4, h5⟩
theorem OwnKs.grown {B : Nat} {w w' : World} {a a2 : Option Addr} {c c2 : Nat} {H Q : List Lk} {b : Nat} (h : OwnKs B w a a2 c c2 H Q) (hg : w.grownBy w' (some b)) (hb : b < B) : OwnKs B w' a a2 c c2 H Q := by
  obtain ⟨D, h1, h2, h3, h4, h5⟩ := h
  have hD : ∀ k, D k → w'.heap[k]? = w.heap[k]? := fun k hk => hg.block k (h3 k hk).2.1 fun e => by injection e with e; have := (h3 k hk).1; omega
  exact ⟨D, h1.kept (fun k hk => hg.block k (h1.lt hk) fun e => by injection e with e; have := (h4 k hk).1; omega) hD, h2.kept (fun k hk => hg.block k (h2.lt hk) fun e => by injection e with e; have := h5 k hk; omega) hD, fun k hk => ⟨(h3 k hk).1, Nat.lt_of_lt_of_le (h3 k hk).2.1 hg.size, (h3 k hk).2.2⟩, h4, h5⟩
set_option maxRecDepth 100000 in
set_option maxHeartbeats 4000000 in
theorem lCopied_any (w : World) {S : Nat → Prop} {v : Value} {H Q : List Lk} (h : RdLs S w v H Q) (hH : smK H) (hQ : smK Q) :
    Calls Tryd.prog 54 #[v] w fun e w' => ∃ a c a2 c2, e = .returned (.agg #[.slice a H.length c, .slice a2 Q.length c2]) ∧ OwnKs w.heap.size w' a a2 c c2 H Q ∧ Below w.heap.size w w' := by
  obtain ⟨hlH, hsH⟩ := hH
  obtain ⟨hlQ, hsQ⟩ := hQ
  obtain ⟨a, c, a2, c2, rfl, hH, hQ⟩ := h
  obtain ⟨W0, hW, q, bn, bz, hsz⟩ := boxes2 w 24 24 [.slice a H.length c, .slice a2 Q.length c2] [.slice none 0 0, .slice none 0 0]
  have eA : ∀ args w, (callFunc 58 args).run Tryd.prog w = .ok (.enter 58 args) w := enters_of Tryd.func58 (by kernel_rfl) rfl
  go_enter Tryd.func54, Tryd.ntmps54
  go_upto_region 1 with (fail)
  rw [show (w.alloc (.cells #[.slice a H.length c, .slice a2 Q.length c2] 24)).alloc (.cells #[.slice none 0 0, .slice none 0 0] 24) = W0 from hW.symm]
  clear hW hsz
  have zW := bz.lt
  go_upto_region 2 with (first | (refine wpList_boxNew (vs := [.slice none 0 0, .slice none 0 0]) (by kernel_rfl) rfl rfl ?_; intro w1 hb1 hB1) | fail)
  have q1 := q.trans (hb1.mono q.size)
  have z1 := hB1.lt
  have b0 := (bn.below hb1 bn.lt).cell (i := 0) rfl
  go_upto_region 3 with (fail)
  clear b0
  go_loopw [11] (fun iv wr => ∃ (k : Nat) (ad : Option Addr) (ko : Nat), iv = .int .i64 k ∧ k ≤ H.length ∧ OwnL Elt.lk 29 (W0.heap.size + 1) (W0.heap.size + 1) wr (.slice ad (H.take k).length ko) (H.take k) ∧ BoxN wr W0.heap.size 24 [.slice ad (H.take k).length ko, .slice none 0 0] ∧ Below W0.heap.size W0 wr)
    (fun i _ => H.length - (intOf i).toNat)
  case atStart => exact ⟨0, none, 0, rfl, Nat.zero_le _, OwnL.nil _ _ _ _ _, hB1, hb1⟩
  case round =>
    clear hB1 hb1 q1
    obtain ⟨k, ad, ko, rfl, hkl, hO, hB, qr⟩ := hrel
    have q1 := q.trans (qr.mono q.size)
    have zr := qr.size
    have q0 := q
    replace q := q1
    clear q1
    rcases Nat.lt_or_ge k H.length with hlt | hge
    · obtain ⟨b, off, KA, KC, VA, VC, rfl, hb, c0, c1, c2, c3, c4, c5, c6, hk1, hk2, hw64⟩ := (hH.below q).lk k hlt
      obtain ⟨hx1, hx2⟩ := hsH _ (List.getElem_mem hlt)
      have hsn := Lib.hid (show H.take (k + 1) = H.take k ++ [H[k]] from List.take_succ_eq_append_getElem hlt)
      obtain ⟨x, ex⟩ : ∃ x, x = H[k] := ⟨_, rfl⟩
      obtain ⟨xs, exs⟩ : ∃ xs, xs = H.take k := ⟨_, rfl⟩
      have hxl : xs.length ≤ 1000000 := by rw [exs, List.length_take]; omega
      rw [← ex] at c0 c1 c2 c3 c4 c5 c6 hk1 hk2 hw64 hx1 hx2 hsn
      rw [← exs] at hO hB hsn
      clear ex exs
      have hx : RdLk S wr (.agg #[.int .i64 x.owner, .bool x.whole, .int .i64 x.span.table, .slice KA x.span.lo.length KC, .slice VA x.span.hi.length VC, .bool x.span.isOpen, .int .i64 x.mode]) x := ⟨KA, KC, VA, VC, rfl, hk1, hk2, hw64⟩
      go_upto_region 5 with (first | (refine wpList_boxNew (vs := [.int .i64 0, .bool false, .int .i64 0, .slice none 0 0, .slice none 0 0, .bool false, .int .i64 0]) (by kernel_rfl) rfl rfl ?_; intro wa hba hBa) | (refine wpList_boxStore (us := [.int .i64 x.owner, .bool x.whole, .int .i64 x.span.table, .slice KA x.span.lo.length KC, .slice VA x.span.hi.length VC, .bool x.span.isOpen, .int .i64 x.mode]) (by kernel_rfl) rfl rfl rfl rfl rfl rfl hBa rfl ?_; intro W hgw hXW) | fail)
      go_simp
      have hbw : Below wr.heap.size wr W := hba.grown hgw hba.size fun k hk => by injection hk with hk; omega
      have qW := qr.trans (hbw.mono qr.size)
      have hsW := hXW.lt
      have hBlt := hB.lt
      have hBW := hB.below hbw hB.lt
      have hrr : ∀ k, Value.ownBlock (.slice ad xs.length ko) = some k → (W0.heap.size + 1) ≤ k ∧ k < wr.heap.size := fun k hk => hO.block_lt k hk
      have hrW : ∀ k, Value.ownBlock (.slice ad xs.length ko) = some k → k < W.heap.size := fun k hk => by have := hrr k hk; omega
      replace hO := (hO.below hbw).but (b := W0.heap.size) (fun k hk _ => by omega)
      replace hx := hx.below hbw
      have hlo : (W0.heap.size + 1) ≤ W.heap.size := by omega
      have hxr : some wr.heap.size ≠ Value.ownBlock (.slice ad xs.length ko) := fun e => by have := hrr _ e.symm; omega
      have hxb : wr.heap.size ≠ W0.heap.size := by omega
      have hbr : Value.ownBlock (.slice ad xs.length ko) ≠ some W0.heap.size := fun e => by have := hrr _ e; omega
      have hb1 : W0.heap.size < (W0.heap.size + 1) := by omega
      clear c0 c1 c2 c3 c4 c5 c6 hk1 hk2 hba hBa hgw hbw hB q
      refine wp_region_lnl (K := fun A B => Twb A B (Value.ownBlock (.slice ad xs.length ko)) (W0.heap.size)) (by kernel_rfl) (by kernel_rfl) [3, 5, 7] (by kernel_rfl) [lEq (.pointer (some ⟨W0.heap.size, 0 + 0, none⟩)), lEq (.slice ad xs.length ko), lEq (.agg #[.int .i64 x.owner, .bool x.whole, .int .i64 x.span.table, .slice KA x.span.lo.length KC, .slice VA x.span.hi.length VC, .bool x.span.isOpen, .int .i64 x.mode]), lAny, pRow Elt.lk 29 (W) (Value.ownBlock (.slice ad xs.length ko)) (W0.heap.size) x hrW hBW.lt, lAny, lEq (.pointer (some ⟨W0.heap.size, 0 + 0, none⟩)), lAny] (PshJ Elt.lk 29 ((W0.heap.size + 1)) ((W0.heap.size + 1)) (Value.ownBlock (.slice ad xs.length ko)) (W0.heap.size) 24 [.slice ad xs.length ko, .slice none 0 0] 0 (W) (xs) x) PshJ.below (show Below (W).heap.size (W) (W) from Below.refl _ _)
        ⟨?o0, ?o1, ?o2, ?o3, ?o4, ?o5, ?o6, ?o7, trivial⟩ ?fin
      case o0 =>
        refine LnOp.side rfl (by kernel_rfl) (fun A va w' k hF hT hk hJ hb hu hp hd => ?_)
        have e1 : A.eval (.tmp 3) = .pointer (some ⟨W0.heap.size, 0, none⟩) := hF 3 rfl
        exact wp_fieldN lsS rfl (e1) (by omega) ⟨_, rfl, rfl, Below.refl _ _⟩
      case o1 =>
        refine LnOp.side rfl (by kernel_rfl) (fun A va w' k hF hT hk hJ hb hu hp hd => ?_)
        have e1 : A.eval (.tmp 15) = .pointer (some ⟨W0.heap.size, 0 + 0, none⟩) := (hT 15 0 (by simp) rfl).trans (hd ⟨0, .data⟩ (by simp) rfl rfl)
        have hk1 : k ≤ 1 := hb 1 5 rfl (by kernel_rfl)
        have hJ0 := PshJ.early hJ (by simp only [List.length_map, List.length_take]; omega)
        exact wp_ld_slice (e := 29) rfl e1 (by kernel_rfl) ((hBW.below hJ0 hBW.lt).cell (i := 0) rfl) ⟨_, rfl, rfl, Below.refl _ _⟩
      case o2 =>
        refine LnOp.side rfl (by kernel_rfl) (fun A va w' k hF hT hk hJ hb hu hp hd => ?_)
        have e1 : A.eval (.tmp 5) = .pointer (some ⟨wr.heap.size, 0, none⟩) := hF 5 rfl
        have hX2 := (PshJ.two hJ).boxN hXW hxr hxb
        exact wp_loadU (us := [.int .i64 x.owner, .bool x.whole, .int .i64 x.span.table, .slice KA x.span.lo.length KC, .slice VA x.span.hi.length VC, .bool x.span.isOpen, .int .i64 x.mode]) lkS rfl e1 (fun j u hj => by rw [Nat.zero_add]; exact hX2.cell hj) ⟨_, rfl, rfl, Below.refl _ _⟩
      case o3 =>
        refine LnOp.line 0 rfl rfl (fun A va w' hF hT hJ hu hd => ?_)
        have e1 : A.eval (.tmp 17) = .agg #[.int .i64 x.owner, .bool x.whole, .int .i64 x.span.table, .slice KA x.span.lo.length KC, .slice VA x.span.hi.length VC, .bool x.span.isOpen, .int .i64 x.mode] := (hT 17 2 (by simp) rfl).trans (hd ⟨2, .data⟩ (by simp) rfl rfl)
        have hJ0 : Below (W).heap.size (W) w' := hJ
        refine wp_callFn rfl eA (by simp only [List.map_toArray, List.map_cons, List.map_nil, e1]) ((lAlone_any w' (hx.below hJ0) hx1 hx2).mono ?_)
        rintro e w2 ⟨v2, rfl, ⟨ka, kc, va2, vc, rfl, hk2, hv2, ht2⟩, hb2⟩
        have hR : Elt.lk.R (fun k => W.heap.size ≤ k ∧ k < w2.heap.size) w2 x (lkC x (.slice ka x.span.lo.length kc) (.slice va2 x.span.hi.length vc)) := ⟨_, _, rfl, hk2.weak fun k hk => ⟨Nat.le_trans hJ0.size hk.1, hk.2⟩, hv2.weak fun k hk => ⟨Nat.le_trans hJ0.size hk.1, hk.2⟩, ht2⟩
        exact ⟨_, rfl, _, rfl, ⟨hJ0.trans (hb2.mono hJ0.size), _, rfl, hR⟩, (Twb.refl (r := Value.ownBlock (.slice ad xs.length ko)) (b := W0.heap.size)).below hb2⟩
      case o4 =>
        refine LnOp.side rfl (by kernel_rfl) (fun A va w' k hF hT hk hJ hb hu hp hd => ?_)
        have x1 : A.eval (.tmp 18) = va 3 := hT 18 3 (by simp) rfl
        obtain rfl : k = 1 := by
          have h1 := hp ⟨3, .data⟩ (by simp) rfl 0 rfl
          have h2 := hb 1 5 rfl (by kernel_rfl)
          omega
        obtain ⟨hJ0, us, eus, hR⟩ := hJ
        have hb1 : Below w'.heap.size w' (w'.alloc (.cells us.toArray 29)) := (Below.refl _ _).alloc (Nat.le_refl _) _
        exact wp_buildOne lkP rfl x1 eus (Elt.len _ hR) (by decide) (by decide) ⟨_, rfl, ⟨_, us, rfl, hJ0.size, by simp only [World.alloc, Array.getElem?_push_size], Elt.weak _ (Elt.below hR hb1) fun k hk => ⟨hk.1, Nat.lt_of_lt_of_le hk.2 hb1.size⟩⟩, hb1⟩
      case o5 =>
        refine LnOp.line 1 rfl rfl (fun A va w' hF hT hJ hu hd => ?_)
        have e1 : A.eval (.tmp 16) = .slice ad xs.length ko := (hT 16 1 (by simp) rfl).trans (hd ⟨1, .data⟩ (by simp) rfl rfl)
        have x2 : A.eval (.tmp 19) = va 4 := hT 19 4 (by simp) rfl
        have y2 := hd ⟨4, .data⟩ (by simp) rfl rfl
        have hJ' := hJ
        obtain ⟨hJ0, _⟩ := hJ
        obtain ⟨g, us, eg, hg0, hgc, hgR⟩ : ∃ g, ∃ us : List Value, va 4 = .slice (some ⟨g, 0, none⟩) 1 1 ∧ (W).heap.size ≤ g ∧ w'.heap[g]? = some (.cells us.toArray 29 (0, 0)) ∧ Elt.R Elt.lk (fun k => (W).heap.size ≤ k ∧ k < w'.heap.size) w' x us := y2
        refine wp_appendL (E := Elt.but Elt.lk (W0.heap.size)) (ys := [x]) lkP rfl e1 (hO.below hJ0) (x2.trans eg) (fun j u hj => by rw [Addr.add_lit, World.cell?, hgc]; simpa using hj) (Flat.single (Elt.weak Elt.lk hgR fun k hk => ⟨hk, fun e => by have := hk.1; have := hBW.lt; omega⟩)) (fun k hk => ⟨Nat.le_trans hlo hk.1, hk.2, fun e => by have := hrW k e.symm; omega⟩) (Nat.le_trans hlo hJ0.size) (fun ad7 k7 cap7 w2 h2 hg h3 => ?_) (by simp; omega)
        obtain rfl : k7 = (xs ++ [x]).length := h2.len
        exact ⟨_, rfl, PshJ.app hJ' hBW h2 hg hbr h3, (Twb.refl (b := W0.heap.size)).row hg⟩
      case o6 =>
        refine LnOp.side rfl (by kernel_rfl) (fun A va w' k hF hT hk hJ hb hu hp hd => ?_)
        have e1 : A.eval (.tmp 3) = .pointer (some ⟨W0.heap.size, 0, none⟩) := hF 3 rfl
        exact wp_fieldN lsS rfl (e1) (by omega) ⟨_, rfl, rfl, Below.refl _ _⟩
      case o7 =>
        refine LnOp.line 2 rfl rfl (fun A va w' hF hT hJ hu hd => ?_)
        have e1 : A.eval (.tmp 21) = .pointer (some ⟨W0.heap.size, 0 + 0, none⟩) := (hT 21 6 (by simp) rfl).trans (hd ⟨6, .data⟩ (by simp) rfl rfl)
        have x2 : A.eval (.tmp 20) = va 5 := hT 20 5 (by simp) rfl
        have hJ' := hJ
        obtain ⟨hJ0, ad7, c7, es, hOs, hBs, hn7⟩ := hJ
        refine wp_boxSet (j := 0) rfl (by kernel_rfl) e1 (x2.trans es) rfl rfl hBs (by simp) (fun w2 hg hB2 => ?_)
        exact ⟨_, rfl, PshJ.sto hJ' hOs hn7 hg hB2, (Twb.refl (r := Value.ownBlock (.slice ad xs.length ko))).box hg⟩
      case fin =>
        intro vs1 W9 hJ hG
        obtain ⟨htw, ad9, c9, hO9, hB9, hn9⟩ := hJ
        have g0 : vs1 0 = .pointer (some ⟨W0.heap.size, 0 + 0, none⟩) := hG 0 (by decide) rfl
        have g1 : vs1 1 = .slice ad xs.length ko := hG 1 (by decide) rfl
        have g2 : vs1 2 = .agg #[.int .i64 x.owner, .bool x.whole, .int .i64 x.span.table, .slice KA x.span.lo.length KC, .slice VA x.span.hi.length VC, .bool x.span.isOpen, .int .i64 x.mode] := hG 2 (by decide) rfl
        have g6 : vs1 6 = .pointer (some ⟨W0.heap.size, 0 + 0, none⟩) := hG 6 (by decide) rfl
        clear hG
        simp only [putAll, g0, g1, g2, g6]
        clear g0 g1 g2 g6
        go_simp
        have q9 := htw.belowB (w0 := W0) qW (fun k hk => by have := hrr k hk; omega) (Nat.le_refl _)
        replace hO9 := hO9.unbut
        rw [← hsn.out] at hO9 hB9
        clear hBW hXW hO hx hsn htw hn9
        go_wp2_with fail
        go_roundw
        case rel => exact ⟨k + 1, ad9, c9, by go_num, by omega, hO9, hB9, q9⟩
        case measure => simp [intOf]; omega
    · obtain rfl : k = H.length := by omega
      rw [List.take_length] at hO hB
      obtain ⟨aH, eaH⟩ : ∃ aH, aH = ad := ⟨_, rfl⟩
      obtain ⟨cH, ecH⟩ : ∃ cH, cH = ko := ⟨_, rfl⟩
      obtain ⟨w2, ew2⟩ : ∃ w2, w2 = wr := ⟨_, rfl⟩
      rw [← eaH, ← ecH, ← ew2] at hO hB
      rw [← ew2] at qr q zr ⊢
      clear eaH ecH ew2
      have hOH := hO
      have bn1 := bn.below qr bn.lt
      have bz1 := bz.below qr bz.lt
      have zB := hB.lt
      clear hO bn bz
      have b1 := bn1.cell (i := 1) rfl
      go_upto_region 8 with (fail)
      clear b1
      go_loopw [26] (fun iv wr => ∃ (k : Nat) (ad : Option Addr) (ko : Nat), iv = .int .i64 k ∧ k ≤ Q.length ∧ OwnL Elt.lk 29 (w2.heap.size) (w2.heap.size) wr (.slice ad (Q.take k).length ko) (Q.take k) ∧ BoxN wr W0.heap.size 24 [.slice aH H.length cH, .slice ad (Q.take k).length ko] ∧ w2.grownBy wr (some W0.heap.size))
        (fun i _ => Q.length - (intOf i).toNat)
      case atStart => exact ⟨0, none, 0, rfl, Nat.zero_le _, OwnL.nil _ _ _ _ _, hB, grownB (Below.refl _ _) _⟩
      case round =>
        clear hB
        obtain ⟨k, ad, ko, rfl, hkl, hO, hB, qr2⟩ := hrel
        have hbs : Below w.heap.size w wr := q.grown qr2 q.size fun k e => by injection e with e; have := q0.size; omega
        have qq := q
        replace q := hbs
        replace qr := qr2
        have zr2 := qr.size
        clear hbs qr2
        rcases Nat.lt_or_ge k Q.length with hlt | hge
        · obtain ⟨b, off, KA, KC, VA, VC, rfl, hb, c0, c1, c2, c3, c4, c5, c6, hk1, hk2, hw64⟩ := (hQ.below q).lk k hlt
          obtain ⟨hx1, hx2⟩ := hsQ _ (List.getElem_mem hlt)
          have hsn := Lib.hid (show Q.take (k + 1) = Q.take k ++ [Q[k]] from List.take_succ_eq_append_getElem hlt)
          obtain ⟨x, ex⟩ : ∃ x, x = Q[k] := ⟨_, rfl⟩
          obtain ⟨xs, exs⟩ : ∃ xs, xs = Q.take k := ⟨_, rfl⟩
          have hxl : xs.length ≤ 1000000 := by rw [exs, List.length_take]; omega
          rw [← ex] at c0 c1 c2 c3 c4 c5 c6 hk1 hk2 hw64 hx1 hx2 hsn
          rw [← exs] at hO hB hsn
          clear ex exs
          have hx : RdLk S wr (.agg #[.int .i64 x.owner, .bool x.whole, .int .i64 x.span.table, .slice KA x.span.lo.length KC, .slice VA x.span.hi.length VC, .bool x.span.isOpen, .int .i64 x.mode]) x := ⟨KA, KC, VA, VC, rfl, hk1, hk2, hw64⟩
          go_upto_region 10 with (first | (refine wpList_boxNew (vs := [.int .i64 0, .bool false, .int .i64 0, .slice none 0 0, .slice none 0 0, .bool false, .int .i64 0]) (by kernel_rfl) rfl rfl ?_; intro wa hba hBa) | (refine wpList_boxStore (us := [.int .i64 x.owner, .bool x.whole, .int .i64 x.span.table, .slice KA x.span.lo.length KC, .slice VA x.span.hi.length VC, .bool x.span.isOpen, .int .i64 x.mode]) (by kernel_rfl) rfl rfl rfl rfl rfl rfl hBa rfl ?_; intro W hgw hXW) | fail)
          go_simp
          have hbw : Below wr.heap.size wr W := hba.grown hgw hba.size fun k hk => by injection hk with hk; omega
          have qW : w2.grownBy W (some W0.heap.size) := grownT qr (grownB hbw _)
          have zqW := qW.size
          have hsW := hXW.lt
          have hBlt := hB.lt
          have hBW := hB.below hbw hB.lt
          have hrr : ∀ k, Value.ownBlock (.slice ad xs.length ko) = some k → (w2.heap.size) ≤ k ∧ k < wr.heap.size := fun k hk => hO.block_lt k hk
          have hrW : ∀ k, Value.ownBlock (.slice ad xs.length ko) = some k → k < W.heap.size := fun k hk => by have := hrr k hk; omega
          replace hO := (hO.below hbw).but (b := W0.heap.size) (fun k hk _ => by omega)
          replace hx := hx.below hbw
          have hlo : (w2.heap.size) ≤ W.heap.size := by omega
          have hxr : some wr.heap.size ≠ Value.ownBlock (.slice ad xs.length ko) := fun e => by have := hrr _ e.symm; omega
          have hxb : wr.heap.size ≠ W0.heap.size := by omega
          have hbr : Value.ownBlock (.slice ad xs.length ko) ≠ some W0.heap.size := fun e => by have := hrr _ e; omega
          have hb1 : W0.heap.size < (w2.heap.size) := by omega
          clear c0 c1 c2 c3 c4 c5 c6 hk1 hk2 hba hBa hgw hbw hB q
          refine wp_region_lnl (K := fun A B => Twb A B (Value.ownBlock (.slice ad xs.length ko)) (W0.heap.size)) (by kernel_rfl) (by kernel_rfl) [3, 5, 7] (by kernel_rfl) [lEq (.pointer (some ⟨W0.heap.size, 0 + 1, none⟩)), lEq (.slice ad xs.length ko), lEq (.agg #[.int .i64 x.owner, .bool x.whole, .int .i64 x.span.table, .slice KA x.span.lo.length KC, .slice VA x.span.hi.length VC, .bool x.span.isOpen, .int .i64 x.mode]), lAny, pRow Elt.lk 29 (W) (Value.ownBlock (.slice ad xs.length ko)) (W0.heap.size) x hrW hBW.lt, lAny, lEq (.pointer (some ⟨W0.heap.size, 0 + 1, none⟩)), lAny] (PshJ Elt.lk 29 ((w2.heap.size)) ((w2.heap.size)) (Value.ownBlock (.slice ad xs.length ko)) (W0.heap.size) 24 [.slice aH H.length cH, .slice ad xs.length ko] 1 (W) (xs) x) PshJ.below (show Below (W).heap.size (W) (W) from Below.refl _ _)
            ⟨?o0, ?o1, ?o2, ?o3, ?o4, ?o5, ?o6, ?o7, trivial⟩ ?fin
          case o0 =>
            refine LnOp.side rfl (by kernel_rfl) (fun A va w' k hF hT hk hJ hb hu hp hd => ?_)
            have e1 : A.eval (.tmp 3) = .pointer (some ⟨W0.heap.size, 0, none⟩) := hF 3 rfl
            exact wp_fieldN lsS rfl (e1) (by omega) ⟨_, rfl, rfl, Below.refl _ _⟩
          case o1 =>
            refine LnOp.side rfl (by kernel_rfl) (fun A va w' k hF hT hk hJ hb hu hp hd => ?_)
            have e1 : A.eval (.tmp 30) = .pointer (some ⟨W0.heap.size, 0 + 1, none⟩) := (hT 30 0 (by simp) rfl).trans (hd ⟨0, .data⟩ (by simp) rfl rfl)
            have hk1 : k ≤ 1 := hb 1 5 rfl (by kernel_rfl)
            have hJ0 := PshJ.early hJ (by simp only [List.length_map, List.length_take]; omega)
            exact wp_ld_slice (e := 29) rfl e1 (by kernel_rfl) ((hBW.below hJ0 hBW.lt).cell (i := 1) rfl) ⟨_, rfl, rfl, Below.refl _ _⟩
          case o2 =>
            refine LnOp.side rfl (by kernel_rfl) (fun A va w' k hF hT hk hJ hb hu hp hd => ?_)
            have e1 : A.eval (.tmp 7) = .pointer (some ⟨wr.heap.size, 0, none⟩) := hF 7 rfl
            have hX2 := (PshJ.two hJ).boxN hXW hxr hxb
            exact wp_loadU (us := [.int .i64 x.owner, .bool x.whole, .int .i64 x.span.table, .slice KA x.span.lo.length KC, .slice VA x.span.hi.length VC, .bool x.span.isOpen, .int .i64 x.mode]) lkS rfl e1 (fun j u hj => by rw [Nat.zero_add]; exact hX2.cell hj) ⟨_, rfl, rfl, Below.refl _ _⟩
          case o3 =>
            refine LnOp.line 0 rfl rfl (fun A va w' hF hT hJ hu hd => ?_)
            have e1 : A.eval (.tmp 32) = .agg #[.int .i64 x.owner, .bool x.whole, .int .i64 x.span.table, .slice KA x.span.lo.length KC, .slice VA x.span.hi.length VC, .bool x.span.isOpen, .int .i64 x.mode] := (hT 32 2 (by simp) rfl).trans (hd ⟨2, .data⟩ (by simp) rfl rfl)
            have hJ0 : Below (W).heap.size (W) w' := hJ
            refine wp_callFn rfl eA (by simp only [List.map_toArray, List.map_cons, List.map_nil, e1]) ((lAlone_any w' (hx.below hJ0) hx1 hx2).mono ?_)
            rintro e w2 ⟨v2, rfl, ⟨ka, kc, va2, vc, rfl, hk2, hv2, ht2⟩, hb2⟩
            have hR : Elt.lk.R (fun k => W.heap.size ≤ k ∧ k < w2.heap.size) w2 x (lkC x (.slice ka x.span.lo.length kc) (.slice va2 x.span.hi.length vc)) := ⟨_, _, rfl, hk2.weak fun k hk => ⟨Nat.le_trans hJ0.size hk.1, hk.2⟩, hv2.weak fun k hk => ⟨Nat.le_trans hJ0.size hk.1, hk.2⟩, ht2⟩
            exact ⟨_, rfl, _, rfl, ⟨hJ0.trans (hb2.mono hJ0.size), _, rfl, hR⟩, (Twb.refl (r := Value.ownBlock (.slice ad xs.length ko)) (b := W0.heap.size)).below hb2⟩
          case o4 =>
            refine LnOp.side rfl (by kernel_rfl) (fun A va w' k hF hT hk hJ hb hu hp hd => ?_)
            have x1 : A.eval (.tmp 33) = va 3 := hT 33 3 (by simp) rfl
            obtain rfl : k = 1 := by
              have h1 := hp ⟨3, .data⟩ (by simp) rfl 0 rfl
              have h2 := hb 1 5 rfl (by kernel_rfl)
              omega
            obtain ⟨hJ0, us, eus, hR⟩ := hJ
            have hb1 : Below w'.heap.size w' (w'.alloc (.cells us.toArray 29)) := (Below.refl _ _).alloc (Nat.le_refl _) _
            exact wp_buildOne lkP rfl x1 eus (Elt.len _ hR) (by decide) (by decide) ⟨_, rfl, ⟨_, us, rfl, hJ0.size, by simp only [World.alloc, Array.getElem?_push_size], Elt.weak _ (Elt.below hR hb1) fun k hk => ⟨hk.1, Nat.lt_of_lt_of_le hk.2 hb1.size⟩⟩, hb1⟩
          case o5 =>
            refine LnOp.line 1 rfl rfl (fun A va w' hF hT hJ hu hd => ?_)
            have e1 : A.eval (.tmp 31) = .slice ad xs.length ko := (hT 31 1 (by simp) rfl).trans (hd ⟨1, .data⟩ (by simp) rfl rfl)
            have x2 : A.eval (.tmp 34) = va 4 := hT 34 4 (by simp) rfl
            have y2 := hd ⟨4, .data⟩ (by simp) rfl rfl
            have hJ' := hJ
            obtain ⟨hJ0, _⟩ := hJ
            obtain ⟨g, us, eg, hg0, hgc, hgR⟩ : ∃ g, ∃ us : List Value, va 4 = .slice (some ⟨g, 0, none⟩) 1 1 ∧ (W).heap.size ≤ g ∧ w'.heap[g]? = some (.cells us.toArray 29 (0, 0)) ∧ Elt.R Elt.lk (fun k => (W).heap.size ≤ k ∧ k < w'.heap.size) w' x us := y2
            refine wp_appendL (E := Elt.but Elt.lk (W0.heap.size)) (ys := [x]) lkP rfl e1 (hO.below hJ0) (x2.trans eg) (fun j u hj => by rw [Addr.add_lit, World.cell?, hgc]; simpa using hj) (Flat.single (Elt.weak Elt.lk hgR fun k hk => ⟨hk, fun e => by have := hk.1; have := hBW.lt; omega⟩)) (fun k hk => ⟨Nat.le_trans hlo hk.1, hk.2, fun e => by have := hrW k e.symm; omega⟩) (Nat.le_trans hlo hJ0.size) (fun ad7 k7 cap7 w2 h2 hg h3 => ?_) (by simp; omega)
            obtain rfl : k7 = (xs ++ [x]).length := h2.len
            exact ⟨_, rfl, PshJ.app hJ' hBW h2 hg hbr h3, (Twb.refl (b := W0.heap.size)).row hg⟩
          case o6 =>
            refine LnOp.side rfl (by kernel_rfl) (fun A va w' k hF hT hk hJ hb hu hp hd => ?_)
            have e1 : A.eval (.tmp 3) = .pointer (some ⟨W0.heap.size, 0, none⟩) := hF 3 rfl
            exact wp_fieldN lsS rfl (e1) (by omega) ⟨_, rfl, rfl, Below.refl _ _⟩
          case o7 =>
            refine LnOp.line 2 rfl rfl (fun A va w' hF hT hJ hu hd => ?_)
            have e1 : A.eval (.tmp 36) = .pointer (some ⟨W0.heap.size, 0 + 1, none⟩) := (hT 36 6 (by simp) rfl).trans (hd ⟨6, .data⟩ (by simp) rfl rfl)
            have x2 : A.eval (.tmp 35) = va 5 := hT 35 5 (by simp) rfl
            have hJ' := hJ
            obtain ⟨hJ0, ad7, c7, es, hOs, hBs, hn7⟩ := hJ
            refine wp_boxSet (j := 1) rfl (by kernel_rfl) e1 (x2.trans es) rfl rfl hBs (by simp) (fun w2 hg hB2 => ?_)
            exact ⟨_, rfl, PshJ.sto hJ' hOs hn7 hg hB2, (Twb.refl (r := Value.ownBlock (.slice ad xs.length ko))).box hg⟩
          case fin =>
            intro vs1 W9 hJ hG
            obtain ⟨htw, ad9, c9, hO9, hB9, hn9⟩ := hJ
            have g0 : vs1 0 = .pointer (some ⟨W0.heap.size, 0 + 1, none⟩) := hG 0 (by decide) rfl
            have g1 : vs1 1 = .slice ad xs.length ko := hG 1 (by decide) rfl
            have g2 : vs1 2 = .agg #[.int .i64 x.owner, .bool x.whole, .int .i64 x.span.table, .slice KA x.span.lo.length KC, .slice VA x.span.hi.length VC, .bool x.span.isOpen, .int .i64 x.mode] := hG 2 (by decide) rfl
            have g6 : vs1 6 = .pointer (some ⟨W0.heap.size, 0 + 1, none⟩) := hG 6 (by decide) rfl
            clear hG
            simp only [putAll, g0, g1, g2, g6]
            clear g0 g1 g2 g6
            go_simp
            have q9 : w2.grownBy W9 (some W0.heap.size) := ⟨htw.os.trans qW.os, htw.tape.trans qW.tape, htw.output.trans qW.output, Nat.le_trans qW.size htw.size, fun k hk hn => (htw.block k (by omega) (fun e => by have := hrr k e.symm; omega) (fun e => hn (by rw [e]))).trans (qW.block k hk hn)⟩
            replace hO9 := hO9.unbut
            rw [← hsn.out] at hO9 hB9
            clear hBW hXW hO hx hsn htw hn9
            go_wp2_with fail
            go_roundw
            case rel => exact ⟨k + 1, ad9, c9, by go_num, by omega, hO9, hB9, q9⟩
            case measure => simp [intOf]; omega
        · obtain rfl : k = Q.length := by omega
          rw [List.take_length] at hO hB
          have b0 := hB.cell (i := 0) rfl
          have b1 := hB.cell (i := 1) rfl
          have bz2 := bz1.other qr (fun e => by injection e with e; have := bz1.lt; omega)
          go_wp2_with (first | (refine wpList_boxStore (us := [.slice aH H.length cH, .slice ad Q.length ko]) (by kernel_rfl) rfl rfl rfl rfl rfl rfl bz2 rfl ?_; intro wd hgd hBd) | fail)
          have d0 := hBd.cell (i := 0) rfl
          have d1 := hBd.cell (i := 1) rfl
          obtain ⟨fs, hu, _⟩ := lsS.hu
          refine bodyPost_ret (v := .agg #[.slice aH H.length cH, .slice ad Q.length ko]) (by simp [results, Tryd.results54, go_sem, loadVar, isAgg, run_underlying hu, run_sizeOf' lsS.hs, loadCellsFrom, Addr.add, d0, d1]) rfl ?_
          have zd := hgd.size
          have z0 := q0.size
          have hH9 := (hOH.other qr (by omega) (by omega)).other hgd (by omega) (by omega)
          have hQ9 := hO.other hgd (by omega) (by omega)
          have hHl := fun k hk => hOH.block_lt k hk
          have hQl := fun k hk => hQ9.block_lt k hk
          have hQe := hQ9.ownF
          have hHe : OwnF Elt.lk 29 (fun k => W0.heap.size + 1 ≤ k ∧ k < w2.heap.size ∧ some k ≠ Value.ownBlock (.slice aH H.length cH)) wd (.slice aH H.length cH) H := by
            refine hOH.ownF.kept (fun k hk => ?_) fun k hk => ?_
            · have h9 := hHl k hk
              exact (hgd.block k (by omega) fun e => by injection e with e; omega).trans (qr.block k h9.2 fun e => by injection e with e; omega)
            · exact (hgd.block k (by omega) fun e => by injection e with e; omega).trans (qr.block k hk.2.1 fun e => by injection e with e; omega)
          refine ⟨_, _, _, _, rfl, ⟨fun k => w.heap.size ≤ k ∧ k < wd.heap.size ∧ Value.ownBlock (.slice aH H.length cH) ≠ some k ∧ Value.ownBlock (.slice ad Q.length ko) ≠ some k, hHe.weak fun k hk => ⟨by omega, by omega, fun e => hk.2.2 e.symm, fun e => by have := hQl k e; omega⟩, hQe.weak fun k hk => ⟨by omega, hk.2.1, fun e => by have := hHl k e; omega, fun e => hk.2.2 e.symm⟩, fun k hk => hk, fun k hk => ⟨by have := hHl k hk; omega, fun e => by have := hHl k hk; have := hQl k e; omega⟩, fun k hk => by have := hQl k hk; omega⟩, q.grown hgd q.size fun k e => by injection e with e; omega⟩
end Go.Proofs.YtpdnehgboafgpaaDoor
namespace Go.Proofs.YtpdnehgboafgpaaDoor
open Go.RowKit
set_option maxRecDepth 100000 in
theorem join_any (w : World) (a b : Int) : Calls Tryd.prog 61 #[.int .i64 a, .int .i64 b] w fun e w' => e = .returned (.int .i64 (joinM a b)) ∧ w' = w := by
  go_enter Tryd.func61, Tryd.ntmps61
  go_upto_region 2 with (fail)
  go_loopw [7] (fun iv wr => ∃ i : Nat, iv = .int .i64 i ∧ i ≤ 5 ∧ RowKit.Hid (∀ j : Nat, j < i → (covM ((j : Int) + 1) a && covM ((j : Int) + 1) b) = false) ∧ wr = w) (fun i _ => 5 - (intOf i).toNat)
  case atStart => exact ⟨0, rfl, by omega, Lib.hid (fun j h => absurd h (by omega)), rfl⟩
  case round =>
    obtain ⟨i, rfl, hil, hno, rfl⟩ := hrel
    rcases Nat.lt_or_ge i 5 with hlt | hge
    · have d1 : decide ((i : Int) < 5) = true := by simp; omega
      have d0 : ((i : Int) < 5) = True := by simp; omega
      have w0 : IntKind.i64.wrap (1 + (i : Int)) = (i : Int) + 1 := by rw [wrap_i64m (by omega) (by omega)]; omega
      cases ha : covM ((i : Int) + 1) a
      · have H := Lib.hid (show ∀ j : Nat, j < i + 1 → (covM ((j : Int) + 1) a && covM ((j : Int) + 1) b) = false from fun j hj => by
          rcases Nat.lt_or_ge j i with h | h
          · exact hno.out j h
          · obtain rfl : j = i := by omega
            simp [ha])
        go_wp2_with fail
        refine (covers_any wr _ a).mono ?_
        rintro e w1 ⟨rfl, rfl⟩
        rw [ha]
        clear ha
        go_wp2_with fail
        go_roundw
        case rel => exact ⟨i + 1, by go_num, by omega, H, trivial⟩
        case measure => simp [intOf]; omega
      · cases hb : covM ((i : Int) + 1) b
        · have H := Lib.hid (show ∀ j : Nat, j < i + 1 → (covM ((j : Int) + 1) a && covM ((j : Int) + 1) b) = false from fun j hj => by
            rcases Nat.lt_or_ge j i with h | h
            · exact hno.out j h
            · obtain rfl : j = i := by omega
              simp [hb])
          go_wp2_with fail
          refine (covers_any wr _ a).mono ?_
          rintro e w1 ⟨rfl, rfl⟩
          rw [ha]
          go_wp2_with fail
          refine (covers_any w1 _ b).mono ?_
          rintro e w2 ⟨rfl, rfl⟩
          rw [hb]
          clear ha hb
          go_wp2_with fail
          go_roundw
          case rel => exact ⟨i + 1, by go_num, by omega, H, trivial⟩
          case measure => simp [intOf]; omega
        · have H := Lib.hid (show joinM a b = (i : Int) + 1 from join_at i hlt hno.out ha hb)
          go_wp2_with fail
          refine (covers_any wr _ a).mono ?_
          rintro e w1 ⟨rfl, rfl⟩
          rw [ha]
          go_wp2_with fail
          refine (covers_any w1 _ b).mono ?_
          rintro e w2 ⟨rfl, rfl⟩
          rw [hb]
          clear ha hb
          go_wp2_with fail
          go_ret
          exact ⟨by rw [H.out]; rfl, rfl⟩
    · obtain h5 : i = 5 := by omega
      have H := Lib.hid (show joinM a b = 0 from join_no (h5 ▸ hno.out))
      have d1 : decide ((i : Int) < 5) = false := by simp; omega
      have d0 : ((i : Int) < 5) = False := by simp; omega
      clear h5 hge
      go_wp2_with fail
      go_ret
      exact ⟨by rw [H.out]; rfl, rfl⟩
set_option maxRecDepth 100000 in
theorem may_any (w : World) (a : Int) : Calls Tryd.prog 68 #[.int .i64 a] w fun e w' => e = .returned (.int .i64 (mayM a)) ∧ w' = w := by
  rcases md_cases a with rfl | rfl | rfl | rfl | rfl | h
  case inr.inr.inr.inr.inr =>
    obtain ⟨h1, h2, h3, h4, h5⟩ := kn_ne h
    have b1 : (a == 1) = false := by simpa using h1
    have b2 : (a == 2) = false := by simpa using h2
    have b3 : (a == 3) = false := by simpa using h3
    have b4 : (a == 4) = false := by simpa using h4
    have b5 : (a == 5) = false := by simpa using h5
    rw [may_none h]
    clear h h1 h2 h3 h4 h5
    go_enter Tryd.func68, Tryd.ntmps68
    go_wp2_with fail
    go_ret
    exact ⟨rfl, rfl⟩
  all_goals
    go_enter Tryd.func68, Tryd.ntmps68
    go_wp2_with fail
    go_ret
    exact ⟨rfl, rfl⟩
set_option maxRecDepth 100000 in
set_option maxHeartbeats 4000000 in
theorem refFits_any (w : World) (a b : Int) : Calls Tryd.prog 47 #[.int .i64 a, .int .i64 b] w fun e w' => e = .returned (.bool (fitM a b)) ∧ w' = w := by
  rcases md_cases a with rfl | rfl | rfl | rfl | rfl | h
  case inr.inr.inr.inr.inr =>
    have hm := may_none h
    rw [fit_none _ h]
    clear h
    go_enter Tryd.func47, Tryd.ntmps47
    go_wp2_with fail
    refine (may_any w a).mono ?_
    rintro e w1 ⟨rfl, rfl⟩
    rw [hm]
    go_wp2_with fail
    refine (may_any w1 b).mono ?_
    rintro e w2 ⟨rfl, rfl⟩
    clear hm
    go_wp2_with fail
    go_ret
    exact ⟨rfl, rfl⟩
  all_goals rcases md_cases b with rfl | rfl | rfl | rfl | rfl | h
  case inr.inr.inr.inr.inr | inr.inr.inr.inr.inr | inr.inr.inr.inr.inr | inr.inr.inr.inr.inr | inr.inr.inr.inr.inr =>
    have hm := may_none h
    rw [fit_none2 _ h]
    clear h
    go_enter Tryd.func47, Tryd.ntmps47
    go_wp2_with fail
    refine (may_any w _).mono ?_
    rintro e w1 ⟨rfl, rfl⟩
    simp only [mayM]
    go_wp2_with fail
    refine (may_any w1 b).mono ?_
    rintro e w2 ⟨rfl, rfl⟩
    rw [hm]
    go_wp2_with fail
    go_ret
    exact ⟨rfl, rfl⟩
  all_goals
    go_enter Tryd.func47, Tryd.ntmps47
    go_wp2_with fail
    refine (may_any w _).mono ?_
    rintro e w1 ⟨rfl, rfl⟩
    simp only [mayM]
    go_wp2_with fail
    refine (may_any w1 _).mono ?_
    rintro e w2 ⟨rfl, rfl⟩
    simp only [mayM]
    go_wp2_with fail
    go_ret
    exact ⟨rfl, rfl⟩
end Go.Proofs.YtpdnehgboafgpaaDoor
namespace Go.Proofs.YtpdnehgboafgpaaDoor
open Go.RowKit Go.Shelf
theorem str_ltS {a b : List UInt8} : Op.bytesLess (strOf a).toList (strOf b).toList = ltB a b := by
  rw [show (strOf a).toList = a by simp [strOf], show (strOf b).toList = b by simp [strOf]]; rfl
theorem str_eqS {a b : List UInt8} : ((strOf a).toList == (strOf b).toList) = decide (a = b) := by
  rw [show (strOf a).toList = a by simp [strOf], show (strOf b).toList = b by simp [strOf]]
  by_cases h : a = b <;> simp [h]
theorem str_leS {a b : List UInt8} : (Op.bytesLess (strOf a).toList (strOf b).toList || (strOf a).toList == (strOf b).toList) = !ltB b a := by
  rw [str_ltS, str_eqS]
  cases h : ltB a b with
  | true => rw [ltB_asymm h]; rfl
  | false =>
    by_cases e : a = b
    · subst e; rw [ltB_irrefl]; simp
    · rw [ltB_total e h]; simp [e]
theorem cmp_le (a b : List UInt8) : decide (Lib.compareBytes a b ≤ 0) = !ltB b a := by
  have h1 := cmp_lt a b
  have h2 := cmp_eq a b
  cases h : ltB a b with
  | true =>
    rw [h] at h1
    rw [ltB_asymm h]
    have := of_decide_eq_true h1
    exact decide_eq_true (by omega)
  | false =>
    rw [h] at h1
    have h3 := of_decide_eq_false h1
    by_cases e : a = b
    · rw [decide_eq_true e] at h2
      have := beq_iff_eq.1 h2
      subst e
      rw [ltB_irrefl]
      exact decide_eq_true (by omega)
    · rw [decide_eq_false e] at h2
      have := beq_eq_false_iff_ne.1 h2
      rw [ltB_total e h]
      exact decide_eq_false (by omega)
set_option maxRecDepth 100000 in
set_option maxHeartbeats 4000000 in
theorem sCheck_any (w : World) {S : Nat → Prop} {v : Value} {x : Sp} (hx : RdSp S w v x) :
    Calls Tryd.prog 66 #[v] w fun e w' => e = .returned (.bool (decide (mayS x))) ∧ Below w.heap.size w w' := by
  obtain ⟨a1, a2, a3, a4, rfl, hlx, hhx, htx⟩ := hx
  have m1x : x.lo.length ≤ 9223372036854775807 := by have := hlx.len; unfold maxLen at this; omega
  have m2x : x.hi.length ≤ 9223372036854775807 := by have := hhx.len; unfold maxLen at this; omega
  obtain ⟨W, hW, q, Bx, hsz⟩ := spBox w 27 [.int .i64 x.table, .slice a1 x.lo.length a2, .slice a3 x.hi.length a4, .bool x.isOpen]
  clear hsz
  go_enter Tryd.func66, Tryd.ntmps66
  go_upto_region 1 with (fail)
  rw [show w.alloc (.cells #[.int .i64 x.table, .slice a1 x.lo.length a2, .slice a3 x.hi.length a4, .bool x.isOpen] 27) = W from hW.symm]
  clear hW
  have cx0 := Bx.cell (i := 0) rfl
  have cx1 := Bx.cell (i := 1) rfl
  have cx2 := Bx.cell (i := 2) rfl
  have cx3 := Bx.cell (i := 3) rfl
  have rlx := hlx.below q
  have rhx := hhx.below q
  by_cases h_t0 : 0 ≤ x.table
  · have dt0a : decide (0 ≤ x.table) = true := decide_eq_true (by omega)
    have dt0b : decide (x.table < 0) = false := decide_eq_false (by omega)
    by_cases h_t3 : x.table ≤ 3
    · have dt3a : decide (x.table ≤ 3) = true := decide_eq_true (by omega)
      have dt3b : decide (4 ≤ x.table) = false := decide_eq_false (by omega)
      by_cases h_lo : x.lo.length ≤ 17
      · have dloa : decide ((x.lo.length : Int) ≤ 17) = true := decide_eq_true (by omega)
        have dlob : decide ((17 : Int) < (x.lo.length : Int)) = false := decide_eq_false (by omega)
        by_cases h_hi : x.hi.length ≤ 17
        · have dhia : decide ((x.hi.length : Int) ≤ 17) = true := decide_eq_true (by omega)
          have dhib : decide ((17 : Int) < (x.hi.length : Int)) = false := decide_eq_false (by omega)
          cases h_op : x.isOpen with
          | true =>
            rw [h_op] at cx3
            by_cases h_h0 : x.hi.length = 0
            · have d0a : ((x.hi.length : Int) == 0) = true := beq_iff_eq.2 (by omega)
              have d0b : decide ((x.hi.length : Int) = 0) = true := decide_eq_true (by omega)
              have H := Lib.hid (show decide (mayS x) = true from decide_eq_true ⟨by omega, by omega, by omega, by omega, fun _ => List.eq_nil_of_length_eq_zero (by omega)⟩)
              clear h_t0 h_t3 h_lo h_hi h_op h_h0
              go_wp2_with fail
              go_ret
              exact ⟨by first | (rw [H.out]; done) | (rw [H.out]; rfl), q⟩
            · have d0a : ((x.hi.length : Int) == 0) = false := beq_eq_false_iff_ne.2 (by omega)
              have d0b : decide ((x.hi.length : Int) = 0) = false := decide_eq_false (by omega)
              have H := Lib.hid (show decide (mayS x) = false from decide_eq_false fun h => by have := h.2.2.2.2 h_op; rw [this] at h_h0; simp at h_h0)
              clear h_t0 h_t3 h_lo h_hi h_op h_h0
              go_wp2_with fail
              go_ret
              exact ⟨by first | (rw [H.out]; done) | (rw [H.out]; rfl), q⟩
          | false =>
            rw [h_op] at cx3
            have H := Lib.hid (show decide (mayS x) = true from decide_eq_true ⟨by omega, by omega, by omega, by omega, fun h => by rw [h_op] at h; cases h⟩)
            clear h_t0 h_t3 h_lo h_hi h_op
            go_wp2_with fail
            go_ret
            exact ⟨by first | (rw [H.out]; done) | (rw [H.out]; rfl), q⟩
        · have dhia : decide ((x.hi.length : Int) ≤ 17) = false := decide_eq_false (by omega)
          have dhib : decide ((17 : Int) < (x.hi.length : Int)) = true := decide_eq_true (by omega)
          have H := Lib.hid (show decide (mayS x) = false from decide_eq_false fun h => by have := h.2.2.2.1; omega)
          clear h_t0 h_t3 h_lo h_hi
          go_wp2_with fail
          go_ret
          exact ⟨by first | (rw [H.out]; done) | (rw [H.out]; rfl), q⟩
      · have dloa : decide ((x.lo.length : Int) ≤ 17) = false := decide_eq_false (by omega)
        have dlob : decide ((17 : Int) < (x.lo.length : Int)) = true := decide_eq_true (by omega)
        have H := Lib.hid (show decide (mayS x) = false from decide_eq_false fun h => by have := h.2.2.1; omega)
        clear h_t0 h_t3 h_lo
        go_wp2_with fail
        go_ret
        exact ⟨by first | (rw [H.out]; done) | (rw [H.out]; rfl), q⟩
    · have dt3a : decide (x.table ≤ 3) = false := decide_eq_false (by omega)
      have dt3b : decide (4 ≤ x.table) = true := decide_eq_true (by omega)
      have H := Lib.hid (show decide (mayS x) = false from decide_eq_false fun h => by have := h.2.1; omega)
      clear h_t0 h_t3
      go_wp2_with fail
      go_ret
      exact ⟨by first | (rw [H.out]; done) | (rw [H.out]; rfl), q⟩
  · have dt0a : decide (0 ≤ x.table) = false := decide_eq_false (by omega)
    have dt0b : decide (x.table < 0) = true := decide_eq_true (by omega)
    have H := Lib.hid (show decide (mayS x) = false from decide_eq_false fun h => by have := h.1; omega)
    clear h_t0
    go_wp2_with fail
    go_ret
    exact ⟨by first | (rw [H.out]; done) | (rw [H.out]; rfl), q⟩
set_option maxRecDepth 100000 in
set_option maxHeartbeats 4000000 in
theorem rCheck_any (w : World) {S : Nat → Prop} {v : Value} {x : Sp} (hx : RdSp S w v x) :
    Calls Tryd.prog 69 #[v] w fun e w' => e = .returned (.bool (decide (mayS x))) ∧ Below w.heap.size w w' := by
  obtain ⟨a1, a2, a3, a4, rfl, hlx, hhx, htx⟩ := hx
  have m1x : x.lo.length ≤ 9223372036854775807 := by have := hlx.len; unfold maxLen at this; omega
  have m2x : x.hi.length ≤ 9223372036854775807 := by have := hhx.len; unfold maxLen at this; omega
  obtain ⟨W, hW, q, Bx, hsz⟩ := spBox w 27 [.int .i64 x.table, .slice a1 x.lo.length a2, .slice a3 x.hi.length a4, .bool x.isOpen]
  clear hsz
  go_enter Tryd.func69, Tryd.ntmps69
  go_upto_region 1 with (fail)
  rw [show w.alloc (.cells #[.int .i64 x.table, .slice a1 x.lo.length a2, .slice a3 x.hi.length a4, .bool x.isOpen] 27) = W from hW.symm]
  clear hW
  have cx0 := Bx.cell (i := 0) rfl
  have cx1 := Bx.cell (i := 1) rfl
  have cx2 := Bx.cell (i := 2) rfl
  have cx3 := Bx.cell (i := 3) rfl
  have rlx := hlx.below q
  have rhx := hhx.below q
  by_cases h_t0 : 0 ≤ x.table
  · have dt0a : decide (0 ≤ x.table) = true := decide_eq_true (by omega)
    have dt0b : decide (x.table < 0) = false := decide_eq_false (by omega)
    by_cases h_t3 : x.table ≤ 3
    · have dt3a : decide (x.table ≤ 3) = true := decide_eq_true (by omega)
      have dt3b : decide (4 ≤ x.table) = false := decide_eq_false (by omega)
      by_cases h_lo : x.lo.length ≤ 17
      · have dloa : decide ((x.lo.length : Int) ≤ 17) = true := decide_eq_true (by omega)
        have dlob : decide ((17 : Int) < (x.lo.length : Int)) = false := decide_eq_false (by omega)
        by_cases h_hi : x.hi.length ≤ 17
        · have dhia : decide ((x.hi.length : Int) ≤ 17) = true := decide_eq_true (by omega)
          have dhib : decide ((17 : Int) < (x.hi.length : Int)) = false := decide_eq_false (by omega)
          cases h_op : x.isOpen with
          | true =>
            rw [h_op] at cx3
            by_cases h_h0 : x.hi.length = 0
            · have d0a : ((x.hi.length : Int) == 0) = true := beq_iff_eq.2 (by omega)
              have d0b : decide ((x.hi.length : Int) = 0) = true := decide_eq_true (by omega)
              have H := Lib.hid (show decide (mayS x) = true from decide_eq_true ⟨by omega, by omega, by omega, by omega, fun _ => List.eq_nil_of_length_eq_zero (by omega)⟩)
              clear h_t0 h_t3 h_lo h_hi h_op h_h0
              go_wp2_with fail
              go_ret
              exact ⟨by first | (rw [H.out]; done) | (rw [H.out]; rfl), q⟩
            · have d0a : ((x.hi.length : Int) == 0) = false := beq_eq_false_iff_ne.2 (by omega)
              have d0b : decide ((x.hi.length : Int) = 0) = false := decide_eq_false (by omega)
              have H := Lib.hid (show decide (mayS x) = false from decide_eq_false fun h => by have := h.2.2.2.2 h_op; rw [this] at h_h0; simp at h_h0)
              clear h_t0 h_t3 h_lo h_hi h_op h_h0
              go_wp2_with fail
              go_ret
              exact ⟨by first | (rw [H.out]; done) | (rw [H.out]; rfl), q⟩
          | false =>
            rw [h_op] at cx3
            have H := Lib.hid (show decide (mayS x) = true from decide_eq_true ⟨by omega, by omega, by omega, by omega, fun h => by rw [h_op] at h; cases h⟩)
            clear h_t0 h_t3 h_lo h_hi h_op
            go_wp2_with fail
            go_ret
            exact ⟨by first | (rw [H.out]; done) | (rw [H.out]; rfl), q⟩
        · have dhia : decide ((x.hi.length : Int) ≤ 17) = false := decide_eq_false (by omega)
          have dhib : decide ((17 : Int) < (x.hi.length : Int)) = true := decide_eq_true (by omega)
          have H := Lib.hid (show decide (mayS x) = false from decide_eq_false fun h => by have := h.2.2.2.1; omega)
          clear h_t0 h_t3 h_lo h_hi
          go_wp2_with fail
          go_ret
          exact ⟨by first | (rw [H.out]; done) | (rw [H.out]; rfl), q⟩
      · have dloa : decide ((x.lo.length : Int) ≤ 17) = false := decide_eq_false (by omega)
        have dlob : decide ((17 : Int) < (x.lo.length : Int)) = true := decide_eq_true (by omega)
        have H := Lib.hid (show decide (mayS x) = false from decide_eq_false fun h => by have := h.2.2.1; omega)
        clear h_t0 h_t3 h_lo
        go_wp2_with fail
        go_ret
        exact ⟨by first | (rw [H.out]; done) | (rw [H.out]; rfl), q⟩
    · have dt3a : decide (x.table ≤ 3) = false := decide_eq_false (by omega)
      have dt3b : decide (4 ≤ x.table) = true := decide_eq_true (by omega)
      have H := Lib.hid (show decide (mayS x) = false from decide_eq_false fun h => by have := h.2.1; omega)
      clear h_t0 h_t3
      go_wp2_with fail
      go_ret
      exact ⟨by first | (rw [H.out]; done) | (rw [H.out]; rfl), q⟩
  · have dt0a : decide (0 ≤ x.table) = false := decide_eq_false (by omega)
    have dt0b : decide (x.table < 0) = true := decide_eq_true (by omega)
    have H := Lib.hid (show decide (mayS x) = false from decide_eq_false fun h => by have := h.1; omega)
    clear h_t0
    go_wp2_with fail
    go_ret
    exact ⟨by first | (rw [H.out]; done) | (rw [H.out]; rfl), q⟩
set_option maxRecDepth 100000 in
set_option maxHeartbeats 4000000 in
theorem sEmpty_any (w : World) {S : Nat → Prop} {v : Value} {x : Sp} (hx : RdSp S w v x) :
    Calls Tryd.prog 67 #[v] w fun e w' => e = .returned (.bool (emptyS x)) ∧ Below w.heap.size w w' := by
  obtain ⟨a1, a2, a3, a4, rfl, hlx, hhx, htx⟩ := hx
  have m1x : x.lo.length ≤ 9223372036854775807 := by have := hlx.len; unfold maxLen at this; omega
  have m2x : x.hi.length ≤ 9223372036854775807 := by have := hhx.len; unfold maxLen at this; omega
  obtain ⟨W, hW, q, Bx, hsz⟩ := spBox w 27 [.int .i64 x.table, .slice a1 x.lo.length a2, .slice a3 x.hi.length a4, .bool x.isOpen]
  clear hsz
  go_enter Tryd.func67, Tryd.ntmps67
  go_upto_region 1 with (fail)
  rw [show w.alloc (.cells #[.int .i64 x.table, .slice a1 x.lo.length a2, .slice a3 x.hi.length a4, .bool x.isOpen] 27) = W from hW.symm]
  clear hW
  have cx0 := Bx.cell (i := 0) rfl
  have cx1 := Bx.cell (i := 1) rfl
  have cx2 := Bx.cell (i := 2) rfl
  have cx3 := Bx.cell (i := 3) rfl
  have rlx := hlx.below q
  have rhx := hhx.below q
  cases h_op : x.isOpen with
  | true =>
    rw [h_op] at cx3
    have H := Lib.hid (show emptyS x = false from by unfold emptyS; simp [h_op])
    clear h_op
    go_wp2_with fail
    go_ret
    exact ⟨by first | (rw [H.out]; done) | (rw [H.out]; rfl), q⟩
  | false =>
    rw [h_op] at cx3
    cases h_lh : ltB x.lo x.hi with
    | true =>
      have dlh : decide (Lib.compareBytes x.hi x.lo ≤ 0) = false := by rw [cmp_le, h_lh]; rfl
      have H := Lib.hid (show emptyS x = false from by unfold emptyS; simp [h_op, h_lh])
      clear h_op h_lh
      go_wp2_with fail
      refine (compare_any _ rhx rlx).mono ?_
      rintro e _ ⟨rfl, rfl⟩
      go_wp2_with fail
      go_ret
      exact ⟨by first | (rw [H.out]; done) | (rw [H.out]; rfl), q⟩
    | false =>
      have dlh : decide (Lib.compareBytes x.hi x.lo ≤ 0) = true := by rw [cmp_le, h_lh]; rfl
      have H := Lib.hid (show emptyS x = true from by unfold emptyS; simp [h_op, h_lh])
      clear h_op h_lh
      go_wp2_with fail
      refine (compare_any _ rhx rlx).mono ?_
      rintro e _ ⟨rfl, rfl⟩
      go_wp2_with fail
      go_ret
      exact ⟨by first | (rw [H.out]; done) | (rw [H.out]; rfl), q⟩
set_option maxRecDepth 100000 in
set_option maxHeartbeats 4000000 in
theorem rEmpty_any (w : World) {S : Nat → Prop} {v : Value} {x : Sp} (hx : RdSp S w v x) :
    Calls Tryd.prog 70 #[v] w fun e w' => e = .returned (.bool (emptyS x)) ∧ Below w.heap.size w w' := by
  obtain ⟨a1, a2, a3, a4, rfl, hlx, hhx, htx⟩ := hx
  have m1x : x.lo.length ≤ 9223372036854775807 := by have := hlx.len; unfold maxLen at this; omega
  have m2x : x.hi.length ≤ 9223372036854775807 := by have := hhx.len; unfold maxLen at this; omega
  obtain ⟨W, hW, q, Bx, hsz⟩ := spBox w 27 [.int .i64 x.table, .slice a1 x.lo.length a2, .slice a3 x.hi.length a4, .bool x.isOpen]
  clear hsz
  go_enter Tryd.func70, Tryd.ntmps70
  go_upto_region 1 with (fail)
  rw [show w.alloc (.cells #[.int .i64 x.table, .slice a1 x.lo.length a2, .slice a3 x.hi.length a4, .bool x.isOpen] 27) = W from hW.symm]
  clear hW
  have cx0 := Bx.cell (i := 0) rfl
  have cx1 := Bx.cell (i := 1) rfl
  have cx2 := Bx.cell (i := 2) rfl
  have cx3 := Bx.cell (i := 3) rfl
  have rlx := hlx.below q
  have rhx := hhx.below q
  cases h_op : x.isOpen with
  | true =>
    rw [h_op] at cx3
    have H := Lib.hid (show emptyS x = false from by unfold emptyS; simp [h_op])
    clear h_op
    go_wp2_with fail
    go_ret
    exact ⟨by first | (rw [H.out]; done) | (rw [H.out]; rfl), q⟩
  | false =>
    rw [h_op] at cx3
    cases h_lh : ltB x.lo x.hi with
    | true =>
      have flh : (Op.bytesLess (strOf x.hi).toList (strOf x.lo).toList || (strOf x.hi).toList == (strOf x.lo).toList) = false := by rw [str_leS, h_lh]; rfl
      have H := Lib.hid (show emptyS x = false from by unfold emptyS; simp [h_op, h_lh])
      clear h_op h_lh
      go_wp2_with (refine wpList_conv (x := .tmp 8) byP rfl rfl rfl rhx.rd ?_; go_wp2_with (refine wpList_conv (x := .tmp 11) byP rfl rfl rfl rlx.rd ?_; go_wp2_with fail))
      go_ret
      exact ⟨by first | (rw [H.out]; done) | (rw [H.out]; rfl), q⟩
    | false =>
      have flh : (Op.bytesLess (strOf x.hi).toList (strOf x.lo).toList || (strOf x.hi).toList == (strOf x.lo).toList) = true := by rw [str_leS, h_lh]; rfl
      have H := Lib.hid (show emptyS x = true from by unfold emptyS; simp [h_op, h_lh])
      clear h_op h_lh
      go_wp2_with (refine wpList_conv (x := .tmp 8) byP rfl rfl rfl rhx.rd ?_; go_wp2_with (refine wpList_conv (x := .tmp 11) byP rfl rfl rfl rlx.rd ?_; go_wp2_with fail))
      go_ret
      exact ⟨by first | (rw [H.out]; done) | (rw [H.out]; rfl), q⟩
set_option maxRecDepth 100000 in
set_option maxHeartbeats 4000000 in
theorem sIn_any (w : World) {S S2 : Nat → Prop} {v : Value} {x : Sp} {t : Int} {A : Option Addr} {n C : Nat} {k : List UInt8} (hx : RdSp S w v x) (hk : RdS S2 w (.slice A n C) k) :
    Calls Tryd.prog 73 #[v, .int .i64 t, .slice A n C] w fun e w' => e = .returned (.bool (inT x t k)) ∧ Below w.heap.size w w' := by
  obtain ⟨a1, a2, a3, a4, rfl, hlx, hhx, htx⟩ := hx
  have m1x : x.lo.length ≤ 9223372036854775807 := by have := hlx.len; unfold maxLen at this; omega
  have m2x : x.hi.length ≤ 9223372036854775807 := by have := hhx.len; unfold maxLen at this; omega
  obtain ⟨W, hW, q, Bx, hsz⟩ := spBox w 27 [.int .i64 x.table, .slice a1 x.lo.length a2, .slice a3 x.hi.length a4, .bool x.isOpen]
  clear hsz
  go_enter Tryd.func73, Tryd.ntmps73
  go_upto_region 1 with (fail)
  rw [show w.alloc (.cells #[.int .i64 x.table, .slice a1 x.lo.length a2, .slice a3 x.hi.length a4, .bool x.isOpen] 27) = W from hW.symm]
  clear hW
  have cx0 := Bx.cell (i := 0) rfl
  have cx1 := Bx.cell (i := 1) rfl
  have cx2 := Bx.cell (i := 2) rfl
  have cx3 := Bx.cell (i := 3) rfl
  have rlx := hlx.below q
  have rhx := hhx.below q
  have rk := hk.below q
  by_cases h_tb : x.table = t
  · have datb : (x.table == t) = true := beq_iff_eq.2 h_tb
    have dbtb : decide (x.table = t) = true := decide_eq_true h_tb
    have dctb : (x.table = t) = True := eq_true h_tb
    have ddtb : (x.table != t) = false := by rw [bne_eq_false_iff_eq]; exact h_tb
    cases h_kl : ltB k x.lo with
    | true =>
      have dkl : decide (0 ≤ Lib.compareBytes k x.lo) = false := by rw [cmp_ge, h_kl]; rfl
      have H := Lib.hid (show inT x t k = false from by unfold inT inS; simp [h_tb, h_kl])
      clear h_tb h_kl
      go_wp2_with fail
      refine (compare_any _ rk rlx).mono ?_
      rintro e _ ⟨rfl, rfl⟩
      go_wp2_with fail
      go_ret
      exact ⟨by first | (rw [H.out]; done) | (rw [H.out]; rfl), q⟩
    | false =>
      have dkl : decide (0 ≤ Lib.compareBytes k x.lo) = true := by rw [cmp_ge, h_kl]; rfl
      cases h_op : x.isOpen with
      | true =>
        rw [h_op] at cx3
        have H := Lib.hid (show inT x t k = true from by unfold inT inS; simp [h_tb, h_kl, h_op])
        clear h_tb h_kl h_op
        go_wp2_with fail
        refine (compare_any _ rk rlx).mono ?_
        rintro e _ ⟨rfl, rfl⟩
        go_wp2_with fail
        go_ret
        exact ⟨by first | (rw [H.out]; done) | (rw [H.out]; rfl), q⟩
      | false =>
        rw [h_op] at cx3
        cases h_kh : ltB k x.hi with
        | true =>
          have dkh : decide (Lib.compareBytes k x.hi < 0) = true := (cmp_lt _ _).trans h_kh
          have H := Lib.hid (show inT x t k = true from by unfold inT inS; simp [h_tb, h_kl, h_op, h_kh])
          clear h_tb h_kl h_op h_kh
          go_wp2_with fail
          refine (compare_any _ rk rlx).mono ?_
          rintro e _ ⟨rfl, rfl⟩
          go_wp2_with fail
          refine (compare_any _ rk rhx).mono ?_
          rintro e _ ⟨rfl, rfl⟩
          go_wp2_with fail
          go_ret
          exact ⟨by first | (rw [H.out]; done) | (rw [H.out]; rfl), q⟩
        | false =>
          have dkh : decide (Lib.compareBytes k x.hi < 0) = false := (cmp_lt _ _).trans h_kh
          have H := Lib.hid (show inT x t k = false from by unfold inT inS; simp [h_tb, h_kl, h_op, h_kh])
          clear h_tb h_kl h_op h_kh
          go_wp2_with fail
          refine (compare_any _ rk rlx).mono ?_
          rintro e _ ⟨rfl, rfl⟩
          go_wp2_with fail
          refine (compare_any _ rk rhx).mono ?_
          rintro e _ ⟨rfl, rfl⟩
          go_wp2_with fail
          go_ret
          exact ⟨by first | (rw [H.out]; done) | (rw [H.out]; rfl), q⟩
  · have datb : (x.table == t) = false := beq_eq_false_iff_ne.2 h_tb
    have dbtb : decide (x.table = t) = false := decide_eq_false h_tb
    have dctb : (x.table = t) = False := eq_false h_tb
    have ddtb : (x.table != t) = true := bne_iff_ne.2 h_tb
    have H := Lib.hid (show inT x t k = false from by unfold inT inS; simp [h_tb])
    clear h_tb
    go_wp2_with fail
    go_ret
    exact ⟨by first | (rw [H.out]; done) | (rw [H.out]; rfl), q⟩
set_option maxRecDepth 100000 in
set_option maxHeartbeats 4000000 in
theorem rIn_any (w : World) {S S2 : Nat → Prop} {v : Value} {x : Sp} {t : Int} {A : Option Addr} {n C : Nat} {k : List UInt8} (hx : RdSp S w v x) (hk : RdS S2 w (.slice A n C) k) :
    Calls Tryd.prog 74 #[v, .int .i64 t, .slice A n C] w fun e w' => e = .returned (.bool (inT x t k)) ∧ Below w.heap.size w w' := by
  obtain ⟨a1, a2, a3, a4, rfl, hlx, hhx, htx⟩ := hx
  have m1x : x.lo.length ≤ 9223372036854775807 := by have := hlx.len; unfold maxLen at this; omega
  have m2x : x.hi.length ≤ 9223372036854775807 := by have := hhx.len; unfold maxLen at this; omega
  obtain ⟨W, hW, q, Bx, hsz⟩ := spBox w 27 [.int .i64 x.table, .slice a1 x.lo.length a2, .slice a3 x.hi.length a4, .bool x.isOpen]
  clear hsz
  go_enter Tryd.func74, Tryd.ntmps74
  go_upto_region 1 with (fail)
  rw [show w.alloc (.cells #[.int .i64 x.table, .slice a1 x.lo.length a2, .slice a3 x.hi.length a4, .bool x.isOpen] 27) = W from hW.symm]
  clear hW
  have cx0 := Bx.cell (i := 0) rfl
  have cx1 := Bx.cell (i := 1) rfl
  have cx2 := Bx.cell (i := 2) rfl
  have cx3 := Bx.cell (i := 3) rfl
  have rlx := hlx.below q
  have rhx := hhx.below q
  have rk := hk.below q
  by_cases h_tb : x.table = t
  · have datb : (x.table == t) = true := beq_iff_eq.2 h_tb
    have dbtb : decide (x.table = t) = true := decide_eq_true h_tb
    have dctb : (x.table = t) = True := eq_true h_tb
    have ddtb : (x.table != t) = false := by rw [bne_eq_false_iff_eq]; exact h_tb
    cases h_kl : ltB k x.lo with
    | true =>
      have dkl : Op.bytesLess (strOf k).toList (strOf x.lo).toList = true := str_ltS.trans h_kl
      have ekl : (!Op.bytesLess (strOf k).toList (strOf x.lo).toList) = false := by rw [dkl]; rfl
      have H := Lib.hid (show inT x t k = false from by unfold inT inS; simp [h_tb, h_kl])
      clear h_tb h_kl
      go_wp2_with (refine wpList_conv (x := .tmp 12) byP rfl rfl rfl rk.rd ?_; go_wp2_with (refine wpList_conv (x := .tmp 15) byP rfl rfl rfl rlx.rd ?_; go_wp2_with fail))
      go_ret
      exact ⟨by first | (rw [H.out]; done) | (rw [H.out]; rfl), q⟩
    | false =>
      have dkl : Op.bytesLess (strOf k).toList (strOf x.lo).toList = false := str_ltS.trans h_kl
      have ekl : (!Op.bytesLess (strOf k).toList (strOf x.lo).toList) = true := by rw [dkl]; rfl
      cases h_op : x.isOpen with
      | true =>
        rw [h_op] at cx3
        have H := Lib.hid (show inT x t k = true from by unfold inT inS; simp [h_tb, h_kl, h_op])
        clear h_tb h_kl h_op
        go_wp2_with (refine wpList_conv (x := .tmp 12) byP rfl rfl rfl rk.rd ?_; go_wp2_with (refine wpList_conv (x := .tmp 15) byP rfl rfl rfl rlx.rd ?_; go_wp2_with fail))
        go_ret
        exact ⟨by first | (rw [H.out]; done) | (rw [H.out]; rfl), q⟩
      | false =>
        rw [h_op] at cx3
        cases h_kh : ltB k x.hi with
        | true =>
          have dkh : Op.bytesLess (strOf k).toList (strOf x.hi).toList = true := str_ltS.trans h_kh
          have H := Lib.hid (show inT x t k = true from by unfold inT inS; simp [h_tb, h_kl, h_op, h_kh])
          clear h_tb h_kl h_op h_kh
          go_wp2_with (refine wpList_conv (x := .tmp 12) byP rfl rfl rfl rk.rd ?_; go_wp2_with (refine wpList_conv (x := .tmp 15) byP rfl rfl rfl rlx.rd ?_; go_wp2_with (refine wpList_conv (x := .tmp 23) byP rfl rfl rfl rk.rd ?_; go_wp2_with (refine wpList_conv (x := .tmp 26) byP rfl rfl rfl rhx.rd ?_; go_wp2_with fail))))
          go_ret
          exact ⟨by first | (rw [H.out]; done) | (rw [H.out]; rfl), q⟩
        | false =>
          have dkh : Op.bytesLess (strOf k).toList (strOf x.hi).toList = false := str_ltS.trans h_kh
          have H := Lib.hid (show inT x t k = false from by unfold inT inS; simp [h_tb, h_kl, h_op, h_kh])
          clear h_tb h_kl h_op h_kh
          go_wp2_with (refine wpList_conv (x := .tmp 12) byP rfl rfl rfl rk.rd ?_; go_wp2_with (refine wpList_conv (x := .tmp 15) byP rfl rfl rfl rlx.rd ?_; go_wp2_with (refine wpList_conv (x := .tmp 23) byP rfl rfl rfl rk.rd ?_; go_wp2_with (refine wpList_conv (x := .tmp 26) byP rfl rfl rfl rhx.rd ?_; go_wp2_with fail))))
          go_ret
          exact ⟨by first | (rw [H.out]; done) | (rw [H.out]; rfl), q⟩
  · have datb : (x.table == t) = false := beq_eq_false_iff_ne.2 h_tb
    have dbtb : decide (x.table = t) = false := decide_eq_false h_tb
    have dctb : (x.table = t) = False := eq_false h_tb
    have ddtb : (x.table != t) = true := bne_iff_ne.2 h_tb
    have H := Lib.hid (show inT x t k = false from by unfold inT inS; simp [h_tb])
    clear h_tb
    go_wp2_with fail
    go_ret
    exact ⟨by first | (rw [H.out]; done) | (rw [H.out]; rfl), q⟩
set_option maxRecDepth 100000 in
set_option maxHeartbeats 4000000 in
theorem sCovers_any (w : World) {S S2 : Nat → Prop} {u v : Value} {x y : Sp} (hx : RdSp S w u x) (hy : RdSp S2 w v y) :
    Calls Tryd.prog 82 #[u, v] w fun e w' => e = .returned (.bool (coversS x y)) ∧ Below w.heap.size w w' := by
  obtain ⟨a1, a2, a3, a4, rfl, hlx, hhx, htx⟩ := hx
  obtain ⟨b1, b2, b3, b4, rfl, hly, hhy, hty⟩ := hy
  have m1x : x.lo.length ≤ 9223372036854775807 := by have := hlx.len; unfold maxLen at this; omega
  have m2x : x.hi.length ≤ 9223372036854775807 := by have := hhx.len; unfold maxLen at this; omega
  have m1y : y.lo.length ≤ 9223372036854775807 := by have := hly.len; unfold maxLen at this; omega
  have m2y : y.hi.length ≤ 9223372036854775807 := by have := hhy.len; unfold maxLen at this; omega
  obtain ⟨W, hW, q, Bx, By, hsz⟩ := spBoxes2 w 27 27 [.int .i64 x.table, .slice a1 x.lo.length a2, .slice a3 x.hi.length a4, .bool x.isOpen] [.int .i64 y.table, .slice b1 y.lo.length b2, .slice b3 y.hi.length b4, .bool y.isOpen]
  clear hsz
  go_enter Tryd.func82, Tryd.ntmps82
  go_upto_region 1 with (fail)
  rw [show (w.alloc (.cells #[.int .i64 x.table, .slice a1 x.lo.length a2, .slice a3 x.hi.length a4, .bool x.isOpen] 27)).alloc (.cells #[.int .i64 y.table, .slice b1 y.lo.length b2, .slice b3 y.hi.length b4, .bool y.isOpen] 27) = W from hW.symm]
  clear hW
  have cy0 := By.cell (i := 0) rfl
  have cy1 := By.cell (i := 1) rfl
  have cy2 := By.cell (i := 2) rfl
  have cy3 := By.cell (i := 3) rfl
  have hcl := sEmpty_any W (x := y) ⟨_, _, _, _, rfl, hly.below q, hhy.below q, hty⟩
  go_wp2_with fail
  refine hcl.mono ?_
  rintro e w1 ⟨rfl, hb⟩
  clear hcl cy0 cy1 cy2 cy3
  replace Bx := Bx.below hb Bx.lt
  replace By := By.below hb By.lt
  replace q := q.trans (hb.mono q.size)
  clear hb
  have cx0 := Bx.cell (i := 0) rfl
  have cx1 := Bx.cell (i := 1) rfl
  have cx2 := Bx.cell (i := 2) rfl
  have cx3 := Bx.cell (i := 3) rfl
  have rlx := hlx.below q
  have rhx := hhx.below q
  have cy0 := By.cell (i := 0) rfl
  have cy1 := By.cell (i := 1) rfl
  have cy2 := By.cell (i := 2) rfl
  have cy3 := By.cell (i := 3) rfl
  have rly := hly.below q
  have rhy := hhy.below q
  cases h_em : emptyS y with
  | true =>
    have H := Lib.hid (show coversS x y = true from by unfold coversS; simp [h_em])
    clear h_em
    go_wp2_with fail
    go_ret
    exact ⟨by first | (rw [H.out]; done) | (rw [H.out]; rfl), q⟩
  | false =>
    by_cases h_tb : x.table = y.table
    · have datb : (x.table == y.table) = true := beq_iff_eq.2 h_tb
      have dbtb : decide (x.table = y.table) = true := decide_eq_true h_tb
      have dctb : (x.table = y.table) = True := eq_true h_tb
      have ddtb : (x.table != y.table) = false := by rw [bne_eq_false_iff_eq]; exact h_tb
      cases h_ll : ltB y.lo x.lo with
      | true =>
        have dll : decide (Lib.compareBytes y.lo x.lo < 0) = true := (cmp_lt _ _).trans h_ll
        have H := Lib.hid (show coversS x y = false from by unfold coversS; simp [h_em, h_tb, h_ll])
        clear h_em h_tb h_ll
        go_wp2_with fail
        refine (compare_any _ rly rlx).mono ?_
        rintro e _ ⟨rfl, rfl⟩
        go_wp2_with fail
        go_ret
        exact ⟨by first | (rw [H.out]; done) | (rw [H.out]; rfl), q⟩
      | false =>
        have dll : decide (Lib.compareBytes y.lo x.lo < 0) = false := (cmp_lt _ _).trans h_ll
        cases h_ox : x.isOpen with
        | true =>
          rw [h_ox] at cx3
          have H := Lib.hid (show coversS x y = true from by unfold coversS; simp [h_em, h_tb, h_ll, h_ox])
          clear h_em h_tb h_ll h_ox
          go_wp2_with fail
          refine (compare_any _ rly rlx).mono ?_
          rintro e _ ⟨rfl, rfl⟩
          go_wp2_with fail
          go_ret
          exact ⟨by first | (rw [H.out]; done) | (rw [H.out]; rfl), q⟩
        | false =>
          rw [h_ox] at cx3
          cases h_oy : y.isOpen with
          | true =>
            rw [h_oy] at cy3
            have H := Lib.hid (show coversS x y = false from by unfold coversS; simp [h_em, h_tb, h_ll, h_ox, h_oy])
            clear h_em h_tb h_ll h_ox h_oy
            go_wp2_with fail
            refine (compare_any _ rly rlx).mono ?_
            rintro e _ ⟨rfl, rfl⟩
            go_wp2_with fail
            go_ret
            exact ⟨by first | (rw [H.out]; done) | (rw [H.out]; rfl), q⟩
          | false =>
            rw [h_oy] at cy3
            cases h_hh : ltB x.hi y.hi with
            | true =>
              have dhh : decide (Lib.compareBytes y.hi x.hi ≤ 0) = false := by rw [cmp_le, h_hh]; rfl
              have H := Lib.hid (show coversS x y = false from by unfold coversS; simp [h_em, h_tb, h_ll, h_ox, h_oy, h_hh])
              clear h_em h_tb h_ll h_ox h_oy h_hh
              go_wp2_with fail
              refine (compare_any _ rly rlx).mono ?_
              rintro e _ ⟨rfl, rfl⟩
              go_wp2_with fail
              refine (compare_any _ rhy rhx).mono ?_
              rintro e _ ⟨rfl, rfl⟩
              go_wp2_with fail
              go_ret
              exact ⟨by first | (rw [H.out]; done) | (rw [H.out]; rfl), q⟩
            | false =>
              have dhh : decide (Lib.compareBytes y.hi x.hi ≤ 0) = true := by rw [cmp_le, h_hh]; rfl
              have H := Lib.hid (show coversS x y = true from by unfold coversS; simp [h_em, h_tb, h_ll, h_ox, h_oy, h_hh])
              clear h_em h_tb h_ll h_ox h_oy h_hh
              go_wp2_with fail
              refine (compare_any _ rly rlx).mono ?_
              rintro e _ ⟨rfl, rfl⟩
              go_wp2_with fail
              refine (compare_any _ rhy rhx).mono ?_
              rintro e _ ⟨rfl, rfl⟩
              go_wp2_with fail
              go_ret
              exact ⟨by first | (rw [H.out]; done) | (rw [H.out]; rfl), q⟩
    · have datb : (x.table == y.table) = false := beq_eq_false_iff_ne.2 h_tb
      have dbtb : decide (x.table = y.table) = false := decide_eq_false h_tb
      have dctb : (x.table = y.table) = False := eq_false h_tb
      have ddtb : (x.table != y.table) = true := bne_iff_ne.2 h_tb
      have H := Lib.hid (show coversS x y = false from by unfold coversS; simp [h_em, h_tb])
      clear h_em h_tb
      go_wp2_with fail
      go_ret
      exact ⟨by first | (rw [H.out]; done) | (rw [H.out]; rfl), q⟩
set_option maxRecDepth 100000 in
set_option maxHeartbeats 4000000 in
theorem sBoth_any (w : World) {S : Nat → Prop} {a1 a3 b1 b3 : Option Addr} {a2 a4 b2 b4 g1 g2 : Nat} {x y : Sp} {A : Option Addr} {n C : Nat} {k : List UInt8} (Bx : BoxN w g1 27 [.int .i64 x.table, .slice a1 x.lo.length a2, .slice a3 x.hi.length a4, .bool x.isOpen]) (By : BoxN w g2 27 [.int .i64 y.table, .slice b1 y.lo.length b2, .slice b3 y.hi.length b4, .bool y.isOpen]) (rlx : RdS S w (.slice a1 x.lo.length a2) x.lo) (rhx : RdS S w (.slice a3 x.hi.length a4) x.hi) (htx : W64 x.table) (rly : RdS S w (.slice b1 y.lo.length b2) y.lo) (rhy : RdS S w (.slice b3 y.hi.length b4) y.hi) (hty : W64 y.table) (hk : RdS S w (.slice A n C) k) :
    Calls Tryd.prog 72 #[.slice A n C, .pointer (some ⟨g1, 0, none⟩), .pointer (some ⟨g2, 0, none⟩)] w fun e w' => e = .returned (.bool (inT x x.table k && inT y x.table k)) ∧ Below w.heap.size w w' := by
  have q := Below.refl w.heap.size w
  go_enter Tryd.func72, Tryd.ntmps72
  have cx0 := Bx.cell (i := 0) rfl
  have cx1 := Bx.cell (i := 1) rfl
  have cx2 := Bx.cell (i := 2) rfl
  have cx3 := Bx.cell (i := 3) rfl
  have cy0 := By.cell (i := 0) rfl
  have cy1 := By.cell (i := 1) rfl
  have cy2 := By.cell (i := 2) rfl
  have cy3 := By.cell (i := 3) rfl
  have hcl := sIn_any _ (t := x.table) ⟨_, _, _, _, rfl, rlx, rhx, htx⟩ hk
  go_wp2_with fail
  refine hcl.mono ?_
  rintro e w1 ⟨rfl, hb⟩
  clear hcl cx0 cx1 cx2 cx3 cy0 cy1 cy2 cy3
  replace Bx := Bx.below hb Bx.lt
  replace By := By.below hb By.lt
  replace rlx := rlx.below hb
  replace rhx := rhx.below hb
  replace rly := rly.below hb
  replace rhy := rhy.below hb
  replace q := q.trans (hb.mono q.size)
  clear hb
  cases h_i1 : inT x x.table k with
  | true =>
    have cx0 := Bx.cell (i := 0) rfl
    have cx1 := Bx.cell (i := 1) rfl
    have cx2 := Bx.cell (i := 2) rfl
    have cx3 := Bx.cell (i := 3) rfl
    have cy0 := By.cell (i := 0) rfl
    have cy1 := By.cell (i := 1) rfl
    have cy2 := By.cell (i := 2) rfl
    have cy3 := By.cell (i := 3) rfl
    have hcl := sIn_any _ (t := x.table) ⟨_, _, _, _, rfl, rly, rhy, hty⟩ (hk.below q)
    go_wp2_with fail
    refine hcl.mono ?_
    rintro e w2 ⟨rfl, hb⟩
    clear hcl cx0 cx1 cx2 cx3 cy0 cy1 cy2 cy3
    replace Bx := Bx.below hb Bx.lt
    replace By := By.below hb By.lt
    replace rlx := rlx.below hb
    replace rhx := rhx.below hb
    replace rly := rly.below hb
    replace rhy := rhy.below hb
    replace q := q.trans (hb.mono q.size)
    clear hb
    cases h_i2 : inT y x.table k with
    | true =>
      have H := Lib.hid (show (inT x x.table k && inT y x.table k) = true by rw [h_i1, h_i2] <;> rfl)
      clear h_i1 h_i2
      go_wp2_with fail
      go_ret
      exact ⟨by first | (rw [H.out]; done) | (rw [H.out]; rfl), q⟩
    | false =>
      have H := Lib.hid (show (inT x x.table k && inT y x.table k) = false by rw [h_i1, h_i2] <;> rfl)
      clear h_i1 h_i2
      go_wp2_with fail
      go_ret
      exact ⟨by first | (rw [H.out]; done) | (rw [H.out]; rfl), q⟩
  | false =>
    have H := Lib.hid (show (inT x x.table k && inT y x.table k) = false by rw [h_i1] <;> rfl)
    clear h_i1
    go_wp2_with fail
    go_ret
    exact ⟨by first | (rw [H.out]; done) | (rw [H.out]; rfl), q⟩
set_option maxRecDepth 100000 in
set_option maxHeartbeats 4000000 in
theorem sMeets_any (w : World) {S S2 : Nat → Prop} {u v : Value} {x y : Sp} (hx : RdSp S w u x) (hy : RdSp S2 w v y) :
    Calls Tryd.prog 46 #[u, v] w fun e w' => e = .returned (.bool (meetsS x y)) ∧ Below w.heap.size w w' := by
  obtain ⟨a1, a2, a3, a4, rfl, hlx, hhx, htx⟩ := hx
  obtain ⟨b1, b2, b3, b4, rfl, hly, hhy, hty⟩ := hy
  obtain ⟨W, hW, q, Bx, By, hsz⟩ := spBoxes2 w 27 27 [.int .i64 x.table, .slice a1 x.lo.length a2, .slice a3 x.hi.length a4, .bool x.isOpen] [.int .i64 y.table, .slice b1 y.lo.length b2, .slice b3 y.hi.length b4, .bool y.isOpen]
  clear hsz
  go_enter Tryd.func46, Tryd.ntmps46
  go_upto_region 1 with (fail)
  rw [show (w.alloc (.cells #[.int .i64 x.table, .slice a1 x.lo.length a2, .slice a3 x.hi.length a4, .bool x.isOpen] 27)).alloc (.cells #[.int .i64 y.table, .slice b1 y.lo.length b2, .slice b3 y.hi.length b4, .bool y.isOpen] 27) = W from hW.symm]
  clear hW
  have rlx := hlx.below q
  have rhx := hhx.below q
  have rly := hly.below q
  have rhy := hhy.below q
  clear hlx hhx hly hhy
  have cx0 := Bx.cell (i := 0) rfl
  have cx1 := Bx.cell (i := 1) rfl
  have cx2 := Bx.cell (i := 2) rfl
  have cx3 := Bx.cell (i := 3) rfl
  have cy0 := By.cell (i := 0) rfl
  have cy1 := By.cell (i := 1) rfl
  have cy2 := By.cell (i := 2) rfl
  have cy3 := By.cell (i := 3) rfl
  have hcl := sBoth_any (S := fun _ => True) _ Bx By (rlx.weak (fun _ _ => trivial)) (rhx.weak (fun _ _ => trivial)) htx (rly.weak (fun _ _ => trivial)) (rhy.weak (fun _ _ => trivial)) hty (rlx.weak (fun _ _ => trivial))
  go_wp2_with fail
  refine hcl.mono ?_
  rintro e w1 ⟨rfl, hb⟩
  clear hcl cx0 cx1 cx2 cx3 cy0 cy1 cy2 cy3
  replace Bx := Bx.below hb Bx.lt
  replace By := By.below hb By.lt
  replace rlx := rlx.below hb
  replace rhx := rhx.below hb
  replace rly := rly.below hb
  replace rhy := rhy.below hb
  replace q := q.trans (hb.mono q.size)
  clear hb
  cases h_m1 : (inT x x.table x.lo && inT y x.table x.lo) with
  | true =>
    have H := Lib.hid (show meetsS x y = true by unfold meetsS; rw [h_m1] <;> rfl)
    clear h_m1
    go_wp2_with fail
    go_ret
    exact ⟨by first | (rw [H.out]; done) | (rw [H.out]; rfl), q⟩
  | false =>
    have cx0 := Bx.cell (i := 0) rfl
    have cx1 := Bx.cell (i := 1) rfl
    have cx2 := Bx.cell (i := 2) rfl
    have cx3 := Bx.cell (i := 3) rfl
    have cy0 := By.cell (i := 0) rfl
    have cy1 := By.cell (i := 1) rfl
    have cy2 := By.cell (i := 2) rfl
    have cy3 := By.cell (i := 3) rfl
    have hcl := sBoth_any (S := fun _ => True) _ Bx By (rlx.weak (fun _ _ => trivial)) (rhx.weak (fun _ _ => trivial)) htx (rly.weak (fun _ _ => trivial)) (rhy.weak (fun _ _ => trivial)) hty (rly.weak (fun _ _ => trivial))
    go_wp2_with fail
    refine hcl.mono ?_
    rintro e w2 ⟨rfl, hb⟩
    clear hcl cx0 cx1 cx2 cx3 cy0 cy1 cy2 cy3
    replace Bx := Bx.below hb Bx.lt
    replace By := By.below hb By.lt
    replace rlx := rlx.below hb
    replace rhx := rhx.below hb
    replace rly := rly.below hb
    replace rhy := rhy.below hb
    replace q := q.trans (hb.mono q.size)
    clear hb
    cases h_m2 : (inT x x.table y.lo && inT y x.table y.lo) with
    | true =>
      have H := Lib.hid (show meetsS x y = true by unfold meetsS; rw [h_m1, h_m2] <;> rfl)
      clear h_m1 h_m2
      go_wp2_with fail
      go_ret
      exact ⟨by first | (rw [H.out]; done) | (rw [H.out]; rfl), q⟩
    | false =>
      have H := Lib.hid (show meetsS x y = false by unfold meetsS; rw [h_m1, h_m2] <;> rfl)
      clear h_m1 h_m2
      go_wp2_with fail
      go_ret
      exact ⟨by first | (rw [H.out]; done) | (rw [H.out]; rfl), q⟩
theorem meets_ref (x y : Sp) : meetsS x y = (decide (x.table = y.table) && ((inT x y.table y.lo && inT y y.table y.lo) || (inT y x.table x.lo && inT x x.table x.lo))) := by
  unfold meetsS
  by_cases h : x.table = y.table
  · rw [decide_eq_true h, Bool.true_and, Bool.or_comm, Bool.and_comm (inT x x.table x.lo)]
    congr 1
    rw [h]
  · rw [decide_eq_false h, Bool.false_and]
    have h2 : ∀ k, inT y x.table k = false := fun k => by unfold inT; rw [decide_eq_false (fun e => h e.symm)]; rfl
    rw [h2, h2]; simp
set_option maxRecDepth 100000 in
set_option maxHeartbeats 4000000 in
theorem rMeets_any (w : World) {S S2 : Nat → Prop} {u v : Value} {x y : Sp} (hx : RdSp S w u x) (hy : RdSp S2 w v y) :
    Calls Tryd.prog 48 #[u, v] w fun e w' => e = .returned (.bool (meetsS x y)) ∧ Below w.heap.size w w' := by
  obtain ⟨a1, a2, a3, a4, rfl, hlx, hhx, htx⟩ := hx
  obtain ⟨b1, b2, b3, b4, rfl, hly, hhy, hty⟩ := hy
  obtain ⟨W, hW, q, Bx, By, hsz⟩ := spBoxes2 w 27 27 [.int .i64 x.table, .slice a1 x.lo.length a2, .slice a3 x.hi.length a4, .bool x.isOpen] [.int .i64 y.table, .slice b1 y.lo.length b2, .slice b3 y.hi.length b4, .bool y.isOpen]
  clear hsz
  go_enter Tryd.func48, Tryd.ntmps48
  go_upto_region 1 with (fail)
  rw [show (w.alloc (.cells #[.int .i64 x.table, .slice a1 x.lo.length a2, .slice a3 x.hi.length a4, .bool x.isOpen] 27)).alloc (.cells #[.int .i64 y.table, .slice b1 y.lo.length b2, .slice b3 y.hi.length b4, .bool y.isOpen] 27) = W from hW.symm]
  clear hW
  have rlx := hlx.below q
  have rhx := hhx.below q
  have rly := hly.below q
  have rhy := hhy.below q
  clear hlx hhx hly hhy
  by_cases h_tb : x.table = y.table
  · have datb : (x.table == y.table) = true := beq_iff_eq.2 h_tb
    have dbtb : decide (x.table = y.table) = true := decide_eq_true h_tb
    have dctb : (x.table = y.table) = True := eq_true h_tb
    have ddtb : (x.table != y.table) = false := by rw [bne_eq_false_iff_eq]; exact h_tb
    replace h_tb := Lib.hid h_tb
    have cx0 := Bx.cell (i := 0) rfl
    have cx1 := Bx.cell (i := 1) rfl
    have cx2 := Bx.cell (i := 2) rfl
    have cx3 := Bx.cell (i := 3) rfl
    have cy0 := By.cell (i := 0) rfl
    have cy1 := By.cell (i := 1) rfl
    have cy2 := By.cell (i := 2) rfl
    have cy3 := By.cell (i := 3) rfl
    have hcl := rIn_any _ (t := y.table) ⟨_, _, _, _, rfl, rlx, rhx, htx⟩ rly
    go_wp2_with fail
    refine hcl.mono ?_
    rintro e w1 ⟨rfl, hb⟩
    clear hcl cx0 cx1 cx2 cx3 cy0 cy1 cy2 cy3
    replace Bx := Bx.below hb Bx.lt
    replace By := By.below hb By.lt
    replace rlx := rlx.below hb
    replace rhx := rhx.below hb
    replace rly := rly.below hb
    replace rhy := rhy.below hb
    replace q := q.trans (hb.mono q.size)
    clear hb
    cases h_q1 : inT x y.table y.lo with
    | true =>
      have cx0 := Bx.cell (i := 0) rfl
      have cx1 := Bx.cell (i := 1) rfl
      have cx2 := Bx.cell (i := 2) rfl
      have cx3 := Bx.cell (i := 3) rfl
      have cy0 := By.cell (i := 0) rfl
      have cy1 := By.cell (i := 1) rfl
      have cy2 := By.cell (i := 2) rfl
      have cy3 := By.cell (i := 3) rfl
      have hcl := rIn_any _ (t := y.table) ⟨_, _, _, _, rfl, rly, rhy, hty⟩ rly
      go_wp2_with fail
      refine hcl.mono ?_
      rintro e w2 ⟨rfl, hb⟩
      clear hcl cx0 cx1 cx2 cx3 cy0 cy1 cy2 cy3
      replace Bx := Bx.below hb Bx.lt
      replace By := By.below hb By.lt
      replace rlx := rlx.below hb
      replace rhx := rhx.below hb
      replace rly := rly.below hb
      replace rhy := rhy.below hb
      replace q := q.trans (hb.mono q.size)
      clear hb
      cases h_q2 : inT y y.table y.lo with
      | true =>
        have H := Lib.hid (show meetsS x y = true by rw [meets_ref, decide_eq_true h_tb.out]; simp [h_q1, h_q2])
        clear h_q1 h_q2 h_tb
        go_wp2_with fail
        go_ret
        exact ⟨by first | (rw [H.out]; done) | (rw [H.out]; rfl), q⟩
      | false =>
        have cx0 := Bx.cell (i := 0) rfl
        have cx1 := Bx.cell (i := 1) rfl
        have cx2 := Bx.cell (i := 2) rfl
        have cx3 := Bx.cell (i := 3) rfl
        have cy0 := By.cell (i := 0) rfl
        have cy1 := By.cell (i := 1) rfl
        have cy2 := By.cell (i := 2) rfl
        have cy3 := By.cell (i := 3) rfl
        have hcl := rIn_any _ (t := x.table) ⟨_, _, _, _, rfl, rly, rhy, hty⟩ rlx
        go_wp2_with fail
        refine hcl.mono ?_
        rintro e w3 ⟨rfl, hb⟩
        clear hcl cx0 cx1 cx2 cx3 cy0 cy1 cy2 cy3
        replace Bx := Bx.below hb Bx.lt
        replace By := By.below hb By.lt
        replace rlx := rlx.below hb
        replace rhx := rhx.below hb
        replace rly := rly.below hb
        replace rhy := rhy.below hb
        replace q := q.trans (hb.mono q.size)
        clear hb
        cases h_q3 : inT y x.table x.lo with
        | true =>
          have cx0 := Bx.cell (i := 0) rfl
          have cx1 := Bx.cell (i := 1) rfl
          have cx2 := Bx.cell (i := 2) rfl
          have cx3 := Bx.cell (i := 3) rfl
          have cy0 := By.cell (i := 0) rfl
          have cy1 := By.cell (i := 1) rfl
          have cy2 := By.cell (i := 2) rfl
          have cy3 := By.cell (i := 3) rfl
          have hcl := rIn_any _ (t := x.table) ⟨_, _, _, _, rfl, rlx, rhx, htx⟩ rlx
          go_wp2_with fail
          refine hcl.mono ?_
          rintro e w4 ⟨rfl, hb⟩
          clear hcl cx0 cx1 cx2 cx3 cy0 cy1 cy2 cy3
          replace Bx := Bx.below hb Bx.lt
          replace By := By.below hb By.lt
          replace rlx := rlx.below hb
          replace rhx := rhx.below hb
          replace rly := rly.below hb
          replace rhy := rhy.below hb
          replace q := q.trans (hb.mono q.size)
          clear hb
          cases h_q4 : inT x x.table x.lo with
          | true =>
            have H := Lib.hid (show meetsS x y = true by rw [meets_ref, decide_eq_true h_tb.out]; simp [h_q1, h_q2, h_q3, h_q4])
            clear h_q1 h_q2 h_q3 h_q4 h_tb
            go_wp2_with fail
            go_ret
            exact ⟨by first | (rw [H.out]; done) | (rw [H.out]; rfl), q⟩
          | false =>
            have H := Lib.hid (show meetsS x y = false by rw [meets_ref, decide_eq_true h_tb.out]; simp [h_q1, h_q2, h_q3, h_q4])
            clear h_q1 h_q2 h_q3 h_q4 h_tb
            go_wp2_with fail
            go_ret
            exact ⟨by first | (rw [H.out]; done) | (rw [H.out]; rfl), q⟩
        | false =>
          have H := Lib.hid (show meetsS x y = false by rw [meets_ref, decide_eq_true h_tb.out]; simp [h_q1, h_q2, h_q3])
          clear h_q1 h_q2 h_q3 h_tb
          go_wp2_with fail
          go_ret
          exact ⟨by first | (rw [H.out]; done) | (rw [H.out]; rfl), q⟩
    | false =>
      have cx0 := Bx.cell (i := 0) rfl
      have cx1 := Bx.cell (i := 1) rfl
      have cx2 := Bx.cell (i := 2) rfl
      have cx3 := Bx.cell (i := 3) rfl
      have cy0 := By.cell (i := 0) rfl
      have cy1 := By.cell (i := 1) rfl
      have cy2 := By.cell (i := 2) rfl
      have cy3 := By.cell (i := 3) rfl
      have hcl := rIn_any _ (t := x.table) ⟨_, _, _, _, rfl, rly, rhy, hty⟩ rlx
      go_wp2_with fail
      refine hcl.mono ?_
      rintro e w2 ⟨rfl, hb⟩
      clear hcl cx0 cx1 cx2 cx3 cy0 cy1 cy2 cy3
      replace Bx := Bx.below hb Bx.lt
      replace By := By.below hb By.lt
      replace rlx := rlx.below hb
      replace rhx := rhx.below hb
      replace rly := rly.below hb
      replace rhy := rhy.below hb
      replace q := q.trans (hb.mono q.size)
      clear hb
      cases h_q3 : inT y x.table x.lo with
      | true =>
        have cx0 := Bx.cell (i := 0) rfl
        have cx1 := Bx.cell (i := 1) rfl
        have cx2 := Bx.cell (i := 2) rfl
        have cx3 := Bx.cell (i := 3) rfl
        have cy0 := By.cell (i := 0) rfl
        have cy1 := By.cell (i := 1) rfl
        have cy2 := By.cell (i := 2) rfl
        have cy3 := By.cell (i := 3) rfl
        have hcl := rIn_any _ (t := x.table) ⟨_, _, _, _, rfl, rlx, rhx, htx⟩ rlx
        go_wp2_with fail
        refine hcl.mono ?_
        rintro e w3 ⟨rfl, hb⟩
        clear hcl cx0 cx1 cx2 cx3 cy0 cy1 cy2 cy3
        replace Bx := Bx.below hb Bx.lt
        replace By := By.below hb By.lt
        replace rlx := rlx.below hb
        replace rhx := rhx.below hb
        replace rly := rly.below hb
        replace rhy := rhy.below hb
        replace q := q.trans (hb.mono q.size)
        clear hb
        cases h_q4 : inT x x.table x.lo with
        | true =>
          have H := Lib.hid (show meetsS x y = true by rw [meets_ref, decide_eq_true h_tb.out]; simp [h_q1, h_q3, h_q4])
          clear h_q1 h_q3 h_q4 h_tb
          go_wp2_with fail
          go_ret
          exact ⟨by first | (rw [H.out]; done) | (rw [H.out]; rfl), q⟩
        | false =>
          have H := Lib.hid (show meetsS x y = false by rw [meets_ref, decide_eq_true h_tb.out]; simp [h_q1, h_q3, h_q4])
          clear h_q1 h_q3 h_q4 h_tb
          go_wp2_with fail
          go_ret
          exact ⟨by first | (rw [H.out]; done) | (rw [H.out]; rfl), q⟩
      | false =>
        have H := Lib.hid (show meetsS x y = false by rw [meets_ref, decide_eq_true h_tb.out]; simp [h_q1, h_q3])
        clear h_q1 h_q3 h_tb
        go_wp2_with fail
        go_ret
        exact ⟨by first | (rw [H.out]; done) | (rw [H.out]; rfl), q⟩
  · have cx0 := Bx.cell (i := 0) rfl
    have cy0 := By.cell (i := 0) rfl
    have datb : (x.table == y.table) = false := beq_eq_false_iff_ne.2 h_tb
    have dbtb : decide (x.table = y.table) = false := decide_eq_false h_tb
    have dctb : (x.table = y.table) = False := eq_false h_tb
    have ddtb : (x.table != y.table) = true := bne_iff_ne.2 h_tb
    have H := Lib.hid (show meetsS x y = false by rw [meets_ref, decide_eq_false h_tb]; rfl)
    clear h_tb
    go_wp2_with fail
    go_ret
    exact ⟨by first | (rw [H.out]; done) | (rw [H.out]; rfl), q⟩
end Go.Proofs.YtpdnehgboafgpaaDoor
