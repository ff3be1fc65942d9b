/-
  TEXTS OF ONE PROOF, merged: Arr.
-/
import Derived.BigFrame
import Derived.Laws.Tables
import Derived.Test.YticngbgjfdcnhaaMg2
namespace Go.Proofs.Yticngbgjfdcnhaa
open Go.RowKit
def arC (st : List Nat) : Array Value := (st.map fun n : Nat => Value.int .i64 (n : Int)).toArray
theorem arC_size (st : List Nat) : (arC st).size = st.length := by simp [arC]
theorem arC_one (st : List Nat) : (arC st).all (·.oneCell') = true := by
  rw [Array.all_eq_true_iff_forall_mem]
  intro v hv
  simp only [arC, List.mem_toArray, List.mem_map] at hv
  obtain ⟨n, _, rfl⟩ := hv
  rfl
theorem arC_get {st : List Nat} {k : Nat} (hk : k < st.length) : (arC st)[k]? = some (.int .i64 ((st.getD k 0 : Nat) : Int)) := by
  simp [arC, List.getD_eq_getElem?_getD, List.getElem?_eq_getElem hk]
theorem arC_set {st : List Nat} {k a : Nat} : (arC st).setIfInBounds k (.int .i64 (a : Int)) = arC (st.set k a) := by simp [arC, List.map_set]
def zrs (n : Nat) : List Nat := List.replicate n 0
theorem zrs_len (n : Nat) : (zrs n).length = n := List.length_replicate
theorem zrs_get (n k : Nat) : (zrs n).getD k 0 = 0 := by rw [zrs, List.getD_eq_getElem?_getD, List.getElem?_replicate]; split <;> rfl
structure ArP (P : Program) (t e : TypeId) (n : Nat) : Prop where
  hT : P.underlying t = some (.array n e)
  hs : (P.info? t).map (·.size) = some n
  he : (P.info? e).map (·.size) = some 1
  hu : P.underlying e = some (.int .i64)
  hz : (P.info? t).bind (·.zero) = some (.agg (arC (zrs n)))
  big : 1 < n
def ArrV (W : World) (b : Nat) (t : TypeId) (st : List Nat) : Prop := W.heap[b]? = some (.cells (arC st) t (0, 0))
section
variable {W W' : World} {b : Nat} {t : TypeId} {st : List Nat}
theorem ArrV.lt (h : ArrV W b t st) : b < W.heap.size := (Array.getElem?_eq_some_iff.1 h).1
theorem ArrV.cell (h : ArrV W b t st) {k : Nat} (hk : k < st.length) : W.cell? ⟨b, k, none⟩ = some (.int .i64 ((st.getD k 0 : Nat) : Int)) := by
  simp [World.cell?, show W.heap[b]? = _ from h, arC_get hk]
theorem ArrV.below {n : Nat} (h : ArrV W b t st) (hb : Below n W W') (hn : b < n) : ArrV W' b t st := (hb.block b hn).trans h
theorem ArrV.grown {c : Option Nat} (h : ArrV W b t st) (hg : W.grownBy W' c) (hn : c ≠ some b) : ArrV W' b t st := by
  obtain ⟨_, _, _, _, h5⟩ := hg
  exact (h5 b h.lt (fun e => hn e.symm)).trans h
end
section
variable {P : Program} {t e : TypeId} {n : Nat} {o : Oper} {a : Act} {K : Act → World → Prop} {Q : Exit → Act → World → Prop} {w : World} {ops : Array Oper} {rest : List Oper}
theorem ArP.zero (hP : ArP P t e n) (w : World) : (zeroValue t).run P w = .ok (.agg (arC (zrs n))) w := by
  have := hP.hz
  cases hi : P.info? t with
  | none => simp [hi] at this
  | some i => simp [hi] at this; simp [zeroValue, typeInfo, hi, this]
theorem wp_arrZero (hP : ArP P t e n) (ho : o.op = .build t #[]) (h : K (a.put o.dst (.agg (arC (zrs n)))) w) : o.wp P a w K Q := by
  refine wp_run' ?_ h
  simp only [execOp, ho]
  simp [Instr.build, run_underlying hP.hT, hP.zero, run_sizeOf' hP.he, Instr.fill, Value.cells]
theorem wp_arrAlloc (hP : ArP P t e n) (ho : o.op = .alloc t) (h : ∀ w', Below w.heap.size w w' → ArrV w' w.heap.size t (zrs n) → K (a.put o.dst (.pointer (some ⟨w.heap.size, 0, none⟩))) w') : o.wp P a w K Q := by
  have hrun : (execOp a.eval o).run P w = .ok (.value (.pointer (some ⟨w.heap.size, 0, none⟩))) (w.alloc (.cells (arC (zrs n)) t)) := by
    simp [execOp, ho, newVar, hP.zero, Value.cells, go_sem]
  unfold Oper.wp
  rw [hrun]
  exact h _ ((Below.refl _ _).alloc (Nat.le_refl _) _) (by unfold ArrV; simp only [World.alloc, Array.getElem?_push_size])
theorem wp_arrStore (hP : ArP P t e n) {x y : Operand} {b : Nat} {st s2 : List Nat} (ho : o.op = .store t x y) (hx : a.eval x = .pointer (some ⟨b, 0, none⟩)) (hy : a.eval y = .agg (arC s2)) (hb : ArrV w b t st) (h1 : st.length = n) (h2 : s2.length = n)
    (h : ∀ w', w.grownBy w' (some b) → ArrV w' b t s2 → K (a.put o.dst undef) w') : o.wp P a w K Q := by
  refine wp_store_row t x y ho b (arC s2) hx hy t (arC st) hb (by rw [arC_size, h2]; exact hP.hs) (by rw [arC_size, arC_size]; omega) (arC_one _) (h _ ⟨rfl, rfl, rfl, by simp [World.setRow], fun k _ hk => ?_⟩ ?_)
  · have hkb : k ≠ b := fun e => hk (by rw [e])
    simp [World.setRow, Array.getElem?_modify, Ne.symm hkb]
  · unfold ArrV at hb ⊢
    simp [World.setRow, Array.getElem?_modify, hb]
theorem wp_arrSet (hP : ArP P t e n) {x y : Operand} {b k v : Nat} {st : List Nat} (ho : o.op = .store e x y) (hx : a.eval x = .pointer (some ⟨b, k, none⟩)) (hy : a.eval y = .int .i64 (v : Int)) (hb : ArrV w b t st) (hk : k < st.length)
    (h : ∀ w', w.grownBy w' (some b) → ArrV w' b t (st.set k v) → K (a.put o.dst undef) w') : o.wp P a w K Q := by
  have hc := hb.cell hk
  have hf : w.frozen? ⟨b, k, none⟩ = false := by simp [World.frozen?, show w.heap[b]? = _ from hb]
  refine wp_skip ?_ (h (w.setCell ⟨b, k, none⟩ (.int .i64 (v : Int))) ⟨rfl, rfl, rfl, by simp [World.setCell], fun j _ hj => heap_setCell_other _ ⟨b, k, none⟩ j _ fun e => hj (by rw [e])⟩ ?_)
  · simp only [execOp, ho, hx, hy]
    simp [Instr.storeAt, storeVar, run_sizeOf' hP.he, storeCells, Value.cells, run_store _ _ _ _ _ (show (Value.int .i64 (v : Int)).oneCell' = true from rfl), hc, hf, Addr.add, go_sem]
  · unfold ArrV at hb ⊢
    simp only [World.setCell, Array.getElem?_modify, hb]
    simp [← arC_set]
theorem wpList_arrZero (hP : ArP P t e n) (ho : o.op = .build t #[]) (hgd : Region.wanted o (yielded ops a.tmps) = true) (h : wpList P ops Q rest (a.put o.dst (.agg (arC (zrs n)))) w) : wpList P ops Q (o :: rest) a w :=
  BigFrame.wpList_want hgd fun _ hK => wp_arrZero hP ho (hK _ _ h)
theorem wpList_arrAlloc (hP : ArP P t e n) (ho : o.op = .alloc t) (hgd : Region.wanted o (yielded ops a.tmps) = true) (h : ∀ w', Below w.heap.size w w' → ArrV w' w.heap.size t (zrs n) → wpList P ops Q rest (a.put o.dst (.pointer (some ⟨w.heap.size, 0, none⟩))) w') : wpList P ops Q (o :: rest) a w :=
  BigFrame.wpList_want hgd fun _ hK => wp_arrAlloc hP ho fun w' h1 h2 => hK _ _ (h w' h1 h2)
theorem wpList_arrStore (hP : ArP P t e n) {x y : Operand} {b : Nat} {st s2 : List Nat} (ho : o.op = .store t x y) (hd : o.dst = none) (hgd : Region.wanted o (yielded ops a.tmps) = true) (hx : a.eval x = .pointer (some ⟨b, 0, none⟩)) (hy : a.eval y = .agg (arC s2)) (hb : ArrV w b t st) (h1 : st.length = n) (h2 : s2.length = n)
    (h : ∀ w', w.grownBy w' (some b) → ArrV w' b t s2 → wpList P ops Q rest a w') : wpList P ops Q (o :: rest) a w :=
  BigFrame.wpList_want hgd fun _ hK => wp_arrStore hP ho hx hy hb h1 h2 fun w' h3 h4 => hK _ _ (by rw [hd]; exact h w' h3 h4)
theorem wpList_arrSet (hP : ArP P t e n) {x y : Operand} {b k v : Nat} {st : List Nat} (ho : o.op = .store e x y) (hd : o.dst = none) (hgd : Region.wanted o (yielded ops a.tmps) = true) (hx : a.eval x = .pointer (some ⟨b, k, none⟩)) (hy : a.eval y = .int .i64 (v : Int)) (hb : ArrV w b t st) (hk : k < st.length)
    (h : ∀ w', w.grownBy w' (some b) → ArrV w' b t (st.set k v) → wpList P ops Q rest a w') : wpList P ops Q (o :: rest) a w :=
  BigFrame.wpList_want hgd fun _ hK => wp_arrSet hP ho hx hy hb hk fun w' h3 h4 => hK _ _ (by rw [hd]; exact h w' h3 h4)
theorem wp_alloc3 {z0 z1 z2 : Value} (hz : (P.info? t).bind (·.zero) = some (.agg #[z0, z1, z2])) (ho : o.op = .alloc t) (h : ∀ w', Below w.heap.size w w' → TriV w' w.heap.size t z0 z1 z2 → K (a.put o.dst (.pointer (some ⟨w.heap.size, 0, none⟩))) w') : o.wp P a w K Q := by
  have hzz : (zeroValue t).run P w = .ok (.agg #[z0, z1, z2]) w := by
    cases hi : P.info? t with
    | none => simp [hi] at hz
    | some i => simp [hi] at hz; simp [zeroValue, typeInfo, hi, hz]
  have hrun : (execOp a.eval o).run P w = .ok (.value (.pointer (some ⟨w.heap.size, 0, none⟩))) (w.alloc (.cells #[z0, z1, z2] t)) := by
    simp [execOp, ho, newVar, hzz, Value.cells, go_sem]
  unfold Oper.wp
  rw [hrun]
  exact h _ ((Below.refl _ _).alloc (Nat.le_refl _) _) (TriV.new w t z0 z1 z2)
theorem wp_store3 (hs : (P.info? t).map (·.size) = some 3) {x y : Operand} {b : Nat} {u v r p q s : Value} (ho : o.op = .store t x y) (hx : a.eval x = .pointer (some ⟨b, 0, none⟩)) (hy : a.eval y = .agg #[u, v, r]) (hu1 : u.oneCell' = true) (hv1 : v.oneCell' = true) (hr1 : r.oneCell' = true) (hb : TriV w b t p q s)
    (h : ∀ w', w.grownBy w' (some b) → TriV w' b t u v r → K (a.put o.dst undef) w') : o.wp P a w K Q := by
  refine wp_store_row t x y ho b #[u, v, r] hx hy t #[p, q, s] hb hs rfl (by simp [hu1, hv1, hr1]) (h _ ⟨rfl, rfl, rfl, by simp [World.setRow], fun k _ hk => ?_⟩ ?_)
  · have hkb : k ≠ b := fun e => hk (by rw [e])
    simp [World.setRow, Array.getElem?_modify, Ne.symm hkb]
  · unfold TriV at hb ⊢
    simp [World.setRow, Array.getElem?_modify, hb]
theorem wpList_alloc3 {z0 z1 z2 : Value} (hz : (P.info? t).bind (·.zero) = some (.agg #[z0, z1, z2])) (ho : o.op = .alloc t) (hgd : Region.wanted o (yielded ops a.tmps) = true) (h : ∀ w', Below w.heap.size w w' → TriV w' w.heap.size t z0 z1 z2 → wpList P ops Q rest (a.put o.dst (.pointer (some ⟨w.heap.size, 0, none⟩))) w') : wpList P ops Q (o :: rest) a w :=
  BigFrame.wpList_want hgd fun _ hK => wp_alloc3 hz ho fun w' h1 h2 => hK _ _ (h w' h1 h2)
theorem wpList_store3 (hs : (P.info? t).map (·.size) = some 3) {x y : Operand} {b : Nat} {u v r p q s : Value} (ho : o.op = .store t x y) (hd : o.dst = none) (hgd : Region.wanted o (yielded ops a.tmps) = true) (hx : a.eval x = .pointer (some ⟨b, 0, none⟩)) (hy : a.eval y = .agg #[u, v, r]) (hu1 : u.oneCell' = true) (hv1 : v.oneCell' = true) (hr1 : r.oneCell' = true) (hb : TriV w b t p q s)
    (h : ∀ w', w.grownBy w' (some b) → TriV w' b t u v r → wpList P ops Q rest a w') : wpList P ops Q (o :: rest) a w :=
  BigFrame.wpList_want hgd fun _ hK => wp_store3 hs ho hx hy hu1 hv1 hr1 hb fun w' h3 h4 => hK _ _ (by rw [hd]; exact h w' h3 h4)
end
end Go.Proofs.Yticngbgjfdcnhaa
