/-
  TEXTS OF ONE PROOF, merged: Slg, Apv, Fld, DltD, ModM, LkM, Lok, LkB, LkU, LkV, Bri.
-/
import Derived.BigQuiet
import Derived.Deep.QuietTactic
import Derived.Laws.Cells
import Derived.Laws.Externs
import Derived.OrdersIn
import Derived.RangeFuncCalls
import Derived.TacticsIn
import Derived.Test.YtccoklhmbikfmaaDoorKb2
namespace Go.Proofs.YtccoklhmbikfmaaDoor
open Go.RowKit
section
variable {P : Program} {T Te : TypeId} {n : Nat} {ops : Array Oper} {rest : List Oper} {o : Oper} {a : Act} {Q : Exit → Act → World → Prop} {w : World} {K : Act → World → Prop}
theorem wpList_clearQ (hP : LoP P T Te n) (hz1 : ∀ i z, P.info? Te = some i → i.zero = some z → ∀ u ∈ z.cells.toList, u.oneCell' = true) {x : Operand} (ho : o.op = .call { callee := .builtin .clear, args := #[x], argTypes := #[T] }) (hd : o.dst = none) (hgd : Region.wanted o (yielded ops a.tmps) = true) {ad : Option Addr} {m c : Nat} (hx : a.eval x = .slice ad m c) {g off : Nat} {cur : Array Value} {t : TypeId} (hg : w.heap[g]? = some (.cells cur t (0, 0))) (had : m = 0 ∨ ad = some ⟨g, off, none⟩) (hfit : m = 0 ∨ off + m * n ≤ cur.size)
    (h : ∀ w' cur', w'.heap[g]? = some (.cells cur' t (0, 0)) → cur'.size = cur.size → (m ≠ 0 → cur'.toList.take off = cur.toList.take off) → (m = 0 → cur' = cur) → w.grownBy w' (some g) → wpList P ops Q rest a w') : wpList P ops Q (o :: rest) a w := by
  refine BigFrame.wpList_want hgd fun K hK => ?_
  obtain ⟨w', cur', hr, h1, h2, h3, h4, h5⟩ := run_clearQ hP hz1 w o.type hg had hfit (c := c)
  unfold Oper.wp execOp
  simp only [ho, resolve, invoke, builtin, Sem.run_bind, Sem.run_pure, Result.andThen_ok, List.map_toArray, List.map_cons, List.map_nil, hx, hr]
  refine hK _ _ ?_
  rw [hd]
  exact h w' cur' h1 h2 h3 h4 h5
end
theorem ones_of {t : TypeId} {z0 : Value} (h : (Tryd.prog.info? t).bind (·.zero) = some z0) (h1 : ∀ u ∈ z0.cells.toList, u.oneCell' = true) : ∀ i z, Tryd.prog.info? t = some i → i.zero = some z → ∀ u ∈ z.cells.toList, u.oneCell' = true := fun i z hi hz => by
  rw [hi] at h
  simp only [Option.bind_some, hz] at h
  cases h
  exact h1
end Go.Proofs.YtccoklhmbikfmaaDoor
namespace Go.Proofs.YtccoklhmbikfmaaDoor
open Go.RowKit
section
variable {α : Type} {E : Elt α} {Te : TypeId} {base lo : Nat} {r : Option Nat} {W : World} {xs ys : List α}
theorem grownB {A B : World} (h : Below A.heap.size A B) (r : Option Nat) : A.grownBy B r := ⟨h.os, h.tape, h.output, h.size, fun k hk _ => h.block k hk⟩
theorem grownT {A B C : World} (h : A.grownBy B r) (k : B.grownBy C r) : A.grownBy C r := ⟨k.os.trans h.os, k.tape.trans h.tape, k.output.trans h.output, Nat.le_trans h.size k.size, fun j hj hn => (k.block j (Nat.lt_of_lt_of_le hj h.size) hn).trans (h.block j hj hn)⟩
variable {P : Program} {T : TypeId} {o : Oper} {a : Act} {Q : Exit → Act → World → Prop} {K : Act → World → Prop}
variable {ops : Array Oper} {rest : List Oper} {w : World}
theorem wpList_buildOne {n : Nat} (hP : LoP P T Te n) {y : Operand} {v : Value} {us : List Value} (ho : o.op = .buildSlice T 1 #[(0, y)]) (hgd : Region.wanted o (yielded ops a.tmps) = true) (hy : a.eval y = v) (hv : v.cells = us.toArray) (hl : us.length = n) (h0 : 0 < n) (hn : n ≤ 4096)
    (h : ∀ w', Below w.heap.size w w' → w'.heap[w.heap.size]? = some (.cells us.toArray Te (0, 0)) → wpList P ops Q rest (a.put o.dst (.slice (some ⟨w.heap.size, 0, none⟩) 1 1)) w') : wpList P ops Q (o :: rest) a w :=
  BigFrame.wpList_want hgd fun _ hK => wp_buildOne hP ho hy hv hl h0 hn (hK _ _ (h _ ((Below.refl _ _).alloc (Nat.le_refl _) _) (by simp only [World.alloc, Array.getElem?_push_size])))
theorem wpList_apvRow (hP : LoP P T Te E.size) {x y : Operand} {S : Nat → Prop} {e : α} {us : List Value} {n g : Nat} {v : Value} (ho : o.op = .call { callee := .builtin .append, args := #[x, y], argTypes := #[T, T] }) (hgd : Region.wanted o (yielded ops a.tmps) = true) (hx : a.eval x = v) (hy : a.eval y = .slice (some ⟨g, 0, none⟩) 1 1)
    (hO : OwnL E Te base lo w v xs) (hrow : w.heap[g]? = some (.cells us.toArray Te (0, 0))) (hR : E.R S w e us) (hS : ∀ k, S k → lo ≤ k ∧ k < w.heap.size ∧ some k ≠ v.ownBlock) (hbase : base ≤ w.heap.size) (hlen : xs.length + 1 ≤ 1073741824) (hn : n = xs.length + 1)
    (h : ∀ ad cap w', OwnL E Te base lo w' (.slice ad n cap) (xs ++ [e]) → w.grownBy w' v.ownBlock → (Value.ownBlock (.slice ad n cap) = v.ownBlock ∨ Value.ownBlock (.slice ad n cap) = some w.heap.size) → wpList P ops Q rest (a.put o.dst (.slice ad n cap)) w') : wpList P ops Q (o :: rest) a w := by
  refine wpList_appendL (E := E) (ys := [e]) hP ho hgd hx hO hy (fun j u hj => by rw [Addr.add_lit, World.cell?, hrow]; simpa using hj) (Flat.single hR) hS hbase (fun ad7 k7 cap7 w2 h2 hg h3 => ?_) hlen
  obtain rfl : k7 = n := by rw [h2.len, List.length_append, hn]; rfl
  exact h _ _ _ h2 hg h3
end
end Go.Proofs.YtccoklhmbikfmaaDoor
namespace Go.Proofs.YtccoklhmbikfmaaDoor
open Go.RowKit
def FdP (P : Program) (t : TypeId) (i off : Nat) : Prop := ∃ fs f m, P.underlying t = some (.struct fs) ∧ fs[i]? = some f ∧ f.offset = off ∧ (P.info? f.type).map (·.size) = some (m + 1)
def SgP (P : Program) (t : TypeId) (n : Nat) : Prop := (∃ fs, P.underlying t = some (.struct fs)) ∧ (P.info? t).map (·.size) = some n
section
variable {P : Program} {t : TypeId} {n : Nat} {ops : Array Oper} {rest : List Oper} {o : Oper} {a : Act} {K : Act → World → Prop} {Q : Exit → Act → World → Prop} {w : World}
theorem wp_fieldO {i o2 : Nat} (hP : FdP P t i o2) {x : Operand} {b off : Nat} (ho : o.op = .fieldAddr t x i) (hx : a.eval x = .pointer (some ⟨b, off, none⟩)) (h : K (a.put o.dst (.pointer (some ⟨b, off + o2, none⟩))) w) : o.wp P a w K Q := by
  obtain ⟨fs, f, m, hu, hf, ho2, hs⟩ := hP
  subst ho2
  refine wp_run' ?_ h
  simp only [execOp, ho, hx]
  simp [Instr.fieldAt, run_underlying hu, fieldPlace, hf, run_sizeOf' hs, go_sem, Addr.add]
theorem wp_loadU {us : List Value} (hP : SgP P t us.length) {x : Operand} {b off : Nat} (ho : o.op = .load t x) (hx : a.eval x = .pointer (some ⟨b, off, none⟩)) (hc : ∀ j u, us[j]? = some u → w.cell? ⟨b, off + j, none⟩ = some u) (h : K (a.put o.dst (.agg us.toArray)) w) : o.wp P a w K Q := by
  obtain ⟨⟨fs, hu⟩, hs⟩ := hP
  have hr := run_loadCells_list (P := P) (w := w) ⟨b, off, none⟩ us (fun j v hj => by rw [Addr.add_lit]; exact hc j v hj)
  have hr' : (loadCellsFrom ⟨b, off, none⟩ 0 us.length #[]).run P w = .ok us.toArray w := hr
  clear hr
  refine wp_run' ?_ h
  simp only [execOp, ho, hx]
  simp [Instr.loadAt, loadVar, isAgg, run_underlying hu, run_sizeOf' hs, hr', go_sem]
theorem RowQ.putU {Te : TypeId} {sz n g f : Nat} {V : Value} {vs us : List Value} (h : RowQ Te sz w V n vs) (hg : V.ownBlock = some g) (h1 : us.all (·.oneCell') = true) (hf : f + us.length ≤ vs.length) :
    ∃ w', (storeCells ⟨g, f, none⟩ us).run P w = .ok () w' ∧ w.grownBy w' (some g) ∧ RowQ Te sz w' V n (vs.take f ++ (us ++ vs.drop (f + us.length))) := by
  have hl := h.len
  rcases h.cases with ⟨rfl, _, _⟩ | ⟨g', cap, cur, rfl, hb, h2, h3, h4, h5⟩
  · simp [Value.ownBlock] at hg
  · simp [Value.ownBlock] at hg
    subst hg
    have h1' : ∀ v ∈ us, v.oneCell' = true := fun v hv => List.all_eq_true.1 h1 v hv
    have hfz : f + us.length ≤ cur.size := by
      have := congrArg List.length h5
      rw [List.length_take, Array.length_toList] at this
      omega
    have hst := run_storeCells_at (P := P) g' f Te us 0 cur w hb (by omega) h1'
    rw [Nat.add_zero] at hst
    refine ⟨_, hst, ⟨rfl, rfl, rfl, by simp [World.setRow], fun k _ hk => ?_⟩, ?_⟩
    · have hkb : k ≠ g' := fun e => hk (by rw [e])
      simp [World.setRow, Array.getElem?_modify, Ne.symm hkb]
    · refine RowQ.of (cur := (cur.toList.take f ++ us ++ cur.toList.drop (f + us.length)).toArray) ?_ h2 h3 ?_ ?_ ?_
      · simp [World.setRow, Array.getElem?_modify, hb]
      · simp; omega
      · obtain ⟨N, eN⟩ : ∃ N, N = n * sz := ⟨_, rfl⟩
        rw [← eN] at hl h5 ⊢
        have hN : N ≤ cur.toList.length := by
          rw [← h5, List.length_take] at hl
          omega
        have hfN : f + us.length ≤ N := by omega
        have hl1 : (cur.toList.take f).length = f := by rw [List.length_take]; omega
        show (cur.toList.take f ++ us ++ cur.toList.drop (f + us.length)).take N = _
        rw [List.append_assoc, List.take_append, hl1, List.take_append, List.take_of_length_le (l := us) (by omega), List.take_of_length_le (l := cur.toList.take f) (by omega), ← h5, List.take_take, List.drop_take, show min f N = f by omega, show N - f - us.length = N - (f + us.length) by omega]
      · intro u hu
        rcases List.mem_append.1 hu with hu | hu
        · exact h.2 u (List.mem_of_mem_take hu)
        · rcases List.mem_append.1 hu with hu | hu
          · exact h1' u hu
          · exact h.2 u (List.mem_of_mem_drop hu)
theorem wp_putU {Te : TypeId} {sz n g f : Nat} {V : Value} {vs us : List Value} {x y : Operand} (hs : (P.info? t).map (·.size) = some us.length) (ho : o.op = .store t x y) (hx : a.eval x = .pointer (some ⟨g, f, none⟩)) (hy : a.eval y = .agg us.toArray) (h1 : us.all (·.oneCell') = true) (hr : RowQ Te sz w V n vs) (hg : V.ownBlock = some g) (hf : f + us.length ≤ vs.length)
    (h : ∀ w', w.grownBy w' (some g) → RowQ Te sz w' V n (vs.take f ++ (us ++ vs.drop (f + us.length))) → K (a.put o.dst undef) w') : o.wp P a w K Q := by
  obtain ⟨w', hst, h2, h3⟩ := hr.putU (P := P) hg h1 hf
  refine wp_skip ?_ (h w' h2 h3)
  simp only [execOp, ho, hx, hy]
  simp [Instr.storeAt, storeVar, run_sizeOf' hs, Value.cells, hst, go_sem]
theorem wpList_putU {Te : TypeId} {sz n g f : Nat} {V : Value} {vs us : List Value} {x y : Operand} (hs : (P.info? t).map (·.size) = some us.length) (ho : o.op = .store t x y) (hd : o.dst = none) (hgd : Region.wanted o (yielded ops a.tmps) = true) (hx : a.eval x = .pointer (some ⟨g, f, none⟩)) (hy : a.eval y = .agg us.toArray) (h1 : us.all (·.oneCell') = true) (hr : RowQ Te sz w V n vs) (hg : V.ownBlock = some g) (hf : f + us.length ≤ vs.length)
    (h : ∀ w', w.grownBy w' (some g) → RowQ Te sz w' V n (vs.take f ++ (us ++ vs.drop (f + us.length))) → wpList P ops Q rest a w') : wpList P ops Q (o :: rest) a w :=
  BigFrame.wpList_want hgd fun _ hK => wp_putU hs ho hx hy h1 hr hg hf fun w' h2 h3 => hK _ _ (by rw [hd]; exact h w' h2 h3)
end
section
variable {P : Program} {t : TypeId} {ops : Array Oper} {rest : List Oper} {o : Oper} {a : Act} {K : Act → World → Prop} {Q : Exit → Act → World → Prop} {w : World}
theorem wp_boxNew1 {u : Value} (hz : (P.info? t).bind (·.zero) = some u) (hu : u.cells = #[u]) (ho : o.op = .alloc t) (h : ∀ w', Below w.heap.size w w' → BoxN w' w.heap.size t [u] → K (a.put o.dst (.pointer (some ⟨w.heap.size, 0, none⟩))) w') : o.wp P a w K Q := by
  have hzz : (zeroValue t).run P w = .ok u w := by
    cases hi : P.info? t with
    | none => simp [hi] at hz
    | some i => simp [hi] at hz; simp [zeroValue, typeInfo, hi, hz]
  have hrun : (execOp a.eval o).run P w = .ok (.value (.pointer (some ⟨w.heap.size, 0, none⟩))) (w.alloc (.cells #[u] t)) := by
    unfold Value.cells at hu
    simp [execOp, ho, newVar, hzz, Value.cells, hu, go_sem]
  unfold Oper.wp
  rw [hrun]
  exact h _ ((Below.refl _ _).alloc (Nat.le_refl _) _) (BoxN.new w t [u])
theorem wpList_boxNew1 {u : Value} (hz : (P.info? t).bind (·.zero) = some u) (hu : u.cells = #[u]) (ho : o.op = .alloc t) (hgd : Region.wanted o (yielded ops a.tmps) = true) (h : ∀ w', Below w.heap.size w w' → BoxN w' w.heap.size t [u] → wpList P ops Q rest (a.put o.dst (.pointer (some ⟨w.heap.size, 0, none⟩))) w') : wpList P ops Q (o :: rest) a w :=
  BigFrame.wpList_want hgd fun _ hK => wp_boxNew1 hz hu ho fun w' h1 h2 => hK _ _ (h w' h1 h2)
end
def OwnF {α : Type} (E : Elt α) (T : TypeId) (S : Nat → Prop) (w : World) (v : Value) (xs : List α) : Prop := ∃ vs, RowQ T E.size w v xs.length vs ∧ Flat E S w xs vs
section
variable {α : Type} {E : Elt α} {T : TypeId} {S S' : Nat → Prop} {w w' : World} {v : Value} {xs : List α}
theorem OwnF.nil (E : Elt α) (T : TypeId) (S : Nat → Prop) (w : World) : OwnF E T S w (.slice none 0 0) [] := ⟨[], RowQ.nil _ _ _, rfl⟩
theorem OwnF.shape (h : OwnF E T S w v xs) : ∃ a c, v = .slice a xs.length c ∧ xs.length ≤ c ∧ c ≤ maxLen := let ⟨_, h, _⟩ := h; h.shape
theorem OwnF.len {a : Option Addr} {k c : Nat} (h : OwnF E T S w (.slice a k c) xs) : k = xs.length := by
  obtain ⟨_, _, e, _⟩ := h.shape
  cases e; rfl
theorem OwnF.weak (h : OwnF E T S w v xs) (hs : ∀ k, S k → S' k) : OwnF E T S' w v xs := let ⟨vs, h1, h2⟩ := h; ⟨vs, h1, h2.weak hs⟩
theorem OwnF.kept (h : OwnF E T S w v xs) (hv : ∀ k, v.ownBlock = some k → w'.heap[k]? = w.heap[k]?) (hS : ∀ k, S k → w'.heap[k]? = w.heap[k]?) : OwnF E T S w' v xs := let ⟨vs, h1, h2⟩ := h; ⟨vs, h1.kept hv, h2.keep hS⟩
theorem OwnF.lt (h : OwnF E T S w v xs) {k : Nat} (hk : v.ownBlock = some k) : k < w.heap.size := let ⟨_, h1, _⟩ := h; h1.lt hk
theorem OwnF.below (h : OwnF E T S w v xs) (hb : Below w.heap.size w w') (hS : ∀ k, S k → k < w.heap.size) : OwnF E T S w' v xs := h.kept (fun k hk => hb.block k (h.lt hk)) fun k hk => hb.block k (hS k hk)
theorem OwnF.trd {F : Nat → Prop} (h : OwnF E T S w v xs) (hb : Trd F w w') (hv : ∀ k, v.ownBlock = some k → ¬ F k) (hS : ∀ k, S k → k < w.heap.size ∧ ¬ F k) : OwnF E T S w' v xs := h.kept (fun k hk => hb.block k (h.lt hk) (hv k hk)) fun k hk => hb.block k (hS k hk).1 (hS k hk).2
theorem OwnF.rdL (h : OwnF E T S w v xs) : RdL E (fun k => S k ∨ v.ownBlock = some k) w v xs := by
  obtain ⟨vs, h1, h2⟩ := h
  rcases h1.cases with ⟨rfl, h0, _⟩ | ⟨g, cap, cur, rfl, hg, hn, hc, _⟩
  · obtain rfl : xs = [] := List.eq_nil_of_length_eq_zero h0
    exact RdL.nil _ _ _
  · refine ⟨_, cap, rfl, hn, hc, .inr ⟨g, 0, rfl, .inr rfl, fun r hr => ?_⟩⟩
    obtain ⟨us, h3, h4⟩ := h2.at r hr
    refine ⟨us, E.weak h3 fun k hk => .inl hk, fun j u hj => ?_⟩
    have := h1.cell (g := g) rfl (h4 j u hj)
    rwa [Nat.zero_add]
theorem OwnL.ownF {base lo : Nat} (h : OwnL E T base lo w v xs) : OwnF E T (fun k => lo ≤ k ∧ k < w.heap.size ∧ some k ≠ v.ownBlock) w v xs := by
  obtain ⟨vs, h1, h2⟩ := h
  exact ⟨vs, ⟨⟨h1.1, h1.2.imp id fun ⟨g, cap, cur, a, b, c⟩ => ⟨g, cap, cur, a, Nat.zero_le _, c⟩⟩, h2.one⟩, h2⟩
theorem OwnF.app {ad : Option Addr} {c : Nat} {V : Value} {vs us : List Value} {x : α} (hF : Flat E S w xs vs) (hx : E.R S w x us) (hv : ∀ k, S k → k < w.heap.size ∧ some k ≠ V.ownBlock) (hr : RowTo T E.size w V (xs.length + 1) (vs ++ us) (.slice ad (xs.length + 1) c) w') : OwnF E T S w' (.slice ad (xs ++ [x]).length c) (xs ++ [x]) := by
  obtain ⟨h1, h2, _⟩ := hr
  have hk : ∀ k, S k → w'.heap[k]? = w.heap[k]? := fun k hk => h2.block k (hv k hk).1 (hv k hk).2
  refine ⟨vs ++ us, ?_, (hF.keep hk).append (Flat.single (E.keep hx hk))⟩
  rw [List.length_append, List.length_singleton]
  exact h1
theorem OwnF.set {V : Value} {vs us : List Value} {x : α} {i : Nat} (hi : i < xs.length) (hF : Flat E S w xs vs) (hx : E.R S w x us) (hk : ∀ k, S k → w'.heap[k]? = w.heap[k]?) (hr : RowQ T E.size w' V xs.length (vs.take (i * E.size) ++ (us ++ vs.drop (i * E.size + us.length)))) : OwnF E T S w' V (xs.set i x) := by
  refine ⟨_, by rw [List.length_set]; exact hr, ?_⟩
  have hl := E.len hx
  rw [List.set_eq_take_append_cons_drop, if_pos hi]
  refine ((hF.take i).keep hk).append ⟨us, _, rfl, E.keep hx hk, ?_⟩
  have hd : ∀ {xs : List α} {vs : List Value}, Flat E S w xs vs → ∀ k, Flat E S w (xs.drop k) (vs.drop (k * E.size)) := by
    intro xs
    induction xs with
    | nil => intro vs h k; cases h; simp [Flat]
    | cons y l ih =>
      intro vs h k
      cases k with
      | zero => simpa using h
      | succ k =>
        obtain ⟨us1, bs, rfl, h1, h2⟩ := h
        have hla := E.len h1
        rw [show (k + 1) * E.size = us1.length + k * E.size by rw [hla, Nat.add_mul]; omega, List.drop_length_add_append]
        exact ih h2 k
  have := hd hF (i + 1)
  rw [show (i + 1) * E.size = i * E.size + us.length by rw [hl, Nat.add_mul]; omega] at this
  exact this.keep hk
variable {P : Program} {Te : TypeId} {ops : Array Oper} {rest : List Oper} {o : Oper} {a : Act} {Q : Exit → Act → World → Prop}
theorem wpList_appF (hP : LoP P T Te E.size) {x y : Operand} {e : α} {us : List Value} {n g : Nat} (ho : o.op = .call { callee := .builtin .append, args := #[x, y], argTypes := #[T, T] }) (hgd : Region.wanted o (yielded ops a.tmps) = true) (hx : a.eval x = v) (hy : a.eval y = .slice (some ⟨g, 0, none⟩) 1 1)
    (hO : OwnF E Te S w v xs) (hrow : w.heap[g]? = some (.cells us.toArray Te (0, 0))) (hR : E.R S w e us) (hS : ∀ k, S k → k < w.heap.size ∧ some k ≠ v.ownBlock) (hlen : xs.length + 1 ≤ 1073741824) (hn : n = xs.length + 1)
    (h : ∀ ad cap w', OwnF E Te S w' (.slice ad n cap) (xs ++ [e]) → w.grownBy w' v.ownBlock → (Value.ownBlock (.slice ad n cap) = v.ownBlock ∨ ∃ k, Value.ownBlock (.slice ad n cap) = some k ∧ w.heap.size ≤ k) → wpList P ops Q rest (a.put o.dst (.slice ad n cap)) w') : wpList P ops Q (o :: rest) a w := by
  subst hn
  obtain ⟨vs, hr, hf⟩ := hO
  refine wpList_appQ hP E.pos ho hgd hx hr hy (by rw [E.len hR]; omega) (fun j u hj => by rw [Addr.add_lit, World.cell?, hrow]; simpa using hj) (E.one hR) hlen fun ad cap w' h2 => h ad cap w' ?_ h2.2.1 h2.2.2
  have := OwnF.app (x := e) hf hR hS h2
  rw [List.length_append, List.length_singleton] at this
  exact this
end
end Go.Proofs.YtccoklhmbikfmaaDoor
namespace Go.Proofs.YtccoklhmbikfmaaDoor
open Go.RowKit Go.Shelf
theorem boxes2 (w : World) (t t2 : TypeId) (us vs : List Value) : ∃ W, W = (w.alloc (.cells us.toArray t)).alloc (.cells vs.toArray t2) ∧ Below w.heap.size w W ∧ BoxN W w.heap.size t us ∧ BoxN W (w.heap.size + 1) t2 vs ∧ W.heap.size = w.heap.size + 1 + 1 := by
  have h1 : Below w.heap.size w (w.alloc (.cells us.toArray t)) := (Below.refl _ _).alloc (Nat.le_refl _) _
  have s1 : (w.alloc (.cells us.toArray t)).heap.size = w.heap.size + 1 := World.size_alloc _ _
  have b1 := BoxN.new w t us
  generalize w.alloc (.cells us.toArray t) = w1 at *
  have h2 : Below w1.heap.size w1 (w1.alloc (.cells vs.toArray t2)) := (Below.refl _ _).alloc (Nat.le_refl _) _
  have s2 : (w1.alloc (.cells vs.toArray t2)).heap.size = w1.heap.size + 1 := World.size_alloc _ _
  have b2 := BoxN.new w1 t2 vs
  rw [s1] at b2 s2
  exact ⟨_, rfl, h1.trans (h2.mono h1.size), b1.below h2 b1.lt, b2, s2⟩
def NewS (W V : World) (k : Value) (xs : List UInt8) : Prop := ∃ a c, k = .slice a xs.length c ∧ RdS (fun g => W.heap.size ≤ g ∧ g < V.heap.size) V (.slice a xs.length c) xs
theorem NewS.below {W V V' : World} {k : Value} {xs : List UInt8} (h : NewS W V k xs) (hb : Below V.heap.size V V') : NewS W V' k xs := by
  obtain ⟨a, c, e, hr⟩ := h
  exact ⟨a, c, e, (hr.below hb).weak fun g hg => ⟨hg.1, Nat.lt_of_lt_of_le hg.2 hb.size⟩⟩
theorem NewS.grown {W V V' : World} {k : Value} {xs : List UInt8} {b : Nat} (h : NewS W V k xs) (hg : V.grownBy V' (some b)) (hb : b < W.heap.size) : NewS W V' k xs := by
  obtain ⟨a, c, e, hr⟩ := h
  exact ⟨a, c, e, (hr.keep fun k hk => hg.block k hk.2 fun e => by injection e with e; have := hk.1; omega).weak fun g h => ⟨h.1, Nat.lt_of_lt_of_le h.2 hg.size⟩⟩
theorem NewS.of {W V V' : World} {E : TypeId} {a : Option Addr} {k c : Nat} {xs : List UInt8} (h : Below W.heap.size W V) (hf : Fresh E V V' (.slice a k c) xs) : NewS W V' (.slice a k c) xs := by
  obtain rfl : k = xs.length := hf.len
  exact ⟨a, c, rfl, hf.2.rdS.weak fun g hg => ⟨Nat.le_trans h.size hg.1, hg.2⟩⟩
end Go.Proofs.YtccoklhmbikfmaaDoor
namespace Go.Proofs.YtccoklhmbikfmaaDoor
def kn (a : Int) : Bool := decide (1 ≤ a) && decide (a ≤ 5)
def covM (a b : Int) : Bool := kn a && kn b && (a == b || a == 5 || b == 1 || (a == 4 && (b == 2 || b == 3)))
def fitM (a b : Int) : Bool := kn a && kn b && ((a == 1 && b != 5) || (b == 1 && a != 5) || (a == 2 && b == 2) || (a == 3 && b == 3))
def joinM (a b : Int) : Int :=
  if covM 1 a && covM 1 b then 1 else if covM 2 a && covM 2 b then 2 else if covM 3 a && covM 3 b then 3 else if covM 4 a && covM 4 b then 4 else if covM 5 a && covM 5 b then 5 else 0
theorem md_cases (a : Int) : a = 1 ∨ a = 2 ∨ a = 3 ∨ a = 4 ∨ a = 5 ∨ kn a = false := by
  by_cases h1 : 1 ≤ a
  · by_cases h2 : a ≤ 5
    · omega
    · simp [kn, h2]
  · simp [kn, h1]
theorem cov_none {a : Int} (b : Int) (h : kn a = false) : covM a b = false := by simp [covM, h]
theorem cov_none2 {a : Int} (b : Int) (h : kn a = false) : covM b a = false := by simp [covM, h]
theorem fit_none {a : Int} (b : Int) (h : kn a = false) : fitM a b = false := by simp [fitM, h]
theorem fit_none2 {a : Int} (b : Int) (h : kn a = false) : fitM b a = false := by simp [fitM, h]
theorem join_none {a : Int} (b : Int) (h : kn a = false) : joinM a b = 0 := by simp [joinM, cov_none2 _ h]
theorem join_none2 {a : Int} (b : Int) (h : kn a = false) : joinM b a = 0 := by simp [joinM, cov_none2 _ h]
theorem kn_iff {a : Int} : kn a = true ↔ 1 ≤ a ∧ a ≤ 5 := by simp [kn]
theorem join_at {a b : Int} (i : Nat) (hi : i < 5) (h : ∀ j : Nat, j < i → (covM ((j : Int) + 1) a && covM ((j : Int) + 1) b) = false) (h1 : covM ((i : Int) + 1) a = true) (h2 : covM ((i : Int) + 1) b = true) : joinM a b = (i : Int) + 1 := by
  match i, hi with
  | 0, _ =>  have b1 : covM 1 a = true := h1; have b2 : covM 1 b = true := h2; simp [joinM, b1, b2]
  | 1, _ => have a0 : (covM 1 a && covM 1 b) = false := h 0 (by omega); have b1 : covM 2 a = true := h1; have b2 : covM 2 b = true := h2; simp only [joinM, a0]; simp [b1, b2]
  | 2, _ => have a0 : (covM 1 a && covM 1 b) = false := h 0 (by omega); have a1 : (covM 2 a && covM 2 b) = false := h 1 (by omega); have b1 : covM 3 a = true := h1; have b2 : covM 3 b = true := h2; simp only [joinM, a0, a1]; simp [b1, b2]
  | 3, _ => have a0 : (covM 1 a && covM 1 b) = false := h 0 (by omega); have a1 : (covM 2 a && covM 2 b) = false := h 1 (by omega); have a2 : (covM 3 a && covM 3 b) = false := h 2 (by omega); have b1 : covM 4 a = true := h1; have b2 : covM 4 b = true := h2; simp only [joinM, a0, a1, a2]; simp [b1, b2]
  | 4, _ => have a0 : (covM 1 a && covM 1 b) = false := h 0 (by omega); have a1 : (covM 2 a && covM 2 b) = false := h 1 (by omega); have a2 : (covM 3 a && covM 3 b) = false := h 2 (by omega); have a3 : (covM 4 a && covM 4 b) = false := h 3 (by omega); have b1 : covM 5 a = true := h1; have b2 : covM 5 b = true := h2; simp only [joinM, a0, a1, a2, a3]; simp [b1, b2]
theorem join_no {a b : Int} (h : ∀ j : Nat, j < 5 → (covM ((j : Int) + 1) a && covM ((j : Int) + 1) b) = false) : joinM a b = 0 := by
  have a0 : (covM 1 a && covM 1 b) = false := h 0 (by omega)
  have a1 : (covM 2 a && covM 2 b) = false := h 1 (by omega)
  have a2 : (covM 3 a && covM 3 b) = false := h 2 (by omega)
  have a3 : (covM 4 a && covM 4 b) = false := h 3 (by omega)
  have a4 : (covM 5 a && covM 5 b) = false := h 4 (by omega)
  simp only [joinM, a0, a1, a2, a3, a4]; simp
theorem fit_comm (a b : Int) : fitM b a = fitM a b := by
  rcases md_cases a with rfl | rfl | rfl | rfl | rfl | h
  case inr.inr.inr.inr.inr => rw [fit_none2 _ h, fit_none _ h]
  all_goals rcases md_cases b with rfl | rfl | rfl | rfl | rfl | h
  all_goals first | rfl | rw [fit_none _ h, fit_none2 _ h]
theorem fit_less (a b c : Int) (h1 : covM c a = true) (h2 : fitM c b = true) : fitM a b = true := by
  rcases md_cases c with rfl | rfl | rfl | rfl | rfl | h
  case inr.inr.inr.inr.inr => rw [cov_none _ h] at h1; cases h1
  all_goals rcases md_cases a with rfl | rfl | rfl | rfl | rfl | h
  all_goals first
    | (exfalso; rw [cov_none2 _ h] at h1; cases h1)
    | (rcases md_cases b with rfl | rfl | rfl | rfl | rfl | h
       all_goals first
         | (exfalso; rw [fit_none2 _ h] at h2; cases h2)
         | (revert h1 h2; decide))
end Go.Proofs.YtccoklhmbikfmaaDoor
namespace Go.Proofs.YtccoklhmbikfmaaDoor
structure Lk where
  owner : Int
  whole : Bool
  span : Sp
  mode : Int
deriving DecidableEq
def clashL (a b : Lk) : Bool := !decide (a.owner = b.owner) && decide (a.span.table = b.span.table) && (a.whole == b.whole) && (if a.whole then !fitM a.mode b.mode else meetsS a.span b.span && (a.mode == 5 || b.mode == 5))
def ownsL (x y : Lk) : Bool := decide (y.owner = x.owner)
def sameL (x y : Lk) : Bool := decide (y.owner = x.owner) && x.whole && y.whole && decide (x.span.table = y.span.table)
def servesL (x y : Lk) : Bool := decide (y.owner = x.owner) && decide (y.span.table = x.span.table) && covM y.mode x.mode && (y.whole || (!x.whole && coversS y.span x.span))
def fine (x : Lk) : Bool := decide (0 ≤ x.owner) && decide (x.owner < 4) && decide (mayS x.span) && (if x.whole then kn x.mode && !x.span.isOpen && decide (x.span.lo.length + x.span.hi.length = 0) else !emptyS x.span && (x.mode == 3 || x.mode == 5))
def blk (x : Lk) (H Q : List Lk) : Bool := H.any (clashL x) || Q.any (clashL x)
def okH (H : List Lk) : Prop := H.Pairwise fun y x => clashL x y = false ∧ sameL x y = false
def okQ (H Q : List Lk) : Prop := ∀ i (h : i < Q.length), blk Q[i] H (Q.take i) = true ∧ ∀ y ∈ Q.take i, y.owner ≠ Q[i].owner
def okLk (H Q : List Lk) : Prop := H.length + Q.length ≤ 40 ∧ (∀ x ∈ H, fine x = true) ∧ (∀ x ∈ Q, fine x = true) ∧ okH H ∧ okQ H Q
instance (H : List Lk) : Decidable (okH H) := by unfold okH; exact inferInstance
instance (H Q : List Lk) : Decidable (okQ H Q) := by unfold okQ; exact inferInstance
instance (H Q : List Lk) : Decidable (okLk H Q) := by unfold okLk; exact inferInstance
def waitsL (Q : List Lk) (o : Int) : Bool := Q.any fun y => decide (y.owner = o)
def heldA (x : Lk) (H : List Lk) : List Lk := match H.findIdx? (sameL x) with
  | some i => H.set i x
  | none => H ++ [x]
def joined (x : Lk) (H : List Lk) : Lk := match H.find? (sameL x) with
  | some y => { x with mode := joinM x.mode y.mode }
  | none => x
def askL (H Q : List Lk) (x : Lk) : List Lk × List Lk × Nat :=
  if fine x = true ∧ okLk H Q ∧ waitsL Q x.owner = false then
    if H.any (servesL x) = true then (H, Q, 0)
    else if 40 ≤ H.length + Q.length then (H, Q, 111)
    else if blk (joined x H) H Q = true then (H, Q ++ [joined x H], 110)
    else (heldA (joined x H) H, Q, 0)
  else (H, Q, 1)
def goD : List Lk → List Lk → List Lk → List Int → List Lk × List Lk × List Int
  | H, Q, [], c => (H, Q, c)
  | H, Q, x :: l, c => if blk x H Q = true then goD H (Q ++ [x]) l c else goD (heldA x H) Q l (c ++ [x.owner])
def lessL (o : Int) (l : List Lk) : List Lk := l.filter fun y => !decide (y.owner = o)
def dropC (H Q : List Lk) (o : Int) : List Lk × List Lk × List Int :=
  if 0 ≤ o ∧ o < 4 ∧ okLk H Q then goD (lessL o H) [] (lessL o Q) [] else (H, Q, [])
theorem clash_comm (a b : Lk) : clashL a b = clashL b a := by
  unfold clashL
  rw [meets_comm b.span a.span, fit_comm b.mode a.mode]
  have h1 : decide (b.owner = a.owner) = decide (a.owner = b.owner) := by rw [decide_eq_decide]; exact ⟨Eq.symm, Eq.symm⟩
  have h2 : decide (b.span.table = a.span.table) = decide (a.span.table = b.span.table) := by rw [decide_eq_decide]; exact ⟨Eq.symm, Eq.symm⟩
  rw [h1, h2, Bool.or_comm (b.mode == 5)]
  cases a.whole <;> cases b.whole <;> simp
theorem same_iff {x y : Lk} : sameL x y = true ↔ y.owner = x.owner ∧ x.whole = true ∧ y.whole = true ∧ x.span.table = y.span.table := by
  unfold sameL; simp [and_assoc]
theorem same_comm (a b : Lk) : sameL a b = sameL b a := by
  rw [Bool.eq_iff_iff, same_iff, same_iff]
  constructor
  · rintro ⟨h1, h2, h3, h4⟩; exact ⟨h1.symm, h3, h2, h4.symm⟩
  · rintro ⟨h1, h2, h3, h4⟩; exact ⟨h1.symm, h3, h2, h4.symm⟩
theorem clash_iff {a b : Lk} : clashL a b = true ↔ a.owner ≠ b.owner ∧ a.span.table = b.span.table ∧ a.whole = b.whole ∧ (a.whole = true ∧ fitM a.mode b.mode = false ∨ a.whole = false ∧ meetsS a.span b.span = true ∧ (a.mode = 5 ∨ b.mode = 5)) := by
  unfold clashL
  cases a.whole <;> simp [and_assoc]
theorem clash_up {q h x : Lk} (hs : sameL x h = true) (hc : covM x.mode h.mode = true) (h1 : clashL q h = true) : clashL q x = true := by
  obtain ⟨e1, e2, e3, e4⟩ := same_iff.1 hs
  obtain ⟨h2, h3, h4, h5⟩ := clash_iff.1 h1
  rw [e3] at h4
  rcases h5 with ⟨h5, h6⟩ | ⟨h5, _⟩
  · refine clash_iff.2 ⟨fun e => h2 (e.trans e1.symm), h3.trans e4.symm, h4.trans e2.symm, .inl ⟨h5, ?_⟩⟩
    cases h7 : fitM q.mode x.mode with
    | false => rfl
    | true =>
      rw [fit_comm] at h7
      have := fit_less _ _ _ hc h7
      rw [fit_comm] at this
      rw [this] at h6; cases h6
  · rw [h4] at h5; cases h5
theorem findIdx_cases (p : Lk → Bool) (H : List Lk) : (H.findIdx? p = none ∧ H.find? p = none ∧ ∀ y ∈ H, p y = false) ∨ ∃ i, ∃ h : i < H.length, H.findIdx? p = some i ∧ H.find? p = some H[i] ∧ p H[i] = true ∧ ∀ y ∈ H.take i, p y = false := by
  cases h : H.findIdx? p with
  | none =>
    have h2 := List.findIdx?_eq_none_iff.1 h
    refine .inl ⟨rfl, List.find?_eq_none.2 fun y hy => by simp [h2 y hy], fun y hy => h2 y hy⟩
  | some i =>
    obtain ⟨h1, h2, h3⟩ := List.findIdx?_eq_some_iff_getElem.1 h
    refine .inr ⟨i, h1, rfl, ?_, h2, ?_⟩
    · rw [List.find?_eq_some_iff_getElem]
      exact ⟨h2, i, h1, rfl, fun j hj => by simpa using h3 j hj⟩
    · intro y hy
      obtain ⟨j, hj, rfl⟩ := List.mem_iff_getElem.1 hy
      rw [List.length_take] at hj
      rw [List.getElem_take]
      simpa using h3 j (by omega)
theorem heldA_no {x : Lk} {H : List Lk} (h : ∀ y ∈ H, sameL x y = false) : heldA x H = H ++ [x] := by
  rcases findIdx_cases (sameL x) H with ⟨h1, _⟩ | ⟨i, hi, _, _, h2, _⟩
  · unfold heldA; rw [h1]
  · rw [h _ (List.getElem_mem hi)] at h2; cases h2
theorem first_uniq {p : Lk → Bool} {H : List Lk} {i j : Nat} (hi : i < H.length) (hj : j < H.length) (h1 : p H[i] = true) (h2 : ∀ y ∈ H.take i, p y = false) (h3 : p H[j] = true) (h4 : ∀ y ∈ H.take j, p y = false) : i = j := by
  rcases Nat.lt_trichotomy i j with h | h | h
  · have := h4 H[i] (List.mem_take_iff_getElem.2 ⟨i, by omega, rfl⟩)
    rw [h1] at this; cases this
  · exact h
  · have := h2 H[j] (List.mem_take_iff_getElem.2 ⟨j, by omega, rfl⟩)
    rw [h3] at this; cases this
theorem heldA_at {x : Lk} {H : List Lk} {i : Nat} (hi : i < H.length) (h1 : sameL x H[i] = true) (h2 : ∀ y ∈ H.take i, sameL x y = false) : heldA x H = H.set i x := by
  rcases findIdx_cases (sameL x) H with ⟨_, _, h3⟩ | ⟨j, hj, h3, _, h4, h5⟩
  · rw [h3 _ (List.getElem_mem hi)] at h1; cases h1
  · obtain rfl := first_uniq hi hj h1 h2 h4 h5
    unfold heldA; rw [h3]
theorem joined_no {x : Lk} {H : List Lk} (h : ∀ y ∈ H, sameL x y = false) : joined x H = x := by
  rcases findIdx_cases (sameL x) H with ⟨_, h1, _⟩ | ⟨i, hi, _, _, h2, _⟩
  · unfold joined; rw [h1]
  · rw [h _ (List.getElem_mem hi)] at h2; cases h2
theorem joined_at {x : Lk} {H : List Lk} {i : Nat} (hi : i < H.length) (h1 : sameL x H[i] = true) (h2 : ∀ y ∈ H.take i, sameL x y = false) : joined x H = { x with mode := joinM x.mode H[i].mode } := by
  rcases findIdx_cases (sameL x) H with ⟨_, _, h3⟩ | ⟨j, hj, _, h3, h4, h5⟩
  · rw [h3 _ (List.getElem_mem hi)] at h1; cases h1
  · obtain rfl := first_uniq hi hj h1 h2 h4 h5
    unfold joined; rw [h3]
theorem heldA_len (x : Lk) (H : List Lk) : (heldA x H).length ≤ H.length + 1 := by
  unfold heldA
  split <;> simp
theorem heldA_mem {x y : Lk} {H : List Lk} (h : y ∈ heldA x H) : y = x ∨ y ∈ H := by
  unfold heldA at h
  split at h
  · rcases List.mem_or_eq_of_mem_set h with h | h
    · exact .inr h
    · exact .inl h
  · rcases List.mem_append.1 h with h | h
    · exact .inr h
    · exact .inl (by simpa using h)
theorem heldA_self (x : Lk) (H : List Lk) : x ∈ heldA x H := by
  rcases findIdx_cases (sameL x) H with ⟨h1, _⟩ | ⟨i, hi, h1, _⟩
  · unfold heldA; rw [h1]; simp
  · unfold heldA; rw [h1]; exact List.mem_set hi x
theorem okH_held {x : Lk} {H : List Lk} (h : okH H) (hc : ∀ y ∈ H, clashL x y = false) : okH (heldA x H) := by
  rcases findIdx_cases (sameL x) H with ⟨_, _, h1⟩ | ⟨i, hi, _, _, h1, h2⟩
  · rw [heldA_no h1]
    unfold okH
    rw [List.pairwise_append]
    refine ⟨h, by simp, fun a ha b hb => ?_⟩
    obtain rfl : b = x := by simpa using hb
    exact ⟨hc a ha, h1 a ha⟩
  · rw [heldA_at hi h1 h2]
    have hs : ∀ y, y ∈ H → sameL H[i] y = false → sameL x y = false := fun y _ h3 => by
      cases h4 : sameL x y with
      | false => rfl
      | true =>
        obtain ⟨a1, a2, a3, a4⟩ := same_iff.1 h4
        obtain ⟨b1, b2, b3, b4⟩ := same_iff.1 h1
        rw [show sameL H[i] y = true from same_iff.2 ⟨a1.trans b1.symm, b3, a3, b4.symm.trans a4⟩] at h3
        cases h3
    unfold okH at h ⊢
    rw [List.set_eq_take_append_cons_drop, if_pos hi]
    have he : H = H.take i ++ (H[i] :: H.drop (i + 1)) := by rw [← List.drop_eq_getElem_cons hi, List.take_append_drop]
    rw [he, List.pairwise_append, List.pairwise_cons] at h
    obtain ⟨p1, ⟨p2, p3⟩, p4⟩ := h
    rw [List.pairwise_append, List.pairwise_cons]
    refine ⟨p1, ⟨fun y hy => ?_, p3⟩, fun y hy z hz => ?_⟩
    · have hm := List.mem_of_mem_drop hy
      have := p2 y hy
      exact ⟨(clash_comm y x).trans (hc y hm), (same_comm y x).trans (hs y hm ((same_comm _ _).trans this.2))⟩
    · rcases List.mem_cons.1 hz with rfl | hz
      · have hm := List.mem_of_mem_take hy
        exact ⟨hc y hm, hs y hm (p4 y hy _ (List.mem_cons_self)).2⟩
      · exact p4 y hy z (List.mem_cons_of_mem _ hz)
theorem blk_iff {x : Lk} {H Q : List Lk} : blk x H Q = true ↔ (∃ y ∈ H, clashL x y = true) ∨ ∃ y ∈ Q, clashL x y = true := by
  unfold blk; simp
theorem blk_no {x : Lk} {H Q : List Lk} : blk x H Q = false ↔ (∀ y ∈ H, clashL x y = false) ∧ ∀ y ∈ Q, clashL x y = false := by
  unfold blk; simp
theorem blk_held {q x : Lk} {H Q : List Lk} (hc : ∀ y ∈ H, sameL x y = true → covM x.mode y.mode = true) (h : blk q H Q = true) : blk q (heldA x H) Q = true := by
  rcases blk_iff.1 h with ⟨y, hy, h1⟩ | h1
  · refine blk_iff.2 (.inl ?_)
    rcases findIdx_cases (sameL x) H with ⟨_, _, h2⟩ | ⟨i, hi, _, _, h2, h3⟩
    · exact ⟨y, by rw [heldA_no h2]; exact List.mem_append_left _ hy, h1⟩
    · obtain ⟨j, hj, rfl⟩ := List.mem_iff_getElem.1 hy
      by_cases e : i = j
      · subst e
        exact ⟨x, heldA_self x H, clash_up h2 (hc _ hy h2) h1⟩
      · refine ⟨H[j], ?_, h1⟩
        rw [heldA_at hi h2 h3]
        exact List.mem_iff_getElem.2 ⟨j, by simpa using hj, by rw [List.getElem_set_ne e]⟩
  · exact blk_iff.2 (.inr h1)
theorem okQ_nil (H : List Lk) : okQ H [] := fun i h => absurd h (Nat.not_lt_zero i)
theorem okQ_snoc {H Q : List Lk} {x : Lk} (h : okQ H Q) (hb : blk x H Q = true) (ho : ∀ y ∈ Q, y.owner ≠ x.owner) : okQ H (Q ++ [x]) := by
  intro i hi
  rw [List.length_append, List.length_singleton] at hi
  rcases Nat.lt_or_ge i Q.length with hlt | hge
  · rw [List.getElem_append_left hlt, List.take_append_of_le_length (by omega)]
    exact h i hlt
  · obtain rfl : i = Q.length := by omega
    rw [List.getElem_append_right (Nat.le_refl _), List.take_left]
    simpa using ⟨hb, ho⟩
theorem okQ_held {x : Lk} {H Q : List Lk} (h : okQ H Q) (hc : ∀ y ∈ H, sameL x y = true → covM x.mode y.mode = true) : okQ (heldA x H) Q :=
  fun i hi => ⟨blk_held hc (h i hi).1, (h i hi).2⟩
def nodup (l : List Lk) : Prop := l.Pairwise fun y x => y.owner ≠ x.owner
theorem okQ_nodup {H Q : List Lk} (h : okQ H Q) : nodup Q := by
  unfold nodup
  rw [List.pairwise_iff_getElem]
  intro i j hi hj hij
  exact (h j hj).2 Q[i] (List.mem_take_iff_getElem.2 ⟨i, by omega, rfl⟩)
def Cov (H Q : List Lk) : Prop := ∀ q ∈ Q, ∀ h ∈ H, sameL q h = true → covM q.mode h.mode = true
def Inv (H Q : List Lk) : Prop := okLk H Q ∧ Cov H Q
theorem goD_inv : ∀ (l H Q : List Lk) (c : List Int), okH H → okQ H Q → Cov H (Q ++ l) → nodup (Q ++ l) → (∀ x ∈ H, fine x = true) → (∀ x ∈ Q ++ l, fine x = true) → H.length + (Q ++ l).length ≤ 40 →
    Inv (goD H Q l c).1 (goD H Q l c).2.1
  | [], H, Q, c, h1, h2, h3, h4, h5, h6, h7 => by
    rw [List.append_nil] at h3 h4 h6 h7
    exact ⟨⟨h7, h5, h6, h1, h2⟩, h3⟩
  | x :: l, H, Q, c, h1, h2, h3, h4, h5, h6, h7 => by
    have e : Q ++ x :: l = (Q ++ [x]) ++ l := by simp
    have hn := h4
    unfold nodup at hn
    rw [List.pairwise_append, List.pairwise_cons] at hn
    obtain ⟨n1, ⟨n2, n3⟩, n4⟩ := hn
    have ho : ∀ y ∈ Q, y.owner ≠ x.owner := fun y hy => n4 y hy x List.mem_cons_self
    have hx := h6 x (by simp)
    unfold goD
    by_cases hb : blk x H Q = true
    · rw [if_pos hb]
      refine goD_inv l H (Q ++ [x]) c h1 (okQ_snoc h2 hb ho) ?_ ?_ h5 ?_ ?_
      · rw [← e]; exact h3
      · rw [← e]; exact h4
      · rw [← e]; exact h6
      · rw [← e]; exact h7
    · rw [if_neg hb]
      have hb := blk_no.1 (eq_false_of_ne_true hb)
      have hcx : ∀ y ∈ H, sameL x y = true → covM x.mode y.mode = true := fun y hy => h3 x (by simp) y hy
      refine goD_inv l (heldA x H) Q _ (okH_held h1 hb.1) (okQ_held h2 hcx) ?_ ?_ ?_ ?_ ?_
      · intro q hq y hy hs
        have hq2 : q ∈ Q ++ x :: l := by
          rcases List.mem_append.1 hq with h | h
          · exact List.mem_append_left _ h
          · exact List.mem_append_right _ (List.mem_cons_of_mem _ h)
        rcases heldA_mem hy with rfl | hy
        · exfalso
          have hqo := (same_iff.1 hs).1
          rcases List.mem_append.1 hq with h | h
          · exact ho q h hqo.symm
          · exact n2 q h hqo
        · exact h3 q hq2 y hy hs
      · unfold nodup
        rw [List.pairwise_append]
        exact ⟨n1, n3, fun a ha b hb => n4 a ha b (List.mem_cons_of_mem _ hb)⟩
      · intro y hy
        rcases heldA_mem hy with rfl | hy
        · exact hx
        · exact h5 y hy
      · intro y hy
        refine h6 y ?_
        rcases List.mem_append.1 hy with h | h
        · exact List.mem_append_left _ h
        · exact List.mem_append_right _ (List.mem_cons_of_mem _ h)
      · have := heldA_len x H
        simp only [List.length_append, List.length_cons] at h7 ⊢
        omega
theorem goD_all (P : Lk → Prop) : ∀ (l H Q : List Lk) (c : List Int), (∀ y ∈ H, P y) → (∀ y ∈ Q, P y) → (∀ y ∈ l, P y) → (∀ y ∈ (goD H Q l c).1, P y) ∧ ∀ y ∈ (goD H Q l c).2.1, P y
  | [], H, Q, c, h1, h2, _ => ⟨h1, h2⟩
  | x :: l, H, Q, c, h1, h2, h3 => by
    have hx := h3 x List.mem_cons_self
    have hl : ∀ y ∈ l, P y := fun y hy => h3 y (List.mem_cons_of_mem _ hy)
    unfold goD
    by_cases hb : blk x H Q = true
    · rw [if_pos hb]
      refine goD_all P l H (Q ++ [x]) c h1 (fun y hy => ?_) hl
      rcases List.mem_append.1 hy with h | h
      · exact h2 y h
      · rw [show y = x by simpa using h]; exact hx
    · rw [if_neg hb]
      refine goD_all P l (heldA x H) Q _ (fun y hy => ?_) h2 hl
      rcases heldA_mem hy with rfl | hy
      · exact hx
      · exact h1 y hy
theorem less_mem {o : Int} {l : List Lk} {y : Lk} : y ∈ lessL o l ↔ y ∈ l ∧ y.owner ≠ o := by
  unfold lessL; simp
theorem Inv.nil : Inv [] [] := ⟨⟨by simp, by simp, by simp, by simp [okH], okQ_nil _⟩, by intro q hq; simp at hq⟩
theorem Inv.drop {H Q : List Lk} (h : Inv H Q) (o : Int) : Inv (dropC H Q o).1 (dropC H Q o).2.1 := by
  unfold dropC
  split
  · obtain ⟨⟨h1, h2, h3, h4, h5⟩, h6⟩ := h
    have hn := okQ_nodup h5
    refine goD_inv _ _ _ _ (h4.filter _) (okQ_nil _) ?_ ?_ ?_ ?_ ?_
    · intro q hq y hy hs
      rw [List.nil_append, less_mem] at hq
      exact h6 q hq.1 y (less_mem.1 hy).1 hs
    · rw [List.nil_append]; exact hn.filter _
    · intro x hx; exact h2 x (less_mem.1 hx).1
    · intro x hx; rw [List.nil_append] at hx; exact h3 x (less_mem.1 hx).1
    · have a := List.length_filter_le (fun y : Lk => !decide (y.owner = o)) H
      have b := List.length_filter_le (fun y : Lk => !decide (y.owner = o)) Q
      rw [List.nil_append]
      unfold lessL
      omega
  · exact h
theorem drop_none {H Q : List Lk} (h : okLk H Q) {o : Int} (h0 : 0 ≤ o) (h4 : o < 4) (P : Lk → Prop) (hH : ∀ y ∈ H, P y) (hQ : ∀ y ∈ Q, P y) :
    (∀ y ∈ (dropC H Q o).1, P y ∧ y.owner ≠ o) ∧ ∀ y ∈ (dropC H Q o).2.1, P y ∧ y.owner ≠ o := by
  unfold dropC
  rw [if_pos ⟨h0, h4, h⟩]
  exact goD_all (fun y => P y ∧ y.owner ≠ o) _ _ _ _ (fun y hy => ⟨hH y (less_mem.1 hy).1, (less_mem.1 hy).2⟩) (by simp) fun y hy => ⟨hQ y (less_mem.1 hy).1, (less_mem.1 hy).2⟩
theorem waits_no {Q : List Lk} {o : Int} : waitsL Q o = false ↔ ∀ y ∈ Q, y.owner ≠ o := by
  unfold waitsL; simp
theorem fine_iff {x : Lk} : fine x = true ↔ (0 ≤ x.owner ∧ x.owner < 4) ∧ mayS x.span ∧ (x.whole = true ∧ kn x.mode = true ∧ x.span.isOpen = false ∧ x.span.lo.length + x.span.hi.length = 0 ∨ x.whole = false ∧ emptyS x.span = false ∧ (x.mode = 3 ∨ x.mode = 5)) := by
  unfold fine
  cases x.whole <;> simp [and_assoc]
theorem fine_kn {x : Lk} (h : fine x = true) : kn x.mode = true := by
  rcases (fine_iff.1 h).2.2 with ⟨_, h, _⟩ | ⟨_, _, h | h⟩
  · exact h
  · rw [h]; rfl
  · rw [h]; rfl
theorem cov_self {a : Int} (h : kn a = true) : covM a a = true := by simp [covM, h]
theorem join_kn {a b : Int} (ha : kn a = true) (hb : kn b = true) : kn (joinM a b) = true ∧ covM (joinM a b) a = true ∧ covM (joinM a b) b = true := by
  rcases md_cases a with rfl | rfl | rfl | rfl | rfl | h
  case inr.inr.inr.inr.inr => rw [h] at ha; cases ha
  all_goals rcases md_cases b with rfl | rfl | rfl | rfl | rfl | h
  all_goals first
    | (rw [h] at hb; cases hb)
    | decide
theorem joined_spec {x : Lk} {H : List Lk} (hx : fine x = true) (hH : ∀ y ∈ H, fine y = true) (ho : okH H) :
    (joined x H).owner = x.owner ∧ (joined x H).whole = x.whole ∧ (joined x H).span = x.span ∧ covM (joined x H).mode x.mode = true ∧ fine (joined x H) = true ∧ (x.whole = false → joined x H = x) ∧ ∀ y ∈ H, sameL (joined x H) y = true → covM (joined x H).mode y.mode = true := by
  rcases findIdx_cases (sameL x) H with ⟨_, _, h1⟩ | ⟨i, hi, _, _, h1, h2⟩
  · rw [joined_no h1]
    exact ⟨rfl, rfl, rfl, cov_self (fine_kn hx), hx, fun _ => rfl, fun y hy h => by rw [h1 y hy] at h; cases h⟩
  · rw [joined_at hi h1 h2]
    have hy := fine_kn (hH _ (List.getElem_mem hi))
    obtain ⟨k1, k2, k3⟩ := join_kn (fine_kn hx) hy
    have hw := (same_iff.1 h1).2.1
    refine ⟨rfl, rfl, rfl, k2, ?_, fun h => (by rw [hw] at h; cases h), fun y hy2 hs => ?_⟩
    · obtain ⟨a1, a2, a3⟩ := fine_iff.1 hx
      refine fine_iff.2 ⟨a1, a2, .inl ⟨hw, k1, ?_⟩⟩
      rcases a3 with ⟨_, _, h⟩ | ⟨h, _⟩
      · exact h
      · rw [hw] at h; cases h
    · obtain ⟨j, hj, rfl⟩ := List.mem_iff_getElem.1 hy2
      by_cases e : i = j
      · subst e; exact k3
      · exfalso
        have hs1 : sameL x H[j] = true := by
          obtain ⟨s1, s2, s3, s4⟩ := same_iff.1 hs
          exact same_iff.2 ⟨s1, s2, s3, s4⟩
        obtain ⟨a1, a2, a3, a4⟩ := same_iff.1 h1
        obtain ⟨b1, b2, b3, b4⟩ := same_iff.1 hs1
        have hp := List.pairwise_iff_getElem.1 ho
        rcases Nat.lt_or_gt_of_ne e with h | h
        · have := (hp i j hi hj h).2
          rw [show sameL H[j] H[i] = true from same_iff.2 ⟨a1.trans b1.symm, b3, a3, b4.symm.trans a4⟩] at this
          cases this
        · have := (hp j i hj hi h).2
          rw [show sameL H[i] H[j] = true from same_iff.2 ⟨b1.trans a1.symm, a3, b3, a4.symm.trans b4⟩] at this
          cases this
theorem Inv.ask {H Q : List Lk} (h : Inv H Q) (x : Lk) : Inv (askL H Q x).1 (askL H Q x).2.1 := by
  unfold askL
  split
  case isFalse => exact h
  case isTrue h0 =>
  obtain ⟨hx, hok, hw⟩ := h0
  have hno := waits_no.1 hw
  split
  · exact h
  split
  · exact h
  rename_i hlen
  obtain ⟨⟨h1, h2, h3, h4, h5⟩, h6⟩ := h
  obtain ⟨j1, j2, j3, j4, j5, j6, j7⟩ := joined_spec hx h2 h4
  split
  · rename_i hb
    refine ⟨⟨by show H.length + (Q ++ [joined x H]).length ≤ 40; rw [List.length_append, List.length_singleton]; omega, h2, fun y hy => ?_, h4, okQ_snoc h5 hb fun y hy => by rw [j1]; exact hno y hy⟩, fun q hq y hy hs => ?_⟩
    · rcases List.mem_append.1 hy with h | h
      · exact h3 y h
      · rw [show y = _ by simpa using h]; exact j5
    · rcases List.mem_append.1 hq with h | h
      · exact h6 q h y hy hs
      · obtain rfl : q = joined x H := by simpa using h
        exact j7 y hy hs
  · rename_i hb
    have hb := blk_no.1 (eq_false_of_ne_true hb)
    have hl := heldA_len (joined x H) H
    refine ⟨⟨by show (heldA (joined x H) H).length + Q.length ≤ 40; omega, fun y hy => ?_, h3, okH_held h4 hb.1, okQ_held h5 j7⟩, fun q hq y hy hs => ?_⟩
    · rcases heldA_mem hy with rfl | hy
      · exact j5
      · exact h2 y hy
    · rcases heldA_mem hy with rfl | hy
      · exfalso
        have := (same_iff.1 hs).1
        rw [j1] at this
        exact hno q hq this.symm
      · exact h6 q hq y hy hs
theorem serves_joined {x j : Lk} (h1 : j.owner = x.owner) (h2 : j.whole = x.whole) (h3 : j.span = x.span) (h4 : covM j.mode x.mode = true) : servesL x j = true := by
  unfold servesL
  rw [h1, h2, h3, h4, covers_self]
  cases x.whole <;> simp
theorem ask_again {H Q : List Lk} (h : Inv H Q) (x : Lk) (he : (askL H Q x).2.2 = 0) : askL (askL H Q x).1 (askL H Q x).2.1 x = ((askL H Q x).1, (askL H Q x).2.1, 0) := by
  have hi := h.ask x
  by_cases h0 : fine x = true ∧ okLk H Q ∧ waitsL Q x.owner = false
  case neg => unfold askL at he; rw [if_neg h0] at he; cases he
  by_cases hs : H.any (servesL x) = true
  · have e : askL H Q x = (H, Q, 0) := by unfold askL; rw [if_pos h0, if_pos hs]
    rw [e]; exact e
  by_cases hl : 40 ≤ H.length + Q.length
  · unfold askL at he; rw [if_pos h0, if_neg hs, if_pos hl] at he; cases he
  by_cases hb : blk (joined x H) H Q = true
  · unfold askL at he; rw [if_pos h0, if_neg hs, if_neg hl, if_pos hb] at he; cases he
  have e : askL H Q x = (heldA (joined x H) H, Q, 0) := by unfold askL; rw [if_pos h0, if_neg hs, if_neg hl, if_neg hb]
  rw [e] at hi ⊢
  obtain ⟨j1, j2, j3, j4, _⟩ := joined_spec h0.1 h.1.2.1 h.1.2.2.2.1
  unfold askL
  rw [if_pos ⟨h0.1, hi.1, h0.2.2⟩, if_pos (List.any_eq_true.2 ⟨_, heldA_self _ _, serves_joined j1 j2 j3 j4⟩)]
theorem ask_wait {H Q : List Lk} (h : Inv H Q) (x : Lk) (he : (askL H Q x).2.2 = 110) : (askL (askL H Q x).1 (askL H Q x).2.1 x).2.2 = 1 ∧ waitsL (askL H Q x).2.1 x.owner = true ∧ okLk (askL H Q x).1 (askL H Q x).2.1 := by
  have hi := h.ask x
  by_cases h0 : fine x = true ∧ okLk H Q ∧ waitsL Q x.owner = false
  case neg => unfold askL at he; rw [if_neg h0] at he; cases he
  by_cases hs : H.any (servesL x) = true
  · unfold askL at he; rw [if_pos h0, if_pos hs] at he; cases he
  by_cases hl : 40 ≤ H.length + Q.length
  · unfold askL at he; rw [if_pos h0, if_neg hs, if_pos hl] at he; cases he
  by_cases hb : blk (joined x H) H Q = true
  case neg => unfold askL at he; rw [if_pos h0, if_neg hs, if_neg hl, if_neg hb] at he; cases he
  have e : askL H Q x = (H, Q ++ [joined x H], 110) := by unfold askL; rw [if_pos h0, if_neg hs, if_neg hl, if_pos hb]
  rw [e] at hi ⊢
  obtain ⟨j1, _⟩ := joined_spec h0.1 h.1.2.1 h.1.2.2.2.1
  have hw : waitsL (Q ++ [joined x H]) x.owner = true := by unfold waitsL; simp [j1]
  refine ⟨?_, hw, hi.1⟩
  unfold askL
  rw [if_neg fun h => by rw [hw] at h; exact absurd h.2.2 (by decide)]
theorem ask_else {H Q : List Lk} (x : Lk) (h0 : (askL H Q x).2.2 ≠ 0) (h1 : (askL H Q x).2.2 ≠ 110) : (askL H Q x).1 = H ∧ (askL H Q x).2.1 = Q := by
  unfold askL at h0 h1 ⊢
  repeat' split
  all_goals simp_all
end Go.Proofs.YtccoklhmbikfmaaDoor
namespace Go.Proofs.YtccoklhmbikfmaaDoor
open Go.ChangeShapes Go.WideShapes Go.ChangeAt Go.RowKit Go.Deep Go.Joins
def lkC (x : Lk) (k v : Value) : List Value := [.int .i64 x.owner, .bool x.whole, .int .i64 x.span.table, k, v, .bool x.span.isOpen, .int .i64 x.mode]
def Lk64 (x : Lk) : Prop := W64 x.owner ∧ W64 x.span.table ∧ W64 x.mode
def Elt.lk : Elt Lk where
  size := 7
  pos := by omega
  R S w x vs := ∃ k v, vs = lkC x k v ∧ RdS S w k x.span.lo ∧ RdS S w v x.span.hi ∧ Lk64 x
  len := by rintro _ _ _ _ ⟨_, _, rfl, _⟩; rfl
  keep := by rintro _ _ _ _ _ ⟨k, v, rfl, h, h1, h2⟩ hk; exact ⟨k, v, rfl, h.keep hk, h1.keep hk, h2⟩
  weak := by rintro _ _ _ _ _ ⟨k, v, rfl, h, h1, h2⟩ hk; exact ⟨k, v, rfl, h.weak hk, h1.weak hk, h2⟩
  fit := by rintro _ _ _ _ ⟨k, v, rfl, h, h1, h2⟩; exact ⟨k, v, rfl, h.fit, h1.fit, h2⟩
  one := by
    rintro _ _ _ _ ⟨k, v, rfl, h, h1, _⟩ u hu
    have h3 := h.one
    have h4 := h1.one
    simp only [lkC, List.mem_cons, List.not_mem_nil, or_false] at hu
    rcases hu with rfl | rfl | rfl | rfl | rfl | rfl | rfl
    · rfl
    · rfl
    · rfl
    · exact h3
    · exact h4
    · rfl
    · rfl
theorem lkP : LoP Tryd.prog 22 29 7 := ⟨⟨by kernel_rfl, by kernel_rfl⟩, .agg #[.int .i64 0, .bool false, .int .i64 0, .slice none 0 0, .slice none 0 0, .bool false, .int .i64 0], 88, by kernel_rfl, rfl, by omega⟩
def RdLk (S : Nat → Prop) (w : World) (v : Value) (x : Lk) : Prop := ∃ a c a2 c2, v = .agg #[.int .i64 x.owner, .bool x.whole, .int .i64 x.span.table, .slice a x.span.lo.length c, .slice a2 x.span.hi.length c2, .bool x.span.isOpen, .int .i64 x.mode] ∧ RdS S w (.slice a x.span.lo.length c) x.span.lo ∧ RdS S w (.slice a2 x.span.hi.length c2) x.span.hi ∧ Lk64 x
def RdLs (S : Nat → Prop) (w : World) (v : Value) (H Q : List Lk) : Prop := ∃ a c a2 c2, v = .agg #[.slice a H.length c, .slice a2 Q.length c2] ∧ RdL Elt.lk S w (.slice a H.length c) H ∧ RdL Elt.lk S w (.slice a2 Q.length c2) Q
section
variable {S S' : Nat → Prop} {w w' : World} {v : Value}
theorem RdL.lk {a : Option Addr} {n c : Nat} {l : List Lk} (h : RdL Elt.lk S w (.slice a n c) l) (r : Nat) (hr : r < l.length) :
    ∃ b off A C A2 C2, a = some ⟨b, off, none⟩ ∧ S b ∧ w.cell? ⟨b, off + r * 7, none⟩ = some (.int .i64 l[r].owner) ∧ w.cell? ⟨b, off + r * 7 + 1, none⟩ = some (.bool l[r].whole) ∧ w.cell? ⟨b, off + r * 7 + 2, none⟩ = some (.int .i64 l[r].span.table) ∧ w.cell? ⟨b, off + r * 7 + 3, none⟩ = some (.slice A l[r].span.lo.length C) ∧
      w.cell? ⟨b, off + r * 7 + 4, none⟩ = some (.slice A2 l[r].span.hi.length C2) ∧ w.cell? ⟨b, off + r * 7 + 5, none⟩ = some (.bool l[r].span.isOpen) ∧ w.cell? ⟨b, off + r * 7 + 6, none⟩ = some (.int .i64 l[r].mode) ∧
      RdS S w (.slice A l[r].span.lo.length C) l[r].span.lo ∧ RdS S w (.slice A2 l[r].span.hi.length C2) l[r].span.hi ∧ Lk64 l[r] := by
  obtain ⟨b, off, vs, rfl, hb, ⟨k, u, rfl, hk, hu, hi⟩, hc⟩ := h.at r hr
  obtain ⟨A, C, rfl, _, _⟩ := hk.shape
  obtain ⟨A2, C2, rfl, _, _⟩ := hu.shape
  exact ⟨b, off, A, C, A2, C2, rfl, hb, hc 0 _ rfl, hc 1 _ rfl, hc 2 _ rfl, hc 3 _ rfl, hc 4 _ rfl, hc 5 _ rfl, hc 6 _ rfl, hk, hu, hi⟩
theorem RdLk.weak {x : Lk} (h : RdLk S w v x) (hs : ∀ k, S k → S' k) : RdLk S' w v x := by
  obtain ⟨a, c, a2, c2, e, h1, h2, h3⟩ := h
  exact ⟨a, c, a2, c2, e, h1.weak hs, h2.weak hs, h3⟩
theorem RdLk.keep {x : Lk} (h : RdLk S w v x) (hk : ∀ k, S k → w'.heap[k]? = w.heap[k]?) : RdLk S w' v x := by
  obtain ⟨a, c, a2, c2, e, h1, h2, h3⟩ := h
  exact ⟨a, c, a2, c2, e, h1.keep hk, h2.keep hk, h3⟩
theorem RdLk.fit {x : Lk} (h : RdLk S w v x) : RdLk (fun k => S k ∧ k < w.heap.size) w v x := by
  obtain ⟨a, c, a2, c2, e, h1, h2, h3⟩ := h
  exact ⟨a, c, a2, c2, e, h1.fit, h2.fit, h3⟩
theorem RdLk.below {x : Lk} (h : RdLk S w v x) (hb : Below w.heap.size w w') : RdLk S w' v x := by
  obtain ⟨a, c, a2, c2, e, h1, h2, h3⟩ := h
  exact ⟨a, c, a2, c2, e, h1.below hb, h2.below hb, h3⟩
theorem RdLs.below {H Q : List Lk} (h : RdLs S w v H Q) (hb : Below w.heap.size w w') : RdLs S w' v H Q := by
  obtain ⟨a, c, a2, c2, e, h1, h2⟩ := h
  exact ⟨a, c, a2, c2, e, h1.below hb, h2.below hb⟩
theorem RdLs.weak {H Q : List Lk} (h : RdLs S w v H Q) (hs : ∀ k, S k → S' k) : RdLs S' w v H Q := by
  obtain ⟨a, c, a2, c2, e, h1, h2⟩ := h
  exact ⟨a, c, a2, c2, e, h1.weak hs, h2.weak hs⟩
theorem RdLs.keep {H Q : List Lk} (h : RdLs S w v H Q) (hk : ∀ k, S k → w'.heap[k]? = w.heap[k]?) : RdLs S w' v H Q := by
  obtain ⟨a, c, a2, c2, e, h1, h2⟩ := h
  exact ⟨a, c, a2, c2, e, h1.keep hk, h2.keep hk⟩
theorem RdLk.R {x : Lk} {k m : Option Addr} {l n : Nat} (h : RdLk S w (.agg #[.int .i64 x.owner, .bool x.whole, .int .i64 x.span.table, .slice k x.span.lo.length l, .slice m x.span.hi.length n, .bool x.span.isOpen, .int .i64 x.mode]) x) :
    Elt.lk.R S w x [.int .i64 x.owner, .bool x.whole, .int .i64 x.span.table, .slice k x.span.lo.length l, .slice m x.span.hi.length n, .bool x.span.isOpen, .int .i64 x.mode] := by
  obtain ⟨_, _, _, _, e, h1, h2, h3⟩ := h
  injection e with e
  injection e with e
  injection e with _ e
  injection e with _ e
  injection e with _ e
  injection e with f1 e
  injection e with f2 _
  rw [← f1] at h1
  rw [← f2] at h2
  exact ⟨_, _, rfl, h1, h2, h3⟩
theorem RdLk.sp {x : Lk} {k m : Option Addr} {l n : Nat} (h : RdLk S w (.agg #[.int .i64 x.owner, .bool x.whole, .int .i64 x.span.table, .slice k x.span.lo.length l, .slice m x.span.hi.length n, .bool x.span.isOpen, .int .i64 x.mode]) x) :
    RdSp S w (.agg #[.int .i64 x.span.table, .slice k x.span.lo.length l, .slice m x.span.hi.length n, .bool x.span.isOpen]) x.span := by
  obtain ⟨_, _, e, h1, h2, h3⟩ := h.R
  injection e with _ e
  injection e with _ e
  injection e with _ e
  injection e with f1 e
  injection e with f2 _
  rw [← f1] at h1
  rw [← f2] at h2
  exact ⟨_, _, _, _, rfl, h1, h2, h3.2.1⟩
end
set_option maxRecDepth 4000 in
theorem opens_lk : Opens Tryd.prog 29 Elt.lk := by
  intro H enc w base held fuel cs x h
  obtain ⟨y0, y1, y2, y3, n, _, hl, h0, h1, h2, h3⟩ := trod_struct4 Tryd.underlying29 h
  have hc : cs.length = 7 := hl.trans (by kernel_rfl)
  match cs, hc with
  | [u, v, r1, r2, r3, r4, s], _ =>
    obtain ⟨m, hm, _, hw⟩ := DataW.trod_int (by kernel_rfl : Tryd.prog.underlying 3 = some (.int .i64)) (h0 : DataW.trod enc Tryd.prog w base (fun _ => true) held n 3 [u] = some y0)
    obtain ⟨g, hg, _⟩ := DataW.trod_bool (by kernel_rfl : Tryd.prog.underlying 4 = some .bool) (h1 : DataW.trod enc Tryd.prog w base (fun _ => true) held n 4 [v] = some y1)
    obtain ⟨sp, k1, k2, hsp, hR, hR2, hwt⟩ := opens_sp (h2 : DataW.trod enc Tryd.prog w base (fun _ => true) held n 27 [r1, r2, r3, r4] = some y2)
    obtain ⟨m2, hm2, _, hw2⟩ := DataW.trod_int (by kernel_rfl : Tryd.prog.underlying 3 = some (.int .i64)) (h3 : DataW.trod enc Tryd.prog w base (fun _ => true) held n 3 [s] = some y3)
    cases hm; cases hg; cases hm2; cases hsp
    exact ⟨⟨m, g, sp, m2⟩, r2, r3, rfl, hR, hR2, w64w hw, hwt, w64w hw2⟩
set_option maxRecDepth 4000 in
theorem open_lk {H : Type} {enc : TypeId × Value → H} {w : World} {base : Nat} {held : Bool} {fuel : Nat} {cs : Array Value} {x : DataW H × List MemPlace} (h : DataW.trod enc Tryd.prog w base (fun _ => true) held fuel 29 (Value.agg cs).cells.toList = some x) : ∃ d, RdLk (· < w.heap.size) w (.agg cs) d := by
  obtain ⟨d, k, v, e, h1, h2, h3⟩ := opens_lk h
  obtain ⟨a, c, rfl, _⟩ := h1.shape
  obtain ⟨a2, c2, rfl, _⟩ := h2.shape
  have : cs = #[.int .i64 d.owner, .bool d.whole, .int .i64 d.span.table, .slice a d.span.lo.length c, .slice a2 d.span.hi.length c2, .bool d.span.isOpen, .int .i64 d.mode] := Array.ext' (by simpa [Value.cells, lkC] using e)
  exact ⟨d, a, c, a2, c2, by rw [this], h1, h2, h3⟩
def Elt.stk : Elt (Lk × Bool) where
  size := 8
  pos := by omega
  R S w x vs := ∃ k v, vs = lkC x.1 k v ++ [.bool x.2] ∧ RdS S w k x.1.span.lo ∧ RdS S w v x.1.span.hi ∧ Lk64 x.1
  len := by rintro _ _ _ _ ⟨_, _, rfl, _⟩; rfl
  keep := by rintro _ _ _ _ _ ⟨k, v, rfl, h, h1, h2⟩ hk; exact ⟨k, v, rfl, h.keep hk, h1.keep hk, h2⟩
  weak := by rintro _ _ _ _ _ ⟨k, v, rfl, h, h1, h2⟩ hk; exact ⟨k, v, rfl, h.weak hk, h1.weak hk, h2⟩
  fit := by rintro _ _ _ _ ⟨k, v, rfl, h, h1, h2⟩; exact ⟨k, v, rfl, h.fit, h1.fit, h2⟩
  one := by
    rintro _ _ _ _ ⟨k, v, rfl, h, h1, _⟩ u hu
    have h3 := h.one
    have h4 := h1.one
    simp only [lkC, List.cons_append, List.nil_append, List.mem_cons, List.not_mem_nil, or_false] at hu
    rcases hu with rfl | rfl | rfl | rfl | rfl | rfl | rfl | rfl
    · rfl
    · rfl
    · rfl
    · exact h3
    · exact h4
    · rfl
    · rfl
    · rfl
set_option maxRecDepth 4000 in
theorem opens_stk : Opens Tryd.prog 41 Elt.stk := by
  intro H enc w base held fuel cs x h
  obtain ⟨y0, y1, n, _, hl, h0, h1⟩ := trod_struct2 Tryd.underlying41 h
  have hc : cs.length = 8 := hl.trans (by kernel_rfl)
  match cs, hc with
  | [c0, c1, c2, c3, c4, c5, c6, c7], _ =>
    obtain ⟨d, k1, k2, hd, hR, hR2, hw⟩ := opens_lk (h0 : DataW.trod enc Tryd.prog w base (fun _ => true) held n 29 [c0, c1, c2, c3, c4, c5, c6] = some y0)
    obtain ⟨g, hg, _⟩ := DataW.trod_bool (by kernel_rfl : Tryd.prog.underlying 4 = some .bool) (h1 : DataW.trod enc Tryd.prog w base (fun _ => true) held n 4 [c7] = some y1)
    cases hg
    cases hd
    exact ⟨(d, g), c3, c4, rfl, hR, hR2, hw⟩
theorem opens_stks : Opens Tryd.prog 39 (Elt.list Elt.stk) := Opens.list (by kernel_rfl) (by kernel_rfl) opens_stk
def LkEnd (w : World) (x : Lk) (e : Ending) (w' : World) : Prop := ∃ v, e = .returned v ∧ RdLk (fun k => w.heap.size ≤ k ∧ k < w'.heap.size) w' v x ∧ Below w.heap.size w w'
end Go.Proofs.YtccoklhmbikfmaaDoor
namespace Go.Proofs.YtccoklhmbikfmaaDoor
open Go.RowKit Go.Shelf
theorem lkF2 : FdP Tryd.prog 29 2 2 := ⟨_, _, 3, Tryd.underlying29, rfl, rfl, by kernel_rfl⟩
theorem lkF3 : FdP Tryd.prog 29 3 6 := ⟨_, _, 0, Tryd.underlying29, rfl, rfl, by kernel_rfl⟩
theorem askF0 : FdP Tryd.prog 54 0 0 := ⟨_, _, 6, Tryd.underlying54, rfl, rfl, by kernel_rfl⟩
theorem askF1 : FdP Tryd.prog 54 1 7 := ⟨_, _, 1, Tryd.underlying54, rfl, rfl, by kernel_rfl⟩
theorem oneF0 : FdP Tryd.prog 52 0 0 := ⟨_, _, 6, Tryd.underlying52, rfl, rfl, by kernel_rfl⟩
theorem lkS : SgP Tryd.prog 29 7 := ⟨⟨_, Tryd.underlying29⟩, by kernel_rfl⟩
theorem lsS : StP Tryd.prog 24 2 := StP.of (by kernel_rfl)
def LlnJ (W : World) (b : Nat) (x : Lk) : List Value → World → Prop
  | [], V => Below W.heap.size W V
  | [k], V => Below W.heap.size W V ∧ NewS W V k x.span.lo
  | [k, v], V => Below W.heap.size W V ∧ NewS W V k x.span.lo ∧ NewS W V v x.span.hi
  | [k, v, _], V => W.grownBy V (some b) ∧ (∃ v0, BoxN V b 29 [.int .i64 x.owner, .bool x.whole, .int .i64 x.span.table, k, v0, .bool x.span.isOpen, .int .i64 x.mode]) ∧ NewS W V k x.span.lo ∧ NewS W V v x.span.hi
  | _, V => W.grownBy V (some b) ∧ ∃ k v, BoxN V b 29 [.int .i64 x.owner, .bool x.whole, .int .i64 x.span.table, k, v, .bool x.span.isOpen, .int .i64 x.mode] ∧ NewS W V k x.span.lo ∧ NewS W V v x.span.hi
theorem LlnJ.below {W : World} {b : Nat} {x : Lk} : ∀ (l : List Value) (V V' : World), LlnJ W b x l V → Below V.heap.size V V' → LlnJ W b x l V'
  | [], _, _, h, hb => Below.trans h (hb.mono (Below.size h))
  | [_], _, _, ⟨h, h1⟩, hb => ⟨h.trans (hb.mono h.size), h1.below hb⟩
  | [_, _], _, _, ⟨h, h1, h2⟩, hb => ⟨h.trans (hb.mono h.size), h1.below hb, h2.below hb⟩
  | [_, _, _], _, _, ⟨h, ⟨v0, h0⟩, h1, h2⟩, hb => ⟨grown_trans h (grown_below' hb _), ⟨v0, h0.below hb h0.lt⟩, h1.below hb, h2.below hb⟩
  | _ :: _ :: _ :: _ :: _, _, _, ⟨h, k, v, h0, h1, h2⟩, hb => ⟨grown_trans h (grown_below' hb _), k, v, h0.below hb h0.lt, h1.below hb, h2.below hb⟩
set_option maxRecDepth 100000 in
set_option maxHeartbeats 4000000 in
theorem lAlone_any (w : World) {S : Nat → Prop} {v : Value} {x : Lk} (h : RdLk S w v x) (h1 : x.span.lo.length ≤ 1000000) (h2 : x.span.hi.length ≤ 1000000) :
    Calls Tryd.prog 43 #[v] w (LkEnd w x) := by
  obtain ⟨a, c, a2, c2, rfl, hk, hv, ht⟩ := h
  obtain ⟨W, hW, q, bn, bz, hsz⟩ := boxes2 w 29 29 [.int .i64 x.owner, .bool x.whole, .int .i64 x.span.table, .slice a x.span.lo.length c, .slice a2 x.span.hi.length c2, .bool x.span.isOpen, .int .i64 x.mode] [.int .i64 0, .bool false, .int .i64 0, .slice none 0 0, .slice none 0 0, .bool false, .int .i64 0]
  have eK : ∀ args w, (callFunc 64 args).run Tryd.prog w = .ok (.enter 64 args) w := enters_of Tryd.func64 (by kernel_rfl) rfl
  go_enter Tryd.func43, Tryd.ntmps43
  go_upto_region 1 with (fail)
  rw [show (w.alloc (.cells #[.int .i64 x.owner, .bool x.whole, .int .i64 x.span.table, .slice a x.span.lo.length c, .slice a2 x.span.hi.length c2, .bool x.span.isOpen, .int .i64 x.mode] 29)).alloc (.cells #[.int .i64 0, .bool false, .int .i64 0, .slice none 0 0, .slice none 0 0, .bool false, .int .i64 0] 29) = W from hW.symm]
  clear hW
  have hk' := hk.below q
  have hv' := hv.below q
  refine wp_region_lnl (K := fun A B => A.grownBy B (some w.heap.size)) (by kernel_rfl) (by kernel_rfl) [3, 7, 10, 13] (by kernel_rfl) [lEq (.pointer (some ⟨w.heap.size, 0 + 2, none⟩)), lEq (.pointer (some ⟨w.heap.size, 0 + 2 + 1, none⟩)), lEq (.slice a x.span.lo.length c), lAny, lEq (.pointer (some ⟨w.heap.size, 0 + 2, none⟩)), lEq (.pointer (some ⟨w.heap.size, 0 + 2 + 2, none⟩)), lEq (.slice a2 x.span.hi.length c2), lAny, lEq (.pointer (some ⟨w.heap.size, 0 + 2, none⟩)), lEq (.pointer (some ⟨w.heap.size, 0 + 2 + 1, none⟩)), lAny, lEq (.pointer (some ⟨w.heap.size, 0 + 2, none⟩)), lEq (.pointer (some ⟨w.heap.size, 0 + 2 + 2, none⟩)), lAny] (LlnJ W w.heap.size x) LlnJ.below (show Below W.heap.size W W from Below.refl _ _)
    ⟨?o0, ?o1, ?o2, ?o3, ?o4, ?o5, ?o6, ?o7, ?o8, ?o9, ?o10, ?o11, ?o12, ?o13, trivial⟩ ?fin
  case o0 =>
    refine LnOp.side rfl (by kernel_rfl) (fun A va w' k hF hT hk hJ hb hu hp hd => ?_)
    have e1 : A.eval (.tmp 1) = .pointer (some ⟨w.heap.size, 0, none⟩) := hF 1 rfl
    exact wp_fieldO lkF2 rfl (e1) ⟨_, rfl, rfl, Below.refl _ _⟩
  case o1 =>
    refine LnOp.side rfl (by kernel_rfl) (fun A va w' k hF hT hk hJ hb hu hp hd => ?_)
    have e1 : A.eval (.tmp 3) = .pointer (some ⟨w.heap.size, 0 + 2, none⟩) := (hT 3 0 (by simp) rfl).trans (hd ⟨0, .data⟩ (by simp) rfl rfl)
    exact wp_fieldN spS rfl (e1) (by omega) ⟨_, rfl, rfl, Below.refl _ _⟩
  case o2 =>
    refine LnOp.side rfl (by kernel_rfl) (fun A va w' k hF hT hk hJ hb hu hp hd => ?_)
    have e1 : A.eval (.tmp 4) = .pointer (some ⟨w.heap.size, 0 + 2 + 1, none⟩) := (hT 4 1 (by simp) rfl).trans (hd ⟨1, .data⟩ (by simp) rfl rfl)
    obtain rfl : k = 0 := by have := hb 0 3 rfl (by kernel_rfl); omega
    have hJ0 : Below W.heap.size W w' := hJ
    exact wp_ld_slice (e := 5) rfl e1 (by kernel_rfl) ((bn.below (hJ0.mono (by omega)) bn.lt).cell (i := 3) rfl) ⟨_, rfl, rfl, Below.refl _ _⟩
  case o3 =>
    refine LnOp.line 0 rfl rfl (fun A va w' hF hT hJ hu hd => ?_)
    have e1 : A.eval (.tmp 5) = .slice a x.span.lo.length c := (hT 5 2 (by simp) rfl).trans (hd ⟨2, .data⟩ (by simp) rfl rfl)
    have hJ0 : Below W.heap.size W w' := hJ
    have hB : Below w.heap.size w w' := q.trans (hJ0.mono q.size)
    refine wp_callFn rfl eK (by simp only [List.map_toArray, List.map_cons, List.map_nil, e1]) ((clone_any w' (hk.below hB).rd (Nat.le_refl _) h1).mono ?_)
    rintro e w2 ⟨ad, k', c', rfl, hf⟩
    exact ⟨_, rfl, _, rfl, ⟨hJ0.trans (hf.1.mono hJ0.size), NewS.of hJ0 hf⟩, grown_below' hf.1 _⟩
  case o4 =>
    refine LnOp.side rfl (by kernel_rfl) (fun A va w' k hF hT hk hJ hb hu hp hd => ?_)
    have e1 : A.eval (.tmp 1) = .pointer (some ⟨w.heap.size, 0, none⟩) := hF 1 rfl
    exact wp_fieldO lkF2 rfl (e1) ⟨_, rfl, rfl, Below.refl _ _⟩
  case o5 =>
    refine LnOp.side rfl (by kernel_rfl) (fun A va w' k hF hT hk hJ hb hu hp hd => ?_)
    have e1 : A.eval (.tmp 7) = .pointer (some ⟨w.heap.size, 0 + 2, none⟩) := (hT 7 4 (by simp) rfl).trans (hd ⟨4, .data⟩ (by simp) rfl rfl)
    exact wp_fieldN spS rfl (e1) (by omega) ⟨_, rfl, rfl, Below.refl _ _⟩
  case o6 =>
    refine LnOp.side rfl (by kernel_rfl) (fun A va w' k hF hT hk hJ hb hu hp hd => ?_)
    have e1 : A.eval (.tmp 8) = .pointer (some ⟨w.heap.size, 0 + 2 + 2, none⟩) := (hT 8 5 (by simp) rfl).trans (hd ⟨5, .data⟩ (by simp) rfl rfl)
    have hJ0 : Below W.heap.size W w' := by
      have h5 := hb 1 7 rfl (by kernel_rfl)
      rcases k with _ | _ | k
      · exact hJ
      · exact hJ.1
      · omega
    exact wp_ld_slice (e := 5) rfl e1 (by kernel_rfl) ((bn.below (hJ0.mono (by omega)) bn.lt).cell (i := 4) rfl) ⟨_, rfl, rfl, Below.refl _ _⟩
  case o7 =>
    refine LnOp.line 1 rfl rfl (fun A va w' hF hT hJ hu hd => ?_)
    have e1 : A.eval (.tmp 9) = .slice a2 x.span.hi.length c2 := (hT 9 6 (by simp) rfl).trans (hd ⟨6, .data⟩ (by simp) rfl rfl)
    obtain ⟨hJ0, hJ1⟩ := hJ
    have hB : Below w.heap.size w w' := q.trans (hJ0.mono q.size)
    refine wp_callFn rfl eK (by simp only [List.map_toArray, List.map_cons, List.map_nil, e1]) ((clone_any w' (hv.below hB).rd (Nat.le_refl _) h2).mono ?_)
    rintro e w2 ⟨ad, k', c', rfl, hf⟩
    exact ⟨_, rfl, _, rfl, ⟨hJ0.trans (hf.1.mono hJ0.size), hJ1.below hf.1, NewS.of hJ0 hf⟩, grown_below' hf.1 _⟩
  case o8 =>
    refine LnOp.side rfl (by kernel_rfl) (fun A va w' k hF hT hk hJ hb hu hp hd => ?_)
    have e1 : A.eval (.tmp 1) = .pointer (some ⟨w.heap.size, 0, none⟩) := hF 1 rfl
    exact wp_fieldO lkF2 rfl (e1) ⟨_, rfl, rfl, Below.refl _ _⟩
  case o9 =>
    refine LnOp.side rfl (by kernel_rfl) (fun A va w' k hF hT hk hJ hb hu hp hd => ?_)
    have e1 : A.eval (.tmp 11) = .pointer (some ⟨w.heap.size, 0 + 2, none⟩) := (hT 11 8 (by simp) rfl).trans (hd ⟨8, .data⟩ (by simp) rfl rfl)
    exact wp_fieldN spS rfl (e1) (by omega) ⟨_, rfl, rfl, Below.refl _ _⟩
  case o10 =>
    refine LnOp.line 2 rfl rfl (fun A va w' hF hT hJ hu hd => ?_)
    have e1 : A.eval (.tmp 12) = .pointer (some ⟨w.heap.size, 0 + 2 + 1, none⟩) := (hT 12 9 (by simp) rfl).trans (hd ⟨9, .data⟩ (by simp) rfl rfl)
    have x2 : A.eval (.tmp 6) = va 3 := hT 6 3 (by simp) rfl
    obtain ⟨hJ0, ⟨ka, kc, ek, hkr⟩, hv1⟩ := hJ
    refine wp_boxSet (j := 3) rfl (by kernel_rfl) e1 (x2.trans ek) rfl rfl (bn.below hJ0 (by omega)) (by simp) (fun w2 hg hB2 => ?_)
    have hbW : w.heap.size < W.heap.size := by omega
    exact ⟨_, rfl, ⟨grown_trans (grown_below2 hJ0 rfl _) hg, ⟨_, by rw [ek]; exact hB2⟩, NewS.grown ⟨ka, kc, ek, hkr⟩ hg hbW, hv1.grown hg hbW⟩, hg⟩
  case o11 =>
    refine LnOp.side rfl (by kernel_rfl) (fun A va w' k hF hT hk hJ hb hu hp hd => ?_)
    have e1 : A.eval (.tmp 1) = .pointer (some ⟨w.heap.size, 0, none⟩) := hF 1 rfl
    exact wp_fieldO lkF2 rfl (e1) ⟨_, rfl, rfl, Below.refl _ _⟩
  case o12 =>
    refine LnOp.side rfl (by kernel_rfl) (fun A va w' k hF hT hk hJ hb hu hp hd => ?_)
    have e1 : A.eval (.tmp 13) = .pointer (some ⟨w.heap.size, 0 + 2, none⟩) := (hT 13 11 (by simp) rfl).trans (hd ⟨11, .data⟩ (by simp) rfl rfl)
    exact wp_fieldN spS rfl (e1) (by omega) ⟨_, rfl, rfl, Below.refl _ _⟩
  case o13 =>
    refine LnOp.line 3 rfl rfl (fun A va w' hF hT hJ hu hd => ?_)
    have e1 : A.eval (.tmp 14) = .pointer (some ⟨w.heap.size, 0 + 2 + 2, none⟩) := (hT 14 12 (by simp) rfl).trans (hd ⟨12, .data⟩ (by simp) rfl rfl)
    have x2 : A.eval (.tmp 10) = va 7 := hT 10 7 (by simp) rfl
    obtain ⟨hg0, ⟨v0, hB0⟩, hk1, ⟨va2, vc, ev, hvr⟩⟩ := hJ
    refine wp_boxSet (j := 4) rfl (by kernel_rfl) e1 (x2.trans ev) rfl rfl hB0 (by simp) (fun w2 hg hB2 => ?_)
    have hbW : w.heap.size < W.heap.size := by omega
    exact ⟨_, rfl, ⟨grown_trans hg0 hg, _, _, by rw [ev]; exact hB2, hk1.grown hg hbW, NewS.grown ⟨va2, vc, ev, hvr⟩ hg hbW⟩, hg⟩
  case fin =>
    intro vs1 W9 hJ hG
    obtain ⟨hg9, k9, v9, hb9, ⟨ka, kc, rfl, hk9⟩, ⟨va, vc, rfl, hv9⟩⟩ := hJ
    have q9 : Below w.heap.size w W9 := q.grown hg9 q.size fun k e => by injection e with e; omega
    have bz9 := bz.other hg9 (by simp)
    clear hG
    simp only [putAll]
    go_simp
    have c0 := hb9.cell (i := 0) rfl
    have c1 := hb9.cell (i := 1) rfl
    have c2 := hb9.cell (i := 2) rfl
    have c3 := hb9.cell (i := 3) rfl
    have c4 := hb9.cell (i := 4) rfl
    have c5 := hb9.cell (i := 5) rfl
    have c6 := hb9.cell (i := 6) rfl
    go_wp2_with (first | (refine wpList_boxStore (us := [.int .i64 x.owner, .bool x.whole, .int .i64 x.span.table, .slice ka x.span.lo.length kc, .slice va x.span.hi.length vc, .bool x.span.isOpen, .int .i64 x.mode]) (by kernel_rfl) rfl rfl rfl rfl rfl rfl bz9 rfl ?_; intro wd hgd hBd) | fail)
    have d0 := hBd.cell (i := 0) rfl
    have d1 := hBd.cell (i := 1) rfl
    have d2 := hBd.cell (i := 2) rfl
    have d3 := hBd.cell (i := 3) rfl
    have d4 := hBd.cell (i := 4) rfl
    have d5 := hBd.cell (i := 5) rfl
    have d6 := hBd.cell (i := 6) rfl
    obtain ⟨⟨fs, hu⟩, hs⟩ := lkS
    refine bodyPost_ret (v := .agg #[.int .i64 x.owner, .bool x.whole, .int .i64 x.span.table, .slice ka x.span.lo.length kc, .slice va x.span.hi.length vc, .bool x.span.isOpen, .int .i64 x.mode]) (by simp [results, Tryd.results43, go_sem, loadVar, isAgg, run_underlying hu, run_sizeOf' hs, loadCellsFrom, Addr.add, d0, d1, d2, d3, d4, d5, d6]) rfl ?_
    have hk0 : ∀ k, W.heap.size ≤ k ∧ k < W9.heap.size → wd.heap[k]? = W9.heap[k]? := fun k hk => hgd.block k hk.2 fun e => by injection e with e; omega
    exact ⟨_, rfl, ⟨ka, kc, va, vc, rfl, (hk9.keep hk0).weak fun k hk => ⟨by omega, Nat.lt_of_lt_of_le hk.2 hgd.size⟩, (hv9.keep hk0).weak fun k hk => ⟨by omega, Nat.lt_of_lt_of_le hk.2 hgd.size⟩, ht⟩, q9.grown hgd q9.size fun k e => by injection e with e; omega⟩
end Go.Proofs.YtccoklhmbikfmaaDoor
namespace Go.Proofs.YtccoklhmbikfmaaDoor
open Go.RowKit Go.Shelf
def shortK (l : List Lk) : Prop := l.length ≤ 60 ∧ ∀ x ∈ l, x.span.lo.length ≤ 100 ∧ x.span.hi.length ≤ 100
instance (l : List Lk) : Decidable (shortK l) := by unfold shortK; exact inferInstance
def fewK (H Q : List Lk) : Prop := shortK H ∧ shortK Q
instance (H Q : List Lk) : Decidable (fewK H Q) := by unfold fewK; exact inferInstance
set_option maxRecDepth 100000 in
set_option maxHeartbeats 4000000 in
theorem numbers_any (w : World) {S S2 : Nat → Prop} {a a2 : Option Addr} {n cx n2 cy : Nat} {l m : List Int} (hl : RdL Elt.int S w (.slice a n cx) l) (hm : RdL Elt.int S2 w (.slice a2 n2 cy) m) :
    Calls Tryd.prog 9 #[.slice a n cx, .slice a2 n2 cy] w fun e w' => e = .returned (.bool (decide (l = m))) ∧ Below w.heap.size w w' := by
  obtain ⟨rfl, hnc, hcm⟩ := hl.len
  have hlm : l.length ≤ 9223372036854775807 := by unfold maxLen at hcm; omega
  obtain ⟨rfl, hnc2, hcm2⟩ := hm.len
  have hmm : m.length ≤ 9223372036854775807 := by unfold maxLen at hcm2; omega
  have q := Below.refl w.heap.size w
  go_enter Tryd.func9, Tryd.ntmps9
  by_cases hlen : l.length = m.length
  case neg =>
    have d1 : ((l.length : Int) == (m.length : Int)) = false := beq_eq_false_iff_ne.2 (by omega)
    have d2 : (l.length == m.length) = false := beq_eq_false_iff_ne.2 hlen
    have d3 : ((l.length : Int) != (m.length : Int)) = true := bne_iff_ne.2 (by omega)
    have HK := Lib.hid (show decide (l = m) = false from decide_eq_false fun h => hlen (by rw [h]))
    clear hlen
    go_wp2_with fail
    go_ret
    exact ⟨by first | (rw [HK.out]; done) | (rw [HK.out]; rfl), q⟩
  have d1 : ((l.length : Int) == (m.length : Int)) = true := beq_iff_eq.2 (by omega)
  have d2 : (l.length == m.length) = true := beq_iff_eq.2 hlen
  have d3 : ((l.length : Int) != (m.length : Int)) = false := by rw [bne, d1]; rfl
  replace hlen := Lib.hid hlen
  go_upto_region 4 with (fail)
  clear d1 d2 d3
  go_loopw [5] (fun iv wr => ∃ (k : Nat), iv = .int .i64 k ∧ k ≤ l.length ∧ l.take k = m.take k ∧ Below w.heap.size w wr)
    (fun i _ => l.length - (intOf i).toNat)
  case atStart => exact ⟨0, rfl, Nat.zero_le _, by simp, q⟩
  case round =>
    clear q
    obtain ⟨k, rfl, hkl, hall, q⟩ := hrel
    replace hall := Lib.hid hall
    rcases Nat.lt_or_ge k l.length with hlt | hge
    · have hltm : k < m.length := by have := hlen.out; omega
      obtain ⟨b1, o1, vs1, rfl, _, ⟨rfl, _⟩, hc1⟩ := (hl.below q).at k hlt
      obtain ⟨b2, o2, vs2, rfl, _, ⟨rfl, _⟩, hc2⟩ := (hm.below q).at k hltm
      have c0 : wr.cell? ⟨b1, o1 + k, none⟩ = some (.int .i64 l[k]) := by have := hc1 0 _ rfl; simpa [Elt.int] using this
      have c1 : wr.cell? ⟨b2, o2 + k, none⟩ = some (.int .i64 m[k]) := by have := hc2 0 _ rfl; simpa [Elt.int] using this
      clear hc1 hc2
      by_cases e : l[k] = m[k]
      · have H := Lib.hid (show l.take (k + 1) = m.take (k + 1) by rw [List.take_succ_eq_append_getElem hlt, List.take_succ_eq_append_getElem hltm, hall.out, e])
        have d4 : (l[k] == m[k]) = true := beq_iff_eq.2 e
        have d5 : (l[k] != m[k]) = false := by rw [bne, d4]; rfl
        have d6 : decide (l[k] = m[k]) = true := decide_eq_true e
        have d7 : ((k : Nat) : Int) < (m.length : Int) := by omega
        clear e hall
        go_upto_region 6 with (fail)
        go_quiet (fail)
        go_wp2_with fail
        go_roundw
        case rel => exact ⟨k + 1, by go_num, by omega, H.out, Below.drewN q _⟩
        case measure => simp [intOf]; omega
      · have H := Lib.hid (show decide (l = m) = false from decide_eq_false fun h => e (by subst h; rfl))
        have d4 : (l[k] == m[k]) = false := beq_eq_false_iff_ne.2 e
        have d5 : (l[k] != m[k]) = true := bne_iff_ne.2 e
        have d6 : decide (l[k] = m[k]) = false := decide_eq_false e
        have d7 : ((k : Nat) : Int) < (m.length : Int) := by omega
        clear e hall
        go_upto_region 6 with (fail)
        go_quiet (fail)
        go_wp2_with fail
        go_ret
        exact ⟨by first | (rw [H.out]; done) | (rw [H.out]; rfl), Below.drewN q _⟩
    · obtain rfl : k = l.length := by omega
      have H := Lib.hid (show decide (l = m) = true from decide_eq_true (by
        have h := hall.out
        rw [List.take_length, hlen.out, List.take_length] at h
        exact h))
      clear hall
      go_wp2_with fail
      go_ret
      exact ⟨by first | (rw [H.out]; done) | (rw [H.out]; rfl), q⟩
end Go.Proofs.YtccoklhmbikfmaaDoor
namespace Go.Proofs.YtccoklhmbikfmaaDoor
open Go.RowKit Go.Shelf
theorem lk_ext {x y : Lk} (h1 : x.owner = y.owner) (h2 : x.whole = y.whole) (h3 : x.span = y.span) (h4 : x.mode = y.mode) : x = y := by
  cases x; cases y; simp_all
set_option maxRecDepth 100000 in
set_option maxHeartbeats 4000000 in
theorem rsame_any (w : World) {S S2 : Nat → Prop} {a a2 : Option Addr} {n cx n2 cy : Nat} {l m : List Lk} (hl : RdL Elt.lk S w (.slice a n cx) l) (hm : RdL Elt.lk S2 w (.slice a2 n2 cy) m) :
    Calls Tryd.prog 48 #[.slice a n cx, .slice a2 n2 cy] w fun e w' => e = .returned (.bool (decide (l = m))) ∧ Below w.heap.size w w' := by
  obtain ⟨rfl, hnc, hcm⟩ := hl.len
  have hlm : l.length ≤ 9223372036854775807 := by unfold maxLen at hcm; omega
  obtain ⟨rfl, hnc2, hcm2⟩ := hm.len
  have hmm : m.length ≤ 9223372036854775807 := by unfold maxLen at hcm2; omega
  have q := Below.refl w.heap.size w
  have eO : ∀ args w, (callFunc 67 args).run Tryd.prog w = .ok (.enter 67 args) w := enters_of Tryd.func67 (by kernel_rfl) rfl
  go_enter Tryd.func48, Tryd.ntmps48
  by_cases hlen : l.length = m.length
  case neg =>
    have d1 : ((l.length : Int) == (m.length : Int)) = false := beq_eq_false_iff_ne.2 (by omega)
    have d2 : (l.length == m.length) = false := beq_eq_false_iff_ne.2 hlen
    have d3 : ((l.length : Int) != (m.length : Int)) = true := bne_iff_ne.2 (by omega)
    have HK := Lib.hid (show decide (l = m) = false from decide_eq_false fun h => hlen (by rw [h]))
    clear hlen
    go_wp2_with fail
    go_ret
    exact ⟨by first | (rw [HK.out]; done) | (rw [HK.out]; rfl), q⟩
  have d1 : ((l.length : Int) == (m.length : Int)) = true := beq_iff_eq.2 (by omega)
  have d2 : (l.length == m.length) = true := beq_iff_eq.2 hlen
  have d3 : ((l.length : Int) != (m.length : Int)) = false := by rw [bne, d1]; rfl
  replace hlen := Lib.hid hlen
  go_upto_region 4 with (fail)
  clear d1 d2 d3
  go_loopw [5, 6] (fun iv ov wr => ∃ (k : Nat), iv = .int .i64 k ∧ k ≤ l.length ∧ l.take k = m.take k ∧ Below w.heap.size w wr)
    (fun i _ _ => l.length - (intOf i).toNat)
  case atStart => exact ⟨0, rfl, Nat.zero_le _, by simp, q⟩
  case round =>
    clear q
    obtain ⟨k, rfl, hkl, hall, q⟩ := hrel
    replace hall := Lib.hid hall
    rcases Nat.lt_or_ge k l.length with hlt | hge
    · have hltm : k < m.length := by have := hlen.out; omega
      have dk : decide ((k : Int) < (l.length : Int)) = true := decide_eq_true (by omega)
      obtain ⟨b1, o1, A1, A2, A3, A4, rfl, _, c0, c1, c2, c3, c4, c5, c6, hk1, hk2, hw64⟩ := (hl.below q).lk k hlt
      obtain ⟨b2, o2, B1, B2, B3, B4, rfl, _, d0, d1, d2, d3, d4, d5, d6, hk3, hk4, hw65⟩ := (hm.below q).lk k hltm
      obtain ⟨x, ex⟩ : ∃ x, x = l[k] := ⟨_, rfl⟩
      obtain ⟨y, ey⟩ : ∃ y, y = m[k] := ⟨_, rfl⟩
      rw [← ex] at c0 c1 c2 c3 c4 c5 c6 hk1 hk2 hw64
      rw [← ey] at d0 d1 d2 d3 d4 d5 d6 hk3 hk4 hw65
      replace ex := Lib.hid ex
      replace ey := Lib.hid ey
      have hx : RdLk S wr (.agg #[.int .i64 x.owner, .bool x.whole, .int .i64 x.span.table, .slice A1 x.span.lo.length A2, .slice A3 x.span.hi.length A4, .bool x.span.isOpen, .int .i64 x.mode]) x := ⟨_, _, _, _, rfl, hk1, hk2, hw64⟩
      have hy : RdLk S2 wr (.agg #[.int .i64 y.owner, .bool y.whole, .int .i64 y.span.table, .slice B1 y.span.lo.length B2, .slice B3 y.span.hi.length B4, .bool y.span.isOpen, .int .i64 y.mode]) y := ⟨_, _, _, _, rfl, hk3, hk4, hw65⟩
      clear hk1 hk2 hk3 hk4
      go_upto_region 6 with (fail)
      refine wp_region_gsg (by kernel_rfl) (by kernel_rfl) [sgEq (.slice (some ⟨b1, o1, none⟩) l.length cx), sgEq (.int .i64 (k : Nat)), sgEq (.pointer (some ⟨b1, o1 + k * 7, none⟩)), sgEq (.pointer (some ⟨b1, o1 + k * 7 + 2, none⟩)), sgEq (.agg #[.int .i64 x.span.table, .slice A1 x.span.lo.length A2, .slice A3 x.span.hi.length A4, .bool x.span.isOpen]), sgEq (.slice (some ⟨b2, o2, none⟩) m.length cy), sgEq (.int .i64 (k : Nat)), sgEq (.pointer (some ⟨b2, o2 + k * 7, none⟩)), sgEq (.pointer (some ⟨b2, o2 + k * 7 + 2, none⟩)), sgEq (.agg #[.int .i64 y.span.table, .slice B1 y.span.lo.length B2, .slice B3 y.span.hi.length B4, .bool y.span.isOpen]), sgEq (.bool (decide (x.span = y.span))), sgEq (.bool (decide (x.span = y.span)))]
        ⟨?o0, ?o1, ?o2, ?o3, ?o4, ?o5, ?o6, ?o7, ?o8, ?o9, ?o10, ?o11, trivial⟩ ?fin
      case o0 =>
        refine GdOp.plain rfl (fun A vs w' hF hT hb hd => ?_)
        have e1 : A.eval (.tmp 0) = .slice (some ⟨b1, o1, none⟩) l.length cx := hF 0 rfl
        exact BigFrame.wp_move _ rfl ⟨_, rfl, e1, Below.refl _ _⟩
      case o1 =>
        refine GdOp.plain rfl (fun A vs w' hF hT hb hd => ?_)
        have e1 : A.eval (.tmp 5) = .int .i64 (k : Nat) := hF 5 rfl
        exact BigFrame.wp_move _ rfl ⟨_, rfl, e1, Below.refl _ _⟩
      case o2 =>
        refine GdOp.plain rfl (fun A vs w' hF hT hb hd => ?_)
        have e1 : A.eval (.tmp 18) = .slice (some ⟨b1, o1, none⟩) l.length cx := (hT 18 0 (by simp) rfl).trans (hd ⟨0, .data⟩ (by simp) rfl)
        have e2 : A.eval (.tmp 19) = .int .i64 (k : Nat) := (hT 19 1 (by simp) rfl).trans (hd ⟨1, .data⟩ (by simp) rfl)
        exact wp_ixN (e := 29) rfl (by kernel_rfl) (by kernel_rfl) (e1) (e2) rfl (by omega) ⟨_, rfl, rfl, Below.refl _ _⟩
      case o3 =>
        refine GdOp.plain rfl (fun A vs w' hF hT hb hd => ?_)
        have e1 : A.eval (.tmp 20) = .pointer (some ⟨b1, o1 + k * 7, none⟩) := (hT 20 2 (by simp) rfl).trans (hd ⟨2, .data⟩ (by simp) rfl)
        exact wp_fieldO lkF2 rfl e1 ⟨_, rfl, rfl, Below.refl _ _⟩
      case o4 =>
        refine GdOp.plain rfl (fun A vs w' hF hT hb hd => ?_)
        have e1 : A.eval (.tmp 21) = .pointer (some ⟨b1, o1 + k * 7 + 2, none⟩) := (hT 21 3 (by simp) rfl).trans (hd ⟨3, .data⟩ (by simp) rfl)
        exact wp_load4 spS rfl e1 ((hb.cell (p := ⟨_, _, none⟩) (cell_lt c2)).trans c2) ((hb.cell (p := ⟨_, _, none⟩) (cell_lt c3)).trans c3) ((hb.cell (p := ⟨_, _, none⟩) (cell_lt c4)).trans c4) ((hb.cell (p := ⟨_, _, none⟩) (cell_lt c5)).trans c5) ⟨_, rfl, rfl, Below.refl _ _⟩
      case o5 =>
        refine GdOp.plain rfl (fun A vs w' hF hT hb hd => ?_)
        have e1 : A.eval (.tmp 1) = .slice (some ⟨b2, o2, none⟩) m.length cy := hF 1 rfl
        exact BigFrame.wp_move _ rfl ⟨_, rfl, e1, Below.refl _ _⟩
      case o6 =>
        refine GdOp.plain rfl (fun A vs w' hF hT hb hd => ?_)
        have e1 : A.eval (.tmp 5) = .int .i64 (k : Nat) := hF 5 rfl
        exact BigFrame.wp_move _ rfl ⟨_, rfl, e1, Below.refl _ _⟩
      case o7 =>
        refine GdOp.plain rfl (fun A vs w' hF hT hb hd => ?_)
        have e1 : A.eval (.tmp 23) = .slice (some ⟨b2, o2, none⟩) m.length cy := (hT 23 5 (by simp) rfl).trans (hd ⟨5, .data⟩ (by simp) rfl)
        have e2 : A.eval (.tmp 24) = .int .i64 (k : Nat) := (hT 24 6 (by simp) rfl).trans (hd ⟨6, .data⟩ (by simp) rfl)
        exact wp_ixN (e := 29) rfl (by kernel_rfl) (by kernel_rfl) (e1) (e2) rfl (by omega) ⟨_, rfl, rfl, Below.refl _ _⟩
      case o8 =>
        refine GdOp.plain rfl (fun A vs w' hF hT hb hd => ?_)
        have e1 : A.eval (.tmp 25) = .pointer (some ⟨b2, o2 + k * 7, none⟩) := (hT 25 7 (by simp) rfl).trans (hd ⟨7, .data⟩ (by simp) rfl)
        exact wp_fieldO lkF2 rfl e1 ⟨_, rfl, rfl, Below.refl _ _⟩
      case o9 =>
        refine GdOp.plain rfl (fun A vs w' hF hT hb hd => ?_)
        have e1 : A.eval (.tmp 26) = .pointer (some ⟨b2, o2 + k * 7 + 2, none⟩) := (hT 26 8 (by simp) rfl).trans (hd ⟨8, .data⟩ (by simp) rfl)
        exact wp_load4 spS rfl e1 ((hb.cell (p := ⟨_, _, none⟩) (cell_lt d2)).trans d2) ((hb.cell (p := ⟨_, _, none⟩) (cell_lt d3)).trans d3) ((hb.cell (p := ⟨_, _, none⟩) (cell_lt d4)).trans d4) ((hb.cell (p := ⟨_, _, none⟩) (cell_lt d5)).trans d5) ⟨_, rfl, rfl, Below.refl _ _⟩
      case o10 =>
        refine GdOp.plain rfl (fun A vs w' hF hT hb hd => ?_)
        have e1 : A.eval (.tmp 22) = .agg #[.int .i64 x.span.table, .slice A1 x.span.lo.length A2, .slice A3 x.span.hi.length A4, .bool x.span.isOpen] := (hT 22 4 (by simp) rfl).trans (hd ⟨4, .data⟩ (by simp) rfl)
        have e2 : A.eval (.tmp 27) = .agg #[.int .i64 y.span.table, .slice B1 y.span.lo.length B2, .slice B3 y.span.hi.length B4, .bool y.span.isOpen] := (hT 27 9 (by simp) rfl).trans (hd ⟨9, .data⟩ (by simp) rfl)
        refine wp_callFn rfl eO (args := #[.agg #[.int .i64 x.span.table, .slice A1 x.span.lo.length A2, .slice A3 x.span.hi.length A4, .bool x.span.isOpen], .agg #[.int .i64 y.span.table, .slice B1 y.span.lo.length B2, .slice B3 y.span.hi.length B4, .bool y.span.isOpen]]) (by simp only [List.map_toArray, List.map_cons, List.map_nil, e1, e2]) ((rOne_any w' (hx.sp.below hb) (hy.sp.below hb)).mono ?_)
        rintro e w2 ⟨rfl, hb2⟩
        exact ⟨_, rfl, _, rfl, rfl, hb2⟩
      case o11 =>
        refine GdOp.plain rfl (fun A vs w' hF hT hb hd => ?_)
        have e1 : A.eval (.tmp 28) = .bool (decide (x.span = y.span)) := (hT 28 10 (by simp) rfl).trans (hd ⟨10, .data⟩ (by simp) rfl)
        exact BigFrame.wp_assign _ rfl ⟨_, rfl, e1, Below.refl _ _⟩
      case fin =>
      intro vs9 W9 hb9 hG9
      have e0 : vs9 0 = .slice (some ⟨b1, o1, none⟩) l.length cx := hG9 0 (by decide)
      have e1 : vs9 1 = .int .i64 (k : Nat) := hG9 1 (by decide)
      have e2 : vs9 2 = .pointer (some ⟨b1, o1 + k * 7, none⟩) := hG9 2 (by decide)
      have e3 : vs9 3 = .pointer (some ⟨b1, o1 + k * 7 + 2, none⟩) := hG9 3 (by decide)
      have e4 : vs9 4 = .agg #[.int .i64 x.span.table, .slice A1 x.span.lo.length A2, .slice A3 x.span.hi.length A4, .bool x.span.isOpen] := hG9 4 (by decide)
      have e5 : vs9 5 = .slice (some ⟨b2, o2, none⟩) m.length cy := hG9 5 (by decide)
      have e6 : vs9 6 = .int .i64 (k : Nat) := hG9 6 (by decide)
      have e7 : vs9 7 = .pointer (some ⟨b2, o2 + k * 7, none⟩) := hG9 7 (by decide)
      have e8 : vs9 8 = .pointer (some ⟨b2, o2 + k * 7 + 2, none⟩) := hG9 8 (by decide)
      have e9 : vs9 9 = .agg #[.int .i64 y.span.table, .slice B1 y.span.lo.length B2, .slice B3 y.span.hi.length B4, .bool y.span.isOpen] := hG9 9 (by decide)
      have e10 : vs9 10 = .bool (decide (x.span = y.span)) := hG9 10 (by decide)
      have e11 : vs9 11 = .bool (decide (x.span = y.span)) := hG9 11 (by decide)
      simp only [putAll, e0, e1, e2, e3, e4, e5, e6, e7, e8, e9, e10, e11]
      clear hG9 e0 e1 e2 e3 e4 e5 e6 e7 e8 e9 e10 e11
      replace q := q.trans (hb9.mono q.size)
      replace c0 := (hb9.cell (p := ⟨_, _, none⟩) (cell_lt c0)).trans c0
      replace c1 := (hb9.cell (p := ⟨_, _, none⟩) (cell_lt c1)).trans c1
      replace c2 := (hb9.cell (p := ⟨_, _, none⟩) (cell_lt c2)).trans c2
      replace c3 := (hb9.cell (p := ⟨_, _, none⟩) (cell_lt c3)).trans c3
      replace c4 := (hb9.cell (p := ⟨_, _, none⟩) (cell_lt c4)).trans c4
      replace c5 := (hb9.cell (p := ⟨_, _, none⟩) (cell_lt c5)).trans c5
      replace c6 := (hb9.cell (p := ⟨_, _, none⟩) (cell_lt c6)).trans c6
      replace d0 := (hb9.cell (p := ⟨_, _, none⟩) (cell_lt d0)).trans d0
      replace d1 := (hb9.cell (p := ⟨_, _, none⟩) (cell_lt d1)).trans d1
      replace d2 := (hb9.cell (p := ⟨_, _, none⟩) (cell_lt d2)).trans d2
      replace d3 := (hb9.cell (p := ⟨_, _, none⟩) (cell_lt d3)).trans d3
      replace d4 := (hb9.cell (p := ⟨_, _, none⟩) (cell_lt d4)).trans d4
      replace d5 := (hb9.cell (p := ⟨_, _, none⟩) (cell_lt d5)).trans d5
      replace d6 := (hb9.cell (p := ⟨_, _, none⟩) (cell_lt d6)).trans d6
      clear hb9 hx hy
      go_simp
      have d7 : ((k : Nat) : Int) < (m.length : Int) := by omega
      go_upto_region 7 with (fail)
      by_cases h_sp : x.span = y.span
      case neg =>
        rw [decide_eq_false h_sp]
        have H := Lib.hid (show decide (l = m) = false from decide_eq_false fun h => by have := congrArg (fun z : List Lk => z[k]?) h; simp only [List.getElem?_eq_getElem hlt, List.getElem?_eq_getElem hltm, Option.some.injEq] at this; rw [← ex.out, ← ey.out] at this; exact h_sp (by rw [this]))
        clear h_sp
        go_quiet (fail)
        go_wp2_with fail
        go_ret
        exact ⟨by first | (rw [H.out]; done) | (rw [H.out]; rfl), Below.drewN q _⟩
      rw [decide_eq_true h_sp]
      replace h_sp := Lib.hid h_sp
      by_cases h_ow : x.owner = y.owner
      case neg =>
        have daow : (x.owner == y.owner) = false := beq_eq_false_iff_ne.2 h_ow
        have ddow : (x.owner != y.owner) = true := bne_iff_ne.2 h_ow
        have dbow : decide (x.owner = y.owner) = false := decide_eq_false h_ow
        have dcow : (x.owner = y.owner) = False := eq_false h_ow
        have H := Lib.hid (show decide (l = m) = false from decide_eq_false fun h => by have := congrArg (fun z : List Lk => z[k]?) h; simp only [List.getElem?_eq_getElem hlt, List.getElem?_eq_getElem hltm, Option.some.injEq] at this; rw [← ex.out, ← ey.out] at this; exact h_ow (by rw [this]))
        clear h_ow
        go_quiet (fail)
        go_wp2_with fail
        go_ret
        exact ⟨by first | (rw [H.out]; done) | (rw [H.out]; rfl), Below.drewN q _⟩
      have daow : (x.owner == y.owner) = true := beq_iff_eq.2 h_ow
      have ddow : (x.owner != y.owner) = false := by rw [bne_eq_false_iff_eq]; exact h_ow
      have dbow : decide (x.owner = y.owner) = true := decide_eq_true h_ow
      have dcow : (x.owner = y.owner) = True := eq_true h_ow
      replace h_ow := Lib.hid h_ow
      by_cases h_wh : x.whole = y.whole
      case neg =>
        have dawh : (x.whole == y.whole) = false := beq_eq_false_iff_ne.2 h_wh
        have ddwh : (x.whole != y.whole) = true := bne_iff_ne.2 h_wh
        have dbwh : decide (x.whole = y.whole) = false := decide_eq_false h_wh
        have dcwh : (x.whole = y.whole) = False := eq_false h_wh
        have H := Lib.hid (show decide (l = m) = false from decide_eq_false fun h => by have := congrArg (fun z : List Lk => z[k]?) h; simp only [List.getElem?_eq_getElem hlt, List.getElem?_eq_getElem hltm, Option.some.injEq] at this; rw [← ex.out, ← ey.out] at this; exact h_wh (by rw [this]))
        clear h_wh
        go_quiet (fail)
        go_wp2_with fail
        go_ret
        exact ⟨by first | (rw [H.out]; done) | (rw [H.out]; rfl), Below.drewN q _⟩
      have dawh : (x.whole == y.whole) = true := beq_iff_eq.2 h_wh
      have ddwh : (x.whole != y.whole) = false := by rw [bne_eq_false_iff_eq]; exact h_wh
      have dbwh : decide (x.whole = y.whole) = true := decide_eq_true h_wh
      have dcwh : (x.whole = y.whole) = True := eq_true h_wh
      replace h_wh := Lib.hid h_wh
      by_cases h_mo : x.mode = y.mode
      case neg =>
        have damo : (x.mode == y.mode) = false := beq_eq_false_iff_ne.2 h_mo
        have ddmo : (x.mode != y.mode) = true := bne_iff_ne.2 h_mo
        have dbmo : decide (x.mode = y.mode) = false := decide_eq_false h_mo
        have dcmo : (x.mode = y.mode) = False := eq_false h_mo
        have H := Lib.hid (show decide (l = m) = false from decide_eq_false fun h => by have := congrArg (fun z : List Lk => z[k]?) h; simp only [List.getElem?_eq_getElem hlt, List.getElem?_eq_getElem hltm, Option.some.injEq] at this; rw [← ex.out, ← ey.out] at this; exact h_mo (by rw [this]))
        clear h_mo
        go_quiet (fail)
        go_wp2_with fail
        go_ret
        exact ⟨by first | (rw [H.out]; done) | (rw [H.out]; rfl), Below.drewN q _⟩
      have damo : (x.mode == y.mode) = true := beq_iff_eq.2 h_mo
      have ddmo : (x.mode != y.mode) = false := by rw [bne_eq_false_iff_eq]; exact h_mo
      have dbmo : decide (x.mode = y.mode) = true := decide_eq_true h_mo
      have dcmo : (x.mode = y.mode) = True := eq_true h_mo
      have hxy := Lib.hid (show x = y from lk_ext h_ow.out h_wh.out h_sp.out h_mo)
      clear h_mo h_wh h_ow h_sp
      have H := Lib.hid (show l.take (k + 1) = m.take (k + 1) by rw [List.take_succ_eq_append_getElem hlt, List.take_succ_eq_append_getElem hltm, hall.out, ← ex.out, ← ey.out, hxy.out])
      clear hall hxy
      go_quiet (fail)
      go_wp2_with fail
      go_roundw
      case rel => exact ⟨k + 1, by go_num, by omega, H.out, Below.drewN q _⟩
      case measure => simp [intOf]; omega
    · obtain rfl : k = l.length := by omega
      have H := Lib.hid (show decide (l = m) = true from decide_eq_true (by
        have h := hall.out
        rw [List.take_length, hlen.out, List.take_length] at h
        exact h))
      clear hall
      go_wp2_with fail
      go_ret
      exact ⟨by first | (rw [H.out]; done) | (rw [H.out]; rfl), q⟩
set_option maxRecDepth 100000 in
set_option maxHeartbeats 4000000 in
theorem rSame_any (w : World) {S S2 : Nat → Prop} {u v : Value} {H Q H' Q' : List Lk} (h : RdLs S w u H Q) (h' : RdLs S2 w v H' Q') :
    Calls Tryd.prog 20 #[u, v] w fun e w' => e = .returned (.bool (decide (H = H' ∧ Q = Q'))) ∧ Below w.heap.size w w' := by
  obtain ⟨a1, a2, a3, a4, rfl, h1, h2⟩ := h
  obtain ⟨b1, b2, b3, b4, rfl, h3, h4⟩ := h'
  obtain ⟨W, hW, q, Bx, By, hsz⟩ := spBoxes2 w 24 24 [.slice a1 H.length a2, .slice a3 Q.length a4] [.slice b1 H'.length b2, .slice b3 Q'.length b4]
  clear hsz
  have hC1 := rsame_any W (h1.below q) (h3.below q)
  go_enter Tryd.func20, Tryd.ntmps20
  go_upto_region 1 with (fail)
  rw [show (w.alloc (.cells #[.slice a1 H.length a2, .slice a3 Q.length a4] 24)).alloc (.cells #[.slice b1 H'.length b2, .slice b3 Q'.length b4] 24) = W from hW.symm]
  clear hW
  have c0 := Bx.cell (i := 0) rfl
  have d0 := By.cell (i := 0) rfl
  go_wp2_with fail
  refine hC1.mono ?_
  rintro e w1 ⟨rfl, hb⟩
  replace q := q.trans (hb.mono q.size)
  replace Bx := Bx.below hb Bx.lt
  replace By := By.below hb By.lt
  clear c0 d0 hC1 hb
  by_cases hH : H = H'
  · rw [decide_eq_true hH]
    have Hk := Lib.hid (show decide (H = H' ∧ Q = Q') = decide (Q = Q') by simp [hH])
    clear hH
    have c1 := Bx.cell (i := 1) rfl
    have d1 := By.cell (i := 1) rfl
    have hC2 := rsame_any w1 (h2.below q) (h4.below q)
    go_wp2_with fail
    refine hC2.mono ?_
    rintro e w2 ⟨rfl, hb⟩
    replace q := q.trans (hb.mono q.size)
    clear c1 d1 hC2 hb
    go_wp2_with fail
    go_ret
    exact ⟨by first | (rw [Hk.out]; done) | (rw [Hk.out]; rfl), q⟩
  · rw [decide_eq_false hH]
    have Hk := Lib.hid (show decide (H = H' ∧ Q = Q') = false from decide_eq_false fun h => hH h.1)
    clear hH
    go_wp2_with fail
    go_ret
    exact ⟨by first | (rw [Hk.out]; done) | (rw [Hk.out]; rfl), q⟩
end Go.Proofs.YtccoklhmbikfmaaDoor
namespace Go.Proofs.YtccoklhmbikfmaaDoor
open Go.RowKit
section
variable {P : Program} {Q : Exit → Act → World → Prop}
def wpOpS (P : Program) (ops : Array Oper) (Q : Exit → Act → World → Prop) (i : Nat) (K : Act → World → Prop) (a : Act) (w : World) : Prop :=
  match ops[i]? with
  | none => K a w
  | some o => if Region.wanted o (yielded ops a.tmps) then o.wp P a w K Q else K (a.put o.dst undef) w
def wpAnyS (P : Program) (ops : Array Oper) (Q : Exit → Act → World → Prop) : Nat → Array Bool → Act → World → Prop
  | 0, listed, a, w => Region.ready .any ops listed = [] ∧ Q .normal a w
  | fuel + 1, listed, a, w =>
    (Region.ready .any ops listed = [] → Q .normal a w) ∧
    ∀ i ∈ Region.ready .any ops listed, wpOpS P ops Q i (wpAnyS P ops Q fuel (listed.setIfInBounds i true)) a w
theorem anyS_any {ops : Array Oper} : ∀ (fuel : Nat) (listed : Array Bool) (a : Act) (w : World), wpAnyS P ops Q fuel listed a w → wpAny P .any ops Q fuel listed a w
  | 0, _, _, _, h => h
  | fuel + 1, listed, a, w, ⟨h1, h2⟩ => ⟨h1, fun i hi => by
    have h := h2 i hi
    unfold wpOpS at h
    unfold wpOp
    split
    · rename_i ho
      rw [ho] at h
      exact anyS_any fuel _ _ _ h
    · rename_i o ho
      rw [ho] at h
      dsimp only at h
      split
      · rename_i hw
        rw [if_pos hw] at h
        exact .inl (Oper.wp_mono (fun a w => anyS_any fuel _ a w) h)
      · rename_i hw
        rw [if_neg hw] at h
        exact anyS_any fuel _ _ _ h⟩
theorem wp_region_S {id : Nat} {ops : Array Oper} {a : Act} {w : World} (hm : P.follows .mixedOrders = true) (h : wpAnyS P ops Q ops.size (Array.replicate ops.size false) a { w with drawn := w.drawn + 1 }) : (Code.region id ops true).wp P Q a w :=
  wp_region_any hm (anyS_any _ _ _ _ h)
end
end Go.Proofs.YtccoklhmbikfmaaDoor
