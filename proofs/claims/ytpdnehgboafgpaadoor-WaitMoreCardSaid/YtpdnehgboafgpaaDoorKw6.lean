/-
  TEXTS OF ONE PROOF, merged: Fld, SlCl, LkD, LkE, LkF, OctB, DltD, LkB, LkG, LkH.
-/
import Derived.Laws.Cells
import Derived.Test.YtpdnehgboafgpaaDoorKw5
namespace Go.Proofs.YtpdnehgboafgpaaDoor
open Go.RowKit
def FdP (P : Program) (t : TypeId) (i off : Nat) : Prop := ∃ fs f m, P.underlying t = some (.struct fs) ∧ fs[i]? = some f ∧ f.offset = off ∧ (P.info? f.type).map (·.size) = some (m + 1)
def SgP (P : Program) (t : TypeId) (n : Nat) : Prop := (∃ fs, P.underlying t = some (.struct fs)) ∧ (P.info? t).map (·.size) = some n
section
variable {P : Program} {t : TypeId} {n : Nat} {ops : Array Oper} {rest : List Oper} {o : Oper} {a : Act} {K : Act → World → Prop} {Q : Exit → Act → World → Prop} {w : World}
theorem wp_fieldO {i o2 : Nat} (hP : FdP P t i o2) {x : Operand} {b off : Nat} (ho : o.op = .fieldAddr t x i) (hx : a.eval x = .pointer (some ⟨b, off, none⟩)) (h : K (a.put o.dst (.pointer (some ⟨b, off + o2, none⟩))) w) : o.wp P a w K Q := by
  obtain ⟨fs, f, m, hu, hf, ho2, hs⟩ := hP
  subst ho2
  refine wp_run' ?_ h
  simp only [execOp, ho, hx]
  simp [Instr.fieldAt, run_underlying hu, fieldPlace, hf, run_sizeOf' hs, go_sem, Addr.add]
theorem wp_loadU {us : List Value} (hP : SgP P t us.length) {x : Operand} {b off : Nat} (ho : o.op = .load t x) (hx : a.eval x = .pointer (some ⟨b, off, none⟩)) (hc : ∀ j u, us[j]? = some u → w.cell? ⟨b, off + j, none⟩ = some u) (h : K (a.put o.dst (.agg us.toArray)) w) : o.wp P a w K Q := by
  obtain ⟨⟨fs, hu⟩, hs⟩ := hP
  have hr := run_loadCells_list (P := P) (w := w) ⟨b, off, none⟩ us (fun j v hj => by rw [Addr.add_lit]; exact hc j v hj)
  have hr' : (loadCellsFrom ⟨b, off, none⟩ 0 us.length #[]).run P w = .ok us.toArray w := hr
  clear hr
  refine wp_run' ?_ h
  simp only [execOp, ho, hx]
  simp [Instr.loadAt, loadVar, isAgg, run_underlying hu, run_sizeOf' hs, hr', go_sem]
theorem RowQ.putU {Te : TypeId} {sz n g f : Nat} {V : Value} {vs us : List Value} (h : RowQ Te sz w V n vs) (hg : V.ownBlock = some g) (h1 : us.all (·.oneCell') = true) (hf : f + us.length ≤ vs.length) :
    ∃ w', (storeCells ⟨g, f, none⟩ us).run P w = .ok () w' ∧ w.grownBy w' (some g) ∧ RowQ Te sz w' V n (vs.take f ++ (us ++ vs.drop (f + us.length))) := by
  have hl := h.len
  rcases h.cases with ⟨rfl, _, _⟩ | ⟨g', cap, cur, rfl, hb, h2, h3, h4, h5⟩
  · simp [Value.ownBlock] at hg
  · simp [Value.ownBlock] at hg
    subst hg
    have h1' : ∀ v ∈ us, v.oneCell' = true := fun v hv => List.all_eq_true.1 h1 v hv
    have hfz : f + us.length ≤ cur.size := by
      have := congrArg List.length h5
      rw [List.length_take, Array.length_toList] at this
      omega
    have hst := run_storeCells_at (P := P) g' f Te us 0 cur w hb (by omega) h1'
    rw [Nat.add_zero] at hst
    refine ⟨_, hst, ⟨rfl, rfl, rfl, by simp [World.setRow], fun k _ hk => ?_⟩, ?_⟩
    · have hkb : k ≠ g' := fun e => hk (by rw [e])
      simp [World.setRow, Array.getElem?_modify, Ne.symm hkb]
    · refine RowQ.of (cur := (cur.toList.take f ++ us ++ cur.toList.drop (f + us.length)).toArray) ?_ h2 h3 ?_ ?_ ?_
      · simp [World.setRow, Array.getElem?_modify, hb]
      · simp; omega
      · obtain ⟨N, eN⟩ : ∃ N, N = n * sz := ⟨_, rfl⟩
        rw [← eN] at hl h5 ⊢
        have hN : N ≤ cur.toList.length := by
          rw [← h5, List.length_take] at hl
          omega
        have hfN : f + us.length ≤ N := by omega
        have hl1 : (cur.toList.take f).length = f := by rw [List.length_take]; omega
        show (cur.toList.take f ++ us ++ cur.toList.drop (f + us.length)).take N = _
        rw [List.append_assoc, List.take_append, hl1, List.take_append, List.take_of_length_le (l := us) (by omega), List.take_of_length_le (l := cur.toList.take f) (by omega), ← h5, List.take_take, List.drop_take, show min f N = f by omega, show N - f - us.length = N - (f + us.length) by omega]
      · intro u hu
        rcases List.mem_append.1 hu with hu | hu
        · exact h.2 u (List.mem_of_mem_take hu)
        · rcases List.mem_append.1 hu with hu | hu
          · exact h1' u hu
          · exact h.2 u (List.mem_of_mem_drop hu)
theorem wp_putU {Te : TypeId} {sz n g f : Nat} {V : Value} {vs us : List Value} {x y : Operand} (hs : (P.info? t).map (·.size) = some us.length) (ho : o.op = .store t x y) (hx : a.eval x = .pointer (some ⟨g, f, none⟩)) (hy : a.eval y = .agg us.toArray) (h1 : us.all (·.oneCell') = true) (hr : RowQ Te sz w V n vs) (hg : V.ownBlock = some g) (hf : f + us.length ≤ vs.length)
    (h : ∀ w', w.grownBy w' (some g) → RowQ Te sz w' V n (vs.take f ++ (us ++ vs.drop (f + us.length))) → K (a.put o.dst undef) w') : o.wp P a w K Q := by
  obtain ⟨w', hst, h2, h3⟩ := hr.putU (P := P) hg h1 hf
  refine wp_skip ?_ (h w' h2 h3)
  simp only [execOp, ho, hx, hy]
  simp [Instr.storeAt, storeVar, run_sizeOf' hs, Value.cells, hst, go_sem]
theorem wpList_putU {Te : TypeId} {sz n g f : Nat} {V : Value} {vs us : List Value} {x y : Operand} (hs : (P.info? t).map (·.size) = some us.length) (ho : o.op = .store t x y) (hd : o.dst = none) (hgd : Region.wanted o (yielded ops a.tmps) = true) (hx : a.eval x = .pointer (some ⟨g, f, none⟩)) (hy : a.eval y = .agg us.toArray) (h1 : us.all (·.oneCell') = true) (hr : RowQ Te sz w V n vs) (hg : V.ownBlock = some g) (hf : f + us.length ≤ vs.length)
    (h : ∀ w', w.grownBy w' (some g) → RowQ Te sz w' V n (vs.take f ++ (us ++ vs.drop (f + us.length))) → wpList P ops Q rest a w') : wpList P ops Q (o :: rest) a w :=
  BigFrame.wpList_want hgd fun _ hK => wp_putU hs ho hx hy h1 hr hg hf fun w' h2 h3 => hK _ _ (by rw [hd]; exact h w' h2 h3)
end
section
variable {P : Program} {t : TypeId} {ops : Array Oper} {rest : List Oper} {o : Oper} {a : Act} {K : Act → World → Prop} {Q : Exit → Act → World → Prop} {w : World}
theorem wp_boxNew1 {u : Value} (hz : (P.info? t).bind (·.zero) = some u) (hu : u.cells = #[u]) (ho : o.op = .alloc t) (h : ∀ w', Below w.heap.size w w' → BoxN w' w.heap.size t [u] → K (a.put o.dst (.pointer (some ⟨w.heap.size, 0, none⟩))) w') : o.wp P a w K Q := by
  have hzz : (zeroValue t).run P w = .ok u w := by
    cases hi : P.info? t with
    | none => simp [hi] at hz
    | some i => simp [hi] at hz; simp [zeroValue, typeInfo, hi, hz]
  have hrun : (execOp a.eval o).run P w = .ok (.value (.pointer (some ⟨w.heap.size, 0, none⟩))) (w.alloc (.cells #[u] t)) := by
    unfold Value.cells at hu
    simp [execOp, ho, newVar, hzz, Value.cells, hu, go_sem]
  unfold Oper.wp
  rw [hrun]
  exact h _ ((Below.refl _ _).alloc (Nat.le_refl _) _) (BoxN.new w t [u])
theorem wpList_boxNew1 {u : Value} (hz : (P.info? t).bind (·.zero) = some u) (hu : u.cells = #[u]) (ho : o.op = .alloc t) (hgd : Region.wanted o (yielded ops a.tmps) = true) (h : ∀ w', Below w.heap.size w w' → BoxN w' w.heap.size t [u] → wpList P ops Q rest (a.put o.dst (.pointer (some ⟨w.heap.size, 0, none⟩))) w') : wpList P ops Q (o :: rest) a w :=
  BigFrame.wpList_want hgd fun _ hK => wp_boxNew1 hz hu ho fun w' h1 h2 => hK _ _ (h w' h1 h2)
end
def OwnF {α : Type} (E : Elt α) (T : TypeId) (S : Nat → Prop) (w : World) (v : Value) (xs : List α) : Prop := ∃ vs, RowQ T E.size w v xs.length vs ∧ Flat E S w xs vs
section
variable {α : Type} {E : Elt α} {T : TypeId} {S S' : Nat → Prop} {w w' : World} {v : Value} {xs : List α}
theorem OwnF.nil (E : Elt α) (T : TypeId) (S : Nat → Prop) (w : World) : OwnF E T S w (.slice none 0 0) [] := ⟨[], RowQ.nil _ _ _, rfl⟩
theorem OwnF.shape (h : OwnF E T S w v xs) : ∃ a c, v = .slice a xs.length c ∧ xs.length ≤ c ∧ c ≤ maxLen := let ⟨_, h, _⟩ := h; h.shape
theorem OwnF.len {a : Option Addr} {k c : Nat} (h : OwnF E T S w (.slice a k c) xs) : k = xs.length := by
  obtain ⟨_, _, e, _⟩ := h.shape
  cases e; rfl
theorem OwnF.weak (h : OwnF E T S w v xs) (hs : ∀ k, S k → S' k) : OwnF E T S' w v xs := let ⟨vs, h1, h2⟩ := h; ⟨vs, h1, h2.weak hs⟩
theorem OwnF.kept (h : OwnF E T S w v xs) (hv : ∀ k, v.ownBlock = some k → w'.heap[k]? = w.heap[k]?) (hS : ∀ k, S k → w'.heap[k]? = w.heap[k]?) : OwnF E T S w' v xs := let ⟨vs, h1, h2⟩ := h; ⟨vs, h1.kept hv, h2.keep hS⟩
theorem OwnF.lt (h : OwnF E T S w v xs) {k : Nat} (hk : v.ownBlock = some k) : k < w.heap.size := let ⟨_, h1, _⟩ := h; h1.lt hk
theorem OwnF.below (h : OwnF E T S w v xs) (hb : Below w.heap.size w w') (hS : ∀ k, S k → k < w.heap.size) : OwnF E T S w' v xs := h.kept (fun k hk => hb.block k (h.lt hk)) fun k hk => hb.block k (hS k hk)
theorem OwnF.trd {F : Nat → Prop} (h : OwnF E T S w v xs) (hb : Trd F w w') (hv : ∀ k, v.ownBlock = some k → ¬ F k) (hS : ∀ k, S k → k < w.heap.size ∧ ¬ F k) : OwnF E T S w' v xs := h.kept (fun k hk => hb.block k (h.lt hk) (hv k hk)) fun k hk => hb.block k (hS k hk).1 (hS k hk).2
theorem OwnF.rdL (h : OwnF E T S w v xs) : RdL E (fun k => S k ∨ v.ownBlock = some k) w v xs := by
  obtain ⟨vs, h1, h2⟩ := h
  rcases h1.cases with ⟨rfl, h0, _⟩ | ⟨g, cap, cur, rfl, hg, hn, hc, _⟩
  · obtain rfl : xs = [] := List.eq_nil_of_length_eq_zero h0
    exact RdL.nil _ _ _
  · refine ⟨_, cap, rfl, hn, hc, .inr ⟨g, 0, rfl, .inr rfl, fun r hr => ?_⟩⟩
    obtain ⟨us, h3, h4⟩ := h2.at r hr
    refine ⟨us, E.weak h3 fun k hk => .inl hk, fun j u hj => ?_⟩
    have := h1.cell (g := g) rfl (h4 j u hj)
    rwa [Nat.zero_add]
theorem OwnL.ownF {base lo : Nat} (h : OwnL E T base lo w v xs) : OwnF E T (fun k => lo ≤ k ∧ k < w.heap.size ∧ some k ≠ v.ownBlock) w v xs := by
  obtain ⟨vs, h1, h2⟩ := h
  exact ⟨vs, ⟨⟨h1.1, h1.2.imp id fun ⟨g, cap, cur, a, b, c⟩ => ⟨g, cap, cur, a, Nat.zero_le _, c⟩⟩, h2.one⟩, h2⟩
theorem OwnF.app {ad : Option Addr} {c : Nat} {V : Value} {vs us : List Value} {x : α} (hF : Flat E S w xs vs) (hx : E.R S w x us) (hv : ∀ k, S k → k < w.heap.size ∧ some k ≠ V.ownBlock) (hr : RowTo T E.size w V (xs.length + 1) (vs ++ us) (.slice ad (xs.length + 1) c) w') : OwnF E T S w' (.slice ad (xs ++ [x]).length c) (xs ++ [x]) := by
  obtain ⟨h1, h2, _⟩ := hr
  have hk : ∀ k, S k → w'.heap[k]? = w.heap[k]? := fun k hk => h2.block k (hv k hk).1 (hv k hk).2
  refine ⟨vs ++ us, ?_, (hF.keep hk).append (Flat.single (E.keep hx hk))⟩
  rw [List.length_append, List.length_singleton]
  exact h1
theorem OwnF.set {V : Value} {vs us : List Value} {x : α} {i : Nat} (hi : i < xs.length) (hF : Flat E S w xs vs) (hx : E.R S w x us) (hk : ∀ k, S k → w'.heap[k]? = w.heap[k]?) (hr : RowQ T E.size w' V xs.length (vs.take (i * E.size) ++ (us ++ vs.drop (i * E.size + us.length)))) : OwnF E T S w' V (xs.set i x) := by
  refine ⟨_, by rw [List.length_set]; exact hr, ?_⟩
  have hl := E.len hx
  rw [List.set_eq_take_append_cons_drop, if_pos hi]
  refine ((hF.take i).keep hk).append ⟨us, _, rfl, E.keep hx hk, ?_⟩
  have hd : ∀ {xs : List α} {vs : List Value}, Flat E S w xs vs → ∀ k, Flat E S w (xs.drop k) (vs.drop (k * E.size)) := by
    intro xs
    induction xs with
    | nil => intro vs h k; cases h; simp [Flat]
    | cons y l ih =>
      intro vs h k
      cases k with
      | zero => simpa using h
      | succ k =>
        obtain ⟨us1, bs, rfl, h1, h2⟩ := h
        have hla := E.len h1
        rw [show (k + 1) * E.size = us1.length + k * E.size by rw [hla, Nat.add_mul]; omega, List.drop_length_add_append]
        exact ih h2 k
  have := hd hF (i + 1)
  rw [show (i + 1) * E.size = i * E.size + us.length by rw [hl, Nat.add_mul]; omega] at this
  exact this.keep hk
variable {P : Program} {Te : TypeId} {ops : Array Oper} {rest : List Oper} {o : Oper} {a : Act} {Q : Exit → Act → World → Prop}
theorem wpList_appF (hP : LoP P T Te E.size) {x y : Operand} {e : α} {us : List Value} {n g : Nat} (ho : o.op = .call { callee := .builtin .append, args := #[x, y], argTypes := #[T, T] }) (hgd : Region.wanted o (yielded ops a.tmps) = true) (hx : a.eval x = v) (hy : a.eval y = .slice (some ⟨g, 0, none⟩) 1 1)
    (hO : OwnF E Te S w v xs) (hrow : w.heap[g]? = some (.cells us.toArray Te (0, 0))) (hR : E.R S w e us) (hS : ∀ k, S k → k < w.heap.size ∧ some k ≠ v.ownBlock) (hlen : xs.length + 1 ≤ 1073741824) (hn : n = xs.length + 1)
    (h : ∀ ad cap w', OwnF E Te S w' (.slice ad n cap) (xs ++ [e]) → w.grownBy w' v.ownBlock → (Value.ownBlock (.slice ad n cap) = v.ownBlock ∨ ∃ k, Value.ownBlock (.slice ad n cap) = some k ∧ w.heap.size ≤ k) → wpList P ops Q rest (a.put o.dst (.slice ad n cap)) w') : wpList P ops Q (o :: rest) a w := by
  subst hn
  obtain ⟨vs, hr, hf⟩ := hO
  refine wpList_appQ hP E.pos ho hgd hx hr hy (by rw [E.len hR]; omega) (fun j u hj => by rw [Addr.add_lit, World.cell?, hrow]; simpa using hj) (E.one hR) hlen fun ad cap w' h2 => h ad cap w' ?_ h2.2.1 h2.2.2
  have := OwnF.app (x := e) hf hR hS h2
  rw [List.length_append, List.length_singleton] at this
  exact this
end
end Go.Proofs.YtpdnehgboafgpaaDoor
namespace Go.Proofs.YtpdnehgboafgpaaDoor
open Go.RowKit
def SrcC (sz : Nat) (w : World) (ad : Option Addr) (m : Nat) (cs : List Value) : Prop :=
  cs.length = m * sz ∧ (ad = none → m = 0) ∧ (∀ p, ad = some p → ∀ j u, cs[j]? = some u → w.cell? (p.add j) = some u) ∧ ∀ u ∈ cs, u.oneCell' = true
section
variable {Te : TypeId} {sz n m : Nat} {w w' : World} {ad : Option Addr} {cs vs : List Value} {v : Value}
theorem SrcC.below (h : SrcC sz w ad m cs) (hb : Below w.heap.size w w') : SrcC sz w' ad m cs :=
  ⟨h.1, h.2.1, fun p hp j u hj => by
    have h1 := h.2.2.1 p hp j u hj
    have h2 : (p.add j).block < w.heap.size := World.block_lt_of_cell? w _ h1
    exact (World.cell?_of_block (w := w) (hb.block _ h2)).trans h1, h.2.2.2⟩
end
def RowNew (Te : TypeId) (sz : Nat) (w : World) (v : Value) (n : Nat) (vs : List Value) (W : World) : Prop := RowQ Te sz W v n vs ∧ (∀ k, v.ownBlock = some k → w.heap.size ≤ k) ∧ Below w.heap.size w W
def RetNew (Te : TypeId) (sz : Nat) (w : World) (n : Nat) (vs : List Value) (e : Ending) (W : World) : Prop := ∃ v, e = .returned v ∧ RowNew Te sz w v n vs W
section
variable {Te : TypeId} {sz n n' : Nat} {w W W' : World} {v v' : Value} {vs vs' : List Value}
theorem RowNew.nil (Te : TypeId) (sz : Nat) {w W : World} (hb : Below w.heap.size w W) : RowNew Te sz w (.slice none 0 0) 0 [] W := ⟨RowQ.nil _ _ _, (fun k h => by cases h), hb⟩
theorem RowNew.to (h : RowNew Te sz w v n vs W) (h2 : RowTo Te sz W v n' vs' v' W') : RowNew Te sz w v' n' vs' W' :=
  ⟨h2.1, fun k hk => by
    rcases h2.2.2 with h3 | ⟨q, h3, h4⟩
    · exact h.2.1 k (h3 ▸ hk)
    · rw [h3] at hk; injection hk with hk; subst hk; exact Nat.le_trans h.2.2.size h4, h.2.2.grown h2.2.1 h.2.2.size h.2.1⟩
end
section
variable {P : Program} {T Te : TypeId} {n : Nat} {ops : Array Oper} {rest : List Oper} {o : Oper} {a : Act} {Q : Exit → Act → World → Prop} {w : World} {K : Act → World → Prop}
theorem wpList_buildNil (hP : LsP P T Te n) (ho : o.op = .buildSlice T 0 #[]) (hgd : Region.wanted o (yielded ops a.tmps) = true)
    (h : ∀ w', RowQ Te n w' (.slice (some ⟨w.heap.size, 0, none⟩) 0 0) 0 [] → Below w.heap.size w w' → wpList P ops Q rest (a.put o.dst (.slice (some ⟨w.heap.size, 0, none⟩) 0 0)) w') : wpList P ops Q (o :: rest) a w := by
  refine BigFrame.wpList_want hgd fun K hK => ?_
  obtain ⟨i, hi, hsz⟩ := hP.info
  have hrun : (Instr.buildSlice T 0 #[]).run P w = .ok (.slice (some ⟨w.heap.size, 0, none⟩) 0 0) (w.alloc (.cells #[] Te)) := by
    simp [Instr.buildSlice, run_underlying hP.hT, sizeOf, typeInfo, hi, Instr.fill, newRow, show Array.range 0 = #[] from rfl]
  unfold Oper.wp execOp
  simp only [ho, Sem.run_bind, Sem.run_pure, Result.andThen_ok, hrun, List.map_toArray, List.map_nil]
  refine hK _ _ (h _ (RowQ.of (cur := #[]) (by simp only [World.alloc, Array.getElem?_push_size]) (Nat.le_refl _) (by unfold maxLen; omega) (by simp) (by simp) (fun _ h => by cases h)) ((Below.refl _ _).alloc (Nat.le_refl _) _))
theorem run_appS (hP : LoP P T Te n) (h0 : 0 < n) (w : World) (ty : TypeId) {v : Value} {k : Nat} {vs : List Value} (hv : RowQ Te n w v k vs) {ad : Option Addr} {m c : Nat} {cs : List Value} (hs : SrcC n w ad m cs) (hlen : k + m ≤ 1073741824) :
    ∃ v' w', (Builtin.append_ #[T, T] ty #[v, .slice ad m c]).run P w = .ok v' w' ∧ RowTo Te n w v (k + m) (vs ++ cs) v' w' := by
  cases ad with
  | some p => exact run_appQ hP h0 w ty hv hs.1 (hs.2.2.1 p rfl) hs.2.2.2 hlen
  | none =>
    obtain rfl := hs.2.1 rfl
    obtain rfl : cs = [] := List.eq_nil_of_length_eq_zero (by rw [hs.1, Nat.zero_mul])
    obtain ⟨i, z, hi, _⟩ := hP.all
    obtain ⟨a, c', rfl, h1, _⟩ := hv.shape
    refine ⟨_, w, run_append_nothing w T T ty Te i hP.hT hi a k c' h1 _ (Src.ofNil w hP.hT c), ?_⟩
    rw [List.append_nil, Nat.add_zero]
    exact ⟨hv, ⟨rfl, rfl, rfl, Nat.le_refl _, fun _ _ _ => rfl⟩, .inl rfl⟩
theorem wp_appS (hP : LoP P T Te n) (h0 : 0 < n) {s x : Operand} (ho : o.op = .call { callee := .builtin .append, args := #[s, x], argTypes := #[T, T] }) {v : Value} {k : Nat} {vs : List Value} (hs : a.eval s = v) (hv : RowQ Te n w v k vs) {ad : Option Addr} {m c : Nat} {cs : List Value} (hx : a.eval x = .slice ad m c)
    (hsr : SrcC n w ad m cs) (hlen : k + m ≤ 1073741824)
    (h : ∀ ad cap w', RowTo Te n w v (k + m) (vs ++ cs) (.slice ad (k + m) cap) w' → K (a.put o.dst (.slice ad (k + m) cap)) w') : o.wp P a w K Q := by
  obtain ⟨v', w', hrun, h2⟩ := run_appS hP h0 w o.type hv hsr hlen (c := c)
  obtain ⟨ad, cap, rfl, _⟩ := h2.1.shape
  unfold Oper.wp execOp
  simp only [ho, resolve, invoke, builtin, Sem.run_bind, Sem.run_pure, Result.andThen_ok, List.map_toArray, List.map_cons, List.map_nil, hs, hx, hrun]
  exact h _ _ _ h2
theorem wpList_appS (hP : LoP P T Te n) (h0 : 0 < n) {s x : Operand} (ho : o.op = .call { callee := .builtin .append, args := #[s, x], argTypes := #[T, T] }) (hgd : Region.wanted o (yielded ops a.tmps) = true) {v : Value} {k : Nat} {vs : List Value} (hs : a.eval s = v) (hv : RowQ Te n w v k vs) {ad : Option Addr} {m c : Nat} {cs : List Value} (hx : a.eval x = .slice ad m c)
    (hsr : SrcC n w ad m cs) (hlen : k + m ≤ 1073741824)
    (h : ∀ ad cap w', RowTo Te n w v (k + m) (vs ++ cs) (.slice ad (k + m) cap) w' → wpList P ops Q rest (a.put o.dst (.slice ad (k + m) cap)) w') : wpList P ops Q (o :: rest) a w :=
  BigFrame.wpList_want hgd fun _ hK => wp_appS hP h0 ho hs hv hx hsr hlen fun ad cap w' h2 => hK _ _ (h ad cap w' h2)
theorem wpList_sliceNil (hP : LsP P T Te n) {x : Operand} {hi : Option Operand} (ho : o.op = .slice T x none hi none) (hgd : Region.wanted o (yielded ops a.tmps) = true) (hx : a.eval x = .slice none 0 0)
    (hb : (Instr.sliceBounds true 0 0 none (hi.map a.eval) none).run P w = .ok (0, 0, 0) w)
    (h : wpList P ops Q rest (a.put o.dst (.slice none 0 0)) w) : wpList P ops Q (o :: rest) a w :=
  wpList_sliceRaw hP ho hgd hx hb (by simpa using h)
end
structure Pc where
  ad : Option Addr
  m : Nat
  c : Nat
  cs : List Value
def Pc.v (p : Pc) : Value := .slice p.ad p.m p.c
def sumC (ps : List Pc) : Nat := (ps.map (·.m)).sum
def allC (ps : List Pc) : List Value := (ps.map (·.cs)).flatten
theorem sumC_take {ps : List Pc} {k : Nat} (h : k < ps.length) : sumC (ps.take (k + 1)) = sumC (ps.take k) + ps[k].m := by
  unfold sumC
  rw [List.take_add_one, List.getElem?_eq_getElem h, Option.toList_some, List.map_append, List.sum_append]
  simp only [List.map_cons, List.map_nil, List.sum_cons, List.sum_nil, Nat.add_zero]
theorem allC_take {ps : List Pc} {k : Nat} (h : k < ps.length) : allC (ps.take (k + 1)) = allC (ps.take k) ++ ps[k].cs := by
  unfold allC
  rw [List.take_add_one, List.getElem?_eq_getElem h, Option.toList_some, List.map_append, List.flatten_append]
  simp only [List.map_cons, List.map_nil, List.flatten_cons, List.flatten_nil, List.append_nil]
theorem sumC_le {ps : List Pc} : ∀ (k : Nat), sumC (ps.take k) ≤ sumC ps := fun k => by
  have : sumC ps = sumC (ps.take k) + sumC (ps.drop k) := by
    unfold sumC
    rw [← List.sum_append, ← List.map_append, List.take_append_drop]
  omega
set_option maxRecDepth 100000 in
set_option maxHeartbeats 2000000 in
theorem grow_l (w : World) {n : Nat} (hn : n ≤ 1000000) :
    Calls Tryd.prog 83 #[.slice none 0 0, .int .i64 n] w (RetNew 29 7 w 0 []) := by
  have d : decide ((n : Int) < 0) = false := decide_eq_false (by omega)
  rcases Nat.eq_zero_or_pos n with h0 | h0
  · subst h0
    go_enter Tryd.func83, Tryd.ntmps83
    go_wp2
    go_ret
    exact ⟨_, rfl, RowNew.nil _ _ (Below.refl _ _)⟩
  · have d2 : decide (0 < (n : Int)) = true := decide_eq_true (by omega)
    go_enter Tryd.func83, Tryd.ntmps83
    go_wp2_with (go_big_may; first
      | (refine wpList_sliceNil lkP.toLsP rfl rfl rfl (run_bounds_h _ (Nat.le_refl _)) ?_)
      | (refine wpList_appZ lkP (by omega) (by kernel_rfl) rfl rfl rfl (k := 0) (m := n) rfl (by omega) (cs := []) (by simp) (fun q hq => by cases hq) (fun _ => rfl) (by omega) (by omega) (by omega) ?_; intro G cr hG1 hG2 hG3 hG4)
      | (refine wpList_sliceTo lkP.toLsP rfl rfl rfl (r := 0) (run_bounds_h _ (by omega)) ?_)
      | fail)
    go_ret
    have hg1 : ((w.alloc (.cells cr 29)).drew).heap[w.heap.size]? = some (.cells cr 29 (0, 0)) := by simp only [World.alloc, World.drew, Array.getElem?_push_size]
    exact ⟨_, rfl, RowQ.of hg1 (Nat.zero_le _) hG2 hG3 (by simp) (fun _ h => by cases h), fun k hk => by simp [Value.ownBlock] at hk; omega, ((Below.refl _ _).alloc (Nat.le_refl _) _).drew⟩
set_option maxRecDepth 100000 in
set_option maxHeartbeats 2000000 in
theorem concat_l (w : World) {B m : Nat} {ps : List Pc} (hB : ∀ k (h : k < ps.length), w.cell? ⟨B, k, none⟩ = some ps[k].v) (hm : ps.length = m) (hm3 : m ≤ 1000) (hs : ∀ p ∈ ps, SrcC 7 w p.ad p.m p.cs) (hsum : sumC ps ≤ 1000000) :
    Calls Tryd.prog 64 #[.slice (some ⟨B, 0, none⟩) m m] w (RetNew 29 7 w (sumC ps) (allC ps)) := by
  have hBlt : ∀ k, k < ps.length → B < w.heap.size := fun k h => cell_lt (hB k h)
  go_enter Tryd.func64, Tryd.ntmps64
  go_upto_region 3 with (fail)
  go_loopw [3, 11] (fun sv iv wr => ∃ k : Nat, k ≤ m ∧ iv = .int .i64 k ∧ sv = .int .i64 (sumC (ps.take k) : Nat) ∧ Below w.heap.size w wr) (fun _ i _ => m - (intOf i).toNat)
  case atStart => exact ⟨0, Nat.zero_le _, rfl, rfl, Below.refl _ _⟩
  case round =>
    obtain ⟨k, hk, rfl, rfl, q⟩ := hrel
    rcases Nat.lt_or_ge k m with hlt | hge
    · have hkl : k < ps.length := by omega
      have hc := (cell_keep (q.block B (hBlt k hkl)) k).trans (hB k hkl)
      unfold Pc.v at hc
      have e1 := sumC_take hkl
      have e2 := sumC_le (ps := ps) (k + 1)
      obtain ⟨A, hA⟩ : ∃ A, A = ps[k].m := ⟨_, rfl⟩
      rw [← hA] at e1 hc
      obtain ⟨Z, hZ⟩ : ∃ Z, Z = sumC (ps.take k) := ⟨_, rfl⟩
      rw [← hZ] at e1 ⊢
      have d : decide ((Z : Int) + (A : Int) < 0) = false := decide_eq_false (by omega)
      have hZA : Z + A ≤ 1000000 := by omega
      have H1 := Lib.hid e1
      clear hA hZ e1 e2
      go_wp2_with fail
      go_roundw
      case rel => exact ⟨k + 1, by omega, by go_num, by rw [H1.out]; go_num, q⟩
      case measure => simp [intOf]; omega
    · obtain rfl : k = m := by omega
      have e0 : ps.take k = ps := List.take_of_length_le (by omega)
      rw [e0]
      clear hge hk
      go_upto_region 9 with (fail)
      go_wp2_with fail
      refine (grow_l wr hsum).mono ?_
      rintro e w1 ⟨v0, rfl, hr0⟩
      have hr1 : RowNew 29 7 w v0 (sumC (ps.take 0)) (allC (ps.take 0)) w1 := ⟨hr0.1, fun k hk => Nat.le_trans q.size (hr0.2.1 k hk), q.trans (hr0.2.2.mono q.size)⟩
      clear hr0 q e0
      go_upto_region 11 with (fail)
      go_loopw [6, 27] (fun vv iv wr => ∃ j : Nat, j ≤ k ∧ iv = .int .i64 j ∧ RowNew 29 7 w vv (sumC (ps.take j)) (allC (ps.take j)) wr) (fun _ i _ => k - (intOf i).toNat)
      case atStart => exact ⟨0, Nat.zero_le _, rfl, hr1⟩
      case round =>
        clear hr1
        obtain ⟨j, hj, rfl, hr⟩ := hrel
        rename_i wr2 _ _
        rcases Nat.lt_or_ge j k with hlt | hge
        · have hkl : j < ps.length := by omega
          obtain ⟨_, c2, rfl, hn2, _⟩ := hr.1.shape
          have hc := (cell_keep (hr.2.2.block B (hBlt j hkl)) j).trans (hB j hkl)
          unfold Pc.v at hc
          have e1 := sumC_take hkl
          have e2 := allC_take hkl
          have e3 := sumC_le (ps := ps) (j + 1)
          have hsr := (hs ps[j] (List.getElem_mem hkl)).below hr.2.2
          obtain ⟨Y, hY⟩ : ∃ Y, Y = allC (ps.take j) := ⟨_, rfl⟩
          obtain ⟨Z, hZ⟩ : ∃ Z, Z = sumC (ps.take j) := ⟨_, rfl⟩
          rw [← hZ] at hr hn2 e1 ⊢
          rw [← hY] at hr e2
          have hZA : Z + ps[j].m ≤ 1000000 := by omega
          generalize ps[j] = p at hc e1 e2 hsr hZA
          have H1 := Lib.hid e1
          have H2 := Lib.hid e2
          clear e1 e2 e3 hZ hY
          go_wp2_with (go_big_may; first
            | (refine wpList_appS lkP (by omega) rfl rfl (v := .slice _ Z c2) rfl hr.1 rfl hsr (by omega) ?_; intro ad' cap' w2 hR)
            | fail)
          go_roundw
          case rel => exact ⟨j + 1, by omega, by go_num, by rw [H1.out, H2.out]; exact hr.to hR⟩
          case measure => simp [intOf]; omega
        · obtain rfl : j = k := by omega
          rw [List.take_of_length_le (by omega)] at hr
          obtain ⟨_, c2, rfl, hn2, _⟩ := hr.1.shape
          go_wp2_with fail
          go_ret
          exact ⟨_, rfl, hr⟩
end Go.Proofs.YtpdnehgboafgpaaDoor
namespace Go.Proofs.YtpdnehgboafgpaaDoor
open Go.RowKit Go.Shelf
def FndK (p : Lk → Bool) (l : List Lk) (v : Int) : Prop := (v = -1 ∧ ∀ y ∈ l, p y = false) ∨ ∃ (j : Nat) (h : j < l.length), v = (j : Int) ∧ p l[j] = true ∧ ∀ y ∈ l.take j, p y = false
def TellsK (F : FuncId) (bs caps : Array Value) (S : Nat → Prop) (w : World) (p : Lk → Bool) : Prop :=
  ∀ (W : World) (v : Value) (x : Lk), Below w.heap.size w W → RdLk S W v x → Calls Tryd.prog F (bs ++ #[v] ++ caps) W fun e W' => e = .returned (.bool (p x)) ∧ Below W.heap.size W W'
set_option maxRecDepth 100000 in
set_option maxHeartbeats 4000000 in
theorem lIndex_any (w : World) {S : Nat → Prop} {a : Option Addr} {n c : Nat} {l : List Lk} (hl : RdL Elt.lk S w (.slice a n c) l) (F : FuncId) (bs caps : Array Value) (hE : Enters Tryd.prog F) (p : Lk → Bool) (hF : TellsK F bs caps S w p) :
    Calls Tryd.prog 60 #[.slice a n c, .func (.func F) bs caps] w fun e w' => ∃ i : Int, e = .returned (.int .i64 i) ∧ FndK p l i ∧ Below w.heap.size w w' := by
  obtain ⟨rfl, hnc, hcm⟩ := hl.len
  have hlm : l.length ≤ 9223372036854775807 := by unfold maxLen at hcm; omega
  have hEE := hE
  unfold Enters at hEE
  have q := Below.refl w.heap.size w
  go_enter Tryd.func60, Tryd.ntmps60
  go_upto_region 2 with (fail)
  go_loopw [5, 8] (fun _ iv wr => ∃ (k : Nat), iv = .int .i64 k ∧ k ≤ l.length ∧ (∀ x ∈ l.take k, p x = false) ∧ Below w.heap.size w wr)
    (fun _ i _ => l.length - (intOf i).toNat)
  case atStart => exact ⟨0, rfl, Nat.zero_le _, by simp, q⟩
  case round =>
    clear q
    obtain ⟨k, rfl, hkl, hall, q⟩ := hrel
    replace hall := Lib.hid hall
    rcases Nat.lt_or_ge k l.length with hlt | hge
    · obtain ⟨b, off, A, C, A2, C2, rfl, hb, c0, c1, c2, c3, c4, c5, c6, hk1, hk2, hw64⟩ := (hl.below q).lk k hlt
      have hw : RdLk S wr (.agg #[.int .i64 l[k].owner, .bool l[k].whole, .int .i64 l[k].span.table, .slice A l[k].span.lo.length C, .slice A2 l[k].span.hi.length C2, .bool l[k].span.isOpen, .int .i64 l[k].mode]) l[k] := ⟨A, C, A2, C2, rfl, hk1, hk2, hw64⟩
      go_upto_region 4 with (fail)
      go_wp2_with fail
      refine (hF wr _ _ q hw).mono ?_
      rintro e w1 ⟨rfl, hb1⟩
      replace q := q.trans (hb1.mono q.size)
      clear c0 c1 c2 c3 c4 c5 c6 hk1 hk2 hw
      cases hm : p l[k] with
      | false =>
        have hall2 := Lib.hid (show ∀ x ∈ l.take (k + 1), p x = false from fun x hx => by
          rw [List.take_succ_eq_append_getElem hlt] at hx
          rcases List.mem_append.1 hx with h | h
          · exact hall.out x h
          · simp at h; rw [h]; exact hm)
        clear hall hm
        go_wp2_with fail
        go_roundw
        case rel => exact ⟨k + 1, by go_num, by omega, hall2.out, q⟩
        case measure => simp [intOf]; omega
      | true =>
        replace hm := Lib.hid hm
        go_wp2_with fail
        go_ret
        exact ⟨_, rfl, .inr ⟨k, hlt, rfl, hm.out, hall.out⟩, q⟩
    · obtain rfl : k = l.length := by omega
      have hno := Lib.hid (show ∀ x ∈ l, p x = false from fun x hx => hall.out x (by rw [List.take_length]; exact hx))
      clear hall
      go_wp2_with fail
      go_ret
      exact ⟨_, rfl, .inl ⟨rfl, hno.out⟩, q⟩
theorem fnd_any {p : Lk → Bool} {l : List Lk} {i : Int} (h : FndK p l i) : decide (0 ≤ i) = l.any p := by
  rcases h with ⟨h1, h2⟩ | ⟨j, h1, h2, h3, _⟩
  · rw [decide_eq_false (by omega), List.any_eq_false.2 fun x hx => by simp [h2 x hx]]
  · rw [decide_eq_true (by omega), List.any_eq_true.2 ⟨_, List.getElem_mem h1, h3⟩]
set_option maxRecDepth 100000 in
set_option maxHeartbeats 4000000 in
theorem lContains_any (w : World) {S : Nat → Prop} {a : Option Addr} {n c : Nat} {l : List Lk} (hl : RdL Elt.lk S w (.slice a n c) l) (F : FuncId) (bs caps : Array Value) (hE : Enters Tryd.prog F) (p : Lk → Bool) (hF : TellsK F bs caps S w p) :
    Calls Tryd.prog 37 #[.slice a n c, .func (.func F) bs caps] w fun e w' => e = .returned (.bool (l.any p)) ∧ Below w.heap.size w w' := by
  go_enter Tryd.func37, Tryd.ntmps37
  go_wp2_with fail
  refine (lIndex_any w hl F bs caps hE p hF).mono ?_
  rintro e w1 ⟨i, rfl, hi, hb⟩
  have hd := Lib.hid (fnd_any hi)
  clear hi
  go_wp2_with fail
  go_ret
  exact ⟨by first | (rw [hd.out]; done) | (rw [← hd.out]; rfl), hb⟩
end Go.Proofs.YtpdnehgboafgpaaDoor
namespace Go.Proofs.YtpdnehgboafgpaaDoor
open Go.RowKit Go.Shelf
theorem lks1 : ∀ i z, Tryd.prog.info? 29 = some i → i.zero = some z → ∀ u ∈ z.cells.toList, u.oneCell' = true := ones_of (z0 := .agg #[.int .i64 0, .bool false, .int .i64 0, .slice none 0 0, .slice none 0 0, .bool false, .int .i64 0]) (by kernel_rfl) (fun u hu => by
  simp [Value.cells] at hu
  rcases hu with rfl | rfl | rfl | rfl | rfl | rfl <;> rfl)
theorem Flat.dropK {α : Type} {E : Elt α} {S : Nat → Prop} {w : World} : ∀ {xs : List α} {vs : List Value} (_ : Flat E S w xs vs) (k : Nat), Flat E S w (xs.drop k) (vs.drop (k * E.size))
  | [], _, h, k => by cases h; simp [Flat]
  | x :: xs, _, h, 0 => by simpa using h
  | x :: xs, _, ⟨us, ws, rfl, h1, h2⟩, k + 1 => by
    have hl := E.len h1
    rw [show (k + 1) * E.size = us.length + k * E.size by rw [hl, Nat.add_mul]; omega, List.drop_length_add_append]
    exact Flat.dropK h2 k
theorem putU_take {α : Type} {vs us : List α} {f : Nat} (hf : f ≤ vs.length) : (vs.take f ++ (us ++ vs.drop (f + us.length))).take (f + us.length) = vs.take f ++ us := by
  have h : (vs.take f).length = f := by rw [List.length_take]; omega
  conv => lhs; rw [show f + us.length = (vs.take f).length + us.length by omega]
  rw [List.take_length_add_append, List.take_append_of_le_length (by omega), List.take_length]
theorem putU_drop {α : Type} {vs us : List α} {f m : Nat} (hm : f + us.length ≤ m) (hf : f ≤ vs.length) : (vs.take f ++ (us ++ vs.drop (f + us.length))).drop m = vs.drop m := by
  have h : (vs.take f).length = f := by rw [List.length_take]; omega
  conv => lhs; rw [show m = (vs.take f).length + (us.length + (m - (f + us.length))) by omega]
  rw [List.drop_length_add_append, List.drop_length_add_append, List.drop_drop]
  congr 1; omega
def TellsA (F : FuncId) (bs caps : Array Value) (p : Lk → Bool) : Prop :=
  ∀ (W : World) (S : Nat → Prop) (v : Value) (x : Lk), RdLk S W v x → Calls Tryd.prog F (bs ++ #[v] ++ caps) W fun e W' => e = .returned (.bool (p x)) ∧ Below W.heap.size W W'
theorem TellsA.k {F : FuncId} {bs caps : Array Value} {p : Lk → Bool} (h : TellsA F bs caps p) (S : Nat → Prop) (w : World) : TellsK F bs caps S w p := fun W v x _ hx => h W S v x hx
def notK (p : Lk → Bool) (l : List Lk) : List Lk := l.filter fun s => !p s
def DelK (w1 : World) (g cap : Nat) (S : Nat → Prop) (p : Lk → Bool) (l : List Lk) (iv jv : Value) (wr : World) : Prop :=
  ∃ (i j : Nat) (vs : List Value), iv = .int .i64 (i : Int) ∧ jv = .int .i64 (j : Int) ∧ i < j ∧ j ≤ l.length ∧ RowQ 29 7 wr (.slice (some ⟨g, 0, none⟩) l.length cap) l.length vs ∧
    Flat Elt.lk S wr (notK p (l.take j)) (vs.take (i * 7)) ∧ Flat Elt.lk S wr (l.drop j) (vs.drop (j * 7)) ∧ w1.grownBy wr (some g)
theorem notK_snoc {p : Lk → Bool} {l : List Lk} {j : Nat} (h : j < l.length) : notK p (l.take (j + 1)) = notK p (l.take j) ++ (if p l[j] = true then [] else [l[j]]) := by
  unfold notK
  rw [List.take_succ_eq_append_getElem h, List.filter_append]
  congr 1
  by_cases e : p l[j] = true <;> simp [e]
set_option maxRecDepth 100000 in
set_option maxHeartbeats 8000000 in
theorem lDelete_any (w : World) {S : Nat → Prop} {a : Option Addr} {n c : Nat} {l : List Lk} (hO : OwnF Elt.lk 29 S w (.slice a n c) l) (hS : ∀ k, S k → k < w.heap.size ∧ (Value.slice a n c).ownBlock ≠ some k) (hn : l.length ≤ 1000000) (F : FuncId) (bs caps : Array Value) (hE : Enters Tryd.prog F) (p : Lk → Bool) (hF : TellsA F bs caps p) :
    Calls Tryd.prog 55 #[.slice a n c, .func (.func F) bs caps] w fun e w' => ∃ k, e = .returned (.slice a k c) ∧ OwnF Elt.lk 29 S w' (.slice a k c) (notK p l) ∧ w.grownBy w' (Value.slice a n c).ownBlock := by
  obtain rfl : n = l.length := hO.len
  have hlm : l.length ≤ 9223372036854775807 := by omega
  have hEE := hE
  unfold Enters at hEE
  go_enter Tryd.func55, Tryd.ntmps55
  go_wp2_with fail
  refine (lIndex_any w hO.rdL F bs caps hE p (hF.k _ _)).mono ?_
  rintro e w1 ⟨i0, rfl, hi, hb⟩
  rcases hi with ⟨rfl, hno⟩ | ⟨j0, hj0, rfl, hy, hno⟩
  · have hfl := Lib.hid (show notK p l = l from List.filter_eq_self.2 fun x hx => by have := hno x hx; simpa using this)
    clear hno
    go_wp2_with fail
    go_ret
    exact ⟨_, rfl, by rw [hfl.out]; exact hO.below hb fun k hk => (hS k hk).1, grownB hb _⟩
  replace hO := hO.below hb fun k hk => (hS k hk).1
  obtain ⟨ns, hR, hflat⟩ := hO
  rcases hR.cases with ⟨_, h2, _⟩ | ⟨g, cap, cur, h1, h2, _⟩
  · omega
  injection h1 with h1 _ h1c
  subst h1 h1c
  have hgl : g < w1.heap.size := (Array.getElem?_eq_some_iff.1 h2).1
  have hSg : ∀ k, S k → k ≠ g := fun k hk e => (hS k hk).2 (by rw [e]; rfl)
  have r0 : DelK w1 g c S p l (.int .i64 ((j0 : Nat) : Int)) (.int .i64 ((j0 : Int) + 1)) w1 := by
    refine ⟨j0, j0 + 1, ns, rfl, by go_num, by omega, by omega, hR, ?_, hflat.dropK (j0 + 1), grownB (Below.refl _ _) _⟩
    rw [notK_snoc hj0, if_pos hy, List.append_nil, show notK p (l.take j0) = l.take j0 from List.filter_eq_self.2 fun x hx => by have := hno x hx; simpa using this]
    exact hflat.take j0
  have dj : decide ((j0 : Int) = -1) = false := decide_eq_false (by omega)
  have dj2 : ((j0 : Int) == -1) = false := beq_eq_false_iff_ne.2 (by omega)
  have hgb : w.grownBy w1 (some g) := grownB hb _
  have hS1 : ∀ k, S k → k < w1.heap.size := fun k hk => Nat.lt_of_lt_of_le (hS k hk).1 hb.size
  clear hy hno h2 hR hflat hb hS
  go_upto_region 5 with (fail)
  go_loopw [5, 6] (fun iv jv wr => DelK w1 g c S p l iv jv wr) (fun _ jv _ => l.length - (intOf jv).toNat)
  case atStart => exact r0
  case round =>
    clear r0 dj dj2
    obtain ⟨i, j, vs, rfl, rfl, hij, hjl, hR, hF1, hG, q⟩ := hrel
    rcases Nat.lt_or_ge j l.length with hlt | hge
    · rw [List.drop_eq_getElem_cons hlt] at hG
      obtain ⟨us, rest, eus, ⟨kv, hv, rfl, hk1, hk2, hw64⟩, hG⟩ := hG
      obtain ⟨A1, C1, rfl, _, _⟩ := hk1.shape
      obtain ⟨A2, C2, rfl, _, _⟩ := hk2.shape
      obtain ⟨x, ex⟩ : ∃ x, x = l[j] := ⟨_, rfl⟩
      have hns := Lib.hid (show notK p (l.take (j + 1)) = notK p (l.take j) ++ (if p x = true then [] else [x]) by rw [ex]; exact notK_snoc hlt)
      rw [← ex] at hk1 hk2 hw64 eus
      clear ex
      have hcq : ∀ q u, (lkC x (.slice A1 x.span.lo.length C1) (.slice A2 x.span.hi.length C2))[q]? = some u → wr.cell? ⟨g, j * 7 + q, none⟩ = some u := fun q u hq => hR.cell rfl (by
        rw [← List.getElem?_drop, eus, List.getElem?_append_left (List.getElem?_eq_some_iff.1 hq).1]; exact hq)
      have c0 : wr.cell? ⟨g, j * 7, none⟩ = some (.int .i64 x.owner) := hcq 0 _ rfl
      have c1 := hcq 1 _ rfl
      have c2 := hcq 2 _ rfl
      have c3 := hcq 3 _ rfl
      have c4 := hcq 4 _ rfl
      have c5 := hcq 5 _ rfl
      have c6 := hcq 6 _ rfl
      have hG2 := Lib.hid (show rest = vs.drop ((j + 1) * 7) by
        rw [show (j + 1) * 7 = j * 7 + 7 by omega, ← List.drop_drop, eus]; rfl)
      have zr := hR.lt rfl
      clear hcq eus
      go_upto_region 8 with (first | (refine wpList_boxNew (vs := [.int .i64 0, .bool false, .int .i64 0, .slice none 0 0, .slice none 0 0, .bool false, .int .i64 0]) (by kernel_rfl) rfl rfl ?_; intro wa hba hBa) | (refine wpList_boxStore (us := [.int .i64 x.owner, .bool x.whole, .int .i64 x.span.table, .slice A1 x.span.lo.length C1, .slice A2 x.span.hi.length C2, .bool x.span.isOpen, .int .i64 x.mode]) (by kernel_rfl) rfl rfl rfl rfl rfl rfl hBa rfl ?_; intro W hgw hXW) | fail)
      go_simp
      have hbw : Below wr.heap.size wr W := hba.grown hgw hba.size fun k hk => by injection hk with hk; omega
      have zq := q.size
      have hkp : ∀ k, S k → W.heap[k]? = wr.heap[k]? := fun k hk => hbw.block k (by have := hS1 k hk; omega)
      have hx : RdLk S W (.agg #[.int .i64 x.owner, .bool x.whole, .int .i64 x.span.table, .slice A1 x.span.lo.length C1, .slice A2 x.span.hi.length C2, .bool x.span.isOpen, .int .i64 x.mode]) x := ⟨_, _, _, _, rfl, hk1.keep hkp, hk2.keep hkp, hw64⟩
      replace hR := hR.below hbw
      replace hF1 := hF1.keep hkp
      replace hG := hG.keep hkp
      replace q := grownT q (grownB hbw (some g))
      clear c0 c1 c2 c3 c4 c5 c6 hk1 hk2 hba hBa hgw hbw hkp zq zr
      have f0 := hXW.cell (i := 0) rfl
      have f1 := hXW.cell (i := 1) rfl
      have f2 := hXW.cell (i := 2) rfl
      have f3 := hXW.cell (i := 3) rfl
      have f4 := hXW.cell (i := 4) rfl
      have f5 := hXW.cell (i := 5) rfl
      have f6 := hXW.cell (i := 6) rfl
      go_wp2_with fail
      refine (hF W S _ _ hx).mono ?_
      rintro e w3 ⟨rfl, hb3⟩
      have zq := q.size
      have hkp : ∀ k, S k → w3.heap[k]? = W.heap[k]? := fun k hk => hb3.block k (by have := hS1 k hk; omega)
      have hx3 : RdLk S w3 (.agg #[.int .i64 x.owner, .bool x.whole, .int .i64 x.span.table, .slice A1 x.span.lo.length C1, .slice A2 x.span.hi.length C2, .bool x.span.isOpen, .int .i64 x.mode]) x := hx.keep hkp
      replace hR := hR.below hb3
      replace hF1 := hF1.keep hkp
      replace hG := hG.keep hkp
      replace hXW := hXW.below hb3 hXW.lt
      replace q := grownT q (grownB hb3 (some g))
      have hvl := hR.len
      clear f0 f1 f2 f3 f4 f5 f6 hx hb3 hkp
      cases hxt : p x with
      | true =>
        have hns2 := Lib.hid (show notK p (l.take (j + 1)) = notK p (l.take j) by rw [hns.out, if_pos hxt, List.append_nil])
        clear hxt hns hx3 hXW
        go_wp2_with fail
        go_roundw
        case rel => exact ⟨i, j + 1, vs, rfl, by go_num, by omega, by omega, hR, by rw [hns2.out]; exact hF1, by rw [← hG2.out]; exact hG, q⟩
        case measure => simp [intOf]; omega
      | false =>
        have hns2 := Lib.hid (show notK p (l.take (j + 1)) = notK p (l.take j) ++ [x] by rw [hns.out, if_neg (by rw [hxt]; decide)])
        clear hxt hns
        have f0 := hXW.cell (i := 0) rfl
        have f1 := hXW.cell (i := 1) rfl
        have f2 := hXW.cell (i := 2) rfl
        have f3 := hXW.cell (i := 3) rfl
        have f4 := hXW.cell (i := 4) rfl
        have f5 := hXW.cell (i := 5) rfl
        have f6 := hXW.cell (i := 6) rfl
        have hil : ((i : Nat) : Int) < (l.length : Int) := by omega
        go_wp2_with (first | (refine wpList_putU (us := [.int .i64 x.owner, .bool x.whole, .int .i64 x.span.table, .slice A1 x.span.lo.length C1, .slice A2 x.span.hi.length C2, .bool x.span.isOpen, .int .i64 x.mode]) (f := i * 7) (by kernel_rfl) rfl rfl rfl rfl rfl rfl hR rfl (by simp only [List.length_cons, List.length_nil]; omega) ?_; intro w4 hg4 hR4) | fail)
        have hkp : ∀ k, S k → w4.heap[k]? = w3.heap[k]? := fun k hk => hg4.block k (by have := q.size; have := hS1 k hk; omega) fun e => by injection e with e; exact hSg k hk e
        have hxR : Elt.lk.R S w4 x [.int .i64 x.owner, .bool x.whole, .int .i64 x.span.table, .slice A1 x.span.lo.length C1, .slice A2 x.span.hi.length C2, .bool x.span.isOpen, .int .i64 x.mode] := (hx3.keep hkp).R
        replace q := grownT q hg4
        replace hF1 := (hF1.keep hkp).append (Flat.single hxR)
        replace hG := hG.keep hkp
        clear f0 f1 f2 f3 f4 f5 f6 hXW hx3 hR hg4 hkp hxR
        go_roundw
        case rel => exact ⟨i + 1, j + 1, _, by go_num, by go_num, by omega, by omega, hR4, by
          have h9 := putU_take (vs := vs) (us := [Value.int .i64 x.owner, .bool x.whole, .int .i64 x.span.table, .slice A1 x.span.lo.length C1, .slice A2 x.span.hi.length C2, .bool x.span.isOpen, .int .i64 x.mode]) (f := i * 7) (by omega)
          rw [hns2.out, show (i + 1) * 7 = i * 7 + 7 by omega]
          exact h9 ▸ hF1, by rw [putU_drop (by simp only [List.length_cons, List.length_nil]; omega) (by omega), ← hG2.out]; exact hG, q⟩
        case measure => simp [intOf]; omega
    · obtain rfl : j = l.length := by omega
      rw [List.take_length] at hF1
      have hvl := hR.len
      have hil : (notK p l).length = i := by
        have h := hF1.len
        rw [List.length_take, hvl] at h
        have h2 : Elt.lk.size = 7 := rfl
        rw [h2] at h
        omega
      rcases hR.cases with ⟨h1, _, _⟩ | ⟨g', cap', cur', h1, hg3, h3', h4', h5', h6'⟩
      · cases h1
      injection h1 with h1 _ h1c
      injection h1 with h1
      injection h1 with h1 _ _
      subst h1 h1c
      have hcne : c ≠ i := by omega
      have d0 : decide ((l.length : Int) < (l.length : Int)) = false := decide_eq_false (by omega)
      clear hG
      go_wp2_with (go_big_may; first
        | (refine wpList_sliceFrom lkP.toLsP rfl rfl rfl (l := i) (r := l.length) (run_bounds_l' _ (by omega) (by omega)) hcne ?_)
        | (refine wpList_clearQ lkP lks1 rfl rfl rfl rfl hg3 (.inr rfl) (.inr (by rw [h5', Nat.zero_add, ← Nat.add_mul]; exact Nat.mul_le_mul_right _ (by omega))) ?_; intro W4 C4 hg4 hs4 ht4 _ hgr4)
        | (refine wpList_sliceTo lkP.toLsP rfl rfl rfl (run_bounds_h _ (by omega)) ?_)
        | fail)
      go_ret
      have zq := q.size
      have z4 := hgr4.size
      have hF4 := hF1.keep (w' := W4) fun k hk => hgr4.block k (by have := hS1 k hk; omega) fun e => by injection e with e; exact hSg k hk e
      refine ⟨i, rfl, ⟨vs.take (i * 7), ?_, hF4⟩, grownT (grownT hgb q) hgr4⟩
      rw [hil]
      refine RowQ.of hg4 (by omega) h4' (by rw [hs4, h5']; rfl) ?_ fun u hu => hR.2 u (List.mem_of_mem_take hu)
      show C4.toList.take (i * 7) = _
      have h7 := ht4 (by omega)
      have h8 : C4.toList.take (i * 7) = cur'.toList.take (i * 7) := by
        first
          | exact h7
          | simpa using h7
      rw [h8, ← h6', List.take_take]
      congr 1
      omega
end Go.Proofs.YtpdnehgboafgpaaDoor
namespace Go.Proofs.YtpdnehgboafgpaaDoor
open Go.RowKit Go.Shelf
theorem eClashes : Enters Tryd.prog 65 := enters_of Tryd.func65 (by kernel_rfl) rfl
theorem eSame : Enters Tryd.prog 40 := enters_of Tryd.func40 (by kernel_rfl) rfl
theorem eOwns : Enters Tryd.prog 43 := enters_of Tryd.func43 (by kernel_rfl) rfl
theorem eServed : Enters Tryd.prog 59 := enters_of Tryd.func59 (by kernel_rfl) rfl
theorem eWrong : Enters Tryd.prog 38 := enters_of Tryd.func38 (by kernel_rfl) rfl
section
variable {S S2 : Nat → Prop} {w : World} {u : Value} {x : Lk}
theorem tClashes (hT : TabAt w) (hx : RdLk S w u x) : TellsK 65 #[u] #[] S2 w (clashL x) := fun W _ _ hb hy => clashes_any W (hT.below hb) (hx.below hb) hy
theorem tSame (hx : RdLk S w u x) : TellsK 40 #[u] #[] S2 w (sameL x) := fun W _ _ hb hy => same_any W (hx.below hb) hy
theorem tServed (hx : RdLk S w u x) : TellsK 59 #[u] #[] S2 w (servesL x) := fun W _ _ hb hy => served_any W (hx.below hb) hy
theorem tOwns (hx : RdLk S w u x) : TellsK 43 #[u] #[] S2 w (ownsL x) := fun W _ _ hb hy => owns_any W (hx.below hb) hy
theorem tWrong : TellsK 38 #[] #[] S2 w (fun y => !fine y) := fun W _ _ _ hy => wrong_any W hy
end
set_option maxRecDepth 100000 in
set_option maxHeartbeats 4000000 in
theorem blocked_any (w : World) (hT : TabAt w) {S S2 S3 : Nat → Prop} {x : Lk} {x1 x3 aH aQ : Option Addr} {x2 x4 cH cQ : Nat} {H Q : List Lk} (hx : RdLk S w (.agg #[.int .i64 x.owner, .bool x.whole, .int .i64 x.span.table, .slice x1 x.span.lo.length x2, .slice x3 x.span.hi.length x4, .bool x.span.isOpen, .int .i64 x.mode]) x)
    (hH : RdL Elt.lk S2 w (.slice aH H.length cH) H) (hQ : RdL Elt.lk S3 w (.slice aQ Q.length cQ) Q) :
    Calls Tryd.prog 39 #[.agg #[.int .i64 x.owner, .bool x.whole, .int .i64 x.span.table, .slice x1 x.span.lo.length x2, .slice x3 x.span.hi.length x4, .bool x.span.isOpen, .int .i64 x.mode, .slice aH H.length cH, .slice aQ Q.length cQ]] w fun e w' => e = .returned (.bool (blk x H Q)) ∧ Below w.heap.size w w' := by
  obtain ⟨W, hW, q, Bx, hsz⟩ := spBox w 61 [.int .i64 x.owner, .bool x.whole, .int .i64 x.span.table, .slice x1 x.span.lo.length x2, .slice x3 x.span.hi.length x4, .bool x.span.isOpen, .int .i64 x.mode, .slice aH H.length cH, .slice aQ Q.length cQ]
  clear hsz
  have hC1 := lContains_any W (hH.below q) _ _ _ eClashes _ (tClashes (hT.below q) (hx.below q))
  go_enter Tryd.func39, Tryd.ntmps39
  go_upto_region 1 with (fail)
  rw [show w.alloc (.cells #[.int .i64 x.owner, .bool x.whole, .int .i64 x.span.table, .slice x1 x.span.lo.length x2, .slice x3 x.span.hi.length x4, .bool x.span.isOpen, .int .i64 x.mode, .slice aH H.length cH, .slice aQ Q.length cQ] 61) = W from hW.symm]
  clear hW
  have c0 := Bx.cell (i := 0) rfl
  have c1 := Bx.cell (i := 1) rfl
  have c2 := Bx.cell (i := 2) rfl
  have c3 := Bx.cell (i := 3) rfl
  have c4 := Bx.cell (i := 4) rfl
  have c5 := Bx.cell (i := 5) rfl
  have c6 := Bx.cell (i := 6) rfl
  have c7 := Bx.cell (i := 7) rfl
  have c8 := Bx.cell (i := 8) rfl
  go_wp2_with fail
  refine hC1.mono ?_
  rintro e w1 ⟨rfl, hb⟩
  replace q := q.trans (hb.mono q.size)
  replace Bx := Bx.below hb Bx.lt
  clear c0 c1 c2 c3 c4 c5 c6 c7 c8 hC1 hb
  cases h1 : H.any (clashL x) with
  | true =>
    have Hh := Lib.hid (show blk x H Q = true by unfold blk; rw [h1]; rfl)
    clear h1
    go_wp2_with fail
    go_ret
    exact ⟨by first | (rw [Hh.out]; done) | (rw [Hh.out]; rfl), q⟩
  | false =>
    have Hh := Lib.hid (show blk x H Q = Q.any (clashL x) by unfold blk; rw [h1]; rfl)
    clear h1
    have hC2 := lContains_any w1 (hQ.below q) _ _ _ eClashes _ (tClashes (hT.below q) (hx.below q))
    have c0 := Bx.cell (i := 0) rfl
    have c1 := Bx.cell (i := 1) rfl
    have c2 := Bx.cell (i := 2) rfl
    have c3 := Bx.cell (i := 3) rfl
    have c4 := Bx.cell (i := 4) rfl
    have c5 := Bx.cell (i := 5) rfl
    have c6 := Bx.cell (i := 6) rfl
    have c7 := Bx.cell (i := 7) rfl
    have c8 := Bx.cell (i := 8) rfl
    go_wp2_with fail
    refine hC2.mono ?_
    rintro e w2 ⟨rfl, hb⟩
    replace q := q.trans (hb.mono q.size)
    clear c0 c1 c2 c3 c4 c5 c6 c7 c8 hC2 hb
    go_wp2_with fail
    go_ret
    exact ⟨by first | (rw [Hh.out]; done) | (rw [Hh.out]; rfl), q⟩
end Go.Proofs.YtpdnehgboafgpaaDoor
namespace Go.Proofs.YtpdnehgboafgpaaDoor
open Go.RowKit
theorem clone_any (w : World) {B : Nat} {ad : Option Addr} {n c : Nat} {xs : List UInt8} (hr : Rd B w (.slice ad n c) xs) (hB : B ≤ w.heap.size) (hx : xs.length ≤ 1000000) :
    Calls Tryd.prog 75 #[.slice ad n c] w fun e w' => ∃ ad' k c', e = .returned (.slice ad' k c') ∧ Fresh 5 w w' (.slice ad' k c') xs := by
  have he := fun (w : World) (ad : Option Addr) (n c : Nat) => Lib.run_eql_slice_nil (P := Tryd.prog) w 25 5 ad n c 0 0 byP.hT
  obtain ⟨rfl, _, _⟩ := hr.len
  cases ad with
  | none =>
    have hr' := hr
    rcases hr with ⟨_, _, h, _, rfl⟩ | ⟨_, _, _, h, _⟩
    · go_enter Tryd.func75, Tryd.ntmps75
      go_wp2
      go_ret
      exact ⟨_, _, _, rfl, Fresh.nil _ _⟩
    · cases h
  | some p =>
    go_enter Tryd.func75, Tryd.ntmps75
    go_wp2_with (first
      | (refine wpList_build byP rfl rfl [] (by kernel_rfl) rfl (by simp) ?_; intro g k1 w1 hF)
      | (at_builtin; refine wpList_append byP rfl rfl rfl hF.2 rfl (hr.below (hF.1.mono hB)) hF.1.size ?_ ?hlen; intro ad' k' c' w2 hO hg hb))
    case hlen => simp; omega
    go_ret
    exact ⟨_, _, _, rfl, hF.1.trans hb, hO⟩
end Go.Proofs.YtpdnehgboafgpaaDoor
namespace Go.Proofs.YtpdnehgboafgpaaDoor
open Go.RowKit Go.Shelf
theorem boxes2 (w : World) (t t2 : TypeId) (us vs : List Value) : ∃ W, W = (w.alloc (.cells us.toArray t)).alloc (.cells vs.toArray t2) ∧ Below w.heap.size w W ∧ BoxN W w.heap.size t us ∧ BoxN W (w.heap.size + 1) t2 vs ∧ W.heap.size = w.heap.size + 1 + 1 := by
  have h1 : Below w.heap.size w (w.alloc (.cells us.toArray t)) := (Below.refl _ _).alloc (Nat.le_refl _) _
  have s1 : (w.alloc (.cells us.toArray t)).heap.size = w.heap.size + 1 := World.size_alloc _ _
  have b1 := BoxN.new w t us
  generalize w.alloc (.cells us.toArray t) = w1 at *
  have h2 : Below w1.heap.size w1 (w1.alloc (.cells vs.toArray t2)) := (Below.refl _ _).alloc (Nat.le_refl _) _
  have s2 : (w1.alloc (.cells vs.toArray t2)).heap.size = w1.heap.size + 1 := World.size_alloc _ _
  have b2 := BoxN.new w1 t2 vs
  rw [s1] at b2 s2
  exact ⟨_, rfl, h1.trans (h2.mono h1.size), b1.below h2 b1.lt, b2, s2⟩
def NewS (W V : World) (k : Value) (xs : List UInt8) : Prop := ∃ a c, k = .slice a xs.length c ∧ RdS (fun g => W.heap.size ≤ g ∧ g < V.heap.size) V (.slice a xs.length c) xs
theorem NewS.below {W V V' : World} {k : Value} {xs : List UInt8} (h : NewS W V k xs) (hb : Below V.heap.size V V') : NewS W V' k xs := by
  obtain ⟨a, c, e, hr⟩ := h
  exact ⟨a, c, e, (hr.below hb).weak fun g hg => ⟨hg.1, Nat.lt_of_lt_of_le hg.2 hb.size⟩⟩
theorem NewS.grown {W V V' : World} {k : Value} {xs : List UInt8} {b : Nat} (h : NewS W V k xs) (hg : V.grownBy V' (some b)) (hb : b < W.heap.size) : NewS W V' k xs := by
  obtain ⟨a, c, e, hr⟩ := h
  exact ⟨a, c, e, (hr.keep fun k hk => hg.block k hk.2 fun e => by injection e with e; have := hk.1; omega).weak fun g h => ⟨h.1, Nat.lt_of_lt_of_le h.2 hg.size⟩⟩
theorem NewS.of {W V V' : World} {E : TypeId} {a : Option Addr} {k c : Nat} {xs : List UInt8} (h : Below W.heap.size W V) (hf : Fresh E V V' (.slice a k c) xs) : NewS W V' (.slice a k c) xs := by
  obtain rfl : k = xs.length := hf.len
  exact ⟨a, c, rfl, hf.2.rdS.weak fun g hg => ⟨Nat.le_trans h.size hg.1, hg.2⟩⟩
end Go.Proofs.YtpdnehgboafgpaaDoor
namespace Go.Proofs.YtpdnehgboafgpaaDoor
open Go.RowKit Go.Shelf
theorem lkF2 : FdP Tryd.prog 29 2 2 := ⟨_, _, 3, Tryd.underlying29, rfl, rfl, by kernel_rfl⟩
theorem lkF3 : FdP Tryd.prog 29 3 6 := ⟨_, _, 0, Tryd.underlying29, rfl, rfl, by kernel_rfl⟩
theorem askF0 : FdP Tryd.prog 61 0 0 := ⟨_, _, 6, Tryd.underlying61, rfl, rfl, by kernel_rfl⟩
theorem askF1 : FdP Tryd.prog 61 1 7 := ⟨_, _, 1, Tryd.underlying61, rfl, rfl, by kernel_rfl⟩
theorem oneF0 : FdP Tryd.prog 59 0 0 := ⟨_, _, 6, Tryd.underlying59, rfl, rfl, by kernel_rfl⟩
theorem lkS : SgP Tryd.prog 29 7 := ⟨⟨_, Tryd.underlying29⟩, by kernel_rfl⟩
theorem lsS : StP Tryd.prog 24 2 := StP.of (by kernel_rfl)
def LlnJ (W : World) (b : Nat) (x : Lk) : List Value → World → Prop
  | [], V => Below W.heap.size W V
  | [k], V => Below W.heap.size W V ∧ NewS W V k x.span.lo
  | [k, v], V => Below W.heap.size W V ∧ NewS W V k x.span.lo ∧ NewS W V v x.span.hi
  | [k, v, _], V => W.grownBy V (some b) ∧ (∃ v0, BoxN V b 29 [.int .i64 x.owner, .bool x.whole, .int .i64 x.span.table, k, v0, .bool x.span.isOpen, .int .i64 x.mode]) ∧ NewS W V k x.span.lo ∧ NewS W V v x.span.hi
  | _, V => W.grownBy V (some b) ∧ ∃ k v, BoxN V b 29 [.int .i64 x.owner, .bool x.whole, .int .i64 x.span.table, k, v, .bool x.span.isOpen, .int .i64 x.mode] ∧ NewS W V k x.span.lo ∧ NewS W V v x.span.hi
theorem LlnJ.below {W : World} {b : Nat} {x : Lk} : ∀ (l : List Value) (V V' : World), LlnJ W b x l V → Below V.heap.size V V' → LlnJ W b x l V'
  | [], _, _, h, hb => Below.trans h (hb.mono (Below.size h))
  | [_], _, _, ⟨h, h1⟩, hb => ⟨h.trans (hb.mono h.size), h1.below hb⟩
  | [_, _], _, _, ⟨h, h1, h2⟩, hb => ⟨h.trans (hb.mono h.size), h1.below hb, h2.below hb⟩
  | [_, _, _], _, _, ⟨h, ⟨v0, h0⟩, h1, h2⟩, hb => ⟨grown_trans h (grown_below' hb _), ⟨v0, h0.below hb h0.lt⟩, h1.below hb, h2.below hb⟩
  | _ :: _ :: _ :: _ :: _, _, _, ⟨h, k, v, h0, h1, h2⟩, hb => ⟨grown_trans h (grown_below' hb _), k, v, h0.below hb h0.lt, h1.below hb, h2.below hb⟩
set_option maxRecDepth 100000 in
set_option maxHeartbeats 4000000 in
theorem lAlone_any (w : World) {S : Nat → Prop} {v : Value} {x : Lk} (h : RdLk S w v x) (h1 : x.span.lo.length ≤ 1000000) (h2 : x.span.hi.length ≤ 1000000) :
    Calls Tryd.prog 58 #[v] w (LkEnd w x) := by
  obtain ⟨a, c, a2, c2, rfl, hk, hv, ht⟩ := h
  obtain ⟨W, hW, q, bn, bz, hsz⟩ := boxes2 w 29 29 [.int .i64 x.owner, .bool x.whole, .int .i64 x.span.table, .slice a x.span.lo.length c, .slice a2 x.span.hi.length c2, .bool x.span.isOpen, .int .i64 x.mode] [.int .i64 0, .bool false, .int .i64 0, .slice none 0 0, .slice none 0 0, .bool false, .int .i64 0]
  have eK : ∀ args w, (callFunc 75 args).run Tryd.prog w = .ok (.enter 75 args) w := enters_of Tryd.func75 (by kernel_rfl) rfl
  go_enter Tryd.func58, Tryd.ntmps58
  go_upto_region 1 with (fail)
  rw [show (w.alloc (.cells #[.int .i64 x.owner, .bool x.whole, .int .i64 x.span.table, .slice a x.span.lo.length c, .slice a2 x.span.hi.length c2, .bool x.span.isOpen, .int .i64 x.mode] 29)).alloc (.cells #[.int .i64 0, .bool false, .int .i64 0, .slice none 0 0, .slice none 0 0, .bool false, .int .i64 0] 29) = W from hW.symm]
  clear hW
  have hk' := hk.below q
  have hv' := hv.below q
  refine wp_region_lnl (K := fun A B => A.grownBy B (some w.heap.size)) (by kernel_rfl) (by kernel_rfl) [3, 7, 10, 13] (by kernel_rfl) [lEq (.pointer (some ⟨w.heap.size, 0 + 2, none⟩)), lEq (.pointer (some ⟨w.heap.size, 0 + 2 + 1, none⟩)), lEq (.slice a x.span.lo.length c), lAny, lEq (.pointer (some ⟨w.heap.size, 0 + 2, none⟩)), lEq (.pointer (some ⟨w.heap.size, 0 + 2 + 2, none⟩)), lEq (.slice a2 x.span.hi.length c2), lAny, lEq (.pointer (some ⟨w.heap.size, 0 + 2, none⟩)), lEq (.pointer (some ⟨w.heap.size, 0 + 2 + 1, none⟩)), lAny, lEq (.pointer (some ⟨w.heap.size, 0 + 2, none⟩)), lEq (.pointer (some ⟨w.heap.size, 0 + 2 + 2, none⟩)), lAny] (LlnJ W w.heap.size x) LlnJ.below (show Below W.heap.size W W from Below.refl _ _)
    ⟨?o0, ?o1, ?o2, ?o3, ?o4, ?o5, ?o6, ?o7, ?o8, ?o9, ?o10, ?o11, ?o12, ?o13, trivial⟩ ?fin
  case o0 =>
    refine LnOp.side rfl (by kernel_rfl) (fun A va w' k hF hT hk hJ hb hu hp hd => ?_)
    have e1 : A.eval (.tmp 1) = .pointer (some ⟨w.heap.size, 0, none⟩) := hF 1 rfl
    exact wp_fieldO lkF2 rfl (e1) ⟨_, rfl, rfl, Below.refl _ _⟩
  case o1 =>
    refine LnOp.side rfl (by kernel_rfl) (fun A va w' k hF hT hk hJ hb hu hp hd => ?_)
    have e1 : A.eval (.tmp 3) = .pointer (some ⟨w.heap.size, 0 + 2, none⟩) := (hT 3 0 (by simp) rfl).trans (hd ⟨0, .data⟩ (by simp) rfl rfl)
    exact wp_fieldN spS rfl (e1) (by omega) ⟨_, rfl, rfl, Below.refl _ _⟩
  case o2 =>
    refine LnOp.side rfl (by kernel_rfl) (fun A va w' k hF hT hk hJ hb hu hp hd => ?_)
    have e1 : A.eval (.tmp 4) = .pointer (some ⟨w.heap.size, 0 + 2 + 1, none⟩) := (hT 4 1 (by simp) rfl).trans (hd ⟨1, .data⟩ (by simp) rfl rfl)
    obtain rfl : k = 0 := by have := hb 0 3 rfl (by kernel_rfl); omega
    have hJ0 : Below W.heap.size W w' := hJ
    exact wp_ld_slice (e := 5) rfl e1 (by kernel_rfl) ((bn.below (hJ0.mono (by omega)) bn.lt).cell (i := 3) rfl) ⟨_, rfl, rfl, Below.refl _ _⟩
  case o3 =>
    refine LnOp.line 0 rfl rfl (fun A va w' hF hT hJ hu hd => ?_)
    have e1 : A.eval (.tmp 5) = .slice a x.span.lo.length c := (hT 5 2 (by simp) rfl).trans (hd ⟨2, .data⟩ (by simp) rfl rfl)
    have hJ0 : Below W.heap.size W w' := hJ
    have hB : Below w.heap.size w w' := q.trans (hJ0.mono q.size)
    refine wp_callFn rfl eK (by simp only [List.map_toArray, List.map_cons, List.map_nil, e1]) ((clone_any w' (hk.below hB).rd (Nat.le_refl _) h1).mono ?_)
    rintro e w2 ⟨ad, k', c', rfl, hf⟩
    exact ⟨_, rfl, _, rfl, ⟨hJ0.trans (hf.1.mono hJ0.size), NewS.of hJ0 hf⟩, grown_below' hf.1 _⟩
  case o4 =>
    refine LnOp.side rfl (by kernel_rfl) (fun A va w' k hF hT hk hJ hb hu hp hd => ?_)
    have e1 : A.eval (.tmp 1) = .pointer (some ⟨w.heap.size, 0, none⟩) := hF 1 rfl
    exact wp_fieldO lkF2 rfl (e1) ⟨_, rfl, rfl, Below.refl _ _⟩
  case o5 =>
    refine LnOp.side rfl (by kernel_rfl) (fun A va w' k hF hT hk hJ hb hu hp hd => ?_)
    have e1 : A.eval (.tmp 7) = .pointer (some ⟨w.heap.size, 0 + 2, none⟩) := (hT 7 4 (by simp) rfl).trans (hd ⟨4, .data⟩ (by simp) rfl rfl)
    exact wp_fieldN spS rfl (e1) (by omega) ⟨_, rfl, rfl, Below.refl _ _⟩
  case o6 =>
    refine LnOp.side rfl (by kernel_rfl) (fun A va w' k hF hT hk hJ hb hu hp hd => ?_)
    have e1 : A.eval (.tmp 8) = .pointer (some ⟨w.heap.size, 0 + 2 + 2, none⟩) := (hT 8 5 (by simp) rfl).trans (hd ⟨5, .data⟩ (by simp) rfl rfl)
    have hJ0 : Below W.heap.size W w' := by
      have h5 := hb 1 7 rfl (by kernel_rfl)
      rcases k with _ | _ | k
      · exact hJ
      · exact hJ.1
      · omega
    exact wp_ld_slice (e := 5) rfl e1 (by kernel_rfl) ((bn.below (hJ0.mono (by omega)) bn.lt).cell (i := 4) rfl) ⟨_, rfl, rfl, Below.refl _ _⟩
  case o7 =>
    refine LnOp.line 1 rfl rfl (fun A va w' hF hT hJ hu hd => ?_)
    have e1 : A.eval (.tmp 9) = .slice a2 x.span.hi.length c2 := (hT 9 6 (by simp) rfl).trans (hd ⟨6, .data⟩ (by simp) rfl rfl)
    obtain ⟨hJ0, hJ1⟩ := hJ
    have hB : Below w.heap.size w w' := q.trans (hJ0.mono q.size)
    refine wp_callFn rfl eK (by simp only [List.map_toArray, List.map_cons, List.map_nil, e1]) ((clone_any w' (hv.below hB).rd (Nat.le_refl _) h2).mono ?_)
    rintro e w2 ⟨ad, k', c', rfl, hf⟩
    exact ⟨_, rfl, _, rfl, ⟨hJ0.trans (hf.1.mono hJ0.size), hJ1.below hf.1, NewS.of hJ0 hf⟩, grown_below' hf.1 _⟩
  case o8 =>
    refine LnOp.side rfl (by kernel_rfl) (fun A va w' k hF hT hk hJ hb hu hp hd => ?_)
    have e1 : A.eval (.tmp 1) = .pointer (some ⟨w.heap.size, 0, none⟩) := hF 1 rfl
    exact wp_fieldO lkF2 rfl (e1) ⟨_, rfl, rfl, Below.refl _ _⟩
  case o9 =>
    refine LnOp.side rfl (by kernel_rfl) (fun A va w' k hF hT hk hJ hb hu hp hd => ?_)
    have e1 : A.eval (.tmp 11) = .pointer (some ⟨w.heap.size, 0 + 2, none⟩) := (hT 11 8 (by simp) rfl).trans (hd ⟨8, .data⟩ (by simp) rfl rfl)
    exact wp_fieldN spS rfl (e1) (by omega) ⟨_, rfl, rfl, Below.refl _ _⟩
  case o10 =>
    refine LnOp.line 2 rfl rfl (fun A va w' hF hT hJ hu hd => ?_)
    have e1 : A.eval (.tmp 12) = .pointer (some ⟨w.heap.size, 0 + 2 + 1, none⟩) := (hT 12 9 (by simp) rfl).trans (hd ⟨9, .data⟩ (by simp) rfl rfl)
    have x2 : A.eval (.tmp 6) = va 3 := hT 6 3 (by simp) rfl
    obtain ⟨hJ0, ⟨ka, kc, ek, hkr⟩, hv1⟩ := hJ
    refine wp_boxSet (j := 3) rfl (by kernel_rfl) e1 (x2.trans ek) rfl rfl (bn.below hJ0 (by omega)) (by simp) (fun w2 hg hB2 => ?_)
    have hbW : w.heap.size < W.heap.size := by omega
    exact ⟨_, rfl, ⟨grown_trans (grown_below2 hJ0 rfl _) hg, ⟨_, by rw [ek]; exact hB2⟩, NewS.grown ⟨ka, kc, ek, hkr⟩ hg hbW, hv1.grown hg hbW⟩, hg⟩
  case o11 =>
    refine LnOp.side rfl (by kernel_rfl) (fun A va w' k hF hT hk hJ hb hu hp hd => ?_)
    have e1 : A.eval (.tmp 1) = .pointer (some ⟨w.heap.size, 0, none⟩) := hF 1 rfl
    exact wp_fieldO lkF2 rfl (e1) ⟨_, rfl, rfl, Below.refl _ _⟩
  case o12 =>
    refine LnOp.side rfl (by kernel_rfl) (fun A va w' k hF hT hk hJ hb hu hp hd => ?_)
    have e1 : A.eval (.tmp 13) = .pointer (some ⟨w.heap.size, 0 + 2, none⟩) := (hT 13 11 (by simp) rfl).trans (hd ⟨11, .data⟩ (by simp) rfl rfl)
    exact wp_fieldN spS rfl (e1) (by omega) ⟨_, rfl, rfl, Below.refl _ _⟩
  case o13 =>
    refine LnOp.line 3 rfl rfl (fun A va w' hF hT hJ hu hd => ?_)
    have e1 : A.eval (.tmp 14) = .pointer (some ⟨w.heap.size, 0 + 2 + 2, none⟩) := (hT 14 12 (by simp) rfl).trans (hd ⟨12, .data⟩ (by simp) rfl rfl)
    have x2 : A.eval (.tmp 10) = va 7 := hT 10 7 (by simp) rfl
    obtain ⟨hg0, ⟨v0, hB0⟩, hk1, ⟨va2, vc, ev, hvr⟩⟩ := hJ
    refine wp_boxSet (j := 4) rfl (by kernel_rfl) e1 (x2.trans ev) rfl rfl hB0 (by simp) (fun w2 hg hB2 => ?_)
    have hbW : w.heap.size < W.heap.size := by omega
    exact ⟨_, rfl, ⟨grown_trans hg0 hg, _, _, by rw [ev]; exact hB2, hk1.grown hg hbW, NewS.grown ⟨va2, vc, ev, hvr⟩ hg hbW⟩, hg⟩
  case fin =>
    intro vs1 W9 hJ hG
    obtain ⟨hg9, k9, v9, hb9, ⟨ka, kc, rfl, hk9⟩, ⟨va, vc, rfl, hv9⟩⟩ := hJ
    have q9 : Below w.heap.size w W9 := q.grown hg9 q.size fun k e => by injection e with e; omega
    have bz9 := bz.other hg9 (by simp)
    clear hG
    simp only [putAll]
    go_simp
    have c0 := hb9.cell (i := 0) rfl
    have c1 := hb9.cell (i := 1) rfl
    have c2 := hb9.cell (i := 2) rfl
    have c3 := hb9.cell (i := 3) rfl
    have c4 := hb9.cell (i := 4) rfl
    have c5 := hb9.cell (i := 5) rfl
    have c6 := hb9.cell (i := 6) rfl
    go_wp2_with (first | (refine wpList_boxStore (us := [.int .i64 x.owner, .bool x.whole, .int .i64 x.span.table, .slice ka x.span.lo.length kc, .slice va x.span.hi.length vc, .bool x.span.isOpen, .int .i64 x.mode]) (by kernel_rfl) rfl rfl rfl rfl rfl rfl bz9 rfl ?_; intro wd hgd hBd) | fail)
    have d0 := hBd.cell (i := 0) rfl
    have d1 := hBd.cell (i := 1) rfl
    have d2 := hBd.cell (i := 2) rfl
    have d3 := hBd.cell (i := 3) rfl
    have d4 := hBd.cell (i := 4) rfl
    have d5 := hBd.cell (i := 5) rfl
    have d6 := hBd.cell (i := 6) rfl
    obtain ⟨⟨fs, hu⟩, hs⟩ := lkS
    refine bodyPost_ret (v := .agg #[.int .i64 x.owner, .bool x.whole, .int .i64 x.span.table, .slice ka x.span.lo.length kc, .slice va x.span.hi.length vc, .bool x.span.isOpen, .int .i64 x.mode]) (by simp [results, Tryd.results58, go_sem, loadVar, isAgg, run_underlying hu, run_sizeOf' hs, loadCellsFrom, Addr.add, d0, d1, d2, d3, d4, d5, d6]) rfl ?_
    have hk0 : ∀ k, W.heap.size ≤ k ∧ k < W9.heap.size → wd.heap[k]? = W9.heap[k]? := fun k hk => hgd.block k hk.2 fun e => by injection e with e; omega
    exact ⟨_, rfl, ⟨ka, kc, va, vc, rfl, (hk9.keep hk0).weak fun k hk => ⟨by omega, Nat.lt_of_lt_of_le hk.2 hgd.size⟩, (hv9.keep hk0).weak fun k hk => ⟨by omega, Nat.lt_of_lt_of_le hk.2 hgd.size⟩, ht⟩, q9.grown hgd q9.size fun k e => by injection e with e; omega⟩
end Go.Proofs.YtpdnehgboafgpaaDoor
namespace Go.Proofs.YtpdnehgboafgpaaDoor
open Go.RowKit Go.Shelf
def akV (x : Lk) (x1 : Option Addr) (x2 : Nat) (x3 : Option Addr) (x4 : Nat) (aH : Option Addr) (nH cH : Nat) (aQ : Option Addr) (nQ cQ : Nat) : List Value := [.int .i64 x.owner, .bool x.whole, .int .i64 x.span.table, .slice x1 x.span.lo.length x2, .slice x3 x.span.hi.length x4, .bool x.span.isOpen, .int .i64 x.mode, .slice aH nH cH, .slice aQ nQ cQ]
theorem Trd.tab {F : Nat → Prop} {w w' : World} (h : Trd F w w') (hT : TabAt w) (h0 : ¬ F 0) : TabAt w' := fun a b ha hb => h.cell (hT a b ha hb) h0
theorem RdL.trd {α : Type} {E : Elt α} {S F : Nat → Prop} {w w' : World} {v : Value} {xs : List α} (h : RdL E S w v xs) (hq : Trd F w w') (hS : ∀ k, S k → ¬ F k) : RdL E S w' v xs := (h.fit.keep fun k hk => hq.block k hk.2 (hS k hk.1)).weak fun _ hk => hk.1
theorem BoxN.trd {F : Nat → Prop} {w w' : World} {b : Nat} {t : TypeId} {vs : List Value} (h : BoxN w b t vs) (hq : Trd F w w') (hb : ¬ F b) : BoxN w' b t vs := (hq.block b h.lt hb).trans h
theorem Trd.hi {F : Nat → Prop} {w A B : World} {r : Option Nat} (h : Trd F w A) (hg : A.grownBy B r) (hr : ∀ k, r = some k → w.heap.size ≤ k) : Trd F w B :=
  ⟨hg.os.trans h.os, hg.tape.trans h.tape, hg.output.trans h.output, Nat.le_trans h.size hg.size, fun k hk hn => (hg.block k (Nat.lt_of_lt_of_le hk h.size) fun e => by have := hr k e.symm; omega).trans (h.block k hk hn)⟩
def Looks (F : FuncId) (caps : Array Value) (fp S : Nat → Prop) (w : World) (St : World → Prop) (stay : List Lk → Lk → Bool) (Fin : List Lk → Lk → World → Prop) (aH : Option Addr) (cH : Nat) (H : List Lk) : Prop :=
  ∀ (W : World) (x : Lk) (p : List Lk) (x1 : Option Addr) (x2 : Nat) (x3 : Option Addr) (x4 : Nat) (aQ : Option Addr) (cQ : Nat), Trd fp w W → w.heap.size + 1 < W.heap.size → St W →
    RdLk (fun k => (S k ∨ w.heap.size ≤ k) ∧ ¬ fp k ∧ k ≠ w.heap.size + 1) W (.agg #[.int .i64 x.owner, .bool x.whole, .int .i64 x.span.table, .slice x1 x.span.lo.length x2, .slice x3 x.span.hi.length x4, .bool x.span.isOpen, .int .i64 x.mode]) x →
    RdL Elt.lk (fun k => (S k ∨ w.heap.size ≤ k) ∧ ¬ fp k ∧ k ≠ w.heap.size + 1) W (.slice aH H.length cH) H → RdL Elt.lk (fun k => (S k ∨ w.heap.size ≤ k) ∧ ¬ fp k ∧ k ≠ w.heap.size + 1) W (.slice aQ p.length cQ) p →
    Calls Tryd.prog F (#[.agg (akV x x1 x2 x3 x4 aH H.length cH aQ p.length cQ).toArray] ++ caps) W fun e W' => Trd fp W W' ∧ ((stay p x = true ∧ e = .returned (.int .i64 0) ∧ St W') ∨ (stay p x = false ∧ e = .returned (.int .i64 2) ∧ Fin p x W'))
set_option maxRecDepth 100000 in
set_option maxHeartbeats 4000000 in
theorem look_any (w : World) {S : Nat → Prop} {aH aL : Option Addr} {cH cL : Nat} {H Q : List Lk} (hH : RdL Elt.lk S w (.slice aH H.length cH) H) (hQ : RdL Elt.lk S w (.slice aL Q.length cL) Q) (hn : Q.length ≤ 1000000) (F : FuncId) (caps : Array Value) (hE : Enters Tryd.prog F) (fp : Nat → Prop) (hfp : ∀ k, fp k → k < w.heap.size) (hSf : ∀ k, S k → ¬ fp k)
    (St : World → Prop) (hSt : ∀ W W', St W → (∀ k, fp k → W'.heap[k]? = W.heap[k]?) → St W') (h0 : St w) (stay : List Lk → Lk → Bool) (Fin : List Lk → Lk → World → Prop) (hFin : ∀ p x W W', Fin p x W → W.grownBy W' (some (w.heap.size + 1)) → Fin p x W')
    (hF : Looks F caps fp S w St stay Fin aH cH H) :
    Calls Tryd.prog 41 #[.agg #[.slice aH H.length cH, .slice aL Q.length cL], .func (.func F) #[] caps] w fun e w' => (∃ v, e = .returned v) ∧ Trd fp w w' ∧
      (((∀ i (h : i < Q.length), stay (Q.take i) Q[i] = true) ∧ St w') ∨ ∃ i, ∃ h : i < Q.length, (∀ j (hj : j < i), stay (Q.take j) Q[j] = true) ∧ stay (Q.take i) Q[i] = false ∧ Fin (Q.take i) Q[i] w') := by
  obtain ⟨W0, hW, q, bn, bz, hsz⟩ := boxes2 w 24 24 [.slice aH H.length cH, .slice aL Q.length cL] [.slice none 0 0, .slice none 0 0]
  have hEE := hE
  unfold Enters at hEE
  go_enter Tryd.func41, Tryd.ntmps41
  go_wp2
  go_step3
  go_upto_region 1 with (fail)
  rw [show (w.alloc (.cells #[.slice aH H.length cH, .slice aL Q.length cL] 24)).alloc (.cells #[.slice none 0 0, .slice none 0 0] 24) = W0 from hW.symm]
  clear hW
  have zW : W0.heap.size = w.heap.size + 1 + 1 := hsz
  have zW2 : w.heap.size + 1 < W0.heap.size := by omega
  replace zW := Lib.hid zW
  clear hsz
  have b0 := bn.cell (i := 0) rfl
  go_upto_region 2 with (first | (refine wpList_boxNew (vs := [.slice none 0 0, .slice none 0 0]) (by kernel_rfl) rfl rfl ?_; intro wa hba hBa) | (refine wpList_boxStore (us := [.slice aH H.length cH, .slice none 0 0]) (by kernel_rfl) rfl rfl rfl rfl rfl rfl hBa rfl ?_; intro W1 hg1 hB1) | fail)
  have hb1 : Below W0.heap.size W0 W1 := hba.grown hg1 hba.size fun k hk => by injection hk with hk; omega
  have q1 : Trd fp w W1 := (Trd.of (q.trans (hb1.mono q.size)))
  have zL := hB1.lt
  have bn1 := bn.below hb1 bn.lt
  have bz1 := bz.below hb1 bz.lt
  have s1 := hSt _ _ h0 fun k hk => (q.trans (hb1.mono q.size)).block k (hfp k hk)
  clear b0 hba hBa hg1 hb1 bn bz q h0
  have b1 := bn1.cell (i := 1) rfl
  go_step3
  go_upto_region 3 with (fail)
  clear b1
  go_loopw [15] (fun iv wr => ∃ (k : Nat) (ad : Option Addr) (ko : Nat), iv = .int .i64 k ∧ k ≤ Q.length ∧ (∀ j (h : j < Q.length), j < k → stay (Q.take j) Q[j] = true) ∧ OwnF Elt.lk 29 (fun k => S k ∧ k < w.heap.size) wr (.slice ad (Q.take k).length ko) (Q.take k) ∧ (∀ g, Value.ownBlock (.slice ad (Q.take k).length ko) = some g → W0.heap.size < g) ∧ BoxN wr W0.heap.size 24 [.slice aH H.length cH, .slice ad (Q.take k).length ko] ∧ BoxN wr (w.heap.size + 1) 24 [.slice none 0 0, .slice none 0 0] ∧ St wr ∧ Trd fp w wr)
    (fun i _ => Q.length - (intOf i).toNat)
  case atStart => exact ⟨0, none, 0, rfl, Nat.zero_le _, fun j _ h => absurd h (Nat.not_lt_zero j), OwnF.nil _ _ _ _, fun g h => by simp [Value.ownBlock] at h, hB1, bz1, s1, q1⟩
  case round =>
    clear hB1 bz1 s1 bn1
    obtain ⟨k, ad, ko, rfl, hkl, hst, hO, hOb, hB, bz, s, q⟩ := hrel
    replace hst := Lib.hid hst
    rcases Nat.lt_or_ge k Q.length with hlt | hge
    · have hQ2 := hQ.fit.trd q (fun k hk => hSf k hk.1)
      obtain ⟨b, off, KA, KC, VA, VC, rfl, hb, c0, c1, c2, c3, c4, c5, c6, hk1, hk2, hw64⟩ := hQ2.lk k hlt
      have hsn := Lib.hid (show Q.take (k + 1) = Q.take k ++ [Q[k]] from List.take_succ_eq_append_getElem hlt)
      obtain ⟨x, ex⟩ : ∃ x, x = Q[k] := ⟨_, rfl⟩
      obtain ⟨xs, exs⟩ : ∃ xs, xs = Q.take k := ⟨_, rfl⟩
      have hxl : xs.length ≤ 1000000 := by rw [exs, List.length_take]; omega
      have exk := Lib.hid ex
      have exsk := Lib.hid exs
      rw [← ex] at c0 c1 c2 c3 c4 c5 c6 hk1 hk2 hw64 hsn
      rw [← exs] at hO hB hOb hsn
      clear ex exs
      have zz := q.size
      go_upto_region 5 with (first | (refine wpList_boxNew (vs := [.int .i64 0, .bool false, .int .i64 0, .slice none 0 0, .slice none 0 0, .bool false, .int .i64 0]) (by kernel_rfl) rfl rfl ?_; intro wa hba hBa) | (refine wpList_boxStore (us := [.int .i64 x.owner, .bool x.whole, .int .i64 x.span.table, .slice KA x.span.lo.length KC, .slice VA x.span.hi.length VC, .bool x.span.isOpen, .int .i64 x.mode]) (by kernel_rfl) rfl rfl rfl rfl rfl rfl hBa rfl ?_; intro W hgw hXW) | fail)
      go_simp
      have hbw : Below wr.heap.size wr W := hba.grown hgw hba.size fun k hk => by injection hk with hk; omega
      have zw := hbw.size
      have zB := hB.lt
      replace q := q.trans (Trd.of hbw) (fun _ _ h => h)
      replace hB := hB.below hbw hB.lt
      replace bz := bz.below hbw bz.lt
      replace s := hSt _ _ s fun k hk => hbw.block k (by have := hfp k hk; omega)
      replace hO := hO.below hbw (fun k hk => by have := hk.2; omega)
      have hx : RdLk (fun k => S k ∧ k < w.heap.size) W (.agg #[.int .i64 x.owner, .bool x.whole, .int .i64 x.span.table, .slice KA x.span.lo.length KC, .slice VA x.span.hi.length VC, .bool x.span.isOpen, .int .i64 x.mode]) x := ⟨_, _, _, _, rfl, hk1.below hbw, hk2.below hbw, hw64⟩
      have zX := hXW.lt
      clear c0 c1 c2 c3 c4 c5 c6 hk1 hk2 hba hBa hgw hbw hQ2
      have f0 := hXW.cell (i := 0) rfl
      have f1 := hXW.cell (i := 1) rfl
      have f2 := hXW.cell (i := 2) rfl
      have f3 := hXW.cell (i := 3) rfl
      have f4 := hXW.cell (i := 4) rfl
      have f5 := hXW.cell (i := 5) rfl
      have f6 := hXW.cell (i := 6) rfl
      have d0 := hB.cell (i := 0) rfl
      have d1 := hB.cell (i := 1) rfl
      go_upto_region 6 with (first | (refine wpList_boxNew (vs := [.int .i64 0, .bool false, .int .i64 0, .slice none 0 0, .slice none 0 0, .bool false, .int .i64 0, .slice none 0 0, .slice none 0 0]) (by kernel_rfl) rfl rfl ?_; intro wa hba hBa) | (refine wpList_boxStore (us := [.int .i64 x.owner, .bool x.whole, .int .i64 x.span.table, .slice KA x.span.lo.length KC, .slice VA x.span.hi.length VC, .bool x.span.isOpen, .int .i64 x.mode, .slice aH H.length cH, .slice ad xs.length ko]) (by kernel_rfl) rfl rfl rfl rfl rfl rfl hBa rfl ?_; intro W2 hgw hYW) | fail)
      go_simp
      have hbw : Below W.heap.size W W2 := hba.grown hgw hba.size fun k hk => by injection hk with hk; omega
      have zw2 := hbw.size
      replace q := q.trans (Trd.of hbw) (fun _ _ h => h)
      replace hB := hB.below hbw hB.lt
      replace bz := bz.below hbw bz.lt
      replace hXW := hXW.below hbw hXW.lt
      replace s := hSt _ _ s fun k hk => hbw.block k (by have := hfp k hk; omega)
      replace hO := hO.below hbw (fun k hk => by have := hk.2; omega)
      replace hx := hx.below hbw
      clear f0 f1 f2 f3 f4 f5 f6 d0 d1 hba hBa hgw hbw
      have e0 := hYW.cell (i := 0) rfl
      have e1 := hYW.cell (i := 1) rfl
      have e2 := hYW.cell (i := 2) rfl
      have e3 := hYW.cell (i := 3) rfl
      have e4 := hYW.cell (i := 4) rfl
      have e5 := hYW.cell (i := 5) rfl
      have e6 := hYW.cell (i := 6) rfl
      have e7 := hYW.cell (i := 7) rfl
      have e8 := hYW.cell (i := 8) rfl
      go_wp2_with fail
      have hrr : ∀ g, Value.ownBlock (.slice ad xs.length ko) = some g → W0.heap.size < g ∧ g < W2.heap.size := fun g hg => ⟨hOb g hg, hO.lt hg⟩
      have hcall := hF W2 x xs KA KC VA VC ad ko q (by have := zW.out; omega) s (hx.weak fun k hk => ⟨.inl hk.1, hSf k hk.1, fun e => by have := hk.2; omega⟩) (((hH.fit).trd q fun k hk => hSf k hk.1).weak fun k hk => ⟨.inl hk.1, hSf k hk.1, fun e => by have := hk.2; omega⟩) (hO.rdL.weak fun k hk => hk.elim (fun h => ⟨.inl h.1, hSf k h.1, fun e => by have := h.2; omega⟩) fun h => ⟨.inr (by have := hrr k h; have := zW.out; omega), fun h2 => by have := hfp k h2; have := hrr k h; have := zW.out; omega, fun e => by have := hrr k h; have := zW.out; omega⟩)
      refine hcall.mono ?_
      rintro e w3 ⟨ht, hres⟩
      clear hcall e0 e1 e2 e3 e4 e5 e6 e7 e8
      have z3 := ht.size
      replace q := q.trans ht (fun _ _ h => h)
      replace hB := hB.trd ht (fun h => by have := hfp _ h; have := zW.out; omega)
      replace bz := bz.trd ht (fun h => by have := hfp _ h; omega)
      replace hXW := hXW.trd ht (fun h => by have := hfp _ h; omega)
      replace hO := hO.trd ht (fun g hg h => by have := hfp _ h; have := hrr g hg; have := zW.out; omega) (fun k hk => ⟨by have := hk.2; omega, hSf k hk.1⟩)
      replace hx := (hx.fit.keep (w' := w3) fun k hk => ht.block k hk.2 (hSf k hk.1.1)).weak (S' := fun k => S k ∧ k < w.heap.size) fun k hk => hk.1
      clear hYW s ht
      rcases hres with ⟨hsy, rfl, s3⟩ | ⟨hsy, rfl, hfin⟩
      · have hst9 := Lib.hid (show ∀ j (h : j < Q.length), j < k + 1 → stay (Q.take j) Q[j] = true from fun j h hj => by
          by_cases e : j = k
          · subst e; rw [← exsk.out, ← exk.out]; exact hsy
          · exact hst.out j h (by omega))
        clear hst hsy exk exsk
        have f0 := hXW.cell (i := 0) rfl
        have f1 := hXW.cell (i := 1) rfl
        have f2 := hXW.cell (i := 2) rfl
        have f3 := hXW.cell (i := 3) rfl
        have f4 := hXW.cell (i := 4) rfl
        have f5 := hXW.cell (i := 5) rfl
        have f6 := hXW.cell (i := 6) rfl
        have d1 := hB.cell (i := 1) rfl
        have hbr : Value.ownBlock (.slice ad xs.length ko) ≠ some W0.heap.size := fun e => by have := hrr _ e; omega
        have hbr2 : Value.ownBlock (.slice ad xs.length ko) ≠ some (w.heap.size + 1) := fun e => by have := hrr _ e; have := zW.out; omega
        have hOb4 : ∀ w4, Below w3.heap.size w3 w4 → OwnF Elt.lk 29 (fun k => S k ∧ k < w.heap.size) w4 (.slice ad xs.length ko) xs := fun w4 hb4 => hO.below hb4 fun k hk => by have := hk.2; omega
        have hS4 : ∀ w4, Below w3.heap.size w3 w4 → ∀ k, (S k ∧ k < w.heap.size) → k < w4.heap.size ∧ some k ≠ Value.ownBlock (.slice ad xs.length ko) := fun w4 hb4 k hk => ⟨by have := hk.2; have := hb4.size; omega, fun e => by have := hrr k e.symm; have := hk.2; have := zW.out; omega⟩
        go_wp2_with (first
          | (refine wpList_buildOne lkP rfl rfl rfl (us := [.int .i64 x.owner, .bool x.whole, .int .i64 x.span.table, .slice KA x.span.lo.length KC, .slice VA x.span.hi.length VC, .bool x.span.isOpen, .int .i64 x.mode]) rfl rfl (by decide) (by decide) ?_; intro w4 hb4 hrow)
          | (refine wpList_appF (E := Elt.lk) (n := xs.length + 1) lkP rfl rfl rfl rfl (hOb4 _ hb4) hrow (Elt.below hx.R hb4) (hS4 _ hb4) (by omega) rfl ?_; intro ad9 c9 w5 hO9 hg5 ho9)
          | (refine wpList_boxSet (j := 1) rfl rfl rfl (by kernel_rfl) rfl rfl rfl rfl ((hB.below hb4 hB.lt).other hg5 hbr) (by simp) ?_; intro w6 hg6 hB6)
          | fail)
        have z4 := hb4.size
        have z5 := hg5.size
        have hob9 : ∀ g, Value.ownBlock (.slice ad9 (xs.length + 1) c9) = some g → W0.heap.size < g ∧ g < w5.heap.size := fun g hg => ⟨by
          rcases ho9 with e | ⟨k9, e, h9⟩
          · rw [e] at hg; exact (hrr g hg).1
          · rw [e] at hg; injection hg with hg; omega, hO9.lt hg⟩
        have hO6 := hO9.kept (w' := w6) (fun g hg => hg6.block g (hob9 g hg).2 fun e => by injection e with e; have := hob9 g hg; omega) (fun k hk => hg6.block k (by have := hk.2; omega) fun e => by injection e with e; have := hk.2; omega)
        have bz6 := (((bz.below hb4 bz.lt).other hg5 hbr2)).other hg6 (fun e => by injection e with e; have := zW.out; omega)
        have s6 := hSt _ _ s3 fun k hk => ((hg6.block k (by have := hfp k hk; omega) fun e => by injection e with e; have := hfp k hk; omega).trans (hg5.block k (by have := hfp k hk; omega) fun e => by have := hfp k hk; have := hrr k e.symm; omega)).trans (hb4.block k (by have := hfp k hk; omega))
        have q6 := ((q.trans (Trd.of hb4) (fun _ _ h => h)).hi hg5 (fun g hg => by have := hrr g hg; omega)).hi hg6 (fun g hg => by injection hg with hg; omega)
        have hln : (xs ++ [x]).length = xs.length + 1 := by rw [List.length_append]; rfl
        rw [← hln] at hO6 hB6
        have hob6 : ∀ g, Value.ownBlock (.slice ad9 (xs ++ [x]).length c9) = some g → W0.heap.size < g := fun g hg => by rw [hln] at hg; exact (hob9 g hg).1
        rw [← hsn.out] at hO6 hB6 hob6
        clear hOb4 hS4 f0 f1 f2 f3 f4 f5 f6 d1 hrow hb4 hg5 hg6 hO hB hO9 bz s3 hXW hx hln ho9 hob9 hrr hbr hbr2 hsn hxl hOb q
        go_wp2_with fail
        go_roundw
        case rel => exact ⟨k + 1, ad9, c9, by go_num, by omega, hst9.out, hO6, hob6, hB6, bz6, s6, q6⟩
        case measure => simp [intOf]; omega
      · have hst9 := Lib.hid (show ∃ i, ∃ h : i < Q.length, (∀ j (hj : j < i), stay (Q.take j) Q[j] = true) ∧ stay (Q.take i) Q[i] = false ∧ Fin (Q.take i) Q[i] w3 from ⟨k, hlt, fun j hj => hst.out j (by omega) hj, by rw [← exsk.out, ← exk.out]; exact hsy, by rw [← exsk.out, ← exk.out]; exact hfin⟩)
        clear hst hsy hfin exk exsk hXW hx hO hsn
        have d0 := hB.cell (i := 0) rfl
        have d1 := hB.cell (i := 1) rfl
        go_wp2_with (first | (refine wpList_boxStore (us := [.slice aH H.length cH, .slice ad xs.length ko]) (by kernel_rfl) rfl rfl rfl rfl rfl rfl bz rfl ?_; intro wd hgd hBd) | fail)
        simp only [Exit.noGoto_ret]
        have g0 := hBd.cell (i := 0) rfl
        have g1 := hBd.cell (i := 1) rfl
        obtain ⟨fs, hu, _⟩ := lsS.hu
        refine bodyPost_ret (v := .agg #[.slice aH H.length cH, .slice ad xs.length ko]) (by simp [results, Tryd.results41, go_sem, loadVar, isAgg, run_underlying hu, run_sizeOf' lsS.hs, loadCellsFrom, Addr.add, g0, g1]) rfl ?_
        obtain ⟨i, h1, h2, h3, h4⟩ := hst9.out
        exact ⟨⟨_, rfl⟩, q.hi hgd (fun g hg => by injection hg with hg; omega), .inr ⟨i, h1, h2, h3, hFin _ _ _ _ h4 hgd⟩⟩
    · obtain rfl : k = Q.length := by omega
      rw [List.take_length] at hO hB hOb
      have hst9 := Lib.hid (show ∀ j (h : j < Q.length), stay (Q.take j) Q[j] = true from fun j h => hst.out j h h)
      have zq := q.size
      clear hst hO hOb
      have d0 := hB.cell (i := 0) rfl
      have d1 := hB.cell (i := 1) rfl
      go_wp2_with (first | (refine wpList_boxStore (us := [.slice aH H.length cH, .slice ad Q.length ko]) (by kernel_rfl) rfl rfl rfl rfl rfl rfl bz rfl ?_; intro wd hgd hBd) | fail)
      simp only [Exit.noGoto_ret]
      have g0 := hBd.cell (i := 0) rfl
      have g1 := hBd.cell (i := 1) rfl
      obtain ⟨fs, hu, _⟩ := lsS.hu
      refine bodyPost_ret (v := .agg #[.slice aH H.length cH, .slice ad Q.length ko]) (by simp [results, Tryd.results41, go_sem, loadVar, isAgg, run_underlying hu, run_sizeOf' lsS.hs, loadCellsFrom, Addr.add, g0, g1]) rfl ?_
      exact ⟨⟨_, rfl⟩, q.hi hgd (fun g hg => by injection hg with hg; omega), .inl ⟨hst9.out, hSt _ _ s fun k hk => hgd.block k (by have := hfp k hk; omega) fun e => by injection e with e; have := hfp k hk; omega⟩⟩
end Go.Proofs.YtpdnehgboafgpaaDoor
namespace Go.Proofs.YtpdnehgboafgpaaDoor
open Go.RowKit Go.Shelf
section
variable {o : Oper} {a : Act} {K : Act → World → Prop} {Q : Exit → Act → World → Prop} {w : World} {x y : Operand} {c0 c1 c2 c3 c4 c5 c6 c7 c8 : Value}
theorem wp_bOne (ho : o.op = .build 59 #[(0, x)]) (hx : a.eval x = .agg #[c0, c1, c2, c3, c4, c5, c6]) (h : K (a.put o.dst (.agg #[c0, c1, c2, c3, c4, c5, c6])) w) : o.wp Tryd.prog a w K Q := by
  refine wp_run' ?_ h
  simp only [execOp, ho, hx, List.map_toArray, List.map_cons, List.map_nil]
  go_simp
theorem wp_bLocks {ad : Option Addr} {n c : Nat} (ho : o.op = .build 24 #[(0, x)]) (hx : a.eval x = .slice ad n c) (h : K (a.put o.dst (.agg #[.slice ad n c, .slice none 0 0])) w) : o.wp Tryd.prog a w K Q := by
  refine wp_run' ?_ h
  simp only [execOp, ho, hx, List.map_toArray, List.map_cons, List.map_nil]
  go_simp
theorem wp_bAsk (ho : o.op = .build 61 #[(0, x), (1, y)]) (hx : a.eval x = .agg #[c0, c1, c2, c3, c4, c5, c6]) (hy : a.eval y = .agg #[c7, c8]) (h : K (a.put o.dst (.agg #[c0, c1, c2, c3, c4, c5, c6, c7, c8])) w) : o.wp Tryd.prog a w K Q := by
  refine wp_run' ?_ h
  simp only [execOp, ho, hx, hy, List.map_toArray, List.map_cons, List.map_nil]
  go_simp
end
def AskJ (W : World) (us : List Value) : List Value → World → Prop
  | [], V => Below W.heap.size W V
  | [v], V => Below W.heap.size W V ∧ ∃ b, v = .pointer (some ⟨b, 0, none⟩) ∧ W.heap.size ≤ b ∧ BoxN V b 61 [.int .i64 0, .bool false, .int .i64 0, .slice none 0 0, .slice none 0 0, .bool false, .int .i64 0, .slice none 0 0, .slice none 0 0]
  | v :: _ :: _, V => Below W.heap.size W V ∧ ∃ b, v = .pointer (some ⟨b, 0, none⟩) ∧ W.heap.size ≤ b ∧ BoxN V b 61 us
theorem AskJ.below {W : World} {us : List Value} : ∀ (l : List Value) (V V' : World), AskJ W us l V → Below V.heap.size V V' → AskJ W us l V'
  | [], _, _, h, hb => Below.trans h (hb.mono (Below.size h))
  | [_], _, _, ⟨h, b, e, h1, h2⟩, hb => ⟨h.trans (hb.mono h.size), b, e, h1, h2.below hb h2.lt⟩
  | _ :: _ :: _, _, _, ⟨h, b, e, h1, h2⟩, hb => ⟨h.trans (hb.mono h.size), b, e, h1, h2.below hb h2.lt⟩
theorem AskJ.low {W : World} {us : List Value} : ∀ {l : List Value} {V : World}, AskJ W us l V → Below W.heap.size W V
  | [], _, h => h
  | [_], _, h => h.1
  | _ :: _ :: _, _, h => h.1
theorem RdL.pre {α : Type} {E : Elt α} {S : Nat → Prop} {w : World} {ad : Option Addr} {n c : Nat} {xs : List α} (h : RdL E S w (.slice ad n c) xs) (k : Nat) : RdL E S w (.slice ad (xs.take k).length c) (xs.take k) := by
  obtain ⟨a', cap, h1, h2, h3, h4⟩ := h
  cases h1
  have hl : (xs.take k).length ≤ xs.length := by rw [List.length_take]; omega
  refine ⟨_, _, rfl, by omega, h3, ?_⟩
  rcases h4 with rfl | ⟨b, off, rfl, hb, hq⟩
  · exact .inl (by simp)
  · refine .inr ⟨b, off, rfl, hb, fun r hr => ?_⟩
    obtain ⟨vs, h5, h6⟩ := hq r (by omega)
    exact ⟨vs, by rw [List.getElem_take]; exact h5, h6⟩
theorem okH_take {H : List Lk} (h : okH H) (k : Nat) : okH (H.take k) := List.Pairwise.sublist (List.take_sublist k H) h
theorem okH_succ {H : List Lk} {k : Nat} (hk : k < H.length) : okH (H.take (k + 1)) ↔ okH (H.take k) ∧ blk H[k] (H.take k) [] = false ∧ (H.take k).any (sameL H[k]) = false := by
  unfold okH blk
  rw [List.take_succ_eq_append_getElem hk, List.pairwise_append]
  simp only [List.pairwise_cons, List.not_mem_nil, List.any_nil, Bool.or_false, List.any_eq_false, List.mem_singleton]
  constructor
  · rintro ⟨h1, _, h2⟩
    exact ⟨h1, fun y hy => by simp [(h2 y hy _ rfl).1], fun y hy => by simp [(h2 y hy _ rfl).2]⟩
  · rintro ⟨h1, h2, h3⟩
    refine ⟨h1, ⟨(fun _ h => h.elim), List.Pairwise.nil⟩, ?_⟩
    rintro y hy z rfl
    exact ⟨by simpa using h2 y hy, by simpa using h3 y hy⟩
def stayC (H p : List Lk) (x : Lk) : Bool := blk x H p && !p.any (ownsL x)
def fateI (b : Bool) : Int := if b = true then 0 else 2
theorem okQ_stay {H Q : List Lk} : okQ H Q ↔ ∀ i (h : i < Q.length), stayC H (Q.take i) Q[i] = true := by
  unfold okQ stayC ownsL
  simp
set_option maxRecDepth 100000 in
set_option maxHeartbeats 4000000 in
theorem check1_any (w : World) (hT : TabAt w) {S S2 S3 : Nat → Prop} {x : Lk} {x1 x3 aH aQ : Option Addr} {x2 x4 cH cQ bI : Nat} {H Q : List Lk} {g : Bool} (hx : RdLk S w (.agg #[.int .i64 x.owner, .bool x.whole, .int .i64 x.span.table, .slice x1 x.span.lo.length x2, .slice x3 x.span.hi.length x4, .bool x.span.isOpen, .int .i64 x.mode]) x)
    (hH : RdL Elt.lk S2 w (.slice aH H.length cH) H) (hQ : RdL Elt.lk S3 w (.slice aQ Q.length cQ) Q) (hI : BoxN w bI 4 [.bool g]) :
    Calls Tryd.prog 42 #[.agg (akV x x1 x2 x3 x4 aH H.length cH aQ Q.length cQ).toArray, .pointer (some ⟨bI, 0, none⟩)] w fun e w' => e = .returned (.int .i64 (fateI (stayC H Q x))) ∧ w.grownBy w' (some bI) ∧ BoxN w' bI 4 [.bool (stayC H Q x)] := by
  unfold akV
  obtain ⟨W, hW, q, Bx, hsz⟩ := spBox w 61 [.int .i64 x.owner, .bool x.whole, .int .i64 x.span.table, .slice x1 x.span.lo.length x2, .slice x3 x.span.hi.length x4, .bool x.span.isOpen, .int .i64 x.mode, .slice aH H.length cH, .slice aQ Q.length cQ]
  clear hsz
  have hC1 := blocked_any W (hT.below q) (hx.below q) (hH.below q) (hQ.below q)
  go_enter Tryd.func42, Tryd.ntmps42
  go_upto_region 1 with (fail)
  rw [show w.alloc (.cells #[.int .i64 x.owner, .bool x.whole, .int .i64 x.span.table, .slice x1 x.span.lo.length x2, .slice x3 x.span.hi.length x4, .bool x.span.isOpen, .int .i64 x.mode, .slice aH H.length cH, .slice aQ Q.length cQ] 61) = W from hW.symm]
  clear hW
  have c0 := Bx.cell (i := 0) rfl
  have c1 := Bx.cell (i := 1) rfl
  have c2 := Bx.cell (i := 2) rfl
  have c3 := Bx.cell (i := 3) rfl
  have c4 := Bx.cell (i := 4) rfl
  have c5 := Bx.cell (i := 5) rfl
  have c6 := Bx.cell (i := 6) rfl
  have c7 := Bx.cell (i := 7) rfl
  have c8 := Bx.cell (i := 8) rfl
  go_wp2_with fail
  refine hC1.mono ?_
  rintro e w1 ⟨rfl, hb⟩
  replace q := q.trans (hb.mono q.size)
  replace Bx := Bx.below hb Bx.lt
  clear c0 c1 c2 c3 c4 c5 c6 c7 c8 hC1 hb
  have hI1 := hI.below q hI.lt
  cases h1 : blk x H Q with
  | false =>
    have Hh := Lib.hid (show stayC H Q x = false by unfold stayC; rw [h1]; rfl)
    clear h1
    go_wp2_with (first | (refine wpList_boxSet (j := 0) rfl rfl rfl (by kernel_rfl) rfl rfl rfl rfl hI1 (by simp) ?_; intro w6 hg6 hB6; have i0 := hB6.cell (i := 0) rfl) | fail)
    go_ret
    exact ⟨by rw [Hh.out]; rfl, grownT (grownB q _) hg6, by rw [Hh.out]; exact hB6⟩
  | true =>
    have Hh := Lib.hid (show stayC H Q x = !Q.any (ownsL x) by unfold stayC; rw [h1]; rfl)
    clear h1
    have hC2 := lContains_any w1 (hQ.below q) _ _ _ eOwns _ (tOwns (hx.below q))
    have c0 := Bx.cell (i := 0) rfl
    have c1 := Bx.cell (i := 1) rfl
    have c2 := Bx.cell (i := 2) rfl
    have c3 := Bx.cell (i := 3) rfl
    have c4 := Bx.cell (i := 4) rfl
    have c5 := Bx.cell (i := 5) rfl
    have c6 := Bx.cell (i := 6) rfl
    have c7 := Bx.cell (i := 7) rfl
    have c8 := Bx.cell (i := 8) rfl
    go_wp2_with fail
    refine hC2.mono ?_
    rintro e w2 ⟨rfl, hb⟩
    replace q := q.trans (hb.mono q.size)
    replace hI1 := hI1.below hb hI1.lt
    clear c0 c1 c2 c3 c4 c5 c6 c7 c8 hC2 hb
    cases h2 : Q.any (ownsL x) with
    | false =>
      have Hk := Lib.hid (show stayC H Q x = true by rw [Hh.out, h2]; rfl)
      clear h2 Hh
      go_wp2_with (first | (refine wpList_boxSet (j := 0) rfl rfl rfl (by kernel_rfl) rfl rfl rfl rfl hI1 (by simp) ?_; intro w6 hg6 hB6; have i0 := hB6.cell (i := 0) rfl) | fail)
      go_ret
      exact ⟨by rw [Hk.out]; rfl, grownT (grownB q _) hg6, by rw [Hk.out]; exact hB6⟩
    | true =>
      have Hk := Lib.hid (show stayC H Q x = false by rw [Hh.out, h2]; rfl)
      clear h2 Hh
      go_wp2_with (first | (refine wpList_boxSet (j := 0) rfl rfl rfl (by kernel_rfl) rfl rfl rfl rfl hI1 (by simp) ?_; intro w6 hg6 hB6; have i0 := hB6.cell (i := 0) rfl) | fail)
      go_ret
      exact ⟨by rw [Hk.out]; rfl, grownT (grownB q _) hg6, by rw [Hk.out]; exact hB6⟩
theorem eCheck1 : Enters Tryd.prog 42 := enters_of Tryd.func42 (by kernel_rfl) rfl
set_option maxRecDepth 100000 in
set_option maxHeartbeats 4000000 in
theorem lCheck_any (w : World) (hT : TabAt w) {S : Nat → Prop} {v : Value} {H Q : List Lk} (h : RdLs S w v H Q) (hnH : H.length ≤ 1000000) (hnQ : Q.length ≤ 1000000) :
    Calls Tryd.prog 14 #[v] w fun e w' => e = .returned (.bool (decide (okLk H Q))) ∧ Below w.heap.size w w' := by
  obtain ⟨aH, cH, aL, cL, rfl, hH, hQ⟩ := h
  obtain ⟨W0, hW, q, Bw, hsz⟩ := spBox w 24 [.slice aH H.length cH, .slice aL Q.length cL]
  clear hsz
  go_enter Tryd.func14, Tryd.ntmps14
  go_upto_region 1 with (fail)
  rw [show w.alloc (.cells #[.slice aH H.length cH, .slice aL Q.length cL] 24) = W0 from hW.symm]
  clear hW
  have b0 := Bw.cell (i := 0) rfl
  have b1 := Bw.cell (i := 1) rfl
  by_cases h40 : H.length + Q.length ≤ 40
  case neg =>
    have d40 : decide ((40 : Int) < (H.length : Int) + (Q.length : Int)) = true := decide_eq_true (by omega)
    have Hh := Lib.hid (show decide (okLk H Q) = false from decide_eq_false fun h => h40 h.1)
    clear h40
    go_wp2_with fail
    go_ret
    exact ⟨by first | (rw [Hh.out]; done) | (rw [Hh.out]; rfl), q⟩
  have d40 : decide ((40 : Int) < (H.length : Int) + (Q.length : Int)) = false := decide_eq_false (by omega)
  replace h40 := Lib.hid h40
  have hC1 := lContains_any W0 (hH.below q) _ #[] #[] eWrong _ tWrong
  go_wp2_with fail
  refine hC1.mono ?_
  rintro e w1 ⟨rfl, hb⟩
  replace q := q.trans (hb.mono q.size)
  replace Bw := Bw.below hb Bw.lt
  clear b0 b1 hC1 hb
  cases hw1 : H.any (fun y => !fine y) with
  | true =>
    have Hh := Lib.hid (show decide (okLk H Q) = false from decide_eq_false fun h => by
      obtain ⟨y, hy, h2⟩ := List.any_eq_true.1 hw1
      rw [h.2.1 y hy] at h2; cases h2)
    clear hw1
    go_wp2_with fail
    go_ret
    exact ⟨by first | (rw [Hh.out]; done) | (rw [Hh.out]; rfl), q⟩
  | false =>
  have hfH := Lib.hid (show ∀ x ∈ H, fine x = true from fun x hx => by simpa using List.any_eq_false.1 hw1 x hx)
  clear hw1
  have b0 := Bw.cell (i := 0) rfl
  have b1 := Bw.cell (i := 1) rfl
  have hC2 := lContains_any w1 (hQ.below q) _ #[] #[] eWrong _ tWrong
  go_wp2_with fail
  refine hC2.mono ?_
  rintro e w2 ⟨rfl, hb⟩
  replace q := q.trans (hb.mono q.size)
  replace Bw := Bw.below hb Bw.lt
  clear b0 b1 hC2 hb
  cases hw1 : Q.any (fun y => !fine y) with
  | true =>
    have Hh := Lib.hid (show decide (okLk H Q) = false from decide_eq_false fun h => by
      obtain ⟨y, hy, h2⟩ := List.any_eq_true.1 hw1
      rw [h.2.2.1 y hy] at h2; cases h2)
    clear hw1
    go_wp2_with fail
    go_ret
    exact ⟨by first | (rw [Hh.out]; done) | (rw [Hh.out]; rfl), q⟩
  | false =>
  have hfQ := Lib.hid (show ∀ x ∈ Q, fine x = true from fun x hx => by simpa using List.any_eq_false.1 hw1 x hx)
  clear hw1
  have b0 := Bw.cell (i := 0) rfl
  go_upto_region 4 with (fail)
  clear b0
  go_loopw [28] (fun iv wr => ∃ (k : Nat), iv = .int .i64 k ∧ k ≤ H.length ∧ okH (H.take k) ∧ BoxN wr w.heap.size 24 [.slice aH H.length cH, .slice aL Q.length cL] ∧ Below w.heap.size w wr)
    (fun i _ => H.length - (intOf i).toNat)
  case atStart => exact ⟨0, rfl, Nat.zero_le _, by simp [okH], Bw, q⟩
  case round =>
    clear q Bw
    obtain ⟨m, rfl, hkl, hoH, Bw, q⟩ := hrel
    replace hoH := Lib.hid hoH
    rcases Nat.lt_or_ge m H.length with hlt | hge
    · obtain ⟨b, off, KA, KC, VA, VC, rfl, hb, c0, c1, c2, c3, c4, c5, c6, hk1, hk2, hw64⟩ := (hH.below q).lk m hlt
      have hlen := hH.len
      obtain ⟨x, ex⟩ : ∃ x, x = H[m] := ⟨_, rfl⟩
      have exk := Lib.hid ex
      rw [← ex] at c0 c1 c2 c3 c4 c5 c6 hk1 hk2 hw64
      clear ex
      go_upto_region 6 with (first | (refine wpList_boxNew (vs := [.int .i64 0, .bool false, .int .i64 0, .slice none 0 0, .slice none 0 0, .bool false, .int .i64 0]) (by kernel_rfl) rfl rfl ?_; intro wa hba hBa) | (refine wpList_boxStore (us := [.int .i64 x.owner, .bool x.whole, .int .i64 x.span.table, .slice KA x.span.lo.length KC, .slice VA x.span.hi.length VC, .bool x.span.isOpen, .int .i64 x.mode]) (by kernel_rfl) rfl rfl rfl rfl rfl rfl hBa rfl ?_; intro W hgw hXW) | fail)
      go_simp
      have hbw : Below wr.heap.size wr W := hba.grown hgw hba.size fun k hk => by injection hk with hk; omega
      replace q := q.trans (hbw.mono q.size)
      replace Bw := Bw.below hbw Bw.lt
      have hx : RdLk S W (.agg #[.int .i64 x.owner, .bool x.whole, .int .i64 x.span.table, .slice KA x.span.lo.length KC, .slice VA x.span.hi.length VC, .bool x.span.isOpen, .int .i64 x.mode]) x := ⟨_, _, _, _, rfl, hk1.below hbw, hk2.below hbw, hw64⟩
      clear c0 c1 c2 c3 c4 c5 c6 hk1 hk2 hba hBa hgw hbw
      refine wp_region_lnl (K := fun A B => Below W.heap.size A B) (by kernel_rfl) (by kernel_rfl) [8, 9] (by kernel_rfl) [lEq (.agg #[.int .i64 x.owner, .bool x.whole, .int .i64 x.span.table, .slice KA x.span.lo.length KC, .slice VA x.span.hi.length VC, .bool x.span.isOpen, .int .i64 x.mode]), lEq (.agg #[.int .i64 x.owner, .bool x.whole, .int .i64 x.span.table, .slice KA x.span.lo.length KC, .slice VA x.span.hi.length VC, .bool x.span.isOpen, .int .i64 x.mode]), lEq (.pointer (some ⟨w.heap.size, 0 + 0, none⟩)), lEq (.slice (some ⟨b, off, none⟩) H.length cH), lEq (.int .i64 (m : Nat)), lEq (.slice (some ⟨b, off, none⟩) m cH), lEq (.agg #[.slice (some ⟨b, off, none⟩) m cH, .slice none 0 0]), lEq (.agg #[.int .i64 x.owner, .bool x.whole, .int .i64 x.span.table, .slice KA x.span.lo.length KC, .slice VA x.span.hi.length VC, .bool x.span.isOpen, .int .i64 x.mode, .slice (some ⟨b, off, none⟩) m cH, .slice none 0 0]), lAny, lAny] (AskJ W [.int .i64 x.owner, .bool x.whole, .int .i64 x.span.table, .slice KA x.span.lo.length KC, .slice VA x.span.hi.length VC, .bool x.span.isOpen, .int .i64 x.mode, .slice (some ⟨b, off, none⟩) m cH, .slice none 0 0]) AskJ.below (show Below W.heap.size W W from Below.refl _ _)
        ⟨?o0, ?o1, ?o2, ?o3, ?o4, ?o5, ?o6, ?o7, ?o8, ?o9, trivial⟩ ?fin
      case o0 =>
        refine LnOp.side rfl (by kernel_rfl) (fun A va w' k hF hT hk hJ hb hu hp hd => ?_)
        have e1 : A.eval (.tmp 4) = .pointer (some ⟨wr.heap.size, 0, none⟩) := hF 4 rfl
        have hX2 := hXW.below (AskJ.low hJ) hXW.lt
        exact wp_loadU (us := [.int .i64 x.owner, .bool x.whole, .int .i64 x.span.table, .slice KA x.span.lo.length KC, .slice VA x.span.hi.length VC, .bool x.span.isOpen, .int .i64 x.mode]) lkS rfl e1 (fun j u hj => by rw [Nat.zero_add]; exact hX2.cell hj) ⟨_, rfl, rfl, Below.refl _ _⟩
      case o1 =>
        refine LnOp.side rfl (by kernel_rfl) (fun A va w' k hF hT hk hJ hb hu hp hd => ?_)
        have e1 : A.eval (.tmp 33) = .agg #[.int .i64 x.owner, .bool x.whole, .int .i64 x.span.table, .slice KA x.span.lo.length KC, .slice VA x.span.hi.length VC, .bool x.span.isOpen, .int .i64 x.mode] := (hT 33 0 (by simp) rfl).trans (hd ⟨0, .data⟩ (by simp) rfl rfl)
        exact wp_bOne rfl e1 ⟨_, rfl, rfl, Below.refl _ _⟩
      case o2 =>
        refine LnOp.side rfl (by kernel_rfl) (fun A va w' k hF hT hk hJ hb hu hp hd => ?_)
        have e1 : A.eval (.tmp 1) = .pointer (some ⟨w.heap.size, 0, none⟩) := hF 1 rfl
        exact wp_fieldN lsS rfl (e1) (by omega) ⟨_, rfl, rfl, Below.refl _ _⟩
      case o3 =>
        refine LnOp.side rfl (by kernel_rfl) (fun A va w' k hF hT hk hJ hb hu hp hd => ?_)
        have e1 : A.eval (.tmp 35) = .pointer (some ⟨w.heap.size, 0 + 0, none⟩) := (hT 35 2 (by simp) rfl).trans (hd ⟨2, .data⟩ (by simp) rfl rfl)
        exact wp_ld_slice (e := 29) rfl (e1) (by kernel_rfl) ((Bw.below (AskJ.low hJ) Bw.lt).cell (i := 0) rfl) ⟨_, rfl, rfl, Below.refl _ _⟩
      case o4 =>
        refine LnOp.side rfl (by kernel_rfl) (fun A va w' k hF hT hk hJ hb hu hp hd => ?_)
        have e1 : A.eval (.tmp 3) = .int .i64 (m : Nat) := hF 3 rfl
        exact BigFrame.wp_move _ rfl ⟨_, rfl, e1, Below.refl _ _⟩
      case o5 =>
        refine LnOp.side rfl (by kernel_rfl) (fun A va w' k hF hT hk hJ hb hu hp hd => ?_)
        have e1 : A.eval (.tmp 36) = .slice (some ⟨b, off, none⟩) H.length cH := (hT 36 3 (by simp) rfl).trans (hd ⟨3, .data⟩ (by simp) rfl rfl)
        have e2 : A.eval (.tmp 37) = .int .i64 (m : Nat) := (hT 37 4 (by simp) rfl).trans (hd ⟨4, .data⟩ (by simp) rfl rfl)
        exact wp_sliceTo lkP.toLsP rfl e1 (congrArg some e2) (run_bounds_h _ (by omega)) ⟨_, rfl, rfl, Below.refl _ _⟩
      case o6 =>
        refine LnOp.side rfl (by kernel_rfl) (fun A va w' k hF hT hk hJ hb hu hp hd => ?_)
        have e1 : A.eval (.tmp 38) = .slice (some ⟨b, off, none⟩) m cH := (hT 38 5 (by simp) rfl).trans (hd ⟨5, .data⟩ (by simp) rfl rfl)
        exact wp_bLocks rfl e1 ⟨_, rfl, rfl, Below.refl _ _⟩
      case o7 =>
        refine LnOp.side rfl (by kernel_rfl) (fun A va w' k hF hT hk hJ hb hu hp hd => ?_)
        have e1 : A.eval (.tmp 34) = .agg #[.int .i64 x.owner, .bool x.whole, .int .i64 x.span.table, .slice KA x.span.lo.length KC, .slice VA x.span.hi.length VC, .bool x.span.isOpen, .int .i64 x.mode] := (hT 34 1 (by simp) rfl).trans (hd ⟨1, .data⟩ (by simp) rfl rfl)
        have e2 : A.eval (.tmp 39) = .agg #[.slice (some ⟨b, off, none⟩) m cH, .slice none 0 0] := (hT 39 6 (by simp) rfl).trans (hd ⟨6, .data⟩ (by simp) rfl rfl)
        exact wp_bAsk rfl e1 e2 ⟨_, rfl, rfl, Below.refl _ _⟩
      case o8 =>
        refine LnOp.line 0 rfl rfl (fun A va w' hF hT hJ hu hd => ?_)
        have hJ0 : Below W.heap.size W w' := hJ
        refine wp_boxNew (vs := [.int .i64 0, .bool false, .int .i64 0, .slice none 0 0, .slice none 0 0, .bool false, .int .i64 0, .slice none 0 0, .slice none 0 0]) (by kernel_rfl) rfl (fun w2 hb2 hz => ⟨_, rfl, ⟨hJ0.trans (hb2.mono hJ0.size), _, rfl, hJ0.size, hz⟩, hb2.mono hJ0.size⟩)
      case o9 =>
        refine LnOp.line 1 rfl rfl (fun A va w' hF hT hJ hu hd => ?_)
        have x1 : A.eval (.tmp 5) = va 8 := hT 5 8 (by simp) rfl
        have e2 : A.eval (.tmp 40) = .agg #[.int .i64 x.owner, .bool x.whole, .int .i64 x.span.table, .slice KA x.span.lo.length KC, .slice VA x.span.hi.length VC, .bool x.span.isOpen, .int .i64 x.mode, .slice (some ⟨b, off, none⟩) m cH, .slice none 0 0] := (hT 40 7 (by simp) rfl).trans (hd ⟨7, .data⟩ (by simp) rfl rfl)
        obtain ⟨hJ0, bA, eA, hbA, hzA⟩ := hJ
        refine wp_boxStore (vs := [.int .i64 0, .bool false, .int .i64 0, .slice none 0 0, .slice none 0 0, .bool false, .int .i64 0, .slice none 0 0, .slice none 0 0]) (us := [.int .i64 x.owner, .bool x.whole, .int .i64 x.span.table, .slice KA x.span.lo.length KC, .slice VA x.span.hi.length VC, .bool x.span.isOpen, .int .i64 x.mode, .slice (some ⟨b, off, none⟩) m cH, .slice none 0 0]) (by kernel_rfl) rfl (x1.trans eA) e2 rfl hzA rfl (fun w2 hg hz => ⟨_, rfl, ⟨hJ0.grown hg hJ0.size (fun k e => by injection e with e; omega), bA, eA, hbA, hz⟩, (Below.refl _ _).grown hg hJ0.size (fun k e => by injection e with e; omega)⟩)
      case fin =>
      intro vs1 W9 hJ hG
      obtain ⟨hJ0, bA, eA, hbA, hYW⟩ := hJ
      have g0 : vs1 0 = .agg #[.int .i64 x.owner, .bool x.whole, .int .i64 x.span.table, .slice KA x.span.lo.length KC, .slice VA x.span.hi.length VC, .bool x.span.isOpen, .int .i64 x.mode] := hG 0 (by decide) rfl
      have g1 : vs1 1 = .agg #[.int .i64 x.owner, .bool x.whole, .int .i64 x.span.table, .slice KA x.span.lo.length KC, .slice VA x.span.hi.length VC, .bool x.span.isOpen, .int .i64 x.mode] := hG 1 (by decide) rfl
      have g2 : vs1 2 = .pointer (some ⟨w.heap.size, 0 + 0, none⟩) := hG 2 (by decide) rfl
      have g3 : vs1 3 = .slice (some ⟨b, off, none⟩) H.length cH := hG 3 (by decide) rfl
      have g4 : vs1 4 = .int .i64 (m : Nat) := hG 4 (by decide) rfl
      have g5 : vs1 5 = .slice (some ⟨b, off, none⟩) m cH := hG 5 (by decide) rfl
      have g6 : vs1 6 = .agg #[.slice (some ⟨b, off, none⟩) m cH, .slice none 0 0] := hG 6 (by decide) rfl
      have g7 : vs1 7 = .agg #[.int .i64 x.owner, .bool x.whole, .int .i64 x.span.table, .slice KA x.span.lo.length KC, .slice VA x.span.hi.length VC, .bool x.span.isOpen, .int .i64 x.mode, .slice (some ⟨b, off, none⟩) m cH, .slice none 0 0] := hG 7 (by decide) rfl
      clear hG
      simp only [putAll, eA, g0, g1, g2, g3, g4, g5, g6, g7]
      clear eA g0 g1 g2 g3 g4 g5 g6 g7
      go_simp
      replace q := q.trans (hJ0.mono q.size)
      replace Bw := Bw.below hJ0 Bw.lt
      replace hx := hx.below hJ0
      clear hXW hJ0
      have htk : (H.take m).length = m := by rw [List.length_take]; omega
      have hC1 := blocked_any W9 (hT.below q) hx ((hH.below q).pre m) (Q := []) (RdL.nil Elt.lk S W9)
      rw [htk] at hC1
      replace htk := Lib.hid htk
      have e0 := hYW.cell (i := 0) rfl
      have e1 := hYW.cell (i := 1) rfl
      have e2 := hYW.cell (i := 2) rfl
      have e3 := hYW.cell (i := 3) rfl
      have e4 := hYW.cell (i := 4) rfl
      have e5 := hYW.cell (i := 5) rfl
      have e6 := hYW.cell (i := 6) rfl
      have e7 := hYW.cell (i := 7) rfl
      have e8 := hYW.cell (i := 8) rfl
      go_wp2_with fail
      refine hC1.mono ?_
      rintro e w3 ⟨rfl, hb3⟩
      replace q := q.trans (hb3.mono q.size)
      replace Bw := Bw.below hb3 Bw.lt
      replace hx := hx.below hb3
      replace hYW := hYW.below hb3 hYW.lt
      clear e0 e1 e2 e3 e4 e5 e6 e7 e8 hC1 hb3
      cases hbk : blk x (H.take m) [] with
      | true =>
        have Hh := Lib.hid (show decide (okLk H Q) = false from decide_eq_false fun h => by
          have h2 := ((okH_succ hlt).1 (okH_take h.2.2.2.1 (m + 1))).2.1
          rw [← exk.out, hbk] at h2; cases h2)
        clear hbk
        go_wp2_with fail
        go_ret
        exact ⟨by first | (rw [Hh.out]; done) | (rw [Hh.out]; rfl), q⟩
      | false =>
        replace hbk := Lib.hid hbk
        have hC2 := lContains_any w3 ((hH.below q).pre m) _ _ #[] eSame _ (tSame hx)
        rw [htk.out] at hC2
        have e0 := hYW.cell (i := 0) rfl
        have e1 := hYW.cell (i := 1) rfl
        have e2 := hYW.cell (i := 2) rfl
        have e3 := hYW.cell (i := 3) rfl
        have e4 := hYW.cell (i := 4) rfl
        have e5 := hYW.cell (i := 5) rfl
        have e6 := hYW.cell (i := 6) rfl
        have e7 := hYW.cell (i := 7) rfl
        have e8 := hYW.cell (i := 8) rfl
        go_wp2_with fail
        refine hC2.mono ?_
        rintro e w4 ⟨rfl, hb3⟩
        replace q := q.trans (hb3.mono q.size)
        replace Bw := Bw.below hb3 Bw.lt
        clear e0 e1 e2 e3 e4 e5 e6 e7 e8 hC2 hb3 hYW hx
        cases hbs : (H.take m).any (sameL x) with
        | true =>
          have Hh := Lib.hid (show decide (okLk H Q) = false from decide_eq_false fun h => by
            have h2 := ((okH_succ hlt).1 (okH_take h.2.2.2.1 (m + 1))).2.2
            rw [← exk.out, hbs] at h2; cases h2)
          clear hbs
          go_wp2_with fail
          go_ret
          exact ⟨by first | (rw [Hh.out]; done) | (rw [Hh.out]; rfl), q⟩
        | false =>
          have ho2 := Lib.hid ((okH_succ hlt).2 ⟨hoH.out, by rw [← exk.out]; exact hbk.out, by rw [← exk.out]; exact hbs⟩)
          clear hbs hoH hbk htk exk
          go_wp2_with fail
          go_roundw
          case rel => exact ⟨m + 1, by go_num, by omega, ho2.out, Bw, q⟩
          case measure => simp [intOf]; omega
    · obtain rfl : m = H.length := by omega
      have hoH2 := Lib.hid (show okH H by have := hoH.out; rwa [List.take_length] at this)
      clear hoH
      have zB := Bw.lt
      have b0 := Bw.cell (i := 0) rfl
      have b1 := Bw.cell (i := 1) rfl
      go_upto_region 11 with (first | (refine wpList_boxNew1 (u := .bool false) (by kernel_rfl) rfl rfl rfl ?_; intro wa hba hBa) | (refine wpList_boxSet (j := 0) rfl rfl rfl (by kernel_rfl) rfl rfl rfl rfl hBa (by simp) ?_; intro W hgw hIW) | fail)
      go_simp
      have hbw : Below wr.heap.size wr W := hba.grown hgw hba.size fun k hk => by injection hk with hk; omega
      have q9 := q.trans (hbw.mono q.size)
      have hTW := hT.below q9
      have h0W : 0 < wr.heap.size := by have := cell_lt (hT 1 1 rfl rfl); have := q.size; omega
      replace Bw := Bw.below hbw Bw.lt
      have zI := hIW.lt
      clear hba hBa hgw b0 b1
      have b0 := Bw.cell (i := 0) rfl
      have b1 := Bw.cell (i := 1) rfl
      have hIW2 : BoxN W wr.heap.size 4 [.bool true] := hIW
      have hlk := look_any (S := fun k => S k ∧ k < wr.heap.size) W (((hH.below q).fit).below hbw) (((hQ.below q).fit).below hbw) hnQ 42 #[.pointer (some ⟨wr.heap.size, 0, none⟩)] eCheck1 (fun k => k = wr.heap.size) (fun k hk => by omega) (fun k hk e => by have := hk.2; omega)
        (fun V => BoxN V wr.heap.size 4 [.bool true]) (fun A B hA hk => (hk _ rfl).trans hA) hIW2 (stayC H) (fun _ _ V => BoxN V wr.heap.size 4 [.bool false]) (fun p x A B hA hg => hA.other hg (fun e => by injection e with e; omega))
        (fun V x p x1 x2 x3 x4 aQ cQ ht hzV hSt hx hH2 hp => (check1_any V (ht.tab hTW (by omega)) hx hH2 hp hSt).mono (by
          rintro e V' ⟨rfl, hg, hI⟩
          refine ⟨Trd.ofGrown hg fun k hk => by injection hk with hk; exact hk.symm, ?_⟩
          cases hs : stayC H p x with
          | true => exact .inl ⟨rfl, rfl, by rw [hs] at hI; exact hI⟩
          | false => exact .inr ⟨rfl, rfl, by rw [hs] at hI; exact hI⟩))
      go_wp2_with fail
      refine hlk.mono ?_
      rintro e w3 ⟨⟨vv, rfl⟩, ht, hres⟩
      clear hlk b0 b1
      have q3 : Below w.heap.size w w3 := q9.trans (ht.below q9.size fun k hk e => by omega)
      rcases hres with ⟨hall, hI⟩ | ⟨i, hi, _, hno, hI⟩
      · have Hh := Lib.hid (show decide (okLk H Q) = true from decide_eq_true ⟨h40.out, hfH.out, hfQ.out, hoH2.out, okQ_stay.2 hall⟩)
        have i0 := hI.cell (i := 0) rfl
        clear hall
        go_wp2_with fail
        go_ret
        exact ⟨by first | (rw [Hh.out]; done) | (rw [Hh.out]; rfl), q3⟩
      · have Hh := Lib.hid (show decide (okLk H Q) = false from decide_eq_false fun h => by
          have := okQ_stay.1 h.2.2.2.2 i hi
          rw [hno] at this; cases this)
        have i0 := hI.cell (i := 0) rfl
        clear hno
        go_wp2_with fail
        go_ret
        exact ⟨by first | (rw [Hh.out]; done) | (rw [Hh.out]; rfl), q3⟩
end Go.Proofs.YtpdnehgboafgpaaDoor
