/-
  TEXTS OF ONE PROOF, merged: Col, Hlf, RpG, RpH, Rgd.
-/
import Derived.RangeFuncFrom
import Derived.Test.YtmcleffpjfeegaaRk7
namespace Go.Proofs.Ytmcleffpjfeegaa
open Go.RowKit
theorem cells_atP {w : World} {b : Nat} {t : TypeId} {us : List Value} (h : w.heap[b]? = some (.cells us.toArray t (0, 0))) (j : Nat) (u : Value) (hj : us[j]? = some u) : w.cell? (Addr.add ⟨b, 0, none⟩ j) = some u := by
  rw [Addr.add_lit, World.cell?, h]
  simpa using hj
theorem wp_storeSlP {P : Program} {o : Oper} {a : Act} {K : Act → World → Prop} {Q : Exit → Act → World → Prop} {w : World} {t : TypeId} {x y : Operand} {b f : Nat} {u : Value} {ad : Option Addr} {k c : Nat} (ho : o.op = .store t x y) (hu : (P.info? t).map (·.size) = some 1) (hx : a.eval x = .pointer (some ⟨b, f, none⟩)) (hy : a.eval y = .slice ad k c) (hc : w.cell? ⟨b, f, none⟩ = some u) (hf : w.frozen? ⟨b, f, none⟩ = false)
    (h : K (a.put o.dst undef) (w.setCell ⟨b, f, none⟩ (.slice ad k c))) : o.wp P a w K Q := by
  refine wp_skip ?_ h
  simp only [execOp, ho, hx, hy]
  simp [Instr.storeAt, storeVar, run_sizeOf hu, storeCells, Value.cells, run_store _ _ _ _ _ (show (Value.slice ad k c).oneCell' = true from rfl), hc, hf, go_sem]
def cellsAtP (w : World) (k : Nat) : Prop := ∃ o : Obj, w.heap[k]? = some o ∧ o.isCells = true
def OnlyP {α : Type} (E : Elt α) : Prop := ∀ (S : Nat → Prop) (w : World) (x : α) (vs : List Value), E.R S w x vs → E.R (fun k => S k ∧ cellsAtP w k) w x vs
theorem rdS_cellsP {S : Nat → Prop} {w : World} {v : Value} {xs : List UInt8} (h : RdS S w v xs) : RdS (fun k => S k ∧ cellsAtP w k) w v xs := by
  rcases h with h | ⟨b, off, cap, hv, hb, h1, h2, hc⟩
  · exact .inl h
  · cases xs with
    | nil => exact .inl ⟨_, _, hv, h2, rfl⟩
    | cons x r => exact .inr ⟨b, off, cap, hv, ⟨hb, cells_of_cell (hc 0 _ rfl)⟩, h1, h2, hc⟩
section
variable {α : Type} {E : Elt α} {T Te : TypeId} {base lo : Nat} {w w' : World} {v : Value} {xs : List α}
theorem Flat.cellsP (hE : OnlyP E) {S : Nat → Prop} : ∀ {xs : List α} {vs : List Value}, Flat E S w xs vs → Flat E (fun k => S k ∧ cellsAtP w k) w xs vs
  | [], _, h => h
  | _ :: _, _, ⟨us, ws, e, h1, h2⟩ => ⟨us, ws, e, hE _ _ _ _ h1, Flat.cellsP hE h2⟩
theorem OwnL.grownP (hE : OnlyP E) (h : OwnL E Te base lo w v xs) {row : Option Nat} (hg : w.grownBy w' row) (hr : ∀ r, row = some r → ∃ o : Obj, w.heap[r]? = some o ∧ o.isCells = false) : OwnL E Te base lo w' v xs := by
  obtain ⟨vs, h1, h2⟩ := h
  refine ⟨vs, ⟨h1.1, ?_⟩, ((Flat.cellsP hE h2).keep fun k hk => ?_).weak fun k hk => ⟨hk.1.1, Nat.lt_of_lt_of_le hk.1.2.1 hg.size, hk.1.2.2⟩⟩
  · rcases h1.2 with h | ⟨g, cap, cur, hv, hb, hg2, r⟩
    · exact .inl h
    · exact .inr ⟨g, cap, cur, hv, hb, (grownBy_keeps_cells hg hr hg2 rfl).trans hg2, r⟩
  · obtain ⟨o, ho, hc⟩ := hk.2
    exact grownBy_keeps_cells hg hr ho hc
theorem own_typeP {k : Nat} (h : OwnL E Te base lo w v xs) (hk : v.ownBlock = some k) : ∃ c r, w.heap[k]? = some (.cells c Te r) := by
  obtain ⟨vs, h1, _⟩ := h
  rcases h1.2 with ⟨rfl, _⟩ | ⟨g, cap, cur, rfl, _, hg, _⟩
  · cases hk
  · injection hk with hk
    subst hk
    exact ⟨_, _, hg⟩
def BoxLP (E : Elt α) (T Te : TypeId) (B base lo : Nat) (w : World) (xs : List α) : Prop := ∃ a k c, Boxed w B T (.slice a k c) ∧ OwnL E Te base lo w (.slice a k c) xs
theorem BoxLP.own {β : Type} {N : Nat} {B : Nat} (hE : OnlyP E) (f : β → List α) : OwnFrom N (fun s W => BoxLP E T Te B base lo W (f s)) := fun _ _ _ _ ⟨a, k, c, h1, h2⟩ hg hr =>
  ⟨a, k, c, h1.kept hg (fun e => by obtain ⟨_, o, ho, hc⟩ := hr _ e.symm; rw [h1] at ho; cases ho; cases hc), OwnL.grownP hE h2 hg fun r e => (hr r e).2⟩
end
structure ColP {α : Type} (E : Elt α) (T Te : TypeId) (B base lo : Nat) (W : World) (v : Value) (xs : List α) (x : α) (C : World → Value → Prop) (o0 o2 o3 o4 o5 : Option Value) (w' : World) : Prop where
  ld : ∀ u, o0 = some u → u = v
  el : ∀ u, o2 = some u → C w' u
  rw : ∀ u, o3 = some u → o4 = none → ∃ b us, u = .slice (some ⟨b, 0, none⟩) 1 1 ∧ W.heap.size ≤ b ∧ w'.heap[b]? = some (.cells us.toArray Te (0, 0)) ∧ E.R (fun g => lo ≤ g ∧ g < w'.heap.size ∧ some g ≠ v.ownBlock) w' x us
  tr : Trd (fun k => (o4 ≠ none ∧ some k = v.ownBlock) ∨ (o5 ≠ none ∧ k = B)) W w'
  ap : ∀ u, o4 = some u → ∃ a k c, u = .slice a k c ∧ OwnL E Te base lo w' u (xs ++ [x])
  no : o4 = none → o5 = none
  dn : o4 ≠ none → o0 ≠ none ∧ o3 ≠ none
  st : ∀ u, o5 = some u → ∃ a, o4 = some a ∧ Boxed w' B T a
def ColLP {α : Type} (E : Elt α) (T Te : TypeId) (B base lo : Nat) (W : World) (v : Value) (xs : List α) (x : α) (C : World → Value → Prop) : List (Option Value) → World → Prop
  | [o0, o2, o3, o4, o5], w' => ColP E T Te B base lo W v xs x C o0 o2 o3 o4 o5 w'
  | _, _ => False
section
variable {α : Type} {E : Elt α} {T Te : TypeId} {B base lo : Nat} {W w' w2 : World} {v : Value} {xs : List α} {x : α} {C : World → Value → Prop} {o0 o2 o3 o4 o5 : Option Value}
theorem ColP.start (W : World) : ColP E T Te B base lo W v xs x C none none none none none W :=
  ⟨fun _ h => (by cases h), fun _ h => (by cases h), fun _ h => (by cases h), Trd.refl _ _, fun _ h => (by cases h), fun _ => rfl, fun h => absurd rfl h, fun _ h => (by cases h)⟩
theorem ColP.more (hC : ∀ w u w', C w u → Below w.heap.size w w' → C w' u) (h : ColP E T Te B base lo W v xs x C o0 o2 o3 o4 o5 w') (hb : Below w'.heap.size w' w2) : ColP E T Te B base lo W v xs x C o0 o2 o3 o4 o5 w2 where
  ld := h.ld
  el u hu := hC _ _ _ (h.el u hu) hb
  rw u hu h4 := by
    obtain ⟨b, us, e, h1, h2, h3⟩ := h.rw u hu h4
    exact ⟨b, us, e, h1, (hb.block b (Array.getElem?_eq_some_iff.1 h2).1).trans h2, E.weak (E.keep h3 fun g hg => hb.block g hg.2.1) fun g hg => ⟨hg.1, Nat.lt_of_lt_of_le hg.2.1 hb.size, hg.2.2⟩⟩
  tr := h.tr.trans (Trd.of (F := fun _ => False) hb) fun _ _ h => h.elim
  ap u hu := by
    obtain ⟨a, k, c, e, h1⟩ := h.ap u hu
    exact ⟨a, k, c, e, h1.below hb⟩
  no := h.no
  dn := h.dn
  st u hu := by
    obtain ⟨a, e, h1⟩ := h.st u hu
    exact ⟨a, e, (hb.block B h1.lt).trans h1⟩
theorem ColLP.more (hC : ∀ w u w', C w u → Below w.heap.size w w' → C w' u) : ∀ (l : List (Option Value)) (w w' : World), ColLP E T Te B base lo W v xs x C l w → Below w.heap.size w w' → ColLP E T Te B base lo W v xs x C l w'
  | [_, _, _, _, _], _, _, h, hb => ColP.more hC h hb
theorem ColP.done {n₀ : Nat} {u a : Value} (h : ColP E T Te B base lo W v xs x C o0 o2 o3 (some a) (some u) w') (hb : Boxed W B T v) (hO : OwnL E Te base lo W v xs) (hn : n₀ ≤ base) (hB : n₀ ≤ B) (N : Nat) :
    KeepsFrom N W w' ∧ Below n₀ W w' ∧ BoxLP E T Te B base lo w' (xs ++ [x]) := by
  have hF : ∀ k, ((some a ≠ none ∧ some k = v.ownBlock) ∨ (some u ≠ none ∧ k = B)) → (base ≤ k ∨ k = B) ∧ ∃ c T' r, W.heap[k]? = some (.cells c T' r) := by
    rintro k (⟨_, e⟩ | ⟨_, rfl⟩)
    · obtain ⟨c, r, e2⟩ := own_typeP hO e.symm
      exact ⟨.inl (hO.block_lt k e.symm).1, c, Te, r, e2⟩
    · exact ⟨.inr rfl, _, _, _, hb⟩
  refine ⟨⟨h.tr.size, fun k o _ hk ho => (h.tr.block k (Array.getElem?_eq_some_iff.1 hk).1 fun e => ?_).trans hk⟩, h.tr.below (n := n₀) ?_ fun k hk e => ?_, ?_⟩
  · obtain ⟨_, c, T', r, e2⟩ := hF k e
    rw [hk] at e2
    cases e2
    cases ho
  · have := hb.lt; omega
  · have := (hF k e).1; omega
  · obtain ⟨a', k, c, e, h1⟩ := h.ap a rfl
    obtain ⟨a2, e2, h2⟩ := h.st u rfl
    injection e2 with e2
    subst e2 e
    exact ⟨a', k, c, h2, h1⟩
end
section
variable {α : Type} {E : Elt α} {P : Program} {T Te : TypeId} {B base lo : Nat} {W w' : World} {v : Value} {xs : List α} {x : α} {C : World → Value → Prop} {o0 o2 o3 o4 o5 : Option Value} {o : Oper} {a : Act} {K : Act → World → Prop} {Q : Exit → Act → World → Prop}
theorem ColP.load (h : ColP E T Te B base lo W v xs x C none o2 o3 o4 o5 w') (hb : Boxed W B T v) : Boxed w' B T v ∧ ColP E T Te B base lo W v xs x C (some v) o2 o3 o4 o5 w' := by
  have h4 : o4 = none := by
    cases o4 with
    | none => rfl
    | some u => exact absurd rfl (h.dn (by simp)).1
  have h5 := h.no h4
  subst h4 h5
  exact ⟨(h.tr.block B hb.lt fun e => e.elim (fun e => e.1 rfl) fun e => e.1 rfl).trans hb, ⟨fun u hu => by injection hu with hu; exact hu.symm, h.el, h.rw, h.tr, h.ap, h.no, fun e => absurd rfl e, h.st⟩⟩
theorem ColP.elem (hC : ∀ w u w', C w u → Below w.heap.size w w' → C w' u) (h : ColP E T Te B base lo W v xs x C o0 none o3 o4 o5 w') {w2 : World} {u : Value} (hb : Below w'.heap.size w' w2) (hu : C w2 u) : ColP E T Te B base lo W v xs x C o0 (some u) o3 o4 o5 w2 := by
  have h2 := h.more hC hb
  exact ⟨h2.ld, fun u' h' => by injection h' with h'; exact h' ▸ hu, h2.rw, h2.tr, h2.ap, h2.no, h2.dn, h2.st⟩
theorem ColP.build (hP : LoP P T Te E.size) (h : ColP E T Te B base lo W v xs x C o0 o2 none none none w') {y : Operand} {u : Value} {us : List Value} (ho : o.op = .buildSlice T 1 #[(0, y)]) (hy : a.eval y = u) (hu : u.cells = us.toArray)
    (hx : E.R (fun g => lo ≤ g ∧ g < w'.heap.size ∧ some g ≠ v.ownBlock) w' x us) (hn : E.size ≤ 4096) (hC : ∀ w u w', C w u → Below w.heap.size w w' → C w' u)
    (hk : ∀ r w2, ColP E T Te B base lo W v xs x C o0 o2 (some r) none none w2 → K (a.put o.dst r) w2) : o.wp P a w' K Q := by
  have hb : Below w'.heap.size w' (w'.alloc (.cells us.toArray Te)) := (Below.refl _ _).alloc (Nat.le_refl _) _
  refine wp_buildOne hP ho hy hu (E.len hx) E.pos hn (hk _ _ ?_)
  have h2 := h.more hC hb
  exact ⟨h2.ld, h2.el, fun u' hu' _ => by
    injection hu' with hu'
    exact ⟨_, us, hu'.symm, h.tr.size, by simp only [World.alloc, Array.getElem?_push_size], E.weak (E.keep hx fun g hg => hb.block g hg.2.1) fun g hg => ⟨hg.1, Nat.lt_of_lt_of_le hg.2.1 hb.size, hg.2.2⟩⟩, h2.tr, h2.ap, h2.no, fun e => absurd rfl e, h2.st⟩
theorem ColP.app (hP : LoP P T Te E.size) {r : Value} (h : ColP E T Te B base lo W v xs x C o0 o2 (some r) none none w') (h0 : o0 ≠ none) {s y : Operand} (ho : o.op = .call { callee := .builtin .append, args := #[s, y], argTypes := #[T, T] }) (hs : a.eval s = v) (hy : a.eval y = r)
    (hO : OwnL E Te base lo W v xs) (hbW : base ≤ W.heap.size) (hlen : xs.length + 1 ≤ 1073741824) (hC : ∀ w u w', C w u → w.grownBy w' v.ownBlock → C w' u)
    (hk : ∀ r2 w2, ColP E T Te B base lo W v xs x C o0 o2 (some r) (some r2) none w2 → K (a.put o.dst r2) w2) : o.wp P a w' K Q := by
  obtain ⟨b, us, rfl, h1, h2, h3⟩ := h.rw _ rfl rfl
  have hbl : Below W.heap.size W w' := h.tr.below (Nat.le_refl _) fun k _ e => by rcases e with ⟨e, _⟩ | ⟨e, _⟩ <;> exact e rfl
  refine wp_appendL (ys := [x]) hP ho hs (hO.below hbl) hy (cells_atP h2) (Flat.single h3) (fun k hk => hk) (Nat.le_trans hbW hbl.size) (fun ad k cap w2 g1 g2 _ => hk _ _ ?_) (by simpa using hlen)
  have htr : Trd (fun k => (some (Value.slice ad k cap) ≠ none ∧ some k = v.ownBlock) ∨ (@none Value ≠ none ∧ k = B)) W w2 :=
    (Trd.of (F := fun k => (some (Value.slice ad k cap) ≠ none ∧ some k = v.ownBlock) ∨ (@none Value ≠ none ∧ k = B)) hbl).trans (Trd.ofGrown g2 (F := fun k => some k = v.ownBlock) fun k e => e.symm) fun k _ e => .inl ⟨by simp, e⟩
  exact
    { ld := h.ld
      el := fun u hu => hC _ _ _ (h.el u hu) g2
      rw := fun _ _ e => by cases e
      tr := htr.mono fun k _ e => e.imp (fun e => ⟨by simp, e.2⟩) fun e => ⟨e.1, e.2⟩
      ap := fun u hu => by
        injection hu with hu
        exact ⟨ad, k, cap, hu.symm, hu ▸ g1⟩
      no := fun e => by cases e
      dn := fun _ => ⟨h0, by simp⟩
      st := fun _ e => by cases e }
theorem ColP.sto {r2 : Value} (h : ColP E T Te B base lo W v xs x C o0 o2 o3 (some r2) none w') {p y : Operand} (ho : o.op = .store T p y) (hT : (P.info? T).map (·.size) = some 1) (hp : a.eval p = .pointer (some ⟨B, 0, none⟩)) (hy : a.eval y = r2)
    (hb : Boxed W B T v) (hO : OwnL E Te base lo W v xs) (hBb : B < base) (hBl : B < lo) (hC : ∀ w u w', C w u → w.grownBy w' (some B) → C w' u)
    (hk : ∀ w2, ColP E T Te B base lo W v xs x C o0 o2 o3 (some r2) (some undef) w2 → K (a.put o.dst undef) w2) : o.wp P a w' K Q := by
  obtain ⟨ad, k, c, rfl, h1⟩ := h.ap _ rfl
  have hB : Boxed w' B T v := (h.tr.block B hb.lt fun e => e.elim (fun e => by have := (hO.block_lt B e.2.symm).1; omega) fun e => e.1 rfl).trans hb
  refine wp_storeSlP ho hT hp hy hB.cell hB.frozen (hk _ ?_)
  have hg := grownBy_setCell' w' B (.slice ad k c)
  exact
    { ld := h.ld
      el := fun u hu => hC _ _ _ (h.el u hu) hg
      rw := fun _ _ e => by cases e
      tr := by
        have h5 := h.tr.mono (F' := fun i => (some (Value.slice ad k c) ≠ none ∧ some i = v.ownBlock) ∨ (some undef ≠ none ∧ i = B)) fun i _ e => e.imp id fun e => ⟨by simp, e.2⟩
        exact h5.trans (Trd.ofGrown hg (F := fun i => i = B) fun i e => by injection e with e; exact e.symm) fun i _ e => .inr ⟨by simp, e⟩
      ap := fun u hu => by
        injection hu with hu
        exact ⟨ad, k, c, hu.symm, hu ▸ h1.other hg hBl hBb⟩
      no := fun e => by cases e
      dn := fun _ => h.dn (by simp)
      st := fun u _ => ⟨_, rfl, hB.set _⟩ }
end
end Go.Proofs.Ytmcleffpjfeegaa
namespace Go.Proofs.Ytmcleffpjfeegaa
open Go.RowKit
section
variable {α : Type} {E : Elt α} {T Te : TypeId} {P : Program} {B n0 k : Nat} {w w' : World} {v : Value} {xs : List α}
def RowO (E : Elt α) (Te : TypeId) (n0 : Nat) (w : World) (v : Value) (xs : List α) : Prop :=
  ∃ vs, RowQ Te E.size w v xs.length vs ∧ ∀ r (h : r < xs.length), ∃ us, E.R (· < n0) w xs[r] us ∧ ∀ j u, us[j]? = some u → vs[r * E.size + j]? = some u
def HfS (B n0 k r j : Nat) : Prop := (r < k → B ≤ j) ∧ (k ≤ r → j < n0)
def PtH (E : Elt α) (B n0 : Nat) (w : World) (xs : List α) (k : Nat) (vs : List Value) : Prop := ∀ r (h : r < xs.length), ∃ us, E.R (HfS B n0 k r) w xs[r] us ∧ ∀ j u, us[j]? = some u → vs[r * E.size + j]? = some u
def RowH (E : Elt α) (Te : TypeId) (B n0 : Nat) (w : World) (v : Value) (xs : List α) (k : Nat) : Prop := ∃ vs, RowQ Te E.size w v xs.length vs ∧ PtH E B n0 w xs k vs
theorem RowO.kept (h : RowO E Te n0 w v xs) (ho : ∀ g, v.ownBlock = some g → w'.heap[g]? = w.heap[g]?) (hk : ∀ j, j < n0 → j < w.heap.size → w'.heap[j]? = w.heap[j]?) : RowO E Te n0 w' v xs := by
  obtain ⟨vs, h1, h2⟩ := h
  refine ⟨vs, h1.kept ho, fun r hr => ?_⟩
  obtain ⟨us, h3, h4⟩ := h2 r hr
  exact ⟨us, E.weak (E.keep (E.fit h3) fun j hj => hk j hj.1 hj.2) fun _ hj => hj.1, h4⟩
theorem RowO.below (h : RowO E Te n0 w v xs) (hb : Below w.heap.size w w') : RowO E Te n0 w' v xs := by
  refine h.kept (fun g hg => ?_) fun j _ hj => hb.block j hj
  obtain ⟨vs, h1, _⟩ := h
  exact hb.block g (h1.lt hg)
theorem RowO.start (h : RowO E Te n0 w v xs) (B : Nat) : RowH E Te B n0 w v xs 0 := by
  obtain ⟨vs, h1, h2⟩ := h
  refine ⟨vs, h1, fun r hr => ?_⟩
  obtain ⟨us, h3, h4⟩ := h2 r hr
  exact ⟨us, E.weak h3 fun j hj => ⟨fun e => absurd e (Nat.not_lt_zero _), fun _ => hj⟩, h4⟩
theorem RowO.lt (h : RowO E Te n0 w v xs) {g : Nat} (hg : v.ownBlock = some g) : g < w.heap.size := let ⟨_, h1, _⟩ := h; h1.lt hg
theorem PtH.keep {vs : List Value} (h : PtH E B n0 w xs k vs) (hk : ∀ j, j < n0 ∨ B ≤ j → j < w.heap.size → w'.heap[j]? = w.heap[j]?) : PtH E B n0 w' xs k vs := fun r hr => by
  obtain ⟨us, h3, h4⟩ := h r hr
  refine ⟨us, E.weak (E.keep (E.fit h3) fun j hj => hk j ?_ hj.2) fun _ hj => hj.1, h4⟩
  rcases Nat.lt_or_ge r k with h5 | h5
  · exact .inr (hj.1.1 h5)
  · exact .inl (hj.1.2 h5)
theorem RowH.kept (h : RowH E Te B n0 w v xs k) (ho : ∀ g, v.ownBlock = some g → w'.heap[g]? = w.heap[g]?) (hk : ∀ j, j < n0 ∨ B ≤ j → j < w.heap.size → w'.heap[j]? = w.heap[j]?) : RowH E Te B n0 w' v xs k := by
  obtain ⟨vs, h1, h2⟩ := h
  exact ⟨vs, h1.kept ho, h2.keep hk⟩
theorem RowH.below (h : RowH E Te B n0 w v xs k) (hb : Below w.heap.size w w') : RowH E Te B n0 w' v xs k := by
  refine h.kept (fun g hg => ?_) fun j _ hj => hb.block j hj
  obtain ⟨vs, h1, _⟩ := h
  exact hb.block g (h1.lt hg)
theorem RowH.lt (h : RowH E Te B n0 w v xs k) {g : Nat} (hg : v.ownBlock = some g) : g < w.heap.size := let ⟨_, h1, _⟩ := h; h1.lt hg
theorem RowQ.place {a : Option Addr} {n c : Nat} {vs : List Value} {sz : Nat} (h : RowQ Te sz w (.slice a n c) n vs) (hn : 0 < n) : ∃ g, a = some ⟨g, 0, none⟩ := by
  rcases h.cases with ⟨e, h1, _⟩ | ⟨g, cap, cur, e, _⟩
  · omega
  · injection e with e
    exact ⟨g, e⟩
theorem RowH.step {vs vs' us : List Value} (hk : k < xs.length) (hp : PtH E B n0 w xs k vs) (hr : RowQ Te E.size w' v xs.length vs') (hs : ∀ j, j < n0 ∨ B ≤ j → j < w.heap.size → w'.heap[j]? = w.heap[j]?)
    (ho : ∀ r j, r ≠ k → j < E.size → vs'[r * E.size + j]? = vs[r * E.size + j]?) (hx : E.R (B ≤ ·) w' xs[k] us) (hc : ∀ j u, us[j]? = some u → vs'[k * E.size + j]? = some u) : RowH E Te B n0 w' v xs (k + 1) := by
  refine ⟨vs', hr, fun r hr => ?_⟩
  by_cases e : r = k
  · subst e
    exact ⟨us, E.weak hx fun j hj => ⟨fun _ => hj, fun h => by omega⟩, hc⟩
  · obtain ⟨us2, h3, h4⟩ := (hp.keep hs) r hr
    refine ⟨us2, E.weak h3 fun j hj => ⟨fun h => hj.1 (by omega), fun h => hj.2 (by omega)⟩, fun j u hj => ?_⟩
    have hj2 : j < E.size := by have := E.len h3; have := (List.getElem?_eq_some_iff.1 hj).1; omega
    rw [ho r j e hj2]
    exact h4 j u hj
theorem RowH.rdL (h : RowH E Te B n0 w v xs xs.length) : RdL E (fun j => B ≤ j ∨ v.ownBlock = some j) w v xs := by
  obtain ⟨vs, h1, h2⟩ := h
  have hx := h1
  rcases h1.cases with ⟨rfl, h0, _⟩ | ⟨g, cap, cur, rfl, _, hn, hc, _⟩
  · obtain rfl : xs = [] := List.eq_nil_of_length_eq_zero h0
    exact RdL.nil _ _ _
  · refine ⟨_, cap, rfl, hn, hc, .inr ⟨g, 0, rfl, .inr rfl, fun r hr => ?_⟩⟩
    obtain ⟨us, h3, h4⟩ := h2 r hr
    refine ⟨us, E.weak h3 fun j hj => .inl (hj.1 hr), fun j u hj => ?_⟩
    have := hx.cell (g := g) rfl (h4 j u hj)
    rwa [Nat.zero_add]
theorem run_append_zeroO (hP : LoP P T Te E.size) (w : World) {base : Nat} (ty : TypeId) {g : Addr} {ax : Option Addr} {cx nx : Nat} {ys : List α} (hown : OwnL E Te base 0 w (.slice (some g) 0 0) []) (hx : RdL E (· < n0) w (.slice ax nx cx) ys) (hn0 : n0 ≤ w.heap.size) (hbase : base ≤ w.heap.size) (hlen : ys.length ≤ 1073741824) :
    ∃ v' w', (Builtin.append_ #[T, T] ty #[.slice (some g) 0 0, .slice ax nx cx]).run P w = .ok v' w' ∧ RowO E Te n0 w' v' ys ∧ (∀ j, v'.ownBlock = some j → base ≤ j) ∧ Below w.heap.size w w' := by
  obtain ⟨i, z, hi, hz, hsz, hby, hzs⟩ := hP.all
  obtain ⟨rfl, _, _⟩ := hx.len
  by_cases h0 : ys = []
  · subst h0
    have hsrc : Src P i.size T (.slice ax 0 cx) 0 [] w := by
      cases ax with
      | none => exact Src.ofNil w hP.hT cx
      | some p => exact Src.ofSlice w hP.hT p 0 cx [] (by simp) (fun j u h => by simp at h) (fun u h => by cases h)
    refine ⟨_, w, run_append_nothing w T T ty Te i hP.hT hi (some g) 0 0 (Nat.le_refl _) _ hsrc, ?_, fun j hj => (hown.block_lt j hj).1, Below.refl _ _⟩
    obtain ⟨vs, ⟨h1, h2⟩, hf⟩ := hown
    cases hf
    refine ⟨[], ⟨⟨h1, ?_⟩, fun u hu => by cases hu⟩, fun r hr => absurd hr (Nat.not_lt_zero _)⟩
    rcases h2 with h2 | ⟨g', cap, cur, e, _, h3⟩
    · exact .inl h2
    · exact .inr ⟨g', cap, cur, e, Nat.zero_le _, h3⟩
  · have hpos : 0 < ys.length := List.length_pos_iff.2 h0
    obtain ⟨b, off, _, rfl, _⟩ := hx.at 0 hpos
    obtain ⟨ns, hn, hc⟩ := hx.flat
    have hnl := hn.len
    have hsrc : Src P i.size T (.slice (some ⟨b, off, none⟩) ys.length cx) ys.length ns w :=
      Src.ofSlice w hP.hT _ _ _ _ (by rw [hnl, hsz]) (fun j u hj => by rw [Addr.add_lit]; exact hc j u hj) hn.one
    have hbytes : (ys.length) * i.bytes ≤ 1073741824 * 4096 := Nat.mul_le_mul hlen hby
    have hr := run_append_grow_src (P := P) w T T ty Te i z hP.hT hi hz (some g) 0 0 [] (run_firstCells_some w.drew i.size 0 g 0 0 [] (by simp) (fun j u h => by simp at h)) _ _ _ hsrc (by omega) (by omega)
      (growslice_fits (by simp only [Nat.zero_add]; omega) (by simp only [Nat.zero_add]; omega))
    have hb : Below w.heap.size w (w.drew.alloc (.cells (([] ++ ns : List Value).toArray ++ Builtin.zeroCells z.cells (grownCap w (0 + ys.length) 0 Te - (0 + ys.length))) Te)) := ((Below.refl _ w).drew).alloc (Nat.le_refl _) _
    have hge := grownCap_ge w (0 + ys.length) 0 Te
    have hone := hn.one
    refine ⟨_, _, hr, ⟨ns, ?_, fun r hr => ?_⟩, fun j hj => by simp only [Value.ownBlock] at hj; injection hj with hj; show base ≤ j; have : j = w.heap.size := hj.symm; omega, hb⟩
    · rw [Nat.zero_add] at hge ⊢
      refine RowQ.of (heap_alloc_new w.drew _) (by omega) (grownCap_le_maxLen w _ _ _ (by unfold maxLen; omega)) ?_ ?_ hone
      · simp [size_zeroCells, hnl, hzs]
        rw [← Nat.add_mul]
        congr 1
        omega
      · simp only [List.nil_append, Array.toList_append]
        rw [← hnl]
        simp
    · obtain ⟨us, h3, h4⟩ := hn.at r hr
      exact ⟨us, E.keep h3 fun k hk => hb.block k (Nat.lt_of_lt_of_le hk hn0), h4⟩
variable {ops : Array Oper} {rest : List Oper} {o : Oper} {a : Act} {Q : Exit → Act → World → Prop} {K : Act → World → Prop}
theorem wpList_append_zeroO (hP : LoP P T Te E.size) {s x : Operand} (ho : o.op = .call { callee := .builtin .append, args := #[s, x], argTypes := #[T, T] }) (hgd : Region.wanted o (yielded ops a.tmps) = true)
    {base : Nat} {g : Addr} {ax : Option Addr} {cx nx : Nat} {ys : List α} (hs : a.eval s = .slice (some g) 0 0) (hown : OwnL E Te base 0 w (.slice (some g) 0 0) []) (hx : a.eval x = .slice ax nx cx) (hr : RdL E (· < n0) w (.slice ax nx cx) ys) (hn0 : n0 ≤ w.heap.size) (hbase : base ≤ w.heap.size)
    (h : ∀ ad cap w', RowO E Te n0 w' (.slice ad ys.length cap) ys → (∀ j, (Value.slice ad ys.length cap).ownBlock = some j → base ≤ j) → Below w.heap.size w w' → wpList P ops Q rest (a.put o.dst (.slice ad ys.length cap)) w') (hlen : ys.length ≤ 1073741824) : wpList P ops Q (o :: rest) a w := by
  refine BigFrame.wpList_want hgd fun K hK => ?_
  obtain ⟨v', w', hrun, h2, h3, h4⟩ := run_append_zeroO hP w o.type hown hr hn0 hbase hlen
  obtain ⟨ad, cap, rfl, _⟩ : ∃ a c, v' = .slice a ys.length c ∧ True := by
    obtain ⟨vs, hq, _⟩ := h2
    obtain ⟨a, c, e, _⟩ := hq.shape
    exact ⟨a, c, e, trivial⟩
  unfold Oper.wp execOp
  simp only [ho, resolve, invoke, builtin, Sem.run_bind, Sem.run_pure, Result.andThen_ok, List.map_toArray, List.map_cons, List.map_nil, hs, hx, hrun]
  exact hK _ _ (h _ _ _ h2 h3 h4)
end
section
variable {P : Program} {o : Oper} {a : Act} {K : Act → World → Prop} {Q : Exit → Act → World → Prop} {w : World} {Te : TypeId} {sz n g : Nat} {V : Value} {vs : List Value}
theorem RowQ.froz (h : RowQ Te sz w V n vs) (hg : V.ownBlock = some g) (j : Nat) : w.frozen? ⟨g, j, none⟩ = false := by
  obtain ⟨cur, hb⟩ := h.block hg
  simp [World.frozen?, hb]
theorem RowQ.putC (h : RowQ Te sz w V n vs) (hg : V.ownBlock = some g) {j : Nat} {u : Value} (hu : u.oneCell' = true) : RowQ Te sz (w.setCell ⟨g, j, none⟩ u) V n (vs.set j u) := by
  rcases h.cases with ⟨rfl, _, _⟩ | ⟨g', cap, cur, rfl, hb, h1, h2, h3, h4⟩
  · simp [Value.ownBlock] at hg
  · simp [Value.ownBlock] at hg
    subst hg
    refine RowQ.of (cur := cur.setIfInBounds j u) ?_ h1 h2 (by simp [h3]) ?_ fun x hx => ?_
    · simp only [World.setCell, Array.getElem?_modify, hb]
      simp
    · rw [Array.toList_setIfInBounds, List.take_set, h4]
    · rcases List.mem_or_eq_of_mem_set hx with hx | rfl
      · exact h.2 x hx
      · exact hu
theorem wp_putC {t : TypeId} {x y : Operand} {ad : Option Addr} {k c j : Nat} (ho : o.op = .store t x y) (ht : (P.info? t).map (·.size) = some 1) (hx : a.eval x = .pointer (some ⟨g, j, none⟩)) (hy : a.eval y = .slice ad k c) (hr : RowQ Te sz w V n vs) (hg : V.ownBlock = some g) (hj : j < vs.length)
    (h : ∀ w', w.grownBy w' (some g) → RowQ Te sz w' V n (vs.set j (.slice ad k c)) → K (a.put o.dst undef) w') : o.wp P a w K Q := by
  have hc := hr.cell hg (List.getElem?_eq_getElem hj)
  have hf := hr.froz hg j
  refine wp_skip ?_ (h (w.setCell ⟨g, j, none⟩ (.slice ad k c)) ⟨rfl, rfl, rfl, by simp [World.setCell], fun k' _ hk => heap_setCell_other _ ⟨g, j, none⟩ k' _ fun e => hk (by rw [e])⟩ (hr.putC hg rfl))
  simp only [execOp, ho, hx, hy]
  simp [Instr.storeAt, storeVar, run_sizeOf' ht, storeCells, Value.cells, run_store _ _ _ _ _ (show (Value.slice ad k c).oneCell' = true from rfl), hc, hf, go_sem]
end
def NwB (W V : World) (k : Value) (xs : List UInt8) : Prop := ∃ a c, k = .slice a xs.length c ∧ RdS (fun g => W.heap.size ≤ g ∧ g < V.heap.size) V (.slice a xs.length c) xs
theorem NwB.below {W V V' : World} {k : Value} {xs : List UInt8} (h : NwB W V k xs) (hb : Below V.heap.size V V') : NwB W V' k xs := by
  obtain ⟨a, c, e, hr⟩ := h
  exact ⟨a, c, e, (hr.below hb).weak fun g hg => ⟨hg.1, Nat.lt_of_lt_of_le hg.2 hb.size⟩⟩
theorem NwB.grown {W V V' : World} {k : Value} {xs : List UInt8} {g : Nat} (h : NwB W V k xs) (hb : V.grownBy V' (some g)) (hg : g < W.heap.size) : NwB W V' k xs := by
  obtain ⟨a, c, e, hr⟩ := h
  exact ⟨a, c, e, (hr.keep fun j hj => hb.block j hj.2 fun e => by injection e with e; omega).weak fun j hj => ⟨hj.1, Nat.lt_of_lt_of_le hj.2 hb.size⟩⟩
def CpJ (Te : TypeId) (sz n : Nat) (W : World) (g : Nat) (V : Value) (vs : List Value) (f1 f2 : Nat) (lo hi : List UInt8) : List Value → World → Prop
  | [], X => Below W.heap.size W X
  | [k1], X => Below W.heap.size W X ∧ NwB W X k1 lo
  | [k1, k2], X => Below W.heap.size W X ∧ NwB W X k1 lo ∧ NwB W X k2 hi
  | [k1, k2, _], X => W.grownBy X (some g) ∧ RowQ Te sz X V n (vs.set f1 k1) ∧ NwB W X k1 lo ∧ NwB W X k2 hi
  | k1 :: k2 :: _ :: _ :: _, X => W.grownBy X (some g) ∧ RowQ Te sz X V n ((vs.set f1 k1).set f2 k2) ∧ NwB W X k1 lo ∧ NwB W X k2 hi
section
variable {Te : TypeId} {sz n g f1 f2 : Nat} {W : World} {V : Value} {vs : List Value} {lo hi : List UInt8}
theorem grJ {A B C : World} {r : Option Nat} (h : A.grownBy B r) (k : Below B.heap.size B C) : A.grownBy C r := ⟨k.os.trans h.os, k.tape.trans h.tape, k.output.trans h.output, Nat.le_trans h.size k.size, fun j hj hn => (k.block j (Nat.lt_of_lt_of_le hj h.size)).trans (h.block j hj hn)⟩
theorem CpJ.below : ∀ (l : List Value) (X X' : World), CpJ Te sz n W g V vs f1 f2 lo hi l X → Below X.heap.size X X' → CpJ Te sz n W g V vs f1 f2 lo hi l X'
  | [], _, _, h, hb => Below.trans h (hb.mono (Below.size h))
  | [_], _, _, ⟨h, h1⟩, hb => ⟨h.trans (hb.mono h.size), h1.below hb⟩
  | [_, _], _, _, ⟨h, h1, h2⟩, hb => ⟨h.trans (hb.mono h.size), h1.below hb, h2.below hb⟩
  | [_, _, _], _, _, ⟨h, h0, h1, h2⟩, hb => ⟨grJ h hb, h0.below hb, h1.below hb, h2.below hb⟩
  | _ :: _ :: _ :: _ :: _, _, _, ⟨h, h0, h1, h2⟩, hb => ⟨grJ h hb, h0.below hb, h1.below hb, h2.below hb⟩
theorem CpJ.grown : ∀ {l : List Value} {X : World}, CpJ Te sz n W g V vs f1 f2 lo hi l X → W.grownBy X (some g)
  | [], _, h => ⟨Below.os h, Below.tape h, Below.output h, Below.size h, fun k hk _ => Below.block h k hk⟩
  | [_], _, ⟨h, _⟩ => ⟨h.os, h.tape, h.output, h.size, fun k hk _ => h.block k hk⟩
  | [_, _], _, ⟨h, _⟩ => ⟨h.os, h.tape, h.output, h.size, fun k hk _ => h.block k hk⟩
  | [_, _, _], _, ⟨h, _⟩ => h
  | _ :: _ :: _ :: _ :: _, _, ⟨h, _⟩ => h
end
end Go.Proofs.Ytmcleffpjfeegaa
namespace Go.Proofs.Ytmcleffpjfeegaa
open Go.RowKit Go.Shelf
section
variable {P : Program} {o : Oper} {a : Act} {K : Act → World → Prop} {Q : Exit → Act → World → Prop} {w : World}
theorem wp_callVl {f : FuncId} {c : Operand} {xs : Array Operand} {ts : Array TypeId} {args : Array Value} (ho : o.op = .call { callee := .value c, args := xs, argTypes := ts }) (hv : a.eval c = .func (.func f) #[] #[]) (eg : ∀ args w, (callFunc f args).run P w = .ok (.enter f args) w)
    (hargs : xs.map a.eval = args) (hc : Calls P f args w (fun e w' => ∃ v, e = .returned v ∧ K (a.put o.dst v) w')) : o.wp P a w K Q := by
  have hrun : (execOp a.eval o).run P w = .ok (.enter f args) w := by
    subst hargs
    simp [execOp, ho, resolve, hv, invoke, Deferred.ofValue, eg]
  unfold Oper.wp
  rw [hrun, Oper.upon_enter]
  refine hc.mono (fun e w' h => ?_)
  obtain ⟨v, rfl, hk⟩ := h
  exact hk
end
def cmpZ (x y : Int) : Int := if x < y then -1 else if y < x then 1 else 0
set_option maxRecDepth 100000 in
set_option maxHeartbeats 4000000 in
theorem nanI_any (w : World) (x : Int) : Calls Try.prog 68 #[.int .i64 x] w fun e w' => e = .returned (.bool false) ∧ w' = w := by
  go_enter Try.func68, Try.ntmps68
  have d1 : (x != x) = false := by simp
  go_wp2_with fail
  go_ret
  exact ⟨by simp, rfl⟩
set_option maxRecDepth 100000 in
set_option maxHeartbeats 4000000 in
theorem cmpZ_any (w : World) (x y : Int) : Calls Try.prog 54 #[.int .i64 x, .int .i64 y] w fun e w' => e = .returned (.int .i64 (cmpZ x y)) ∧ w' = w := by
  go_enter Try.func54, Try.ntmps54
  go_wp2_with fail
  refine (nanI_any _ x).mono ?_
  rintro e w1 ⟨rfl, rfl⟩
  go_wp2_with fail
  refine (nanI_any _ y).mono ?_
  rintro e w1 ⟨rfl, rfl⟩
  rcases Int.lt_trichotomy x y with h | h | h
  · have H := Lib.hid (show cmpZ x y = -1 from if_pos h)
    have d1 : decide (x < y) = true := decide_eq_true h
    clear h
    go_wp2_with fail
    go_ret
    exact ⟨by first | (rw [H.out]; done) | (rw [H.out]; rfl), rfl⟩
  · have H := Lib.hid (show cmpZ x y = 0 by unfold cmpZ; rw [if_neg (by omega), if_neg (by omega)])
    have d1 : decide (x < y) = false := decide_eq_false (by omega)
    have d2 : decide (y < x) = false := decide_eq_false (by omega)
    clear h
    go_wp2_with fail
    go_ret
    exact ⟨by first | (rw [H.out]; done) | (rw [H.out]; rfl), rfl⟩
  · have H := Lib.hid (show cmpZ x y = 1 by unfold cmpZ; rw [if_neg (by omega), if_pos h])
    have d1 : decide (x < y) = false := decide_eq_false (by omega)
    have d2 : decide (y < x) = true := decide_eq_true h
    clear h
    go_wp2_with fail
    go_ret
    exact ⟨by first | (rw [H.out]; done) | (rw [H.out]; rfl), rfl⟩
set_option maxRecDepth 100000 in
set_option maxHeartbeats 4000000 in
theorem cmpLv_any (w : World) (x y : Int) (a b : Option Addr) (n c m d : Nat) : Calls Try.prog 53 #[.agg #[.int .i64 x, .slice a n c], .agg #[.int .i64 y, .slice b m d]] w fun e w' => e = .returned (.int .i64 (cmpZ x y)) ∧ Below w.heap.size w w' := by
  obtain ⟨W, hW, q, Bx, By, hsz⟩ := spBoxes2 w 46 46 [.int .i64 x, .slice a n c] [.int .i64 y, .slice b m d]
  clear hsz
  go_enter Try.func53, Try.ntmps53
  go_upto_region 1 with (fail)
  rw [show (w.alloc (.cells #[.int .i64 x, .slice a n c] 46)).alloc (.cells #[.int .i64 y, .slice b m d] 46) = W from hW.symm]
  clear hW
  have c0 := Bx.cell (i := 0) rfl
  have d0 := By.cell (i := 0) rfl
  go_wp2_with fail
  refine (cmpZ_any _ x y).mono ?_
  rintro e w1 ⟨rfl, rfl⟩
  clear c0 d0
  go_wp2_with fail
  go_ret
  exact ⟨rfl, q⟩
set_option maxRecDepth 100000 in
set_option maxHeartbeats 4000000 in
theorem minLv_any (w : World) {S : Nat → Prop} {a : Option Addr} {n c : Nat} {x : Lv} {lv : List Lv} (hl : RdL Elt.lv S w (.slice a n c) (x :: lv)) :
    Calls Try.prog 52 #[.slice a n c, .func (.func 53) #[] #[]] w fun e w' => ∃ b d, e = .returned (.agg #[.int .i64 (leastL x lv).snap, .slice b (leastL x lv).reads.length d]) ∧ W64 (leastL x lv).snap ∧ Below w.heap.size w w' := by
  obtain ⟨rfl, hnc, hcm⟩ := hl.len
  have hlm : (x :: lv).length ≤ 9223372036854775807 := by unfold maxLen at hcm; omega
  obtain ⟨W, hW, q, Bz, hsz⟩ := spBox w 46 [.int .i64 0, .slice none 0 0]
  have eF : ∀ args w, (callFunc 53 args).run Try.prog w = .ok (.enter 53 args) w := enters_of Try.func53 (by kernel_rfl) rfl
  clear hnc hcm
  obtain ⟨g1, o1, A1, A2, rfl, _, c0, c1, hx, hx64⟩ := (hl.below q).lv 0 (by simp)
  replace c0 : W.cell? ⟨g1, o1, none⟩ = some (.int .i64 x.snap) := by simpa using c0
  replace c1 : W.cell? ⟨g1, o1 + 1, none⟩ = some (.slice A1 x.reads.length A2) := by simpa using c1
  replace hx : RdL Elt.sp S W (.slice A1 x.reads.length A2) x.reads := hx
  replace hx64 : W64 x.snap := hx64
  obtain ⟨xs, exs⟩ : ∃ xs, xs = x :: lv := ⟨_, rfl⟩
  rw [← exs] at hl hlm
  rw [← exs]
  have h1 : 1 ≤ xs.length := by rw [exs]; simp
  obtain ⟨L, hL1, hLs, hLe⟩ : ∃ L : Nat → Lv, L 1 = x ∧ (∀ k (h : k < xs.length), 1 ≤ k → L (k + 1) = if xs[k].snap < (L k).snap then xs[k] else L k) ∧ L xs.length = leastL x lv := by
    refine ⟨fun k => leastL x ((xs.drop 1).take (k - 1)), by simp [leastL], fun k h hk => ?_, by rw [exs]; simp⟩
    subst exs
    obtain ⟨j, rfl⟩ : ∃ j, k = j + 1 := ⟨k - 1, by omega⟩
    have h2 : j < lv.length := by simpa using h
    simpa using leastL_take (m := x) h2
  replace hLs := Lib.hid hLs
  replace hLe := Lib.hid hLe
  replace hL1 := Lib.hid hL1
  clear exs
  go_enter Try.func52, Try.ntmps52
  go_upto_region 1 with (fail)
  rw [show w.alloc (.cells #[.int .i64 0, .slice none 0 0] 46) = W from hW.symm]
  clear hW
  have d1 : decide ((xs.length : Int) < 1) = false := decide_eq_false (by omega)
  go_upto_region 4 with (first
    | (refine wpList_boxNew (vs := [.int .i64 0, .slice none 0 0]) (by kernel_rfl) rfl rfl ?_; intro wa hba hBa)
    | (refine wpList_boxStore (us := [.int .i64 x.snap, .slice A1 x.reads.length A2]) (by kernel_rfl) rfl rfl rfl rfl rfl rfl hBa rfl ?_; intro W1 hgw hBm)
    | fail)
  have hbw := hba.grown hgw hba.size fun k hk => by injection hk with hk; omega
  replace Bz := Bz.below hbw Bz.lt
  replace q := q.trans (hbw.mono q.size)
  rw [hsz] at hBm
  clear hba hgw hBa d1 c0 c1 hx hbw
  go_upto_region 5 with (fail)
  go_loopw [6] (fun iv wr => ∃ (k : Nat) (m : Lv) (M1 : Option Addr) (M2 : Nat), iv = .int .i64 (k : Int) ∧ (1 ≤ k ∧ k ≤ xs.length) ∧ Hid (m = L k) ∧ BoxN wr (w.heap.size + 1) 46 [.int .i64 m.snap, .slice M1 m.reads.length M2] ∧ W64 m.snap ∧ BoxN wr w.heap.size 46 [.int .i64 0, .slice none 0 0] ∧ Below w.heap.size w wr)
    (fun i _ => xs.length - (intOf i).toNat)
  case atStart => exact ⟨1, x, A1, A2, rfl, ⟨Nat.le_refl _, h1⟩, Lib.hid hL1.out.symm, hBm, hx64, Bz, q⟩
  case round =>
    clear q Bz hBm
    obtain ⟨k, m, M1, M2, rfl, ⟨hk1, hkl⟩, hm, Bm, hm64, Bz, q⟩ := hrel
    rcases Nat.lt_or_ge k xs.length with hlt | hge
    · have dk : decide ((k : Int) < (xs.length : Int)) = true := decide_eq_true (by omega)
      obtain ⟨g2, o2, A1, A2, eg, _, c0, c1, _, hy64⟩ := (hl.below q).lv k hlt
      injection eg with eg
      injection eg with eg1 eg2 _
      subst eg1 eg2
      have hstep := Lib.hid (hLs.out k hlt hk1)
      obtain ⟨y, ey⟩ : ∃ y, y = xs[k] := ⟨_, rfl⟩
      rw [← ey] at c0 c1 hy64 hstep
      clear ey
      go_upto_region 7 with (fail)
      refine wp_region_gsg (by kernel_rfl) (by kernel_rfl) [sgEq (.func (.func 53) #[] #[]), sgEq (.slice (some ⟨g1, o1, none⟩) xs.length c), sgEq (.int .i64 (k : Int)), sgEq (.pointer (some ⟨g1, o1 + k * 2, none⟩)), sgEq (.agg #[.int .i64 y.snap, .slice A1 y.reads.length A2]), sgEq (.agg #[.int .i64 m.snap, .slice M1 m.reads.length M2]), sgEq (.int .i64 (cmpZ y.snap m.snap)), sgEq (.bool (decide (cmpZ y.snap m.snap < 0)))]
        ⟨?o0, ?o1, ?o2, ?o3, ?o4, ?o5, ?o6, ?o7, trivial⟩ ?fin
      case o0 =>
        refine GdOp.plain rfl (fun A vs w' hF hT hb hd => ?_)
        have e1 : A.eval (.tmp 1) = .func (.func 53) #[] #[] := hF 1 rfl
        exact BigFrame.wp_move _ rfl ⟨_, rfl, e1, Below.refl _ _⟩
      case o1 =>
        refine GdOp.plain rfl (fun A vs w' hF hT hb hd => ?_)
        have e1 : A.eval (.tmp 0) = .slice (some ⟨g1, o1, none⟩) xs.length c := hF 0 rfl
        exact BigFrame.wp_move _ rfl ⟨_, rfl, e1, Below.refl _ _⟩
      case o2 =>
        refine GdOp.plain rfl (fun A vs w' hF hT hb hd => ?_)
        have e1 : A.eval (.tmp 6) = .int .i64 (k : Int) := hF 6 rfl
        exact BigFrame.wp_move _ rfl ⟨_, rfl, e1, Below.refl _ _⟩
      case o3 =>
        refine GdOp.plain rfl (fun A vs w' hF hT hb hd => ?_)
        have e1 : A.eval (.tmp 21) = .slice (some ⟨g1, o1, none⟩) xs.length c := (hT 21 1 (by simp) rfl).trans (hd ⟨1, .data⟩ (by simp) rfl)
        have e2 : A.eval (.tmp 22) = .int .i64 (k : Int) := (hT 22 2 (by simp) rfl).trans (hd ⟨2, .data⟩ (by simp) rfl)
        exact wp_ixN (e := 46) rfl (by kernel_rfl) (by kernel_rfl) (e1) (e2) rfl (by omega) ⟨_, rfl, rfl, Below.refl _ _⟩
      case o4 =>
        refine GdOp.plain rfl (fun A vs w' hF hT hb hd => ?_)
        have e1 : A.eval (.tmp 23) = .pointer (some ⟨g1, o1 + k * 2, none⟩) := (hT 23 3 (by simp) rfl).trans (hd ⟨3, .data⟩ (by simp) rfl)
        exact wp_load2 lvS rfl e1 ((hb.cell (p := ⟨_, _, none⟩) (cell_lt c0)).trans c0) ((hb.cell (p := ⟨_, _, none⟩) (cell_lt c1)).trans c1) ⟨_, rfl, rfl, Below.refl _ _⟩
      case o5 =>
        refine GdOp.plain rfl (fun A vs w' hF hT hb hd => ?_)
        have e1 : A.eval (.tmp 5) = .pointer (some ⟨w.heap.size + 1, 0, none⟩) := hF 5 rfl
        exact wp_load2 lvS rfl e1 ((Bm.below hb Bm.lt).cell (i := 0) rfl) ((Bm.below hb Bm.lt).cell (i := 1) rfl) ⟨_, rfl, rfl, Below.refl _ _⟩
      case o6 =>
        refine GdOp.plain rfl (fun A vs w' hF hT hb hd => ?_)
        have e1 : A.eval (.tmp 20) = .func (.func 53) #[] #[] := (hT 20 0 (by simp) rfl).trans (hd ⟨0, .data⟩ (by simp) rfl)
        have e2 : A.eval (.tmp 24) = .agg #[.int .i64 y.snap, .slice A1 y.reads.length A2] := (hT 24 4 (by simp) rfl).trans (hd ⟨4, .data⟩ (by simp) rfl)
        have e3 : A.eval (.tmp 25) = .agg #[.int .i64 m.snap, .slice M1 m.reads.length M2] := (hT 25 5 (by simp) rfl).trans (hd ⟨5, .data⟩ (by simp) rfl)
        refine wp_callVl rfl e1 eF (args := #[.agg #[.int .i64 y.snap, .slice A1 y.reads.length A2], .agg #[.int .i64 m.snap, .slice M1 m.reads.length M2]]) (by simp only [List.map_toArray, List.map_cons, List.map_nil, e2, e3]) ((cmpLv_any w' y.snap m.snap A1 M1 _ A2 _ M2).mono ?_)
        rintro e w2 ⟨rfl, hb2⟩
        exact ⟨_, rfl, _, rfl, rfl, hb2⟩
      case o7 =>
        refine GdOp.plain rfl (fun A vs w' hF hT hb hd => ?_)
        have e1 : A.eval (.tmp 26) = .int .i64 (cmpZ y.snap m.snap) := (hT 26 6 (by simp) rfl).trans (hd ⟨6, .data⟩ (by simp) rfl)
        exact wp_lssI rfl e1 rfl ⟨_, rfl, rfl, Below.refl _ _⟩
      case fin =>
      intro vs9 W9 hb9 hG9
      have e0 : vs9 0 = .func (.func 53) #[] #[] := hG9 0 (by decide)
      have e1 : vs9 1 = .slice (some ⟨g1, o1, none⟩) xs.length c := hG9 1 (by decide)
      have e2 : vs9 2 = .int .i64 (k : Int) := hG9 2 (by decide)
      have e3 : vs9 3 = .pointer (some ⟨g1, o1 + k * 2, none⟩) := hG9 3 (by decide)
      have e4 : vs9 4 = .agg #[.int .i64 y.snap, .slice A1 y.reads.length A2] := hG9 4 (by decide)
      have e5 : vs9 5 = .agg #[.int .i64 m.snap, .slice M1 m.reads.length M2] := hG9 5 (by decide)
      have e6 : vs9 6 = .int .i64 (cmpZ y.snap m.snap) := hG9 6 (by decide)
      have e7 : vs9 7 = .bool (decide (cmpZ y.snap m.snap < 0)) := hG9 7 (by decide)
      simp only [putAll, e0, e1, e2, e3, e4, e5, e6, e7]
      clear hG9 e0 e1 e2 e3 e4 e5 e6 e7
      replace Bm := Bm.below hb9 Bm.lt
      replace Bz := Bz.below hb9 Bz.lt
      replace c0 := (hb9.cell (p := ⟨_, _, none⟩) (cell_lt c0)).trans c0
      replace c1 := (hb9.cell (p := ⟨_, _, none⟩) (cell_lt c1)).trans c1
      replace q := q.trans (hb9.mono q.size)
      clear hb9
      go_simp
      by_cases h : y.snap < m.snap
      · have hd : decide (cmpZ y.snap m.snap < 0) = true := by unfold cmpZ; rw [if_pos h]; rfl
        rw [hd]
        have hm2 := Lib.hid (show y = L (k + 1) by rw [hstep.out, if_pos (by rw [← hm.out]; exact h)])
        clear h hd hstep hm
        go_wp2_with (first | (refine wpList_boxStore (us := [.int .i64 y.snap, .slice A1 y.reads.length A2]) (by kernel_rfl) rfl rfl rfl rfl rfl rfl Bm rfl ?_; intro w2 hg2 Bm2) | fail)
        have q2 := q.grown hg2 q.size fun k hk => by injection hk with hk; have := Bz.lt; omega
        have Bz2 := Bz.other hg2 fun e => by injection e with e; omega
        go_roundw
        case rel => exact ⟨k + 1, y, A1, A2, by go_num, ⟨by omega, by omega⟩, hm2, Bm2, hy64, Bz2, q2⟩
        case measure => simp [intOf]; omega
      · have hd : decide (cmpZ y.snap m.snap < 0) = false := by unfold cmpZ; rw [if_neg h]; split <;> rfl
        rw [hd]
        have hm2 := Lib.hid (show m = L (k + 1) by rw [hstep.out, if_neg (by rw [← hm.out]; exact h)]; exact hm.out)
        clear h hd hstep hm
        go_wp2_with fail
        go_roundw
        case rel => exact ⟨k + 1, m, M1, M2, by go_num, ⟨by omega, by omega⟩, hm2, Bm, hm64, Bz, q⟩
        case measure => simp [intOf]; omega
    · obtain rfl : k = xs.length := by omega
      have dk : decide ((xs.length : Int) < (xs.length : Int)) = false := decide_eq_false (by omega)
      have hm2 := Lib.hid (show m = leastL x lv by rw [hm.out, hLe.out])
      clear hm
      have c0 := Bm.cell (i := 0) rfl
      have c1 := Bm.cell (i := 1) rfl
      go_wp2_with (first | (refine wpList_boxStore (us := [.int .i64 m.snap, .slice M1 m.reads.length M2]) (by kernel_rfl) rfl rfl rfl rfl rfl rfl Bz rfl ?_; intro w2 hg2 Bz2; clear c0 c1) | fail)
      have d0 := Bz2.cell (i := 0) rfl
      have d1 := Bz2.cell (i := 1) rfl
      obtain ⟨fs, hu, _⟩ := lvS.hu
      refine bodyPost_ret (v := .agg #[.int .i64 m.snap, .slice M1 m.reads.length M2]) (by simp [results, Try.results52, go_sem, loadVar, isAgg, run_underlying hu, run_sizeOf' lvS.hs, loadCellsFrom, Addr.add, d0, d1]) rfl ?_
      rw [← hm2.out]
      exact ⟨_, _, rfl, hm64, q.grown hg2 q.size fun k hk => by injection hk with hk; omega⟩
set_option maxRecDepth 100000 in
set_option maxHeartbeats 4000000 in
theorem cloneS_any (w : World) {n0 : Nat} {a : Option Addr} {n c : Nat} {l : List Sp} (hn0 : n0 ≤ w.heap.size) (hl : RdL Elt.sp (· < n0) w (.slice a n c) l) (hn : l.length ≤ 1000000) :
    Calls Try.prog 55 #[.slice a n c] w fun e w' => ∃ a' c', e = .returned (.slice a' l.length c') ∧ RowO Elt.sp 25 n0 w' (.slice a' l.length c') l ∧ (∀ g, (Value.slice a' l.length c').ownBlock = some g → w.heap.size ≤ g) ∧ Below w.heap.size w w' := by
  have he := fun (w : World) (ad : Option Addr) (n c : Nat) => Lib.run_eql_slice_nil (P := Try.prog) w 22 25 ad n c 0 0 spP.hT
  obtain ⟨rfl, _, _⟩ := hl.len
  cases a with
  | none =>
    obtain rfl : l = [] := by
      obtain ⟨_, _, e, _, _, h⟩ := hl
      injection e with e1 e2 _
      rcases h with h | ⟨b, off, h, _⟩
      · exact h
      · rw [h] at e1; cases e1
    go_enter Try.func55, Try.ntmps55
    go_wp2
    go_ret
    exact ⟨none, 0, rfl, ⟨[], RowQ.nil _ _ _, fun r hr => absurd hr (Nat.not_lt_zero _)⟩, fun g hg => by simp [Value.ownBlock] at hg, Below.refl _ _⟩
  | some p =>
    go_enter Try.func55, Try.ntmps55
    go_wp2_with (go_big_may; first
      | (refine wpList_buildZero (E := Elt.sp) spP rfl rfl ?_; intro w1 hb1 hO1)
      | (refine wpList_append_zeroO (E := Elt.sp) spP rfl rfl rfl (hO1.to (Nat.le_refl _) (Nat.zero_le _)) rfl (hl.below hb1) (Nat.le_trans hn0 hb1.size) hb1.size ?_ (by omega); intro ad' cap' w2 hO2 ho2 hb2)
      | fail)
    go_ret
    exact ⟨_, _, rfl, hO2, ho2, hb1.trans (hb2.mono hb1.size)⟩
set_option maxRecDepth 100000 in
set_option maxHeartbeats 4000000 in
theorem cloneW_any (w : World) {n0 : Nat} {a : Option Addr} {n c : Nat} {l : List Wr} (hn0 : n0 ≤ w.heap.size) (hl : RdL Elt.wr (· < n0) w (.slice a n c) l) (hn : l.length ≤ 1000000) :
    Calls Try.prog 56 #[.slice a n c] w fun e w' => ∃ a' c', e = .returned (.slice a' l.length c') ∧ RowO Elt.wr 43 n0 w' (.slice a' l.length c') l ∧ (∀ g, (Value.slice a' l.length c').ownBlock = some g → w.heap.size ≤ g) ∧ Below w.heap.size w w' := by
  have he := fun (w : World) (ad : Option Addr) (n c : Nat) => Lib.run_eql_slice_nil (P := Try.prog) w 26 43 ad n c 0 0 wrP.hT
  obtain ⟨rfl, _, _⟩ := hl.len
  cases a with
  | none =>
    obtain rfl : l = [] := by
      obtain ⟨_, _, e, _, _, h⟩ := hl
      injection e with e1 e2 _
      rcases h with h | ⟨b, off, h, _⟩
      · exact h
      · rw [h] at e1; cases e1
    go_enter Try.func56, Try.ntmps56
    go_wp2
    go_ret
    exact ⟨none, 0, rfl, ⟨[], RowQ.nil _ _ _, fun r hr => absurd hr (Nat.not_lt_zero _)⟩, fun g hg => by simp [Value.ownBlock] at hg, Below.refl _ _⟩
  | some p =>
    go_enter Try.func56, Try.ntmps56
    go_wp2_with (go_big_may; first
      | (refine wpList_buildZero (E := Elt.wr) wrP rfl rfl ?_; intro w1 hb1 hO1)
      | (refine wpList_append_zeroO (E := Elt.wr) wrP rfl rfl rfl (hO1.to (Nat.le_refl _) (Nat.zero_le _)) rfl (hl.below hb1) (Nat.le_trans hn0 hb1.size) hb1.size ?_ (by omega); intro ad' cap' w2 hO2 ho2 hb2)
      | fail)
    go_ret
    exact ⟨_, _, rfl, hO2, ho2, hb1.trans (hb2.mono hb1.size)⟩
end Go.Proofs.Ytmcleffpjfeegaa
namespace Go.Proofs.Ytmcleffpjfeegaa
open Go.RowKit Go.Shelf
def NwL {α : Type} (E : Elt α) (Te : TypeId) (n0 : Nat) (W X : World) (k : Value) (l : List α) : Prop := ∃ a c, k = .slice a l.length c ∧ RowO E Te n0 X (.slice a l.length c) l ∧ ∀ g, (Value.slice a l.length c).ownBlock = some g → W.heap.size ≤ g
theorem NwL.below {α : Type} {E : Elt α} {Te : TypeId} {n0 : Nat} {W X X' : World} {k : Value} {l : List α} (h : NwL E Te n0 W X k l) (hb : Below X.heap.size X X') : NwL E Te n0 W X' k l := by
  obtain ⟨a, c, e, h1, h2⟩ := h
  exact ⟨a, c, e, h1.below hb, h2⟩
theorem NwL.grown {α : Type} {E : Elt α} {Te : TypeId} {n0 : Nat} {W X X' : World} {k : Value} {l : List α} {g : Nat} (h : NwL E Te n0 W X k l) (hb : X.grownBy X' (some g)) (hg : g < W.heap.size) (hn : n0 ≤ g) : NwL E Te n0 W X' k l := by
  obtain ⟨a, c, e, h1, h2⟩ := h
  refine ⟨a, c, e, h1.kept (fun j hj => hb.block j (h1.lt hj) fun e => ?_) (fun j hj hl => hb.block j hl fun e => ?_), h2⟩
  · injection e with e
    have := h2 j hj
    omega
  · injection e with e
    omega
def ApJ13 (n0 : Nat) (W : World) (pb : Nat) (x : Ps) (vs : List Value) : List Value → World → Prop
  | [], X => Below W.heap.size W X
  | [k], X => Below W.heap.size W X ∧ NwL Elt.sp 25 n0 W X k x.reads
  | [k, v], X => Below W.heap.size W X ∧ NwL Elt.sp 25 n0 W X k x.reads ∧ NwL Elt.wr 43 n0 W X v x.writes ∧ ∀ g, k.ownBlock = some g → v.ownBlock ≠ some g
  | [k, v, _], X => W.grownBy X (some pb) ∧ BoxN X pb 49 (vs.set 3 k) ∧ NwL Elt.sp 25 n0 W X k x.reads ∧ NwL Elt.wr 43 n0 W X v x.writes ∧ ∀ g, k.ownBlock = some g → v.ownBlock ≠ some g
  | k :: v :: _ :: _ :: _, X => W.grownBy X (some pb) ∧ BoxN X pb 49 ((vs.set 3 k).set 4 v) ∧ NwL Elt.sp 25 n0 W X k x.reads ∧ NwL Elt.wr 43 n0 W X v x.writes ∧ ∀ g, k.ownBlock = some g → v.ownBlock ≠ some g
section
variable {n0 pb : Nat} {W : World} {x : Ps} {vs : List Value}
theorem ApJ13.below : ∀ (l : List Value) (X X' : World), ApJ13 n0 W pb x vs l X → Below X.heap.size X X' → ApJ13 n0 W pb x vs l X'
  | [], _, _, h, hb => Below.trans h (hb.mono (Below.size h))
  | [_], _, _, ⟨h, h1⟩, hb => ⟨h.trans (hb.mono h.size), h1.below hb⟩
  | [_, _], _, _, ⟨h, h1, h2⟩, hb => ⟨h.trans (hb.mono h.size), h1.below hb, h2.1.below hb, h2.2⟩
  | [_, _, _], _, _, ⟨h, h0, h1, h2⟩, hb => ⟨grJ h hb, h0.below hb h0.lt, h1.below hb, h2.1.below hb, h2.2⟩
  | _ :: _ :: _ :: _ :: _, _, _, ⟨h, h0, h1, h2⟩, hb => ⟨grJ h hb, h0.below hb h0.lt, h1.below hb, h2.1.below hb, h2.2⟩
theorem ApJ13.early {l : List Value} {X : World} (h : ApJ13 n0 W pb x vs l X) (hl : l.length ≤ 2) : Below W.heap.size W X := by
  match l, hl, h with
  | [], _, h => exact h
  | [_], _, h => exact h.1
  | [_, _], _, h => exact h.1
end
theorem grT {A B C : World} {r : Option Nat} (h : A.grownBy B r) (k : B.grownBy C r) : A.grownBy C r := ⟨k.os.trans h.os, k.tape.trans h.tape, k.output.trans h.output, Nat.le_trans h.size k.size, fun j hj hn => (k.block j (Nat.lt_of_lt_of_le hj h.size) hn).trans (h.block j hj hn)⟩
set_option maxRecDepth 100000 in
set_option maxHeartbeats 16000000 in
theorem pAlone_any (w : World) {S : Nat → Prop} {v : Value} {x : Ps} (hx : RdPs S w v x) (hsm : smP x) :
    Calls Try.prog 28 #[v] w (P1End w x) := by
  replace hx := hx.fit.weak fun _ h => h.2
  obtain ⟨a1, a2, a3, a4, rfl, hxr, hxw, h64⟩ := hx
  have hl1 : x.reads.length ≤ 1000000 := hsm.1.1
  have hl2 : x.writes.length ≤ 1000000 := hsm.2.1
  obtain ⟨W, hW, q, Bp, Bz, hsz⟩ := spBoxes2 w 49 49 [.int .i64 x.snap, .int .i64 x.stamp, .bool x.held, .slice a1 x.reads.length a2, .slice a3 x.writes.length a4, .bool x.out] [.int .i64 0, .int .i64 0, .bool false, .slice none 0 0, .slice none 0 0, .bool false]
  have eS : ∀ args w, (callFunc 55 args).run Try.prog w = .ok (.enter 55 args) w := enters_of Try.func55 (by kernel_rfl) rfl
  have eW : ∀ args w, (callFunc 56 args).run Try.prog w = .ok (.enter 56 args) w := enters_of Try.func56 (by kernel_rfl) rfl
  have eC : ∀ args w, (callFunc 39 args).run Try.prog w = .ok (.enter 39 args) w := enters_of Try.func39 (by kernel_rfl) rfl
  replace hxr := hxr.below q
  replace hxw := hxw.below q
  go_enter Try.func28, Try.ntmps28
  go_upto_region 1 with (fail)
  rw [show (w.alloc (.cells #[.int .i64 x.snap, .int .i64 x.stamp, .bool x.held, .slice a1 x.reads.length a2, .slice a3 x.writes.length a4, .bool x.out] 49)).alloc (.cells #[.int .i64 0, .int .i64 0, .bool false, .slice none 0 0, .slice none 0 0, .bool false] 49) = W from hW.symm]
  clear hW
  refine wp_region_lnl (K := fun A B => A.grownBy B (some w.heap.size)) (by kernel_rfl) (by kernel_rfl) [2, 5, 7, 9] (by kernel_rfl) [lEq (.pointer (some ⟨w.heap.size, 0 + 3, none⟩)), lEq (.slice a1 x.reads.length a2), lAny, lEq (.pointer (some ⟨w.heap.size, 0 + 4, none⟩)), lEq (.slice a3 x.writes.length a4), lAny, lEq (.pointer (some ⟨w.heap.size, 0 + 3, none⟩)), lAny, lEq (.pointer (some ⟨w.heap.size, 0 + 4, none⟩)), lAny] (ApJ13 w.heap.size W w.heap.size x [.int .i64 x.snap, .int .i64 x.stamp, .bool x.held, .slice a1 x.reads.length a2, .slice a3 x.writes.length a4, .bool x.out]) ApJ13.below (show Below W.heap.size W W from Below.refl _ _)
    ⟨?o0, ?o1, ?o2, ?o3, ?o4, ?o5, ?o6, ?o7, ?o8, ?o9, trivial⟩ ?fin
  case o0 =>
    refine LnOp.side rfl (by kernel_rfl) (fun A va w' k hF hT hk hJ hb hu hp hd => ?_)
    have e1 : A.eval (.tmp 1) = .pointer (some ⟨w.heap.size, 0, none⟩) := hF 1 rfl
    exact wp_fieldN psS rfl (e1) (by omega) ⟨_, rfl, rfl, Below.refl _ _⟩
  case o1 =>
    refine LnOp.side rfl (by kernel_rfl) (fun A va w' k hF hT hk hJ hb hu hp hd => ?_)
    have e1 : A.eval (.tmp 7) = .pointer (some ⟨w.heap.size, 0 + 3, none⟩) := (hT 7 0 (by simp) rfl).trans (hd ⟨0, .data⟩ (by simp) rfl rfl)
    exact wp_ld_slice (e := 25) rfl (e1) (by kernel_rfl) (((Bp.below (hJ.early (by have := hb 2 7 rfl (by kernel_rfl); simp only [List.length_map, List.length_take]; omega)) Bp.lt)).cell (i := 3) rfl) ⟨_, rfl, rfl, Below.refl _ _⟩
  case o2 =>
    refine LnOp.line 0 rfl rfl (fun A va w' hF hT hJ hu hd => ?_)
    have e1 : A.eval (.tmp 8) = .slice a1 x.reads.length a2 := (hT 8 1 (by simp) rfl).trans (hd ⟨1, .data⟩ (by simp) rfl rfl)
    have hJ0 : Below W.heap.size W w' := hJ
    refine wp_callFn rfl eS (args := #[.slice a1 x.reads.length a2]) (by simp only [List.map_toArray, List.map_cons, List.map_nil, e1]) ((cloneS_any w' (n0 := w.heap.size) (by have := hJ0.size; have := q.size; omega) (hxr.below hJ0) hsm.1.1).mono ?_)
    rintro e w2 ⟨k1, d1, rfl, hO, ho, hb2⟩
    exact ⟨_, rfl, _, rfl, ⟨hJ0.trans (hb2.mono hJ0.size), ⟨_, _, rfl, hO, fun g hg => Nat.le_trans hJ0.size (ho g hg)⟩⟩, grown_below' hb2 _⟩
  case o3 =>
    refine LnOp.side rfl (by kernel_rfl) (fun A va w' k hF hT hk hJ hb hu hp hd => ?_)
    have e1 : A.eval (.tmp 1) = .pointer (some ⟨w.heap.size, 0, none⟩) := hF 1 rfl
    exact wp_fieldN psS rfl (e1) (by omega) ⟨_, rfl, rfl, Below.refl _ _⟩
  case o4 =>
    refine LnOp.side rfl (by kernel_rfl) (fun A va w' k hF hT hk hJ hb hu hp hd => ?_)
    have e1 : A.eval (.tmp 10) = .pointer (some ⟨w.heap.size, 0 + 4, none⟩) := (hT 10 3 (by simp) rfl).trans (hd ⟨3, .data⟩ (by simp) rfl rfl)
    exact wp_ld_slice (e := 43) rfl (e1) (by kernel_rfl) (((Bp.below (hJ.early (by have := hb 2 7 rfl (by kernel_rfl); simp only [List.length_map, List.length_take]; omega)) Bp.lt)).cell (i := 4) rfl) ⟨_, rfl, rfl, Below.refl _ _⟩
  case o5 =>
    refine LnOp.line 1 rfl rfl (fun A va w' hF hT hJ hu hd => ?_)
    have e1 : A.eval (.tmp 11) = .slice a3 x.writes.length a4 := (hT 11 4 (by simp) rfl).trans (hd ⟨4, .data⟩ (by simp) rfl rfl)
    obtain ⟨hJ0, k1, d1, ek, hO1, ho1⟩ : ApJ13 w.heap.size W w.heap.size x [.int .i64 x.snap, .int .i64 x.stamp, .bool x.held, .slice a1 x.reads.length a2, .slice a3 x.writes.length a4, .bool x.out] [va 2] w' := hJ
    refine wp_callFn rfl eW (args := #[.slice a3 x.writes.length a4]) (by simp only [List.map_toArray, List.map_cons, List.map_nil, e1]) ((cloneW_any w' (n0 := w.heap.size) (by have := hJ0.size; have := q.size; omega) (hxw.below hJ0) hsm.2.1).mono ?_)
    rintro e w2 ⟨k2, d2, rfl, hO, ho, hb2⟩
    exact ⟨_, rfl, _, rfl, ⟨hJ0.trans (hb2.mono hJ0.size), ⟨_, _, ek, hO1.below hb2, ho1⟩, ⟨_, _, rfl, hO, fun g hg => Nat.le_trans hJ0.size (ho g hg)⟩, fun g hg e => by rw [ek] at hg; have := hO1.lt hg; have := ho g e; omega⟩, grown_below' hb2 _⟩
  case o6 =>
    refine LnOp.side rfl (by kernel_rfl) (fun A va w' k hF hT hk hJ hb hu hp hd => ?_)
    have e1 : A.eval (.tmp 1) = .pointer (some ⟨w.heap.size, 0, none⟩) := hF 1 rfl
    exact wp_fieldN psS rfl (e1) (by omega) ⟨_, rfl, rfl, Below.refl _ _⟩
  case o7 =>
    refine LnOp.line 2 rfl rfl (fun A va w' hF hT hJ hu hd => ?_)
    have e1 : A.eval (.tmp 13) = .pointer (some ⟨w.heap.size, 0 + 3, none⟩) := (hT 13 6 (by simp) rfl).trans (hd ⟨6, .data⟩ (by simp) rfl rfl)
    have x2 : A.eval (.tmp 9) = va 2 := hT 9 2 (by simp) rfl
    obtain ⟨hJ0, ⟨k1, d1, ek, hO1, ho1⟩, h2, hne⟩ : ApJ13 w.heap.size W w.heap.size x [.int .i64 x.snap, .int .i64 x.stamp, .bool x.held, .slice a1 x.reads.length a2, .slice a3 x.writes.length a4, .bool x.out] [va 2, va 5] w' := hJ
    refine wp_boxSet (j := 3) rfl (by kernel_rfl) e1 (x2.trans ek) rfl rfl (Bp.below hJ0 Bp.lt) (by simp) (fun w2 hg hB2 => ⟨_, rfl, ⟨grT (grown_below' hJ0 _) hg, by rw [ek]; exact hB2, NwL.grown ⟨k1, d1, ek, hO1, ho1⟩ hg (by omega) (Nat.le_refl _), h2.grown hg (by omega) (Nat.le_refl _), hne⟩, hg⟩)
  case o8 =>
    refine LnOp.side rfl (by kernel_rfl) (fun A va w' k hF hT hk hJ hb hu hp hd => ?_)
    have e1 : A.eval (.tmp 1) = .pointer (some ⟨w.heap.size, 0, none⟩) := hF 1 rfl
    exact wp_fieldN psS rfl (e1) (by omega) ⟨_, rfl, rfl, Below.refl _ _⟩
  case o9 =>
    refine LnOp.line 3 rfl rfl (fun A va w' hF hT hJ hu hd => ?_)
    have e1 : A.eval (.tmp 14) = .pointer (some ⟨w.heap.size, 0 + 4, none⟩) := (hT 14 8 (by simp) rfl).trans (hd ⟨8, .data⟩ (by simp) rfl rfl)
    have x2 : A.eval (.tmp 12) = va 5 := hT 12 5 (by simp) rfl
    obtain ⟨hJ0, hB0, h1, ⟨k2, d2, ek, hO2, ho2⟩, hne⟩ : ApJ13 w.heap.size W w.heap.size x [.int .i64 x.snap, .int .i64 x.stamp, .bool x.held, .slice a1 x.reads.length a2, .slice a3 x.writes.length a4, .bool x.out] [va 2, va 5, va 7] w' := hJ
    refine wp_boxSet (j := 4) rfl (by kernel_rfl) e1 (x2.trans ek) rfl rfl hB0 (by simp) (fun w2 hg hB2 => ⟨_, rfl, ⟨grT hJ0 hg, by rw [ek]; exact hB2, h1.grown hg (by omega) (Nat.le_refl _), NwL.grown ⟨k2, d2, ek, hO2, ho2⟩ hg (by omega) (Nat.le_refl _), hne⟩, hg⟩)
  case fin =>
  intro vs1 W1 hJ hG
  obtain ⟨hg1, Bp1, ⟨r1, c1, ek1, hR1, ho1⟩, ⟨r2, c2, ek2, hR2, ho2⟩, hne⟩ : ApJ13 w.heap.size W w.heap.size x [.int .i64 x.snap, .int .i64 x.stamp, .bool x.held, .slice a1 x.reads.length a2, .slice a3 x.writes.length a4, .bool x.out] [vs1 2, vs1 5, vs1 7, vs1 9] W1 := hJ
  rw [ek1, ek2] at Bp1 hne
  replace Bp1 : BoxN W1 w.heap.size 49 [.int .i64 x.snap, .int .i64 x.stamp, .bool x.held, .slice r1 x.reads.length c1, .slice r2 x.writes.length c2, .bool x.out] := Bp1
  clear hG
  simp only [putAll]
  clear ek1 ek2
  go_simp
  have hs1 := hg1.size
  have Bz1 := Bz.other hg1 (by intro e; injection e with e; omega)
  have q1 := q.grown hg1 q.size fun j hj => by injection hj with hj; omega
  obtain ⟨B, hB⟩ : ∃ B, B = W1.heap.size := ⟨_, rfl⟩
  have hg1' : ∀ g, (Value.slice r1 x.reads.length c1).ownBlock = some g → w.heap.size + 2 ≤ g ∧ g < B := fun g hg => ⟨by have := ho1 g hg; omega, by rw [hB]; exact hR1.lt hg⟩
  have hg2' : ∀ g, (Value.slice r2 x.writes.length c2).ownBlock = some g → w.heap.size + 2 ≤ g ∧ g < B := fun g hg => ⟨by have := ho2 g hg; omega, by rw [hB]; exact hR2.lt hg⟩
  have hBw : w.heap.size + 2 ≤ B := by omega
  have hBs : B ≤ W1.heap.size := by omega
  replace hR1 := hR1.start B
  clear hB hg1 ho1 ho2 q hxr hxw Bp Bz hsz hs1
  have c3 := Bp1.cell (i := 3) rfl
  go_upto_region 3 with (fail)
  clear c3
  go_loopw [18] (fun iv wr => ∃ (k : Nat), iv = .int .i64 (k : Int) ∧ k ≤ x.reads.length ∧ RowH Elt.sp 25 B w.heap.size wr (.slice r1 x.reads.length c1) x.reads k ∧ RowO Elt.wr 43 w.heap.size wr (.slice r2 x.writes.length c2) x.writes ∧ BoxN wr w.heap.size 49 [.int .i64 x.snap, .int .i64 x.stamp, .bool x.held, .slice r1 x.reads.length c1, .slice r2 x.writes.length c2, .bool x.out] ∧ BoxN wr (w.heap.size + 1) 49 [.int .i64 0, .int .i64 0, .bool false, .slice none 0 0, .slice none 0 0, .bool false] ∧ Below w.heap.size w wr ∧ B ≤ wr.heap.size) (fun i _ => x.reads.length - (intOf i).toNat)
  case atStart => exact ⟨0, rfl, Nat.zero_le _, hR1, hR2, Bp1, Bz1, q1, hBs⟩
  case round =>
    clear q1 hR1 hR2 Bp1 Bz1 hBs
    obtain ⟨m, rfl, hkl, hR, hR2, Bp, Bz, q, hBs⟩ := hrel
    rcases Nat.lt_or_ge m x.reads.length with hlt | hge
    · have dk : decide ((m : Int) < (x.reads.length : Int)) = true := decide_eq_true (by omega)
      obtain ⟨vs, hQ, hP⟩ := hR
      obtain ⟨g, rfl⟩ := hQ.place (by omega)
      have hgb := hg1' g rfl
      obtain ⟨us, ⟨ka, va, rfl, hka, hva, hw64⟩, hcl⟩ := hP m hlt
      have hvl := hQ.len
      replace hvl : vs.length = x.reads.length * 4 := hvl
      replace hcl : ∀ j u, (spC x.reads[m] ka va)[j]? = some u → vs[m * 4 + j]? = some u := hcl
      obtain ⟨hlo, hhi⟩ := hsm.1.2 _ (List.getElem_mem hlt)
      have hstep := Lib.hid (fun (vs' us : List Value) (w2 w3 : World) (hp : PtH Elt.sp B w.heap.size w2 x.reads m vs) => RowH.step (E := Elt.sp) (Te := 25) (B := B) (n0 := w.heap.size) (w := w2) (w' := w3) (v := .slice (some ⟨g, 0, none⟩) x.reads.length c1) (xs := x.reads) (vs := vs) (vs' := vs') (us := us) hlt hp)
      obtain ⟨s, es⟩ : ∃ s, s = x.reads[m] := ⟨_, rfl⟩
      rw [← es] at hka hva hw64 hlo hhi hcl hstep
      clear es
      obtain ⟨KA, KC, rfl, _, _⟩ := hka.shape
      obtain ⟨VA, VC, rfl, _, _⟩ := hva.shape
      have c0 : wr.cell? ⟨g, m * 4, none⟩ = some (.int .i64 s.table) := hQ.cell (g := g) rfl (hcl 0 _ rfl)
      have c1 : wr.cell? ⟨g, m * 4 + 1, none⟩ = some (.slice KA s.lo.length KC) := hQ.cell (g := g) rfl (hcl 1 _ rfl)
      have c2 : wr.cell? ⟨g, m * 4 + 2, none⟩ = some (.slice VA s.hi.length VC) := hQ.cell (g := g) rfl (hcl 2 _ rfl)
      have c3 : wr.cell? ⟨g, m * 4 + 3, none⟩ = some (.bool s.isOpen) := hQ.cell (g := g) rfl (hcl 3 _ rfl)
      have hlk : m * 4 + 3 < vs.length := by omega
      replace hvl := Lib.hid hvl
      go_upto_region 5 with (first | (refine wpList_boxNew (vs := [.int .i64 0, .slice none 0 0, .slice none 0 0, .bool false]) (by kernel_rfl) rfl rfl ?_; intro wa hba hBa) | (refine wpList_boxStore (us := [.int .i64 s.table, .slice KA s.lo.length KC, .slice VA s.hi.length VC, .bool s.isOpen]) (by kernel_rfl) rfl rfl rfl rfl rfl rfl hBa rfl ?_; intro W2 hgw Bx) | fail)
      try go_simp
      have hbw := hba.grown hgw hba.size fun k hk => by injection hk with hk; omega
      clear c0 c1 c2 c3 hba hBa hgw
      replace Bp := Bp.below hbw Bp.lt
      replace Bz := Bz.below hbw Bz.lt
      replace hQ := hQ.below hbw
      replace hP := hP.keep (w' := W2) fun j _ hj => hbw.block j hj
      replace hka := hka.below hbw
      replace hva := hva.below hbw
      replace hR2 := hR2.below hbw
      have hsw := hbw.size
      replace q := q.trans (hbw.mono q.size)
      have hBlt := Bx.lt
      have hplt := Bp.lt
      clear hbw
      refine wp_region_lnl (K := fun A B => A.grownBy B (some g)) (by kernel_rfl) (by kernel_rfl) [8, 11, 14, 17] (by kernel_rfl) [lEq (.pointer (some ⟨w.heap.size, 0 + 3, none⟩)), lEq (.slice (some ⟨g, 0, none⟩) x.reads.length c1), lEq (.int .i64 (m : Int)), lEq (.pointer (some ⟨w.heap.size, 0 + 3, none⟩)), lEq (.slice (some ⟨g, 0, none⟩) x.reads.length c1), lEq (.int .i64 (m : Int)), lEq (.pointer (some ⟨wr.heap.size, 0 + 1, none⟩)), lEq (.slice KA s.lo.length KC), lAny, lEq (.pointer (some ⟨wr.heap.size, 0 + 2, none⟩)), lEq (.slice VA s.hi.length VC), lAny, lEq (.pointer (some ⟨g, 0 + m * 4, none⟩)), lEq (.pointer (some ⟨g, 0 + m * 4 + 1, none⟩)), lAny, lEq (.pointer (some ⟨g, 0 + m * 4, none⟩)), lEq (.pointer (some ⟨g, 0 + m * 4 + 2, none⟩)), lAny] (CpJ 25 4 x.reads.length W2 g (.slice (some ⟨g, 0, none⟩) x.reads.length c1) vs (0 + m * 4 + 1) (0 + m * 4 + 2) s.lo s.hi) CpJ.below (show Below W2.heap.size W2 W2 from Below.refl _ _)
        ⟨?o0, ?o1, ?o2, ?o3, ?o4, ?o5, ?o6, ?o7, ?o8, ?o9, ?o10, ?o11, ?o12, ?o13, ?o14, ?o15, ?o16, ?o17, trivial⟩ ?fin
      case o0 =>
        refine LnOp.side rfl (by kernel_rfl) (fun A va w' k hF hT hk hJ hb hu hp hd => ?_)
        have e1 : A.eval (.tmp 1) = .pointer (some ⟨w.heap.size, 0, none⟩) := hF 1 rfl
        exact wp_fieldN psS rfl (e1) (by omega) ⟨_, rfl, rfl, Below.refl _ _⟩
      case o1 =>
        refine LnOp.side rfl (by kernel_rfl) (fun A va w' k hF hT hk hJ hb hu hp hd => ?_)
        have e1 : A.eval (.tmp 23) = .pointer (some ⟨w.heap.size, 0 + 3, none⟩) := (hT 23 0 (by simp) rfl).trans (hd ⟨0, .data⟩ (by simp) rfl rfl)
        exact wp_ld_slice (e := 25) rfl (e1) (by kernel_rfl) ((Bp.other (CpJ.grown hJ) (by intro e; injection e with e; omega)).cell (i := 3) rfl) ⟨_, rfl, rfl, Below.refl _ _⟩
      case o2 =>
        refine LnOp.side rfl (by kernel_rfl) (fun A va w' k hF hT hk hJ hb hu hp hd => ?_)
        have e1 : A.eval (.tmp 3) = .int .i64 (m : Int) := hF 3 rfl
        exact BigFrame.wp_move _ rfl ⟨_, rfl, e1, Below.refl _ _⟩
      case o3 =>
        refine LnOp.side rfl (by kernel_rfl) (fun A va w' k hF hT hk hJ hb hu hp hd => ?_)
        have e1 : A.eval (.tmp 1) = .pointer (some ⟨w.heap.size, 0, none⟩) := hF 1 rfl
        exact wp_fieldN psS rfl (e1) (by omega) ⟨_, rfl, rfl, Below.refl _ _⟩
      case o4 =>
        refine LnOp.side rfl (by kernel_rfl) (fun A va w' k hF hT hk hJ hb hu hp hd => ?_)
        have e1 : A.eval (.tmp 26) = .pointer (some ⟨w.heap.size, 0 + 3, none⟩) := (hT 26 3 (by simp) rfl).trans (hd ⟨3, .data⟩ (by simp) rfl rfl)
        exact wp_ld_slice (e := 25) rfl (e1) (by kernel_rfl) ((Bp.other (CpJ.grown hJ) (by intro e; injection e with e; omega)).cell (i := 3) rfl) ⟨_, rfl, rfl, Below.refl _ _⟩
      case o5 =>
        refine LnOp.side rfl (by kernel_rfl) (fun A va w' k hF hT hk hJ hb hu hp hd => ?_)
        have e1 : A.eval (.tmp 3) = .int .i64 (m : Int) := hF 3 rfl
        exact BigFrame.wp_move _ rfl ⟨_, rfl, e1, Below.refl _ _⟩
      case o6 =>
        refine LnOp.side rfl (by kernel_rfl) (fun A va w' k hF hT hk hJ hb hu hp hd => ?_)
        have e1 : A.eval (.tmp 4) = .pointer (some ⟨wr.heap.size, 0, none⟩) := hF 4 rfl
        exact wp_fieldN spS rfl (e1) (by omega) ⟨_, rfl, rfl, Below.refl _ _⟩
      case o7 =>
        refine LnOp.side rfl (by kernel_rfl) (fun A va w' k hF hT hk hJ hb hu hp hd => ?_)
        have e1 : A.eval (.tmp 29) = .pointer (some ⟨wr.heap.size, 0 + 1, none⟩) := (hT 29 6 (by simp) rfl).trans (hd ⟨6, .data⟩ (by simp) rfl rfl)
        exact wp_ld_slice (e := 5) rfl (e1) (by kernel_rfl) ((Bx.other (CpJ.grown hJ) (by intro e; injection e with e; omega)).cell (i := 1) rfl) ⟨_, rfl, rfl, Below.refl _ _⟩
      case o8 =>
        refine LnOp.line 0 rfl rfl (fun A va w' hF hT hJ hu hd => ?_)
        have e1 : A.eval (.tmp 30) = .slice KA s.lo.length KC := (hT 30 7 (by simp) rfl).trans (hd ⟨7, .data⟩ (by simp) rfl rfl)
        have hJ0 : Below W2.heap.size W2 w' := hJ
        refine wp_callFn rfl eC (args := #[.slice KA s.lo.length KC]) (by simp only [List.map_toArray, List.map_cons, List.map_nil, e1]) ((clone_any w' (hka.below hJ0).rd (Nat.le_refl _) hlo).mono ?_)
        rintro e w2 ⟨ad', k2, c', rfl, hf'⟩
        obtain rfl := hf'.2.rdS.len.1
        exact ⟨_, rfl, _, rfl, ⟨hJ0.trans (hf'.1.mono hJ0.size), ⟨_, _, rfl, hf'.2.rdS.weak fun j hj => ⟨Nat.le_trans hJ0.size hj.1, hj.2⟩⟩⟩, grown_below' hf'.1 _⟩
      case o9 =>
        refine LnOp.side rfl (by kernel_rfl) (fun A va w' k hF hT hk hJ hb hu hp hd => ?_)
        have e1 : A.eval (.tmp 4) = .pointer (some ⟨wr.heap.size, 0, none⟩) := hF 4 rfl
        exact wp_fieldN spS rfl (e1) (by omega) ⟨_, rfl, rfl, Below.refl _ _⟩
      case o10 =>
        refine LnOp.side rfl (by kernel_rfl) (fun A va w' k hF hT hk hJ hb hu hp hd => ?_)
        have e1 : A.eval (.tmp 32) = .pointer (some ⟨wr.heap.size, 0 + 2, none⟩) := (hT 32 9 (by simp) rfl).trans (hd ⟨9, .data⟩ (by simp) rfl rfl)
        exact wp_ld_slice (e := 5) rfl (e1) (by kernel_rfl) ((Bx.other (CpJ.grown hJ) (by intro e; injection e with e; omega)).cell (i := 2) rfl) ⟨_, rfl, rfl, Below.refl _ _⟩
      case o11 =>
        refine LnOp.line 1 rfl rfl (fun A va w' hF hT hJ hu hd => ?_)
        have e1 : A.eval (.tmp 33) = .slice VA s.hi.length VC := (hT 33 10 (by simp) rfl).trans (hd ⟨10, .data⟩ (by simp) rfl rfl)
        obtain ⟨hJ0, h1⟩ : CpJ 25 4 x.reads.length W2 g (.slice (some ⟨g, 0, none⟩) x.reads.length c1) vs (0 + m * 4 + 1) (0 + m * 4 + 2) s.lo s.hi [va 8] w' := hJ
        refine wp_callFn rfl eC (args := #[.slice VA s.hi.length VC]) (by simp only [List.map_toArray, List.map_cons, List.map_nil, e1]) ((clone_any w' (hva.below hJ0).rd (Nat.le_refl _) hhi).mono ?_)
        rintro e w2 ⟨ad', k2, c', rfl, hf'⟩
        obtain rfl := hf'.2.rdS.len.1
        exact ⟨_, rfl, _, rfl, ⟨hJ0.trans (hf'.1.mono hJ0.size), h1.below hf'.1, ⟨_, _, rfl, hf'.2.rdS.weak fun j hj => ⟨Nat.le_trans hJ0.size hj.1, hj.2⟩⟩⟩, grown_below' hf'.1 _⟩
      case o12 =>
        refine LnOp.side rfl (by kernel_rfl) (fun A va w' k hF hT hk hJ hb hu hp hd => ?_)
        have e1 : A.eval (.tmp 24) = .slice (some ⟨g, 0, none⟩) x.reads.length c1 := (hT 24 1 (by simp) rfl).trans (hd ⟨1, .data⟩ (by simp) rfl rfl)
        have e2 : A.eval (.tmp 25) = .int .i64 (m : Int) := (hT 25 2 (by simp) rfl).trans (hd ⟨2, .data⟩ (by simp) rfl rfl)
        exact wp_ixN (e := 25) rfl (by kernel_rfl) (by kernel_rfl) (e1) (e2) rfl (by omega) ⟨_, rfl, rfl, Below.refl _ _⟩
      case o13 =>
        refine LnOp.side rfl (by kernel_rfl) (fun A va w' k hF hT hk hJ hb hu hp hd => ?_)
        have e1 : A.eval (.tmp 35) = .pointer (some ⟨g, 0 + m * 4, none⟩) := (hT 35 12 (by simp) rfl).trans (hd ⟨12, .data⟩ (by simp) rfl rfl)
        exact wp_fieldN spS rfl (e1) (by omega) ⟨_, rfl, rfl, Below.refl _ _⟩
      case o14 =>
        refine LnOp.line 2 rfl rfl (fun A va w' hF hT hJ hu hd => ?_)
        have e1 : A.eval (.tmp 36) = .pointer (some ⟨g, 0 + m * 4 + 1, none⟩) := (hT 36 13 (by simp) rfl).trans (hd ⟨13, .data⟩ (by simp) rfl rfl)
        have x2 : A.eval (.tmp 31) = va 8 := hT 31 8 (by simp) rfl
        obtain ⟨hJ0, h1, h2⟩ : CpJ 25 4 x.reads.length W2 g (.slice (some ⟨g, 0, none⟩) x.reads.length c1) vs (0 + m * 4 + 1) (0 + m * 4 + 2) s.lo s.hi [va 8, va 11] w' := hJ
        obtain ⟨k1, d1, ek, hr1⟩ := id h1
        refine wp_putC rfl (by kernel_rfl) e1 (x2.trans ek) (hQ.below hJ0) rfl (by omega) (fun w2 hg hq => ⟨_, rfl, ⟨grT (grown_below' hJ0 _) hg, by rw [ek]; exact hq, h1.grown hg (by omega), h2.grown hg (by omega)⟩, hg⟩)
      case o15 =>
        refine LnOp.side rfl (by kernel_rfl) (fun A va w' k hF hT hk hJ hb hu hp hd => ?_)
        have e1 : A.eval (.tmp 27) = .slice (some ⟨g, 0, none⟩) x.reads.length c1 := (hT 27 4 (by simp) rfl).trans (hd ⟨4, .data⟩ (by simp) rfl rfl)
        have e2 : A.eval (.tmp 28) = .int .i64 (m : Int) := (hT 28 5 (by simp) rfl).trans (hd ⟨5, .data⟩ (by simp) rfl rfl)
        exact wp_ixN (e := 25) rfl (by kernel_rfl) (by kernel_rfl) (e1) (e2) rfl (by omega) ⟨_, rfl, rfl, Below.refl _ _⟩
      case o16 =>
        refine LnOp.side rfl (by kernel_rfl) (fun A va w' k hF hT hk hJ hb hu hp hd => ?_)
        have e1 : A.eval (.tmp 37) = .pointer (some ⟨g, 0 + m * 4, none⟩) := (hT 37 15 (by simp) rfl).trans (hd ⟨15, .data⟩ (by simp) rfl rfl)
        exact wp_fieldN spS rfl (e1) (by omega) ⟨_, rfl, rfl, Below.refl _ _⟩
      case o17 =>
        refine LnOp.line 3 rfl rfl (fun A va w' hF hT hJ hu hd => ?_)
        have e1 : A.eval (.tmp 38) = .pointer (some ⟨g, 0 + m * 4 + 2, none⟩) := (hT 38 16 (by simp) rfl).trans (hd ⟨16, .data⟩ (by simp) rfl rfl)
        have x2 : A.eval (.tmp 34) = va 11 := hT 34 11 (by simp) rfl
        obtain ⟨hJ0, hq0, h1, h2⟩ : CpJ 25 4 x.reads.length W2 g (.slice (some ⟨g, 0, none⟩) x.reads.length c1) vs (0 + m * 4 + 1) (0 + m * 4 + 2) s.lo s.hi [va 8, va 11, va 14] w' := hJ
        obtain ⟨k2, d2, ek, hr2⟩ := id h2
        refine wp_putC rfl (by kernel_rfl) e1 (x2.trans ek) hq0 rfl (by rw [List.length_set]; omega) (fun w2 hg hq => ⟨_, rfl, ⟨grT hJ0 hg, by rw [ek]; exact hq, h1.grown hg (by omega), h2.grown hg (by omega)⟩, hg⟩)
      case fin =>
        intro vs1 W3 hJ hG
        obtain ⟨hg3, hq3, ⟨k1a, k1c, ek1, hr1⟩, ⟨k2a, k2c, ek2, hr2⟩⟩ : CpJ 25 4 x.reads.length W2 g (.slice (some ⟨g, 0, none⟩) x.reads.length c1) vs (0 + m * 4 + 1) (0 + m * 4 + 2) s.lo s.hi [vs1 8, vs1 11, vs1 14, vs1 17] W3 := hJ
        rw [ek1, ek2] at hq3
        clear hG
        simp only [putAll]
        clear ek1 ek2
        go_simp
        have hs3 := hg3.size
        have hkeep : ∀ j, j < w.heap.size ∨ B ≤ j → j < W2.heap.size → W3.heap[j]? = W2.heap[j]? := fun j h1 h2 => hg3.block j h2 fun e => by injection e with e; omega
        have hrow := hstep.out _ (spC s (.slice k1a s.lo.length k1c) (.slice k2a s.hi.length k2c)) _ _ hP hq3 hkeep (fun r j hr hj => ?h1) ⟨_, _, rfl, hr1.weak fun j hj => by omega, hr2.weak fun j hj => by omega, hw64⟩ (fun j u hj => ?h2)
        case h1 =>
          replace hj : j < 4 := hj
          show ((vs.set _ _).set _ _)[r * 4 + j]? = vs[r * 4 + j]?
          rw [List.getElem?_set_ne (by omega), List.getElem?_set_ne (by omega)]
        case h2 =>
          show ((vs.set _ _).set _ _)[m * 4 + j]? = some u
          match j, hj with
          | 0, hj => rw [List.getElem?_set_ne (by omega), List.getElem?_set_ne (by omega)]; exact hcl 0 u hj
          | 1, hj => rw [List.getElem?_set_ne (by omega), show 0 + m * 4 + 1 = m * 4 + 1 by omega, List.getElem?_set_self (by omega)]; exact hj
          | 2, hj => rw [show 0 + m * 4 + 2 = m * 4 + 2 by omega, List.getElem?_set_self (by rw [List.length_set]; omega)]; exact hj
          | 3, hj => rw [List.getElem?_set_ne (by omega), List.getElem?_set_ne (by omega)]; exact hcl 3 u hj
        have q3 := q.grown hg3 q.size fun j hj => by injection hj with hj; omega
        have Bp3 := Bp.other hg3 (by intro e; injection e with e; omega)
        have Bz3 := Bz.other hg3 (by intro e; injection e with e; omega)
        have hR3 := hR2.kept (w' := W3) (fun j hj => hg3.block j (hR2.lt hj) fun e => by injection e with e; exact hne g rfl (by rw [← e]; exact hj)) (fun j hj hl => hg3.block j hl fun e => by injection e with e; omega)
        clear hq3 hQ hP hr1 hr2 hcl hstep hka hva
        go_wp2_with fail
        go_roundw
        case rel => exact ⟨m + 1, by go_num, by omega, hrow, hR3, Bp3, Bz3, q3, by omega⟩
        case measure => simp [intOf]; omega
    · obtain rfl : m = x.reads.length := by omega
      have dk : decide ((x.reads.length : Int) < (x.reads.length : Int)) = false := decide_eq_false (by omega)
      have c4 := Bp.cell (i := 4) rfl
      go_upto_region 8 with (fail)
      clear c4 dk hge hkl
      replace hR2 := hR2.start B
      go_loopw [43] (fun iv wr => ∃ (k : Nat), iv = .int .i64 (k : Int) ∧ k ≤ x.writes.length ∧ RowH Elt.wr 43 B w.heap.size wr (.slice r2 x.writes.length c2) x.writes k ∧ RowH Elt.sp 25 B w.heap.size wr (.slice r1 x.reads.length c1) x.reads x.reads.length ∧ BoxN wr w.heap.size 49 [.int .i64 x.snap, .int .i64 x.stamp, .bool x.held, .slice r1 x.reads.length c1, .slice r2 x.writes.length c2, .bool x.out] ∧ BoxN wr (w.heap.size + 1) 49 [.int .i64 0, .int .i64 0, .bool false, .slice none 0 0, .slice none 0 0, .bool false] ∧ Below w.heap.size w wr ∧ B ≤ wr.heap.size) (fun i _ => x.writes.length - (intOf i).toNat)
      case atStart => exact ⟨0, rfl, Nat.zero_le _, hR2, hR, Bp, Bz, q, hBs⟩
      case round =>
        clear q hR hR2 Bp Bz hBs
        obtain ⟨m, rfl, hkl, hR, hR2, Bp, Bz, q, hBs⟩ := hrel
        rcases Nat.lt_or_ge m x.writes.length with hlt | hge
        · have dk : decide ((m : Int) < (x.writes.length : Int)) = true := decide_eq_true (by omega)
          obtain ⟨vs, hQ, hP⟩ := hR
          obtain ⟨g, rfl⟩ := hQ.place (by omega)
          have hgb := hg2' g rfl
          obtain ⟨us, ⟨ka, va, rfl, hka, hva, hw64⟩, hcl⟩ := hP m hlt
          have hvl := hQ.len
          replace hvl : vs.length = x.writes.length * 4 := hvl
          replace hcl : ∀ j u, (wrC x.writes[m] ka va)[j]? = some u → vs[m * 4 + j]? = some u := hcl
          obtain ⟨hlo, hhi⟩ := hsm.2.2 _ (List.getElem_mem hlt)
          have hstep := Lib.hid (fun (vs' us : List Value) (w2 w3 : World) (hp : PtH Elt.wr B w.heap.size w2 x.writes m vs) => RowH.step (E := Elt.wr) (Te := 43) (B := B) (n0 := w.heap.size) (w := w2) (w' := w3) (v := .slice (some ⟨g, 0, none⟩) x.writes.length c2) (xs := x.writes) (vs := vs) (vs' := vs') (us := us) hlt hp)
          obtain ⟨s, es⟩ : ∃ s, s = x.writes[m] := ⟨_, rfl⟩
          rw [← es] at hka hva hw64 hlo hhi hcl hstep
          clear es
          obtain ⟨KA, KC, rfl, _, _⟩ := hka.shape
          obtain ⟨VA, VC, rfl, _, _⟩ := hva.shape
          have c0 : wr.cell? ⟨g, m * 4, none⟩ = some (.int .i64 s.table) := hQ.cell (g := g) rfl (hcl 0 _ rfl)
          have c1 : wr.cell? ⟨g, m * 4 + 1, none⟩ = some (.slice KA s.key.length KC) := hQ.cell (g := g) rfl (hcl 1 _ rfl)
          have c2 : wr.cell? ⟨g, m * 4 + 2, none⟩ = some (.bool s.gone) := hQ.cell (g := g) rfl (hcl 2 _ rfl)
          have c3 : wr.cell? ⟨g, m * 4 + 3, none⟩ = some (.slice VA s.val.length VC) := hQ.cell (g := g) rfl (hcl 3 _ rfl)
          have hlk : m * 4 + 3 < vs.length := by omega
          replace hvl := Lib.hid hvl
          go_upto_region 10 with (first | (refine wpList_boxNew (vs := [.int .i64 0, .slice none 0 0, .bool false, .slice none 0 0]) (by kernel_rfl) rfl rfl ?_; intro wa hba hBa) | (refine wpList_boxStore (us := [.int .i64 s.table, .slice KA s.key.length KC, .bool s.gone, .slice VA s.val.length VC]) (by kernel_rfl) rfl rfl rfl rfl rfl rfl hBa rfl ?_; intro W2 hgw Bx) | fail)
          try go_simp
          have hbw := hba.grown hgw hba.size fun k hk => by injection hk with hk; omega
          clear c0 c1 c2 c3 hba hBa hgw
          replace Bp := Bp.below hbw Bp.lt
          replace Bz := Bz.below hbw Bz.lt
          replace hQ := hQ.below hbw
          replace hP := hP.keep (w' := W2) fun j _ hj => hbw.block j hj
          replace hka := hka.below hbw
          replace hva := hva.below hbw
          replace hR2 := hR2.below hbw
          have hsw := hbw.size
          replace q := q.trans (hbw.mono q.size)
          have hBlt := Bx.lt
          have hplt := Bp.lt
          clear hbw
          refine wp_region_lnl (K := fun A B => A.grownBy B (some g)) (by kernel_rfl) (by kernel_rfl) [8, 11, 14, 17] (by kernel_rfl) [lEq (.pointer (some ⟨w.heap.size, 0 + 4, none⟩)), lEq (.slice (some ⟨g, 0, none⟩) x.writes.length c2), lEq (.int .i64 (m : Int)), lEq (.pointer (some ⟨w.heap.size, 0 + 4, none⟩)), lEq (.slice (some ⟨g, 0, none⟩) x.writes.length c2), lEq (.int .i64 (m : Int)), lEq (.pointer (some ⟨wr.heap.size, 0 + 1, none⟩)), lEq (.slice KA s.key.length KC), lAny, lEq (.pointer (some ⟨wr.heap.size, 0 + 3, none⟩)), lEq (.slice VA s.val.length VC), lAny, lEq (.pointer (some ⟨g, 0 + m * 4, none⟩)), lEq (.pointer (some ⟨g, 0 + m * 4 + 1, none⟩)), lAny, lEq (.pointer (some ⟨g, 0 + m * 4, none⟩)), lEq (.pointer (some ⟨g, 0 + m * 4 + 3, none⟩)), lAny] (CpJ 43 4 x.writes.length W2 g (.slice (some ⟨g, 0, none⟩) x.writes.length c2) vs (0 + m * 4 + 1) (0 + m * 4 + 3) s.key s.val) CpJ.below (show Below W2.heap.size W2 W2 from Below.refl _ _)
            ⟨?o0, ?o1, ?o2, ?o3, ?o4, ?o5, ?o6, ?o7, ?o8, ?o9, ?o10, ?o11, ?o12, ?o13, ?o14, ?o15, ?o16, ?o17, trivial⟩ ?fin
          case o0 =>
            refine LnOp.side rfl (by kernel_rfl) (fun A va w' k hF hT hk hJ hb hu hp hd => ?_)
            have e1 : A.eval (.tmp 1) = .pointer (some ⟨w.heap.size, 0, none⟩) := hF 1 rfl
            exact wp_fieldN psS rfl (e1) (by omega) ⟨_, rfl, rfl, Below.refl _ _⟩
          case o1 =>
            refine LnOp.side rfl (by kernel_rfl) (fun A va w' k hF hT hk hJ hb hu hp hd => ?_)
            have e1 : A.eval (.tmp 48) = .pointer (some ⟨w.heap.size, 0 + 4, none⟩) := (hT 48 0 (by simp) rfl).trans (hd ⟨0, .data⟩ (by simp) rfl rfl)
            exact wp_ld_slice (e := 43) rfl (e1) (by kernel_rfl) ((Bp.other (CpJ.grown hJ) (by intro e; injection e with e; omega)).cell (i := 4) rfl) ⟨_, rfl, rfl, Below.refl _ _⟩
          case o2 =>
            refine LnOp.side rfl (by kernel_rfl) (fun A va w' k hF hT hk hJ hb hu hp hd => ?_)
            have e1 : A.eval (.tmp 5) = .int .i64 (m : Int) := hF 5 rfl
            exact BigFrame.wp_move _ rfl ⟨_, rfl, e1, Below.refl _ _⟩
          case o3 =>
            refine LnOp.side rfl (by kernel_rfl) (fun A va w' k hF hT hk hJ hb hu hp hd => ?_)
            have e1 : A.eval (.tmp 1) = .pointer (some ⟨w.heap.size, 0, none⟩) := hF 1 rfl
            exact wp_fieldN psS rfl (e1) (by omega) ⟨_, rfl, rfl, Below.refl _ _⟩
          case o4 =>
            refine LnOp.side rfl (by kernel_rfl) (fun A va w' k hF hT hk hJ hb hu hp hd => ?_)
            have e1 : A.eval (.tmp 51) = .pointer (some ⟨w.heap.size, 0 + 4, none⟩) := (hT 51 3 (by simp) rfl).trans (hd ⟨3, .data⟩ (by simp) rfl rfl)
            exact wp_ld_slice (e := 43) rfl (e1) (by kernel_rfl) ((Bp.other (CpJ.grown hJ) (by intro e; injection e with e; omega)).cell (i := 4) rfl) ⟨_, rfl, rfl, Below.refl _ _⟩
          case o5 =>
            refine LnOp.side rfl (by kernel_rfl) (fun A va w' k hF hT hk hJ hb hu hp hd => ?_)
            have e1 : A.eval (.tmp 5) = .int .i64 (m : Int) := hF 5 rfl
            exact BigFrame.wp_move _ rfl ⟨_, rfl, e1, Below.refl _ _⟩
          case o6 =>
            refine LnOp.side rfl (by kernel_rfl) (fun A va w' k hF hT hk hJ hb hu hp hd => ?_)
            have e1 : A.eval (.tmp 6) = .pointer (some ⟨wr.heap.size, 0, none⟩) := hF 6 rfl
            exact wp_fieldN wrS rfl (e1) (by omega) ⟨_, rfl, rfl, Below.refl _ _⟩
          case o7 =>
            refine LnOp.side rfl (by kernel_rfl) (fun A va w' k hF hT hk hJ hb hu hp hd => ?_)
            have e1 : A.eval (.tmp 54) = .pointer (some ⟨wr.heap.size, 0 + 1, none⟩) := (hT 54 6 (by simp) rfl).trans (hd ⟨6, .data⟩ (by simp) rfl rfl)
            exact wp_ld_slice (e := 5) rfl (e1) (by kernel_rfl) ((Bx.other (CpJ.grown hJ) (by intro e; injection e with e; omega)).cell (i := 1) rfl) ⟨_, rfl, rfl, Below.refl _ _⟩
          case o8 =>
            refine LnOp.line 0 rfl rfl (fun A va w' hF hT hJ hu hd => ?_)
            have e1 : A.eval (.tmp 55) = .slice KA s.key.length KC := (hT 55 7 (by simp) rfl).trans (hd ⟨7, .data⟩ (by simp) rfl rfl)
            have hJ0 : Below W2.heap.size W2 w' := hJ
            refine wp_callFn rfl eC (args := #[.slice KA s.key.length KC]) (by simp only [List.map_toArray, List.map_cons, List.map_nil, e1]) ((clone_any w' (hka.below hJ0).rd (Nat.le_refl _) hlo).mono ?_)
            rintro e w2 ⟨ad', k2, c', rfl, hf'⟩
            obtain rfl := hf'.2.rdS.len.1
            exact ⟨_, rfl, _, rfl, ⟨hJ0.trans (hf'.1.mono hJ0.size), ⟨_, _, rfl, hf'.2.rdS.weak fun j hj => ⟨Nat.le_trans hJ0.size hj.1, hj.2⟩⟩⟩, grown_below' hf'.1 _⟩
          case o9 =>
            refine LnOp.side rfl (by kernel_rfl) (fun A va w' k hF hT hk hJ hb hu hp hd => ?_)
            have e1 : A.eval (.tmp 6) = .pointer (some ⟨wr.heap.size, 0, none⟩) := hF 6 rfl
            exact wp_fieldN wrS rfl (e1) (by omega) ⟨_, rfl, rfl, Below.refl _ _⟩
          case o10 =>
            refine LnOp.side rfl (by kernel_rfl) (fun A va w' k hF hT hk hJ hb hu hp hd => ?_)
            have e1 : A.eval (.tmp 57) = .pointer (some ⟨wr.heap.size, 0 + 3, none⟩) := (hT 57 9 (by simp) rfl).trans (hd ⟨9, .data⟩ (by simp) rfl rfl)
            exact wp_ld_slice (e := 5) rfl (e1) (by kernel_rfl) ((Bx.other (CpJ.grown hJ) (by intro e; injection e with e; omega)).cell (i := 3) rfl) ⟨_, rfl, rfl, Below.refl _ _⟩
          case o11 =>
            refine LnOp.line 1 rfl rfl (fun A va w' hF hT hJ hu hd => ?_)
            have e1 : A.eval (.tmp 58) = .slice VA s.val.length VC := (hT 58 10 (by simp) rfl).trans (hd ⟨10, .data⟩ (by simp) rfl rfl)
            obtain ⟨hJ0, h1⟩ : CpJ 43 4 x.writes.length W2 g (.slice (some ⟨g, 0, none⟩) x.writes.length c2) vs (0 + m * 4 + 1) (0 + m * 4 + 3) s.key s.val [va 8] w' := hJ
            refine wp_callFn rfl eC (args := #[.slice VA s.val.length VC]) (by simp only [List.map_toArray, List.map_cons, List.map_nil, e1]) ((clone_any w' (hva.below hJ0).rd (Nat.le_refl _) hhi).mono ?_)
            rintro e w2 ⟨ad', k2, c', rfl, hf'⟩
            obtain rfl := hf'.2.rdS.len.1
            exact ⟨_, rfl, _, rfl, ⟨hJ0.trans (hf'.1.mono hJ0.size), h1.below hf'.1, ⟨_, _, rfl, hf'.2.rdS.weak fun j hj => ⟨Nat.le_trans hJ0.size hj.1, hj.2⟩⟩⟩, grown_below' hf'.1 _⟩
          case o12 =>
            refine LnOp.side rfl (by kernel_rfl) (fun A va w' k hF hT hk hJ hb hu hp hd => ?_)
            have e1 : A.eval (.tmp 49) = .slice (some ⟨g, 0, none⟩) x.writes.length c2 := (hT 49 1 (by simp) rfl).trans (hd ⟨1, .data⟩ (by simp) rfl rfl)
            have e2 : A.eval (.tmp 50) = .int .i64 (m : Int) := (hT 50 2 (by simp) rfl).trans (hd ⟨2, .data⟩ (by simp) rfl rfl)
            exact wp_ixN (e := 43) rfl (by kernel_rfl) (by kernel_rfl) (e1) (e2) rfl (by omega) ⟨_, rfl, rfl, Below.refl _ _⟩
          case o13 =>
            refine LnOp.side rfl (by kernel_rfl) (fun A va w' k hF hT hk hJ hb hu hp hd => ?_)
            have e1 : A.eval (.tmp 60) = .pointer (some ⟨g, 0 + m * 4, none⟩) := (hT 60 12 (by simp) rfl).trans (hd ⟨12, .data⟩ (by simp) rfl rfl)
            exact wp_fieldN wrS rfl (e1) (by omega) ⟨_, rfl, rfl, Below.refl _ _⟩
          case o14 =>
            refine LnOp.line 2 rfl rfl (fun A va w' hF hT hJ hu hd => ?_)
            have e1 : A.eval (.tmp 61) = .pointer (some ⟨g, 0 + m * 4 + 1, none⟩) := (hT 61 13 (by simp) rfl).trans (hd ⟨13, .data⟩ (by simp) rfl rfl)
            have x2 : A.eval (.tmp 56) = va 8 := hT 56 8 (by simp) rfl
            obtain ⟨hJ0, h1, h2⟩ : CpJ 43 4 x.writes.length W2 g (.slice (some ⟨g, 0, none⟩) x.writes.length c2) vs (0 + m * 4 + 1) (0 + m * 4 + 3) s.key s.val [va 8, va 11] w' := hJ
            obtain ⟨k1, d1, ek, hr1⟩ := id h1
            refine wp_putC rfl (by kernel_rfl) e1 (x2.trans ek) (hQ.below hJ0) rfl (by omega) (fun w2 hg hq => ⟨_, rfl, ⟨grT (grown_below' hJ0 _) hg, by rw [ek]; exact hq, h1.grown hg (by omega), h2.grown hg (by omega)⟩, hg⟩)
          case o15 =>
            refine LnOp.side rfl (by kernel_rfl) (fun A va w' k hF hT hk hJ hb hu hp hd => ?_)
            have e1 : A.eval (.tmp 52) = .slice (some ⟨g, 0, none⟩) x.writes.length c2 := (hT 52 4 (by simp) rfl).trans (hd ⟨4, .data⟩ (by simp) rfl rfl)
            have e2 : A.eval (.tmp 53) = .int .i64 (m : Int) := (hT 53 5 (by simp) rfl).trans (hd ⟨5, .data⟩ (by simp) rfl rfl)
            exact wp_ixN (e := 43) rfl (by kernel_rfl) (by kernel_rfl) (e1) (e2) rfl (by omega) ⟨_, rfl, rfl, Below.refl _ _⟩
          case o16 =>
            refine LnOp.side rfl (by kernel_rfl) (fun A va w' k hF hT hk hJ hb hu hp hd => ?_)
            have e1 : A.eval (.tmp 62) = .pointer (some ⟨g, 0 + m * 4, none⟩) := (hT 62 15 (by simp) rfl).trans (hd ⟨15, .data⟩ (by simp) rfl rfl)
            exact wp_fieldN wrS rfl (e1) (by omega) ⟨_, rfl, rfl, Below.refl _ _⟩
          case o17 =>
            refine LnOp.line 3 rfl rfl (fun A va w' hF hT hJ hu hd => ?_)
            have e1 : A.eval (.tmp 63) = .pointer (some ⟨g, 0 + m * 4 + 3, none⟩) := (hT 63 16 (by simp) rfl).trans (hd ⟨16, .data⟩ (by simp) rfl rfl)
            have x2 : A.eval (.tmp 59) = va 11 := hT 59 11 (by simp) rfl
            obtain ⟨hJ0, hq0, h1, h2⟩ : CpJ 43 4 x.writes.length W2 g (.slice (some ⟨g, 0, none⟩) x.writes.length c2) vs (0 + m * 4 + 1) (0 + m * 4 + 3) s.key s.val [va 8, va 11, va 14] w' := hJ
            obtain ⟨k2, d2, ek, hr2⟩ := id h2
            refine wp_putC rfl (by kernel_rfl) e1 (x2.trans ek) hq0 rfl (by rw [List.length_set]; omega) (fun w2 hg hq => ⟨_, rfl, ⟨grT hJ0 hg, by rw [ek]; exact hq, h1.grown hg (by omega), h2.grown hg (by omega)⟩, hg⟩)
          case fin =>
            intro vs1 W3 hJ hG
            obtain ⟨hg3, hq3, ⟨k1a, k1c, ek1, hr1⟩, ⟨k2a, k2c, ek2, hr2⟩⟩ : CpJ 43 4 x.writes.length W2 g (.slice (some ⟨g, 0, none⟩) x.writes.length c2) vs (0 + m * 4 + 1) (0 + m * 4 + 3) s.key s.val [vs1 8, vs1 11, vs1 14, vs1 17] W3 := hJ
            rw [ek1, ek2] at hq3
            clear hG
            simp only [putAll]
            clear ek1 ek2
            go_simp
            have hs3 := hg3.size
            have hkeep : ∀ j, j < w.heap.size ∨ B ≤ j → j < W2.heap.size → W3.heap[j]? = W2.heap[j]? := fun j h1 h2 => hg3.block j h2 fun e => by injection e with e; omega
            have hrow := hstep.out _ (wrC s (.slice k1a s.key.length k1c) (.slice k2a s.val.length k2c)) _ _ hP hq3 hkeep (fun r j hr hj => ?h1) ⟨_, _, rfl, hr1.weak fun j hj => by omega, hr2.weak fun j hj => by omega, hw64⟩ (fun j u hj => ?h2)
            case h1 =>
              replace hj : j < 4 := hj
              show ((vs.set _ _).set _ _)[r * 4 + j]? = vs[r * 4 + j]?
              rw [List.getElem?_set_ne (by omega), List.getElem?_set_ne (by omega)]
            case h2 =>
              show ((vs.set _ _).set _ _)[m * 4 + j]? = some u
              match j, hj with
              | 0, hj => rw [List.getElem?_set_ne (by omega), List.getElem?_set_ne (by omega)]; exact hcl 0 u hj
              | 1, hj => rw [List.getElem?_set_ne (by omega), show 0 + m * 4 + 1 = m * 4 + 1 by omega, List.getElem?_set_self (by omega)]; exact hj
              | 2, hj => rw [List.getElem?_set_ne (by omega), List.getElem?_set_ne (by omega)]; exact hcl 2 u hj
              | 3, hj => rw [show 0 + m * 4 + 3 = m * 4 + 3 by omega, List.getElem?_set_self (by rw [List.length_set]; omega)]; exact hj
            have q3 := q.grown hg3 q.size fun j hj => by injection hj with hj; omega
            have Bp3 := Bp.other hg3 (by intro e; injection e with e; omega)
            have Bz3 := Bz.other hg3 (by intro e; injection e with e; omega)
            have hR3 := hR2.kept (w' := W3) (fun j hj => hg3.block j (hR2.lt hj) fun e => by injection e with e; exact hne j hj (by rw [e]; rfl)) (fun j hj hl => hkeep j hj hl)
            clear hq3 hQ hP hr1 hr2 hcl hstep hka hva
            go_wp2_with fail
            go_roundw
            case rel => exact ⟨m + 1, by go_num, by omega, hrow, hR3, Bp3, Bz3, q3, by omega⟩
            case measure => simp [intOf]; omega
        · obtain rfl : m = x.writes.length := by omega
          have dk : decide ((x.writes.length : Int) < (x.writes.length : Int)) = false := decide_eq_false (by omega)
          have c0 := Bp.cell (i := 0) rfl
          have c1' := Bp.cell (i := 1) rfl
          have c2' := Bp.cell (i := 2) rfl
          have c3 := Bp.cell (i := 3) rfl
          have c4 := Bp.cell (i := 4) rfl
          have c5 := Bp.cell (i := 5) rfl
          go_wp2_with (first | (refine wpList_boxStore (us := [.int .i64 x.snap, .int .i64 x.stamp, .bool x.held, .slice r1 x.reads.length c1, .slice r2 x.writes.length c2, .bool x.out]) (by kernel_rfl) rfl rfl rfl rfl rfl rfl Bz rfl ?_; intro W4 hg4 hB4; clear c0 c1' c2' c3 c4 c5) | fail)
          have d0 := hB4.cell (i := 0) rfl
          have d1 := hB4.cell (i := 1) rfl
          have d2 := hB4.cell (i := 2) rfl
          have d3 := hB4.cell (i := 3) rfl
          have d4 := hB4.cell (i := 4) rfl
          have d5 := hB4.cell (i := 5) rfl
          obtain ⟨fs, hu, _⟩ := psS.hu
          refine bodyPost_ret (v := .agg #[.int .i64 x.snap, .int .i64 x.stamp, .bool x.held, .slice r1 x.reads.length c1, .slice r2 x.writes.length c2, .bool x.out]) (by simp [results, Try.results28, go_sem, loadVar, isAgg, run_underlying hu, run_sizeOf' psS.hs, loadCellsFrom, Addr.add, d0, d1, d2, d3, d4, d5]) rfl ?_
          have hs4 := hg4.size
          have hk4 : ∀ j, j < wr.heap.size → j ≠ w.heap.size + 1 → W4.heap[j]? = wr.heap[j]? := fun j h1 h2 => hg4.block j h1 fun e => by injection e with e; omega
          have q4 := q.grown hg4 q.size fun j hj => by injection hj with hj; omega
          have hm1 : ∀ j, (B ≤ j ∨ (Value.slice r1 x.reads.length c1).ownBlock = some j) → w.heap.size + 2 ≤ j := fun j h => by
            rcases h with h | h
            · omega
            · exact (hg1' j h).1
          have hm2 : ∀ j, (B ≤ j ∨ (Value.slice r2 x.writes.length c2).ownBlock = some j) → w.heap.size + 2 ≤ j := fun j h => by
            rcases h with h | h
            · omega
            · exact (hg2' j h).1
          exact ⟨_, rfl, ⟨r1, c1, r2, c2, rfl, (hR2.rdL.fit.keep fun j hj => hk4 j hj.2 (by have := hm1 j hj.1; omega)).weak fun j hj => ⟨by have := hm1 j hj.1; omega, by omega⟩, (hR.rdL.fit.keep fun j hj => hk4 j hj.2 (by have := hm2 j hj.1; omega)).weak fun j hj => ⟨by have := hm2 j hj.1; omega, by omega⟩, h64⟩, q4⟩
end Go.Proofs.Ytmcleffpjfeegaa
namespace Go.Proofs.Ytmcleffpjfeegaa
open Go.RowKit
def SeqStopsG {ι α : Type} (P : Program) (g : Nat) (lb : Array Value) (encs : α → Array Value) (Kp : ι → World → World → Prop) (Gd : ι → α → World → Prop) (S Sp : List α → Prop) (N : Nat) (w : World) : Prop :=
  ∀ (l : Nat) (J Jx : ι → List α → World → Prop) (W : World), Below w.heap.size w W → (∀ i, AbidesFrom W.heap.size (J i)) → (∀ i, AbidesFrom W.heap.size (Jx i)) →
    (∀ i pre x W1, J i pre W1 → Gd i x W1 → pre.length < N → YieldAt Fence.wide 1 P l (encs x) W1 fun e W' => (e = .returned (.bool true) ∧ J i (pre ++ [x]) W' ∧ Kp i W1 W') ∨ (e = .returned (.bool false) ∧ Jx i (pre ++ [x]) W')) →
    (∀ i, J i [] W) → CallsIn Fence.wide 2 P g (#[.func (.yield l) #[] #[]] ++ lb) W fun e W' => (∃ v, e = .returned v) ∧ ∃ i, ((∃ xs, S xs ∧ J i xs W') ∨ (∃ pre, Sp pre ∧ Jx i pre W'))
section
variable {P : Program} {ι α : Type} {ps : Array Tmp} {assign body : Code}
def Bk (K : Nat) (r : Loop) (W : World) : Prop := W.heap[K + 1]? = some (.loop r) ∧ W.heap[K]? = some (.deferred (some []))
theorem Bk.keeps {K : Nat} {r : Loop} {W W' : World} (h : Bk K r W) (hk : KeepsFrom K W W') : Bk K r W' := ⟨hk.same _ _ (by omega) h.1 rfl, hk.same _ _ (Nat.le_refl _) h.2 rfl⟩
theorem Bk.put {K : Nat} {r r' : Loop} {W : World} (h : Bk K r W) : Bk K r' (W.putObj (K + 1) (.loop r')) := ⟨World.putObj_heap_same (Array.getElem?_eq_some_iff.1 h.1).1, (World.putObj_heap_other (by omega)).trans h.2⟩
theorem Bk.grown {K : Nat} {r : Loop} {W W' : World} {row : Option Nat} (h : Bk K r W) (hg : W.grownBy W' row) (hr : ∀ k, row = some k → ∃ o : Obj, W.heap[k]? = some o ∧ o.isWalk = true) : Bk K r W' :=
  ⟨(grownBy_keeps hg hr h.1 rfl).trans h.1, (grownBy_keeps hg hr h.2 rfl).trans h.2⟩
theorem wp_rangeFuncG {g : Operand} {Q : Exit → Act → World → Prop} {a : Act} {w : World} {gf : Nat} {lb : Array Value} (hg : a.eval g = .func (.func gf) #[] lb) (eg : ∀ args w, (callFunc gf args).run P w = .ok (.enter gf args) w)
    {encs : α → Array Value} {Kp : ι → World → World → Prop} {Gd : ι → α → World → Prop} {S Sp : List α → Prop} {N : Nat} {w0 : World} (hseq : SeqStopsG P gf lb encs Kp Gd S Sp N w0)
    (hKt : ∀ {i : ι} {A B C : World}, Kp i A B → Kp i B C → Kp i A C) (hKb : ∀ (i : ι) (W : World) (l : Nat) (o o' : Obj), w.heap.size ≤ l → W.heap[l]? = some o → o.isCells = false → o.isWalk = false → Kp i W (W.putObj l o')) (hb0 : Below w0.heap.size w0 w) (hps : ∀ x, (encs x).size = ps.size)
    (I : ι → List α → World → Prop) (Ix : ι → Code → List α → World → Prop) (hI : ∀ i, OwnFrom w.heap.size (I i)) (hIx : ∀ i c, OwnFrom w.heap.size (Ix i c)) (h0 : ∀ i, I i [] w) (Ax : ι → α → Act → World → Prop) (hAx : ∀ i x a', OwnFrom w.heap.size (fun (_ : Unit) W => Ax i x a' W))
    (hassign : ∀ (i : ι) (l : Nat) (pre : List α) (x : α) (W : World) (K : Act → World → Prop), I i pre W → Gd i x W → (∀ a' W', KeepsFrom w.heap.size W W' → Kp i W W' → I i pre W' → Ax i x a' W' → K a' W') →
      assign.wpIn (Fence.wide.inRound l) 1 P (Exit.then K (fun _ _ _ => False)) { tmps := (ps.zip (encs x)).foldl (fun t (p, v) => t.setIfInBounds p v) a.tmps, defers := [] } W)
    (hbody : ∀ (i : ι) (l : Nat) (pre : List α) (x : α) (a' : Act) (W : World), I i pre W → Ax i x a' W → pre.length < N → body.wpIn (Fence.wide.inRound l) 1 P (ownPostG w.heap.size (Kp i) (I i) (Ix i) (pre ++ [x]) W) a' W)
    (hdone : ∀ (i : ι) (D : Nat) (xs : List α) (W : World), w.heap.size ≤ D → S xs → I i xs W → W.heap[D]? = some (.deferred (some [])) → Q .normal { a with defers := { target := .collected D, args := #[] } :: a.defers } W)
    (hstop : ∀ (i : ι) (D : Nat) (c : Code) (pre : List α) (W : World), w.heap.size ≤ D → Sp pre → Ix i c pre W → W.heap[D]? = some (.deferred (some [])) → c.wp P Q { a with defers := { target := .collected D, args := #[] } :: a.defers } W) :
    (Code.rangeFunc g ps assign body).wp P Q a w := by
  refine (wpIn_wide (n := 3)).1 (wpIn_rangeFunc fun fn hfn => ?_)
  rw [show Fence.wide.round = none from rfl]
  obtain ⟨rec, hrec⟩ : ∃ rec : LoopState → Option Code → Loop, ∀ st pe, rec st pe = { state := st, pending := pe, fn, tmps := a.tmps, params := ps, assign, body, defers := w.heap.size } := ⟨_, fun _ _ => rfl⟩
  obtain ⟨W1, hW1⟩ : ∃ W1, W1 = (w.alloc (.deferred (some []))).alloc (.loop (rec .ready none)) := ⟨_, rfl⟩
  have bk1 : Bk w.heap.size (rec .ready none) W1 := by
    rw [hW1]
    constructor
    · have := World.alloc_heap_new (w.alloc (.deferred (some []))) (.loop (rec .ready none))
      rwa [World.size_alloc] at this
    · exact (Below.heap_alloc _ _ _ (by simp)).trans (World.alloc_heap_new w _)
  have i1 : ∀ i, I i [] W1 := fun i => by rw [hW1]; exact (hI i).alloc _ ((hI i).alloc _ (h0 i))
  have b1 : Below w0.heap.size w0 W1 := by
    rw [hW1]
    exact hb0.trans ((((Below.refl _ w).alloc (Nat.le_refl _) _).alloc (by simp) _).mono hb0.size)
  have s1 : w.heap.size ≤ W1.heap.size := by rw [hW1]; simp; omega
  refine ⟨w.heap.size + 1, [{ target := .collected w.heap.size, args := #[] }], W1, { target := .fn (.func gf) lb, args := #[.func (.yield (w.heap.size + 1)) #[] #[]] }, W1, gf, #[.func (.yield (w.heap.size + 1)) #[] #[]] ++ lb, W1, ?_, ?_, ?_, ?_, fun _ => by omega, ?_⟩
  · rw [hW1, hrec]
    exact run_enterLoop_outer _ _ _ _ _
  · simp only [resolve, hg]
    simp [go_sem]
  · intro f hf
    simp [Target.leads] at hf
    subst hf
    trivial
  · simp [invoke, go_sem, eg]
  have far : ∀ {A : World} {row : Option Nat}, (∀ r, row = some r → W1.heap.size ≤ r ∧ ∃ o : Obj, A.heap[r]? = some o ∧ o.isWalk = true) → ∀ r, row = some r → w.heap.size ≤ r ∧ ∃ o : Obj, A.heap[r]? = some o ∧ o.isCells = false := fun hr r e => by
    obtain ⟨h1, o, h2, h3⟩ := hr r e
    exact ⟨by omega, o, h2, Obj.not_cells_of_walk h3⟩
  refine (hseq (w.heap.size + 1) (fun i pre W => I i pre W ∧ Bk w.heap.size (rec .ready none) W) (fun i pre W => ∃ c, Ix i c pre W ∧ Bk w.heap.size (rec .done (some c)) W) W1 b1
    (fun i s A B row hs h hr => ⟨hI i s A B row hs.1 h (far hr), hs.2.grown h fun k e => (hr k e).2⟩)
    (fun i s A B row hs h hr => hs.imp fun c hc => ⟨hIx i c s A B row hc.1 h (far hr), hc.2.grown h fun k e => (hr k e).2⟩)
    ?round fun i => ⟨i1 i, bk1⟩).mono ?behind
  case behind =>
    rintro e W2 ⟨⟨v, rfl⟩, i, (⟨xs, hS, hi, bk⟩ | ⟨pre, hSp, c, hi, bk⟩)⟩
    · have hr := run_endLoop (P := P) bk.1 (by rw [hrec]; simp)
      rw [hrec] at hr
      exact ⟨none, _, hr, hdone i _ xs _ (Nat.le_refl _) hS ((hI i).putObj _ hi (by omega) bk.1 rfl) ((World.putObj_heap_other (by omega)).trans bk.2)⟩
    · have hr := run_endLoop (P := P) bk.1 (by rw [hrec]; simp)
      rw [hrec] at hr
      exact ⟨some c, _, hr, wpIn_wide.2 (hstop i _ c pre _ (Nat.le_refl _) hSp ((hIx i c).putObj _ hi (by omega) bk.1 rfl) ((World.putObj_heap_other (by omega)).trans bk.2))⟩
  case round =>
    rintro i pre x W ⟨hi, bk⟩ hgd hlen
    have hy := run_yield (P := P) (args := encs x) bk.1 (by rw [hrec]; exact hps x)
    rw [hrec] at hy
    refine ⟨fn, _, assign, body, hy, roundIn_of_wpIn hfn (hassign i _ pre x W _ hi hgd fun a' Wa hka hkpa hia hax => ?_)⟩
    have bka := bk.keeps hka
    refine ⟨_, run_beginRound bka.1 (by rw [hrec]), ?_⟩
    have bk2 : Bk w.heap.size { rec .ready none with state := .busy } (Wa.putObj (w.heap.size + 1) (.loop { rec .ready none with state := .busy })) := bka.put
    have hw2 : Kp i Wa (Wa.putObj (w.heap.size + 1) (.loop { rec .ready none with state := .busy })) := hKb _ _ _ _ _ (by omega) bka.1 rfl rfl
    refine wpIn_mono (hbody i _ pre x a' _ ((hI i).putObj _ hia (by omega) bka.1 rfl) ((hAx i x a').putObj (s := ()) _ hax (by omega) bka.1 rfl) hlen) ?_
    have fin : ∀ (jump : Option Code) (W3 : World), KeepsFrom w.heap.size (Wa.putObj (w.heap.size + 1) (.loop { rec .ready none with state := .busy })) W3 →
        (Instr.endRound (w.heap.size + 1) jump).run P W3 = .ok (.bool jump.isNone) (W3.putObj (w.heap.size + 1) (.loop (rec (if jump.isNone then .ready else .done) jump))) ∧ W3.heap[w.heap.size + 1]? = some (.loop { rec .ready none with state := .busy }) ∧
        Bk w.heap.size (rec (if jump.isNone then .ready else .done) jump) (W3.putObj (w.heap.size + 1) (.loop (rec (if jump.isNone then .ready else .done) jump))) := fun jump W3 hk3 => by
      have bk3 := bk2.keeps hk3
      have hr := run_endRound (P := P) jump bk3.1
      refine ⟨?_, bk3.1, bk3.put⟩
      rw [hrec] at hr ⊢
      exact hr
    intro e a3 W3 hp
    cases e with
    | normal =>
      obtain ⟨hk3, hkp3, hi3⟩ := hp
      obtain ⟨hr, hl3, hb3⟩ := fin none W3 hk3
      exact ⟨_, _, hr, .inl ⟨rfl, ⟨(hI i).putObj _ hi3 (by omega) hl3 rfl, hb3⟩, hKt hkpa (hKt (hKt hw2 hkp3) (hKb _ _ _ _ _ (by omega) hl3 rfl rfl))⟩⟩
    | ret =>
      obtain ⟨hk3, hi3⟩ := hp
      obtain ⟨hr, hl3, hb3⟩ := fin (some .ret) W3 hk3
      exact ⟨_, _, hr, .inr ⟨rfl, .ret, (hIx i _).putObj _ hi3 (by omega) hl3 rfl, hb3⟩⟩
    | exit id =>
      obtain ⟨hk3, hi3⟩ := hp
      obtain ⟨hr, hl3, hb3⟩ := fin (some (.exit id)) W3 hk3
      exact ⟨_, _, hr, .inr ⟨rfl, .exit id, (hIx i _).putObj _ hi3 (by omega) hl3 rfl, hb3⟩⟩
    | goto t =>
      obtain ⟨hk3, hi3⟩ := hp
      obtain ⟨hr, hl3, hb3⟩ := fin (some (.goto t)) W3 hk3
      exact ⟨_, _, hr, .inr ⟨rfl, .goto t, (hIx i _).putObj _ hi3 (by omega) hl3 rfl, hb3⟩⟩
    | panic ch => exact hp.elim
    | outgrown => exact hp.elim
end
end Go.Proofs.Ytmcleffpjfeegaa
