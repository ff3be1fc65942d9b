/-
  LISTS OF WHATEVER ELEMENTS THAT ARE THE CALL's OWN, over whatever program: what it is that a slice lies in a row of the call's own; an append of one, of several; fewer of them. No condition beyond each theorem's own.
-/
import Derived.Maps.AppendAt
import Derived.RangeFuncBox
import Derived.Laws.AppendOwnNone
import Derived.Deep.AppendSrc
import Derived.Test.YtemdcpajcaaphaaElt
import Derived.Test.YtemdcpajcaaphaaSoft
namespace Go.Proofs.Ytemdcpajcaaphaa
open Go.RowKit
/-- Cells that are these elements, one behind the other. -/
def Flat {α : Type} (E : Elt α) (S : Nat → Prop) (w : World) : List α → List Value → Prop
  | [], vs => vs = []
  | x :: xs, vs => ∃ us ws, vs = us ++ ws ∧ E.R S w x us ∧ Flat E S w xs ws
section
variable {α : Type} {E : Elt α} {S S' : Nat → Prop} {w w' : World}
theorem Flat.len : ∀ {xs : List α} {vs : List Value}, Flat E S w xs vs → vs.length = xs.length * E.size
  | [], _, h => by cases h; simp
  | x :: xs, _, ⟨us, ws, rfl, h1, h2⟩ => by rw [List.length_append, E.len h1, Flat.len h2, List.length_cons, Nat.add_mul]; omega
theorem Flat.append : ∀ {xs ys : List α} {vs us : List Value}, Flat E S w xs vs → Flat E S w ys us → Flat E S w (xs ++ ys) (vs ++ us)
  | [], _, _, _, h, k => by cases h; exact k
  | x :: xs, _, _, _, ⟨us, ws, rfl, h1, h2⟩, k => ⟨us, _, by rw [List.append_assoc], h1, Flat.append h2 k⟩
theorem Flat.keep : ∀ {xs : List α} {vs : List Value}, Flat E S w xs vs → (∀ k, S k → w'.heap[k]? = w.heap[k]?) → Flat E S w' xs vs
  | [], _, h, _ => h
  | _ :: _, _, ⟨us, ws, e, h1, h2⟩, hk => ⟨us, ws, e, E.keep h1 hk, Flat.keep h2 hk⟩
theorem Flat.weak : ∀ {xs : List α} {vs : List Value}, Flat E S w xs vs → (∀ k, S k → S' k) → Flat E S' w xs vs
  | [], _, h, _ => h
  | _ :: _, _, ⟨us, ws, e, h1, h2⟩, hk => ⟨us, ws, e, E.weak h1 hk, Flat.weak h2 hk⟩
theorem Flat.one : ∀ {xs : List α} {vs : List Value}, Flat E S w xs vs → ∀ u ∈ vs, u.oneCell' = true
  | [], _, h => by cases h; simp
  | _ :: _, _, ⟨us, ws, e, h1, h2⟩ => by
    subst e
    intro u hu
    rcases List.mem_append.1 hu with hu | hu
    · exact E.one h1 u hu
    · exact Flat.one h2 u hu
theorem Flat.at : ∀ {xs : List α} {vs : List Value} (_ : Flat E S w xs vs) (r : Nat) (hr : r < xs.length), ∃ us, E.R S w xs[r] us ∧ ∀ j u, us[j]? = some u → vs[r * E.size + j]? = some u
  | [], _, _, _, hr => absurd hr (Nat.not_lt_zero _)
  | x :: xs, _, ⟨us, ws, rfl, h1, h2⟩, 0, _ => ⟨us, h1, fun j u hj => by
      rw [Nat.zero_mul, Nat.zero_add, List.getElem?_append_left (List.getElem?_eq_some_iff.1 hj).1]; exact hj⟩
  | x :: xs, _, ⟨us, ws, rfl, h1, h2⟩, r + 1, hr => by
    obtain ⟨us', h3, h4⟩ := Flat.at h2 r (by simpa using hr)
    refine ⟨us', by simpa using h3, fun j u hj => ?_⟩
    have hl := E.len h1
    rw [show (r + 1) * E.size + j = us.length + (r * E.size + j) by rw [hl, Nat.add_mul]; omega, List.getElem?_append_right (Nat.le_add_right _ _), Nat.add_sub_cancel_left]
    exact h4 j u hj
theorem Flat.take : ∀ {xs : List α} {vs : List Value} (_ : Flat E S w xs vs) (k : Nat), Flat E S w (xs.take k) (vs.take (k * E.size))
  | [], _, h, k => by cases h; simp [Flat]
  | x :: xs, _, ⟨us, ws, rfl, h1, h2⟩, 0 => by simp [Flat]
  | x :: xs, _, ⟨us, ws, rfl, h1, h2⟩, k + 1 => by
    refine ⟨us, ws.take (k * E.size), ?_, h1, Flat.take h2 k⟩
    have hl := E.len h1
    rw [show (k + 1) * E.size = us.length + k * E.size by rw [hl, Nat.add_mul]; omega, List.take_length_add_append]
theorem Flat.single {x : α} {us : List Value} (h : E.R S w x us) : Flat E S w [x] us := ⟨us, [], by simp, h, rfl⟩
/-- What a slice of elements reads as, cell by cell. -/
theorem flat_of {b off : Nat} : ∀ (xs : List α) (k : Nat), (∀ r (h : r < xs.length), ∃ vs, E.R S w xs[r] vs ∧ ∀ j u, vs[j]? = some u → w.cell? ⟨b, off + (k + r) * E.size + j, none⟩ = some u) →
    ∃ vs, Flat E S w xs vs ∧ ∀ j u, vs[j]? = some u → w.cell? ⟨b, off + k * E.size + j, none⟩ = some u
  | [], k, _ => ⟨[], rfl, fun j u h => by simp at h⟩
  | x :: xs, k, h => by
    obtain ⟨us, h1, h2⟩ := h 0 (by simp)
    obtain ⟨ws, h3, h4⟩ := flat_of xs (k + 1) (fun r hr => by
      obtain ⟨vs, h5, h6⟩ := h (r + 1) (by simpa using hr)
      exact ⟨vs, by simpa using h5, fun j u hj => by rw [show k + 1 + r = k + (r + 1) by omega]; exact h6 j u hj⟩)
    refine ⟨us ++ ws, ⟨us, ws, rfl, by simpa using h1, h3⟩, fun j u hj => ?_⟩
    have hl := E.len h1
    rcases Nat.lt_or_ge j us.length with hlt | hge
    · rw [List.getElem?_append_left hlt] at hj
      exact h2 j u hj
    · rw [List.getElem?_append_right hge] at hj
      have := h4 _ u hj
      rw [show off + (k + 1) * E.size + (j - us.length) = off + k * E.size + j by rw [Nat.add_mul]; omega] at this
      exact this
theorem RdL.flat {b off n c : Nat} {xs : List α} (h : RdL E S w (.slice (some ⟨b, off, none⟩) n c) xs) : ∃ vs, Flat E S w xs vs ∧ ∀ j u, vs[j]? = some u → w.cell? ⟨b, off + j, none⟩ = some u := by
  obtain ⟨a, cap, h1, h2, h3, h4⟩ := h
  cases h1
  rcases h4 with rfl | ⟨b', off', e, hb, hq⟩
  · exact ⟨[], rfl, fun j u h => by simp at h⟩
  · cases e
    obtain ⟨vs, h5, h6⟩ := flat_of (b := b) (off := off) xs 0 (fun r hr => by
      obtain ⟨vs, h5, h6⟩ := hq r hr
      exact ⟨vs, h5, fun j u hj => by rw [Nat.zero_add]; exact h6 j u hj⟩)
    exact ⟨vs, h5, fun j u hj => by have := h6 j u hj; rwa [Nat.zero_mul, Nat.add_zero] at this⟩
end

/-- A slice of the call's own: its row behind block 'base', what its elements read in blocks from 'lo' on, none of them its own row's. -/
def OwnL {α : Type} (E : Elt α) (T : TypeId) (base lo : Nat) (w : World) (v : Value) (xs : List α) : Prop :=
  ∃ vs, w.ownsRow base T E.size v xs.length vs ∧ Flat E (fun k => lo ≤ k ∧ k < w.heap.size ∧ some k ≠ v.ownBlock) w xs vs
section
variable {α : Type} {E : Elt α} {T : TypeId} {base lo : Nat} {w w' : World} {v : Value} {xs : List α}
theorem OwnL.nil (E : Elt α) (T : TypeId) (base lo : Nat) (w : World) : OwnL E T base lo w (.slice none 0 0) [] := ⟨[], World.ownsRow_nil _ _ _ _, rfl⟩
theorem OwnL.shape (h : OwnL E T base lo w v xs) : ∃ a cap, v = .slice a xs.length cap := by
  obtain ⟨vs, h, _⟩ := h
  rcases h.2 with ⟨rfl, h0⟩ | ⟨g, cap, cur, rfl, _⟩
  · rw [h0]; exact ⟨none, 0, rfl⟩
  · exact ⟨_, _, rfl⟩
theorem OwnL.len {a : Option Addr} {k c : Nat} (h : OwnL E T base lo w (.slice a k c) xs) : k = xs.length := by
  obtain ⟨_, _, e⟩ := h.shape
  cases e; rfl
theorem OwnL.block_lt (h : OwnL E T base lo w v xs) : ∀ k, v.ownBlock = some k → base ≤ k ∧ k < w.heap.size := by
  obtain ⟨vs, h1, _⟩ := h
  exact fun k hk => h1.lt k hk
theorem OwnL.to {base' lo' : Nat} (h : OwnL E T base lo w v xs) (hb : base' ≤ base) (hl : lo' ≤ lo) : OwnL E T base' lo' w v xs := by
  obtain ⟨vs, h1, h2⟩ := h
  exact ⟨vs, ⟨h1.1, h1.2.imp id fun ⟨g, cap, cur, a, b, c⟩ => ⟨g, cap, cur, a, Nat.le_trans hb b, c⟩⟩, h2.weak fun k hk => ⟨Nat.le_trans hl hk.1, hk.2⟩⟩
/-- It stays so where neither its row nor what its elements read turns. -/
theorem OwnL.kept (h : OwnL E T base lo w v xs) (hs : w.heap.size ≤ w'.heap.size) (hk : ∀ k, lo ≤ k ∨ base ≤ k → k < w.heap.size → w'.heap[k]? = w.heap[k]?) : OwnL E T base lo w' v xs := by
  obtain ⟨vs, h1, h2⟩ := h
  refine ⟨vs, ⟨h1.1, ?_⟩, (h2.keep fun k hk' => hk k (.inl hk'.1) hk'.2.1).weak fun k hk => ⟨hk.1, Nat.lt_of_lt_of_le hk.2.1 hs, hk.2.2⟩⟩
  rcases h1.2 with h | ⟨g, cap, cur, hv, hb, hg, r⟩
  · exact .inl h
  · exact .inr ⟨g, cap, cur, hv, hb, (hk g (.inr hb) (Array.getElem?_eq_some_iff.1 hg).1).trans hg, r⟩
theorem OwnL.below (h : OwnL E T base lo w v xs) (hb : Below w.heap.size w w') : OwnL E T base lo w' v xs := h.kept hb.size fun k _ hk => hb.block k hk
/-- Over a store into a block that is neither its row nor among those that its elements read. -/
theorem OwnL.other (h : OwnL E T base lo w v xs) {g : Nat} (hg : w.grownBy w' (some g)) (h1 : g < lo) (h2 : g < base) : OwnL E T base lo w' v xs :=
  h.kept hg.size fun k hk hl => hg.block k hl (fun e => by injection e with e; omega)
theorem OwnL.rdL (h : OwnL E T base lo w v xs) : RdL E (fun k => (lo ≤ k ∨ base ≤ k) ∧ k < w.heap.size) w v xs := by
  obtain ⟨vs, h1, h2⟩ := h
  have hx := h1
  rcases h1.2 with ⟨rfl, h0⟩ | ⟨g, cap, cur, rfl, hb, hg, hn, hc, hcs, ht⟩
  · obtain rfl : xs = [] := List.eq_nil_of_length_eq_zero h0
    exact RdL.nil _ _ _
  · refine ⟨_, cap, rfl, hn, hc, .inr ⟨g, 0, rfl, ⟨.inr hb, (Array.getElem?_eq_some_iff.1 hg).1⟩, fun r hr => ?_⟩⟩
    obtain ⟨us, h3, h4⟩ := h2.at r hr
    refine ⟨us, E.weak h3 fun k hk => ⟨.inl hk.1, hk.2.1⟩, fun j u hj => ?_⟩
    have := hx.cells (g := g) rfl _ u (h4 j u hj)
    simpa [Addr.add_lit] using this
theorem OwnL.rdS {S : Nat → Prop} (h : OwnL E T base lo w v xs) (hs : ∀ k, lo ≤ k ∨ base ≤ k → k < w.heap.size → S k) : RdL E S w v xs := h.rdL.weak fun k hk => hs k hk.1 hk.2
end
/-- What a program must have: the type of slices of these elements, and what an element is at first. -/
structure LoP (P : Program) (T Te : TypeId) (n : Nat) : Prop extends LsP P T Te n where
  hz : ∃ z by', (P.info? Te).map (fun i => (i.zero, i.bytes)) = some (some z, by') ∧ z.cells.size = n ∧ by' ≤ 4096
section
variable {α : Type} {E : Elt α} {P : Program} {T Te : TypeId} {ops : Array Oper} {rest : List Oper} {o : Oper} {a : Act} {Q : Exit → Act → World → Prop} {w : World} {K : Act → World → Prop}
theorem LoP.all {n : Nat} (h : LoP P T Te n) : ∃ i z, P.info? Te = some i ∧ i.zero = some z ∧ i.size = n ∧ i.bytes ≤ 4096 ∧ z.cells.size = n := by
  obtain ⟨i, hi, hs⟩ := h.info
  obtain ⟨z, by', h1, h2, h3⟩ := h.hz
  simp only [hi, Option.map_some, Option.some.injEq, Prod.mk.injEq] at h1
  exact ⟨i, z, hi, h1.1, hs, by omega, h2⟩
theorem run_append_L (hP : LoP P T Te E.size) (w : World) {base lo : Nat} (ty : TypeId) {v : Value} {xs ys : List α} {ns : List Value} (hown : OwnL E Te base lo w v xs) {p : Addr} {c : Nat} {S : Nat → Prop}
    (hcells : ∀ j u, ns[j]? = some u → w.cell? (p.add j) = some u) (hn : Flat E S w ys ns) (hS : ∀ k, S k → lo ≤ k ∧ k < w.heap.size ∧ some k ≠ v.ownBlock) (hbase : base ≤ w.heap.size) (hlen : xs.length + ys.length ≤ 1073741824) :
    ∃ v' w', (Builtin.append_ #[T, T] ty #[v, .slice (some p) ys.length c]).run P w = .ok v' w' ∧ OwnL E Te base lo w' v' (xs ++ ys) ∧ w.grownBy w' v.ownBlock ∧ (v'.ownBlock = v.ownBlock ∨ v'.ownBlock = some w.heap.size) := by
  obtain ⟨i, z, hi, hz, hsz, hby, hzs⟩ := hP.all
  obtain ⟨us, h1, h2⟩ := hown
  obtain ⟨v', w', hr, ho, hg, _, hb⟩ := run_append_own_at (P := P) (w := w) base T ty Te i z E.size i.bytes hP.hT hi hz hsz rfl hzs E.pos v xs.length us h1 p ys.length c ns hn.len hcells hn.one (by unfold maxLen; omega)
    (by have := Nat.mul_le_mul hlen hby; omega) hbase
  refine ⟨v', w', hr, ⟨us ++ ns, by rw [List.length_append]; exact ho, ?_⟩, hg, hb⟩
  have hne : ∀ k, k < w.heap.size → some k ≠ v.ownBlock → some k ≠ v'.ownBlock := fun k h3 h4 => by
    rcases hb with e | e
    · rw [e]; exact h4
    · rw [e]; intro e2; injection e2 with e2; omega
  have hk : ∀ k, lo ≤ k ∧ k < w.heap.size ∧ some k ≠ v.ownBlock → lo ≤ k ∧ k < w'.heap.size ∧ some k ≠ v'.ownBlock := fun k hk => ⟨hk.1, Nat.lt_of_lt_of_le hk.2.1 hg.size, hne k hk.2.1 hk.2.2⟩
  have hsame : ∀ k, lo ≤ k ∧ k < w.heap.size ∧ some k ≠ v.ownBlock → w'.heap[k]? = w.heap[k]? := fun k hk => hg.block k hk.2.1 hk.2.2
  exact ((h2.keep hsame).weak hk).append (((hn.weak hS).keep hsame).weak hk)
theorem fold_set : ∀ (vs : List Value) (k : Nat) (cells : Array Value), k + vs.length ≤ cells.size → (vs.zipIdx k).foldl (fun cs (p : Value × Nat) => cs.setIfInBounds p.2 p.1) cells = (cells.toList.take k ++ vs ++ cells.toList.drop (k + vs.length)).toArray := by
  intro vs
  induction vs with
  | nil => intro k cells _; simp
  | cons v vs ih =>
    intro k cells hk
    simp only [List.length_cons] at hk
    have hlt : k < cells.toList.length := by simp; omega
    simp only [List.zipIdx_cons, List.foldl_cons]
    rw [ih (k + 1) _ (by simp; omega)]
    congr 1
    have e1 : (cells.toList.set k v).take (k + 1) = cells.toList.take k ++ [v] := by
      rw [List.take_succ_eq_append_getElem (by simpa using hlt), List.take_set_of_le (Nat.le_refl _)]
      simp
    have e2 : (cells.toList.set k v).drop (k + 1 + vs.length) = cells.toList.drop (k + (vs.length + 1)) := by
      rw [List.drop_set_of_lt (by omega)]
      congr 1; omega
    simp only [Array.toList_setIfInBounds, List.length_cons, e1, e2]
    simp
/-- '[]T{x}': one element. -/
theorem run_buildOne {n : Nat} (hP : LoP P T Te n) (w : World) {v : Value} {us : List Value} (hv : v.cells = us.toArray) (hl : us.length = n) (h0 : 0 < n) (hn : n ≤ 4096) :
    (Instr.buildSlice T 1 #[(0, v)]).run P w = .ok (.slice (some ⟨w.heap.size, 0, none⟩) 1 1) (w.alloc (.cells us.toArray Te)) := by
  obtain ⟨i, z, hi, hz, hsz, hby, hzs⟩ := hP.all
  have hf : ∀ cells : Array Value, cells.size = n → Instr.fill (fun i => some (i * n, n)) cells [(0, v)] = some us.toArray := by
    intro cells hc
    have h := fold_set us 0 cells (by omega)
    rw [show 0 + us.length = cells.toList.length by simp [hl, hc], List.drop_length] at h
    simp only [List.take_zero, List.nil_append, List.append_nil] at h
    simp [Instr.fill, hv, hl]
    exact ⟨by omega, by simpa using h⟩
  have hsz2 : ((Array.range (1 * n)).map (fun x => (z.cells)[x % (z.cells).size]!)).size = n := by simp
  have := hf _ hsz2
  simp [Instr.buildSlice, run_underlying hP.hT, sizeOf, typeInfo, zeroValue, hi, hz, hsz, newRow] at this ⊢
  rw [if_neg (by omega), if_neg (by omega), this]
  simp
/-- '[]T{x}' in a region that draws its order. -/
theorem wp_buildOne {n : Nat} (hP : LoP P T Te n) {y : Operand} {v : Value} {us : List Value} (ho : o.op = .buildSlice T 1 #[(0, y)]) (hy : a.eval y = v) (hv : v.cells = us.toArray) (hl : us.length = n) (h0 : 0 < n) (hn : n ≤ 4096)
    (h : K (a.put o.dst (.slice (some ⟨w.heap.size, 0, none⟩) 1 1)) (w.alloc (.cells us.toArray Te))) : o.wp P a w K Q := by
  have hrun := run_buildOne hP w hv hl h0 hn
  unfold Oper.wp execOp
  simp only [ho, hy, Sem.run_bind, Sem.run_pure, Result.andThen_ok, List.map_toArray, List.map_cons, List.map_nil, hrun]
  exact h
/-- A row of one element that was made so. -/
theorem cells_new (w : World) (us : List Value) (t : TypeId) (j : Nat) (u : Value) (h : us[j]? = some u) : (w.alloc (.cells us.toArray t)).cell? (Addr.add ⟨w.heap.size, 0, none⟩ j) = some u := by
  rw [Addr.add_lit, World.cell?]
  simp only [World.alloc, Array.getElem?_push_size]
  simpa using h
/-- 'append(v, x...)', v the call's own, x made for it ('[]T{x}') or whatever its elements. -/
theorem wp_appendL (hP : LoP P T Te E.size) {s x : Operand} (ho : o.op = .call { callee := .builtin .append, args := #[s, x], argTypes := #[T, T] })
    {base lo : Nat} {vs : Value} {xs ys : List α} {ns : List Value} {p : Addr} {c : Nat} {S : Nat → Prop} (hs : a.eval s = vs) (hown : OwnL E Te base lo w vs xs) (hx : a.eval x = .slice (some p) ys.length c)
    (hcells : ∀ j u, ns[j]? = some u → w.cell? (p.add j) = some u) (hn : Flat E S w ys ns) (hS : ∀ k, S k → lo ≤ k ∧ k < w.heap.size ∧ some k ≠ vs.ownBlock) (hbase : base ≤ w.heap.size)
    (h : ∀ ad k cap w', OwnL E Te base lo w' (.slice ad k cap) (xs ++ ys) → w.grownBy w' vs.ownBlock → (Value.ownBlock (.slice ad k cap) = vs.ownBlock ∨ Value.ownBlock (.slice ad k cap) = some w.heap.size) → K (a.put o.dst (.slice ad k cap)) w') (hlen : xs.length + ys.length ≤ 1073741824) : o.wp P a w K Q := by
  obtain ⟨v', w', hrun, h2, h3, h4⟩ := run_append_L hP w o.type hown hcells hn hS hbase hlen (c := c)
  obtain ⟨ad, cap, rfl⟩ := h2.shape
  unfold Oper.wp execOp
  simp only [ho, resolve, invoke, builtin, Sem.run_bind, Sem.run_pure, Result.andThen_ok, List.map_toArray, List.map_cons, List.map_nil, hs, hx, hrun]
  exact h _ _ _ _ h2 h3 h4
theorem wpList_appendL (hP : LoP P T Te E.size) {s x : Operand} (ho : o.op = .call { callee := .builtin .append, args := #[s, x], argTypes := #[T, T] }) (hgd : Region.wanted o (yielded ops a.tmps) = true)
    {base lo : Nat} {vs : Value} {xs ys : List α} {ns : List Value} {p : Addr} {c : Nat} {S : Nat → Prop} (hs : a.eval s = vs) (hown : OwnL E Te base lo w vs xs) (hx : a.eval x = .slice (some p) ys.length c)
    (hcells : ∀ j u, ns[j]? = some u → w.cell? (p.add j) = some u) (hn : Flat E S w ys ns) (hS : ∀ k, S k → lo ≤ k ∧ k < w.heap.size ∧ some k ≠ vs.ownBlock) (hbase : base ≤ w.heap.size)
    (h : ∀ ad k cap w', OwnL E Te base lo w' (.slice ad k cap) (xs ++ ys) → w.grownBy w' vs.ownBlock → (Value.ownBlock (.slice ad k cap) = vs.ownBlock ∨ Value.ownBlock (.slice ad k cap) = some w.heap.size) → wpList P ops Q rest (a.put o.dst (.slice ad k cap)) w') (hlen : xs.length + ys.length ≤ 1073741824) : wpList P ops Q (o :: rest) a w :=
  BigFrame.wpList_want hgd fun _ hK => wp_appendL hP ho hs hown hx hcells hn hS hbase (fun ad k cap w' h1 h2 h3 => hK _ _ (h ad k cap w' h1 h2 h3)) hlen
/-- 'append([]T{}, x...)': nothing that lay is turned. -/
theorem run_append_zeroL (hP : LoP P T Te E.size) (w : World) {base lo : Nat} (ty : TypeId) {g : Addr} {ax : Option Addr} {cx nx : Nat} {ys : List α} {S : Nat → Prop} (hown : OwnL E Te base lo w (.slice (some g) 0 0) []) (hx : RdL E S w (.slice ax nx cx) ys)
    (hS : ∀ k, S k → lo ≤ k ∧ k < w.heap.size) (hbase : base ≤ w.heap.size) (hlen : ys.length ≤ 1073741824) :
    ∃ v' w', (Builtin.append_ #[T, T] ty #[.slice (some g) 0 0, .slice ax nx cx]).run P w = .ok v' w' ∧ OwnL E Te base lo w' v' ys ∧ Below w.heap.size w w' := by
  obtain ⟨i, z, hi, hz, hsz, hby, hzs⟩ := hP.all
  obtain ⟨rfl, _, _⟩ := hx.len
  by_cases h0 : ys = []
  · subst h0
    have hsrc : Src P i.size T (.slice ax 0 cx) 0 [] w := by
      cases ax with
      | none => exact Src.ofNil w hP.hT cx
      | some p => exact Src.ofSlice w hP.hT p 0 cx [] (by simp) (fun j u h => by simp at h) (fun u h => by cases h)
    exact ⟨_, w, run_append_nothing w T T ty Te i hP.hT hi (some g) 0 0 (Nat.le_refl _) _ hsrc, hown, Below.refl _ _⟩
  · have hpos : 0 < ys.length := List.length_pos_iff.2 h0
    obtain ⟨b, off, _, rfl, _⟩ := hx.at 0 hpos
    obtain ⟨ns, hn, hc⟩ := hx.flat
    have hnl := hn.len
    have hsrc : Src P i.size T (.slice (some ⟨b, off, none⟩) ys.length cx) ys.length ns w :=
      Src.ofSlice w hP.hT _ _ _ _ (by rw [hnl, hsz]) (fun j u hj => by rw [Addr.add_lit]; exact hc j u hj) hn.one
    have hbytes : (ys.length) * i.bytes ≤ 1073741824 * 4096 := Nat.mul_le_mul hlen hby
    have hr := run_append_grow_src (P := P) w T T ty Te i z hP.hT hi hz (some g) 0 0 [] (run_firstCells_some w.drew i.size 0 g 0 0 [] (by simp) (fun j u h => by simp at h)) _ _ _ hsrc (by omega) (by omega)
      (growslice_fits (by simp only [Nat.zero_add]; omega) (by simp only [Nat.zero_add]; omega))
    have hb : Below w.heap.size w (w.drew.alloc (.cells (([] ++ ns : List Value).toArray ++ Builtin.zeroCells z.cells (grownCap w (0 + ys.length) 0 Te - (0 + ys.length))) Te)) := ((Below.refl _ w).drew).alloc (Nat.le_refl _) _
    have hge := grownCap_ge w (0 + ys.length) 0 Te
    refine ⟨_, _, hr, ⟨ns, ⟨by rw [hnl], .inr ⟨w.heap.size, grownCap w (0 + ys.length) 0 Te, _, by rw [Nat.zero_add], hbase, heap_alloc_new w.drew _, by omega, grownCap_le_maxLen w _ _ _ (by unfold maxLen; omega), ?_, ?_⟩⟩, ?_⟩, hb⟩
    · rw [Nat.zero_add] at hge ⊢
      simp [size_zeroCells, hnl, hzs]
      rw [← Nat.add_mul]
      congr 1
      omega
    · simp only [List.nil_append, Array.toList_append]
      rw [← hnl]
      simp
    · refine ((hn.weak (S' := fun k => lo ≤ k ∧ k < w.heap.size) hS).keep (w' := _) (fun k hk => hb.block k hk.2)).weak fun k hk => ⟨hk.1, Nat.lt_of_lt_of_le hk.2 hb.size, ?_⟩
      intro e
      have h5 := hk.2
      simp only [Value.ownBlock] at e
      injection e with e
      omega
theorem wp_append_zeroL (hP : LoP P T Te E.size) {s x : Operand} (ho : o.op = .call { callee := .builtin .append, args := #[s, x], argTypes := #[T, T] })
    {base lo : Nat} {g : Addr} {ax : Option Addr} {cx nx : Nat} {ys : List α} {S : Nat → Prop} (hs : a.eval s = .slice (some g) 0 0) (hown : OwnL E Te base lo w (.slice (some g) 0 0) []) (hx : a.eval x = .slice ax nx cx) (hr : RdL E S w (.slice ax nx cx) ys)
    (hS : ∀ k, S k → lo ≤ k ∧ k < w.heap.size) (hbase : base ≤ w.heap.size)
    (h : ∀ ad k cap w', OwnL E Te base lo w' (.slice ad k cap) ys → Below w.heap.size w w' → K (a.put o.dst (.slice ad k cap)) w') (hlen : ys.length ≤ 1073741824) : o.wp P a w K Q := by
  obtain ⟨v', w', hrun, h2, h3⟩ := run_append_zeroL hP w o.type hown hr hS hbase hlen
  obtain ⟨ad, cap, rfl⟩ := h2.shape
  unfold Oper.wp execOp
  simp only [ho, resolve, invoke, builtin, Sem.run_bind, Sem.run_pure, Result.andThen_ok, List.map_toArray, List.map_cons, List.map_nil, hs, hx, hrun]
  exact h _ _ _ _ h2 h3
end
end Go.Proofs.Ytemdcpajcaaphaa
