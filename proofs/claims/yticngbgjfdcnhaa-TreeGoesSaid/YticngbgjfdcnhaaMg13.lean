/-
  TEXTS OF ONE PROOF, merged: Sinc, TreK, TrbC, TrbD, TrbE, TrbF, Ope, TreH, TrbG.
-/
import Derived.ChangeSame
import Derived.ChangeSlices
import Derived.Deep.Slices
import Derived.Deep.Strs
import Derived.ProofKit
import Derived.RangeFuncFrom
import Derived.Test.YticngbgjfdcnhaaMg12
namespace Go.Proofs.Yticngbgjfdcnhaa
open Go.RowKit
section
variable {Km Kb : World → World → Prop}
def kn (Km Kb : World → World → Prop) (m m2 i : Nat) (A B : World) : Prop := if i = m then Km A B else if i = m2 then Kb A B else Below A.heap.size A B
end
variable {P : Program} {Q : Exit → Act → World → Prop}
end Go.Proofs.Yticngbgjfdcnhaa
namespace Go.Proofs.Yticngbgjfdcnhaa
open Go.RowKit Go.Shelf
theorem wp_storeSl {P : Program} {o : Oper} {a : Act} {K : Act → World → Prop} {Q : Exit → Act → World → Prop} {w : World} {t : TypeId} {x y : Operand} {b f : Nat} {u : Value} {ad : Option Addr} {k c : Nat} (ho : o.op = .store t x y) (hu : (P.info? t).map (·.size) = some 1) (hx : a.eval x = .pointer (some ⟨b, f, none⟩)) (hy : a.eval y = .slice ad k c) (hc : w.cell? ⟨b, f, none⟩ = some u) (hf : w.frozen? ⟨b, f, none⟩ = false)
    (h : K (a.put o.dst undef) (w.setCell ⟨b, f, none⟩ (.slice ad k c))) : o.wp P a w K Q := by
  refine wp_skip ?_ h
  simp only [execOp, ho, hx, hy]
  simp [Instr.storeAt, storeVar, run_sizeOf hu, storeCells, Value.cells, run_store _ _ _ _ _ (show (Value.slice ad k c).oneCell' = true from rfl), hc, hf, go_sem]
end Go.Proofs.Yticngbgjfdcnhaa
namespace Go.Proofs.Yticngbgjfdcnhaa
open Go.RowKit
def cellsAtW (w : World) (k : Nat) : Prop := ∃ o : Obj, w.heap[k]? = some o ∧ o.isCells = true
def OnlyC {α : Type} (E : Elt α) : Prop := ∀ (S : Nat → Prop) (w : World) (x : α) (vs : List Value), E.R S w x vs → E.R (fun k => S k ∧ cellsAtW w k) w x vs
theorem rdS_cells {S : Nat → Prop} {w : World} {v : Value} {xs : List UInt8} (h : RdS S w v xs) : RdS (fun k => S k ∧ cellsAtW w k) w v xs := by
  rcases h with h | ⟨b, off, cap, hv, hb, h1, h2, hc⟩
  · exact .inl h
  · cases xs with
    | nil => exact .inl ⟨_, _, hv, h2, rfl⟩
    | cons x r => exact .inr ⟨b, off, cap, hv, ⟨hb, cells_of_cell (hc 0 _ rfl)⟩, h1, h2, hc⟩
theorem bytes_only : OnlyC Elt.bytes := fun _ _ _ _ ⟨v, e, h⟩ => ⟨v, e, rdS_cells h⟩
section
variable {α : Type} {E : Elt α} {T Te : TypeId} {base lo : Nat} {w w' : World} {v : Value} {xs : List α}
theorem Flat.cells (hE : OnlyC E) {S : Nat → Prop} : ∀ {xs : List α} {vs : List Value}, Flat E S w xs vs → Flat E (fun k => S k ∧ cellsAtW w k) w xs vs
  | [], _, h => h
  | _ :: _, _, ⟨us, ws, e, h1, h2⟩ => ⟨us, ws, e, hE _ _ _ _ h1, Flat.cells hE h2⟩
theorem OwnL.grown (hE : OnlyC E) (h : OwnL E Te base lo w v xs) {row : Option Nat} (hg : w.grownBy w' row) (hr : ∀ r, row = some r → ∃ o : Obj, w.heap[r]? = some o ∧ o.isCells = false) : OwnL E Te base lo w' v xs := by
  obtain ⟨vs, h1, h2⟩ := h
  refine ⟨vs, ⟨h1.1, ?_⟩, ((h2.cells hE).keep fun k hk => ?_).weak fun k hk => ⟨hk.1.1, Nat.lt_of_lt_of_le hk.1.2.1 hg.size, hk.1.2.2⟩⟩
  · rcases h1.2 with h | ⟨g, cap, cur, hv, hb, hg2, r⟩
    · exact .inl h
    · exact .inr ⟨g, cap, cur, hv, hb, (grownBy_keeps_cells hg hr hg2 rfl).trans hg2, r⟩
  · obtain ⟨o, ho, hc⟩ := hk.2
    exact grownBy_keeps_cells hg hr ho hc
theorem own_type {k : Nat} (h : OwnL E Te base lo w v xs) (hk : v.ownBlock = some k) : ∃ c r, w.heap[k]? = some (.cells c Te r) := by
  obtain ⟨vs, h1, _⟩ := h
  rcases h1.2 with ⟨rfl, _⟩ | ⟨g, cap, cur, rfl, _, hg, _⟩
  · cases hk
  · injection hk with hk
    subst hk
    exact ⟨_, _, hg⟩
def BoxL (E : Elt α) (T Te : TypeId) (B base lo : Nat) (w : World) (xs : List α) : Prop := ∃ a k c, Boxed w B T (.slice a k c) ∧ OwnL E Te base lo w (.slice a k c) xs
theorem BoxL.own {β : Type} {N : Nat} {B : Nat} (hE : OnlyC E) (f : β → List α) : OwnFrom N (fun s W => BoxL E T Te B base lo W (f s)) := fun _ _ _ _ ⟨a, k, c, h1, h2⟩ hg hr =>
  ⟨a, k, c, h1.kept hg (fun e => by obtain ⟨_, o, ho, hc⟩ := hr _ e.symm; rw [h1] at ho; cases ho; cases hc), h2.grown hE hg fun r e => (hr r e).2⟩
theorem KpW.own {β : Type} {n₀ N : Nat} {w₀ : World} (h1 : n₀ ≤ w₀.heap.size) (h2 : n₀ ≤ N) : OwnFrom N (fun (_ : β) W => KpW n₀ w₀ W) := fun _ _ _ _ hs hg hr =>
  hs.trans ⟨⟨hg.os, hg.tape, hg.output, hg.size, fun k hk => hg.block k (by have := hs.1.size; omega) fun e => by have := (hr k e.symm).1; omega⟩, fun j _ _ e => grownBy_keeps_cells hg (fun r h => (hr r h).2) e rfl⟩
end
structure ColE {α : Type} (E : Elt α) (T Te : TypeId) (B base lo : Nat) (W : World) (v : Value) (xs : List α) (x : α) (C : World → Value → Prop) (o0 o2 o3 o4 o5 : Option Value) (w' : World) : Prop where
  ld : ∀ u, o0 = some u → u = v
  el : ∀ u, o2 = some u → C w' u
  rw : ∀ u, o3 = some u → o4 = none → ∃ b us, u = .slice (some ⟨b, 0, none⟩) 1 1 ∧ W.heap.size ≤ b ∧ w'.heap[b]? = some (.cells us.toArray Te (0, 0)) ∧ E.R (fun g => lo ≤ g ∧ g < w'.heap.size ∧ some g ≠ v.ownBlock) w' x us
  tr : Trd (fun k => (o4 ≠ none ∧ some k = v.ownBlock) ∨ (o5 ≠ none ∧ k = B)) W w'
  ap : ∀ u, o4 = some u → ∃ a k c, u = .slice a k c ∧ OwnL E Te base lo w' u (xs ++ [x])
  no : o4 = none → o5 = none
  dn : o4 ≠ none → o0 ≠ none ∧ o3 ≠ none
  st : ∀ u, o5 = some u → ∃ a, o4 = some a ∧ Boxed w' B T a
def ColL {α : Type} (E : Elt α) (T Te : TypeId) (B base lo : Nat) (W : World) (v : Value) (xs : List α) (x : α) (C : World → Value → Prop) : List (Option Value) → World → Prop
  | [o0, o2, o3, o4, o5], w' => ColE E T Te B base lo W v xs x C o0 o2 o3 o4 o5 w'
  | _, _ => False
section
variable {α : Type} {E : Elt α} {T Te : TypeId} {B base lo : Nat} {W w' w2 : World} {v : Value} {xs : List α} {x : α} {C : World → Value → Prop} {o0 o2 o3 o4 o5 : Option Value}
theorem ColE.start (W : World) : ColE E T Te B base lo W v xs x C none none none none none W :=
  ⟨fun _ h => (by cases h), fun _ h => (by cases h), fun _ h => (by cases h), Trd.refl _ _, fun _ h => (by cases h), fun _ => rfl, fun h => absurd rfl h, fun _ h => (by cases h)⟩
theorem ColE.more (hC : ∀ w u w', C w u → Below w.heap.size w w' → C w' u) (h : ColE E T Te B base lo W v xs x C o0 o2 o3 o4 o5 w') (hb : Below w'.heap.size w' w2) : ColE E T Te B base lo W v xs x C o0 o2 o3 o4 o5 w2 where
  ld := h.ld
  el u hu := hC _ _ _ (h.el u hu) hb
  rw u hu h4 := by
    obtain ⟨b, us, e, h1, h2, h3⟩ := h.rw u hu h4
    exact ⟨b, us, e, h1, (hb.block b (Array.getElem?_eq_some_iff.1 h2).1).trans h2, E.weak (E.keep h3 fun g hg => hb.block g hg.2.1) fun g hg => ⟨hg.1, Nat.lt_of_lt_of_le hg.2.1 hb.size, hg.2.2⟩⟩
  tr := h.tr.trans (Trd.of (F := fun _ => False) hb) fun _ _ h => h.elim
  ap u hu := by
    obtain ⟨a, k, c, e, h1⟩ := h.ap u hu
    exact ⟨a, k, c, e, h1.below hb⟩
  no := h.no
  dn := h.dn
  st u hu := by
    obtain ⟨a, e, h1⟩ := h.st u hu
    exact ⟨a, e, (hb.block B h1.lt).trans h1⟩
theorem ColL.more (hC : ∀ w u w', C w u → Below w.heap.size w w' → C w' u) : ∀ (l : List (Option Value)) (w w' : World), ColL E T Te B base lo W v xs x C l w → Below w.heap.size w w' → ColL E T Te B base lo W v xs x C l w'
  | [_, _, _, _, _], _, _, h, hb => ColE.more hC h hb
theorem ColE.done {n₀ : Nat} {u a : Value} (h : ColE E T Te B base lo W v xs x C o0 o2 o3 (some a) (some u) w') (hb : Boxed W B T v) (hO : OwnL E Te base lo W v xs) (hn : n₀ ≤ base) (hB : n₀ ≤ B) (hT : T ≠ 28) (hTe : Te ≠ 28) (N : Nat) :
    KeepsFrom N W w' ∧ KpW n₀ W w' ∧ BoxL E T Te B base lo w' (xs ++ [x]) := by
  have hF : ∀ k, ((some a ≠ none ∧ some k = v.ownBlock) ∨ (some u ≠ none ∧ k = B)) → (base ≤ k ∨ k = B) ∧ ∃ c T' r, W.heap[k]? = some (.cells c T' r) ∧ T' ≠ 28 := by
    rintro k (⟨_, e⟩ | ⟨_, rfl⟩)
    · obtain ⟨c, r, e2⟩ := own_type hO e.symm
      exact ⟨.inl (hO.block_lt k e.symm).1, c, Te, r, e2, hTe⟩
    · exact ⟨.inr rfl, _, _, _, hb, hT⟩
  refine ⟨⟨h.tr.size, fun k o _ hk ho => (h.tr.block k (Array.getElem?_eq_some_iff.1 hk).1 fun e => ?_).trans hk⟩, ⟨h.tr.below (n := n₀) ?_ fun k hk e => ?_, fun j c r e => h.tr.block j (Array.getElem?_eq_some_iff.1 e).1 fun e2 => ?_⟩, ?_⟩
  · obtain ⟨_, c, T', r, e2, _⟩ := hF k e
    rw [hk] at e2
    cases e2
    cases ho
  · have := hb.lt; omega
  · have := (hF k e).1; omega
  · obtain ⟨_, c', T', r', e3, hne⟩ := hF j e2
    rw [e] at e3
    injection e3 with e3
    injection e3 with _ e4
    exact hne e4.symm
  · obtain ⟨a', k, c, e, h1⟩ := h.ap a rfl
    obtain ⟨a2, e2, h2⟩ := h.st u rfl
    injection e2 with e2
    subst e2 e
    exact ⟨a', k, c, h2, h1⟩
end
section
variable {α : Type} {E : Elt α} {P : Program} {T Te : TypeId} {B base lo : Nat} {W w' : World} {v : Value} {xs : List α} {x : α} {C : World → Value → Prop} {o0 o2 o3 o4 o5 : Option Value} {o : Oper} {a : Act} {K : Act → World → Prop} {Q : Exit → Act → World → Prop}
theorem ColE.load (h : ColE E T Te B base lo W v xs x C none o2 o3 o4 o5 w') (hb : Boxed W B T v) : Boxed w' B T v ∧ ColE E T Te B base lo W v xs x C (some v) o2 o3 o4 o5 w' := by
  have h4 : o4 = none := by
    cases o4 with
    | none => rfl
    | some u => exact absurd rfl (h.dn (by simp)).1
  have h5 := h.no h4
  subst h4 h5
  exact ⟨(h.tr.block B hb.lt fun e => e.elim (fun e => e.1 rfl) fun e => e.1 rfl).trans hb, ⟨fun u hu => by injection hu with hu; exact hu.symm, h.el, h.rw, h.tr, h.ap, h.no, fun e => absurd rfl e, h.st⟩⟩
theorem ColE.elem (hC : ∀ w u w', C w u → Below w.heap.size w w' → C w' u) (h : ColE E T Te B base lo W v xs x C o0 none o3 o4 o5 w') {w2 : World} {u : Value} (hb : Below w'.heap.size w' w2) (hu : C w2 u) : ColE E T Te B base lo W v xs x C o0 (some u) o3 o4 o5 w2 := by
  have h2 := h.more hC hb
  exact ⟨h2.ld, fun u' h' => by injection h' with h'; exact h' ▸ hu, h2.rw, h2.tr, h2.ap, h2.no, h2.dn, h2.st⟩
theorem ColE.build (hP : LoP P T Te E.size) (h : ColE E T Te B base lo W v xs x C o0 o2 none none none w') {y : Operand} {u : Value} {us : List Value} (ho : o.op = .buildSlice T 1 #[(0, y)]) (hy : a.eval y = u) (hu : u.cells = us.toArray)
    (hx : E.R (fun g => lo ≤ g ∧ g < w'.heap.size ∧ some g ≠ v.ownBlock) w' x us) (hn : E.size ≤ 4096) (hC : ∀ w u w', C w u → Below w.heap.size w w' → C w' u)
    (hk : ∀ r w2, ColE E T Te B base lo W v xs x C o0 o2 (some r) none none w2 → K (a.put o.dst r) w2) : o.wp P a w' K Q := by
  have hb : Below w'.heap.size w' (w'.alloc (.cells us.toArray Te)) := (Below.refl _ _).alloc (Nat.le_refl _) _
  refine wp_buildOne hP ho hy hu (E.len hx) E.pos hn (hk _ _ ?_)
  have h2 := h.more hC hb
  exact ⟨h2.ld, h2.el, fun u' hu' _ => by
    injection hu' with hu'
    exact ⟨_, us, hu'.symm, h.tr.size, by simp only [World.alloc, Array.getElem?_push_size], E.weak (E.keep hx fun g hg => hb.block g hg.2.1) fun g hg => ⟨hg.1, Nat.lt_of_lt_of_le hg.2.1 hb.size, hg.2.2⟩⟩, h2.tr, h2.ap, h2.no, fun e => absurd rfl e, h2.st⟩
theorem ColE.app (hP : LoP P T Te E.size) {r : Value} (h : ColE E T Te B base lo W v xs x C o0 o2 (some r) none none w') (h0 : o0 ≠ none) {s y : Operand} (ho : o.op = .call { callee := .builtin .append, args := #[s, y], argTypes := #[T, T] }) (hs : a.eval s = v) (hy : a.eval y = r)
    (hO : OwnL E Te base lo W v xs) (hbW : base ≤ W.heap.size) (hlen : xs.length + 1 ≤ 1073741824) (hC : ∀ w u w', C w u → w.grownBy w' v.ownBlock → C w' u)
    (hk : ∀ r2 w2, ColE E T Te B base lo W v xs x C o0 o2 (some r) (some r2) none w2 → K (a.put o.dst r2) w2) : o.wp P a w' K Q := by
  obtain ⟨b, us, rfl, h1, h2, h3⟩ := h.rw _ rfl rfl
  have hbl : Below W.heap.size W w' := h.tr.below (Nat.le_refl _) fun k _ e => by rcases e with ⟨e, _⟩ | ⟨e, _⟩ <;> exact e rfl
  refine wp_appendL (ys := [x]) hP ho hs (hO.below hbl) hy (cells_at h2) (Flat.single h3) (fun k hk => hk) (Nat.le_trans hbW hbl.size) (fun ad k cap w2 g1 g2 _ => hk _ _ ?_) (by simpa using hlen)
  have htr : Trd (fun k => (some (Value.slice ad k cap) ≠ none ∧ some k = v.ownBlock) ∨ (@none Value ≠ none ∧ k = B)) W w2 :=
    (Trd.of (F := fun k => (some (Value.slice ad k cap) ≠ none ∧ some k = v.ownBlock) ∨ (@none Value ≠ none ∧ k = B)) hbl).trans (Trd.ofGrown g2 (F := fun k => some k = v.ownBlock) fun k e => e.symm) fun k _ e => .inl ⟨by simp, e⟩
  exact
    { ld := h.ld
      el := fun u hu => hC _ _ _ (h.el u hu) g2
      rw := fun _ _ e => by cases e
      tr := htr.mono fun k _ e => e.imp (fun e => ⟨by simp, e.2⟩) fun e => ⟨e.1, e.2⟩
      ap := fun u hu => by
        injection hu with hu
        exact ⟨ad, k, cap, hu.symm, hu ▸ g1⟩
      no := fun e => by cases e
      dn := fun _ => ⟨h0, by simp⟩
      st := fun _ e => by cases e }
theorem ColE.sto {r2 : Value} (h : ColE E T Te B base lo W v xs x C o0 o2 o3 (some r2) none w') {p y : Operand} (ho : o.op = .store T p y) (hT : (P.info? T).map (·.size) = some 1) (hp : a.eval p = .pointer (some ⟨B, 0, none⟩)) (hy : a.eval y = r2)
    (hb : Boxed W B T v) (hO : OwnL E Te base lo W v xs) (hBb : B < base) (hBl : B < lo) (hC : ∀ w u w', C w u → w.grownBy w' (some B) → C w' u)
    (hk : ∀ w2, ColE E T Te B base lo W v xs x C o0 o2 o3 (some r2) (some undef) w2 → K (a.put o.dst undef) w2) : o.wp P a w' K Q := by
  obtain ⟨ad, k, c, rfl, h1⟩ := h.ap _ rfl
  have hB : Boxed w' B T v := (h.tr.block B hb.lt fun e => e.elim (fun e => by have := (hO.block_lt B e.2.symm).1; omega) fun e => e.1 rfl).trans hb
  refine wp_storeSl ho hT hp hy hB.cell hB.frozen (hk _ ?_)
  have hg := grownBy_setCell' w' B (.slice ad k c)
  exact
    { ld := h.ld
      el := fun u hu => hC _ _ _ (h.el u hu) hg
      rw := fun _ _ e => by cases e
      tr := by
        have h5 := h.tr.mono (F' := fun i => (some (Value.slice ad k c) ≠ none ∧ some i = v.ownBlock) ∨ (some undef ≠ none ∧ i = B)) fun i _ e => e.imp id fun e => ⟨by simp, e.2⟩
        exact h5.trans (Trd.ofGrown hg (F := fun i => i = B) fun i e => by injection e with e; exact e.symm) fun i _ e => .inr ⟨by simp, e⟩
      ap := fun u hu => by
        injection hu with hu
        exact ⟨ad, k, c, hu.symm, hu ▸ h1.other hg hBl hBb⟩
      no := fun e => by cases e
      dn := fun _ => h.dn (by simp)
      st := fun u _ => ⟨_, rfl, hB.set _⟩ }
end
end Go.Proofs.Yticngbgjfdcnhaa
namespace Go.Proofs.Yticngbgjfdcnhaa
open Go.RowKit Go.Shelf
attribute [local go_sem] Oper.semAt_some
theorem prN_len {n : Nd} (hf : fitN n) : (prN n).length ≤ 100000 := by
  unfold prN
  split
  · rename_i h
    exact Nat.le_trans (pairs_le (wN n) (Nat.le_refl _) h.1) hf.1
  · exact Nat.zero_le _
theorem kpW_b {n₀ : Nat} {w : World} (hn : n₀ ≤ w.heap.size) (W : World) (l : Nat) (o o' : Obj) (hl : w.heap.size ≤ l) (h1 : W.heap[l]? = some o) (h2 : o.isCells = false) (h3 : o.isWalk = false) : KpW n₀ W (W.putObj l o') :=
  ⟨belowK_b hn W l o o' hl h1 h2 h3, fun j _ _ e => World.putObj_heap_other (fun e2 => by subst e2; rw [h1] at e; cases e; cases h2)⟩
def NewK (W : World) (t : List UInt8) (w' : World) (u : Value) : Prop := ∃ a k c, u = .slice a k c ∧ RdS (fun g => W.heap.size ≤ g ∧ g < w'.heap.size) w' (.slice a k c) t
theorem NewK.below {W : World} {t : List UInt8} (w : World) (u : Value) (w' : World) (h : NewK W t w u) (hb : Below w.heap.size w w') : NewK W t w' u := by
  obtain ⟨a, k, c, e, h⟩ := h
  exact ⟨a, k, c, e, (h.below hb).weak fun g hg => ⟨hg.1, Nat.lt_of_lt_of_le hg.2 hb.size⟩⟩
theorem NewK.grown {W : World} {t : List UInt8} {r : Option Nat} (hr : ∀ k, r = some k → k < W.heap.size) (w : World) (u : Value) (w' : World) (h : NewK W t w u) (hg : w.grownBy w' r) : NewK W t w' u := by
  obtain ⟨a, k, c, e, h⟩ := h
  exact ⟨a, k, c, e, (h.keep fun g hg2 => hg.block g hg2.2 fun e => by have := hr g e.symm; omega).weak fun g hg2 => ⟨hg2.1, Nat.lt_of_lt_of_le hg2.2 hg.size⟩⟩
set_option maxRecDepth 100000 in
set_option maxHeartbeats 4000000 in
theorem tKeys_any (w : World) {S : Nat → Prop} {v : Value} {n : Nd} (hr : RdN S w v n) (hf : fitN n) : Calls Try.prog 12 #[v] w (KeysEnd w ((prN n).map (·.key))) := by
  have hr0 : RdN (· < w.heap.size) w v n := hr.fit.weak fun _ h => h.2
  obtain ⟨a1, c1, a2, c2, a3, c3, rfl, _, _, _⟩ := hr
  obtain ⟨X, eX⟩ : ∃ X, X = Obj.cells #[.slice a1 n.keys.length c1, .slice a2 n.chains.length c2, .slice a3 n.kids.length c3] 28 := ⟨_, rfl⟩
  obtain ⟨w4, hw4⟩ : ∃ w4, w4 = (((w.alloc X).alloc (.cells #[.slice none 0 0] 24)).alloc X).alloc (.cells #[.slice none 0 0] 32) := ⟨_, rfl⟩
  have hs4 : w4.heap.size = w.heap.size + 4 := by rw [hw4]; simp
  have hb4 : Below w.heap.size w w4 := by
    rw [hw4]
    exact ((((Below.refl _ w).alloc (Nat.le_refl _) _).alloc (by simp) _).alloc (by simp; omega) _).alloc (by simp; omega) _
  have bK : Boxed w4 (w.heap.size + 1) 24 (.slice none 0 0) := by
    rw [hw4]
    have := Boxed.new (w.alloc X) 24 (.slice none 0 0)
    rw [World.size_alloc] at this
    exact (this.alloc _).alloc _
  have bN : TriV w4 (w.heap.size + 2) 28 (.slice a1 n.keys.length c1) (.slice a2 n.chains.length c2) (.slice a3 n.kids.length c3) := by
    rw [hw4]
    show _ = _
    rw [Below.heap_alloc _ _ _ (by simp)]
    have := World.alloc_heap_new ((w.alloc X).alloc (.cells #[.slice none 0 0] 24)) X
    simp only [World.size_alloc] at this
    rw [this, eX]
  have bE : w4.cell? ⟨w.heap.size + 3, 0, none⟩ = some (.slice none 0 0) := by
    rw [hw4]
    have := (Boxed.new (((w.alloc X).alloc (.cells #[.slice none 0 0] 24)).alloc X) 32 (.slice none 0 0)).cell
    simpa using this
  have hN : (prN n).length ≤ 100000 := prN_len hf
  have hgl : (geK (prN n) []).length ≤ (prN n).length := geK_len _ _
  have hst := from_stops (N := (prN n).length) hr0 hf (RdS.nil _ w) hb4 bN bE hgl
  refine calls_of_wp_marks Try.func12 rfl ?_
  simp only [Try.ntmps12, List.size_toArray, List.length_cons, List.length_nil, Nat.reduceAdd, Nat.reduceSub, Array.replicate_succ, Array.replicate_zero, List.push_toArray, List.append_toArray, List.nil_append, List.cons_append]
  go_wp2_with fail
  refine (from_any _ _ _ _ _ _ _).mono ?_
  rintro e wS ⟨rfl, hw'⟩
  obtain rfl : wS = w4 := by rw [hw', hw4, eX]
  clear hw' hw4
  go_wp2_with fail
  have hT : 24 ≠ 28 := by decide
  have hTe : 32 ≠ 28 := by decide
  refine wp_rangeFunc (gf := 46) (lb := #[.pointer (some ⟨w.heap.size + 2, 0, none⟩), .pointer (some ⟨w.heap.size + 3, 0, none⟩)]) rfl (enters_of Try.func46 (by kernel_rfl) rfl)
    hst (fun h k => h.trans k) (kpW_b (by omega)) (Below.refl _ _) (fun _ => rfl)
    (fun pre W => BoxL Elt.bytes 24 32 (w.heap.size + 1) (w.heap.size + 4) (w.heap.size + 4) W (pre.map (·.t)) ∧ KpW w.heap.size wS W)
    (fun _ _ _ => False)
    (OwnFrom.and (BoxL.own bytes_only _) (KpW.own (by omega) (by omega)))
    (fun _ _ _ _ _ hs _ _ => hs)
    ⟨⟨none, 0, 0, bK, OwnL.nil _ _ _ _ _⟩, KpW.refl _ _⟩
    (fun x => { tmps := #[.agg #[.slice a1 n.keys.length c1, .slice a2 n.chains.length c2, .slice a3 n.kids.length c3], .pointer (some ⟨w.heap.size, 0, none⟩), .slice none 0 0, .pointer (some ⟨w.heap.size + 1, 0, none⟩), .slice x.ad x.t.length x.c, .agg #[.slice a1 n.keys.length c1, .slice a2 n.chains.length c2, .slice a3 n.kids.length c3], .func (.func 46) #[] #[.pointer (some ⟨w.heap.size + 2, 0, none⟩), .pointer (some ⟨w.heap.size + 3, 0, none⟩)], .slice x.ad x.t.length x.c, undef, undef, undef, undef, undef, undef], defers := [] }) ?assign ?body ?done ?stop
  case assign =>
    intro l x W K hK
    gi_wp2
    refine Eq.mp ?_ hK
    kernel_rfl
  case stop =>
    rintro D c pre W _ _ h _
    exact h.elim
  case body =>
    rintro l pre x W ⟨⟨ad, k, c, hbx, hO⟩, hKp⟩ hlt
    have hWs : w.heap.size + 4 ≤ W.heap.size := by have := hKp.1.size; omega
    have hxr : RdS (· < w.heap.size) W (.slice x.ad x.t.length x.c) x.t := rdS_to x.rd (hb4.trans (hKp.1.mono (Nat.le_refl _)))
    have hob : ∀ i, Value.ownBlock (.slice ad k c) = some i → w.heap.size + 4 ≤ i ∧ i < W.heap.size := hO.block_lt
    have hlen : (pre.map (·.t)).length + 1 ≤ 1073741824 := by rw [List.length_map]; omega
    have eC : ∀ args w, (callFunc 21 args).run Try.prog w = .ok (.enter 21 args) w := enters_of Try.func21 (by kernel_rfl) rfl
    have hxl : x.t.length ≤ 1000000 := x.le
    refine wpIn_block ?_
    refine wpIn_region_setl (K := fun _ _ => True) (by kernel_rfl) (by kernel_rfl) (by kernel_rfl) [0, 2, 3, 4, 5] (by kernel_rfl) [lAny, lEq (.slice x.ad x.t.length x.c), lAny, lAny, lAny, lAny]
      (ColL Elt.bytes 24 32 (w.heap.size + 1) (w.heap.size + 4) (w.heap.size + 4) W (.slice ad k c) (pre.map (·.t)) x.t (NewK W x.t)) (ColL.more NewK.below) (ColE.start W)
      ⟨?o0, ?o1, ?o2, ?o3, ?o4, ?o5, trivial⟩ ?fin
    case o0 =>
      refine StOp.set rfl (by kernel_rfl) (fun A va D w' hF hT hN' hE hd hu hg => ?_)
      have e1 : A.eval (.tmp 3) = .pointer (some ⟨w.heap.size + 1, 0, none⟩) := hF 3 rfl
      have hE2 := hE
      simp only [told, List.map_cons, List.map_nil, hN', Bool.false_eq_true, if_false] at hE2
      obtain ⟨h5, h6⟩ := ColE.load hE2 hbx
      refine wp_ld_slice (e := 32) rfl e1 (by kernel_rfl) h5.cell ⟨_, rfl, ?_, trivial⟩
      simpa [ColL, told, don, upd] using h6
    case o1 =>
      refine StOp.free rfl (by kernel_rfl) (fun A va D w' hF hT hN' hE hd hu hg => ?_)
      have e1 : A.eval (.tmp 4) = .slice x.ad x.t.length x.c := hF 4 rfl
      exact BigFrame.wp_move _ rfl ⟨_, rfl, e1, Below.refl _ _⟩
    case o2 =>
      refine StOp.set rfl (by kernel_rfl) (fun A va D w' hF hT hN' hE hd hu hg => ?_)
      have e1 : A.eval (.tmp 9) = .slice x.ad x.t.length x.c := (hT 9 1 (by simp) rfl).trans (hg ⟨1, .data⟩ (by simp) rfl rfl)
      have hE2 := hE
      simp only [told, List.map_cons, List.map_nil, hN', Bool.false_eq_true, if_false] at hE2
      have hxw : RdS (· < w.heap.size) w' (.slice x.ad x.t.length x.c) x.t := hxr.keep fun g hg => hE2.tr.block g (by omega) fun e => by
        rcases e with ⟨_, e⟩ | ⟨_, e⟩
        · have := hob g e.symm; omega
        · omega
      refine wp_callFn rfl eC (args := #[.slice x.ad x.t.length x.c]) (by simp only [List.map_toArray, List.map_cons, List.map_nil, e1]) ((clone_any w' hxw.rd (Nat.le_refl _) hxl).mono ?_)
      rintro e w2 ⟨ad', k2, c', rfl, hf'⟩
      obtain rfl := hf'.2.rdS.len.1
      have h5 := ColE.elem NewK.below hE2 hf'.1 (u := .slice ad' x.t.length c') ⟨_, _, _, rfl, hf'.2.rdS.weak fun g hg => ⟨Nat.le_trans hE2.tr.size hg.1, hg.2⟩⟩
      exact ⟨_, rfl, _, rfl, by simpa [ColL, told, don, upd] using h5, trivial⟩
    case o3 =>
      refine StOp.set rfl (by kernel_rfl) (fun A va D w' hF hT hN' hE hd hu hg => ?_)
      have x1 : A.eval (.tmp 10) = va 2 := hT 10 2 (by simp) rfl
      have d2 : D 2 = true := hd ⟨2, .data⟩ (by simp) rfl
      have hE2 := hE
      simp only [told, List.map_cons, List.map_nil, hN', d2, Bool.false_eq_true, if_false, if_true] at hE2
      have d4 : D 4 = false := by
        cases h : D 4 with
        | false => rfl
        | true => rw [h] at hE2; exact absurd rfl (ColE.dn hE2 (by simp)).2
      rw [d4] at hE2
      simp only [Bool.false_eq_true, if_false] at hE2
      have d5 : D 5 = false := by
        cases h : D 5 with
        | false => rfl
        | true => rw [h] at hE2; have := ColE.no hE2 rfl; simp at this
      rw [d5] at hE2
      simp only [Bool.false_eq_true, if_false] at hE2
      obtain ⟨a5, k5, c5, ec, hc5⟩ := hE2.el _ rfl
      refine ColE.build kysP hE2 rfl (x1.trans ec) rfl ⟨_, rfl, hc5.weak fun g hg => ⟨by omega, hg.2, fun e => by have := hob g e.symm; omega⟩⟩ (by decide) NewK.below fun r w2 h6 => ⟨_, rfl, ?_, trivial⟩
      simpa [ColL, told, don, upd, d2, d4, d5] using h6
    case o4 =>
      refine StOp.set rfl (by kernel_rfl) (fun A va D w' hF hT hN' hE hd hu hg => ?_)
      have x1 : A.eval (.tmp 8) = va 0 := hT 8 0 (by simp) rfl
      have x2 : A.eval (.tmp 11) = va 3 := hT 11 3 (by simp) rfl
      have d0 : D 0 = true := hd ⟨0, .data⟩ (by simp) rfl
      have d3 : D 3 = true := hd ⟨3, .data⟩ (by simp) rfl
      have hE2 := hE
      simp only [told, List.map_cons, List.map_nil, hN', d0, d3, Bool.false_eq_true, if_false, if_true] at hE2
      have d5 : D 5 = false := by
        cases h : D 5 with
        | false => rfl
        | true => rw [h] at hE2; have := ColE.no hE2 rfl; simp at this
      rw [d5] at hE2
      simp only [Bool.false_eq_true, if_false] at hE2
      refine ColE.app kysP hE2 (by simp) rfl (x1.trans (hE2.ld _ rfl)) x2 hO (by omega) hlen (NewK.grown fun i hi => (hob i hi).2) fun r2 w2 h6 => ⟨_, rfl, ?_, trivial⟩
      simpa [ColL, told, don, upd, d0, d3, d5] using h6
    case o5 =>
      refine StOp.set rfl (by kernel_rfl) (fun A va D w' hF hT hN' hE hd hu hg => ?_)
      have e1 : A.eval (.tmp 3) = .pointer (some ⟨w.heap.size + 1, 0, none⟩) := hF 3 rfl
      have x2 : A.eval (.tmp 12) = va 4 := hT 12 4 (by simp) rfl
      have d4 : D 4 = true := hd ⟨4, .data⟩ (by simp) rfl
      have hE2 := hE
      simp only [told, List.map_cons, List.map_nil, hN', d4, Bool.false_eq_true, if_false, if_true] at hE2
      refine ColE.sto hE2 rfl (by kernel_rfl) e1 x2 hbx hO (by omega) (by omega) (NewK.grown fun i hi => by injection hi with hi; omega) fun w2 h6 => ⟨_, rfl, ?_, trivial⟩
      simpa [ColL, told, don, upd, d4] using h6
    case fin =>
      intro vs1 W1 hE hG
      obtain ⟨h1, h2, h3⟩ := ColE.done (n₀ := w.heap.size) hE hbx hO (by omega) (by omega) hT hTe wS.heap.size
      exact ⟨h1, h2, by rw [List.map_append]; exact h3, hKp.trans h2⟩
  case done =>
    rintro D ys W hD hys ⟨⟨ad, k, c, hbx, hO⟩, hKp⟩ hK
    have hc := hbx.cell
    obtain ⟨rfl, _, _⟩ := hO.rdL.len
    rw [hys, geK_all] at hO hc
    clear hbx
    replace hys := Lib.hid hys
    go_wp2_with fail
    refine ⟨by simp, .inl ⟨_, _, rfl, run_takeDeferred hK, ?_⟩⟩
    have hb : Below w.heap.size w (W.putObj D (Obj.deferred none)) := (hb4.trans hKp.1).trans (belowK_b (w := w) (Nat.le_refl _) W D _ _ (by omega) hK rfl rfl)
    have hrd : RdL Elt.bytes (fun g => w.heap.size ≤ g ∧ g < (W.putObj D (Obj.deferred none)).heap.size) (W.putObj D (Obj.deferred none)) (.slice ad (prN n).length c) ((prN n).map (·.key)) := by
      have h1 := (hO.grown bytes_only (grownBy_putObj' W D (Obj.deferred none)) (fun r e => by injection e with e; subst e; exact ⟨_, hK, rfl⟩)).rdL
      rw [List.length_map] at h1
      exact h1.weak fun g hg => ⟨by omega, hg.2⟩
    refine ⟨.slice ad (prN n).length c, by simp [results, Try.results12, go_sem], ad, c, by rw [List.length_map], ?_, hb⟩
    rw [List.length_map]
    exact hrd
end Go.Proofs.Yticngbgjfdcnhaa
namespace Go.Proofs.Yticngbgjfdcnhaa
open Go.RowKit Go.Shelf
attribute [local go_sem] Oper.semAt_some
theorem boxed_own {β : Type} {N b : Nat} {t : TypeId} {v : β → Value} : OwnFrom N (fun (s : β) W => Boxed W b t (v s)) := fun s X Y row hs hg hr =>
  hs.kept hg (fun e => by obtain ⟨_, o, ho, hc⟩ := hr _ e.symm; rw [show X.heap[b]? = _ from hs] at ho; cases ho; cases hc)
theorem below_own {β : Type} {n₀ N : Nat} {w₀ : World} (h1 : n₀ ≤ w₀.heap.size) (h2 : n₀ ≤ N) : OwnFrom N (fun (_ : β) W => Below n₀ w₀ W) := fun _ _ _ _ hs hg hr =>
  hs.grown hg (Nat.le_trans h1 hs.size) fun k e => Nat.le_trans h2 (hr k e).1
theorem rdS_own {S : Nat → Prop} {v : Value} {t : List UInt8} {X Y : World} {row : Option Nat} (h : RdS S X v t) (hg : X.grownBy Y row) (hr : ∀ r, row = some r → ∃ o : Obj, X.heap[r]? = some o ∧ o.isCells = false) : RdS S Y v t :=
  ((rdS_cells h).keep fun k hk => by
    obtain ⟨o, ho, hc⟩ := hk.2
    exact grownBy_keeps_cells hg hr ho hc).weak fun k hk => hk.1
set_option maxRecDepth 100000 in
set_option maxHeartbeats 4000000 in
theorem tMany_any (w : World) {S : Nat → Prop} {v : Value} {n : Nd} (hr : RdN S w v n) (hf : fitN n) : Calls Try.prog 10 #[v] w fun e w' => e = .returned (.int .i64 ((prN n).length : Nat)) ∧ Below w.heap.size w w' := by
  have hr0 : RdN (· < w.heap.size) w v n := hr.fit.weak fun _ h => h.2
  obtain ⟨a1, c1, a2, c2, a3, c3, rfl, _, _, _⟩ := hr
  obtain ⟨X, eX⟩ : ∃ X, X = Obj.cells #[.slice a1 n.keys.length c1, .slice a2 n.chains.length c2, .slice a3 n.kids.length c3] 28 := ⟨_, rfl⟩
  obtain ⟨w2, hw2⟩ : ∃ w2, w2 = (w.alloc X).alloc (.cells #[.int .i64 0] 3) := ⟨_, rfl⟩
  obtain ⟨w4, hw4⟩ : ∃ w4, w4 = (w2.alloc X).alloc (.cells #[.slice none 0 0] 32) := ⟨_, rfl⟩
  have bI0 : Boxed ((w.alloc X).alloc (.cells #[.int .i64 0] 3)) (w.heap.size + 1) 3 (.int .i64 0) := by
    have := Boxed.new (w.alloc X) 3 (.int .i64 0)
    rwa [World.size_alloc] at this
  have bI2 : Boxed w2 (w.heap.size + 1) 3 (.int .i64 0) := by rw [hw2]; exact bI0
  have hb2 : Below w.heap.size w w2 := by
    rw [hw2]
    exact ((Below.refl _ w).alloc (Nat.le_refl _) _).alloc (by simp) _
  have hs2 : w2.heap.size = w.heap.size + 2 := by rw [hw2]; simp
  have hb4 : Below w.heap.size w w4 := by
    rw [hw4]
    exact (hb2.alloc (by omega) _).alloc (by simp; omega) _
  have hs4 : w4.heap.size = w.heap.size + 4 := by rw [hw4]; simp [hs2]
  have bK : Boxed w4 (w.heap.size + 1) 3 (.int .i64 0) := by
    rw [hw4]
    exact (bI2.alloc _).alloc _
  have bN : TriV w4 (w.heap.size + 2) 28 (.slice a1 n.keys.length c1) (.slice a2 n.chains.length c2) (.slice a3 n.kids.length c3) := by
    rw [hw4]
    show _ = _
    rw [Below.heap_alloc _ _ _ (by simp [hs2])]
    have := World.alloc_heap_new w2 X
    rw [hs2] at this
    rw [this, eX]
  have bE : w4.cell? ⟨w.heap.size + 3, 0, none⟩ = some (.slice none 0 0) := by
    rw [hw4]
    have := (Boxed.new (w2.alloc X) 32 (.slice none 0 0)).cell
    rw [World.size_alloc, hs2] at this
    exact this
  have hN : (prN n).length ≤ 100000 := prN_len hf
  have hgl : (geK (prN n) []).length ≤ (prN n).length := geK_len _ _
  have hst := from_stops (N := (prN n).length) hr0 hf (RdS.nil _ w) hb4 bN bE hgl
  have hcI := bI0.cell
  have hfI := bI0.frozen
  have bX : TriV ((w.alloc X).alloc (.cells #[.int .i64 0] 3)) w.heap.size 28 (.slice a1 n.keys.length c1) (.slice a2 n.chains.length c2) (.slice a3 n.kids.length c3) := by
    rw [eX]
    exact (TriV.new w _ _ _ _).below ((Below.refl _ _).alloc (Nat.le_refl _) _) (by simp)
  have bX2 : TriV w2 w.heap.size 28 (.slice a1 n.keys.length c1) (.slice a2 n.chains.length c2) (.slice a3 n.kids.length c3) := by
    rw [hw2]
    exact bX
  have tn0 := bX2.cell0
  have tn1 := bX2.cell1
  have tn2 := bX2.cell2
  refine calls_of_wp_marks Try.func10 rfl ?_
  simp only [Try.ntmps10, List.size_toArray, List.length_cons, List.length_nil, Nat.reduceAdd, Nat.reduceSub, Array.replicate_succ, Array.replicate_zero, List.push_toArray, List.append_toArray, List.nil_append, List.cons_append]
  go_upto_region 2 with (fail)
  rw [← eX, ← hw2]
  replace hw2 := Lib.hid hw2
  replace hw4 := Lib.hid hw4
  replace eX := Lib.hid eX
  go_wp2_with fail
  refine (from_any _ _ _ _ _ _ _).mono ?_
  rintro e wS ⟨rfl, hw'⟩
  obtain rfl : wS = w4 := by rw [hw', hw4.out, eX.out]
  clear hw' hw4 tn0 tn1 tn2 hcI hfI bX bX2 bI0
  clear hw2
  go_wp2_with fail
  refine wp_rangeFunc (gf := 46) (lb := #[.pointer (some ⟨w.heap.size + 2, 0, none⟩), .pointer (some ⟨w.heap.size + 3, 0, none⟩)]) rfl (enters_of Try.func46 (by kernel_rfl) rfl)
    hst (fun h k => h.trans k) (kpW_b (by omega)) (Below.refl _ _) (fun _ => rfl)
    (fun (pre : List (KeyAt w)) W => Boxed W (w.heap.size + 1) 3 (.int .i64 (pre.length : Nat)) ∧ KpW w.heap.size wS W)
    (fun _ _ _ => False)
    (OwnFrom.and boxed_own (KpW.own (by omega) (by omega)))
    (fun _ _ _ _ _ hs _ _ => hs)
    ⟨bK, KpW.refl _ _⟩
    (fun (x : KeyAt w) => { tmps := #[.agg #[.slice a1 n.keys.length c1, .slice a2 n.chains.length c2, .slice a3 n.kids.length c3], .pointer (some ⟨w.heap.size, 0, none⟩), .int .i64 0, .pointer (some ⟨w.heap.size + 1, 0, none⟩), .agg #[.slice a1 n.keys.length c1, .slice a2 n.chains.length c2, .slice a3 n.kids.length c3], .func (.func 46) #[] #[.pointer (some ⟨w.heap.size + 2, 0, none⟩), .pointer (some ⟨w.heap.size + 3, 0, none⟩)], .slice x.ad x.t.length x.c, undef, undef, undef], defers := [] }) ?assign ?body ?done ?stop
  case assign =>
    intro l x W K hK
    gi_wp2
    refine Eq.mp ?_ hK
    kernel_rfl
  case stop =>
    rintro D c pre W _ _ h _
    exact h.elim
  case body =>
    rintro l pre x W ⟨hbx, hKp⟩ hlt
    have hc := hbx.cell
    have hf := hbx.frozen
    gi_wp2
    have hk' : KpW w.heap.size W (W.setCell ⟨w.heap.size + 1, 0, none⟩ (.int .i64 ((pre.length : Int) + 1))) :=
      ⟨(Below.refl _ _).setCell (p := ⟨w.heap.size + 1, 0, none⟩) (by show w.heap.size ≤ w.heap.size + 1; omega) _, fun j c r e => heap_setCell_other W ⟨w.heap.size + 1, 0, none⟩ j _ (fun e2 => by
        have e3 : j = w.heap.size + 1 := e2
        rw [e3, show W.heap[w.heap.size + 1]? = _ from hbx] at e
        injection e with e
        injection e with _ e4
        exact absurd e4 (by decide))⟩
    refine ⟨(KeepsOthers.setCell _ _ _).from _, hk', ?_, hKp.trans hk'⟩
    have := hbx.set (.int .i64 ((pre.length : Int) + 1))
    simpa using this
  case done =>
    rintro D ys W hD hys ⟨hbx, hKp⟩ hK
    have hc := hbx.cell
    have hl : ys.length = (prN n).length := by
      have := congrArg List.length hys
      rwa [geK_all, List.length_map, List.length_map] at this
    rw [hl] at hc
    clear hbx
    replace hys := Lib.hid hys
    replace hl := Lib.hid hl
    go_wp2_with fail
    refine ⟨by simp, .inl ⟨_, _, rfl, run_takeDeferred hK, ?_⟩⟩
    exact ⟨.int .i64 ((prN n).length : Nat), by simp [results, Try.results10, go_sem], rfl, (hb4.trans hKp.1).trans (belowK_b (w := w) (Nat.le_refl _) W D _ _ (by omega) hK rfl rfl)⟩
set_option maxRecDepth 100000 in
set_option maxHeartbeats 4000000 in
theorem tNext_any (w : World) {S S2 : Nat → Prop} {v : Value} {n : Nd} {a : Option Addr} {m c : Nat} {k : List UInt8} (hr : RdN S w v n) (hf : fitN n) (hk : RdS S2 w (.slice a m c) k) : Calls Try.prog 13 #[v, .slice a m c] w (NextEnd w (nextP (prN n) k)) := by
  have hr0 : RdN (· < w.heap.size) w v n := hr.fit.weak fun _ h => h.2
  have hk0 : RdS (· < w.heap.size) w (.slice a m c) k := hk.fit.weak fun _ h => h.2
  obtain ⟨rfl, _, _⟩ := hk.len
  obtain ⟨a1, c1, a2, c2, a3, c3, rfl, _, _, _⟩ := hr
  obtain ⟨X, eX⟩ : ∃ X, X = Obj.cells #[.slice a1 n.keys.length c1, .slice a2 n.chains.length c2, .slice a3 n.kids.length c3] 28 := ⟨_, rfl⟩
  obtain ⟨w2, hw2⟩ : ∃ w2, w2 = ((w.alloc X).alloc (.cells #[.slice none 0 0] 32)).alloc (.cells #[.bool false] 4) := ⟨_, rfl⟩
  obtain ⟨w4, hw4⟩ : ∃ w4, w4 = (w2.alloc X).alloc (.cells #[.slice a k.length c] 32) := ⟨_, rfl⟩
  have hs2 : w2.heap.size = w.heap.size + 3 := by rw [hw2]; simp
  have bA2 : Boxed w2 (w.heap.size + 1) 32 (.slice none 0 0) := by
    rw [hw2]
    have := Boxed.new (w.alloc X) 32 (.slice none 0 0)
    rw [World.size_alloc] at this
    exact this.alloc _
  have bB2 : Boxed w2 (w.heap.size + 2) 4 (.bool false) := by
    rw [hw2]
    have := Boxed.new ((w.alloc X).alloc (.cells #[.slice none 0 0] 32)) 4 (.bool false)
    rw [World.size_alloc, World.size_alloc] at this
    exact this
  have bX2 : TriV w2 w.heap.size 28 (.slice a1 n.keys.length c1) (.slice a2 n.chains.length c2) (.slice a3 n.kids.length c3) := by
    rw [hw2, eX]
    exact (TriV.new w _ _ _ _).below (((Below.refl _ _).alloc (Nat.le_refl _) _).alloc (by simp) _) (by simp)
  have hb2 : Below w.heap.size w w2 := by
    rw [hw2]
    exact (((Below.refl _ w).alloc (Nat.le_refl _) _).alloc (by simp) _).alloc (by simp; omega) _
  have hb4 : Below w.heap.size w w4 := by
    rw [hw4]
    exact (hb2.alloc (by omega) _).alloc (by simp; omega) _
  have hs4 : w4.heap.size = w.heap.size + 5 := by rw [hw4]; simp [hs2]
  have bA4 : Boxed w4 (w.heap.size + 1) 32 (.slice none 0 0) := by rw [hw4]; exact (bA2.alloc _).alloc _
  have bB4 : Boxed w4 (w.heap.size + 2) 4 (.bool false) := by rw [hw4]; exact (bB2.alloc _).alloc _
  have bN : TriV w4 (w.heap.size + 3) 28 (.slice a1 n.keys.length c1) (.slice a2 n.chains.length c2) (.slice a3 n.kids.length c3) := by
    rw [hw4]
    show _ = _
    rw [Below.heap_alloc _ _ _ (by simp [hs2])]
    have := World.alloc_heap_new w2 X
    rw [hs2] at this
    rw [this, eX]
  have bE : w4.cell? ⟨w.heap.size + 4, 0, none⟩ = some (.slice a k.length c) := by
    rw [hw4]
    have := (Boxed.new (w2.alloc X) 32 (.slice a k.length c)).cell
    rw [World.size_alloc, hs2] at this
    exact this
  have hst := from_stops (N := (prN n).length) hr0 hf hk0 hb4 bN bE (geK_len _ _)
  have hhd := geK_head (prN n) k
  obtain ⟨G, eG⟩ : ∃ G, G = geK (prN n) k := ⟨_, rfl⟩
  rw [← eG] at hst hhd
  rw [← hhd]
  clear hhd eG
  have tn0 := bX2.cell0
  have tn1 := bX2.cell1
  have tn2 := bX2.cell2
  refine calls_of_wp_marks Try.func13 rfl ?_
  simp only [Try.ntmps13, List.size_toArray, List.length_cons, List.length_nil, Nat.reduceAdd, Nat.reduceSub, Array.replicate_succ, Array.replicate_zero, List.push_toArray, List.append_toArray, List.nil_append, List.cons_append]
  go_upto_region 1 with (fail)
  rw [← eX, ← hw2]
  replace hw2 := Lib.hid hw2
  replace hw4 := Lib.hid hw4
  replace eX := Lib.hid eX
  go_wp2_with fail
  refine (from_any _ _ _ _ _ _ _).mono ?_
  rintro e wS ⟨rfl, hw'⟩
  obtain rfl : wS = w4 := by rw [hw', hw4.out, eX.out]
  clear hw' hw4 tn0 tn1 tn2 bX2
  clear hw2
  go_wp2_with fail
  refine wp_rangeFunc (gf := 46) (lb := #[.pointer (some ⟨w.heap.size + 3, 0, none⟩), .pointer (some ⟨w.heap.size + 4, 0, none⟩)]) rfl (enters_of Try.func46 (by kernel_rfl) rfl)
    hst (fun h k => h.trans k) (kpW_b (by omega)) (Below.refl _ _) (fun _ => rfl)
    (fun (pre : List (KeyAt w)) W => pre = [] ∧ Boxed W (w.heap.size + 1) 32 (.slice none 0 0) ∧ Boxed W (w.heap.size + 2) 4 (.bool false) ∧ Below w.heap.size w W)
    (fun c pre W => c = .ret ∧ ∃ (x : KeyAt w) (ad : Option Addr) (cc : Nat), pre = [x] ∧ Boxed W (w.heap.size + 1) 32 (.slice ad x.t.length cc) ∧ Boxed W (w.heap.size + 2) 4 (.bool true) ∧ RdS (fun g => w.heap.size ≤ g ∧ g < W.heap.size) W (.slice ad x.t.length cc) x.t ∧ Below w.heap.size w W)
    (OwnFrom.and (fun _ _ _ _ hs _ _ => hs) (OwnFrom.and boxed_own (OwnFrom.and boxed_own (below_own (Nat.le_refl _) (by omega)))))
    (fun c s X Y row hs hg hr => by
      obtain ⟨ec, x, ad, cc, hp, h1, h2, h3, h4⟩ := hs
      exact ⟨ec, x, ad, cc, hp, boxed_own (v := fun _ : Unit => _) () X Y row h1 hg hr, boxed_own (v := fun _ : Unit => _) () X Y row h2 hg hr, (rdS_own h3 hg fun r e => (hr r e).2).weak fun g hg2 => ⟨hg2.1, Nat.lt_of_lt_of_le hg2.2 hg.size⟩, below_own (β := Unit) (N := wS.heap.size) (Nat.le_refl _) (by omega) () X Y row h4 hg hr⟩)
    ⟨rfl, bA4, bB4, hb4⟩
    (fun (x : KeyAt w) => { tmps := #[.agg #[.slice a1 n.keys.length c1, .slice a2 n.chains.length c2, .slice a3 n.kids.length c3], .slice a k.length c, .pointer (some ⟨w.heap.size, 0, none⟩), undef, .pointer (some ⟨w.heap.size + 1, 0, none⟩), .pointer (some ⟨w.heap.size + 2, 0, none⟩), .slice x.ad x.t.length x.c, .agg #[.slice a1 n.keys.length c1, .slice a2 n.chains.length c2, .slice a3 n.kids.length c3], .slice a k.length c, .func (.func 46) #[] #[.pointer (some ⟨w.heap.size + 3, 0, none⟩), .pointer (some ⟨w.heap.size + 4, 0, none⟩)], .slice x.ad x.t.length x.c, undef, undef], defers := [] }) ?assign ?body ?done ?stop
  case assign =>
    intro l x W K hK
    gi_wp2
    refine Eq.mp ?_ hK
    kernel_rfl
  case body =>
    rintro l pre x W ⟨rfl, hA, hB, hbW⟩ hlt
    have hxr := rdS_to x.rd hbW
    have hcl := CallsIn.inRound l ((callsIn_wide (n := 0)).2 (clone_any W hxr.rd (Nat.le_refl _) x.le))
    gi_wp2
    refine ⟨trivial, hcl.mono ?_⟩
    clear hcl
    rintro e W3 ⟨ad', k2, c', rfl, hf'⟩
    have hrd := hf'.2.rdS
    obtain rfl := hrd.len.1
    have hA3 : Boxed W3 (w.heap.size + 1) 32 (.slice none 0 0) := (hf'.1.block _ hA.lt).trans hA
    have hB3 : Boxed W3 (w.heap.size + 2) 4 (.bool false) := (hf'.1.block _ hB.lt).trans hB
    have hsz := hf'.1.size
    have hbl := hb4.size
    have hWl := hB.lt
    have hA4 := hA3.set (.slice ad' x.t.length c')
    have hB4 : Boxed (W3.setCell ⟨w.heap.size + 1, 0, none⟩ (.slice ad' x.t.length c')) (w.heap.size + 2) 4 (.bool false) := hB3.other (by omega) _
    have hb3 : Below w.heap.size w W3 := hbW.trans (hf'.1.mono hbW.size)
    have hcA := hA3.cell
    have hfA := hA3.frozen
    have hcB := hB4.cell
    have hfB := hB4.frozen
    have hko : KeepsOthers W W3 := KeepsOthers.of_grownBy (grown_below hf'.1) (fun j o e => by cases e)
    clear hA hB hxr hf'
    gi_wp2
    refine ⟨((hko.trans (KeepsOthers.setCell _ _ _)).trans (KeepsOthers.setCell _ _ _)).from _, rfl, x, ad', c', rfl, hA4.other (by omega) _, hB4.set _, ?_, ?_⟩
    · exact (hrd.keep fun g hg => (heap_setCell_other _ ⟨w.heap.size + 2, 0, none⟩ g _ (by show g ≠ w.heap.size + 2; omega)).trans (heap_setCell_other _ ⟨w.heap.size + 1, 0, none⟩ g _ (by show g ≠ w.heap.size + 1; omega))).weak fun g hg => ⟨by omega, by simp; omega⟩
    · exact (hb3.setCell (p := ⟨w.heap.size + 1, 0, none⟩) (by show w.heap.size ≤ w.heap.size + 1; omega) _).setCell (p := ⟨w.heap.size + 2, 0, none⟩) (by show w.heap.size ≤ w.heap.size + 2; omega) _
  case stop =>
    rintro D c pre W hD ⟨r, hpk⟩ ⟨rfl, x, ad, cc, rfl, hA, hB, hrd, hbW⟩ hK
    have hcA := hA.cell
    have hcB := hB.cell
    go_wp2_with fail
    refine ⟨by simp, .inl ⟨_, _, rfl, run_takeDeferred hK, ?_⟩⟩
    have hA5 := hA.kept (grownBy_putObj' W D (Obj.deferred none)) (fun e => by injection e with e; subst e; rw [hA] at hK; cases hK)
    have hB5 := hB.kept (grownBy_putObj' W D (Obj.deferred none)) (fun e => by injection e with e; subst e; rw [hB] at hK; cases hK)
    have hcA := hA5.cell
    have hcB := hB5.cell
    refine ⟨.tuple #[.slice ad x.t.length cc, .bool true], by simp [results, Try.results13, go_sem, loadVar, hcA, hcB], ad, cc, ?_, ?_, (hbW.trans (belowK_b (w := w) (Nat.le_refl _) W D _ _ (by omega) hK rfl rfl))⟩
    · rw [hpk]
      rfl
    · rw [hpk]
      exact (rdS_own hrd (grownBy_putObj' W D (Obj.deferred none)) fun r e => by injection e with e; subst e; exact ⟨_, hK, rfl⟩).weak fun g hg => ⟨hg.1, by simpa using hg.2⟩
  case done =>
    rintro D ys W hD hys ⟨rfl, hA, hB, hbW⟩ hK
    have hcA := hA.cell
    have hfA := hA.frozen
    have hcB := hB.cell
    have hfB := hB.frozen
    obtain rfl : G = [] := hys.symm
    have hA4 := hA.set (.slice none 0 0)
    have hB4 : Boxed (W.setCell ⟨w.heap.size + 1, 0, none⟩ (.slice none 0 0)) (w.heap.size + 2) 4 (.bool false) := hB.other (by omega) _
    have hcB := hB4.cell
    have hfB := hB4.frozen
    have hA5 : Boxed ((W.setCell ⟨w.heap.size + 1, 0, none⟩ (.slice none 0 0)).setCell ⟨w.heap.size + 2, 0, none⟩ (.bool false)) (w.heap.size + 1) 32 (.slice none 0 0) := hA4.other (by omega) _
    have hB5 := hB4.set (.bool false)
    have hb5 : Below w.heap.size w ((W.setCell ⟨w.heap.size + 1, 0, none⟩ (.slice none 0 0)).setCell ⟨w.heap.size + 2, 0, none⟩ (.bool false)) :=
      (hbW.setCell (p := ⟨w.heap.size + 1, 0, none⟩) (by show w.heap.size ≤ w.heap.size + 1; omega) _).setCell (p := ⟨w.heap.size + 2, 0, none⟩) (by show w.heap.size ≤ w.heap.size + 2; omega) _
    have hK5 : ((W.setCell ⟨w.heap.size + 1, 0, none⟩ (.slice none 0 0)).setCell ⟨w.heap.size + 2, 0, none⟩ (.bool false)).heap[D]? = some (.deferred (some [])) :=
      (heap_setCell_other _ ⟨w.heap.size + 2, 0, none⟩ D _ (by show D ≠ w.heap.size + 2; omega)).trans ((heap_setCell_other _ ⟨w.heap.size + 1, 0, none⟩ D _ (by show D ≠ w.heap.size + 1; omega)).trans hK)
    go_wp2_with fail
    generalize (W.setCell ⟨w.heap.size + 1, 0, none⟩ (.slice none 0 0)).setCell ⟨w.heap.size + 2, 0, none⟩ (.bool false) = W5 at *
    refine ⟨by simp, .inl ⟨_, _, rfl, run_takeDeferred hK5, ?_⟩⟩
    have hA6 := hA5.kept (grownBy_putObj' W5 D (Obj.deferred none)) (fun e => by injection e with e; subst e; rw [hA5] at hK5; cases hK5)
    have hB6 := hB5.kept (grownBy_putObj' W5 D (Obj.deferred none)) (fun e => by injection e with e; subst e; rw [hB5] at hK5; cases hK5)
    have hcA6 := hA6.cell
    have hcB6 := hB6.cell
    exact ⟨.tuple #[.slice none 0 0, .bool false], by simp [results, Try.results13, go_sem, loadVar, hcA6, hcB6], none, 0, rfl, RdS.nil _ _, hb5.trans (belowK_b (w := w) (Nat.le_refl _) W5 D _ _ (by omega) hK5 rfl rfl)⟩
end Go.Proofs.Yticngbgjfdcnhaa
namespace Go.Proofs.Yticngbgjfdcnhaa
open Go.RowKit
theorem treC0 : TreC0 where
  check w _ _ _ hr hf := tCheck_any w hr (by have := hf.1; omega)
  keys w _ _ _ hr hf := tKeys_any w hr hf
  many w _ _ _ hr hf := tMany_any w hr hf
  depth w _ _ _ hr hf := tDepth_any w hr (by have := hf.1; omega)
  find w _ _ _ _ _ _ _ _ hr hf hk _ := tFind_any w hr hf hk
  next w _ _ _ _ _ _ _ _ hr hf hk _ := tNext_any w hr hf hk
  put w _ _ _ _ _ _ _ _ _ _ _ _ _ hr hf hk hl hx hs := tPut_any w hr hf hk hl hx hs
  delete w _ _ _ _ _ _ _ _ hr hf hk _ := tDelete_any w hr hf hk
end Go.Proofs.Yticngbgjfdcnhaa
namespace Go.Proofs.Yticngbgjfdcnhaa
open Go.ChangeShapes Go.WideShapes Go.ChangeAt Go.RowKit Go.Deep
def Opens {α : Type} (P : Program) (t : TypeId) (E : Elt α) : Prop :=
  ∀ {H : Type} {enc : TypeId × Value → H} {w : World} {base : Nat} {held : Bool} {fuel : Nat} {cs : List Value} {x : DataW H × List MemPlace}, DataW.trod enc P w base (fun _ => true) held fuel t cs = some x → ∃ d, E.R (· < w.heap.size) w d cs
theorem choose_list {α : Type} {p : Nat → α → Prop} : ∀ n, (∀ i, i < n → ∃ d, p i d) → ∃ l : List α, l.length = n ∧ ∀ i (h : i < l.length), p i l[i]
  | 0, _ => ⟨[], rfl, fun i h => absurd h (Nat.not_lt_zero _)⟩
  | n + 1, h => by
    obtain ⟨l, hl, hp⟩ := choose_list n (fun i hi => h i (by omega))
    obtain ⟨d, hd⟩ := h n (Nat.lt_succ_self n)
    refine ⟨l ++ [d], by simp [hl], fun i hi => ?_⟩
    rcases Nat.lt_or_ge i l.length with h1 | h1
    · rw [List.getElem_append_left h1]; exact hp i h1
    · rw [List.length_append] at hi
      simp only [List.length_cons, List.length_nil] at hi
      obtain rfl : i = l.length := by omega
      rw [List.getElem_append_right (Nat.le_refl _)]
      simp only [Nat.sub_self, List.getElem_cons_zero]
      rw [hl]; exact hd
section
variable {P : Program} {t e : TypeId}
theorem Opens.list {α : Type} {E : Elt α} (ht : P.underlying t = some (.slice e)) (hc : P.cellsOf e = E.size) (hE : Opens P e E) : Opens P t (Elt.list E) := by
  intro H enc w base held fuel cs x h
  rcases open_slice ht h with ⟨rfl, _⟩ | ⟨a, len, cap, m, n, D, Pl, rfl, hb, hl, hm, hmm, _, hi⟩
  · exact ⟨[], _, rfl, RdL.nil _ _ _⟩
  · have hlm : len ≤ m := by rw [hmm]; split <;> omega
    obtain ⟨l, hll, hp⟩ := choose_list (p := fun i d => ∃ cs', E.R (· < w.heap.size) w d cs' ∧ ∀ j, j < cs'.length → w.cell? (a.add (i * E.size + j)) = cs'[j]?) len (fun i hil => by
      obtain ⟨cs', h1, h2⟩ := hi i (by omega)
      obtain ⟨d, hd⟩ := hE h2
      obtain ⟨_, hcl, hat⟩ := World.cells?_some h1
      refine ⟨d, cs', hd, fun j hj => ?_⟩
      have := hat j (by omega)
      rw [add_add, hc] at this
      exact this)
    refine ⟨l, _, rfl, ?_⟩
    rw [← hll] at hl ⊢
    refine ⟨some a, cap, rfl, hl, hm, ?_⟩
    rcases Nat.eq_zero_or_pos l.length with h0 | h0
    · exact .inl (List.eq_nil_of_length_eq_zero h0)
    · obtain ⟨cs0, hR0, hc0⟩ := hp 0 h0
      have hl0 := E.len hR0
      have hpos := E.pos
      have hcell := hc0 0 (by omega)
      rw [List.getElem?_eq_getElem (by omega)] at hcell
      obtain ⟨b, off, spot⟩ := a
      have hspot : spot = none := by simpa [Addr.add] using World.cell?_spot hcell
      subst hspot
      have hblt := World.block_lt_of_cell? w _ hcell
      refine .inr ⟨b, off, rfl, by simpa [Addr.add_lit] using hblt, fun r hr => ?_⟩
      obtain ⟨cs', hR, hcs⟩ := hp r hr
      refine ⟨cs', hR, fun j u hj => ?_⟩
      have := hcs j (List.getElem?_eq_some_iff.1 hj).1
      rw [hj, Addr.add_lit, ← Nat.add_assoc] at this
      exact this
theorem Opens.rdL {α : Type} {E : Elt α} (hO : Opens P t (Elt.list E)) {H : Type} {enc : TypeId × Value → H} {w : World} {base : Nat} {held : Bool} {fuel : Nat} {a : Option Addr} {n c : Nat} {x : DataW H × List MemPlace}
    (h : DataW.trod enc P w base (fun _ => true) held fuel t [.slice a n c] = some x) : ∃ xs, RdL E (· < w.heap.size) w (.slice a n c) xs := by
  obtain ⟨d, v, hv, hR⟩ := hO h
  cases hv
  exact ⟨d, hR⟩
end
end Go.Proofs.Yticngbgjfdcnhaa
namespace Go.Proofs.Yticngbgjfdcnhaa
open Go.ChangeShapes Go.WideShapes Go.ChangeAt Go.RowKit Go.Deep
def oneV (s : Int) : List Ver := [⟨s, false, []⟩]
theorem oneV_small (s : Int) : smallV (oneV s) := by
  refine ⟨by simp [oneV], fun x hx => ?_⟩
  have h : x = ⟨s, false, []⟩ := by simpa [oneV] using hx
  subst h
  simp
theorem one_rd (w1 : World) {s : Int} (hi : I64' s) :
    RdL Elt.ver (fun k => w1.heap.size ≤ k ∧ k < (w1.alloc (.cells #[.int .i64 s, .bool false, .slice none 0 0] 44)).heap.size) (w1.alloc (.cells #[.int .i64 s, .bool false, .slice none 0 0] 44)) (.slice (some ⟨w1.heap.size, 0, none⟩) 1 1) (oneV s) := by
  have hc := cells_new w1 [.int .i64 s, .bool false, .slice none 0 0] 44
  simp only [Addr.add_lit] at hc
  have c0 := hc 0 _ rfl
  have c1 := hc 1 _ rfl
  have c2 := hc 2 _ rfl
  clear hc
  have hsz : (w1.alloc (.cells #[.int .i64 s, .bool false, .slice none 0 0] 44)).heap.size = w1.heap.size + 1 := World.size_alloc _ _
  generalize w1.alloc (.cells #[.int .i64 s, .bool false, .slice none 0 0] 44) = w2 at *
  refine ⟨_, 1, rfl, Nat.le_refl _, by unfold maxLen; omega, .inr ⟨w1.heap.size, 0, rfl, ⟨Nat.le_refl _, by omega⟩, fun r hr => ?_⟩⟩
  obtain rfl : r = 0 := by simp [oneV] at hr; omega
  refine ⟨verC ⟨s, false, []⟩ (.slice none 0 0), ⟨_, rfl, RdS.nil _ _, hi⟩, fun j u hu => ?_⟩
  rcases j with _ | _ | _ | j
  · cases hu; exact c0
  · cases hu; exact c1
  · cases hu; exact c2
  · simp [verC] at hu
def OneEnd (w : World) (s : Int) (e : Ending) (w' : World) : Prop := ∃ a c, e = .returned (.slice a 1 c) ∧ RdL Elt.ver (fun k => w.heap.size ≤ k ∧ k < w'.heap.size) w' (.slice a 1 c) (oneV s) ∧ Below w.heap.size w w'
set_option maxHeartbeats 1000000 in
theorem one_any (w : World) {s : Int} (hi : I64' s) : Calls Try.prog 7 #[.int .i64 s] w (OneEnd w s) := by
  have hR := one_rd w hi
  have q : Below w.heap.size w (w.alloc (.cells #[.int .i64 s, .bool false, .slice none 0 0] 44)) := (Below.refl _ _).alloc (Nat.le_refl _) _
  go_enter Try.func7, Try.ntmps7
  go_wp2_with fail
  go_ret
  exact ⟨_, _, rfl, hR, q⟩
end Go.Proofs.Yticngbgjfdcnhaa
namespace Go.Proofs.Yticngbgjfdcnhaa
open Go.RowKit
def newB (W : World) (z : Option Value) (w : World) (g : Nat) : Prop := W.heap.size ≤ g ∧ g < w.heap.size ∧ ∀ b, z = some (.pointer (some ⟨b, 0, none⟩)) → g ≠ b
def newC (W : World) (o0 z : Option Value) (w : World) (g : Nat) : Prop := newB W z w g ∧ ∀ b n m, o0 = some (.slice (some ⟨b, 0, none⟩) n m) → g ≠ b
structure RdP (R : (Nat → Prop) → World → Value → Value → Prop) : Prop where
  keep : ∀ {S w w' v e}, R S w v e → (∀ k, S k → w'.heap[k]? = w.heap[k]?) → R S w' v e
  weak : ∀ {S S' w v e}, R S w v e → (∀ k, S k → S' k) → R S' w v e
structure CbS (hk : Bool) (C0 : Array Value) (E0 : TypeId) (R : (Nat → Prop) → World → Value → Value → Prop) (Z : Obj) (Bx : World → Nat → Value → Prop) (K1 K2 : (Nat → Prop) → World → Value → Prop) (W : World) (o0 o1 o2 c m x y z s : Option Value) (w : World) : Prop where
  be : Below W.heap.size W w
  k0 : ∀ u, o0 = some u → ∃ g, u = .slice (some ⟨g, 0, none⟩) C0.size C0.size ∧ newB W z w g ∧ (o1 = none → w.heap[g]? = some (.cells C0 E0 (0, 0)))
  k1 : ∀ u, o1 = some u → K1 (newB W z w) w u
  k2 : ∀ u, o2 = some u → K2 (newC W o0 z w) w u
  rr : ∀ u, c = some u → ∃ v e, u = .tuple #[v, e] ∧ R (newC W o0 z w) w v e
  mv : ∀ u, m = some u → c = some u
  mx : ∀ u, x = some u → ∃ e, m = some (.tuple #[u, e])
  my : ∀ u, y = some u → ∃ v, m = some (.tuple #[v, u])
  zz : ∀ u, z = some u → ∃ b, u = .pointer (some ⟨b, 0, none⟩) ∧ W.heap.size ≤ b ∧ b < w.heap.size ∧ (s = none → w.heap[b]? = some Z)
  sc : s ≠ none → c ≠ none
  dk : hk = true → c ≠ none → o0 ≠ none ∧ o1 ≠ none
  d1 : hk = true → o1 ≠ none → o0 ≠ none
  ss : ∀ u, s = some u → ∃ b v, z = some (.pointer (some ⟨b, 0, none⟩)) ∧ x = some v ∧ Bx w b v
section
variable {hk : Bool} {C0 : Array Value} {E0 : TypeId} {R : (Nat → Prop) → World → Value → Value → Prop} {Z : Obj} {Bx : World → Nat → Value → Prop} {K1 K2 : (Nat → Prop) → World → Value → Prop} {W w w' : World} {o0 o1 o2 c m x y z s : Option Value}
theorem CbS.start (W : World) : CbS hk C0 E0 R Z Bx K1 K2 W none none none none none none none none none W where
  be := Below.refl _ _
  k0 _ h := by cases h
  k1 _ h := by cases h
  k2 _ h := by cases h
  rr _ h := by cases h
  mv _ h := by cases h
  mx _ h := by cases h
  my _ h := by cases h
  zz _ h := by cases h
  sc h := absurd rfl h
  dk _ h := absurd rfl h
  d1 _ h := absurd rfl h
  ss _ h := by cases h
structure Stays (R : (Nat → Prop) → World → Value → Value → Prop) (Bx : World → Nat → Value → Prop) (K1 K2 : (Nat → Prop) → World → Value → Prop) : Prop extends RdP R where
  bx : ∀ {w w' b v}, Bx w b v → Below w.heap.size w w' → Bx w' b v
  s1 : ∀ {S w w' u}, K1 S w u → (∀ k, S k → w'.heap[k]? = w.heap[k]?) → K1 S w' u
  w1 : ∀ {S S' w u}, K1 S w u → (∀ k, S k → S' k) → K1 S' w u
  s2 : ∀ {S w w' u}, K2 S w u → (∀ k, S k → w'.heap[k]? = w.heap[k]?) → K2 S w' u
  w2 : ∀ {S S' w u}, K2 S w u → (∀ k, S k → S' k) → K2 S' w u
theorem CbS.more (hS : Stays R Bx K1 K2) (h : CbS hk C0 E0 R Z Bx K1 K2 W o0 o1 o2 c m x y z s w) (hb : Below w.heap.size w w') : CbS hk C0 E0 R Z Bx K1 K2 W o0 o1 o2 c m x y z s w' where
  be := h.be.trans (hb.mono h.be.size)
  k0 u hu := by
    obtain ⟨g, e, h1, h2⟩ := h.k0 u hu
    exact ⟨g, e, ⟨h1.1, Nat.lt_of_lt_of_le h1.2.1 hb.size, h1.2.2⟩, fun h3 => (hb.block g h1.2.1).trans (h2 h3)⟩
  k1 u hu := hS.w1 (hS.s1 (h.k1 u hu) fun k hk => hb.block k hk.2.1) fun k hk => ⟨hk.1, Nat.lt_of_lt_of_le hk.2.1 hb.size, hk.2.2⟩
  k2 u hu := hS.w2 (hS.s2 (h.k2 u hu) fun k hk => hb.block k hk.1.2.1) fun k hk => ⟨⟨hk.1.1, Nat.lt_of_lt_of_le hk.1.2.1 hb.size, hk.1.2.2⟩, hk.2⟩
  rr u hu := by
    obtain ⟨v, e, e1, h1⟩ := h.rr u hu
    exact ⟨v, e, e1, hS.weak (hS.keep h1 fun k hk => hb.block k hk.1.2.1) fun k hk => ⟨⟨hk.1.1, Nat.lt_of_lt_of_le hk.1.2.1 hb.size, hk.1.2.2⟩, hk.2⟩⟩
  mv := h.mv
  mx := h.mx
  my := h.my
  zz u hu := by
    obtain ⟨b, e, h1, h2, h3⟩ := h.zz u hu
    exact ⟨b, e, h1, Nat.lt_of_lt_of_le h2 hb.size, fun hs => (hb.block b h2).trans (h3 hs)⟩
  sc := h.sc
  dk := h.dk
  d1 := h.d1
  ss u hu := by
    obtain ⟨b, v, e1, e2, h1⟩ := h.ss u hu
    exact ⟨b, v, e1, e2, hS.bx h1 hb⟩
theorem CbS.new (h : CbS hk C0 E0 R Z Bx K1 K2 W o0 o1 o2 c m x y z s w) {w' : World} {g : Nat} (hg : w.heap.size ≤ g ∧ g < w'.heap.size) : newB W z w' g :=
  ⟨Nat.le_trans h.be.size hg.1, hg.2, fun b hz => by
    obtain ⟨b', e', _, h4, _⟩ := h.zz _ hz
    injection e' with e'
    injection e' with e'
    injection e' with e'
    omega⟩
theorem CbS.newOwn (h : CbS hk C0 E0 R Z Bx K1 K2 W o0 o1 o2 c m x y z s w) {w' : World} {g : Nat} (hg : w.heap.size ≤ g ∧ g < w'.heap.size) : newC W o0 z w' g :=
  ⟨h.new hg, fun b n' m' e => by
    obtain ⟨g', e', h1, _⟩ := h.k0 _ e
    injection e' with e'
    injection e' with e'
    injection e' with e'
    have := h1.2.1
    omega⟩
theorem CbS.key (hS : Stays R Bx K1 K2) (h : CbS hk C0 E0 R Z Bx K1 K2 W o0 none o2 c m x y z s w) (hh : hk = false) {u : Value} (hb : Below w.heap.size w w') (hu : K1 (fun g => w.heap.size ≤ g ∧ g < w'.heap.size) w' u) : CbS hk C0 E0 R Z Bx K1 K2 W o0 (some u) o2 c m x y z s w' :=
  { h.more hS hb with
    k0 := fun u' e => by
      obtain ⟨g, e1, h1, _⟩ := (h.more hS hb).k0 u' e
      exact ⟨g, e1, h1, fun e => by cases e⟩
    dk := fun h1 _ => by rw [hh] at h1; cases h1
    d1 := fun h1 _ => by rw [hh] at h1; cases h1
    k1 := fun u' e => by injection e with e; exact e ▸ hS.w1 hu fun g hg => h.new hg }
theorem CbS.key0 (hS : Stays R Bx K1 K2) (h : CbS hk C0 E0 R Z Bx K1 K2 W none o1 o2 c m x y z s w) (hh : hk = true) (hb : Below w.heap.size w w') (hz : w'.heap[w.heap.size]? = some (.cells C0 E0 (0, 0))) : CbS hk C0 E0 R Z Bx K1 K2 W (some (.slice (some ⟨w.heap.size, 0, none⟩) C0.size C0.size)) o1 o2 c m x y z s w' := by
  have h2 := h.more hS hb
  have hn : ∀ k, newC W none z w k → newC W (some (.slice (some ⟨w.heap.size, 0, none⟩) C0.size C0.size)) z w' k := fun k hk => ⟨⟨hk.1.1, Nat.lt_of_lt_of_le hk.1.2.1 hb.size, hk.1.2.2⟩, fun b n m e => by
    injection e with e
    injection e with e
    injection e with e
    injection e with e
    have := hk.1.2.1
    omega⟩
  exact { h2 with
    k0 := fun u hu => by
      injection hu with hu
      exact ⟨_, hu.symm, h.new ⟨Nat.le_refl _, (Array.getElem?_eq_some_iff.1 hz).1⟩, fun _ => hz⟩
    dk := fun _ hc => absurd rfl (h.dk hh hc).1
    d1 := fun _ _ => by simp
    k2 := fun u hu => hS.w2 (hS.s2 (h.k2 u hu) fun k hk => hb.block k hk.1.2.1) hn
    rr := fun u hu => by
      obtain ⟨v, e, e1, h1⟩ := h.rr u hu
      exact ⟨v, e, e1, hS.weak (hS.keep h1 fun k hk => hb.block k hk.1.2.1) hn⟩ }
theorem CbS.conv (hS : Stays R Bx K1 K2) {g : Nat} (h : CbS hk C0 E0 R Z Bx K1 K2 W (some (.slice (some ⟨g, 0, none⟩) C0.size C0.size)) none o2 c m x y z none w) (hg : w.grownBy w' (some g)) (hu : K1 (· = g) w' (.slice (some ⟨g, 0, none⟩) C0.size C0.size)) : CbS hk C0 E0 R Z Bx K1 K2 W (some (.slice (some ⟨g, 0, none⟩) C0.size C0.size)) (some (.slice (some ⟨g, 0, none⟩) C0.size C0.size)) o2 c m x y z none w' := by
  obtain ⟨g', e, h1, _⟩ := h.k0 _ rfl
  injection e with e
  injection e with e
  injection e with e
  subst e
  have hkb : ∀ k, newC W (some (.slice (some ⟨g, 0, none⟩) C0.size C0.size)) z w k → w'.heap[k]? = w.heap[k]? := fun k hk => hg.block k hk.1.2.1 fun e => by injection e with e; exact hk.2 _ _ _ rfl e
  have hsz : ∀ k, newC W (some (.slice (some ⟨g, 0, none⟩) C0.size C0.size)) z w k → newC W (some (.slice (some ⟨g, 0, none⟩) C0.size C0.size)) z w' k := fun k hk => ⟨⟨hk.1.1, Nat.lt_of_lt_of_le hk.1.2.1 hg.size, hk.1.2.2⟩, hk.2⟩
  have hbn : newB W z w' g := ⟨h1.1, Nat.lt_of_lt_of_le h1.2.1 hg.size, h1.2.2⟩
  exact { h with
    be := h.be.grown hg h.be.size fun k e => by injection e with e; have := h1.1; omega
    k0 := fun u hu => by
      injection hu with hu
      exact ⟨g, hu.symm, hbn, fun e => by cases e⟩
    dk := fun h1 hc => ⟨by simp, by simp⟩
    d1 := fun _ _ => by simp
    k1 := fun u hu' => by
      injection hu' with hu'
      exact hu' ▸ hS.w1 hu fun k e => e ▸ hbn
    k2 := fun u hu => hS.w2 (hS.s2 (h.k2 u hu) hkb) hsz
    rr := fun u hu => by
      obtain ⟨v, e, e1, h1⟩ := h.rr u hu
      exact ⟨v, e, e1, hS.weak (hS.keep h1 hkb) hsz⟩
    zz := fun u hu => by
      obtain ⟨b, e, h3, h4, h5⟩ := h.zz u hu
      exact ⟨b, e, h3, Nat.lt_of_lt_of_le h4 hg.size, fun hs => (hg.block b h4 fun e2 => by injection e2 with e2; exact h1.2.2 b (by rw [hu, e]) e2.symm).trans (h5 hs)⟩
    ss := fun u hu => by cases hu }
theorem CbS.vers (hS : Stays R Bx K1 K2) (h : CbS hk C0 E0 R Z Bx K1 K2 W o0 o1 none c m x y z s w) {u : Value} (hb : Below w.heap.size w w') (hu : K2 (fun g => w.heap.size ≤ g ∧ g < w'.heap.size) w' u) : CbS hk C0 E0 R Z Bx K1 K2 W o0 o1 (some u) c m x y z s w' :=
  { h.more hS hb with k2 := fun u' e => by injection e with e; exact e ▸ hS.w2 hu fun g hg => h.newOwn hg }
theorem CbS.call (hS : Stays R Bx K1 K2) (h : CbS hk C0 E0 R Z Bx K1 K2 W o0 o1 o2 none m x y z s w) (hd : hk = true → o1 ≠ none) {v e : Value} (hb : Below w.heap.size w w') (hr : R (fun g => w.heap.size ≤ g ∧ g < w'.heap.size) w' v e) : CbS hk C0 E0 R Z Bx K1 K2 W o0 o1 o2 (some (.tuple #[v, e])) m x y z s w' := by
  have h2 := h.more hS hb
  have hm : m = none := by
    cases hm : m with
    | none => rfl
    | some u => have := h.mv u hm; cases this
  exact { h2 with
    rr := fun u hu => by
      injection hu with hu
      exact ⟨v, e, hu.symm, hS.weak hr fun g hg => h.newOwn hg⟩
    mv := fun u hu => by rw [hm] at hu; cases hu
    sc := fun _ => by simp
    dk := fun h1 _ => ⟨h.d1 h1 (hd h1), hd h1⟩ }
theorem CbS.move {u : Value} (h : CbS hk C0 E0 R Z Bx K1 K2 W o0 o1 o2 (some u) none x y z s w) : CbS hk C0 E0 R Z Bx K1 K2 W o0 o1 o2 (some u) (some u) x y z s w :=
  { h with
    mv := fun _ e => e
    mx := fun u' hu => by obtain ⟨e, h2⟩ := h.mx u' hu; cases h2
    my := fun u' hu => by obtain ⟨e, h2⟩ := h.my u' hu; cases h2 }
theorem CbS.nos {u : Value} (h : CbS hk C0 E0 R Z Bx K1 K2 W (some u) none o2 c m x y z s w) (hh : hk = true) : s = none := by
  cases s with
  | none => rfl
  | some v => exact absurd rfl (h.dk hh (h.sc (by simp))).2
theorem CbS.tup {u : Value} (h : CbS hk C0 E0 R Z Bx K1 K2 W o0 o1 o2 c (some u) x y z s w) : ∃ v e, u = .tuple #[v, e] := by
  obtain ⟨v, e, h1, _⟩ := h.rr u (h.mv u rfl)
  exact ⟨v, e, h1⟩
theorem CbS.ex0 {v e : Value} (h : CbS hk C0 E0 R Z Bx K1 K2 W o0 o1 o2 c (some (.tuple #[v, e])) none y z s w) : CbS hk C0 E0 R Z Bx K1 K2 W o0 o1 o2 c (some (.tuple #[v, e])) (some v) y z s w :=
  { h with
    mx := fun u hu => by injection hu with hu; exact ⟨e, by rw [hu]⟩
    ss := fun u hu => by obtain ⟨b, v', _, e2, _⟩ := h.ss u hu; cases e2 }
theorem CbS.ex1 {v e : Value} (h : CbS hk C0 E0 R Z Bx K1 K2 W o0 o1 o2 c (some (.tuple #[v, e])) x none z s w) : CbS hk C0 E0 R Z Bx K1 K2 W o0 o1 o2 c (some (.tuple #[v, e])) x (some e) z s w :=
  { h with my := fun u hu => by injection hu with hu; exact ⟨v, by rw [hu]⟩ }
theorem CbS.alloc (hS : Stays R Bx K1 K2) (h : CbS hk C0 E0 R Z Bx K1 K2 W o0 o1 o2 c m x y none s w) (hb : Below w.heap.size w w') (hz : w'.heap[w.heap.size]? = some Z) : CbS hk C0 E0 R Z Bx K1 K2 W o0 o1 o2 c m x y (some (.pointer (some ⟨w.heap.size, 0, none⟩))) s w' := by
  have h2 := h.more hS hb
  have hn : ∀ k, newB W none w k → newB W (some (.pointer (some ⟨w.heap.size, 0, none⟩))) w' k := fun k hk => ⟨hk.1, Nat.lt_of_lt_of_le hk.2.1 hb.size, fun b e2 => by
    injection e2 with e2
    injection e2 with e2
    injection e2 with e2
    injection e2 with e2
    have := hk.2.1
    omega⟩
  have hn2 : ∀ k, newC W o0 none w k → newC W o0 (some (.pointer (some ⟨w.heap.size, 0, none⟩))) w' k := fun k hk => ⟨hn k hk.1, hk.2⟩
  exact { h2 with
    k0 := fun u hu => by
      obtain ⟨g, e, h1, h3⟩ := h.k0 u hu
      exact ⟨g, e, hn g h1, fun h4 => (hb.block g h1.2.1).trans (h3 h4)⟩
    k1 := fun u hu => hS.w1 (hS.s1 (h.k1 u hu) fun k hk => hb.block k hk.2.1) hn
    k2 := fun u hu => hS.w2 (hS.s2 (h.k2 u hu) fun k hk => hb.block k hk.1.2.1) hn2
    rr := fun u hu => by
      obtain ⟨v, e, e1, h1⟩ := h.rr u hu
      exact ⟨v, e, e1, hS.weak (hS.keep h1 fun k hk => hb.block k hk.1.2.1) hn2⟩
    zz := fun u hu => by
      injection hu with hu
      exact ⟨_, hu.symm, h.be.size, (Array.getElem?_eq_some_iff.1 hz).1, fun _ => hz⟩
    ss := fun u hu => by obtain ⟨b, v', e1, _, _⟩ := h.ss u hu; cases e1 }
theorem CbS.box {p : Value} (h : CbS hk C0 E0 R Z Bx K1 K2 W o0 o1 o2 c m x y (some p) none w) : ∃ b, p = .pointer (some ⟨b, 0, none⟩) ∧ w.heap[b]? = some Z := by
  obtain ⟨b, e, _, _, h3⟩ := h.zz p rfl
  exact ⟨b, e, h3 rfl⟩
theorem CbS.sto (hS : Stays R Bx K1 K2) {v u : Value} {b : Nat} (h : CbS hk C0 E0 R Z Bx K1 K2 W o0 o1 o2 c m (some v) y (some (.pointer (some ⟨b, 0, none⟩))) none w) (hg : w.grownBy w' (some b)) (hx : Bx w' b v) : CbS hk C0 E0 R Z Bx K1 K2 W o0 o1 o2 c m (some v) y (some (.pointer (some ⟨b, 0, none⟩))) (some u) w' := by
  obtain ⟨b', e, hb1, hb2, _⟩ := h.zz _ rfl
  injection e with e
  injection e with e
  injection e with e
  subst e
  obtain ⟨e0, hm⟩ := h.mx v rfl
  have hc := h.mv _ hm
  have hne : c ≠ none := by rw [hc]; simp
  have hbe : Below W.heap.size W w' := h.be.grown hg h.be.size fun k e => by injection e with e; omega
  have hkb : ∀ k, newB W (some (.pointer (some ⟨b, 0, none⟩))) w k → w'.heap[k]? = w.heap[k]? := fun k hk => hg.block k hk.2.1 fun e2 => by injection e2 with e2; exact hk.2.2 _ rfl e2
  have hsz : ∀ k, newB W (some (.pointer (some ⟨b, 0, none⟩))) w k → newB W (some (.pointer (some ⟨b, 0, none⟩))) w' k := fun k hk => ⟨hk.1, Nat.lt_of_lt_of_le hk.2.1 hg.size, hk.2.2⟩
  exact { h with
    be := hbe
    k0 := fun u hu => by
      obtain ⟨g, e, h1, h3⟩ := h.k0 u hu
      exact ⟨g, e, hsz g h1, fun h4 => (hkb g h1).trans (h3 h4)⟩
    k1 := fun u hu => hS.w1 (hS.s1 (h.k1 u hu) hkb) hsz
    k2 := fun u hu => hS.w2 (hS.s2 (h.k2 u hu) fun k hk => hkb k hk.1) fun k hk => ⟨hsz k hk.1, hk.2⟩
    rr := fun u hu => by
      obtain ⟨v, e, e1, h1⟩ := h.rr u hu
      exact ⟨v, e, e1, hS.weak (hS.keep h1 fun k hk => hkb k hk.1) fun k hk => ⟨hsz k hk.1, hk.2⟩⟩
    zz := fun u hu => by
      injection hu with hu
      exact ⟨b, hu.symm, hb1, Nat.lt_of_lt_of_le hb2 hg.size, fun e => by cases e⟩
    sc := fun _ => hne
    ss := fun _ _ => ⟨b, v, rfl, rfl, hx⟩ }
theorem CbS.done (hR : RdP R) {u1 u2 u3 u4 u5 : Value} (h : CbS hk C0 E0 R Z Bx K1 K2 W o0 o1 o2 (some u1) (some u2) (some u3) (some u4) (some u5) s w) (hs : s ≠ none) : ∃ b, u5 = .pointer (some ⟨b, 0, none⟩) ∧ u2 = .tuple #[u3, u4] ∧ u1 = .tuple #[u3, u4] ∧ W.heap.size ≤ b ∧ Bx w b u3 ∧ R (fun g => W.heap.size ≤ g ∧ g < w.heap.size ∧ g ≠ b) w u3 u4 ∧ Below W.heap.size W w := by
  obtain ⟨u, rfl⟩ := Option.ne_none_iff_exists'.1 hs
  obtain ⟨b, v, e1, e2, h1⟩ := h.ss u rfl
  obtain ⟨e, h2⟩ := h.mx u3 rfl
  obtain ⟨e', h3⟩ := h.my u4 rfl
  have h4 := h.mv _ h2
  injection e1 with e1
  injection e2 with e2
  injection h2 with h2
  injection h3 with h3
  subst e1 e2
  rw [h2] at h3
  injection h3 with h3
  injection h3 with h3
  injection h3 with e5 h3
  injection h3 with e6 _
  subst e5 e6 h2
  injection h4 with h4
  subst h4
  obtain ⟨v', e', e7, h5⟩ := h.rr _ rfl
  injection e7 with e7
  injection e7 with e7
  injection e7 with e8 e7
  injection e7 with e9 _
  subst e8 e9
  obtain ⟨b', e, hb1, _, _⟩ := h.zz _ rfl
  injection e with e
  injection e with e
  injection e with e
  subst e
  exact ⟨b, rfl, rfl, rfl, hb1, h1, hR.weak h5 fun k hk => ⟨hk.1.1, hk.1.2.1, hk.1.2.2 _ rfl⟩, h.be⟩
def CbL (C0 : Array Value) (E0 : TypeId) (R : (Nat → Prop) → World → Value → Value → Prop) (Z : Obj) (Bx : World → Nat → Value → Prop) (K1 K2 : (Nat → Prop) → World → Value → Prop) (W : World) : List (Option Value) → World → Prop
  | [c, m, x, y, z, s], w => CbS false C0 E0 R Z Bx K1 K2 W none none none c m x y z s w
  | [o0, o1, o2, c, m, x, y, z, s], w => CbS true C0 E0 R Z Bx K1 K2 W o0 o1 o2 c m x y z s w
  | _, _ => False
def CbK (C0 : Array Value) (E0 : TypeId) (R : (Nat → Prop) → World → Value → Value → Prop) (Z : Obj) (Bx : World → Nat → Value → Prop) (K1 K2 : (Nat → Prop) → World → Value → Prop) (W : World) : List (Option Value) → World → Prop
  | [o1, c, m, x, y, z, s], w => CbS false C0 E0 R Z Bx K1 K2 W none o1 none c m x y z s w
  | [o1, o2, c, m, x, y, z, s], w => CbS false C0 E0 R Z Bx K1 K2 W none o1 o2 c m x y z s w
  | _, _ => False
def CbV (C0 : Array Value) (E0 : TypeId) (R : (Nat → Prop) → World → Value → Value → Prop) (Z : Obj) (Bx : World → Nat → Value → Prop) (K1 K2 : (Nat → Prop) → World → Value → Prop) (W : World) : List (Option Value) → World → Prop
  | [o2, c, m, x, y, z, s], w => CbS false C0 E0 R Z Bx K1 K2 W none none o2 c m x y z s w
  | _, _ => False
theorem CbL.below : ∀ {l : List (Option Value)} {w : World}, CbL C0 E0 R Z Bx K1 K2 W l w → Below W.heap.size W w
  | [_, _, _, _, _, _], _, h => CbS.be h
  | [_, _, _, _, _, _, _, _, _], _, h => CbS.be h
theorem CbL.more (hS : Stays R Bx K1 K2) : ∀ (l : List (Option Value)) (w w' : World), CbL C0 E0 R Z Bx K1 K2 W l w → Below w.heap.size w w' → CbL C0 E0 R Z Bx K1 K2 W l w'
  | [_, _, _, _, _, _], _, _, h, hb => CbS.more hS h hb
  | [_, _, _, _, _, _, _, _, _], _, _, h, hb => CbS.more hS h hb
theorem CbK.below : ∀ {l : List (Option Value)} {w : World}, CbK C0 E0 R Z Bx K1 K2 W l w → Below W.heap.size W w
  | [_, _, _, _, _, _, _], _, h => CbS.be h
  | [_, _, _, _, _, _, _, _], _, h => CbS.be h
theorem CbK.more (hS : Stays R Bx K1 K2) : ∀ (l : List (Option Value)) (w w' : World), CbK C0 E0 R Z Bx K1 K2 W l w → Below w.heap.size w w' → CbK C0 E0 R Z Bx K1 K2 W l w'
  | [_, _, _, _, _, _, _], _, _, h, hb => CbS.more hS h hb
  | [_, _, _, _, _, _, _, _], _, _, h, hb => CbS.more hS h hb
theorem CbV.below : ∀ {l : List (Option Value)} {w : World}, CbV C0 E0 R Z Bx K1 K2 W l w → Below W.heap.size W w
  | [_, _, _, _, _, _, _], _, h => CbS.be h
theorem CbV.more (hS : Stays R Bx K1 K2) : ∀ (l : List (Option Value)) (w w' : World), CbV C0 E0 R Z Bx K1 K2 W l w → Below w.heap.size w w' → CbV C0 E0 R Z Bx K1 K2 W l w'
  | [_, _, _, _, _, _, _], _, _, h, hb => CbS.more hS h hb
end
def NodeR (Q : Nd → Nat → Prop) (S : Nat → Prop) (w : World) (v e : Value) : Prop := ∃ n er, e = .int .i64 (er : Nat) ∧ Q n er ∧ RdN S w v n
def NodeB (w : World) (b : Nat) (v : Value) : Prop := ∃ x y z, v = .agg #[x, y, z] ∧ TriV w b 28 x y z
theorem nodeR (Q : Nd → Nat → Prop) : RdP (NodeR Q) where
  keep := fun ⟨n, er, e, hq, h⟩ hk => ⟨n, er, e, hq, h.keep hk⟩
  weak := fun ⟨n, er, e, hq, h⟩ hk => ⟨n, er, e, hq, h.weak hk⟩
def KeyW (k : List UInt8) (S : Nat → Prop) (w : World) (u : Value) : Prop := ∃ a c, u = .slice a k.length c ∧ RdS S w (.slice a k.length c) k
def VerW (l : List Ver) (S : Nat → Prop) (w : World) (u : Value) : Prop := ∃ a c, u = .slice a l.length c ∧ RdL Elt.ver S w (.slice a l.length c) l
theorem stays (Q : Nd → Nat → Prop) (k : List UInt8) (l : List Ver) : Stays (NodeR Q) NodeB (KeyW k) (VerW l) where
  toRdP := nodeR Q
  bx := fun ⟨x, y, z, e, h⟩ hb => ⟨x, y, z, e, h.below hb h.lt⟩
  s1 := fun ⟨a, c, e, h⟩ hb => ⟨a, c, e, h.keep hb⟩
  w1 := fun ⟨a, c, e, h⟩ hb => ⟨a, c, e, h.weak hb⟩
  s2 := fun ⟨a, c, e, h⟩ hb => ⟨a, c, e, h.keep hb⟩
  w2 := fun ⟨a, c, e, h⟩ hb => ⟨a, c, e, h.weak hb⟩
theorem CbS.err {hk : Bool} {C0 : Array Value} {E0 : TypeId} {Q : Nd → Nat → Prop} {Z : Obj} {Bx : World → Nat → Value → Prop} {K1 K2 : (Nat → Prop) → World → Value → Prop} {W w : World} {o0 o1 o2 c m x z s : Option Value} {u : Value} {e0 : Nat}
    (h : CbS hk C0 E0 (NodeR Q) Z Bx K1 K2 W o0 o1 o2 c m x (some u) z s w) (hq : ∀ n er, Q n er → er = e0) : u = .int .i64 (e0 : Nat) := by
  obtain ⟨v, e1⟩ := h.my u rfl
  obtain ⟨v', e', e2, n, er, e3, hQ, _⟩ := h.rr _ (h.mv _ e1)
  injection e2 with e2
  injection e2 with e2
  injection e2 with _ e2
  injection e2 with e2 _
  rw [e2, e3, hq n er hQ]
section
variable {P : Program} {T E S : TypeId} {o : Oper} {a : Act} {K : Act → World → Prop} {Q : Exit → Act → World → Prop} {w : World}
theorem wp_litX (hP : ByP P T E S) {n : Nat} {parts : Array (Nat × Operand)} (ho : o.op = .buildSlice T n parts) (xs : List UInt8) (hn : n = xs.length) (hv : litB parts.toList xs 0 = true) (hs : xs.length ≤ 16777216)
    (h : K (a.put o.dst (.slice (some ⟨w.heap.size, 0, none⟩) xs.length xs.length)) (w.alloc (.cells (bv xs).toArray E))) : o.wp P a w K Q := by
  subst hn
  have hrun := run_build hP w xs hs
  have hq : (parts.map fun p => (p.1, a.eval p.2)) = ((bv xs).zipIdx.map fun p => (p.2, p.1)).toArray := by
    rw [← litB_eq a parts.toList xs 0 hv]
    apply Array.ext'
    simp
  unfold Oper.wp execOp
  simp only [ho, hq, Sem.run_bind, Sem.run_pure, Result.andThen_ok, hrun]
  exact h
theorem wp_convX (hP : ByP P T E S) {x : Operand} (ho : o.op = .convert T T x) {g n c : Nat} (hx : a.eval x = .slice (some ⟨g, 0, none⟩) n c) {C : Array Value} (hg : w.heap[g]? = some (.cells C E (0, 0)))
    (h : ∀ w', w.grownBy w' (some g) → w'.heap[g]? = some (.cells C E (C.size, C.size + 1)) → K (a.put o.dst (.slice (some ⟨g, 0, none⟩) n c)) w') : o.wp P a w K Q := by
  have hsh : w.shape? g = some (E, C.size) := by unfold World.shape?; rw [hg]
  have hrun : (convert T T (.slice (some ⟨g, 0, none⟩) n c)).run P w = .ok (.slice (some ⟨g, 0, none⟩) n c) (w.freeze ⟨g, C.size, none⟩ 1) := by
    simp [convert, run_underlying hP.hT, run_underlying hP.hE, markStringish, hsh]
  have hlt := (Array.getElem?_eq_some_iff.1 hg).1
  have hG : w.grownBy (w.freeze ⟨g, C.size, none⟩ 1) (some g) := by
    unfold World.freeze
    rw [if_neg (by decide)]
    exact ⟨rfl, rfl, rfl, by simp, fun k _ hk => by
      have hkg : g ≠ k := fun e => hk (by rw [e])
      simp [Array.getElem?_modify, hkg]⟩
  have hH : (w.freeze ⟨g, C.size, none⟩ 1).heap[g]? = some (.cells C E (C.size, C.size + 1)) := by
    unfold World.freeze
    rw [if_neg (by decide)]
    simp [Array.getElem?_modify, hg]
  unfold Oper.wp execOp
  simp only [ho, hx, Sem.run_bind, Sem.run_pure, Result.andThen_ok, hrun]
  exact h _ hG hH
end
theorem rdS_of_row {w : World} {g : Nat} {k : List UInt8} {E : TypeId} {fr : Nat × Nat} (h : w.heap[g]? = some (.cells (bv k).toArray E fr)) (hl : k.length ≤ 1000000) : RdS (· = g) w (.slice (some ⟨g, 0, none⟩) k.length k.length) k :=
  .inr ⟨g, 0, k.length, rfl, rfl, Nat.le_refl _, by unfold maxLen; omega, fun j u hj => by
    rw [Nat.zero_add, World.cell?, h]
    simpa using hj⟩
end Go.Proofs.Yticngbgjfdcnhaa
