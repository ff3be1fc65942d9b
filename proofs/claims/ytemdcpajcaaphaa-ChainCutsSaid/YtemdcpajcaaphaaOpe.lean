/-
  A LAW's PARAMETER THAT IS A LIST, OR A STRUCT, OF WHATEVER ELEMENTS, OPENED. Over whatever program; no condition beyond each theorem's own.
-/
import Derived.ChangeSame
import Derived.ChangeSlices
import Derived.OpenShut
import Derived.Deep.Slices
import Derived.Deep.Strs
import Derived.WalkKit
import Derived.ProofKit
import Derived.Test.YtemdcpajcaaphaaRow
import Derived.Test.YtemdcpajcaaphaaElt
namespace Go.Proofs.Ytemdcpajcaaphaa
open Go.ChangeShapes Go.WideShapes Go.ChangeAt Go.RowKit Go.Deep
/-- Whatever cells the model reads as of this type are such an element. -/
def Opens {α : Type} (P : Program) (t : TypeId) (E : Elt α) : Prop :=
  ∀ {H : Type} {enc : TypeId × Value → H} {w : World} {base : Nat} {held : Bool} {fuel : Nat} {cs : List Value} {x : DataW H × List MemPlace}, DataW.trod enc P w base (fun _ => true) held fuel t cs = some x → ∃ d, E.R (· < w.heap.size) w d cs
theorem choose_list {α : Type} {p : Nat → α → Prop} : ∀ n, (∀ i, i < n → ∃ d, p i d) → ∃ l : List α, l.length = n ∧ ∀ i (h : i < l.length), p i l[i]
  | 0, _ => ⟨[], rfl, fun i h => absurd h (Nat.not_lt_zero _)⟩
  | n + 1, h => by
    obtain ⟨l, hl, hp⟩ := choose_list n (fun i hi => h i (by omega))
    obtain ⟨d, hd⟩ := h n (Nat.lt_succ_self n)
    refine ⟨l ++ [d], by simp [hl], fun i hi => ?_⟩
    rcases Nat.lt_or_ge i l.length with h1 | h1
    · rw [List.getElem_append_left h1]; exact hp i h1
    · rw [List.length_append] at hi
      simp only [List.length_cons, List.length_nil] at hi
      obtain rfl : i = l.length := by omega
      rw [List.getElem_append_right (Nat.le_refl _)]
      simp only [Nat.sub_self, List.getElem_cons_zero]
      rw [hl]; exact hd
section
variable {P : Program} {t e : TypeId}
theorem Opens.bytes (ht : P.underlying t = some (.slice e)) (he : P.underlying e = some (.int .u8)) (hc : P.cellsOf e = 1) : Opens P t Elt.bytes := by
  intro H enc w base held fuel cs x h
  rcases open_ints ht he hc h with ⟨hcs, _⟩ | ⟨x, l, c, zs, hcs, _, hl, hm, hz, _, hcell, hwz⟩
  · exact ⟨_, _, hcs, (Rd.of_row (.inl ⟨rfl, rfl, rfl, rfl⟩)).s⟩
  · exact ⟨_, _, hcs, (Rd.of_row (.inr ⟨_, rfl, hl, hm, by simpa using hz, hcell, hwz⟩)).s⟩
theorem Opens.list {α : Type} {E : Elt α} (ht : P.underlying t = some (.slice e)) (hc : P.cellsOf e = E.size) (hE : Opens P e E) : Opens P t (Elt.list E) := by
  intro H enc w base held fuel cs x h
  rcases open_slice ht h with ⟨rfl, _⟩ | ⟨a, len, cap, m, n, D, Pl, rfl, hb, hl, hm, hmm, _, hi⟩
  · exact ⟨[], _, rfl, RdL.nil _ _ _⟩
  · have hlm : len ≤ m := by rw [hmm]; split <;> omega
    obtain ⟨l, hll, hp⟩ := choose_list (p := fun i d => ∃ cs', E.R (· < w.heap.size) w d cs' ∧ ∀ j, j < cs'.length → w.cell? (a.add (i * E.size + j)) = cs'[j]?) len (fun i hil => by
      obtain ⟨cs', h1, h2⟩ := hi i (by omega)
      obtain ⟨d, hd⟩ := hE h2
      obtain ⟨_, hcl, hat⟩ := World.cells?_some h1
      refine ⟨d, cs', hd, fun j hj => ?_⟩
      have := hat j (by omega)
      rw [add_add, hc] at this
      exact this)
    refine ⟨l, _, rfl, ?_⟩
    rw [← hll] at hl ⊢
    refine ⟨some a, cap, rfl, hl, hm, ?_⟩
    rcases Nat.eq_zero_or_pos l.length with h0 | h0
    · exact .inl (List.eq_nil_of_length_eq_zero h0)
    · obtain ⟨cs0, hR0, hc0⟩ := hp 0 h0
      have hl0 := E.len hR0
      have hpos := E.pos
      have hcell := hc0 0 (by omega)
      rw [List.getElem?_eq_getElem (by omega)] at hcell
      obtain ⟨b, off, spot⟩ := a
      have hspot : spot = none := by simpa [Addr.add] using World.cell?_spot hcell
      subst hspot
      have hblt := World.block_lt_of_cell? w _ hcell
      refine .inr ⟨b, off, rfl, by simpa [Addr.add_lit] using hblt, fun r hr => ?_⟩
      obtain ⟨cs', hR, hcs⟩ := hp r hr
      refine ⟨cs', hR, fun j u hj => ?_⟩
      have := hcs j (List.getElem?_eq_some_iff.1 hj).1
      rw [hj, Addr.add_lit, ← Nat.add_assoc] at this
      exact this
/-- A list, by its value. -/
theorem Opens.rdL {α : Type} {E : Elt α} (hO : Opens P t (Elt.list E)) {H : Type} {enc : TypeId × Value → H} {w : World} {base : Nat} {held : Bool} {fuel : Nat} {a : Option Addr} {n c : Nat} {x : DataW H × List MemPlace}
    (h : DataW.trod enc P w base (fun _ => true) held fuel t [.slice a n c] = some x) : ∃ xs, RdL E (· < w.heap.size) w (.slice a n c) xs := by
  obtain ⟨d, v, hv, hR⟩ := hO h
  cases hv
  exact ⟨d, hR⟩
end
end Go.Proofs.Ytemdcpajcaaphaa
