/-
  A SLICE OF SLICES OF BYTES THAT CAME IN, AS THE FRAME OF A LAW's PROOF OPENS IT, READS AS A LIST OF BYTES' LISTS. No condition beyond the theorem's own.
-/
import Derived.Deep.Matrix
import Derived.Test.YtemdcpajcaaphaaRow
namespace Go.Proofs.Ytemdcpajcaaphaa
open Go.RowKit Go.Deep Go.ChangeShapes Go.WideShapes

/-- The value reads as these lists of bytes. -/
def RdRows (w : World) (v : Value) (xss : List (List UInt8)) : Prop :=
  ∃ a cap, v = .slice a xss.length cap ∧ xss.length ≤ cap ∧ cap ≤ maxLen ∧ (xss = [] ∨ ∃ b off, a = some ⟨b, off, none⟩ ∧ b < w.heap.size ∧
    ∀ r (h : r < xss.length), ∃ A L C, w.cell? ⟨b, off + r, none⟩ = some (.slice A L C) ∧ Rd w.heap.size w (.slice A L C) xss[r])

theorem RdRows.len {w : World} {a : Option Addr} {n c : Nat} {xss : List (List UInt8)} (h : RdRows w (.slice a n c) xss) : n = xss.length ∧ n ≤ c ∧ c ≤ maxLen := by
  obtain ⟨a', cap, hv, h1, h2, _⟩ := h
  cases hv
  exact ⟨rfl, h1, h2⟩
/-- The row at a place, in whatever world that has what was. -/
theorem RdRows.at {w w' : World} {a : Option Addr} {n c : Nat} {xss : List (List UInt8)} (h : RdRows w (.slice a n c) xss) (hb : Below w.heap.size w w') (r : Nat) (hr : r < xss.length) :
    ∃ b off A L C, a = some ⟨b, off, none⟩ ∧ b < w.heap.size ∧ w'.cell? ⟨b, off + r, none⟩ = some (.slice A L C) ∧ Rd w.heap.size w' (.slice A L C) xss[r] := by
  obtain ⟨a', cap, hv, _, _, hx⟩ := h
  cases hv
  rcases hx with rfl | ⟨b, off, rfl, hB, hx⟩
  · exact absurd hr (Nat.not_lt_zero _)
  · obtain ⟨A, L, C, h1, h2⟩ := hx r hr
    exact ⟨b, off, A, L, C, rfl, hB, (hb.cell (p := ⟨b, off + r, none⟩) hB).trans h1, h2.below hb⟩

section
variable {H : Type} {enc : TypeId × Value → H} {P : Program} {w : World} {base : Nat} {held : Bool}
theorem RdRows.open_any {t e q : TypeId} {fuel : Nat} {a : Option Addr} {len cap : Nat} {x : DataW H × List MemPlace} (ht : P.underlying t = some (.slice e)) (he : P.underlying e = some (.slice q)) (hq : P.underlying q = some (.int .u8))
    (ce : P.cellsOf e = 1) (cq : P.cellsOf q = 1) (h : DataW.trod enc P w base (fun _ => true) held fuel t (Value.slice a len cap).cells.toList = some x) : ∃ xss, RdRows w (.slice a len cap) xss := by
  rcases open_int_rows ht he hq ce cq h with ⟨hcs, _⟩ | ⟨p, len', cap', A, L, C, Z, hcs, _, hl, hm, _, hrows⟩
  · simp [Value.cells] at hcs
    obtain ⟨rfl, rfl, rfl⟩ := hcs
    exact ⟨[], none, 0, rfl, Nat.le_refl _, by unfold maxLen; omega, .inl rfl⟩
  · simp [Value.cells] at hcs
    obtain ⟨rfl, rfl, rfl⟩ := hcs
    refine ⟨(List.range len).map fun r => ((Z r).take (L r)).map fun n => UInt8.ofNat n.toNat, some p, cap, by simp, by simpa using hl, hm, ?_⟩
    by_cases h0 : len = 0
    · subst h0; exact .inl rfl
    · refine .inr ?_
      obtain ⟨b, off, spot⟩ := p
      have h1 := (hrows 0 (by omega)).1
      have hspot : spot = none := by simpa [Addr.add] using World.cell?_spot h1
      subst hspot
      have hb := World.block_lt_of_cell? w _ h1
      refine ⟨b, off, rfl, by simpa [Addr.add] using hb, fun r hr => ?_⟩
      have hr' : r < len := by simpa using hr
      obtain ⟨e1, e2, e3, e4, e5, e6, e7⟩ := hrows r (by omega)
      refine ⟨A r, L r, C r, by rw [Addr.add_lit] at e1; exact e1, ?_⟩
      simp only [List.getElem_map, List.getElem_range]
      refine Rd.of_row ?_
      cases hA : A r with
      | none =>
        have hc := e6 hA
        refine .inl ⟨rfl, by omega, hc, List.eq_nil_of_length_eq_zero (by omega)⟩
      | some a' =>
        obtain ⟨_, e8⟩ := e7 a' hA
        exact .inr ⟨a', rfl, e2, e3, e4, fun i hi => e8 i (by omega), e5⟩
end
end Go.Proofs.Ytemdcpajcaaphaa
