/-
  A LAW's PARAMETER THAT IS A STRUCT OF A []byte AND AN int (api.Log), OPENED; one that is []uint16, too. Over whatever program; no condition beyond each theorem's own.
-/
import Derived.ChangeSame
import Derived.ChangeSlices
import Derived.OpenShut
import Derived.WalkKit
import Derived.ProofKit
import Derived.Test.YtebilecgmblmfaaRow
namespace Go.Proofs.Ytebilecgmblmfaa
open Go.ChangeShapes Go.WideShapes Go.ChangeAt Go.RowKit
section
variable {H : Type} {enc : TypeId × Value → H} {P : Program} {w : World} {base : Nat} {held : Bool}
theorem open_log {t te tb ti : TypeId} {f0 f1 : Field} {fuel : Nat} {cs : List Value} {x : DataW H × List MemPlace} (ht : P.underlying t = some (.struct #[f0, f1])) (h0 : f0.type = tb ∧ f0.offset = 0) (h1 : f1.type = ti ∧ f1.offset = 1)
    (hb : P.underlying tb = some (.slice te)) (he : P.underlying te = some (.int .u8)) (hi : P.underlying ti = some (.int .i64)) (c0 : P.cellsOf tb = 1) (c1 : P.cellsOf ti = 1) (ce : P.cellsOf te = 1) (c2 : P.cellsOf t = 2)
    (h : DataW.trod enc P w base (fun _ => true) held fuel t cs = some x) : ∃ a n c s xs, cs = [.slice a n c, .int .i64 s] ∧ Rd w.heap.size w (.slice a n c) xs ∧ (Lit.int .i64 s).wf = true := by
  obtain ⟨y0, y1, m, rfl, hl, hy0, hy1⟩ := trod_struct2 ht h
  rw [h0.1, h0.2, c0] at hy0
  rw [h1.1, h1.2, c1] at hy1
  rw [c2] at hl
  match cs, hl with
  | [u, v], _ =>
    simp at hy0 hy1
    obtain ⟨s, hcs1, _, ws⟩ := DataW.trod_int hi hy1
    simp at hcs1
    subst hcs1
    rcases open_ints hb he ce hy0 with ⟨hcs, _⟩ | ⟨x, l, c, zs, hcs, _, hl, hm, hz, _, hcell, hwz⟩
    · simp at hcs
      subst hcs
      exact ⟨none, 0, 0, s, _, rfl, Rd.of_row (zs := []) (.inl ⟨rfl, rfl, rfl, rfl⟩), ws⟩
    · simp at hcs
      subst hcs
      exact ⟨_, _, _, s, _, rfl, Rd.of_row (.inr ⟨_, rfl, hl, hm, by simpa using hz, hcell, hwz⟩), ws⟩
/-- A []uint16. -/
def U16s (w : World) (v : Value) (zs : List Int) : Prop := (∃ a c, v = .slice a zs.length c ∧ zs.length ≤ c ∧ c ≤ maxLen ∧ (zs = [] ∨ ∃ b off, a = some ⟨b, off, none⟩ ∧ b < w.heap.size ∧ ∀ i z, zs[i]? = some z → w.cell? ⟨b, off + i, none⟩ = some (.int .u16 z))) ∧ ∀ z ∈ zs, 0 ≤ z ∧ z ≤ 65535
theorem open_u16s {t te : TypeId} {fuel : Nat} {cs : List Value} {x : DataW H × List MemPlace} (ht : P.underlying t = some (.slice te)) (he : P.underlying te = some (.int .u16)) (ce : P.cellsOf te = 1)
    (h : DataW.trod enc P w base (fun _ => true) held fuel t cs = some x) : ∃ a n c zs, cs = [.slice a n c] ∧ U16s w (.slice a n c) zs := by
  rcases open_ints ht he ce h with ⟨hcs, _⟩ | ⟨p, l, c, zs, hcs, _, hl, hm, hz, _, hcell, hwz⟩
  · exact ⟨none, 0, 0, [], hcs, ⟨none, 0, rfl, Nat.le_refl _, by unfold maxLen; omega, .inl rfl⟩, fun z h => by simp at h⟩
  · have hz' : zs.length = c := by simpa using hz
    have hln : (zs.take l).length = l := by rw [List.length_take]; omega
    refine ⟨some p, l, c, zs.take l, hcs, ⟨some p, c, by rw [hln], by omega, hm, ?_⟩, fun z h => ?_⟩
    · rcases Nat.eq_zero_or_pos l with h0 | h0
      · exact .inl (List.eq_nil_of_length_eq_zero (by omega))
      · refine .inr ?_
        have h1 := hcell 0 (by omega)
        obtain ⟨b, off, spot⟩ := p
        have hspot : spot = none := by simpa [Addr.add] using World.cell?_spot h1
        subst hspot
        have hb := World.block_lt_of_cell? w _ h1
        refine ⟨b, off, rfl, by simpa [Addr.add] using hb, fun i z hi => ?_⟩
        have hil : i < l := by
          rcases Nat.lt_or_ge i l with h | h
          · exact h
          · rw [List.getElem?_eq_none (by omega)] at hi; cases hi
        have h2 := hcell i (by omega)
        rw [Addr.add_lit] at h2
        rw [h2]
        rw [List.getElem?_take_of_lt hil] at hi
        simp [List.getD_eq_getElem?_getD, hi]
    · have := hwz z (List.mem_of_mem_take h)
      simp [Lit.wf, IntKind.min, IntKind.max, IntKind.signed, IntKind.bits] at this
      omega
end
end Go.Proofs.Ytebilecgmblmfaa
