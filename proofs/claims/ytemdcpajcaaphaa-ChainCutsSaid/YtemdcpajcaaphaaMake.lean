/-
  LAWS ON SLICES OF BYTES, GOING ON: 'make' of noughts; a byte stored into a slice that is the call's own. Over whatever program; no condition beyond each theorem's own.
-/
import Derived.Laws.OwnMore
import Derived.Laws.MakeOwn
import Derived.Test.YtemdcpajcaaphaaByte
namespace Go.Proofs.Ytemdcpajcaaphaa
open Go.RowKit

section
variable {P : Program} {T E S : TypeId} {ops : Array Oper} {rest : List Oper} {o : Oper} {a : Act} {Q : Exit → Act → World → Prop} {w : World}

theorem bv_replicate (n : Nat) : bv (List.replicate n 0) = List.replicate n (.int .u8 0) := by simp [bv]

/-- 'make([]byte, n)'. -/
theorem wpList_makeN (hP : ByP P T E S) {x y : Operand} (ho : o.op = .makeSlice T x y) (hgd : Region.wanted o (yielded ops a.tmps) = true) {k : Nat} {i : Int} {kl kc : IntKind} (hx : a.eval x = .int kl i) (hy : a.eval y = .int kc i)
    (h : ∀ g w', Fresh E w w' (.slice (some ⟨g, 0, none⟩) k k) (List.replicate k 0) → wpList P ops Q rest (a.put o.dst (.slice (some ⟨g, 0, none⟩) k k)) w') (hik : i = (k : Int)) (hk : k ≤ 1073741824) : wpList P ops Q (o :: rest) a w := by
  subst hik
  refine BigFrame.wpList_want hgd fun K hK => ?_
  obtain ⟨i, hi, hz, hsz, hby⟩ := hP.info
  obtain ⟨w', hrun, h2, h3⟩ := run_make_full (P := P) w w.heap.size T E i (.int .u8 0) 1 hP.hT hi hz hsz kl kc k (by rw [hby]; omega) (by unfold maxLen; omega) (Nat.le_refl _)
  unfold Oper.wp execOp
  simp only [ho, hx, hy, Sem.run_bind, Sem.run_pure, Result.andThen_ok, hrun]
  refine hK _ _ (h _ _ ⟨(Below.refl _ w).grown h3 (Nat.le_refl _) (fun k hk => by cases hk), k, ?_⟩)
  have e : (madeCells (Value.cells (.int .u8 0)) (k * 1)).toList = bv (List.replicate k 0) := by
    rw [bv_replicate]
    show (madeCells #[.int .u8 0] (k * 1)).toList = _
    rw [toList_madeCells_one, Nat.mul_one]
  rw [← e]
  exact h2
end

section
variable {E : TypeId} {base : Nat} {w : World} {v : Value} {xs : List UInt8}
/-- A slice of the call's own that holds a byte: its block, its cells, and what it holds behind a store. -/
theorem Own.some (h : Own E base w v xs) (hne : 0 < xs.length) : ∃ g cap, v = .slice (some ⟨g, 0, none⟩) xs.length cap ∧ base ≤ g ∧ g < w.heap.size ∧ xs.length ≤ cap ∧ cap ≤ maxLen ∧
    (∀ k, w.frozen? ⟨g, k, none⟩ = false) ∧ (∀ k (hk : k < xs.length), w.cell? ⟨g, k, none⟩ = some (.int .u8 (xs[k].toNat : Int))) ∧
    ∀ (k : Nat) (b : UInt8), k < xs.length → Own E base (w.setCell ⟨g, k, none⟩ (.int .u8 (b.toNat : Int))) (.slice (some ⟨g, 0, none⟩) xs.length cap) (xs.set k b) := by
  obtain ⟨n, h⟩ := h
  obtain rfl := own_n h
  have hx := h
  rcases h.2 with ⟨rfl, h0⟩ | ⟨g, cap, cur, rfl, hb, hg, hn, hc, hcs, ht⟩
  · omega
  · refine ⟨g, cap, rfl, hb, (Array.getElem?_eq_some_iff.1 hg).1, hn, hc, fun k => by simp [World.frozen?, hg], fun k hk => ?_, fun k b hk => ⟨xs.length, by simp [bv], .inr ⟨g, cap, cur.setIfInBounds k (.int .u8 (b.toNat : Int)), rfl, hb, ?_, hn, hc, by simp [hcs], ?_⟩⟩⟩
    · have := hx.cells (g := g) rfl k (.int .u8 (xs[k].toNat : Int)) (by simp [bv, hk])
      simpa [Addr.add_lit] using this
    · simp [World.setCell, Array.getElem?_modify, hg]
    · simp only [Array.toList_setIfInBounds]
      rw [List.take_set, ht]
      simp [bv, List.map_set]
end
end Go.Proofs.Ytemdcpajcaaphaa
