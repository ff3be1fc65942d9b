/-
  TEXTS OF ONE PROOF, merged: TrbJ.
-/
import Derived.Test.YticngbgjfdcnhaaMg13
namespace Go.Proofs.Yticngbgjfdcnhaa
open Go.RowKit
theorem one_okV (st : Int) : okV (oneV st) ↔ 1 ≤ st ∧ st < 2147483648 := by
  constructor
  · intro h
    have h1 := (h 0 (by simp [oneV])).1
    exact ⟨h1.1, h1.2.1⟩
  · intro h r hr
    obtain rfl : r = 0 := by simp [oneV] at hr; omega
    exact ⟨⟨h.1, h.2, by simp [oneV], fun _ => rfl⟩, fun h => absurd h (Nat.lt_irrefl _)⟩
section
variable {P : Program} {o : Oper} {a : Act} {K : Act → World → Prop} {Q : Exit → Act → World → Prop} {w : World}
theorem wp_convU8 {t t2 : TypeId} {x : Operand} {n : Int} (ho : o.op = .convert t t2 x) (h1 : P.underlying t = some (.int .u8)) (h2 : P.underlying t2 = some (.int .i64)) (hx : a.eval x = .int .u8 n) (h0 : 0 ≤ n) (hn : n ≤ 255) (h : K (a.put o.dst (.int .i64 n)) w) : o.wp P a w K Q := by
  refine wp_run ?_ h
  simp only [execOp, ho, hx]
  simp [convert, run_underlying h1, run_underlying h2, go_sem, IntWalk.i64_in n ⟨by omega, by omega⟩]
end
end Go.Proofs.Yticngbgjfdcnhaa
