/-
  TEXTS OF ONE PROOF, merged: TrbJ.
-/
import Derived.Test.YtdegjkfjaklkjaaProg
import Derived.WalkKit
import Derived.Test.YtdegjkfjaklkjaaMe1
import Derived.Test.YtdegjkfjaklkjaaMe2
import Derived.Test.YtdegjkfjaklkjaaMe3
import Derived.Test.YtdegjkfjaklkjaaMe12
import Derived.Test.YtdegjkfjaklkjaaMe13
namespace Go.Proofs.Ytdegjkfjaklkjaa
open Go.RowKit
def sgVP (l : List Pr) : SG := ⟨fun w v => ∃ a k c, v = .slice a k c ∧ RdL Elt.pair (fun _ => True) w (.slice a k c) l, fun _ _ _ ⟨a, k, c, e, h⟩ hb => ⟨a, k, c, e, h.below hb⟩⟩
theorem one_okV (st : Int) : okV (oneV st) ↔ 1 ≤ st ∧ st < 2147483648 := by
  constructor
  · intro h
    have h1 := (h 0 (by simp [oneV])).1
    exact ⟨h1.1, h1.2.1⟩
  · intro h r hr
    obtain rfl : r = 0 := by simp [oneV] at hr; omega
    exact ⟨⟨h.1, h.2, by simp [oneV], fun _ => rfl⟩, fun h => absurd h (Nat.lt_irrefl _)⟩
section
variable {P : Program} {o : Oper} {a : Act} {K : Act → World → Prop} {Q : Exit → Act → World → Prop} {w : World}
theorem wp_convU8 {t t2 : TypeId} {x : Operand} {n : Int} (ho : o.op = .convert t t2 x) (h1 : P.underlying t = some (.int .u8)) (h2 : P.underlying t2 = some (.int .i64)) (hx : a.eval x = .int .u8 n) (h0 : 0 ≤ n) (hn : n ≤ 255) (h : K (a.put o.dst (.int .i64 n)) w) : o.wp P a w K Q := by
  refine wp_run ?_ h
  simp only [execOp, ho, hx]
  simp [convert, run_underlying h1, run_underlying h2, go_sem, IntWalk.i64_in n ⟨by omega, by omega⟩]
theorem wp_subJ {t t2 : TypeId} {x y : Operand} {m n : Int} (ho : o.op = .binOp .sub t x y t2) (hx : a.eval x = .int .i64 m) (hy : a.eval y = .int .i64 n) (h0 : -9223372036854775808 ≤ m - n) (h1 : m - n ≤ 9223372036854775807) (h : K (a.put o.dst (.int .i64 (m - n))) w) : o.wp P a w K Q := by
  refine wp_run (v := .int .i64 (m - n)) ?_ h
  simp only [execOp, ho, hx, hy]
  simp [binOp, go_sem, IntWalk.i64_in _ ⟨h0, h1⟩]
end
end Go.Proofs.Ytdegjkfjaklkjaa
