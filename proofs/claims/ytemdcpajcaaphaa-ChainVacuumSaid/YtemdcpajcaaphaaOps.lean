/-
  LAWS ON SINGLE OPERATIONS, over whatever program: an element's address, a load of one cell, a comparison, a choice. No condition beyond each theorem's own.
-/
import Derived.IntWalk
import Derived.Test.YtemdcpajcaaphaaSoft
namespace Go.Proofs.Ytemdcpajcaaphaa
open Go.RowKit
section
variable {P : Program} {T E S : TypeId} {o : Oper} {a : Act} {K : Act → World → Prop} {Q : Exit → Act → World → Prop} {w : World}
theorem wp_ld_int {t : TypeId} {x : Operand} {p : Addr} {v : Value} {k : IntKind} (ho : o.op = .load t x) (hx : a.eval x = .pointer (some p)) (hu : P.underlying t = some (.int k)) (hc : w.cell? p = some v) (h : K (a.put o.dst v) w) : o.wp P a w K Q := by
  refine wp_run ?_ h
  simp only [execOp, ho, hx]
  simp [isAgg, run_underlying hu, hc, go_sem]
theorem wp_ld_slice {t e : TypeId} {x : Operand} {p : Addr} {v : Value} (ho : o.op = .load t x) (hx : a.eval x = .pointer (some p)) (hu : P.underlying t = some (.slice e)) (hc : w.cell? p = some v) (h : K (a.put o.dst v) w) : o.wp P a w K Q := by
  refine wp_run ?_ h
  simp only [execOp, ho, hx]
  simp [isAgg, run_underlying hu, hc, go_sem]
theorem wp_ix {t e : TypeId} {x i : Operand} {b off n c k : Nat} {kk : IntKind} {j : Int} (ho : o.op = .indexAddr t x i) (hu : P.underlying t = some (.slice e)) (hi : (P.info? e).map (·.size) = some 1) (hx : a.eval x = .slice (some ⟨b, off, none⟩) n c) (hy : a.eval i = .int kk j) (hj : j = (k : Int)) (hk : k < n)
    (h : K (a.put o.dst (.pointer (some ⟨b, off + k, none⟩))) w) : o.wp P a w K Q := by
  subst hj
  refine wp_run ?_ h
  obtain ⟨inf, hinf, hsz⟩ : ∃ inf, P.info? e = some inf ∧ inf.size = 1 := by
    cases h : P.info? e with
    | none => simp [h] at hi
    | some i => simp [h] at hi; exact ⟨i, rfl, hi⟩
  simp only [execOp, ho, hx, hy]
  simp [Instr.indexAt, run_underlying hu, asIntOf, hinf, hsz, sizeOf, typeInfo, go_sem, Addr.add]
  rw [if_pos hk]
  by_cases h0 : k = 0 <;> simp [h0]
/-- '==' of two whole numbers, of two Booleans. -/
theorem wp_eqlI {t t2 : TypeId} {x y : Operand} {k : IntKind} {m n : Int} (ho : o.op = .binOp .eql t x y t2) (hx : a.eval x = .int k m) (hy : a.eval y = .int k n) (h : K (a.put o.dst (.bool (decide (m = n)))) w) : o.wp P a w K Q := by
  refine wp_run (v := .bool (decide (m = n))) ?_ h
  simp only [execOp, ho, hx, hy]
  simp [eqGuard, binOp, Op.intCmp, go_sem]
  by_cases e : m = n <;> simp [e]
theorem wp_eqlB {t t2 : TypeId} {x y : Operand} {m n : Bool} (hu : P.underlying t = some .bool) (ho : o.op = .binOp .eql t x y t2) (hx : a.eval x = .bool m) (hy : a.eval y = .bool n) (h : K (a.put o.dst (.bool (m == n))) w) : o.wp P a w K Q := by
  refine wp_run (v := .bool (m == n)) ?_ h
  simp only [execOp, ho, hx, hy]
  simp [eqGuard, binOp, run_equal_bool w t m n hu, go_sem]
/-- The choice of '&&', '||'. -/
theorem wp_pk {x y z : Operand} {b : Bool} {u : Value} (ho : o.op = .pick x y z) (hx : a.eval x = .bool b) (hy : b = true → a.eval y = u) (hz : b = false → a.eval z = u) (h : K (a.put o.dst u) w) : o.wp P a w K Q := by
  refine wp_run (v := u) ?_ h
  cases b
  · simp [execOp, ho, asBool, hx, hz rfl]
  · simp [execOp, ho, asBool, hx, hy rfl]
theorem wp_addI {t t2 : TypeId} {x y : Operand} {m n : Int} (ho : o.op = .binOp .add t x y t2) (hx : a.eval x = .int .i64 m) (hy : a.eval y = .int .i64 n) (h0 : -9223372036854775808 ≤ m + n) (h1 : m + n ≤ 9223372036854775807) (h : K (a.put o.dst (.int .i64 (m + n))) w) : o.wp P a w K Q := by
  refine wp_run (v := .int .i64 (m + n)) ?_ h
  simp only [execOp, ho, hx, hy]
  simp [binOp, go_sem, IntWalk.i64_in _ ⟨h0, h1⟩]
theorem wp_lenS {t e : TypeId} {x : Operand} {ad : Option Addr} {n c : Nat} (ho : o.op = .call { callee := .builtin .len, args := #[x], argTypes := #[t] }) (hu : P.underlying t = some (.slice e)) (hx : a.eval x = .slice ad n c) (h : K (a.put o.dst (.int .i64 n)) w) : o.wp P a w K Q := by
  refine wp_run (v := .int .i64 n) ?_ h
  simp only [execOp, ho, resolve, invoke, builtin, Sem.run_bind, Sem.run_pure, Result.andThen_ok, List.map_toArray, List.map_cons, List.map_nil, hx]
  simp [Builtin.len_, run_underlying hu, goInt]
/-- A part of a call's several results. -/
theorem wp_ex {x : Operand} {i : Nat} {vs : Array Value} {v : Value} (ho : o.op = .extract x i) (hx : a.eval x = .tuple vs) (hv : vs[i]? = some v) (h : K (a.put o.dst v) w) : o.wp P a w K Q := by
  refine wp_run (v := v) ?_ h
  simp only [execOp, ho, hx]
  simp [Instr.extract, hv]

theorem wp_neqI {t t2 : TypeId} {x y : Operand} {k : IntKind} {m n : Int} (ho : o.op = .binOp .neq t x y t2) (hx : a.eval x = .int k m) (hy : a.eval y = .int k n) (h : K (a.put o.dst (.bool (decide (m ≠ n)))) w) : o.wp P a w K Q := by
  refine wp_run (v := .bool (decide (m ≠ n))) ?_ h
  simp only [execOp, ho, hx, hy]
  simp [eqGuard, binOp, Op.intCmp, go_sem]
  by_cases e : m = n <;> simp [e]
theorem wp_leqI {t t2 : TypeId} {x y : Operand} {k : IntKind} {m n : Int} (ho : o.op = .binOp .leq t x y t2) (hx : a.eval x = .int k m) (hy : a.eval y = .int k n) (h : K (a.put o.dst (.bool (decide (m ≤ n)))) w) : o.wp P a w K Q := by
  refine wp_run (v := .bool (decide (m ≤ n))) ?_ h
  simp only [execOp, ho, hx, hy]
  simp [binOp, Op.intCmp, go_sem]
theorem wp_geqI {t t2 : TypeId} {x y : Operand} {k : IntKind} {m n : Int} (ho : o.op = .binOp .geq t x y t2) (hx : a.eval x = .int k m) (hy : a.eval y = .int k n) (h : K (a.put o.dst (.bool (decide (n ≤ m)))) w) : o.wp P a w K Q := by
  refine wp_run (v := .bool (decide (n ≤ m))) ?_ h
  simp only [execOp, ho, hx, hy]
  simp [binOp, Op.intCmp, go_sem]
theorem wp_lssI {t t2 : TypeId} {x y : Operand} {k : IntKind} {m n : Int} (ho : o.op = .binOp .lss t x y t2) (hx : a.eval x = .int k m) (hy : a.eval y = .int k n) (h : K (a.put o.dst (.bool (decide (m < n)))) w) : o.wp P a w K Q := by
  refine wp_run (v := .bool (decide (m < n))) ?_ h
  simp only [execOp, ho, hx, hy]
  simp [binOp, Op.intCmp, go_sem]
theorem wp_gtrI {t t2 : TypeId} {x y : Operand} {k : IntKind} {m n : Int} (ho : o.op = .binOp .gtr t x y t2) (hx : a.eval x = .int k m) (hy : a.eval y = .int k n) (h : K (a.put o.dst (.bool (decide (n < m)))) w) : o.wp P a w K Q := by
  refine wp_run (v := .bool (decide (n < m))) ?_ h
  simp only [execOp, ho, hx, hy]
  simp [binOp, Op.intCmp, go_sem]
theorem wp_eqlS {t t2 : TypeId} {x y : Operand} {xs ys : List UInt8} (ho : o.op = .binOp .eql t x y t2) (hx : a.eval x = .string (strOf xs)) (hy : a.eval y = .string (strOf ys)) (h : K (a.put o.dst (.bool (decide (xs = ys)))) w) : o.wp P a w K Q := by
  refine wp_run (v := .bool (decide (xs = ys))) ?_ h
  simp only [execOp, ho, hx, hy, binOp_string_eql]
  by_cases e : xs = ys <;> simp [eqGuard, go_sem, strOf_toList, e]
theorem wp_neqS {t t2 : TypeId} {x y : Operand} {xs ys : List UInt8} (ho : o.op = .binOp .neq t x y t2) (hx : a.eval x = .string (strOf xs)) (hy : a.eval y = .string (strOf ys)) (h : K (a.put o.dst (.bool (decide (xs ≠ ys)))) w) : o.wp P a w K Q := by
  refine wp_run (v := .bool (decide (xs ≠ ys))) ?_ h
  simp only [execOp, ho, hx, hy, binOp_string_neq]
  by_cases e : xs = ys <;> simp [eqGuard, go_sem, strOf_toList, e]
theorem wp_remU {t t2 : TypeId} {x y : Operand} {m n : Int} (ho : o.op = .binOp .rem t x y t2) (hx : a.eval x = .int .u32 m) (hy : a.eval y = .int .u32 n) (h0 : 0 ≤ m) (hn : 0 < n) (h : K (a.put o.dst (.int .u32 (m % n))) w) : o.wp P a w K Q := by
  refine wp_run (v := .int .u32 (m % n)) ?_ h
  simp only [execOp, ho, hx, hy]
  have hne : n ≠ 0 := by omega
  have e1 : m.tmod n = m % n := Int.tmod_eq_emod_of_nonneg h0
  simp [eqGuard, binOp, go_sem, hne, e1]
theorem wp_notB {t : TypeId} {x : Operand} {b : Bool} (ho : o.op = .unOp .not t x) (hx : a.eval x = .bool b) (h : K (a.put o.dst (.bool (!b))) w) : o.wp P a w K Q := by
  refine wp_run (v := .bool (!b)) ?_ h
  simp only [execOp, ho, hx]
  simp [Op.unary, go_sem]
end
end Go.Proofs.Ytemdcpajcaaphaa
