/-
  STRUCTS OF FIELDS OF ONE CELL EACH, over whatever program: a field's address, a struct that is built, loaded, stored; a variable of three cells. No condition beyond each theorem's own.
-/
import Derived.RangeFuncBox
import Derived.IntWalk
import Derived.Test.YtemdcpajcaaphaaOps
import Derived.Test.YtemdcpajcaaphaaElt
namespace Go.Proofs.Ytemdcpajcaaphaa
open Go.RowKit
/-- A struct of n fields, a cell each (for the kernel). -/
def stB (P : Program) (t : TypeId) (n : Nat) : Bool := match P.underlying t with
  | some (.struct fs) => fs.size == n && ((List.range n).all fun i => match fs[i]? with
    | some f => f.offset == i && (P.info? f.type).map (·.size) == some 1
    | none => false) && ((P.info? t).map (·.size) == some n) && (match (P.info? t).bind (·.zero) with
    | some (.agg zs) => zs.size == n
    | _ => false)
  | _ => false
/-- What a program must have: a struct of n fields, a cell each. -/
structure StP (P : Program) (t : TypeId) (n : Nat) : Prop where
  hu : ∃ fs : Array Field, P.underlying t = some (.struct fs) ∧ fs.size = n ∧ ∀ i, i < n → ∃ f, fs[i]? = some f ∧ f.offset = i ∧ (P.info? f.type).map (·.size) = some 1
  hs : (P.info? t).map (·.size) = some n
  hz : ∃ zs, (P.info? t).bind (·.zero) = some (.agg zs) ∧ zs.size = n
theorem StP.of {P : Program} {t : TypeId} {n : Nat} (h : stB P t n = true) : StP P t n := by
  unfold stB at h
  split at h
  · rename_i fs hu
    simp only [Bool.and_eq_true, beq_iff_eq, List.all_eq_true, List.mem_range] at h
    obtain ⟨⟨⟨h1, h2⟩, h3⟩, h4⟩ := h
    refine ⟨⟨fs, hu, h1, fun i hi => ?_⟩, h3, ?_⟩
    · have := h2 i hi
      split at this
      · rename_i f hf
        simp only [Bool.and_eq_true, beq_iff_eq] at this
        exact ⟨f, hf, this.1, this.2⟩
      · cases this
    · split at h4
      · rename_i zs hz
        exact ⟨zs, hz, by simpa using h4⟩
      · cases h4
  · cases h
theorem run_sizeOf' {P : Program} {ty : TypeId} {n : Nat} (h : (P.info? ty).map (·.size) = some n) (w : World) : (sizeOf ty).run P w = .ok n w := by
  cases hi : P.info? ty with
  | none => simp [hi] at h
  | some i => simp [hi] at h; simp [sizeOf, typeInfo, hi, h]
theorem StP.zero {P : Program} {t : TypeId} {n : Nat} (hP : StP P t n) : ∃ zs : Array Value, zs.size = n ∧ ∀ w, (zeroValue t).run P w = .ok (.agg zs) w := by
  obtain ⟨zs, h, hs⟩ := hP.hz
  cases hi : P.info? t with
  | none => simp [hi] at h
  | some i => simp [hi] at h; exact ⟨zs, hs, fun w => by simp [zeroValue, typeInfo, hi, h]⟩
section
variable {P : Program} {t : TypeId} {n : Nat} {o : Oper} {a : Act} {K : Act → World → Prop} {Q : Exit → Act → World → Prop} {w : World}
theorem wp_run' {v : Value} (hrun : (execOp a.eval o).run P w = .ok (.value v) w) (h : K (a.put o.dst v) w) : o.wp P a w K Q := by
  unfold Oper.wp
  rw [hrun]
  exact h
theorem wp_fieldN (hP : StP P t n) {x : Operand} {b off i : Nat} (ho : o.op = .fieldAddr t x i) (hx : a.eval x = .pointer (some ⟨b, off, none⟩)) (hi : i < n) (h : K (a.put o.dst (.pointer (some ⟨b, off + i, none⟩))) w) : o.wp P a w K Q := by
  obtain ⟨fs, hu, _, hf⟩ := hP.hu
  obtain ⟨f, hf, ho2, hs⟩ := hf i hi
  refine wp_run' ?_ h
  simp only [execOp, ho, hx]
  simp [Instr.fieldAt, run_underlying hu, fieldPlace, hf, ho2, run_sizeOf' hs, go_sem, Addr.add]
/-- A struct of three fields, built. -/
theorem wp_build3 (hP : StP P t 3) {x y z : Operand} {u v r : Value} (ho : o.op = .build t #[(0, x), (1, y), (2, z)]) (hx : a.eval x = u) (hy : a.eval y = v) (hz : a.eval z = r) (hu1 : u.cells = #[u]) (hv1 : v.cells = #[v]) (hr1 : r.cells = #[r]) (h : K (a.put o.dst (.agg #[u, v, r])) w) : o.wp P a w K Q := by
  obtain ⟨fs, hu, hfs, hf⟩ := hP.hu
  obtain ⟨f0, g0, o0, s0⟩ := hf 0 (by omega)
  obtain ⟨f1, g1, o1, s1⟩ := hf 1 (by omega)
  obtain ⟨f2, g2, o2, s2⟩ := hf 2 (by omega)
  obtain ⟨zs, hzs, hz0⟩ := hP.zero
  obtain ⟨l⟩ := fs
  obtain ⟨zl⟩ := zs
  match l, hfs with
  | [k0, k1, k2], _ =>
    match zl, hzs with
    | [z0, z1, z2], _ =>
      simp at g0 g1 g2
      subst g0; subst g1; subst g2
      refine wp_run' ?_ h
      simp only [execOp, ho, List.map_toArray, List.map_cons, List.map_nil, hx, hy, hz]
      simp [Instr.build, run_underlying hu, hz0, run_sizeOf' s0, run_sizeOf' s1, run_sizeOf' s2, Instr.fill, hu1, hv1, hr1, o0, o1, o2, show (Value.agg #[z0, z1, z2]).cells = #[z0, z1, z2] from rfl]
/-- A struct of three fields, loaded. -/
theorem wp_load3 (hP : StP P t 3) {x : Operand} {b off : Nat} {u v r : Value} (ho : o.op = .load t x) (hx : a.eval x = .pointer (some ⟨b, off, none⟩)) (h0 : w.cell? ⟨b, off, none⟩ = some u) (h1 : w.cell? ⟨b, off + 1, none⟩ = some v) (h2 : w.cell? ⟨b, off + 2, none⟩ = some r) (h : K (a.put o.dst (.agg #[u, v, r])) w) : o.wp P a w K Q := by
  obtain ⟨fs, hu, hfs, hf⟩ := hP.hu
  refine wp_run' ?_ h
  simp only [execOp, ho, hx]
  simp [Instr.loadAt, loadVar, isAgg, run_underlying hu, run_sizeOf' hP.hs, loadCellsFrom, Addr.add, h0, h1, h2, go_sem]
theorem wp_ld_bool {x : Operand} {p : Addr} {v : Value} (ho : o.op = .load t x) (hx : a.eval x = .pointer (some p)) (hu : P.underlying t = some .bool) (hc : w.cell? p = some v) (h : K (a.put o.dst v) w) : o.wp P a w K Q := by
  refine wp_run' ?_ h
  simp only [execOp, ho, hx]
  simp [isAgg, run_underlying hu, hc, go_sem]
/-- An element's address, of whatever size. -/
theorem wp_ixN {e : TypeId} {x i : Operand} {b off m c k : Nat} {kk : IntKind} {j : Int} (ho : o.op = .indexAddr t x i) (hu : P.underlying t = some (.slice e)) (hi : (P.info? e).map (·.size) = some n) (hx : a.eval x = .slice (some ⟨b, off, none⟩) m c) (hy : a.eval i = .int kk j) (hj : j = (k : Int)) (hk : k < m)
    (h : K (a.put o.dst (.pointer (some ⟨b, off + k * n, none⟩))) w) : o.wp P a w K Q := by
  subst hj
  refine wp_run' ?_ h
  obtain ⟨inf, hinf, hsz⟩ : ∃ inf, P.info? e = some inf ∧ inf.size = n := by
    cases h : P.info? e with
    | none => simp [h] at hi
    | some i => simp [h] at hi; exact ⟨i, rfl, hi⟩
  simp only [execOp, ho, hx, hy]
  simp [Instr.indexAt, run_underlying hu, asIntOf, hinf, hsz, sizeOf, typeInfo, go_sem, Addr.add]
  rw [if_pos hk]
  by_cases h0 : k = 0
  · subst h0; simp
  · simp
end
/-- A variable of three cells. -/
def TriV (W : World) (b : Nat) (t : TypeId) (u v r : Value) : Prop := W.heap[b]? = some (.cells #[u, v, r] t (0, 0))
section
variable {W W' : World} {b : Nat} {t : TypeId} {u v r : Value}
theorem TriV.new (W : World) (t : TypeId) (u v r : Value) : TriV (W.alloc (.cells #[u, v, r] t)) W.heap.size t u v r := by unfold TriV; simp only [World.alloc, Array.getElem?_push_size]
theorem TriV.lt (h : TriV W b t u v r) : b < W.heap.size := (Array.getElem?_eq_some_iff.1 h).1
theorem TriV.cell0 (h : TriV W b t u v r) : W.cell? ⟨b, 0, none⟩ = some u := by simp [World.cell?, show W.heap[b]? = _ from h]
theorem TriV.cell1 (h : TriV W b t u v r) : W.cell? ⟨b, 1, none⟩ = some v := by simp [World.cell?, show W.heap[b]? = _ from h]
theorem TriV.cell2 (h : TriV W b t u v r) : W.cell? ⟨b, 2, none⟩ = some r := by simp [World.cell?, show W.heap[b]? = _ from h]
theorem TriV.below {n : Nat} (h : TriV W b t u v r) (hb : Below n W W') (hn : b < n) : TriV W' b t u v r := (hb.block b hn).trans h
end
end Go.Proofs.Ytemdcpajcaaphaa
