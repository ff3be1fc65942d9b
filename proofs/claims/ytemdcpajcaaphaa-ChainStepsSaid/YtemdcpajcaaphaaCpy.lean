/-
  'copy' OF LISTS OF WHATEVER ELEMENTS INTO A ROW, 'make' OF SUCH A LIST, A PART OF A SLICE BY ITS VALUE ALONE: over whatever program. No condition beyond each theorem's own.
-/
import Derived.Laws.CopyRow
import Derived.Laws.MakeOwn
import Derived.Test.YtemdcpajcaaphaaEll
namespace Go.Proofs.Ytemdcpajcaaphaa
open Go.RowKit
theorem grown_setRow (w : World) (g : Nat) (cs : Array Value) : w.grownBy (w.setRow g cs) (some g) :=
  ⟨rfl, rfl, rfl, by unfold World.setRow; simp, fun k _ hk => setRow_other w g k cs (fun e => hk (by rw [e]))⟩
section
variable {α : Type} {E : Elt α} {P : Program} {T Te : TypeId} {ops : Array Oper} {rest : List Oper} {o : Oper} {a : Act} {Q : Exit → Act → World → Prop} {w : World} {S : Nat → Prop}
theorem run_copy_rows (hP : LsP P T Te E.size) (w : World) (ty : TypeId) {ax : Option Addr} {nx cx : Nat} {l : List α} (hx : RdL E S w (.slice ax nx cx) l) {g off dl dc : Nat} {cur : Array Value} {t : TypeId}
    (hg : w.heap[g]? = some (.cells cur t (0, 0))) (hdl : l.length ≤ dl) (hfit : off + l.length * E.size ≤ cur.size) :
    ∃ cs, Flat E S w l cs ∧ (Builtin.copy_ #[T, T] ty #[.slice (some ⟨g, off, none⟩) dl dc, .slice ax nx cx]).run P w = .ok (.int .i64 (l.length : Nat)) (w.setRow g (cur.toList.take off ++ cs ++ cur.toList.drop (off + cs.length)).toArray) := by
  obtain ⟨rfl, _, _⟩ := hx.len
  obtain ⟨i, hi, hsz⟩ := hP.info
  have hn : Nat.min l.length dl = l.length := Nat.min_eq_left hdl
  have key : ∀ cs : List Value, cs.length = l.length * E.size → (∀ u ∈ cs, u.oneCell' = true) → (Builtin.firstCells E.size l.length (.slice ax l.length cx)).run P w = .ok cs.toArray w →
      (Builtin.copy_ #[T, T] ty #[.slice (some ⟨g, off, none⟩) dl dc, .slice ax l.length cx]).run P w = .ok (.int .i64 (l.length : Nat)) (w.setRow g (cur.toList.take off ++ cs ++ cur.toList.drop (off + cs.length)).toArray) := by
    intro cs hcl h1 hfc
    have hst := run_storeCells_at P g off t cs 0 cur w hg (by rw [hcl]; omega) h1
    simp only [Nat.add_zero] at hst
    simp [Builtin.copy_, run_underlying hP.hT, Builtin.lenOf, sizeOf, typeInfo, hi, hsz, hn, hfc, hst, goInt]
  by_cases h0 : l = []
  · subst h0
    refine ⟨[], rfl, key [] (by simp) (by simp) ?_⟩
    cases ax with
    | none => simp [Builtin.firstCells]
    | some p =>
      have := run_loadCells_list (P := P) w p [] (by simp)
      simpa [Builtin.firstCells] using this
  · obtain ⟨b, o2, _, rfl, _⟩ := hx.at 0 (List.length_pos_iff.2 h0)
    obtain ⟨cs, hf, hc⟩ := hx.flat
    have hcl := hf.len
    refine ⟨cs, hf, key cs hcl hf.one ?_⟩
    have := run_loadCells_list (P := P) w ⟨b, o2, none⟩ cs (fun j u hj => by rw [Addr.add_lit]; exact hc j u hj)
    rw [hcl] at this
    simpa [Builtin.firstCells] using this
/-- 'copy(d, s)'. -/
theorem wpList_copy_rows (hP : LsP P T Te E.size) {d s : Operand} (ho : o.op = .call { callee := .builtin .copy, args := #[d, s], argTypes := #[T, T] }) (hgd : Region.wanted o (yielded ops a.tmps) = true)
    {ax : Option Addr} {nx cx : Nat} {l : List α} {g off dl dc : Nat} {cur : Array Value} {t : TypeId} (hd : a.eval d = .slice (some ⟨g, off, none⟩) dl dc) (hs : a.eval s = .slice ax nx cx) (hx : RdL E S w (.slice ax nx cx) l) (hg : w.heap[g]? = some (.cells cur t (0, 0)))
    (h : ∀ cs w', Flat E S w l cs → w'.heap[g]? = some (.cells (cur.toList.take off ++ cs ++ cur.toList.drop (off + cs.length)).toArray t (0, 0)) → w.grownBy w' (some g) → wpList P ops Q rest (a.put o.dst (.int .i64 (l.length : Nat))) w')
    (hdl : l.length ≤ dl) (hfit : off + l.length * E.size ≤ cur.size) : wpList P ops Q (o :: rest) a w := by
  obtain ⟨cs, hf, hr⟩ := run_copy_rows hP w o.type hx hg hdl hfit (dc := dc)
  refine BigFrame.wpList_want hgd fun K hK => ?_
  unfold Oper.wp execOp
  simp only [ho, resolve, invoke, builtin, Sem.run_bind, Sem.run_pure, Result.andThen_ok, List.map_toArray, List.map_cons, List.map_nil, hd, hs, hr]
  exact hK _ _ (h cs _ hf (setRow_heap _ _ _ _ _ _ hg) (grown_setRow _ _ _))
/-- 'x[l:]' of a slice, by its value alone. -/
theorem wpList_sliceRaw {n : Nat} (hP : LsP P T Te n) {x : Operand} {lo hi : Option Operand} (ho : o.op = .slice T x lo hi none) (hgd : Region.wanted o (yielded ops a.tmps) = true) {ad : Option Addr} {k c : Nat} (hx : a.eval x = .slice ad k c)
    {l r : Nat} (hb : (Instr.sliceBounds true k c (lo.map a.eval) (hi.map a.eval) none).run P w = .ok (l, r, c) w)
    (h : wpList P ops Q rest (a.put o.dst (.slice (if c = l then ad else ad.map (·.add (l * n))) (r - l) (c - l))) w) : wpList P ops Q (o :: rest) a w := by
  refine BigFrame.wpList_want hgd fun K hK => ?_
  unfold Oper.wp execOp
  simp only [ho, hx, Option.map_none, Sem.run_bind, Sem.run_pure, Result.andThen_ok, run_sliceL hP hb]
  exact hK _ _ h
/-- 'make([]T, n)'. -/
theorem wpList_makeL (hP : LoP P T Te E.size) {x y : Operand} (ho : o.op = .makeSlice T x y) (hgd : Region.wanted o (yielded ops a.tmps) = true) {k : Nat} {i : Int} {kl kc : IntKind} (hx : a.eval x = .int kl i) (hy : a.eval y = .int kc i)
    (h : ∀ cur : Array Value, cur.size = k * E.size → wpList P ops Q rest (a.put o.dst (.slice (some ⟨w.heap.size, 0, none⟩) k k)) (w.alloc (.cells cur Te))) (hik : i = (k : Int)) (hk : k ≤ 1073741824) : wpList P ops Q (o :: rest) a w := by
  subst hik
  refine BigFrame.wpList_want hgd fun K hK => ?_
  obtain ⟨i, z, hi, hz, hsz, hby, hzs⟩ := hP.all
  have hbytes : i.bytes * k ≤ 4096 * 1073741824 := Nat.mul_le_mul hby hk
  have hr := run_make (P := P) w T Te i z hP.hT hi hz kl kc (k : Int) (k : Int) (by omega) (Int.le_refl _) (by
    have : ((i.bytes * k : Nat) : Int) ≤ 281474976710656 := by omega
    rwa [Int.natCast_mul] at this) (by omega)
  simp only [Int.toNat_natCast] at hr
  unfold Oper.wp execOp
  simp only [ho, hx, hy, Sem.run_bind, Sem.run_pure, Result.andThen_ok, hr]
  exact hK _ _ (h _ (by rw [size_madeCells, hsz]))
end
end Go.Proofs.Ytemdcpajcaaphaa
