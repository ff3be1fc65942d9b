/-
  TEXTS OF ONE PROOF, merged: Dmd, Quo, Cut, Slg, SlPi, SlPd, Dme, Dmf, DltI.
-/
import Derived.Laws.Externs
import Derived.Laws.StructEq
import Derived.Lib.AppendZerosOnto
import Derived.Lib.Overlaps
import Derived.Test.YtjbdkhddnblieaaMo4
namespace Go.Proofs.Ytjbdkhddnblieaa
open Go.RowKit Go.Shelf
theorem done_len (w : Wr) (l : List Pq) : (doneW w l).length ≤ l.length + 1 := by
  unfold doneW
  split
  · have := List.length_filter_le (fun y : Pq => decide (y.key ≠ w.key)) l
    unfold delE
    omega
  · generalize (⟨w.key, w.val⟩ : Pq) = x
    induction l with
    | nil => simp [insE]
    | cons y l ih =>
      unfold insE
      split
      · simp
      · split
        · simp
        · simpa using ih
end Go.Proofs.Ytjbdkhddnblieaa
namespace Go.Proofs.Ytjbdkhddnblieaa
open Go.RowKit
structure Trd (F : Nat → Prop) (w w' : World) : Prop where
  os : w'.os = w.os
  tape : w'.tape = w.tape
  output : w'.output = w.output
  size : w.heap.size ≤ w'.heap.size
  block : ∀ k, k < w.heap.size → ¬ F k → w'.heap[k]? = w.heap[k]?
section
variable {F F' : Nat → Prop} {a b c w w' : World}
theorem Trd.refl (F : Nat → Prop) (w : World) : Trd F w w := ⟨rfl, rfl, rfl, Nat.le_refl _, fun _ _ _ => rfl⟩
theorem Trd.trans (h : Trd F a b) (k : Trd F' b c) (hf : ∀ k, k < a.heap.size → F' k → F k) : Trd F a c :=
  ⟨k.os.trans h.os, k.tape.trans h.tape, k.output.trans h.output, Nat.le_trans h.size k.size, fun i hi hn => (k.block i (Nat.lt_of_lt_of_le hi h.size) fun hF => hn (hf i hi hF)).trans (h.block i hi hn)⟩
theorem Trd.of (h : Below w.heap.size w w') : Trd F w w' := ⟨h.os, h.tape, h.output, h.size, fun k hk _ => h.block k hk⟩
theorem Trd.ofGrown {r : Option Nat} (h : w.grownBy w' r) (hr : ∀ k, r = some k → F k) : Trd F w w' := ⟨h.os, h.tape, h.output, h.size, fun k hk hn => h.block k hk fun e => hn (hr k e.symm)⟩
end
def RowQ (Te : TypeId) (sz : Nat) (w : World) (v : Value) (n : Nat) (vs : List Value) : Prop := w.ownsRow 0 Te sz v n vs ∧ ∀ u ∈ vs, u.oneCell' = true
section
variable {Te : TypeId} {sz n : Nat} {w w' : World} {v : Value} {vs : List Value}
theorem RowQ.len (h : RowQ Te sz w v n vs) : vs.length = n * sz := h.1.1
theorem RowQ.cases (h : RowQ Te sz w v n vs) : (v = .slice none 0 0 ∧ n = 0 ∧ vs = []) ∨ ∃ g cap cur, v = .slice (some ⟨g, 0, none⟩) n cap ∧ w.heap[g]? = some (.cells cur Te (0, 0)) ∧ n ≤ cap ∧ cap ≤ maxLen ∧ cur.size = cap * sz ∧ cur.toList.take (n * sz) = vs := by
  rcases h.1.2 with ⟨h1, h2⟩ | ⟨g, cap, cur, h1, _, h2, h3, h4, h5, h6⟩
  · refine .inl ⟨h1, h2, List.eq_nil_of_length_eq_zero ?_⟩
    rw [h.len, h2, Nat.zero_mul]
  · exact .inr ⟨g, cap, cur, h1, h2, h3, h4, h5, h6⟩
theorem RowQ.of {g cap : Nat} {cur : Array Value} (hg : w.heap[g]? = some (.cells cur Te (0, 0))) (h1 : n ≤ cap) (h2 : cap ≤ maxLen) (h3 : cur.size = cap * sz) (h4 : cur.toList.take (n * sz) = vs) (h5 : ∀ u ∈ vs, u.oneCell' = true) : RowQ Te sz w (.slice (some ⟨g, 0, none⟩) n cap) n vs := by
  refine ⟨⟨?_, .inr ⟨g, cap, cur, rfl, Nat.zero_le _, hg, h1, h2, h3, h4⟩⟩, h5⟩
  rw [← h4, List.length_take, Array.length_toList, h3]
  exact Nat.min_eq_left (Nat.mul_le_mul_right _ h1)
theorem RowQ.shape (h : RowQ Te sz w v n vs) : ∃ a c, v = .slice a n c ∧ n ≤ c ∧ c ≤ maxLen := by
  rcases h.cases with ⟨rfl, rfl, _⟩ | ⟨g, cap, cur, rfl, _, h1, h2, _⟩
  · exact ⟨none, 0, rfl, Nat.le_refl _, by unfold maxLen; omega⟩
  · exact ⟨_, _, rfl, h1, h2⟩
theorem RowQ.block (h : RowQ Te sz w v n vs) {k : Nat} (hk : v.ownBlock = some k) : ∃ cur, w.heap[k]? = some (.cells cur Te (0, 0)) := by
  rcases h.cases with ⟨rfl, _, _⟩ | ⟨g, cap, cur, rfl, hg, _⟩
  · simp [Value.ownBlock] at hk
  · simp [Value.ownBlock] at hk
    subst hk
    exact ⟨_, hg⟩
theorem RowQ.lt (h : RowQ Te sz w v n vs) {k : Nat} (hk : v.ownBlock = some k) : k < w.heap.size := by
  obtain ⟨_, hg⟩ := h.block hk
  exact (Array.getElem?_eq_some_iff.1 hg).1
theorem RowQ.cell (h : RowQ Te sz w v n vs) {g : Nat} (hg : v.ownBlock = some g) {j : Nat} {u : Value} (hj : vs[j]? = some u) : w.cell? ⟨g, j, none⟩ = some u := by
  rcases h.cases with ⟨rfl, _, _⟩ | ⟨g', cap, cur, rfl, hb, _, _, _, ht⟩
  · simp [Value.ownBlock] at hg
  · simp [Value.ownBlock] at hg
    subst hg
    subst ht
    rw [List.getElem?_take] at hj
    split at hj
    · simp [World.cell?, hb, ← Array.getElem?_toList, hj]
    · cases hj
end
section
variable {P : Program} {T Te : TypeId} {n : Nat} {ops : Array Oper} {rest : List Oper} {o : Oper} {a : Act} {Q : Exit → Act → World → Prop} {w : World} {K : Act → World → Prop}
theorem wp_sliceRaw (hP : LsP P T Te n) {x : Operand} {lo hi : Option Operand} (ho : o.op = .slice T x lo hi none) {ad : Option Addr} {k c : Nat} (hx : a.eval x = .slice ad k c) {lov hiv : Option Value} (hlo : lo.map a.eval = lov) (hhi : hi.map a.eval = hiv)
    {l r : Nat} (hb : (Instr.sliceBounds true k c lov hiv none).run P w = .ok (l, r, c) w)
    (h : K (a.put o.dst (.slice (if c = l then ad else ad.map (·.add (l * n))) (r - l) (c - l))) w) : o.wp P a w K Q := by
  subst hlo; subst hhi
  unfold Oper.wp execOp
  simp only [ho, hx, Option.map_none, Sem.run_bind, Sem.run_pure, Result.andThen_ok, run_sliceL hP hb]
  exact h
theorem wp_sliceAny (hP : LsP P T Te n) {x : Operand} {lo hi : Option Operand} (ho : o.op = .slice T x lo hi none) {ad : Option Addr} {k c : Nat} (hx : a.eval x = .slice ad k c) {lov hiv : Option Value} (hlo : lo.map a.eval = lov) (hhi : hi.map a.eval = hiv)
    {l r : Nat} (hb : (Instr.sliceBounds true k c lov hiv none).run P w = .ok (l, r, c) w)
    (h : ∀ ad', K (a.put o.dst (.slice ad' (r - l) (c - l))) w) : o.wp P a w K Q := wp_sliceRaw hP ho hx hlo hhi hb (h _)
theorem wp_sliceFrom (hP : LsP P T Te n) {x : Operand} {lo hi : Option Operand} (ho : o.op = .slice T x lo hi none) {g off k c : Nat} (hx : a.eval x = .slice (some ⟨g, off, none⟩) k c) {lov hiv : Option Value} (hlo : lo.map a.eval = lov) (hhi : hi.map a.eval = hiv)
    {l r : Nat} (hb : (Instr.sliceBounds true k c lov hiv none).run P w = .ok (l, r, c) w) (hne : c ≠ l)
    (h : K (a.put o.dst (.slice (some ⟨g, off + l * n, none⟩) (r - l) (c - l))) w) : o.wp P a w K Q := by
  refine wp_sliceRaw hP ho hx hlo hhi hb ?_
  rw [if_neg hne]
  simpa [Addr.add_lit] using h
theorem wp_sliceTo (hP : LsP P T Te n) {x : Operand} {hi : Option Operand} (ho : o.op = .slice T x none hi none) {g off k c : Nat} (hx : a.eval x = .slice (some ⟨g, off, none⟩) k c) {hiv : Option Value} (hhi : hi.map a.eval = hiv)
    {r : Nat} (hb : (Instr.sliceBounds true k c none hiv none).run P w = .ok (0, r, c) w)
    (h : K (a.put o.dst (.slice (some ⟨g, off, none⟩) r c)) w) : o.wp P a w K Q := by
  refine wp_sliceRaw hP ho hx rfl hhi hb ?_
  simp only [Nat.sub_zero, Nat.zero_mul, Option.map_some, Addr.add_lit, Nat.add_zero]
  split <;> exact h
theorem wpList_sliceAny (hP : LsP P T Te n) {x : Operand} {lo hi : Option Operand} (ho : o.op = .slice T x lo hi none) (hgd : Region.wanted o (yielded ops a.tmps) = true) {ad : Option Addr} {k c : Nat} (hx : a.eval x = .slice ad k c)
    {l r : Nat} (hb : (Instr.sliceBounds true k c (lo.map a.eval) (hi.map a.eval) none).run P w = .ok (l, r, c) w)
    (h : ∀ ad', wpList P ops Q rest (a.put o.dst (.slice ad' (r - l) (c - l))) w) : wpList P ops Q (o :: rest) a w :=
  BigFrame.wpList_want hgd fun _ hK => wp_sliceAny hP ho hx rfl rfl hb fun ad' => hK _ _ (h ad')
theorem wpList_sliceFrom (hP : LsP P T Te n) {x : Operand} {lo hi : Option Operand} (ho : o.op = .slice T x lo hi none) (hgd : Region.wanted o (yielded ops a.tmps) = true) {g off k c : Nat} (hx : a.eval x = .slice (some ⟨g, off, none⟩) k c)
    {l r : Nat} (hb : (Instr.sliceBounds true k c (lo.map a.eval) (hi.map a.eval) none).run P w = .ok (l, r, c) w) (hne : c ≠ l)
    (h : wpList P ops Q rest (a.put o.dst (.slice (some ⟨g, off + l * n, none⟩) (r - l) (c - l))) w) : wpList P ops Q (o :: rest) a w :=
  BigFrame.wpList_want hgd fun _ hK => wp_sliceFrom hP ho hx rfl rfl hb hne (hK _ _ h)
theorem wpList_sliceTo (hP : LsP P T Te n) {x : Operand} {hi : Option Operand} (ho : o.op = .slice T x none hi none) (hgd : Region.wanted o (yielded ops a.tmps) = true) {g off k c : Nat} (hx : a.eval x = .slice (some ⟨g, off, none⟩) k c)
    {r : Nat} (hb : (Instr.sliceBounds true k c none (hi.map a.eval) none).run P w = .ok (0, r, c) w)
    (h : wpList P ops Q rest (a.put o.dst (.slice (some ⟨g, off, none⟩) r c)) w) : wpList P ops Q (o :: rest) a w :=
  BigFrame.wpList_want hgd fun _ hK => wp_sliceTo hP ho hx rfl hb (hK _ _ h)
theorem run_copyRaw (hP : LsP P T Te n) (w : World) (ty : TypeId) {sa : Addr} {nx cx : Nat} {cs : List Value} {g off dl dc : Nat} {cur : Array Value} {t : TypeId}
    (hg : w.heap[g]? = some (.cells cur t (0, 0))) (hl : cs.length = min nx dl * n) (hc : ∀ j u, cs[j]? = some u → w.cell? (sa.add j) = some u) (h1 : ∀ u ∈ cs, u.oneCell' = true) (hfit : off + cs.length ≤ cur.size) :
    (Builtin.copy_ #[T, T] ty #[.slice (some ⟨g, off, none⟩) dl dc, .slice (some sa) nx cx]).run P w = .ok (.int .i64 (min nx dl : Nat)) (w.setRow g (cur.toList.take off ++ cs ++ cur.toList.drop (off + cs.length)).toArray) := by
  obtain ⟨i, hi, hsz⟩ := hP.info
  have hst := run_storeCells_at P g off t cs 0 cur w hg (by simpa using hfit) h1
  simp only [Nat.add_zero] at hst
  have hfc : (Builtin.firstCells n (Nat.min nx dl) (.slice (some sa) nx cx)).run P w = .ok cs.toArray w := by
    have := run_loadCells_list (P := P) w sa cs hc
    rw [hl] at this
    simpa [Builtin.firstCells] using this
  simp [Builtin.copy_, run_underlying hP.hT, Builtin.lenOf, sizeOf, typeInfo, hi, hsz, hfc, hst, goInt]
theorem wp_copyRaw (hP : LsP P T Te n) {d s : Operand} (ho : o.op = .call { callee := .builtin .copy, args := #[d, s], argTypes := #[T, T] }) {sa : Addr} {nx cx : Nat} {cs : List Value} {g off dl dc : Nat} {cur : Array Value} {t : TypeId} (hd : a.eval d = .slice (some ⟨g, off, none⟩) dl dc) (hs : a.eval s = .slice (some sa) nx cx)
    (hg : w.heap[g]? = some (.cells cur t (0, 0))) (hl : cs.length = min nx dl * n) (hc : ∀ j u, cs[j]? = some u → w.cell? (sa.add j) = some u) (h1 : ∀ u ∈ cs, u.oneCell' = true) (hfit : off + cs.length ≤ cur.size)
    (h : ∀ w', w'.heap[g]? = some (.cells (cur.toList.take off ++ cs ++ cur.toList.drop (off + cs.length)).toArray t (0, 0)) → w.grownBy w' (some g) → K (a.put o.dst (.int .i64 (min nx dl : Nat))) w') : o.wp P a w K Q := by
  have hr := run_copyRaw hP w o.type hg hl hc h1 hfit (dc := dc) (cx := cx)
  unfold Oper.wp execOp
  simp only [ho, resolve, invoke, builtin, Sem.run_bind, Sem.run_pure, Result.andThen_ok, List.map_toArray, List.map_cons, List.map_nil, hd, hs, hr]
  exact h _ (setRow_heap _ _ _ _ _ _ hg) (grown_setRow _ _ _)
theorem wpList_copyRaw (hP : LsP P T Te n) {d s : Operand} (ho : o.op = .call { callee := .builtin .copy, args := #[d, s], argTypes := #[T, T] }) (hgd : Region.wanted o (yielded ops a.tmps) = true) {sa : Addr} {nx cx : Nat} {cs : List Value} {g off dl dc : Nat} {cur : Array Value} {t : TypeId} (hd : a.eval d = .slice (some ⟨g, off, none⟩) dl dc) (hs : a.eval s = .slice (some sa) nx cx)
    (hg : w.heap[g]? = some (.cells cur t (0, 0))) (hl : cs.length = min nx dl * n) (hc : ∀ j u, cs[j]? = some u → w.cell? (sa.add j) = some u) (h1 : ∀ u ∈ cs, u.oneCell' = true) (hfit : off + cs.length ≤ cur.size)
    (h : ∀ w', w'.heap[g]? = some (.cells (cur.toList.take off ++ cs ++ cur.toList.drop (off + cs.length)).toArray t (0, 0)) → w.grownBy w' (some g) → wpList P ops Q rest (a.put o.dst (.int .i64 (min nx dl : Nat))) w') : wpList P ops Q (o :: rest) a w :=
  BigFrame.wpList_want hgd fun _ hK => wp_copyRaw hP ho hd hs hg hl hc h1 hfit fun w' h2 h3 => hK _ _ (h w' h2 h3)
theorem run_appFit (hP : LsP P T Te n) (w : World) (ty : TypeId) {g k cap : Nat} {cur : Array Value} {t : TypeId} {sa : Addr} {m c : Nat} {cs : List Value} (hg : w.heap[g]? = some (.cells cur t (0, 0))) (hl : cs.length = m * n) (hc : ∀ j u, cs[j]? = some u → w.cell? (sa.add j) = some u)
    (h1 : ∀ u ∈ cs, u.oneCell' = true) (hroom : k + m ≤ cap) (hfit : k * n + cs.length ≤ cur.size) :
    (Builtin.append_ #[T, T] ty #[.slice (some ⟨g, 0, none⟩) k cap, .slice (some sa) m c]).run P w = .ok (.slice (some ⟨g, 0, none⟩) (k + m) cap) (w.setRow g (cur.toList.take (k * n) ++ cs ++ cur.toList.drop (k * n + cs.length)).toArray) := by
  obtain ⟨i, hi, hsz⟩ := hP.info
  have hst := run_storeCells_at P g (k * n) t cs 0 cur w hg (by simpa using hfit) h1
  simp only [Nat.add_zero] at hst
  have hfc : (Builtin.firstCells n m (.slice (some sa) m c)).run P w = .ok cs.toArray w := by
    have := run_loadCells_list (P := P) w sa cs hc
    rw [hl] at this
    simpa [Builtin.firstCells] using this
  simp [Builtin.append_, run_underlying hP.hT, sizeOf, typeInfo, hi, hsz, Builtin.lenOf, hroom, hfc, Addr.add_lit, hst]
theorem wp_appFit (hP : LsP P T Te n) {s x : Operand} (ho : o.op = .call { callee := .builtin .append, args := #[s, x], argTypes := #[T, T] }) {g k cap : Nat} {cur : Array Value} {t : TypeId} {sa : Addr} {m c : Nat} {cs : List Value} (hs : a.eval s = .slice (some ⟨g, 0, none⟩) k cap) (hx : a.eval x = .slice (some sa) m c)
    (hg : w.heap[g]? = some (.cells cur t (0, 0))) (hl : cs.length = m * n) (hc : ∀ j u, cs[j]? = some u → w.cell? (sa.add j) = some u)
    (h1 : ∀ u ∈ cs, u.oneCell' = true) (hroom : k + m ≤ cap) (hfit : k * n + cs.length ≤ cur.size)
    (h : ∀ w', w'.heap[g]? = some (.cells (cur.toList.take (k * n) ++ cs ++ cur.toList.drop (k * n + cs.length)).toArray t (0, 0)) → w.grownBy w' (some g) → K (a.put o.dst (.slice (some ⟨g, 0, none⟩) (k + m) cap)) w') : o.wp P a w K Q := by
  have hr := run_appFit hP w o.type hg hl hc h1 hroom hfit (c := c)
  unfold Oper.wp execOp
  simp only [ho, resolve, invoke, builtin, Sem.run_bind, Sem.run_pure, Result.andThen_ok, List.map_toArray, List.map_cons, List.map_nil, hs, hx, hr]
  exact h _ (setRow_heap _ _ _ _ _ _ hg) (grown_setRow _ _ _)
def RowTo (Te : TypeId) (sz : Nat) (w : World) (v : Value) (n' : Nat) (vs' : List Value) (v' : Value) (w' : World) : Prop :=
  RowQ Te sz w' v' n' vs' ∧ w.grownBy w' v.ownBlock ∧ (v'.ownBlock = v.ownBlock ∨ ∃ k, v'.ownBlock = some k ∧ w.heap.size ≤ k)
theorem run_appQ (hP : LoP P T Te n) (h0 : 0 < n) (w : World) (ty : TypeId) {v : Value} {k : Nat} {vs : List Value} (hv : RowQ Te n w v k vs) {p : Addr} {m c : Nat} {cs : List Value} (hl : cs.length = m * n) (hc : ∀ j u, cs[j]? = some u → w.cell? (p.add j) = some u) (h1 : ∀ u ∈ cs, u.oneCell' = true) (hlen : k + m ≤ 1073741824) :
    ∃ v' w', (Builtin.append_ #[T, T] ty #[v, .slice (some p) m c]).run P w = .ok v' w' ∧ RowTo Te n w v (k + m) (vs ++ cs) v' w' := by
  obtain ⟨i, z, hi, hz, hsz, hby, hzs⟩ := hP.all
  obtain ⟨v', w', hr, ho, hg, _, hb⟩ := run_append_own_at (P := P) (w := w) 0 T ty Te i z n i.bytes hP.hT hi hz hsz rfl hzs h0 v k vs hv.1 p m c cs hl hc h1 (by unfold maxLen; omega)
    (by have := Nat.mul_le_mul hlen hby; omega) (Nat.zero_le _)
  exact ⟨v', w', hr, ⟨ho, fun u hu => (List.mem_append.1 hu).elim (hv.2 u) (h1 u)⟩, hg, hb.imp id fun e => ⟨_, e, Nat.le_refl _⟩⟩
theorem wp_appQ (hP : LoP P T Te n) (h0 : 0 < n) {s x : Operand} (ho : o.op = .call { callee := .builtin .append, args := #[s, x], argTypes := #[T, T] }) {v : Value} {k : Nat} {vs : List Value} (hs : a.eval s = v) (hv : RowQ Te n w v k vs) {p : Addr} {m c : Nat} {cs : List Value} (hx : a.eval x = .slice (some p) m c)
    (hl : cs.length = m * n) (hc : ∀ j u, cs[j]? = some u → w.cell? (p.add j) = some u) (h1 : ∀ u ∈ cs, u.oneCell' = true) (hlen : k + m ≤ 1073741824)
    (h : ∀ ad cap w', RowTo Te n w v (k + m) (vs ++ cs) (.slice ad (k + m) cap) w' → K (a.put o.dst (.slice ad (k + m) cap)) w') : o.wp P a w K Q := by
  obtain ⟨v', w', hrun, h2⟩ := run_appQ hP h0 w o.type hv hl hc h1 hlen (c := c)
  obtain ⟨ad, cap, rfl, _⟩ := h2.1.shape
  unfold Oper.wp execOp
  simp only [ho, resolve, invoke, builtin, Sem.run_bind, Sem.run_pure, Result.andThen_ok, List.map_toArray, List.map_cons, List.map_nil, hs, hx, hrun]
  exact h _ _ _ h2
theorem wpList_appQ (hP : LoP P T Te n) (h0 : 0 < n) {s x : Operand} (ho : o.op = .call { callee := .builtin .append, args := #[s, x], argTypes := #[T, T] }) (hgd : Region.wanted o (yielded ops a.tmps) = true) {v : Value} {k : Nat} {vs : List Value} (hs : a.eval s = v) (hv : RowQ Te n w v k vs) {p : Addr} {m c : Nat} {cs : List Value} (hx : a.eval x = .slice (some p) m c)
    (hl : cs.length = m * n) (hc : ∀ j u, cs[j]? = some u → w.cell? (p.add j) = some u) (h1 : ∀ u ∈ cs, u.oneCell' = true) (hlen : k + m ≤ 1073741824)
    (h : ∀ ad cap w', RowTo Te n w v (k + m) (vs ++ cs) (.slice ad (k + m) cap) w' → wpList P ops Q rest (a.put o.dst (.slice ad (k + m) cap)) w') : wpList P ops Q (o :: rest) a w :=
  BigFrame.wpList_want hgd fun _ hK => wp_appQ hP h0 ho hs hv hx hl hc h1 hlen fun ad cap w' h2 => hK _ _ (h ad cap w' h2)
theorem run_appZ (hP : LoP P T Te n) (h0 : 0 < n) {Ti : TypeId} (hTi : P.underlying Ti = some (.int .i64)) (w : World) (ty : TypeId) {p : Option Addr} {k cap : Nat} {cs : List Value} (hl : cs.length = k * n) (hc : ∀ q, p = some q → ∀ j u, cs[j]? = some u → w.cell? (q.add j) = some u) (hm : p = none → k = 0) {m : Nat} (hm0 : 0 < m) (hg : cap < k + m) (hlen : k + m ≤ 1073741824) :
    ∃ (G : Nat) (cur : Array Value), k + m ≤ G ∧ G ≤ maxLen ∧ cur.size = G * n ∧ cur.toList.take (k * n) = cs ∧
      (Builtin.append_ #[T, Ti] ty #[.slice p k cap, .int .i64 m]).run P w = .ok (.slice (some ⟨w.heap.size, 0, none⟩) (k + m) G) (w.drew.alloc (.cells cur Te)) := by
  obtain ⟨i, z, hi, hz, hsz, hby, hzs⟩ := hP.all
  have hold : (Builtin.firstCells i.size k (.slice p k cap)).run P w.drew = .ok cs.toArray w.drew := by
    rw [hsz]
    cases p with
    | none =>
      obtain rfl := hm rfl
      obtain rfl : cs = [] := List.eq_nil_of_length_eq_zero (by omega)
      simp [Builtin.firstCells]
    | some q => exact run_firstCells_some w.drew n k q k cap cs hl (hc q rfl)
  have hbytes : (k + m) * i.bytes ≤ 1073741824 * 4096 := Nat.mul_le_mul hlen hby
  have hmb : m * i.bytes ≤ 1073741824 * 4096 := Nat.mul_le_mul (by omega) hby
  have hr := Lib.run_append_grow_zeros w T Ti ty Te i z .i64 .i64 hP.hT hTi hi hz p k cap cs hold m hm0 (by omega) hg (by omega) (by omega) (growslice_fits hg (by omega))
  refine ⟨_, _, grownCap_ge w (k + m) cap Te, grownCap_le_maxLen w _ _ _ (by unfold maxLen; omega), ?_, ?_, hr⟩
  · have hge := grownCap_ge w (k + m) cap Te
    simp only [Array.size_append, List.size_toArray, size_zeroCells, hzs, hl, ← Nat.add_mul]
    congr 1
    omega
  · simp only [Array.toList_append, List.append_assoc]
    rw [← hl]
    exact List.take_left
theorem wpList_appZ (hP : LoP P T Te n) (h0 : 0 < n) {Ti : TypeId} (hTi : P.underlying Ti = some (.int .i64)) {s x : Operand} (ho : o.op = .call { callee := .builtin .append, args := #[s, x], argTypes := #[T, Ti] }) (hgd : Region.wanted o (yielded ops a.tmps) = true) {p : Option Addr} {k cap m : Nat} {i : Int} (hs : a.eval s = .slice p k cap) (hx : a.eval x = .int .i64 i) (him : i = (m : Int))
    {cs : List Value} (hl : cs.length = k * n) (hc : ∀ q, p = some q → ∀ j u, cs[j]? = some u → w.cell? (q.add j) = some u) (hm : p = none → k = 0) (hm0 : 0 < m) (hg : cap < k + m) (hlen : k + m ≤ 1073741824)
    (h : ∀ (G : Nat) (cur : Array Value), k + m ≤ G → G ≤ maxLen → cur.size = G * n → cur.toList.take (k * n) = cs → wpList P ops Q rest (a.put o.dst (.slice (some ⟨w.heap.size, 0, none⟩) (k + m) G)) (w.drew.alloc (.cells cur Te))) : wpList P ops Q (o :: rest) a w := by
  subst him
  refine BigFrame.wpList_want hgd fun K hK => ?_
  obtain ⟨G, cur, h1, h2, h3, h4, hr⟩ := run_appZ hP h0 hTi w o.type hl hc hm hm0 hg hlen
  unfold Oper.wp execOp
  simp only [ho, resolve, invoke, builtin, Sem.run_bind, Sem.run_pure, Result.andThen_ok, List.map_toArray, List.map_cons, List.map_nil, hs, hx, hr]
  exact hK _ _ (h G cur h1 h2 h3 h4)
theorem run_clearQ (hP : LoP P T Te n) (hz1 : ∀ i z, P.info? Te = some i → i.zero = some z → ∀ u ∈ z.cells.toList, u.oneCell' = true) (w : World) (ty : TypeId) {ad : Option Addr} {m c : Nat} {g off : Nat} {cur : Array Value} {t : TypeId} (hg : w.heap[g]? = some (.cells cur t (0, 0))) (had : m = 0 ∨ ad = some ⟨g, off, none⟩) (hfit : m = 0 ∨ off + m * n ≤ cur.size) :
    ∃ w' cur', (Builtin.clear_ #[T] ty #[.slice ad m c]).run P w = .ok (.tuple #[]) w' ∧ w'.heap[g]? = some (.cells cur' t (0, 0)) ∧ cur'.size = cur.size ∧ (m ≠ 0 → cur'.toList.take off = cur.toList.take off) ∧ (m = 0 → cur' = cur) ∧ w.grownBy w' (some g) := by
  obtain ⟨i, z, hi, hz, hsz, hby, hzs⟩ := hP.all
  by_cases h0 : m = 0
  · subst h0
    refine ⟨w, cur, ?_, hg, rfl, fun _ => rfl, fun _ => rfl, ⟨rfl, rfl, rfl, Nat.le_refl _, fun _ _ _ => rfl⟩⟩
    cases ad <;> simp [Builtin.clear_, run_underlying hP.hT]
  · obtain rfl := had.resolve_left h0
    have hfit := hfit.resolve_left h0
    have hzl : (Builtin.zeroCells z.cells m).toList.length = m * n := by rw [Array.length_toList, size_zeroCells, hzs]
    have h1 : ∀ u ∈ (Builtin.zeroCells z.cells m).toList, u.oneCell' = true := by
      intro u hu
      simp only [Builtin.zeroCells, Array.toList_map, List.mem_map] at hu
      obtain ⟨j, hj, rfl⟩ := hu
      simp only [Array.toList_range, List.mem_range] at hj
      have h2 : 0 < z.cells.size := by
        rcases Nat.eq_zero_or_pos z.cells.size with h | h
        · rw [h, Nat.mul_zero] at hj; omega
        · exact h
      have h3 := Nat.mod_lt j h2
      rw [getElem!_pos z.cells _ h3]
      exact hz1 i z hi hz _ (by simp)
    have hst := run_storeCells_at P g off t _ 0 cur w hg (by rw [hzl]; simpa using hfit) h1
    simp only [Nat.add_zero] at hst
    refine ⟨_, (cur.toList.take off ++ (Builtin.zeroCells z.cells m).toList ++ cur.toList.drop (off + (Builtin.zeroCells z.cells m).toList.length)).toArray, ?_, setRow_heap w g cur _ t _ hg, ?_, ?_, fun h => absurd h h0, grown_setRow _ _ _⟩
    rotate_left
    · simp only [List.size_toArray, List.length_append, List.length_take, List.length_drop, hzl, Array.length_toList]
      omega
    · intro _
      simp only [List.append_assoc]
      rw [List.take_append_of_le_length (by rw [List.length_take, Array.length_toList]; omega), List.take_take, Nat.min_self]
    · obtain ⟨m', rfl⟩ : ∃ m', m = m' + 1 := ⟨m - 1, by omega⟩
      have hzv : (zeroValue Te).run P w = .ok z w := by simp [zeroValue, typeInfo, hi, hz]
      simp only [Builtin.clear_, List.getElem?_toArray, List.getElem?_cons_zero, Sem.run_bind, run_underlying hP.hT, Result.andThen_ok, hzv, hst, Sem.run_pure]
end
end Go.Proofs.Ytjbdkhddnblieaa
namespace Go.Proofs.Ytjbdkhddnblieaa
open Go.RowKit
section
variable {P : Program} {T E S : TypeId} {ops : Array Oper} {rest : List Oper} {o : Oper} {a : Act} {Q : Exit → Act → World → Prop} {w : World}
theorem run_bounds3 (w : World) {n c l h m : Nat} {i j k : Int} (hi : i = (l : Int)) (hj : j = (h : Int)) (hk : k = (m : Int)) (hl : l ≤ h) (hh : h ≤ m) (hm : m ≤ c) :
    (Instr.sliceBounds true n c (some (.int .i64 i)) (some (.int .i64 j)) (some (.int .i64 k))).run P w = .ok (l, h, m) w := by
  subst hi; subst hj; subst hk
  simp [Instr.sliceBounds, Instr.sliceBound, asIntOf, hl, hh, hm]
end
end Go.Proofs.Ytjbdkhddnblieaa
namespace Go.Proofs.Ytjbdkhddnblieaa
open Go.RowKit
def RetRow (Te : TypeId) (sz : Nat) (w : World) (v : Value) (n' : Nat) (vs' : List Value) (e : Ending) (w' : World) : Prop := ∃ v', e = .returned v' ∧ RowTo Te sz w v n' vs' v' w'
theorem new_cells {w : World} {b : Nat} {us : List Value} {t : TypeId} (hb : w.heap[b]? = some (.cells us.toArray t (0, 0))) (j : Nat) (u : Value) (h : us[j]? = some u) : w.cell? (Addr.add ⟨b, 0, none⟩ j) = some u := by
  simp [Addr.add_lit, World.cell?, hb, h]
theorem ins_cells {cur us : List Value} {p q r : Nat} (h1 : p ≤ q) (h2 : us.length = r) (h3 : q + r ≤ cur.length) :
    ((cur.take (p + r) ++ (cur.take q).drop p ++ cur.drop (p + r + ((cur.take q).drop p).length)).take p ++ us ++ (cur.take (p + r) ++ (cur.take q).drop p ++ cur.drop (p + r + ((cur.take q).drop p).length)).drop (p + us.length)).take (q + r) = (cur.take q).take p ++ us ++ (cur.take q).drop p := by
  have e0 : ((cur.take q).drop p).length = q - p := by rw [List.length_drop, List.length_take]; omega
  have e1 : (cur.take (p + r) ++ (cur.take q).drop p ++ cur.drop (p + r + ((cur.take q).drop p).length)).take p = (cur.take q).take p := by
    rw [List.append_assoc, List.take_append_of_le_length (by rw [List.length_take]; omega), List.take_take, List.take_take]
    congr 1; omega
  have e2 : (cur.take (p + r) ++ (cur.take q).drop p ++ cur.drop (p + r + ((cur.take q).drop p).length)).drop (p + us.length) = (cur.take q).drop p ++ cur.drop (p + r + (q - p)) := by
    rw [e0, h2, List.append_assoc, List.drop_append_of_le_length (by rw [List.length_take]; omega), List.drop_of_length_le (by rw [List.length_take]; omega), List.nil_append]
  rw [e1, e2, ← List.append_assoc]
  rw [List.take_append_of_le_length (by simp only [List.length_append, List.length_take, List.length_drop, h2]; omega), List.take_of_length_le (by simp only [List.length_append, List.length_take, List.length_drop, h2]; omega)]
theorem ins_new {cur vs us : List Value} {p q r : Nat} (h1 : p ≤ q) (h0 : vs.length = q) (h2 : us.length = r) (h4 : cur.take p = vs.take p) :
    ((cur.take p ++ us ++ cur.drop (p + us.length)).take (p + r) ++ vs.drop p ++ (cur.take p ++ us ++ cur.drop (p + us.length)).drop (p + r + (vs.drop p).length)).take (q + r) = vs.take p ++ us ++ vs.drop p := by
  have e0 : (vs.drop p).length = q - p := by rw [List.length_drop, h0]
  have e1 : (cur.take p ++ us ++ cur.drop (p + us.length)).take (p + r) = vs.take p ++ us := by
    rw [h4, List.take_append_of_le_length (by simp only [List.length_append, List.length_take, h2]; omega), List.take_of_length_le (by simp only [List.length_append, List.length_take, h2]; omega)]
  rw [e1, List.take_append_of_le_length (by simp only [List.length_append, List.length_take, List.length_drop, h2]; omega), List.take_of_length_le (by simp only [List.length_append, List.length_take, List.length_drop, h2]; omega)]
theorem overlaps_apart {P : Program} {T Te Tb : TypeId} {sz : Nat} (hP : LsP P T Te sz) {f : FuncId} {fn : Func} (hf : P.funcs[f]? = some fn) (hname : (fn.name == "runtime.NumGoroutine") = false) (hb : fn.body.isNone = true) (hn : Extern.findNext fn = none) (he : Extern.find fn = some (Extern.SlicesOverlaps.overlaps #[T, T] #[Tb]))
    {w : World} {b g off m k mc kc : Nat} {us : List Value} {cur : Array Value} (hbc : w.heap[b]? = some (.cells us.toArray Te (0, 0))) (hg : w.heap[g]? = some (.cells cur Te (0, 0))) (hne : b ≠ g) (hcur : cur.size ≠ 0) :
    (callFunc f #[.slice (some ⟨b, 0, none⟩) m mc, .slice (some ⟨g, off, none⟩) k kc]).run P w = .ok (.value (.bool false)) w := by
  obtain ⟨i, hi, hsz⟩ := hP.info
  rw [run_callFunc_extern hf hname hb hn he, Lib.run_overlaps_apart w T Tb Te hP.hT sz (fun w => by simp [sizeOf, typeInfo, hi, hsz]) ⟨b, 0, none⟩ ⟨g, off, none⟩ m mc k kc hne Te Te us.length cur.size (by simp [World.shape?, hbc]) (by simp [World.shape?, hg]) hcur (by simp [World.frozen?, hbc]) (by simp [World.frozen?, hbc])]
  rfl
section
variable {P : Program} {T Te : TypeId} {n : Nat} {ops : Array Oper} {rest : List Oper} {o : Oper} {a : Act} {Q : Exit → Act → World → Prop} {w : World} {K : Act → World → Prop}
theorem wpList_slice3Any (hP : LsP P T Te n) {x lo hi mx : Operand} (ho : o.op = .slice T x (some lo) (some hi) (some mx)) (hgd : Region.wanted o (yielded ops a.tmps) = true) {ad : Option Addr} {k c : Nat} (hx : a.eval x = .slice ad k c)
    {l r m : Nat} (hb : (Instr.sliceBounds true k c (some (a.eval lo)) (some (a.eval hi)) (some (a.eval mx))).run P w = .ok (l, r, m) w)
    (h : ∀ ad', wpList P ops Q rest (a.put o.dst (.slice ad' (r - l) (m - l))) w) : wpList P ops Q (o :: rest) a w := by
  refine BigFrame.wpList_want hgd fun K hK => ?_
  obtain ⟨i, hi', hsz⟩ := hP.info
  have hrun : (Instr.slice T (.slice ad k c) (some (a.eval lo)) (some (a.eval hi)) (some (a.eval mx))).run P w = .ok (.slice (if m = l then ad else ad.map (·.add (l * n))) (r - l) (m - l)) w := by
    simp [Instr.slice, run_underlying hP.hT, hb, sizeOf, typeInfo, hi', hsz]
  unfold Oper.wp execOp
  have hat : (Instr.sliceAt T (.slice ad k c) (some (a.eval lo)) (some (a.eval hi)) (some (a.eval mx))).run P w = .ok (.slice (if m = l then ad else ad.map (·.add (l * n))) (r - l) (m - l)) w := by
    rw [show (Instr.sliceAt T (.slice ad k c) (some (a.eval lo)) (some (a.eval hi)) (some (a.eval mx))).run P w = (Instr.slice T (.slice ad k c) (some (a.eval lo)) (some (a.eval hi)) (some (a.eval mx))).run P w by simp [Instr.sliceAt, run_underlying hP.hT]]; exact hrun
  simp only [ho, hx, Option.map_some, Sem.run_bind, Sem.run_pure, Result.andThen_ok, hat]
  exact hK _ _ (h _)
theorem wpList_clearQ (hP : LoP P T Te n) (hz1 : ∀ i z, P.info? Te = some i → i.zero = some z → ∀ u ∈ z.cells.toList, u.oneCell' = true) {x : Operand} (ho : o.op = .call { callee := .builtin .clear, args := #[x], argTypes := #[T] }) (hd : o.dst = none) (hgd : Region.wanted o (yielded ops a.tmps) = true) {ad : Option Addr} {m c : Nat} (hx : a.eval x = .slice ad m c) {g off : Nat} {cur : Array Value} {t : TypeId} (hg : w.heap[g]? = some (.cells cur t (0, 0))) (had : m = 0 ∨ ad = some ⟨g, off, none⟩) (hfit : m = 0 ∨ off + m * n ≤ cur.size)
    (h : ∀ w' cur', w'.heap[g]? = some (.cells cur' t (0, 0)) → cur'.size = cur.size → (m ≠ 0 → cur'.toList.take off = cur.toList.take off) → (m = 0 → cur' = cur) → w.grownBy w' (some g) → wpList P ops Q rest a w') : wpList P ops Q (o :: rest) a w := by
  refine BigFrame.wpList_want hgd fun K hK => ?_
  obtain ⟨w', cur', hr, h1, h2, h3, h4, h5⟩ := run_clearQ hP hz1 w o.type hg had hfit (c := c)
  unfold Oper.wp execOp
  simp only [ho, resolve, invoke, builtin, Sem.run_bind, Sem.run_pure, Result.andThen_ok, List.map_toArray, List.map_cons, List.map_nil, hx, hr]
  refine hK _ _ ?_
  rw [hd]
  exact h w' cur' h1 h2 h3 h4 h5
end
theorem ones_of {t : TypeId} {z0 : Value} (h : (Try.prog.info? t).bind (·.zero) = some z0) (h1 : ∀ u ∈ z0.cells.toList, u.oneCell' = true) : ∀ i z, Try.prog.info? t = some i → i.zero = some z → ∀ u ∈ z.cells.toList, u.oneCell' = true := fun i z hi hz => by
  rw [hi] at h
  simp only [Option.bind_some, hz] at h
  cases h
  exact h1
theorem part_at (g sz l cap : Nat) : ∃ sa : Addr, (if cap = l then (some (⟨g, 0, none⟩ : Addr)) else (some (⟨g, 0, none⟩ : Addr)).map (·.add (l * sz))) = some sa ∧ (cap ≠ l → sa = ⟨g, l * sz, none⟩) := by
  by_cases h : cap = l
  · exact ⟨_, by rw [if_pos h], fun hn => absurd h hn⟩
  · exact ⟨_, by rw [if_neg h]; rfl, fun _ => by simp [Addr.add_lit]⟩
theorem del_cells {cur : List Value} {p q r : Nat} (h1 : p ≤ r) (h2 : r ≤ q) (h3 : q ≤ cur.length) :
    (cur.take p ++ (cur.take q).drop r ++ cur.drop (p + (q - r))).take (p + (q - r)) = (cur.take q).take p ++ (cur.take q).drop r := by
  rw [List.take_append_of_le_length (by simp only [List.length_append, List.length_take, List.length_drop]; omega), List.take_of_length_le (by simp only [List.length_append, List.length_take, List.length_drop]; omega), List.take_take]
  congr 2
  omega
end Go.Proofs.Ytjbdkhddnblieaa
namespace Go.Proofs.Ytjbdkhddnblieaa
open Go.RowKit
set_option maxRecDepth 100000 in
set_option maxHeartbeats 4000000 in
theorem insertEnd_p (w : World) {v : Value} {i b m : Nat} {vs us : List Value} (hv : RowQ 53 2 w v i vs) (hn : i + m ≤ 1000000) (hm : 0 < m) (hb : w.heap[b]? = some (.cells us.toArray 53 (0, 0))) (hu : us.length = m * 2) (hu1 : ∀ u ∈ us, u.oneCell' = true) :
    Calls Try.prog 61 #[v, .int .i64 i, .slice (some ⟨b, 0, none⟩) m m] w (RetRow 53 2 w v (i + m) (vs.take (i * 2) ++ us ++ vs.drop (i * 2))) := by
  have hz1 : ((m : Int) == 0) = false := beq_eq_false_iff_ne.2 (by omega)
  have hcs := new_cells hb
  have hl : vs.take (i * 2) ++ us ++ vs.drop (i * 2) = vs ++ us := by rw [List.take_of_length_le (by rw [hv.len]; omega), List.drop_of_length_le (by rw [hv.len]; omega), List.append_nil]
  rw [hl]
  clear hl
  obtain ⟨a, c, rfl, hnc, hcm⟩ := hv.shape
  go_enter Try.func61, Try.ntmps61
  go_upto_region 7 with (go_big_may; first
    | (refine wpList_sliceAny pqP.toLsP rfl rfl rfl (l := i) (r := i) (run_bounds_l _ (by omega)) ?_; intro _)
    | fail)
  go_wp2_with (first
    | (refine wpList_appQ pqP (by omega) rfl rfl rfl hv rfl hu hcs hu1 (by omega) ?_; intro ad cap w' hR)
    | fail)
  go_ret
  exact ⟨_, rfl, hR⟩
set_option maxRecDepth 100000 in
set_option maxHeartbeats 4000000 in
theorem insertGrow_p (w : World) {n i b m g cap : Nat} {vs us : List Value} (hv : RowQ 53 2 w (.slice (some ⟨g, 0, none⟩) n cap) n vs) (hi : i < n) (hn : n + m ≤ 1000000) (hm : 0 < m) (hb : w.heap[b]? = some (.cells us.toArray 53 (0, 0))) (hu : us.length = m * 2) (hu1 : ∀ u ∈ us, u.oneCell' = true) (hnc : n ≤ cap) (hroom : cap < n + m) :
    Calls Try.prog 61 #[.slice (some ⟨g, 0, none⟩) n cap, .int .i64 i, .slice (some ⟨b, 0, none⟩) m m] w (RetRow 53 2 w (.slice (some ⟨g, 0, none⟩) n cap) (n + m) (vs.take (i * 2) ++ us ++ vs.drop (i * 2))) := by
  have hz1 : ((m : Int) == 0) = false := beq_eq_false_iff_ne.2 (by omega)
  have hz2 : ((i : Int) == (n : Int)) = false := beq_eq_false_iff_ne.2 (by omega)
  have hz3 : decide ((cap : Int) < (n : Int) + (m : Int)) = true := decide_eq_true (by omega)
  have hcs := new_cells hb
  have hglt := hv.lt (k := g) rfl
  have hblt := (Array.getElem?_eq_some_iff.1 hb).1
  have hcs0 : ∀ (j : Nat) (u : Value), (vs.take (i * 2))[j]? = some u → w.cell? (Addr.add ⟨g, 0, none⟩ j) = some u := fun j u hj => by
    rw [List.getElem?_take] at hj
    split at hj
    · rw [Addr.add_lit, Nat.zero_add]; exact hv.cell rfl hj
    · cases hj
  have hl0 : (vs.take (i * 2)).length = i * 2 := by rw [List.length_take, hv.len]; exact Nat.min_eq_left (Nat.mul_le_mul_right _ (Nat.le_of_lt hi))
  go_enter Try.func61, Try.ntmps61
  go_upto_region 10 with (go_big_may; first
    | (refine wpList_sliceAny pqP.toLsP rfl rfl rfl (l := i) (r := n) (run_bounds_l _ (by omega)) ?_; intro _)
    | (refine wpList_sliceTo pqP.toLsP rfl rfl rfl (r := i) (run_bounds_h _ (by omega)) ?_)
    | (refine wpList_appZ pqP (by omega) (by kernel_rfl) rfl rfl rfl (m := n + m - i) rfl (by omega) hl0 (fun q hq => by cases hq; exact hcs0) (fun h => by cases h) (by omega) (by omega) (by omega) ?_; intro G cr hG1 hG2 hG3 hG4)
    | fail)
  have hL : i + (n + m - i) = n + m := by omega
  rw [hL] at hG1 ⊢
  clear hL
  have hg1 : ((w.alloc (.cells cr 53)).drew).heap[w.heap.size]? = some (.cells cr 53 (0, 0)) := by simp only [World.alloc, World.drew, Array.getElem?_push_size]
  have q1 : Below w.heap.size w ((w.alloc (.cells cr 53)).drew) := ((Below.refl _ _).alloc (Nat.le_refl _) _).drew
  generalize (w.alloc (.cells cr 53)).drew = W1 at *
  have hcs1 : ∀ (j : Nat) (u : Value), us[j]? = some u → W1.cell? (Addr.add ⟨b, 0, none⟩ j) = some u := fun j u hj => by
    have := hcs j u hj
    rw [Addr.add_lit] at this ⊢
    exact (cell_keep (q1.block b hblt) _).trans this
  have hGs : (n + m) * 2 ≤ G * 2 := Nat.mul_le_mul_right _ hG1
  have hLs : (n + m) * 2 = n * 2 + m * 2 := by rw [Nat.add_mul]
  have his : i * 2 ≤ n * 2 := Nat.mul_le_mul_right _ (Nat.le_of_lt hi)
  go_upto_region 11 with (go_big_may; first
    | (refine wpList_sliceFrom pqP.toLsP rfl rfl rfl (l := i) (r := n + m) (run_bounds_l _ (by omega)) (by omega) ?_)
    | (refine wpList_copyRaw pqP.toLsP rfl rfl rfl rfl hg1 (cs := us) (by rw [Nat.min_eq_left (by omega)]; exact hu) hcs1 hu1 (by rw [hG3, hu]; omega) ?_; intro W2 hg2 hgr2)
    | fail)
  have q2 : Below w.heap.size w W2 := q1.grown hgr2 q1.size (fun k hk => by injection hk with hk; omega)
  have hdl : (vs.drop (i * 2)).length = (n - i) * 2 := by rw [List.length_drop, hv.len, Nat.sub_mul]
  have hgc : ∀ (W : World), Below w.heap.size w W → ∀ (j : Nat) (u : Value), (vs.drop (i * 2))[j]? = some u → W.cell? (Addr.add ⟨g, 0 + i * 2, none⟩ j) = some u := fun W hW j u hj => by
    rw [List.getElem?_drop] at hj
    rw [Addr.add_lit, Nat.zero_add]
    exact (cell_keep (hW.block g hglt) _).trans (hv.cell rfl hj)
  obtain ⟨C1, hC1⟩ : ∃ C1 : Array Value, C1 = (cr.toList.take (0 + i * 2) ++ us ++ cr.toList.drop (0 + i * 2 + us.length)).toArray := ⟨_, rfl⟩
  replace hg2 : W2.heap[w.heap.size]? = some (.cells C1 53 (0, 0)) := by rw [hC1]; simpa using hg2
  have hC1s : C1.size = G * 2 := by
    rw [hC1]
    simp only [List.size_toArray, List.length_append, List.length_take, List.length_drop, Array.length_toList, hG3, hu]
    omega
  refine wp_region_lnl (K := fun _ _ => True) (by kernel_rfl) (by kernel_rfl) [8] (by kernel_rfl) [lEq (.slice (some ⟨w.heap.size, 0, none⟩) (n + m) G), lEq (.int .i64 (i : Int)), lEq (.int .i64 (m : Int)), lEq (.int .i64 ((i : Int) + (m : Int))), lEq (.slice (some ⟨w.heap.size, 0 + (i + m) * 2, none⟩) (n + m - (i + m)) (G - (i + m))), lEq (.slice (some ⟨g, 0, none⟩) n cap), lEq (.int .i64 (i : Int)), lEq (.slice (some ⟨g, 0 + i * 2, none⟩) (n - i) (cap - i)), lAny] (fun l W => Below w.heap.size w W ∧ W.heap[w.heap.size]? = some (.cells (match l with | [] => C1 | _ :: _ => (C1.toList.take (0 + (i + m) * 2) ++ vs.drop (i * 2) ++ C1.toList.drop (0 + (i + m) * 2 + (vs.drop (i * 2)).length)).toArray) 53 (0, 0))) (fun l A B h hb => ⟨h.1.trans (hb.mono h.1.size), (hb.block _ (Array.getElem?_eq_some_iff.1 h.2).1).trans h.2⟩) ⟨q2, hg2⟩
    ⟨?o0, ?o1, ?o2, ?o3, ?o4, ?o5, ?o6, ?o7, ?o8, trivial⟩ ?fin
  case o0 =>
    refine LnOp.side rfl (by kernel_rfl) (fun A va w' k hF hT hk hJ hb hu hp hd => ?_)
    have e1 : A.eval (.tmp 9) = .slice (some ⟨w.heap.size, 0, none⟩) (n + m) G := hF 9 rfl
    exact BigFrame.wp_move _ rfl ⟨_, rfl, e1, Below.refl _ _⟩
  case o1 =>
    refine LnOp.side rfl (by kernel_rfl) (fun A va w' k hF hT hk hJ hb hu hp hd => ?_)
    have e1 : A.eval (.tmp 1) = .int .i64 (i : Int) := hF 1 rfl
    exact BigFrame.wp_move _ rfl ⟨_, rfl, e1, Below.refl _ _⟩
  case o2 =>
    refine LnOp.side rfl (by kernel_rfl) (fun A va w' k hF hT hk hJ hb hu hp hd => ?_)
    have e1 : A.eval (.tmp 7) = .int .i64 (m : Int) := hF 7 rfl
    exact BigFrame.wp_move _ rfl ⟨_, rfl, e1, Below.refl _ _⟩
  case o3 =>
    refine LnOp.side rfl (by kernel_rfl) (fun A va w' k hF hT hk hJ hb hu hp hd => ?_)
    have e1 : A.eval (.tmp 47) = .int .i64 (i : Int) := (hT 47 1 (by simp [size_put]) rfl).trans (hd ⟨1, .data⟩ (by simp) rfl rfl)
    have e2 : A.eval (.tmp 48) = .int .i64 (m : Int) := (hT 48 2 (by simp [size_put]) rfl).trans (hd ⟨2, .data⟩ (by simp) rfl rfl)
    exact wp_addI rfl (e1) (e2) (by omega) (by omega) ⟨_, rfl, rfl, Below.refl _ _⟩
  case o4 =>
    refine LnOp.side rfl (by kernel_rfl) (fun A va w' k hF hT hk hJ hb hu hp hd => ?_)
    have e1 : A.eval (.tmp 46) = .slice (some ⟨w.heap.size, 0, none⟩) (n + m) G := (hT 46 0 (by simp [size_put]) rfl).trans (hd ⟨0, .data⟩ (by simp) rfl rfl)
    have e2 : A.eval (.tmp 49) = .int .i64 ((i : Int) + (m : Int)) := (hT 49 3 (by simp [size_put]) rfl).trans (hd ⟨3, .data⟩ (by simp) rfl rfl)
    exact wp_sliceFrom pqP.toLsP rfl (e1) (congrArg some e2) rfl (run_bounds_l' _ (by omega) (by omega)) (by omega) ⟨_, rfl, rfl, Below.refl _ _⟩
  case o5 =>
    refine LnOp.side rfl (by kernel_rfl) (fun A va w' k hF hT hk hJ hb hu hp hd => ?_)
    have e1 : A.eval (.tmp 0) = .slice (some ⟨g, 0, none⟩) n cap := hF 0 rfl
    exact BigFrame.wp_move _ rfl ⟨_, rfl, e1, Below.refl _ _⟩
  case o6 =>
    refine LnOp.side rfl (by kernel_rfl) (fun A va w' k hF hT hk hJ hb hu hp hd => ?_)
    have e1 : A.eval (.tmp 1) = .int .i64 (i : Int) := hF 1 rfl
    exact BigFrame.wp_move _ rfl ⟨_, rfl, e1, Below.refl _ _⟩
  case o7 =>
    refine LnOp.side rfl (by kernel_rfl) (fun A va w' k hF hT hk hJ hb hu hp hd => ?_)
    have e1 : A.eval (.tmp 51) = .slice (some ⟨g, 0, none⟩) n cap := (hT 51 5 (by simp [size_put]) rfl).trans (hd ⟨5, .data⟩ (by simp) rfl rfl)
    have e2 : A.eval (.tmp 52) = .int .i64 (i : Int) := (hT 52 6 (by simp [size_put]) rfl).trans (hd ⟨6, .data⟩ (by simp) rfl rfl)
    exact wp_sliceFrom pqP.toLsP rfl (e1) (congrArg some e2) rfl (run_bounds_l' _ (by omega) (by omega)) (by omega) ⟨_, rfl, rfl, Below.refl _ _⟩
  case o8 =>
    refine LnOp.line 0 rfl rfl (fun A va w' hF hT hJ hu hd => ?_)
    have e1 : A.eval (.tmp 50) = .slice (some ⟨w.heap.size, 0 + (i + m) * 2, none⟩) (n + m - (i + m)) (G - (i + m)) := (hT 50 4 (by simp [size_put]) rfl).trans (hd ⟨4, .data⟩ (by simp) rfl rfl)
    have e2 : A.eval (.tmp 53) = .slice (some ⟨g, 0 + i * 2, none⟩) (n - i) (cap - i) := (hT 53 7 (by simp [size_put]) rfl).trans (hd ⟨7, .data⟩ (by simp) rfl rfl)
    refine wp_copyRaw pqP.toLsP rfl e1 e2 hJ.2 (cs := vs.drop (i * 2)) (by rw [hdl, Nat.min_eq_left (by omega)]) (hgc _ hJ.1) (fun u hu => hv.2 u (List.mem_of_mem_drop hu)) ?_ ?_
    · show 0 + (i + m) * 2 + (vs.drop (i * 2)).length ≤ C1.size
      rw [hC1s, hdl, Nat.sub_mul, Nat.add_mul]
      omega
    · intro W3 hg3 hgr3
      exact ⟨_, rfl, ⟨hJ.1.grown hgr3 hJ.1.size (fun k hk => by injection hk with hk; omega), hg3⟩, trivial⟩
  case fin =>
    intro vs1 W3 hJ hG
    have e0 : vs1 0 = .slice (some ⟨w.heap.size, 0, none⟩) (n + m) G := hG 0 (by decide) rfl
    have e1 : vs1 1 = .int .i64 (i : Int) := hG 1 (by decide) rfl
    have e2 : vs1 2 = .int .i64 (m : Int) := hG 2 (by decide) rfl
    have e3 : vs1 3 = .int .i64 ((i : Int) + (m : Int)) := hG 3 (by decide) rfl
    have e4 : vs1 4 = .slice (some ⟨w.heap.size, 0 + (i + m) * 2, none⟩) (n + m - (i + m)) (G - (i + m)) := hG 4 (by decide) rfl
    have e5 : vs1 5 = .slice (some ⟨g, 0, none⟩) n cap := hG 5 (by decide) rfl
    have e6 : vs1 6 = .int .i64 (i : Int) := hG 6 (by decide) rfl
    have e7 : vs1 7 = .slice (some ⟨g, 0 + i * 2, none⟩) (n - i) (cap - i) := hG 7 (by decide) rfl
    simp only [putAll, e0, e1, e2, e3, e4, e5, e6, e7]
    clear hG e0 e1 e2 e3 e4 e5 e6 e7
    go_simp
    go_wp2_with fail
    go_ret
    refine ⟨_, rfl, RowQ.of hJ.2 hG1 hG2 ?_ ?_ ?_, ⟨hJ.1.os, hJ.1.tape, hJ.1.output, hJ.1.size, fun k hk _ => hJ.1.block k hk⟩, .inr ⟨_, rfl, Nat.le_refl _⟩⟩
    · show (List.toArray _).size = _
      simp only [List.size_toArray, List.length_append, List.length_take, List.length_drop, Array.length_toList, hC1s, hv.len, Nat.add_mul]
      rw [Nat.add_mul] at hGs
      omega
    · show List.take _ (C1.toList.take _ ++ _ ++ C1.toList.drop _) = _
      have := ins_new (cur := cr.toList) (vs := vs) (us := us) (p := i * 2) (q := n * 2) (r := m * 2) his hv.len hu hG4
      rw [hC1]
      simp only [Nat.add_mul, Nat.zero_add] at this ⊢
      exact this
    · intro u hu
      rcases List.mem_append.1 hu with h | h
      · rcases List.mem_append.1 h with h | h
        · exact hv.2 u (List.mem_of_mem_take h)
        · exact hu1 u h
      · exact hv.2 u (List.mem_of_mem_drop h)
set_option maxRecDepth 100000 in
set_option maxHeartbeats 4000000 in
theorem insertFit_p (w : World) {n i b m g cap : Nat} {vs us : List Value} (hv : RowQ 53 2 w (.slice (some ⟨g, 0, none⟩) n cap) n vs) (hi : i < n) (hn : n + m ≤ 1000000) (hm : 0 < m) (hb : w.heap[b]? = some (.cells us.toArray 53 (0, 0))) (hu : us.length = m * 2) (hu1 : ∀ u ∈ us, u.oneCell' = true) (hbg : b ≠ g) (hroom : n + m ≤ cap) :
    Calls Try.prog 61 #[.slice (some ⟨g, 0, none⟩) n cap, .int .i64 i, .slice (some ⟨b, 0, none⟩) m m] w (RetRow 53 2 w (.slice (some ⟨g, 0, none⟩) n cap) (n + m) (vs.take (i * 2) ++ us ++ vs.drop (i * 2))) := by
  have hz1 : ((m : Int) == 0) = false := beq_eq_false_iff_ne.2 (by omega)
  have hz2 : ((i : Int) == (n : Int)) = false := beq_eq_false_iff_ne.2 (by omega)
  have hz3 : decide ((cap : Int) < (n : Int) + (m : Int)) = false := decide_eq_false (by omega)
  have hcs := new_cells hb
  have hblt := (Array.getElem?_eq_some_iff.1 hb).1
  have hglt := hv.lt (k := g) rfl
  obtain ⟨cur, hg, hcm, hcs1, hct⟩ : ∃ cur, w.heap[g]? = some (.cells cur 53 (0, 0)) ∧ cap ≤ maxLen ∧ cur.size = cap * 2 ∧ cur.toList.take (n * 2) = vs := by
    rcases hv.cases with ⟨h, _⟩ | ⟨g', cap', cur, h, h1, h2, h3, h4, h5⟩
    · cases h
    · cases h
      exact ⟨cur, h1, h3, h4, h5⟩
  have his : i * 2 ≤ n * 2 := Nat.mul_le_mul_right _ (Nat.le_of_lt hi)
  have hns : (n + m) * 2 ≤ cap * 2 := Nat.mul_le_mul_right _ hroom
  have hdl : (vs.drop (i * 2)).length = (n - i) * 2 := by rw [List.length_drop, hv.len, Nat.sub_mul]
  have hov : ∀ off k kc, (callFunc 68 #[.slice (some ⟨b, 0, none⟩) m m, .slice (some ⟨g, off, none⟩) k kc]).run Try.prog w = .ok (.value (.bool false)) w := fun off k kc =>
    overlaps_apart (Tb := 4) pqP.toLsP Try.func68 (by kernel_rfl) rfl (by kernel_rfl) (by kernel_rfl) hb hg hbg (by rw [hcs1]; have : 0 < cap * 2 := Nat.mul_pos (by omega) (by omega); omega)
  go_enter Try.func61, Try.ntmps61
  go_upto_region 15 with (go_big_may; first
    | (refine wpList_sliceAny pqP.toLsP rfl rfl rfl (l := i) (r := n) (run_bounds_l _ (by omega)) ?_; intro _)
    | (refine wpList_sliceTo pqP.toLsP rfl rfl rfl (r := n + m) (run_bounds_h _ (by omega)) ?_)
    | (refine wpList_sliceFrom pqP.toLsP rfl rfl rfl (l := i + m) (r := n + m) (run_bounds_l' _ (by omega) (by omega)) (by omega) ?_)
    | fail)
  have hg0 := hg
  refine wp_region_lnl (K := fun _ _ => True) (by kernel_rfl) (by kernel_rfl) [8] (by kernel_rfl) [lEq (.slice (some ⟨g, 0, none⟩) (n + m) cap), lEq (.int .i64 (i : Int)), lEq (.int .i64 (m : Int)), lEq (.int .i64 ((i : Int) + (m : Int))), lEq (.slice (some ⟨g, 0 + (i + m) * 2, none⟩) (n + m - (i + m)) (cap - (i + m))), lEq (.slice (some ⟨g, 0, none⟩) (n + m) cap), lEq (.int .i64 (i : Int)), lEq (.slice (some ⟨g, 0 + i * 2, none⟩) (n + m - i) (cap - i)), lAny] (fun l W => Trd (· = g) w W ∧ W.heap[g]? = some (.cells (match l with | [] => cur | _ :: _ => (cur.toList.take (0 + (i + m) * 2) ++ vs.drop (i * 2) ++ cur.toList.drop (0 + (i + m) * 2 + (vs.drop (i * 2)).length)).toArray) 53 (0, 0))) (fun l A B h hb => ⟨h.1.trans (Trd.of (F := (· = g)) hb) (fun _ _ h => h), (hb.block _ (Array.getElem?_eq_some_iff.1 h.2).1).trans h.2⟩) ⟨Trd.refl _ _, hg⟩
    ⟨?o0, ?o1, ?o2, ?o3, ?o4, ?o5, ?o6, ?o7, ?o8, trivial⟩ ?fin
  case o0 =>
    refine LnOp.side rfl (by kernel_rfl) (fun A va w' k hF hT hk hJ hb hu hp hd => ?_)
    have e1 : A.eval (.tmp 0) = .slice (some ⟨g, 0, none⟩) (n + m) cap := hF 0 rfl
    exact BigFrame.wp_move _ rfl ⟨_, rfl, e1, Below.refl _ _⟩
  case o1 =>
    refine LnOp.side rfl (by kernel_rfl) (fun A va w' k hF hT hk hJ hb hu hp hd => ?_)
    have e1 : A.eval (.tmp 1) = .int .i64 (i : Int) := hF 1 rfl
    exact BigFrame.wp_move _ rfl ⟨_, rfl, e1, Below.refl _ _⟩
  case o2 =>
    refine LnOp.side rfl (by kernel_rfl) (fun A va w' k hF hT hk hJ hb hu hp hd => ?_)
    have e1 : A.eval (.tmp 7) = .int .i64 (m : Int) := hF 7 rfl
    exact BigFrame.wp_move _ rfl ⟨_, rfl, e1, Below.refl _ _⟩
  case o3 =>
    refine LnOp.side rfl (by kernel_rfl) (fun A va w' k hF hT hk hJ hb hu hp hd => ?_)
    have e1 : A.eval (.tmp 70) = .int .i64 (i : Int) := (hT 70 1 (by simp) rfl).trans (hd ⟨1, .data⟩ (by simp) rfl rfl)
    have e2 : A.eval (.tmp 71) = .int .i64 (m : Int) := (hT 71 2 (by simp) rfl).trans (hd ⟨2, .data⟩ (by simp) rfl rfl)
    exact wp_addI rfl (e1) (e2) (by omega) (by omega) ⟨_, rfl, rfl, Below.refl _ _⟩
  case o4 =>
    refine LnOp.side rfl (by kernel_rfl) (fun A va w' k hF hT hk hJ hb hu hp hd => ?_)
    have e1 : A.eval (.tmp 69) = .slice (some ⟨g, 0, none⟩) (n + m) cap := (hT 69 0 (by simp) rfl).trans (hd ⟨0, .data⟩ (by simp) rfl rfl)
    have e2 : A.eval (.tmp 72) = .int .i64 ((i : Int) + (m : Int)) := (hT 72 3 (by simp) rfl).trans (hd ⟨3, .data⟩ (by simp) rfl rfl)
    exact wp_sliceFrom pqP.toLsP rfl (e1) (congrArg some e2) rfl (run_bounds_l' _ (by omega) (by omega)) (by omega) ⟨_, rfl, rfl, Below.refl _ _⟩
  case o5 =>
    refine LnOp.side rfl (by kernel_rfl) (fun A va w' k hF hT hk hJ hb hu hp hd => ?_)
    have e1 : A.eval (.tmp 0) = .slice (some ⟨g, 0, none⟩) (n + m) cap := hF 0 rfl
    exact BigFrame.wp_move _ rfl ⟨_, rfl, e1, Below.refl _ _⟩
  case o6 =>
    refine LnOp.side rfl (by kernel_rfl) (fun A va w' k hF hT hk hJ hb hu hp hd => ?_)
    have e1 : A.eval (.tmp 1) = .int .i64 (i : Int) := hF 1 rfl
    exact BigFrame.wp_move _ rfl ⟨_, rfl, e1, Below.refl _ _⟩
  case o7 =>
    refine LnOp.side rfl (by kernel_rfl) (fun A va w' k hF hT hk hJ hb hu hp hd => ?_)
    have e1 : A.eval (.tmp 74) = .slice (some ⟨g, 0, none⟩) (n + m) cap := (hT 74 5 (by simp) rfl).trans (hd ⟨5, .data⟩ (by simp) rfl rfl)
    have e2 : A.eval (.tmp 75) = .int .i64 (i : Int) := (hT 75 6 (by simp) rfl).trans (hd ⟨6, .data⟩ (by simp) rfl rfl)
    exact wp_sliceFrom pqP.toLsP rfl (e1) (congrArg some e2) rfl (run_bounds_l' _ (by omega) (by omega)) (by omega) ⟨_, rfl, rfl, Below.refl _ _⟩
  case o8 =>
    refine LnOp.line 0 rfl rfl (fun A va w' hF hT hJ hu hd => ?_)
    have e1 : A.eval (.tmp 73) = .slice (some ⟨g, 0 + (i + m) * 2, none⟩) (n + m - (i + m)) (cap - (i + m)) := (hT 73 4 (by simp) rfl).trans (hd ⟨4, .data⟩ (by simp) rfl rfl)
    have e2 : A.eval (.tmp 76) = .slice (some ⟨g, 0 + i * 2, none⟩) (n + m - i) (cap - i) := (hT 76 7 (by simp) rfl).trans (hd ⟨7, .data⟩ (by simp) rfl rfl)
    refine wp_copyRaw pqP.toLsP rfl e1 e2 hJ.2 (cs := vs.drop (i * 2)) (by rw [hdl, Nat.min_eq_right (by omega)]; congr 1; omega) (fun j u hj => ?_) (fun u hu => hv.2 u (List.mem_of_mem_drop hu)) ?_ ?_
    · rw [List.getElem?_drop, ← hct, List.getElem?_take] at hj
      split at hj
      · rw [Addr.add_lit, Nat.zero_add]
        have h5 : w'.heap[g]? = some (.cells cur 53 (0, 0)) := hJ.2
        simpa [World.cell?, h5, ← Array.getElem?_toList] using hj
      · cases hj
    · show 0 + (i + m) * 2 + (vs.drop (i * 2)).length ≤ cur.size
      rw [hcs1, hdl, Nat.zero_add, ← Nat.add_mul]
      exact Nat.mul_le_mul_right _ (by omega)
    · intro W3 hg3 hgr3
      exact ⟨_, rfl, ⟨hJ.1.trans (Trd.ofGrown (F := (· = g)) hgr3 fun k hk => by injection hk with hk; exact hk.symm) (fun _ _ h => h), hg3⟩, trivial⟩
  case fin =>
    intro vs1 W3 hJ hG
    have e0 : vs1 0 = .slice (some ⟨g, 0, none⟩) (n + m) cap := hG 0 (by decide) rfl
    have e1 : vs1 1 = .int .i64 (i : Int) := hG 1 (by decide) rfl
    have e2 : vs1 2 = .int .i64 (m : Int) := hG 2 (by decide) rfl
    have e3 : vs1 3 = .int .i64 ((i : Int) + (m : Int)) := hG 3 (by decide) rfl
    have e4 : vs1 4 = .slice (some ⟨g, 0 + (i + m) * 2, none⟩) (n + m - (i + m)) (cap - (i + m)) := hG 4 (by decide) rfl
    have e5 : vs1 5 = .slice (some ⟨g, 0, none⟩) (n + m) cap := hG 5 (by decide) rfl
    have e6 : vs1 6 = .int .i64 (i : Int) := hG 6 (by decide) rfl
    have e7 : vs1 7 = .slice (some ⟨g, 0 + i * 2, none⟩) (n + m - i) (cap - i) := hG 7 (by decide) rfl
    simp only [putAll, e0, e1, e2, e3, e4, e5, e6, e7]
    clear hG e0 e1 e2 e3 e4 e5 e6 e7
    obtain ⟨C1, hC1⟩ : ∃ C1 : Array Value, C1 = (cur.toList.take (0 + (i + m) * 2) ++ vs.drop (i * 2) ++ cur.toList.drop (0 + (i + m) * 2 + (vs.drop (i * 2)).length)).toArray := ⟨_, rfl⟩
    have hg3 : W3.heap[g]? = some (.cells C1 53 (0, 0)) := by rw [hC1]; exact hJ.2
    have hC1s : C1.size = cap * 2 := by
      rw [hC1]
      simp only [List.size_toArray, List.length_append, List.length_take, List.length_drop, Array.length_toList, hcs1, hv.len, Nat.add_mul]
      rw [Nat.add_mul] at hns
      omega
    have hcs3 : ∀ (j : Nat) (u : Value), us[j]? = some u → W3.cell? (Addr.add ⟨b, 0, none⟩ j) = some u := fun j u hj => by
      have := hcs j u hj
      rw [Addr.add_lit] at this ⊢
      exact (cell_keep (hJ.1.block b hblt hbg) _).trans this
    go_simp
    go_wp2_with (go_big_may; first
      | (refine wpList_sliceFrom pqP.toLsP rfl rfl rfl (l := i) (r := n + m) (run_bounds_l _ (by omega)) (by omega) ?_)
      | (refine wpList_copyRaw pqP.toLsP rfl rfl rfl rfl hg3 (cs := us) (by rw [Nat.min_eq_left (by omega)]; exact hu) hcs3 hu1 (by rw [hC1s, hu]; omega) ?_; intro W4 hg4 hgr4)
      | fail)
    go_ret
    have q4 : Trd (· = g) w W4 := hJ.1.trans (Trd.ofGrown (F := (· = g)) hgr4 fun k hk => by injection hk with hk; exact hk.symm) (fun _ _ h => h)
    refine ⟨_, rfl, RowQ.of hg4 hroom hcm ?_ ?_ ?_, ⟨q4.os, q4.tape, q4.output, q4.size, fun k hk hn => q4.block k hk fun h => hn (by rw [h]; rfl)⟩, .inl rfl⟩
    · simp only [List.size_toArray, List.length_append, List.length_take, List.length_drop, Array.length_toList, hC1s, hu]
      rw [Nat.add_mul] at hns
      omega
    · have := ins_cells (cur := cur.toList) (us := us) (p := i * 2) (q := n * 2) (r := m * 2) his hu (by rw [Array.length_toList, hcs1, ← Nat.add_mul]; exact hns)
      rw [hct] at this
      rw [hC1]
      simp only [Nat.zero_add, Nat.add_mul] at this ⊢
      exact this
    · intro u hu
      rcases List.mem_append.1 hu with h | h
      · rcases List.mem_append.1 h with h | h
        · exact hv.2 u (List.mem_of_mem_take h)
        · exact hu1 u h
      · exact hv.2 u (List.mem_of_mem_drop h)
theorem insert_p (w : World) {v : Value} {n i b m : Nat} {vs us : List Value} (hv : RowQ 53 2 w v n vs) (hi : i ≤ n) (hn : n + m ≤ 1000000) (hm : 0 < m) (hb : w.heap[b]? = some (.cells us.toArray 53 (0, 0))) (hu : us.length = m * 2) (hu1 : ∀ u ∈ us, u.oneCell' = true) (hbg : v.ownBlock ≠ some b) :
    Calls Try.prog 61 #[v, .int .i64 i, .slice (some ⟨b, 0, none⟩) m m] w (RetRow 53 2 w v (n + m) (vs.take (i * 2) ++ us ++ vs.drop (i * 2))) := by
  rcases Nat.lt_or_ge i n with h | h
  · rcases hv.cases with ⟨_, h2, _⟩ | ⟨g, cap, cur, rfl, _, h3, _⟩
    · omega
    · rcases Nat.lt_or_ge cap (n + m) with h4 | h4
      · exact insertGrow_p w hv h hn hm hb hu hu1 h3 h4
      · exact insertFit_p w hv h hn hm hb hu hu1 (fun e => hbg (by rw [e]; rfl)) h4
  · obtain rfl : i = n := by omega
    exact insertEnd_p w hv hn hm hb hu hu1
end Go.Proofs.Ytjbdkhddnblieaa
namespace Go.Proofs.Ytjbdkhddnblieaa
open Go.RowKit
theorem pqs1 : ∀ i z, Try.prog.info? 53 = some i → i.zero = some z → ∀ u ∈ z.cells.toList, u.oneCell' = true := ones_of (z0 := .agg #[.slice none 0 0, .slice none 0 0]) (by kernel_rfl) (fun u hu => by
  simp [Value.cells] at hu
  subst hu; rfl)
set_option maxRecDepth 100000 in
set_option maxHeartbeats 4000000 in
theorem delete_p (w : World) {v : Value} {n i : Nat} {j : Int} {vs : List Value} (hv : RowQ 53 2 w v n vs) (hi : i < n) (hj : j = (i : Int) + 1) (hn : n ≤ 1000000) :
    Calls Try.prog 60 #[v, .int .i64 i, .int .i64 j] w (RetRow 53 2 w v (n - 1) (vs.take (i * 2) ++ vs.drop ((i + 1) * 2))) := by
  subst hj
  obtain ⟨g, cap, cur, rfl, hg, hnc, hcm, hcs1, hct⟩ : ∃ g cap cur, v = .slice (some ⟨g, 0, none⟩) n cap ∧ w.heap[g]? = some (.cells cur 53 (0, 0)) ∧ n ≤ cap ∧ cap ≤ maxLen ∧ cur.size = cap * 2 ∧ cur.toList.take (n * 2) = vs := by
    rcases hv.cases with ⟨_, h, _⟩ | h
    · omega
    · exact h
  have hz2 : ((i : Int) == (i : Int) + 1) = false := beq_eq_false_iff_ne.2 (by omega)
  have his : i * 2 ≤ n * 2 := Nat.mul_le_mul_right _ (Nat.le_of_lt hi)
  have his1 : (i + 1) * 2 ≤ n * 2 := Nat.mul_le_mul_right _ hi
  have hns : n * 2 ≤ cap * 2 := Nat.mul_le_mul_right _ hnc
  have hdl : (vs.drop ((i + 1) * 2)).length = (n - (i + 1)) * 2 := by rw [List.length_drop, hv.len, Nat.sub_mul]
  obtain ⟨sa, hsa, hsa2⟩ := part_at g 2 (i + 1) cap
  go_enter Try.func60, Try.ntmps60
  go_upto_region 5 with (go_big_may; first
    | (refine wpList_slice3Any pqP.toLsP rfl rfl rfl (l := i) (r := i + 1) (m := n) (run_bounds3 _ rfl (by omega) rfl (by omega) (by omega) (by omega)) ?_; intro _)
    | fail)
  refine wp_region_lnl (K := fun _ _ => True) (by kernel_rfl) (by kernel_rfl) [6, 7] (by kernel_rfl) [lEq (.slice (some ⟨g, 0, none⟩) n cap), lEq (.int .i64 (i : Int)), lEq (.slice (some ⟨g, 0, none⟩) i cap), lEq (.slice (some ⟨g, 0, none⟩) n cap), lEq (.int .i64 ((i : Int) + 1)), lEq (.slice (some sa) (n - (i + 1)) (cap - (i + 1))), lAny, lAny] (fun l W => Trd (· = g) w W ∧ (∀ x ∈ l, x = .slice (some ⟨g, 0, none⟩) (i + (n - (i + 1))) cap) ∧ W.heap[g]? = some (.cells (match l with | [] => cur | _ :: _ => (cur.toList.take (i * 2) ++ vs.drop ((i + 1) * 2) ++ cur.toList.drop (i * 2 + (vs.drop ((i + 1) * 2)).length)).toArray) 53 (0, 0))) (fun l A B h hb => ⟨h.1.trans (Trd.of (F := (· = g)) hb) (fun _ _ h => h), h.2.1, (hb.block _ (Array.getElem?_eq_some_iff.1 h.2.2).1).trans h.2.2⟩) ⟨Trd.refl _ _, by simp, hg⟩
    ⟨?o0, ?o1, ?o2, ?o3, ?o4, ?o5, ?o6, ?o7, trivial⟩ ?fin
  case o0 =>
    refine LnOp.side rfl (by kernel_rfl) (fun A va w' k hF hT hk hJ hb hu hp hd => ?_)
    have e1 : A.eval (.tmp 0) = .slice (some ⟨g, 0, none⟩) n cap := (hT 0 7 (by simp) rfl).trans (hu 1 7 0 (hb 1 7 rfl (by kernel_rfl)) rfl rfl)
    exact BigFrame.wp_move _ rfl ⟨_, rfl, e1, Below.refl _ _⟩
  case o1 =>
    refine LnOp.side rfl (by kernel_rfl) (fun A va w' k hF hT hk hJ hb hu hp hd => ?_)
    have e1 : A.eval (.tmp 1) = .int .i64 (i : Int) := hF 1 rfl
    exact BigFrame.wp_move _ rfl ⟨_, rfl, e1, Below.refl _ _⟩
  case o2 =>
    refine LnOp.side rfl (by kernel_rfl) (fun A va w' k hF hT hk hJ hb hu hp hd => ?_)
    have e1 : A.eval (.tmp 20) = .slice (some ⟨g, 0, none⟩) n cap := (hT 20 0 (by simp) rfl).trans (hd ⟨0, .data⟩ (by simp) rfl rfl)
    have e2 : A.eval (.tmp 21) = .int .i64 (i : Int) := (hT 21 1 (by simp) rfl).trans (hd ⟨1, .data⟩ (by simp) rfl rfl)
    exact wp_sliceTo pqP.toLsP rfl (e1) (congrArg some e2) (run_bounds_h _ (by omega)) ⟨_, rfl, rfl, Below.refl _ _⟩
  case o3 =>
    refine LnOp.side rfl (by kernel_rfl) (fun A va w' k hF hT hk hJ hb hu hp hd => ?_)
    have e1 : A.eval (.tmp 0) = .slice (some ⟨g, 0, none⟩) n cap := (hT 0 7 (by simp) rfl).trans (hu 1 7 0 (hb 1 7 rfl (by kernel_rfl)) rfl rfl)
    exact BigFrame.wp_move _ rfl ⟨_, rfl, e1, Below.refl _ _⟩
  case o4 =>
    refine LnOp.side rfl (by kernel_rfl) (fun A va w' k hF hT hk hJ hb hu hp hd => ?_)
    have e1 : A.eval (.tmp 2) = .int .i64 ((i : Int) + 1) := hF 2 rfl
    exact BigFrame.wp_move _ rfl ⟨_, rfl, e1, Below.refl _ _⟩
  case o5 =>
    refine LnOp.side rfl (by kernel_rfl) (fun A va w' k hF hT hk hJ hb hu hp hd => ?_)
    have e1 : A.eval (.tmp 23) = .slice (some ⟨g, 0, none⟩) n cap := (hT 23 3 (by simp) rfl).trans (hd ⟨3, .data⟩ (by simp) rfl rfl)
    have e2 : A.eval (.tmp 24) = .int .i64 ((i : Int) + 1) := (hT 24 4 (by simp) rfl).trans (hd ⟨4, .data⟩ (by simp) rfl rfl)
    exact wp_sliceRaw pqP.toLsP rfl (e1) (congrArg some e2) rfl (run_bounds_l' (l := i + 1) _ (by omega) (by omega)) ⟨_, rfl, by rw [hsa]; rfl, Below.refl _ _⟩
  case o6 =>
    refine LnOp.line 0 rfl rfl (fun A va w' hF hT hJ hu hd => ?_)
    have e1 : A.eval (.tmp 22) = .slice (some ⟨g, 0, none⟩) i cap := (hT 22 2 (by simp) rfl).trans (hd ⟨2, .data⟩ (by simp) rfl rfl)
    have e2 : A.eval (.tmp 25) = .slice (some sa) (n - (i + 1)) (cap - (i + 1)) := (hT 25 5 (by simp) rfl).trans (hd ⟨5, .data⟩ (by simp) rfl rfl)
    refine wp_appFit pqP.toLsP rfl e1 e2 hJ.2.2 (cs := vs.drop ((i + 1) * 2)) (by rw [hdl]) (fun j u hj => ?_) (fun u hu => hv.2 u (List.mem_of_mem_drop hu)) (by omega) ?_ ?_
    · rw [List.getElem?_drop, ← hct, List.getElem?_take] at hj
      split at hj
      · rename_i hlt
        rw [hsa2 (fun e => by rw [← Nat.not_le] at hlt; exact hlt (by have : n * 2 ≤ (i + 1) * 2 := Nat.mul_le_mul_right _ (by omega); omega)), Addr.add_lit]
        have h5 : w'.heap[g]? = some (.cells cur 53 (0, 0)) := hJ.2.2
        simpa [World.cell?, h5, ← Array.getElem?_toList] using hj
      · cases hj
    · show i * 2 + (vs.drop ((i + 1) * 2)).length ≤ cur.size
      rw [hcs1, hdl, ← Nat.add_mul]
      exact Nat.mul_le_mul_right _ (by omega)
    · intro W3 hg3 hgr3
      exact ⟨_, rfl, ⟨hJ.1.trans (Trd.ofGrown (F := (· = g)) hgr3 fun k hk => by injection hk with hk; exact hk.symm) (fun _ _ h => h), fun x hx => by simpa using hx, hg3⟩, trivial⟩
  case o7 =>
    refine LnOp.line 1 rfl rfl (fun A va w' hF hT hJ hu hd => ?_)
    have x1 : A.eval (.tmp 26) = va 6 := hT 26 6 (by simp) rfl
    refine BigFrame.wp_assign _ rfl ⟨_, rfl, ⟨hJ.1, fun y hy => ?_, hJ.2.2⟩, trivial⟩
    rcases List.mem_append.1 hy with h | h
    · exact hJ.2.1 y h
    · rw [List.mem_singleton.1 h]
      exact x1.trans (hJ.2.1 _ (by simp))
  case fin =>
    intro vs1 W3 hJ hG
    have e0 : vs1 0 = .slice (some ⟨g, 0, none⟩) n cap := hG 0 (by decide) rfl
    have e1 : vs1 1 = .int .i64 (i : Int) := hG 1 (by decide) rfl
    have e2 : vs1 2 = .slice (some ⟨g, 0, none⟩) i cap := hG 2 (by decide) rfl
    have e3 : vs1 3 = .slice (some ⟨g, 0, none⟩) n cap := hG 3 (by decide) rfl
    have e4 : vs1 4 = .int .i64 ((i : Int) + 1) := hG 4 (by decide) rfl
    have e5 : vs1 5 = .slice (some sa) (n - (i + 1)) (cap - (i + 1)) := hG 5 (by decide) rfl
    have e6 : vs1 6 = .slice (some ⟨g, 0, none⟩) (i + (n - (i + 1))) cap := hJ.2.1 _ (by simp)
    have e7 : vs1 7 = .slice (some ⟨g, 0, none⟩) (i + (n - (i + 1))) cap := hJ.2.1 _ (by simp)
    simp only [putAll, e0, e1, e2, e3, e4, e5, e6, e7]
    clear hG e0 e1 e2 e3 e4 e5 e6 e7
    obtain ⟨C1, hC1⟩ : ∃ C1 : Array Value, C1 = (cur.toList.take (i * 2) ++ vs.drop ((i + 1) * 2) ++ cur.toList.drop (i * 2 + (vs.drop ((i + 1) * 2)).length)).toArray := ⟨_, rfl⟩
    have hg3 : W3.heap[g]? = some (.cells C1 53 (0, 0)) := by rw [hC1]; exact hJ.2.2
    have hC1s : C1.size = cap * 2 := by
      rw [hC1]
      simp only [List.size_toArray, List.length_append, List.length_take, List.length_drop, Array.length_toList, hcs1, hv.len, Nat.add_mul]
      rw [Nat.add_mul] at his1
      omega
    obtain ⟨n1, hn1⟩ : ∃ n1, n1 = i + (n - (i + 1)) := ⟨_, rfl⟩
    have hn2 : n ≤ n1 + 1 := by omega
    have hn3 : n1 + 1 ≤ n := by omega
    rw [← hn1]
    clear hn1
    go_simp
    go_wp2_with (go_big_may; first
      | (refine wpList_sliceFrom pqP.toLsP rfl rfl rfl (l := n1) (r := n) (run_bounds_lh _ (by omega) (by omega)) (by omega) ?_)
      | (refine wpList_clearQ pqP pqs1 rfl rfl rfl rfl hg3 (.inr rfl) (.inr (by rw [hC1s]; omega)) ?_; intro W4 C4 hg4 hs4 ht4 _ hgr4)
      | fail)
    go_ret
    have q4 : Trd (· = g) w W4 := hJ.1.trans (Trd.ofGrown (F := (· = g)) hgr4 fun k hk => by injection hk with hk; exact hk.symm) (fun _ _ h => h)
    refine ⟨_, rfl, ?_, ⟨q4.os, q4.tape, q4.output, q4.size, fun k hk hn => q4.block k hk fun h => hn (by rw [h]; rfl)⟩, .inl rfl⟩
    obtain rfl : n - 1 = n1 := by omega
    refine RowQ.of hg4 (by omega) hcm (by rw [hs4, hC1s]) ?_ ?_
    · have h5 := ht4 (by omega)
      have h6 : C4.toList.take ((n - 1) * 2) = C1.toList.take ((n - 1) * 2) := by
        rw [← Nat.zero_add ((n - 1) * 2)]
        first
          | exact h5
          | simpa using h5
      rw [h6, hC1]
      have := del_cells (cur := cur.toList) (p := i * 2) (q := n * 2) (r := (i + 1) * 2) (Nat.mul_le_mul_right _ (by omega)) his1 (by rw [Array.length_toList, hcs1]; exact hns)
      rw [hct, ← Nat.sub_mul] at this
      rw [hdl]
      have e : (n - 1) * 2 = i * 2 + (n - (i + 1)) * 2 := by rw [← Nat.add_mul]; congr 1; omega
      rw [e]
      exact this
    · intro u hu
      rcases List.mem_append.1 hu with h | h
      · exact hv.2 u (List.mem_of_mem_take h)
      · exact hv.2 u (List.mem_of_mem_drop h)
end Go.Proofs.Ytjbdkhddnblieaa
namespace Go.Proofs.Ytjbdkhddnblieaa
open Go.RowKit Go.Shelf
def plcQ (l : List Pq) (k : List UInt8) : Nat := (l.takeWhile fun x => ltB x.key k).length
def isQ (l : List Pq) (k : List UInt8) : Bool := decide ((l[plcQ l k]?).map Pq.key = some k)
theorem plcQ_le (l : List Pq) (k : List UInt8) : plcQ l k ≤ l.length := (List.takeWhile_prefix _).length_le
theorem plcQ_lt : ∀ {l : List Pq} {k : List UInt8}, SrtQ l → ∀ i (h : i < l.length), ltB l[i].key k = decide (i < plcQ l k)
  | [], _, _, _, h => absurd h (Nat.not_lt_zero _)
  | x :: r, k, hs, 0, _ => by
    unfold plcQ
    rw [List.takeWhile_cons]
    cases hx : ltB x.key k <;> simp [hx]
  | x :: r, k, hs, i + 1, h => by
    obtain ⟨h1, h2⟩ := List.pairwise_cons.1 hs
    have ih := plcQ_lt (k := k) h2 i (by simpa using h)
    unfold plcQ at ih ⊢
    rw [List.takeWhile_cons, List.getElem_cons_succ]
    cases hx : ltB x.key k with
    | true => simpa using ih
    | false =>
      have hir : i < r.length := by simpa using h
      cases hy : ltB (r[i]'hir).key k with
      | false => simp
      | true => rw [ltB_trans (h1 _ (List.getElem_mem _)) hy] at hx; cases hx
theorem insE_at {p : Pq} : ∀ {l : List Pq}, SrtQ l → insE ltB Pq.key p l = l.take (plcQ l p.key) ++ p :: l.drop (if isQ l p.key = true then plcQ l p.key + 1 else plcQ l p.key)
  | [], _ => by simp [insE, plcQ, isQ]
  | x :: r, hs => by
    obtain ⟨h1, h2⟩ := List.pairwise_cons.1 hs
    have ih := insE_at (p := p) h2
    unfold insE
    by_cases e : p.key = x.key
    · have hx : ltB x.key p.key = false := by rw [e]; exact ltB_irrefl _
      have hp : plcQ (x :: r) p.key = 0 := by unfold plcQ; rw [List.takeWhile_cons, hx]; rfl
      have hi : isQ (x :: r) p.key = true := by unfold isQ; rw [hp]; simp [e]
      rw [hp, hi, if_pos e]
      simp
    · rw [if_neg e]
      cases hx : ltB p.key x.key with
      | true =>
        have hx2 : ltB x.key p.key = false := ltB_asymm hx
        have hp : plcQ (x :: r) p.key = 0 := by unfold plcQ; rw [List.takeWhile_cons, hx2]; rfl
        have hi : isQ (x :: r) p.key = false := by unfold isQ; rw [hp]; simp; exact fun h => e h.symm
        rw [hp, hi, if_pos rfl]
        simp
      | false =>
        have hx2 : ltB x.key p.key = true := ltB_total e hx
        have hp : plcQ (x :: r) p.key = plcQ r p.key + 1 := by unfold plcQ; rw [List.takeWhile_cons, hx2]; simp
        have hi : isQ (x :: r) p.key = isQ r p.key := by unfold isQ; rw [hp]; simp
        rw [hp, hi, if_neg (by simp), ih]
        split <;> simp
theorem delE_at {k : List UInt8} : ∀ {l : List Pq}, SrtQ l → delE Pq.key k l = if isQ l k = true then l.take (plcQ l k) ++ l.drop (plcQ l k + 1) else l
  | [], _ => by simp [delE, isQ]
  | x :: r, hs => by
    obtain ⟨h1, h2⟩ := List.pairwise_cons.1 hs
    have ih := delE_at (k := k) h2
    have hc : delE Pq.key k (x :: r) = if x.key = k then delE Pq.key k r else x :: delE Pq.key k r := by
      unfold delE
      rw [List.filter_cons]
      by_cases e : x.key = k <;> simp [e]
    rw [hc]
    have hno : ∀ y ∈ r, ltB k y.key = true → y.key ≠ k := fun y _ h e => by rw [e, ltB_irrefl] at h; cases h
    have hr : (∀ y ∈ r, ltB k y.key = true) → delE Pq.key k r = r := fun h => by
      unfold delE
      rw [List.filter_eq_self]
      intro y hy
      simpa using hno y hy (h y hy)
    by_cases e : x.key = k
    · have hx : ltB x.key k = false := by rw [e]; exact ltB_irrefl _
      have hp : plcQ (x :: r) k = 0 := by unfold plcQ; rw [List.takeWhile_cons, hx]; rfl
      have hi : isQ (x :: r) k = true := by unfold isQ; rw [hp]; simp [e]
      rw [hp, hi, if_pos e, if_pos rfl, hr (fun y hy => by rw [← e]; exact h1 y hy)]
      simp
    · rw [if_neg e]
      cases hx : ltB x.key k with
      | false =>
        have hx2 : ltB k x.key = true := ltB_total e hx
        have hp : plcQ (x :: r) k = 0 := by unfold plcQ; rw [List.takeWhile_cons, hx]; rfl
        have hi : isQ (x :: r) k = false := by unfold isQ; rw [hp]; simp [e]
        rw [hi, if_neg (by simp), hr (fun y hy => ltB_trans hx2 (h1 y hy))]
      | true =>
        have hp : plcQ (x :: r) k = plcQ r k + 1 := by unfold plcQ; rw [List.takeWhile_cons, hx]; simp
        have hi : isQ (x :: r) k = isQ r k := by unfold isQ; rw [hp]; simp
        rw [hp, hi, ih]
        split <;> simp
set_option maxRecDepth 100000 in
set_option maxHeartbeats 1000000 in
theorem dCmp_any (w : World) {S S2 : Nat → Prop} {A B : Option Addr} {x : Pq} {C D : Nat} {a2 : Option Addr} {n2 c2 : Nat} {k : List UInt8} (hx : RdS S w (.slice A x.key.length C) x.key) (hk : RdS S2 w (.slice a2 n2 c2) k) :
    Calls Try.prog 59 #[.agg #[.slice A x.key.length C, .slice B x.val.length D], .slice a2 n2 c2] w fun e w' => e = .returned (.int .i64 (Lib.compareBytes x.key k)) ∧ Below w.heap.size w w' := by
  obtain ⟨W, hW⟩ : ∃ W, W = w.alloc (.cells #[.slice A x.key.length C, .slice B x.val.length D] 53) := ⟨_, rfl⟩
  have q : Below w.heap.size w W := by rw [hW]; exact (Below.refl _ _).alloc (Nat.le_refl _) _
  have bn : BoxN W w.heap.size 53 [.slice A x.key.length C, .slice B x.val.length D] := by rw [hW]; exact BoxN.new _ _ _
  go_enter Try.func59, Try.ntmps59
  go_upto_region 1 with (fail)
  rw [← hW]
  clear hW
  have b0 := bn.cell (i := 0) rfl
  go_wp2_with fail
  refine (compare_any W (hx.below q) (hk.below q)).mono ?_
  rintro e w1 ⟨rfl, rfl⟩
  go_wp2_with fail
  go_ret
  exact ⟨rfl, q⟩
set_option maxRecDepth 100000 in
set_option maxHeartbeats 4000000 in
theorem bsearchP_any (w : World) {S S2 : Nat → Prop} {a a2 : Option Addr} {n c n2 c2 : Nat} {l : List Pq} {k : List UInt8} (hl : RdL Elt.pq S w (.slice a n c) l) (hk : RdS S2 w (.slice a2 n2 c2) k) (hn : n ≤ 2000000) (hs : SrtQ l) :
    Calls Try.prog 58 #[.slice a n c, .slice a2 n2 c2, .func (.func 59) #[] #[]] w fun e w' => e = .returned (.tuple #[.int .i64 (plcQ l k), .bool (isQ l k)]) ∧ Below w.heap.size w w' := by
  obtain ⟨m, hmq⟩ : ∃ m, m = plcQ l k := ⟨_, rfl⟩
  obtain ⟨is, his0⟩ : ∃ is, is = isQ l k := ⟨_, rfl⟩
  have hm : m ≤ l.length := by rw [hmq]; exact plcQ_le l k
  have h1 : ∀ i (h : i < l.length), ltB l[i].key k = decide (i < m) := by rw [hmq]; exact plcQ_lt hs
  have his : is = decide ((l[m]?).map Pq.key = some k) := by rw [his0, hmq]; rfl
  rw [← hmq, ← his0]
  clear hmq his0 hs
  obtain ⟨rfl, hnc, hcm⟩ := hl.len
  have q := Below.refl w.heap.size w
  have hEE := enters_of Try.func59 (by kernel_rfl) rfl
  go_enter Try.func58, Try.ntmps58
  go_upto_region 3 with (fail)
  go_loopw [9, 10] (fun iv jv wr => ∃ (i j : Nat), iv = .int .i64 i ∧ jv = .int .i64 j ∧ i ≤ m ∧ m ≤ j ∧ j ≤ l.length ∧ Below w.heap.size w wr)
    (fun i j _ => (intOf j).toNat - (intOf i).toNat)
  case atStart => exact ⟨0, l.length, rfl, rfl, Nat.zero_le _, hm, Nat.le_refl _, q⟩
  case round =>
    clear q
    obtain ⟨i, j, rfl, rfl, him, hmj, hjn, q⟩ := hrel
    rcases Nat.lt_or_ge i j with hlt | hge
    · obtain ⟨h, hh⟩ : ∃ h : Nat, h = (i + j) / 2 := ⟨_, rfl⟩
      have e : ((i : Int) + (j : Int)) / 2 = (h : Int) := by omega
      have hih : i ≤ h := by omega
      have hhj : h < j := by omega
      clear hh
      obtain ⟨b, off, A, C, A2, C2, rfl, hb, c0, c1, hr, hr2⟩ := (hl.below q).pq h (by omega)
      have hlth := h1 h (by omega)
      have hcl := cmp_lt l[h].key k
      rw [hlth] at hcl
      obtain ⟨y, hy⟩ : ∃ y, y = l[h] := ⟨_, rfl⟩
      rw [← hy] at hr hr2 c0 c1 hcl
      clear hy hlth hb
      go_wp2_with fail
      clear e
      refine (dCmp_any wr hr (hk.below q)).mono ?_
      rintro e w1 ⟨rfl, hb1⟩
      replace q := q.trans (hb1.mono q.size)
      clear c0 c1 hr hr2 hb1
      rcases Nat.lt_or_ge h m with h2 | h2
      · rw [decide_eq_true h2] at hcl
        go_wp2_with fail
        go_roundw
        case rel => exact ⟨h + 1, j, by go_num, rfl, by omega, hmj, hjn, q⟩
        case measure => simp [intOf]; omega
      · rw [decide_eq_false (by omega : ¬ h < m)] at hcl
        go_wp2_with fail
        go_roundw
        case rel => exact ⟨i, h, rfl, rfl, him, by omega, by omega, q⟩
        case measure => simp [intOf]; omega
    · obtain rfl : i = m := by omega
      rcases Nat.lt_or_ge i l.length with hlt | hge2
      · have d : decide ((i : Int) < (l.length : Int)) = true := decide_eq_true (by omega)
        obtain ⟨b, off, A, C, A2, C2, rfl, hb, c0, c1, hr, hr2⟩ := (hl.below q).pq i hlt
        have hce := cmp_eq l[i].key k
        have hans : decide ((l[i]?).map Pq.key = some k) = decide (l[i].key = k) := by rw [List.getElem?_eq_getElem hlt]; simp
        rw [hans, ← hce] at his
        clear hans hce hb
        generalize l[i] = y at hr hr2 c0 c1 his
        have HI := Lib.hid his
        clear his
        go_wp2_with fail
        refine (dCmp_any wr hr (hk.below q)).mono ?_
        rintro e w1 ⟨rfl, hb1⟩
        go_wp2_with fail
        go_ret2
        exact ⟨by rw [HI.out]; rfl, q.trans (hb1.mono q.size)⟩
      · have d : decide ((i : Int) < (l.length : Int)) = false := decide_eq_false (by omega)
        have hans : decide ((l[i]?).map Pq.key = some k) = false := by rw [List.getElem?_eq_none hge2]; simp
        rw [hans] at his
        subst his
        clear hans
        go_wp2_with fail
        go_ret2
        exact ⟨rfl, q⟩
end Go.Proofs.Ytjbdkhddnblieaa
namespace Go.Proofs.Ytjbdkhddnblieaa
open Go.RowKit Go.Shelf
section
variable {α : Type} {E : Elt α} {S : Nat → Prop} {w w' : World}
theorem Flat.drop : ∀ {xs : List α} {vs : List Value} (_ : Flat E S w xs vs) (k : Nat), Flat E S w (xs.drop k) (vs.drop (k * E.size))
  | [], _, h, k => by cases h; simp [Flat]
  | x :: xs, _, h, 0 => by simpa using h
  | x :: xs, _, ⟨us, ws, rfl, h1, h2⟩, k + 1 => by
    have hl := E.len h1
    rw [List.drop_succ_cons, show (k + 1) * E.size = us.length + k * E.size by rw [hl, Nat.add_mul]; omega, ← List.drop_drop, List.drop_left]
    exact Flat.drop h2 k
theorem Flat.cut {xs : List α} {vs : List Value} (h : Flat E S w xs vs) {m : Nat} (hm : m < xs.length) :
    ∃ us, E.R S w xs[m] us ∧ vs = vs.take (m * E.size) ++ us ++ vs.drop ((m + 1) * E.size) ∧ Flat E S w (xs.take m) (vs.take (m * E.size)) ∧ Flat E S w (xs.drop (m + 1)) (vs.drop ((m + 1) * E.size)) := by
  have h1 := Flat.drop h m
  rw [List.drop_eq_getElem_cons hm] at h1
  obtain ⟨us, ws, e, h2, h3⟩ := h1
  have hl := E.len h2
  have e2 : vs.drop ((m + 1) * E.size) = ws := by
    rw [show (m + 1) * E.size = m * E.size + us.length by rw [hl, Nat.add_mul]; omega, ← List.drop_drop, e, List.drop_left]
  refine ⟨us, h2, ?_, Flat.take h m, Flat.drop h (m + 1)⟩
  rw [e2, List.append_assoc, ← e, List.take_append_drop]
theorem OwnL.rowQ {Te : TypeId} {base lo : Nat} {v : Value} {xs : List α} (h : OwnL E Te base lo w v xs) : ∃ vs, RowQ Te E.size w v xs.length vs ∧ Flat E (fun k => lo ≤ k ∧ k < w.heap.size ∧ some k ≠ v.ownBlock) w xs vs := by
  obtain ⟨vs, h1, h2⟩ := h
  exact ⟨vs, ⟨⟨h1.1, h1.2.imp id fun ⟨g, cap, cur, a, b, c⟩ => ⟨g, cap, cur, a, Nat.zero_le _, c⟩⟩, h2.one⟩, h2⟩
theorem OwnL.rowTo {Te : TypeId} {base lo : Nat} {v v' : Value} {xs xs' : List α} {vs' : List Value} {n' : Nat} (h : OwnL E Te base lo w v xs) (hT : RowTo Te E.size w v n' vs' v' w') (hF : Flat E (fun k => lo ≤ k ∧ k < w.heap.size ∧ some k ≠ v.ownBlock) w xs' vs') (hn : n' = xs'.length) (hb : base ≤ w.heap.size) : OwnL E Te base lo w' v' xs' := by
  obtain ⟨hq, hg, hv⟩ := hT
  subst hn
  have hne : ∀ g, v'.ownBlock = some g → base ≤ g := fun g e2 => by
    rcases hv with hv | ⟨k, hv, hk⟩
    · exact (h.block_lt g (hv.symm.trans e2)).1
    · rw [e2] at hv; injection hv with hv; omega
  refine ⟨vs', ⟨hq.1.1, ?_⟩, (hF.keep fun k hk => hg.block k hk.2.1 hk.2.2).weak fun k hk => ⟨hk.1, Nat.lt_of_lt_of_le hk.2.1 hg.size, ?_⟩⟩
  · rcases hq.1.2 with h1 | ⟨g, cap, cur, e, _, c⟩
    · exact .inl h1
    · exact .inr ⟨g, cap, cur, e, hne g (by rw [e]; rfl), c⟩
  · rcases hv with hv | ⟨j, hv, hj⟩
    · rw [hv]; exact hk.2.2
    · rw [hv]; intro e; injection e with e; omega
end
def RowEnd (w : World) (base lo : Nat) (r : Option Nat) (l : List Pq) (e : Ending) (w' : World) : Prop := ∃ a c, e = .returned (.slice a l.length c) ∧ OwnL Elt.pq 53 base lo w' (.slice a l.length c) l ∧ w.grownBy w' r ∧ (Value.ownBlock (.slice a l.length c) = r ∨ ∃ k, Value.ownBlock (.slice a l.length c) = some k ∧ w.heap.size ≤ k)
set_option maxRecDepth 100000 in
set_option maxHeartbeats 8000000 in
theorem done_any (w : World) {S : Nat → Prop} {base lo : Nat} {v p : Value} {cur : List Pq} {u : Wr} (hO : OwnL Elt.pq 53 base lo w v cur) (hs : SrtQ cur) (hn : cur.length ≤ 999999) (hu : RdWr S w p u) (hS : ∀ k, S k → lo ≤ k ∧ k < w.heap.size ∧ some k ≠ v.ownBlock) (hbase : base ≤ w.heap.size) :
    Calls Try.prog 46 #[v, p] w (RowEnd w base lo v.ownBlock (doneW u cur)) := by
  obtain ⟨KA, KC, VA, VC, rfl, hk, hv, ht⟩ := hu
  have hob := hO.block_lt
  obtain ⟨a, c, rfl⟩ := hO.shape
  obtain ⟨W, hW⟩ : ∃ W, W = w.alloc (.cells #[.int .i64 u.table, .slice KA u.key.length KC, .bool u.gone, .slice VA u.val.length VC] 28) := ⟨_, rfl⟩
  have q : Below w.heap.size w W := by rw [hW]; exact (Below.refl _ _).alloc (Nat.le_refl _) _
  have bn : BoxN W w.heap.size 28 [.int .i64 u.table, .slice KA u.key.length KC, .bool u.gone, .slice VA u.val.length VC] := by rw [hW]; exact BoxN.new _ _ _
  obtain ⟨m, hmq⟩ : ∃ m, m = plcQ cur u.key := ⟨_, rfl⟩
  have hm : m ≤ cur.length := by rw [hmq]; exact plcQ_le _ _
  have hins := Lib.hid (insE_at (p := ⟨u.key, u.val⟩) hs)
  have hdel := Lib.hid (delE_at (k := u.key) hs)
  have hiq : isQ cur u.key = true → ∃ h : m < cur.length, cur[m].key = u.key := fun h => by
    have h2 : (cur[m]?).map Pq.key = some u.key := by rw [hmq]; exact of_decide_eq_true h
    cases h3 : cur[m]? with
    | none => rw [h3] at h2; cases h2
    | some y =>
      obtain ⟨h4, h5⟩ := List.getElem?_eq_some_iff.1 h3
      rw [h3] at h2
      injection h2 with h2
      exact ⟨h4, by rw [h5]; exact h2⟩
  replace hS := Lib.hid hS
  replace hiq := Lib.hid hiq
  replace hob := Lib.hid hob
  go_enter Try.func46, Try.ntmps46
  go_upto_region 1 with (fail)
  rw [← hW]
  clear hW
  have b1 := bn.cell (i := 1) rfl
  go_wp2_with fail
  refine (bsearchP_any W ((hO.below q).rdL) (hk.below q) (by omega) hs).mono ?_
  rintro e w1 ⟨rfl, hb1⟩
  rw [← hmq]
  replace hmq := Lib.hid hmq
  replace hs := Lib.hid hs
  have q1 := q.trans (hb1.mono q.size)
  have bn1 := bn.below hb1 bn.lt
  have hO1 := hO.below q1
  have hk1 := hk.below q1
  have hv1 := hv.below q1
  have hz1 := q1.size
  have hzb := bn.lt
  have hzb1 := hb1.size
  clear b1
  have b1 := bn1.cell (i := 1) rfl
  have b2 := bn1.cell (i := 2) rfl
  have b3 := bn1.cell (i := 3) rfl
  have hgr := Lib.hid (show ∀ r, w.grownBy w1 r from fun r => grownB q1 r)
  cases his : isQ cur u.key with
  | true =>
    obtain ⟨hml, hkey⟩ := hiq.out his
    cases hgo : u.gone with
    | true =>
      rw [hgo] at b2
      have HD := Lib.hid (show doneW u cur = cur.take m ++ cur.drop (m + 1) by unfold doneW; rw [if_pos hgo, hdel.out, if_pos his, hmq.out])
      clear his hgo hiq hkey
      obtain ⟨vs, hQ, hF⟩ := hO1.rowQ
      go_wp2_with fail
      refine (delete_p w1 hQ hml rfl (by omega)).mono ?_
      rintro e w2 ⟨v', rfl, hT⟩
      have hO2 := hO1.rowTo hT ((Flat.take hF m).append (Flat.drop hF (m + 1))) (by simp; omega) (by omega)
      have hg2 := hT.2.1
      rw [← HD.out] at hO2
      obtain ⟨a', c', rfl⟩ := hO2.shape
      go_wp2_with fail
      go_ret
      exact ⟨a', c', rfl, hO2, grownT (hgr.out _) hg2, hT.2.2.imp id fun ⟨k, h1, h2⟩ => ⟨k, h1, Nat.le_trans (hgr.out none).size h2⟩⟩
    | false =>
      rw [hgo] at b2
      have HD := Lib.hid (show doneW u cur = cur.take m ++ ⟨u.key, u.val⟩ :: cur.drop (m + 1) by unfold doneW; rw [if_neg (by rw [hgo]; simp), hins.out, if_pos his, hmq.out])
      replace hkey := Lib.hid hkey
      clear his hgo hiq
      obtain ⟨vs, h1, hF⟩ := hO1
      obtain ⟨g, cp, cells, ev, hbg, hgc, hnc, hcm, hcs, hct⟩ : ∃ g cap cells, Value.slice a cur.length c = .slice (some ⟨g, 0, none⟩) cur.length cap ∧ base ≤ g ∧ w1.heap[g]? = some (.cells cells 53 (0, 0)) ∧ cur.length ≤ cap ∧ cap ≤ maxLen ∧ cells.size = cap * 2 ∧ cells.toList.take (cur.length * 2) = vs := by
        rcases h1.2 with ⟨_, h2⟩ | h2
        · omega
        · exact h2
      obtain ⟨rfl, rfl⟩ : a = some ⟨g, 0, none⟩ ∧ c = cp := by injection ev with e1 _ e3; exact ⟨e1, e3⟩
      have hB : BoxN w1 g 53 cells.toList := by unfold BoxN; rw [hgc]
      have hjl : m * 2 + 1 < cells.toList.length := by rw [Array.length_toList, hcs]; omega
      have hvl := Lib.hid (show vs.length = cur.length * 2 from h1.1)
      replace h1 := Lib.hid h1
      replace hct := Lib.hid hct
      replace hcs := Lib.hid hcs
      clear ev
      go_wp2_with (first | (refine wpList_boxSet (vs := cells.toList) (j := m * 2 + 1) (u := .slice VA u.val.length VC) rfl rfl rfl (by kernel_rfl) rfl rfl rfl rfl hB hjl ?_; intro w2 hg2 hB2) | fail)
      go_ret
      obtain ⟨us, hR, hvs, hF1, hF2⟩ := hF.cut hml
      obtain ⟨kc, vc, rfl, hRk, hRv⟩ := hR
      have hset : vs.set (m * 2 + 1) (.slice VA u.val.length VC) = vs.take (m * 2) ++ [kc, .slice VA u.val.length VC] ++ vs.drop ((m + 1) * 2) := by
        have e : (vs.take (m * 2)).length = m * 2 := by rw [List.length_take]; have := hvl.out; omega
        conv => lhs; rw [show vs = vs.take (m * 2) ++ [kc, vc] ++ vs.drop ((m + 1) * 2) from hvs]
        rw [List.append_assoc, List.set_append, if_neg (by omega), e, show m * 2 + 1 - m * 2 = 1 by omega, List.append_assoc]
        rfl
      have hne : ∀ k, lo ≤ k ∧ k < w1.heap.size ∧ some k ≠ Value.ownBlock (.slice (some ⟨g, 0, none⟩) cur.length c) → w2.heap[k]? = w1.heap[k]? := fun k hk => hg2.block k hk.2.1 hk.2.2
      have hsz2 := hg2.size
      have hlen : (doneW u cur).length = cur.length := by rw [HD.out]; simp; omega
      rw [RowEnd]
      refine ⟨some ⟨g, 0, none⟩, c, by rw [hlen]; rfl, ?_, grownT (hgr.out _) hg2, .inl rfl⟩
      rw [hlen]
      refine ⟨vs.set (m * 2 + 1) (.slice VA u.val.length VC), ⟨by rw [List.length_set, hlen]; exact h1.out.1, .inr ⟨g, c, (cells.toList.set (m * 2 + 1) (.slice VA u.val.length VC)).toArray, by rw [hlen], hbg, hB2, by omega, hcm, ?_, ?_⟩⟩, ?_⟩
      · rw [List.size_toArray, List.length_set, Array.length_toList]; exact hcs.out
      · rw [hlen, ← hct.out, List.take_set]; rfl
      · rw [hset, HD.out]
        have hRn : Elt.pq.R (fun k => lo ≤ k ∧ k < w1.heap.size ∧ some k ≠ Value.ownBlock (.slice (some ⟨g, 0, none⟩) cur.length c)) w1 ⟨u.key, u.val⟩ [kc, .slice VA u.val.length VC] := ⟨_, _, rfl, by rw [← hkey.out]; exact hRk, hv1.weak fun k hk => by
          have := hS.out k hk
          exact ⟨this.1, by omega, this.2.2⟩⟩
        have hall := (hF1.append ((Flat.single hRn).append hF2)).keep hne
        rw [List.append_assoc]
        exact hall.weak fun k hk => ⟨hk.1, by omega, hk.2.2⟩
  | false =>
    cases hgo : u.gone with
    | true =>
      rw [hgo] at b2
      have HD := Lib.hid (show doneW u cur = cur by unfold doneW; rw [if_pos hgo, hdel.out, if_neg (by rw [his]; simp)])
      clear his hgo hiq
      go_wp2_with fail
      go_ret
      rw [RowEnd, HD.out]
      exact ⟨_, _, rfl, hO1, hgr.out _, .inl rfl⟩
    | false =>
      rw [hgo] at b2
      have HD := Lib.hid (show doneW u cur = cur.take m ++ ⟨u.key, u.val⟩ :: cur.drop m by unfold doneW; rw [if_neg (by rw [hgo]; simp), hins.out, if_neg (by rw [his]; simp), hmq.out])
      clear his hgo hiq
      go_wp2_with (first | (refine wpList_buildOne pqP rfl rfl rfl (us := [.slice KA u.key.length KC, .slice VA u.val.length VC]) rfl rfl (by decide) (by decide) ?_; intro w2 hb2 hrow) | fail)
      have hO2 := hO1.below hb2
      obtain ⟨vs, hQ, hF⟩ := hO2.rowQ
      have hz2 := hb2.size
      refine (insert_p w2 hQ hm (by omega) (by decide) hrow rfl (fun y hy => by
        simp only [List.mem_cons, List.not_mem_nil, or_false] at hy
        rcases hy with rfl | rfl <;> rfl) (fun e => by have := hob.out _ e; omega)).mono ?_
      rintro e w3 ⟨v', rfl, hT⟩
      have hRn : Elt.pq.R (fun k => lo ≤ k ∧ k < w2.heap.size ∧ some k ≠ Value.ownBlock (.slice a cur.length c)) w2 ⟨u.key, u.val⟩ [.slice KA u.key.length KC, .slice VA u.val.length VC] := ⟨_, _, rfl, (hk1.below hb2).weak fun k hk => by
          have := hS.out k hk
          exact ⟨this.1, by omega, this.2.2⟩, (hv1.below hb2).weak fun k hk => by
          have := hS.out k hk
          exact ⟨this.1, by omega, this.2.2⟩⟩
      have hO3 := hO2.rowTo (xs' := cur.take m ++ ⟨u.key, u.val⟩ :: cur.drop m) hT (by rw [List.append_assoc]; exact (Flat.take hF m).append ((Flat.single hRn).append (Flat.drop hF m))) (by simp; omega) (by omega)
      have hg2 := hT.2.1
      rw [← HD.out] at hO3
      obtain ⟨a', c', rfl⟩ := hO3.shape
      go_wp2_with fail
      go_ret
      exact ⟨a', c', rfl, hO3, grownT (grownT (hgr.out _) (grownB hb2 _)) hg2, hT.2.2.imp id fun ⟨k, h1, h2⟩ => ⟨k, h1, Nat.le_trans (hgr.out none).size (Nat.le_trans hb2.size h2)⟩⟩
end Go.Proofs.Ytjbdkhddnblieaa
namespace Go.Proofs.Ytjbdkhddnblieaa
open Go.RowKit Go.Shelf
theorem plS : StP Try.prog 62 2 := StP.of (by kernel_rfl)
set_option maxRecDepth 100000 in
theorem plEqual (m n : Int) (xs ys : List UInt8) (w : World) : (Op.equalIn 10000 62 (.agg #[.int .i64 m, .string (strOf xs)]) (.agg #[.int .i64 n, .string (strOf ys)])).run Try.prog w = .ok (decide ((⟨m, xs⟩ : Plc) = ⟨n, ys⟩)) w := by
  have hS : Try.prog.underlying 62 = some (.struct (Try.prog.fieldsOf 62)) := by kernel_rfl
  have hp : Try.prog.stoodInHeld 62 = false := by kernel_rfl
  have u3 : Try.prog.underlying 3 = some (.int .i64) := by kernel_rfl
  have u9 : Try.prog.underlying 9 = some .string := by kernel_rfl
  rw [show (10000 : Nat) = 9999 + 1 from rfl, run_equalIn_agg w 9999 62 _ _ hS hp]
  simp only [Program.fieldsOf, Try.underlying62]
  go_simp
  by_cases h1 : m = n <;> by_cases h2 : xs = ys <;> simp [h1, h2, strOf]
section
variable {t : TypeId} {o : Oper} {a : Act} {K : Act → World → Prop} {Q : Exit → Act → World → Prop} {w : World}
theorem wp_eqP {x y : Operand} {m n : Int} {xs ys : List UInt8} (ho : o.op = .binOp .eql 62 x y t) (hx : a.eval x = .agg #[.int .i64 m, .string (strOf xs)]) (hy : a.eval y = .agg #[.int .i64 n, .string (strOf ys)])
    (h : K (a.put o.dst (.bool (decide ((⟨m, xs⟩ : Plc) = ⟨n, ys⟩)))) w) : o.wp Try.prog a w K Q := by
  have hm : Try.prog.eqGuardType Try.prog.depth 62 = false := by kernel_rfl
  refine wp_run' ?_ h
  simp only [execOp, ho, hx, hy]
  simp [run_eqGuard_agg w _ 62 _ _ _ _ hm, run_eql_struct, plEqual, go_sem]
end
set_option maxRecDepth 100000 in
set_option maxHeartbeats 4000000 in
theorem placed_any (w : World) {S : Nat → Prop} {v : Value} {x : Wr} (h : RdWr S w v x) :
    Calls Try.prog 37 #[v] w fun e w' => e = .returned (.agg #[.int .i64 x.table, .string (strOf x.key)]) ∧ Below w.heap.size w w' := by
  obtain ⟨a, c, a2, c2, rfl, hk, hv, ht⟩ := h
  have q : Below w.heap.size w ((w.alloc (.cells #[.int .i64 x.table, .slice a x.key.length c, .bool x.gone, .slice a2 x.val.length c2] 28)).alloc (.cells #[.int .i64 0, .string ByteArray.empty] 62)) := ((Below.refl _ w).alloc (Nat.le_refl _) _).alloc (by simp) _
  go_enter Try.func37, Try.ntmps37
  go_wp2_with (first | (refine wpList_conv byP rfl rfl rfl ((hk.below q).rd) ?_) | fail)
  have b2 := BoxN.new (w.alloc (.cells #[.int .i64 x.table, .slice a x.key.length c, .bool x.gone, .slice a2 x.val.length c2] 28)) 62 [.int .i64 x.table, .string (strOf x.key)]
  have s1 : (w.alloc (.cells #[.int .i64 x.table, .slice a x.key.length c, .bool x.gone, .slice a2 x.val.length c2] 28)).heap.size = w.heap.size + 1 := World.size_alloc _ _
  rw [s1] at b2
  have d0 := b2.cell (i := 0) rfl
  have d1 := b2.cell (i := 1) rfl
  obtain ⟨fs, hu, _⟩ := plS.hu
  exact bodyPost_ret (v := .agg #[.int .i64 x.table, .string (strOf x.key)]) (by simp [results, Try.results37, go_sem, loadVar, isAgg, run_underlying hu, run_sizeOf' plS.hs, loadCellsFrom, Addr.add, d0, d1]) rfl ⟨rfl, ((Below.refl _ w).alloc (Nat.le_refl _) _).alloc (by simp) _⟩
def CalJ (W : World) (u : Value) : List Value → World → Prop
  | [], V => Below W.heap.size W V
  | v :: _, V => Below W.heap.size W V ∧ v = u
theorem CalJ.base {W V : World} {u : Value} : ∀ {l : List Value}, CalJ W u l V → Below W.heap.size W V
  | [], h => h
  | _ :: _, h => h.1
theorem CalJ.below {W : World} {u : Value} : ∀ (l : List Value) (V V' : World), CalJ W u l V → Below V.heap.size V V' → CalJ W u l V'
  | [], _, _, h, hb => Below.trans h (hb.mono (Below.size h))
  | _ :: _, _, _, ⟨h, e⟩, hb => ⟨h.trans (hb.mono h.size), e⟩
set_option maxRecDepth 100000 in
set_option maxHeartbeats 4000000 in
theorem findIs_any (w : World) {S : Nat → Prop} {v : Value} {x : Wr} {p : Plc} {pb : Nat} (h : RdWr S w v x) (bp : BoxN w pb 62 [.int .i64 p.table, .string (strOf p.key)]) :
    Calls Try.prog 36 #[v, .pointer (some ⟨pb, 0, none⟩)] w fun e w' => e = .returned (.bool (decide (x.plc = p))) ∧ Below w.heap.size w w' := by
  have hx := h
  obtain ⟨KA, KC, VA, VC, rfl, hk, hv, ht⟩ := h
  have eP : ∀ args w, (callFunc 37 args).run Try.prog w = .ok (.enter 37 args) w := enters_of Try.func37 (by kernel_rfl) rfl
  have bx := BoxN.new w 28 [.int .i64 x.table, .slice KA x.key.length KC, .bool x.gone, .slice VA x.val.length VC]
  obtain ⟨W, hW⟩ : ∃ W, W = w.alloc (.cells #[.int .i64 x.table, .slice KA x.key.length KC, .bool x.gone, .slice VA x.val.length VC] 28) := ⟨_, rfl⟩
  have q : Below w.heap.size w W := by rw [hW]; exact (Below.refl _ _).alloc (Nat.le_refl _) _
  rw [show w.alloc (.cells [.int .i64 x.table, .slice KA x.key.length KC, .bool x.gone, .slice VA x.val.length VC].toArray 28) = W from hW.symm] at bx
  replace bp := bp.below q bp.lt
  go_enter Try.func36, Try.ntmps36
  go_upto_region 1 with (fail)
  rw [← hW]
  clear hW
  refine wp_region_lnl (K := fun _ _ => True) (by kernel_rfl) (by kernel_rfl) [1] (by kernel_rfl) [lEq (.agg #[.int .i64 x.table, .slice KA x.key.length KC, .bool x.gone, .slice VA x.val.length VC]), lAny, lEq (.agg #[.int .i64 p.table, .string (strOf p.key)]), lEq (.bool (decide (x.plc = p))), lEq (.bool (decide (x.plc = p)))] (CalJ W (.agg #[.int .i64 x.table, .string (strOf x.key)])) CalJ.below (show Below W.heap.size W W from Below.refl _ _)
    ⟨?o0, ?o1, ?o2, ?o3, ?o4, trivial⟩ ?fin
  case o0 =>
    refine LnOp.side rfl (by kernel_rfl) (fun A va w' k hF hT hk hJ hb hu hp hd => ?_)
    have e1 : A.eval (.tmp 2) = .pointer (some ⟨w.heap.size, 0, none⟩) := hF 2 rfl
    have hX2 := bx.below (CalJ.base hJ) bx.lt
    exact wp_load4 wrS rfl e1 (hX2.cell (i := 0) rfl) (hX2.cell (i := 1) rfl) (hX2.cell (i := 2) rfl) (hX2.cell (i := 3) rfl) ⟨_, rfl, rfl, Below.refl _ _⟩
  case o1 =>
    refine LnOp.line 0 rfl rfl (fun A va w' hF hT hJ hu hd => ?_)
    have e1 : A.eval (.tmp 4) = .agg #[.int .i64 x.table, .slice KA x.key.length KC, .bool x.gone, .slice VA x.val.length VC] := (hT 4 0 (by simp) rfl).trans (hd ⟨0, .data⟩ (by simp) rfl rfl)
    have hJ0 : Below W.heap.size W w' := hJ
    refine wp_callFn rfl eP (by simp only [List.map_toArray, List.map_cons, List.map_nil, e1]) ((placed_any w' ((hx.below q).below hJ0)).mono ?_)
    rintro e w2 ⟨rfl, hb2⟩
    exact ⟨_, rfl, _, rfl, ⟨hJ0.trans (hb2.mono hJ0.size), rfl⟩, trivial⟩
  case o2 =>
    refine LnOp.side rfl (by kernel_rfl) (fun A va w' k hF hT hk hJ hb hu hp hd => ?_)
    have e1 : A.eval (.tmp 1) = .pointer (some ⟨pb, 0, none⟩) := hF 1 rfl
    have hP2 := bp.below (CalJ.base hJ) bp.lt
    exact wp_load2 plS rfl e1 (hP2.cell (i := 0) rfl) (hP2.cell (i := 1) rfl) ⟨_, rfl, rfl, Below.refl _ _⟩
  case o3 =>
    refine LnOp.side rfl (by kernel_rfl) (fun A va w' k hF hT hk hJ hb hu hp hd => ?_)
    have x1 : A.eval (.tmp 5) = va 1 := hT 5 1 (by simp) rfl
    have e2 : A.eval (.tmp 6) = .agg #[.int .i64 p.table, .string (strOf p.key)] := (hT 6 2 (by simp) rfl).trans (hd ⟨2, .data⟩ (by simp) rfl rfl)
    obtain rfl : k = 1 := by
      have h1 := hp ⟨1, .data⟩ (by simp) rfl 0 rfl
      have h3 : k ≤ 1 := by assumption
      omega
    obtain ⟨_, hv⟩ : Below W.heap.size W w' ∧ va 1 = .agg #[.int .i64 x.table, .string (strOf x.key)] := hJ
    exact wp_eqP rfl (x1.trans hv) e2 ⟨_, rfl, rfl, Below.refl _ _⟩
  case o4 =>
    refine LnOp.side rfl (by kernel_rfl) (fun A va w' k hF hT hk hJ hb hu hp hd => ?_)
    have e1 : A.eval (.tmp 7) = .bool (decide (x.plc = p)) := (hT 7 3 (by simp) rfl).trans (hd ⟨3, .data⟩ (by simp) rfl rfl)
    exact BigFrame.wp_assign _ rfl ⟨_, rfl, e1, Below.refl _ _⟩
  case fin =>
    intro vs1 W9 hJ hG
    have g3 : vs1 3 = .bool (decide (x.plc = p)) := hG 3 (by decide) rfl
    have g4 : vs1 4 = .bool (decide (x.plc = p)) := hG 4 (by decide) rfl
    have hb9 : Below W.heap.size W W9 := CalJ.base hJ
    clear hG hJ
    simp only [putAll, g3, g4]
    clear g3 g4
    go_simp
    go_wp2_with fail
    go_ret
    exact ⟨rfl, q.trans (hb9.mono q.size)⟩
end Go.Proofs.Ytjbdkhddnblieaa
