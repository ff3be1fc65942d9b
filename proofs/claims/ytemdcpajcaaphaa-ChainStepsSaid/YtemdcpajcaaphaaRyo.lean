/-
  LAWS ON SLICES OF SLICES OF BYTES THAT ARE THE CALL's OWN: what it is to hold rows that read as bytes; an append of one, of several; what an elder reading makes of it. Over whatever program; no condition beyond each theorem's own.
-/
import Derived.WalkKit
import Derived.Maps.AppendAt
import Derived.Test.YtemdcpajcaaphaaMat
namespace Go.Proofs.Ytemdcpajcaaphaa
open Go.RowKit

/-- What a program must have: its type [][]byte over []byte. -/
structure RyP (P : Program) (T2 T : TypeId) : Prop where
  hT : P.underlying T2 = some (.slice T)
  hi : (P.info? T).map (fun i => (i.zero, i.size, i.bytes)) = some (some (.slice none 0 0), 1, 24)
theorem RyP.info {P : Program} {T2 T : TypeId} (h : RyP P T2 T) : ∃ i, P.info? T = some i ∧ i.zero = some (.slice none 0 0) ∧ i.size = 1 ∧ i.bytes = 24 := by
  have := h.hi
  cases hi : P.info? T with
  | none => simp [hi] at this
  | some i => simp [hi] at this; exact ⟨i, rfl, this⟩

/-- The value reads as these bytes, its block is not that one. -/
def RdNo (g : Option Nat) (B : Nat) (w : World) (v : Value) (xs : List UInt8) : Prop :=
  (∃ a c, v = .slice a 0 c ∧ c ≤ maxLen ∧ xs = []) ∨
  ∃ b off cap, v = .slice (some ⟨b, off, none⟩) xs.length cap ∧ some b ≠ g ∧ b < B ∧ xs.length ≤ cap ∧ cap ≤ maxLen ∧ ∀ j u, (bv xs)[j]? = some u → w.cell? ⟨b, off + j, none⟩ = some u
theorem RdNo.rd {g : Option Nat} {B : Nat} {w : World} {v : Value} {xs : List UInt8} (h : RdNo g B w v xs) : Rd B w v xs := by
  rcases h with h | ⟨b, off, cap, h1, _, h2⟩
  · exact .inl h
  · exact .inr ⟨b, off, cap, h1, h2⟩
theorem Rd.no {g : Option Nat} {B : Nat} {w : World} {v : Value} {xs : List UInt8} (h : Rd B w v xs) (hg : ∀ k, g = some k → B ≤ k) : RdNo g B w v xs := by
  rcases h with h | ⟨b, off, cap, h1, hB, h2⟩
  · exact .inl h
  · exact .inr ⟨b, off, cap, h1, fun e => by have := hg b e.symm; omega, hB, h2⟩
/-- Over the growth of the block that it does not lie in. -/
theorem RdNo.grown {g g' : Option Nat} {B : Nat} {w w' : World} {v : Value} {xs : List UInt8} (h : RdNo g B w v xs) (hg : w.grownBy w' g) (hB : B ≤ w.heap.size) (hg' : g' = g ∨ ∀ k, g' = some k → B ≤ k) : RdNo g' B w' v xs := by
  rcases h with h | ⟨b, off, cap, h1, hne, hb, h2, h3, h4⟩
  · exact .inl h
  · refine .inr ⟨b, off, cap, h1, ?_, hb, h2, h3, fun j u hj => ?_⟩
    · rcases hg' with rfl | hg'
      · exact hne
      · exact fun e => by have := hg' b e.symm; omega
    · rw [← h4 j u hj]; simp [World.cell?, hg.block b (by omega) hne]
theorem RdNo.mono {g : Option Nat} {B B' : Nat} {w : World} {v : Value} {xs : List UInt8} (h : RdNo g B w v xs) (hB : B ≤ B') : RdNo g B' w v xs := by
  rcases h with h | ⟨b, off, cap, h1, hne, hb, h2⟩
  · exact .inl h
  · exact .inr ⟨b, off, cap, h1, hne, by omega, h2⟩

/-- Values that read as rows, none of them in that block. -/
def RowsNo (g : Option Nat) (B : Nat) (w : World) (vs : List Value) (xss : List (List UInt8)) : Prop :=
  vs.length = xss.length ∧ ∀ r (h : r < xss.length), ∃ A L C, vs[r]? = some (.slice A L C) ∧ RdNo g B w (.slice A L C) xss[r]
theorem RdNo.slice {g : Option Nat} {B : Nat} {w : World} {v : Value} {xs : List UInt8} (h : RdNo g B w v xs) : ∃ A L C, v = .slice A L C := by
  rcases h with ⟨a, c, h, _⟩ | ⟨b, off, cap, h, _⟩ <;> exact ⟨_, _, _, h⟩
theorem RowsNo.nil (g : Option Nat) (B : Nat) (w : World) : RowsNo g B w [] [] := ⟨rfl, fun r h => by simp at h⟩
theorem RowsNo.append {g : Option Nat} {B : Nat} {w : World} {vs us : List Value} {xss yss : List (List UInt8)} (h : RowsNo g B w vs xss) (k : RowsNo g B w us yss) : RowsNo g B w (vs ++ us) (xss ++ yss) := by
  refine ⟨by simp [h.1, k.1], fun r hr => ?_⟩
  rcases Nat.lt_or_ge r xss.length with hlt | hge
  · obtain ⟨A, L, C, e, hr2⟩ := h.2 r hlt
    refine ⟨A, L, C, by rw [List.getElem?_append_left (by rw [h.1]; exact hlt)]; exact e, ?_⟩
    rw [List.getElem_append_left hlt]; exact hr2
  · obtain ⟨A, L, C, e, hr2⟩ := k.2 (r - xss.length) (by simp at hr; omega)
    refine ⟨A, L, C, by rw [List.getElem?_append_right (by rw [h.1]; exact hge), h.1]; exact e, ?_⟩
    rw [List.getElem_append_right hge]; exact hr2
theorem RowsNo.one {g : Option Nat} {B : Nat} {w : World} {v : Value} {xs : List UInt8} (h : RdNo g B w v xs) : RowsNo g B w [v] [xs] := by
  obtain ⟨A, L, C, rfl⟩ := h.slice
  refine ⟨rfl, fun r hr => ?_⟩
  obtain rfl : r = 0 := by simpa using hr
  exact ⟨A, L, C, rfl, h⟩
theorem RowsNo.grown {g g' : Option Nat} {B : Nat} {w w' : World} {vs : List Value} {xss : List (List UInt8)} (h : RowsNo g B w vs xss) (hg : w.grownBy w' g) (hB : B ≤ w.heap.size) (hg' : g' = g ∨ ∀ k, g' = some k → B ≤ k) : RowsNo g' B w' vs xss :=
  ⟨h.1, fun r hr => let ⟨A, L, C, e, h2⟩ := h.2 r hr; ⟨A, L, C, e, h2.grown hg hB hg'⟩⟩
theorem RowsNo.mono {g : Option Nat} {B B' : Nat} {w : World} {vs : List Value} {xss : List (List UInt8)} (h : RowsNo g B w vs xss) (hB : B ≤ B') : RowsNo g B' w vs xss :=
  ⟨h.1, fun r hr => let ⟨A, L, C, e, h2⟩ := h.2 r hr; ⟨A, L, C, e, h2.mono hB⟩⟩
theorem RowsNo.oneCell {g : Option Nat} {B : Nat} {w : World} {vs : List Value} {xss : List (List UInt8)} (h : RowsNo g B w vs xss) : ∀ u ∈ vs, u.oneCell' = true := by
  intro u hu
  obtain ⟨r, hr, e2⟩ := List.mem_iff_getElem.1 hu
  obtain ⟨A, L, C, e, _⟩ := h.2 r (by rw [← h.1]; exact hr)
  rw [List.getElem?_eq_getElem hr, e2] at e
  cases e
  rfl

/-- A slice of slices of bytes that is the call's own. -/
def OwnR (T : TypeId) (base : Nat) (w : World) (v : Value) (xss : List (List UInt8)) : Prop :=
  ∃ vs, w.ownsRow base T 1 v xss.length vs ∧ RowsNo v.ownBlock w.heap.size w vs xss
section
variable {T : TypeId} {base : Nat} {w w' : World} {v : Value} {xss : List (List UInt8)}
theorem OwnR.nil (T : TypeId) (base : Nat) (w : World) : OwnR T base w (.slice none 0 0) [] := ⟨[], World.ownsRow_nil _ _ _ _, RowsNo.nil _ _ _⟩
theorem OwnR.shape (h : OwnR T base w v xss) : ∃ a cap, v = .slice a xss.length cap := by
  obtain ⟨vs, h, _⟩ := h
  rcases h.2 with ⟨rfl, h0⟩ | ⟨g, cap, cur, rfl, _⟩
  · rw [h0]; exact ⟨none, 0, rfl⟩
  · exact ⟨_, _, rfl⟩
theorem OwnR.len {a : Option Addr} {k c : Nat} (h : OwnR T base w (.slice a k c) xss) : k = xss.length := by
  obtain ⟨_, _, e⟩ := h.shape
  cases e; rfl
theorem OwnR.to {base' : Nat} (h : OwnR T base w v xss) (hb : base' ≤ base) : OwnR T base' w v xss := by
  obtain ⟨vs, h1, h2⟩ := h
  exact ⟨vs, ⟨h1.1, h1.2.imp id fun ⟨g, cap, cur, a, b, c⟩ => ⟨g, cap, cur, a, Nat.le_trans hb b, c⟩⟩, h2⟩
theorem OwnR.block_lt (h : OwnR T base w v xss) : ∀ k, v.ownBlock = some k → base ≤ k ∧ k < w.heap.size := by
  obtain ⟨vs, h1, _⟩ := h
  exact fun k hk => h1.lt k hk
theorem OwnR.below (h : OwnR T base w v xss) (hb : Below w.heap.size w w') : OwnR T base w' v xss := by
  have hlt := h.block_lt
  obtain ⟨vs, h1, h2⟩ := h
  refine ⟨vs, row_below h1 hb, RowsNo.mono ?_ hb.size⟩
  refine ⟨h2.1, fun r hr => ?_⟩
  obtain ⟨A, L, C, e, h3⟩ := h2.2 r hr
  refine ⟨A, L, C, e, ?_⟩
  rcases h3 with h | ⟨b, off, cap, h1, hne, hb', h2, h3, h4⟩
  · exact .inl h
  · exact .inr ⟨b, off, cap, h1, hne, hb', h2, h3, fun j u hj => (hb.cell (p := ⟨b, off + j, none⟩) hb').trans (h4 j u hj)⟩
theorem OwnR.drewN (h : OwnR T base w v xss) (q : Nat) : OwnR T base (w.drewN q) v xss := by
  obtain ⟨vs, h1, h2, h3⟩ := h
  refine ⟨vs, h1, h2, fun r hr => ?_⟩
  obtain ⟨A, L, C, e, h4⟩ := h3 r hr
  refine ⟨A, L, C, e, ?_⟩
  rcases h4 with h | ⟨b, off, cap, h1, hne, hb', h2, h3, h4⟩
  · exact .inl h
  · exact .inr ⟨b, off, cap, h1, hne, hb', h2, h3, fun j u hj => h4 j u hj⟩
/-- It reads as rows. -/
theorem OwnR.rows (h : OwnR T base w v xss) : RdRows w v xss := by
  obtain ⟨vs, h1, h2⟩ := h
  have hx := h1
  rcases h1.2 with ⟨rfl, h0⟩ | ⟨g, cap, cur, rfl, hb, hg, hn, hc, hcs, ht⟩
  · obtain rfl : xss = [] := List.eq_nil_of_length_eq_zero h0
    exact ⟨none, 0, rfl, Nat.le_refl _, by unfold maxLen; omega, .inl rfl⟩
  · refine ⟨_, cap, rfl, hn, hc, .inr ⟨g, 0, rfl, (Array.getElem?_eq_some_iff.1 hg).1, fun r hr => ?_⟩⟩
    obtain ⟨A, L, C, e, h3⟩ := h2.2 r hr
    refine ⟨A, L, C, ?_, h3.rd⟩
    have := hx.cells (g := g) rfl r _ e
    simpa [Addr.add_lit] using this
end

section
variable {P : Program} {T2 T : TypeId} {ops : Array Oper} {rest : List Oper} {o : Oper} {a : Act} {Q : Exit → Act → World → Prop} {w : World}

/-- An append of rows that lie in memory. -/
theorem run_append_rows (hP : RyP P T2 T) (w : World) {base : Nat} (ty : TypeId) {v : Value} {xss yss : List (List UInt8)} {vs : List Value} (hown : OwnR T base w v xss) {p : Addr} {c : Nat}
    (hcells : ∀ j u, vs[j]? = some u → w.cell? (p.add j) = some u) (hrows : RowsNo v.ownBlock w.heap.size w vs yss) (hbase : base ≤ w.heap.size) (hlen : xss.length + yss.length ≤ 1073741824) :
    ∃ v' w', (Builtin.append_ #[T2, T2] ty #[v, .slice (some p) yss.length c]).run P w = .ok v' w' ∧ OwnR T base w' v' (xss ++ yss) ∧ w.grownBy w' v.ownBlock := by
  obtain ⟨i, hi, hz, hsz, hby⟩ := hP.info
  have hlt := hown.block_lt
  obtain ⟨us, hown, hus⟩ := hown
  obtain ⟨v', w', h1, h2, h3, _, h5⟩ := run_append_own_at (P := P) (w := w) base T2 ty T i (.slice none 0 0) 1 24 hP.hT hi hz hsz hby rfl (by decide) v xss.length us hown p yss.length c vs (by rw [hrows.1, Nat.mul_one]) hcells hrows.oneCell
    (by unfold maxLen; omega) (by omega) hbase
  refine ⟨v', w', h1, ⟨us ++ vs, by rw [List.length_append]; exact h2, ?_⟩, h3⟩
  have hg' : v'.ownBlock = v.ownBlock ∨ ∀ k, v'.ownBlock = some k → w.heap.size ≤ k := by
    rcases h5 with h | h
    · exact .inl h
    · exact .inr fun k hk => by rw [h] at hk; injection hk with hk; omega
  exact ((hus.grown h3 (Nat.le_refl _) hg').append (hrows.grown h3 (Nat.le_refl _) hg')).mono h3.size

/-- 'append(v, x)' of one row: the two operations together; v the call's own, the row not in its block. -/
theorem wpList_appendRow (hP : RyP P T2 T) {o' : Oper} {y s : Operand} {d : Tmp} (ho : o.op = .buildSlice T2 1 #[(0, y)]) (hgd' : ∀ u, Region.wanted o' (yielded ops (a.put o.dst u).tmps) = true) (hgd : Region.wanted o (yielded ops a.tmps) = true) (hd : o.dst = some d) (hlt : d < a.tmps.size)
    (ho' : o'.op = .call { callee := .builtin .append, args := #[s, .tmp d], argTypes := #[T2, T2] })
    {base : Nat} {vs : Value} {xss : List (List UInt8)} {ys : List UInt8} {A : Option Addr} {L C : Nat} (hs : ∀ u, (a.put (some d) u).eval s = vs) (hy : a.eval y = .slice A L C) (hown : OwnR T base w vs xss) (hrow : RdNo vs.ownBlock w.heap.size w (.slice A L C) ys)
    (hbase : base ≤ w.heap.size)
    (h : ∀ u ad k cap w', OwnR T base w' (.slice ad k cap) (xss ++ [ys]) → Below base w w' → wpList P ops Q rest ((a.put (some d) u).put o'.dst (.slice ad k cap)) w') (hlen : xss.length ≤ 1073741823) : wpList P ops Q (o :: o' :: rest) a w := by
  obtain ⟨i, hi, hz, hsz, hby⟩ := hP.info
  refine BigFrame.wpList_want hgd fun K hK => ?_
  have hrun : (Instr.buildSlice T2 1 #[(0, .slice A L C)]).run P w = .ok (.slice (some ⟨w.heap.size, 0, none⟩) 1 1) (w.alloc (.cells #[.slice A L C] T)) := by
    simp [Instr.buildSlice, run_underlying hP.hT, sizeOf, typeInfo, zeroValue, hi, hz, hsz, newRow, Value.cells, Instr.fill]
    rw [show Array.range 1 = #[0] by decide]
    simp
  unfold Oper.wp execOp
  simp only [ho, hy, Sem.run_bind, Sem.run_pure, Result.andThen_ok, List.map_toArray, List.map_cons, List.map_nil, hrun]
  refine hK _ _ ?_
  have hgd2 := hgd' (.slice (some ⟨w.heap.size, 0, none⟩) 1 1)
  rw [hd] at hgd2 ⊢
  refine BigFrame.wpList_want hgd2 fun K' hK' => ?_
  have hb1 : Below w.heap.size w (w.alloc (.cells #[.slice A L C] T)) := (Below.refl _ _).alloc (Nat.le_refl _) _
  have hown1 := hown.below hb1
  have hrow1 : RdNo vs.ownBlock (w.alloc (.cells #[.slice A L C] T)).heap.size (w.alloc (.cells #[.slice A L C] T)) (.slice A L C) ys := by
    refine RdNo.mono (B := w.heap.size) ?_ hb1.size
    rcases hrow with h | ⟨b, off, cap, h1, hne, hb', h2, h3, h4⟩
    · exact .inl h
    · exact .inr ⟨b, off, cap, h1, hne, hb', h2, h3, fun j u hj => (hb1.cell (p := ⟨b, off + j, none⟩) hb').trans (h4 j u hj)⟩
  obtain ⟨v', w', hrun2, h2, h3⟩ := run_append_rows hP (w.alloc (.cells #[.slice A L C] T)) (c := 1) o'.type hown1 (p := ⟨w.heap.size, 0, none⟩) (vs := [.slice A L C]) (fun j u hj => by
    obtain ⟨rfl, rfl⟩ : j = 0 ∧ u = .slice A L C := by
      cases j with
      | zero => simp at hj; exact ⟨rfl, hj.symm⟩
      | succ j => simp at hj
    rw [Addr.add_lit, World.cell?]
    simp only [World.alloc, Array.getElem?_push_size]
    rfl) (RowsNo.one hrow1) (Nat.le_trans hbase hb1.size) (by simp; omega)
  obtain ⟨ad, cap, rfl⟩ := h2.shape
  have he : (a.put (some d) (.slice (some ⟨w.heap.size, 0, none⟩) 1 1)).eval (.tmp d) = .slice (some ⟨w.heap.size, 0, none⟩) 1 1 := by simp [Act.eval, Act.put, hlt]
  have hrun3 : (Builtin.append_ #[T2, T2] o'.type #[vs, .slice (some ⟨w.heap.size, 0, none⟩) 1 1]).run P (w.alloc (.cells #[.slice A L C] T)) = _ := hrun2
  unfold Oper.wp execOp
  simp only [ho', resolve, invoke, builtin, Sem.run_bind, Sem.run_pure, Result.andThen_ok, List.map_toArray, List.map_cons, List.map_nil, hs, he, hrun3]
  refine hK' _ _ (h _ _ _ _ _ h2 ?_)
  exact (hb1.mono hbase).trans ((Below.refl base _).grown h3 (Nat.le_trans hbase hb1.size) fun k hk => (hown1.block_lt k hk).1)

/-- 'append(v, x...)', v the call's own, x whatever rows, none of them, nor x, in v's block. -/
theorem wpList_appendRows (hP : RyP P T2 T) {s x : Operand} (ho : o.op = .call { callee := .builtin .append, args := #[s, x], argTypes := #[T2, T2] }) (hgd : Region.wanted o (yielded ops a.tmps) = true)
    {base : Nat} {vs : Value} {w0 : World} {n c : Nat} {ad : Option Addr} {xss yss : List (List UInt8)} (hs : a.eval s = vs) (hown : OwnR T base w vs xss) (hx : a.eval x = .slice ad n c) (hr : RdRows w0 (.slice ad n c) yss) (hb0 : Below w0.heap.size w0 w) (hbase0 : w0.heap.size ≤ base)
    (hbase : base ≤ w.heap.size)
    (h : ∀ ad k cap w', OwnR T base w' (.slice ad k cap) (xss ++ yss) → Below base w w' → wpList P ops Q rest (a.put o.dst (.slice ad k cap)) w') (hlen : xss.length + yss.length ≤ 1073741824) : wpList P ops Q (o :: rest) a w := by
  refine BigFrame.wpList_want hgd fun K hK => ?_
  obtain ⟨i, hi, hz, hsz, hby⟩ := hP.info
  obtain rfl := hr.len.1
  have hbl := hown.block_lt
  have key : ∃ v' w', (Builtin.append_ #[T2, T2] o.type #[vs, .slice ad yss.length c]).run P w = .ok v' w' ∧ OwnR T base w' v' (xss ++ yss) ∧ w.grownBy w' vs.ownBlock := by
    by_cases h0 : yss = []
    · subst h0
      have hsrc : Src P i.size T2 (.slice ad 0 c) 0 [] w := by
        cases ad with
        | none => exact Src.ofNil w hP.hT c
        | some p => exact Src.ofSlice w hP.hT p 0 c [] (by simp) (fun j u h => by simp at h) (fun u h => by cases h)
      obtain ⟨av, cv, rfl⟩ : ∃ a c, vs = .slice a xss.length c := hown.shape
      have hle : xss.length ≤ cv := hown.rows.len.2.1
      exact ⟨_, w, run_append_nothing w T2 T2 o.type T i hP.hT hi av xss.length cv hle _ hsrc, by simpa using hown, ⟨rfl, rfl, rfl, Nat.le_refl _, fun _ _ _ => rfl⟩⟩
    · have hat := fun r hr' => hr.at hb0 r hr'
      obtain ⟨b, off, _, _, _, rfl, hbB, _, _⟩ := hat 0 (List.length_pos_iff.2 h0)
      have hrow : ∀ r (hr' : r < yss.length), ∃ A L C, w.cell? ⟨b, off + r, none⟩ = some (.slice A L C) ∧ Rd w0.heap.size w (.slice A L C) yss[r] := fun r hr' => by
        obtain ⟨b2, off2, A, L, C, e, _, h1, h2⟩ := hat r hr'
        cases e
        exact ⟨A, L, C, h1, h2⟩
      refine run_append_rows hP w o.type hown (vs := (List.range yss.length).map fun r => (w.cell? ⟨b, off + r, none⟩).getD undef) (fun j u hj => ?_) ⟨by simp, fun r hr' => ?_⟩ hbase hlen
      · have hj2 : j < yss.length := by
          rcases Nat.lt_or_ge j yss.length with h | h
          · exact h
          · rw [List.getElem?_eq_none (by simpa using h)] at hj; cases hj
        obtain ⟨A, L, C, h1, _⟩ := hrow j hj2
        simp [hj2, h1] at hj
        rw [Addr.add_lit, h1, hj]
      · obtain ⟨A, L, C, h1, h2⟩ := hrow r hr'
        exact ⟨A, L, C, by simp [hr', h1], (h2.no fun k hk => Nat.le_trans hbase0 (hbl k hk).1).mono (Nat.le_trans hbase0 hbase)⟩
  obtain ⟨v', w', hrun, h2, h3⟩ := key
  obtain ⟨ad', cap, rfl⟩ := h2.shape
  unfold Oper.wp execOp
  simp only [ho, resolve, invoke, builtin, Sem.run_bind, Sem.run_pure, Result.andThen_ok, List.map_toArray, List.map_cons, List.map_nil, hs, hx, hrun]
  exact hK _ _ (h _ _ _ _ h2 ((Below.refl base _).grown h3 hbase fun k hk => (hbl k hk).1))

/-- '[][]byte{}'. -/
theorem wpList_noRows (hP : RyP P T2 T) (ho : o.op = .buildSlice T2 0 #[]) (hgd : Region.wanted o (yielded ops a.tmps) = true)
    (h : ∀ g w', OwnR T w.heap.size w' (.slice (some ⟨g, 0, none⟩) 0 0) [] → Below w.heap.size w w' → wpList P ops Q rest (a.put o.dst (.slice (some ⟨g, 0, none⟩) 0 0)) w') : wpList P ops Q (o :: rest) a w := by
  obtain ⟨i, hi, hz, hsz, hby⟩ := hP.info
  refine BigFrame.wpList_want hgd fun K hK => ?_
  have hrun : (Instr.buildSlice T2 0 #[]).run P w = .ok (.slice (some ⟨w.heap.size, 0, none⟩) 0 0) (w.alloc (.cells #[] T)) := by
    simp [Instr.buildSlice, run_underlying hP.hT, sizeOf, typeInfo, hi, Instr.fill, newRow, show Array.range 0 = #[] from rfl]
  unfold Oper.wp execOp
  simp only [ho, Sem.run_bind, Sem.run_pure, Result.andThen_ok, List.map_toArray, List.map_nil, hrun]
  refine hK _ _ (h _ _ ⟨[], ⟨by simp, .inr ⟨w.heap.size, 0, #[], rfl, Nat.le_refl _, heap_alloc_new w _, Nat.le_refl _, by unfold maxLen; omega, by simp, by simp⟩⟩, RowsNo.nil _ _ _⟩ ((Below.refl _ _).alloc (Nat.le_refl _) _))
end
end Go.Proofs.Ytemdcpajcaaphaa
