/-
  LAWS ON SLICES OF WHOLE NUMBERS THAT ARE THE CALL's OWN: an append of one; its cells; two rows of unlike types lie apart; a slice's head. Over whatever program; no condition beyond each theorem's own.
-/
import Derived.WalkKit
import Derived.Maps.AppendAt
import Derived.Test.YtebilecgmblmfaaMat
namespace Go.Proofs.Ytebilecgmblmfaa
open Go.RowKit

/-- What a program must have: its type []int. -/
structure InP (P : Program) (T E : TypeId) : Prop where
  hT : P.underlying T = some (.slice E)
  hi : (P.info? E).map (fun i => (i.zero, i.size, i.bytes)) = some (some (.int .i64 0), 1, 8)
theorem InP.info {P : Program} {T E : TypeId} (h : InP P T E) : ∃ i, P.info? E = some i ∧ i.zero = some (.int .i64 0) ∧ i.size = 1 ∧ i.bytes = 8 := by
  have := h.hi
  cases hi : P.info? E with
  | none => simp [hi] at this
  | some i => simp [hi] at this; exact ⟨i, rfl, this⟩

/-- A slice of whole numbers that is the call's own. -/
def OwnI (E : TypeId) (base : Nat) (w : World) (v : Value) (xs : List Int) : Prop := w.ownsRow base E 1 v xs.length (xs.map (Value.int .i64))
section
variable {E : TypeId} {base : Nat} {w w' : World} {v : Value} {xs : List Int}
theorem OwnI.nil (E : TypeId) (base : Nat) (w : World) : OwnI E base w (.slice none 0 0) [] := World.ownsRow_nil _ _ _ _
theorem OwnI.shape (h : OwnI E base w v xs) : ∃ a cap, v = .slice a xs.length cap := by
  rcases h.2 with ⟨rfl, h0⟩ | ⟨g, cap, cur, rfl, _⟩
  · rw [h0]; exact ⟨none, 0, rfl⟩
  · exact ⟨_, _, rfl⟩
theorem OwnI.len {a : Option Addr} {k c : Nat} (h : OwnI E base w (.slice a k c) xs) : k = xs.length := by
  obtain ⟨_, _, e⟩ := h.shape
  cases e; rfl
theorem OwnI.below (h : OwnI E base w v xs) (hb : Below w.heap.size w w') : OwnI E base w' v xs := row_below h hb
theorem OwnI.cells {a : Option Addr} {k c : Nat} (h : OwnI E base w (.slice a k c) xs) (hne : 0 < xs.length) : ∃ g, a = some ⟨g, 0, none⟩ ∧ ∀ j (hj : j < xs.length), w.cell? ⟨g, j, none⟩ = some (.int .i64 xs[j]) := by
  have hx : w.ownsRow base E 1 (.slice a k c) xs.length (xs.map (Value.int .i64)) := h
  rcases h.2 with ⟨_, h0⟩ | ⟨g, cap, cur, hv, _⟩
  · omega
  · cases hv
    refine ⟨g, rfl, fun j hj => ?_⟩
    have := hx.cells (g := g) rfl j (.int .i64 xs[j]) (by simp [hj])
    simpa [Addr.add_lit] using this
end
/-- Rows of unlike types lie apart. -/
theorem rows_apart {E1 E2 : TypeId} (hne : E1 ≠ E2) {w : World} {b1 b2 s1 s2 n1 n2 : Nat} {v1 v2 : Value} {xs1 xs2 : List Value} (h1 : w.ownsRow b1 E1 s1 v1 n1 xs1) (h2 : w.ownsRow b2 E2 s2 v2 n2 xs2) : v1.ownBlock = none ∨ v1.ownBlock ≠ v2.ownBlock := by
  rcases h1.2 with ⟨rfl, _⟩ | ⟨g, cap, cur, rfl, _, hg, _⟩
  · exact .inl rfl
  · right
    intro e
    rcases h2.2 with ⟨rfl, _⟩ | ⟨g2, cap2, cur2, rfl, _, hg2, _⟩
    · simp [Value.ownBlock] at e
    · obtain rfl : g = g2 := by simpa [Value.ownBlock] using e
      rw [hg] at hg2
      injection hg2 with h
      injection h with _ h
      exact hne h
theorem OwnI.apart {E E2 : TypeId} (hne : E ≠ E2) {base b2 : Nat} {w w' : World} {v v2 : Value} {xs : List Int} {ys : List UInt8} (h : OwnI E base w v xs) (h2 : Own E2 b2 w v2 ys) (hg : w.grownBy w' v2.ownBlock) : OwnI E base w' v xs := by
  obtain ⟨n, h2⟩ := h2
  exact World.ownsRow.kept h hg (rows_apart hne h h2)
theorem Own.apart {E E2 : TypeId} (hne : E2 ≠ E) {base b2 : Nat} {w w' : World} {v v2 : Value} {xs : List Int} {ys : List UInt8} (h2 : Own E2 b2 w v2 ys) (h : OwnI E base w v xs) (hg : w.grownBy w' v.ownBlock) : Own E2 b2 w' v2 ys := by
  obtain ⟨n, h2⟩ := h2
  exact ⟨n, World.ownsRow.kept h2 hg (rows_apart hne h2 h)⟩

section
variable {P : Program} {T E : TypeId} {ops : Array Oper} {rest : List Oper} {o : Oper} {a : Act} {Q : Exit → Act → World → Prop} {w : World}
/-- 'append(v, n)' of one whole number: the two operations together; v the call's own. -/
theorem wpList_appendInt (hP : InP P T E) {o' : Oper} {y s : Operand} {d : Tmp} (ho : o.op = .buildSlice T 1 #[(0, y)]) (hgd' : ∀ u, Region.wanted o' (yielded ops (a.put o.dst u).tmps) = true) (hgd : Region.wanted o (yielded ops a.tmps) = true) (hd : o.dst = some d) (hlt : d < a.tmps.size)
    (ho' : o'.op = .call { callee := .builtin .append, args := #[s, .tmp d], argTypes := #[T, T] })
    {base : Nat} {vs : Value} {xs : List Int} {n : Int} (hs : ∀ u, (a.put (some d) u).eval s = vs) (hy : a.eval y = .int .i64 n) (hown : OwnI E base w vs xs)
    (hbase : base ≤ w.heap.size)
    (h : ∀ u ad k cap w1 w', OwnI E base w' (.slice ad k cap) (xs ++ [n]) → Below base w w' → Below w.heap.size w w1 → OwnI E base w1 vs xs → w1.grownBy w' vs.ownBlock → wpList P ops Q rest ((a.put (some d) u).put o'.dst (.slice ad k cap)) w') (hlen : xs.length ≤ 1073741823) : wpList P ops Q (o :: o' :: rest) a w := by
  obtain ⟨i, hi, hz, hsz, hby⟩ := hP.info
  refine BigFrame.wpList_want hgd fun K hK => ?_
  have hrun : (Instr.buildSlice T 1 #[(0, .int .i64 n)]).run P w = .ok (.slice (some ⟨w.heap.size, 0, none⟩) 1 1) (w.alloc (.cells #[.int .i64 n] E)) := by
    simp [Instr.buildSlice, run_underlying hP.hT, sizeOf, typeInfo, zeroValue, hi, hz, hsz, newRow, Value.cells, Instr.fill]
    rw [show Array.range 1 = #[0] by decide]
    simp
  unfold Oper.wp execOp
  simp only [ho, hy, Sem.run_bind, Sem.run_pure, Result.andThen_ok, List.map_toArray, List.map_cons, List.map_nil, hrun]
  refine hK _ _ ?_
  have hgd2 := hgd' (.slice (some ⟨w.heap.size, 0, none⟩) 1 1)
  rw [hd] at hgd2 ⊢
  refine BigFrame.wpList_want hgd2 fun K' hK' => ?_
  have hb1 : Below w.heap.size w (w.alloc (.cells #[.int .i64 n] E)) := (Below.refl _ _).alloc (Nat.le_refl _) _
  have hown1 : OwnI E base (w.alloc (.cells #[.int .i64 n] E)) vs xs := hown.below hb1
  obtain ⟨v', w', hrun2, h2, h3, _⟩ := run_append_own_at (P := P) (w := w.alloc (.cells #[.int .i64 n] E)) base T o'.type E i (.int .i64 0) 1 8 hP.hT hi hz hsz hby rfl (by decide) vs xs.length (xs.map (Value.int .i64)) hown1 ⟨w.heap.size, 0, none⟩ 1 1 [.int .i64 n] rfl
    (fun j u hj => by
      obtain ⟨rfl, rfl⟩ : j = 0 ∧ u = .int .i64 n := by
        cases j with
        | zero => simp at hj; exact ⟨rfl, hj.symm⟩
        | succ j => simp at hj
      rw [Addr.add_lit, World.cell?]
      simp only [World.alloc, Array.getElem?_push_size]
      rfl) (by simp [Value.oneCell']) (by unfold maxLen; omega) (by omega) (Nat.le_trans hbase hb1.size)
  have h2' : OwnI E base w' v' (xs ++ [n]) := by unfold OwnI; simpa using h2
  obtain ⟨ad, cap, rfl⟩ := h2'.shape
  have he : (a.put (some d) (.slice (some ⟨w.heap.size, 0, none⟩) 1 1)).eval (.tmp d) = .slice (some ⟨w.heap.size, 0, none⟩) 1 1 := by simp [Act.eval, Act.put, hlt]
  unfold Oper.wp execOp
  simp only [ho', resolve, invoke, builtin, Sem.run_bind, Sem.run_pure, Result.andThen_ok, List.map_toArray, List.map_cons, List.map_nil, hs, he, hrun2]
  refine hK' _ _ (h _ _ _ _ _ _ h2' ?_ hb1 hown1 h3)
  exact (hb1.mono hbase).trans ((Below.refl base _).grown h3 (Nat.le_trans hbase hb1.size) fun k hk => (World.ownsRow.lt hown1 k hk).1)

/-- 'x[:hi]' of whatever slice: the same block, fewer elements. -/
theorem wpList_sliceHi {x hi : Operand} (hT : P.underlying T = some (.slice E)) (hsz : (P.info? E).isSome = true) (ho : o.op = .slice T x none (some hi) none) (hgd : Region.wanted o (yielded ops a.tmps) = true) {ad : Option Addr} {n c k : Nat} {i : Int} (hx : a.eval x = .slice ad n c) (hh : a.eval hi = .int .i64 i)
    (h : wpList P ops Q rest (a.put o.dst (.slice ad k c)) w) (hi' : i = (k : Int)) (hk : k ≤ c) : wpList P ops Q (o :: rest) a w := by
  subst hi'
  refine BigFrame.wpList_want hgd fun K hK => ?_
  obtain ⟨inf, hinf⟩ := Option.isSome_iff_exists.1 hsz
  have hrun : (Instr.sliceAt T (.slice ad n c) none (some (.int .i64 k)) none).run P w = .ok (.slice ad k c) w := by
    cases ad with
    | none => simp [Instr.sliceAt, Instr.slice, Instr.sliceBounds, Instr.sliceBound, asIntOf, run_underlying hT, sizeOf, typeInfo, hinf, hk]
    | some p => simp [Instr.sliceAt, Instr.slice, Instr.sliceBounds, Instr.sliceBound, asIntOf, run_underlying hT, sizeOf, typeInfo, hinf, hk, Addr.add]
  unfold Oper.wp execOp
  simp only [ho, hx, hh, Option.map_none, Option.map_some, Sem.run_bind, Sem.run_pure, Result.andThen_ok, hrun]
  exact hK _ _ h
end
theorem RdRows.take {w : World} {ad : Option Addr} {n c : Nat} {xss : List (List UInt8)} (h : RdRows w (.slice ad n c) xss) (k : Nat) (hk : k ≤ xss.length) : RdRows w (.slice ad k c) (xss.take k) := by
  obtain ⟨a', cap, hv, h1, h2, h3⟩ := h
  cases hv
  have hl : (xss.take k).length = k := by rw [List.length_take]; omega
  refine ⟨ad, c, by rw [hl], by omega, h2, ?_⟩
  rcases h3 with rfl | ⟨b, off, rfl, hb, hr⟩
  · exact .inl (by simp)
  · refine .inr ⟨b, off, rfl, hb, fun r hr' => ?_⟩
    obtain ⟨A, L, C, e1, e2⟩ := hr r (by omega)
    exact ⟨A, L, C, e1, by rw [List.getElem_take]; exact e2⟩
end Go.Proofs.Ytebilecgmblmfaa
