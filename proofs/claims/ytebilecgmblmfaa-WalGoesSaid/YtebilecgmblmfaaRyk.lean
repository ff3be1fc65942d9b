/-
  LAWS ON SLICES OF SLICES OF BYTES THAT ARE THE CALL's OWN, GOING ON: fewer rows of one; a store into a variable of two cells; an append of one, with the block that it lies in. Over whatever program; no condition beyond each theorem's own.
-/
import Derived.Maps.AppendAt
import Derived.Test.YtebilecgmblmfaaRyo
import Derived.Test.YtebilecgmblmfaaKept
namespace Go.Proofs.Ytebilecgmblmfaa
open Go.RowKit
theorem RowsNo.take {g : Option Nat} {B : Nat} {w : World} {vs : List Value} {xss : List (List UInt8)} (h : RowsNo g B w vs xss) (k : Nat) : RowsNo g B w (vs.take k) (xss.take k) := by
  refine ⟨by rw [List.length_take, List.length_take, h.1], fun r hr => ?_⟩
  rw [List.length_take] at hr
  obtain ⟨A, L, C, e, h2⟩ := h.2 r (by omega)
  exact ⟨A, L, C, by rw [List.getElem?_take_of_lt (by omega)]; exact e, by rw [List.getElem_take]; exact h2⟩
theorem OwnR.take {T : TypeId} {base : Nat} {w : World} {a : Option Addr} {n c : Nat} {xss : List (List UInt8)} (h : OwnR T base w (.slice a n c) xss) (k : Nat) (hk : k ≤ xss.length) : OwnR T base w (.slice a k c) (xss.take k) := by
  obtain rfl := h.len
  obtain ⟨vs, h1, h2⟩ := h
  have hvl := h2.1
  have e : (xss.take k).length = k := by rw [List.length_take]; omega
  refine ⟨vs.take k, ?_, ?_⟩
  · rw [e]
    refine ⟨by rw [List.length_take, hvl]; omega, ?_⟩
    rcases h1.2 with ⟨hv, h0⟩ | ⟨g, cap, cur, hv, hb, hg, hn, hc, hcs, ht⟩
    · injection hv with e1 e2 e3
      subst e1
      subst e3
      obtain rfl : k = 0 := by omega
      exact .inl ⟨rfl, rfl⟩
    · cases hv
      refine .inr ⟨g, _, cur, rfl, hb, hg, by omega, hc, hcs, ?_⟩
      rw [← ht, List.take_take]
      congr 1
      omega
  · have := h2.take k
    cases a <;> exact this
/-- Over a store into a variable of two cells, none of them a byte. -/
theorem RdNo.box {o : Option Nat} {B : Nat} {t : TypeId} {w w' : World} {v : Value} {xs : List UInt8} {g : Nat} {x y : Value} (h : RdNo o B w v xs) (hB : B ≤ w.heap.size) (hg : w.grownBy w' (some g)) (hx : w.heap[g]? = some (.cells #[x, y] t (0, 0))) (h1 : NotU8 x) (h2 : NotU8 y) : RdNo o B w' v xs := by
  have hr := rd_core h.rd hB hg hx h1 h2
  rcases h with h | ⟨b, off, cap, hv, hne, hb, h3, h4, _⟩
  · exact .inl h
  · rcases hr with ⟨a', c', hv', hm', rfl⟩ | ⟨b2, off2, cap2, hv2, _, _, _, hc⟩
    · exact .inl ⟨_, _, hv, h4, rfl⟩
    · rw [hv] at hv2
      cases hv2
      exact .inr ⟨b, off, cap, hv, hne, hb, h3, h4, hc⟩
theorem OwnR.box {E t : TypeId} {base : Nat} {w w' : World} {v : Value} {xss : List (List UInt8)} {g : Nat} {x y : Value} (hE : E ≠ t) (h : OwnR E base w v xss) (hg : w.grownBy w' (some g)) (hx : w.heap[g]? = some (.cells #[x, y] t (0, 0))) (h1 : NotU8 x) (h2 : NotU8 y) : OwnR E base w' v xss := by
  obtain ⟨vs, h3, h4⟩ := h
  refine ⟨vs, World.ownsRow.kept h3 hg ?_, h4.1, fun r hr => ?_⟩
  · rcases h3.2 with ⟨rfl, _⟩ | ⟨g2, cap, cur, rfl, _, hg2, _⟩
    · exact .inl rfl
    · right
      intro e
      obtain rfl : g2 = g := by simpa [Value.ownBlock] using e
      rw [hx] at hg2
      injection hg2 with h5
      injection h5 with _ h6
      exact hE h6.symm
  · obtain ⟨A, L, C, e, h5⟩ := h4.2 r hr
    exact ⟨A, L, C, e, (h5.box (Nat.le_refl _) hg hx h1 h2).mono hg.size⟩
section
variable {P : Program} {T2 T : TypeId} {ops : Array Oper} {rest : List Oper} {o : Oper} {a : Act} {Q : Exit → Act → World → Prop} {w : World}
theorem run_append_rows2 (hP : RyP P T2 T) (w : World) {base : Nat} (ty : TypeId) {v : Value} {xss yss : List (List UInt8)} {vs : List Value} (hown : OwnR T base w v xss) {p : Addr} {c : Nat}
    (hcells : ∀ j u, vs[j]? = some u → w.cell? (p.add j) = some u) (hrows : RowsNo v.ownBlock w.heap.size w vs yss) (hbase : base ≤ w.heap.size) (hlen : xss.length + yss.length ≤ 1073741824) :
    ∃ v' w', (Builtin.append_ #[T2, T2] ty #[v, .slice (some p) yss.length c]).run P w = .ok v' w' ∧ OwnR T base w' v' (xss ++ yss) ∧ w.grownBy w' v.ownBlock ∧ (v'.ownBlock = v.ownBlock ∨ v'.ownBlock = some w.heap.size) := by
  obtain ⟨i, hi, hz, hsz, hby⟩ := hP.info
  obtain ⟨us, h1, h2⟩ := hown
  obtain ⟨v', w', hr, ho, hg, _, hb⟩ := run_append_own_at (P := P) (w := w) base T2 ty T i (.slice none 0 0) 1 24 hP.hT hi hz hsz hby rfl (by decide) v xss.length us h1 p yss.length c vs (by rw [hrows.1]; omega) hcells hrows.oneCell (by unfold maxLen; omega) (by omega) hbase
  refine ⟨v', w', hr, ⟨us ++ vs, by rw [List.length_append]; exact ho, ?_⟩, hg, hb⟩
  have hg' : v'.ownBlock = v.ownBlock ∨ ∀ k, v'.ownBlock = some k → w.heap.size ≤ k := hb.imp id fun e k hk => by rw [e] at hk; cases hk; exact Nat.le_refl _
  exact RowsNo.mono ((h2.grown hg (Nat.le_refl _) hg').append (hrows.grown hg (Nat.le_refl _) hg')) hg.size
/-- 'append(v, row)', v the call's own: the block that v lies in alone has turned. -/
theorem wpList_appendRow2 (hP : RyP P T2 T) {o' : Oper} {y s : Operand} {d : Tmp} (ho : o.op = .buildSlice T2 1 #[(0, y)]) (hgd' : ∀ u, Region.wanted o' (yielded ops (a.put o.dst u).tmps) = true) (hgd : Region.wanted o (yielded ops a.tmps) = true) (hd : o.dst = some d) (hlt : d < a.tmps.size)
    (ho' : o'.op = .call { callee := .builtin .append, args := #[s, .tmp d], argTypes := #[T2, T2] })
    {base : Nat} {vs : Value} {xss : List (List UInt8)} {ys : List UInt8} {A : Option Addr} {L C : Nat} (hs : ∀ u, (a.put (some d) u).eval s = vs) (hy : a.eval y = .slice A L C) (hown : OwnR T base w vs xss) (hrow : RdNo vs.ownBlock w.heap.size w (.slice A L C) ys)
    (hbase : base ≤ w.heap.size)
    (h : ∀ u ad k cap w', OwnR T base w' (.slice ad k cap) (xss ++ [ys]) → w.grownBy w' vs.ownBlock → (Value.ownBlock (.slice ad k cap) = vs.ownBlock ∨ ∀ k', Value.ownBlock (.slice ad k cap) = some k' → w.heap.size ≤ k') → Below base w w' → wpList P ops Q rest ((a.put (some d) u).put o'.dst (.slice ad k cap)) w') (hlen : xss.length ≤ 1073741823) : wpList P ops Q (o :: o' :: rest) a w := by
  obtain ⟨i, hi, hz, hsz, hby⟩ := hP.info
  refine BigFrame.wpList_want hgd fun K hK => ?_
  have hrun : (Instr.buildSlice T2 1 #[(0, .slice A L C)]).run P w = .ok (.slice (some ⟨w.heap.size, 0, none⟩) 1 1) (w.alloc (.cells #[.slice A L C] T)) := by
    simp [Instr.buildSlice, run_underlying hP.hT, sizeOf, typeInfo, zeroValue, hi, hz, hsz, newRow, Value.cells, Instr.fill]
    rw [show Array.range 1 = #[0] by decide]
    simp
  unfold Oper.wp execOp
  simp only [ho, hy, Sem.run_bind, Sem.run_pure, Result.andThen_ok, List.map_toArray, List.map_cons, List.map_nil, hrun]
  refine hK _ _ ?_
  have hgd2 := hgd' (.slice (some ⟨w.heap.size, 0, none⟩) 1 1)
  rw [hd] at hgd2 ⊢
  refine BigFrame.wpList_want hgd2 fun K' hK' => ?_
  have hb1 : Below w.heap.size w (w.alloc (.cells #[.slice A L C] T)) := (Below.refl _ _).alloc (Nat.le_refl _) _
  have hown1 := hown.below hb1
  have hrow1 : RdNo vs.ownBlock (w.alloc (.cells #[.slice A L C] T)).heap.size (w.alloc (.cells #[.slice A L C] T)) (.slice A L C) ys := by
    refine RdNo.mono (B := w.heap.size) ?_ hb1.size
    rcases hrow with h | ⟨b, off, cap, h1, hne, hb', h2, h3, h4⟩
    · exact .inl h
    · exact .inr ⟨b, off, cap, h1, hne, hb', h2, h3, fun j u hj => (hb1.cell (p := ⟨b, off + j, none⟩) hb').trans (h4 j u hj)⟩
  obtain ⟨v', w', hrun2, h2, h3, h5⟩ := run_append_rows2 hP (w.alloc (.cells #[.slice A L C] T)) (c := 1) o'.type hown1 (p := ⟨w.heap.size, 0, none⟩) (vs := [.slice A L C]) (fun j u hj => by
    obtain ⟨rfl, rfl⟩ : j = 0 ∧ u = .slice A L C := by
      cases j with
      | zero => simp at hj; exact ⟨rfl, hj.symm⟩
      | succ j => simp at hj
    rw [Addr.add_lit, World.cell?]
    simp only [World.alloc, Array.getElem?_push_size]
    rfl) (RowsNo.one hrow1) (Nat.le_trans hbase hb1.size) (by simp; omega)
  obtain ⟨ad, cap, rfl⟩ := h2.shape
  have he : (a.put (some d) (.slice (some ⟨w.heap.size, 0, none⟩) 1 1)).eval (.tmp d) = .slice (some ⟨w.heap.size, 0, none⟩) 1 1 := by simp [Act.eval, Act.put, hlt]
  have hrun3 : (Builtin.append_ #[T2, T2] o'.type #[vs, .slice (some ⟨w.heap.size, 0, none⟩) 1 1]).run P (w.alloc (.cells #[.slice A L C] T)) = _ := hrun2
  unfold Oper.wp execOp
  simp only [ho', resolve, invoke, builtin, Sem.run_bind, Sem.run_pure, Result.andThen_ok, List.map_toArray, List.map_cons, List.map_nil, hs, he, hrun3]
  have hw1 : w.grownBy (w.alloc (.cells #[.slice A L C] T)) vs.ownBlock := ⟨hb1.os, hb1.tape, hb1.output, hb1.size, fun k hk _ => hb1.block k hk⟩
  refine hK' _ _ (h _ _ _ _ _ h2 ⟨h3.os.trans hw1.os, h3.tape.trans hw1.tape, h3.output.trans hw1.output, Nat.le_trans hw1.size h3.size, fun i hi hn => (h3.block i (Nat.lt_of_lt_of_le hi hw1.size) hn).trans (hw1.block i hi hn)⟩ (h5.imp id fun e k hk => ?_) ?_)
  · rw [e] at hk; injection hk with hk; rw [← hk]; exact hb1.size
  · exact (hb1.mono hbase).trans ((Below.refl base _).grown h3 (Nat.le_trans hbase hb1.size) fun k hk => (hown1.block_lt k hk).1)
end
end Go.Proofs.Ytebilecgmblmfaa
