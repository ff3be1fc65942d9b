/-
  LAWS ON SLICES OF BYTES, GOING ON: a slice cut by three indexes. Over whatever program; no condition beyond each theorem's own.
-/
import Derived.Test.YtebilecgmblmfaaByte
namespace Go.Proofs.Ytebilecgmblmfaa
open Go.RowKit
section
variable {P : Program} {T E S : TypeId} {ops : Array Oper} {rest : List Oper} {o : Oper} {a : Act} {Q : Exit → Act → World → Prop} {w : World}

theorem run_bounds3 (w : World) {n c l h m : Nat} {i j k : Int} (hi : i = (l : Int)) (hj : j = (h : Int)) (hk : k = (m : Int)) (hl : l ≤ h) (hh : h ≤ m) (hm : m ≤ c) :
    (Instr.sliceBounds true n c (some (.int .i64 i)) (some (.int .i64 j)) (some (.int .i64 k))).run P w = .ok (l, h, m) w := by
  subst hi; subst hj; subst hk
  simp [Instr.sliceBounds, Instr.sliceBound, asIntOf, hl, hh, hm]

theorem blk_add {ad : Option Addr} {p : Prop} [Decidable p] {l : Nat} : (if p then ad else ad.map (·.add (l * 1))).map (·.block) = ad.map (·.block) := by
  split
  · rfl
  · cases ad with
    | none => rfl
    | some a => simp only [Option.map_some, Addr.add]; split <;> rfl

theorem run_slice3_rd (hP : ByP P T E S) {B : Nat} {w : World} {ad : Option Addr} {n c l r m : Nat} {lo hi mx : Option Value} {xs : List UInt8} (h : Rd B w (.slice ad n c) xs)
    (hb : (Instr.sliceBounds true n c lo hi mx).run P w = .ok (l, r, m) w) (hl : l ≤ r) (hr : r ≤ xs.length) (hm : r ≤ m) (hmc : m ≤ c) :
    ∃ ad' c', (Instr.slice T (.slice ad n c) lo hi mx).run P w = .ok (.slice ad' (r - l) c') w ∧ Rd B w (.slice ad' (r - l) c') ((xs.drop l).take (r - l)) ∧ ad'.map (·.block) = ad.map (·.block) := by
  obtain ⟨i, hi', hz, hsz, hby⟩ := hP.info
  have hlen : ((xs.drop l).take (r - l)).length = r - l := by simp; omega
  have hcm := h.len.2.2
  refine ⟨if m = l then ad else ad.map (·.add (l * 1)), m - l, ?_, ?_, blk_add⟩
  · simp [Instr.slice, run_underlying hP.hT, hb, sizeOf, typeInfo, hi', hsz]
  · by_cases h0 : r = l
    · subst h0
      exact .inl ⟨_, _, by rw [Nat.sub_self], by omega, by simp⟩
    · rcases h with ⟨a, c', h, hm', rfl⟩ | ⟨b, off, cap, h, hB, h1, h2, hc⟩
      · simp at hr; omega
      · cases h
        have hne : ¬ m = l := by omega
        refine .inr ⟨b, off + l, m - l, ?_, hB, by omega, by omega, ?_⟩
        · rw [hlen]
          simp [hne, Addr.add_lit]
        · intro j u hj
          have hjl : j < r - l := by
            rcases Nat.lt_or_ge j (r - l) with h | h
            · exact h
            · rw [List.getElem?_eq_none (by rw [bv_length, hlen]; exact h)] at hj; cases hj
          rw [Nat.add_assoc]
          refine hc (l + j) u ?_
          rw [← hj]
          simp [bv, hjl]

/-- 'x[lo:hi:mx]'. -/
theorem wpList_slice3 (hP : ByP P T E S) {x lo hi mx : Operand} (ho : o.op = .slice T x (some lo) (some hi) (some mx)) (hgd : Region.wanted o (yielded ops a.tmps) = true) {B : Nat} {ad : Option Addr} {n c : Nat} {xs : List UInt8} (hx : a.eval x = .slice ad n c) (hr : Rd B w (.slice ad n c) xs)
    {l r m : Nat} (hb : (Instr.sliceBounds true n c (some (a.eval lo)) (some (a.eval hi)) (some (a.eval mx))).run P w = .ok (l, r, m) w)
    (h : ∀ ad' k c', Rd B w (.slice ad' k c') ((xs.drop l).take (r - l)) → ad'.map (·.block) = ad.map (·.block) → wpList P ops Q rest (a.put o.dst (.slice ad' k c')) w) (hl : l ≤ r) (hrn : r ≤ xs.length) (hm : r ≤ m) (hmc : m ≤ c) : wpList P ops Q (o :: rest) a w := by
  refine BigFrame.wpList_want hgd fun K hK => ?_
  obtain ⟨ad', c', hrun, h2, h3⟩ := run_slice3_rd hP hr hb hl hrn hm hmc
  unfold Oper.wp execOp
  have hat : (Instr.sliceAt T (.slice ad n c) (some (a.eval lo)) (some (a.eval hi)) (some (a.eval mx))).run P w = .ok (.slice ad' (r - l) c') w := by
    rw [show (Instr.sliceAt T (.slice ad n c) (some (a.eval lo)) (some (a.eval hi)) (some (a.eval mx))).run P w = (Instr.slice T (.slice ad n c) (some (a.eval lo)) (some (a.eval hi)) (some (a.eval mx))).run P w by simp [Instr.sliceAt, run_underlying hP.hT]]; exact hrun
  simp only [ho, hx, Option.map_some, Sem.run_bind, Sem.run_pure, Result.andThen_ok, hat]
  exact hK _ _ (h _ _ _ h2 h3)

theorem run_slice_blk (hP : ByP P T E S) {B : Nat} {w : World} {ad : Option Addr} {n c l r : Nat} {lo hi : Option Value} {xs : List UInt8} (h : Rd B w (.slice ad n c) xs)
    (hb : (Instr.sliceBounds true n c lo hi none).run P w = .ok (l, r, c) w) (hl : l ≤ r) (hr : r ≤ xs.length) :
    ∃ ad' c', (Instr.slice T (.slice ad n c) lo hi none).run P w = .ok (.slice ad' (r - l) c') w ∧ Rd B w (.slice ad' (r - l) c') ((xs.drop l).take (r - l)) ∧ ad'.map (·.block) = ad.map (·.block) := by
  obtain ⟨i, hi', hz, hsz, hby⟩ := hP.info
  obtain ⟨ad', c', h1, h2⟩ := run_slice_rd hP h hb hl hr
  have h3 : (Instr.slice T (.slice ad n c) lo hi none).run P w = .ok (.slice (if c = l then ad else ad.map (·.add (l * 1))) (r - l) (c - l)) w := by
    simp [Instr.slice, run_underlying hP.hT, hb, sizeOf, typeInfo, hi', hsz]
  refine ⟨ad', c', h1, h2, ?_⟩
  rw [h1] at h3
  injection h3 with h4
  injection h4 with h5
  rw [h5]
  exact blk_add

/-- 'x[lo:hi]', and the block that it lies in. -/
theorem wpList_sliceB (hP : ByP P T E S) {x : Operand} {lo hi : Option Operand} (ho : o.op = .slice T x lo hi none) (hgd : Region.wanted o (yielded ops a.tmps) = true) {B : Nat} {ad : Option Addr} {n c : Nat} {xs : List UInt8} (hx : a.eval x = .slice ad n c) (hr : Rd B w (.slice ad n c) xs)
    {l r : Nat} (hb : (Instr.sliceBounds true n c (lo.map a.eval) (hi.map a.eval) none).run P w = .ok (l, r, c) w)
    (h : ∀ ad' k c', Rd B w (.slice ad' k c') ((xs.drop l).take (r - l)) → ad'.map (·.block) = ad.map (·.block) → wpList P ops Q rest (a.put o.dst (.slice ad' k c')) w) (hl : l ≤ r) (hrn : r ≤ xs.length) : wpList P ops Q (o :: rest) a w := by
  refine BigFrame.wpList_want hgd fun K hK => ?_
  obtain ⟨ad', c', hrun, h2, h3⟩ := run_slice_blk hP hr hb hl hrn
  unfold Oper.wp execOp
  have hat : (Instr.sliceAt T (.slice ad n c) (lo.map a.eval) (hi.map a.eval) none).run P w = .ok (.slice ad' (r - l) c') w := by
    rw [show (Instr.sliceAt T (.slice ad n c) (lo.map a.eval) (hi.map a.eval) none).run P w = (Instr.slice T (.slice ad n c) (lo.map a.eval) (hi.map a.eval) none).run P w by simp [Instr.sliceAt, run_underlying hP.hT]]; exact hrun
  simp only [ho, hx, Option.map_none, Sem.run_bind, Sem.run_pure, Result.andThen_ok, hat]
  exact hK _ _ (h _ _ _ h2 h3)

/-- 'min(m, n)' of two whole numbers. -/
theorem wpList_min {x y : Operand} {ts : Array TypeId} (ho : o.op = .call { callee := .builtin .min, args := #[x, y], argTypes := ts }) (hgd : Region.wanted o (yielded ops a.tmps) = true) {m n k : Int} (hx : a.eval x = .int .i64 m) (hy : a.eval y = .int .i64 n)
    (h : wpList P ops Q rest (a.put o.dst (.int .i64 k)) w) (hk : k = min m n) : wpList P ops Q (o :: rest) a w := by
  refine BigFrame.wpList_want hgd fun K hK => ?_
  have hrun : (Builtin.min_ ts o.type #[.int .i64 m, .int .i64 n]).run P w = .ok (.int .i64 k) w := by
    subst hk
    simp [Builtin.min_, Builtin.min2]
    omega
  unfold Oper.wp execOp
  simp only [ho, resolve, invoke, builtin, Sem.run_bind, Sem.run_pure, Result.andThen_ok, List.map_toArray, List.map_cons, List.map_nil, hx, hy, hrun]
  exact hK _ _ h
end
end Go.Proofs.Ytebilecgmblmfaa
