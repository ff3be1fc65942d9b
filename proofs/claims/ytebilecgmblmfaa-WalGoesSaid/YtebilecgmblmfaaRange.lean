/-
  A RANGE OVER A FUNCTION, IN THE PLAIN WALK (the wide fence's law, turned): the function's entry, the statement; 'make' of a []byte. Over whatever program; no condition beyond each theorem's own.
-/
import Derived.RangeFuncNested
import Derived.RangeFuncBox
import Derived.RangeFuncBound
import Derived.RangeFuncCalls
import Derived.RangeFuncLeaves
import Derived.WalkKit
import Derived.OwnWalkIn
import Derived.Test.YtebilecgmblmfaaByte
namespace Go.Proofs.Ytebilecgmblmfaa
open Go.RowKit

theorem calls_of_wp_marks {P : Program} {f : FuncId} {fn : Func} {c : Code} {args : Array Value} {w : World} {R : Ending → World → Prop} (hf : P.funcs[f]? = some fn) (hb : fn.body = some c)
    (h : c.wp P (bodyPostM Fence.wide 3 P fn R) { tmps := args ++ Array.replicate (fn.ntmps - args.size) undef, defers := [] } w) : Calls P f args w R :=
  (callsIn_wide (n := 3)).1 (callsIn_of_wp_marks hf hb trivial (wpIn_wide.2 h) rfl)

theorem wp_rangeFunc {P : Program} {α : Type} {g : Operand} {ps : Array Tmp} {assign body : Code} {Q : Exit → Act → World → Prop} {a : Act} {w : World}
    {gf : Nat} {lb : Array Value} (hg : a.eval g = .func (.func gf) #[] lb) (eg : ∀ args w, (callFunc gf args).run P w = .ok (.enter gf args) w)
    {encs : α → Array Value} {Kp : World → World → Prop} {S Sp : List α → Prop} {N : Nat} {w0 : World} (hseq : SeqStopsK Fence.wide 2 P gf lb encs Kp S Sp N w0)
    (hKt : ∀ {A B C : World}, Kp A B → Kp B C → Kp A C) (hKb : ∀ (W : World) (l : Nat) (o o' : Obj), w.heap.size ≤ l → W.heap[l]? = some o → o.isCells = false → o.isWalk = false → Kp W (W.putObj l o')) (hb0 : Below w0.heap.size w0 w) (hps : ∀ x, (encs x).size = ps.size)
    (I : List α → World → Prop) (Ix : Code → List α → World → Prop) (hI : OwnFrom w.heap.size I) (hIx : ∀ c, OwnFrom w.heap.size (Ix c)) (h0 : I [] w) (a₁ : α → Act)
    (hassign : ∀ (l : Nat) (x : α) (W : World) (K : Act → World → Prop), K (a₁ x) W →
      assign.wpIn (Fence.wide.inRound l) 1 P (Exit.then K (fun _ _ _ => False)) { tmps := (ps.zip (encs x)).foldl (fun t (p, v) => t.setIfInBounds p v) a.tmps, defers := [] } W)
    (hbody : ∀ (l : Nat) (pre : List α) (x : α) (W : World), I pre W → pre.length < N → body.wpIn (Fence.wide.inRound l) 1 P (ownPostG w.heap.size Kp I Ix (pre ++ [x]) W) (a₁ x) W)
    (hdone : ∀ (D : Nat) (xs : List α) (W : World), w.heap.size ≤ D → S xs → I xs W → W.heap[D]? = some (.deferred (some [])) → Q .normal { a with defers := { target := .collected D, args := #[] } :: a.defers } W)
    (hstop : ∀ (D : Nat) (c : Code) (pre : List α) (W : World), w.heap.size ≤ D → Sp pre → Ix c pre W → W.heap[D]? = some (.deferred (some [])) → c.wp P Q { a with defers := { target := .collected D, args := #[] } :: a.defers } W) :
    (Code.rangeFunc g ps assign body).wp P Q a w :=
  (wpIn_wide (n := 3)).1 (wpIn_rangeFunc_ownG rfl (by omega) hg trivial eg hseq hKt hKb hb0 hps I Ix hI hIx h0 a₁ hassign hbody hdone fun D c pre W h1 h2 h3 h4 => wpIn_wide.2 (hstop D c pre W h1 h2 h3 h4))

section
variable {P : Program} {T E S : TypeId} {ops : Array Oper} {rest : List Oper} {o : Oper} {a : Act} {Q : Exit → Act → World → Prop} {w : World}

/-- 'make([]byte, 0, k)'. -/
theorem wpList_make (hP : ByP P T E S) {x y : Operand} (ho : o.op = .makeSlice T x y) (hgd : Region.wanted o (yielded ops a.tmps) = true) {k : Nat} {i : Int} {kl kc : IntKind} (hx : a.eval x = .int kl 0) (hy : a.eval y = .int kc i)
    (h : ∀ g w', Below w.heap.size w w' → Own E w.heap.size w' (.slice (some ⟨g, 0, none⟩) 0 k) [] → wpList P ops Q rest (a.put o.dst (.slice (some ⟨g, 0, none⟩) 0 k)) w') (hik : i = (k : Int)) (hk : k ≤ 1073741824) : wpList P ops Q (o :: rest) a w := by
  subst hik
  refine BigFrame.wpList_want hgd fun K hK => ?_
  obtain ⟨i, hi, hz, hsz, hby⟩ := hP.info
  obtain ⟨w', hrun, h2, h3⟩ := run_make_own (P := P) w w.heap.size T E i (.int .u8 0) 1 hP.hT hi hz hsz kl kc k (by rw [hby]; omega) (by unfold maxLen; omega) (Nat.le_refl _)
  unfold Oper.wp execOp
  simp only [ho, hx, hy, Sem.run_bind, Sem.run_pure, Result.andThen_ok, hrun]
  exact hK _ _ (h _ _ ((Below.refl _ w).grown h3 (Nat.le_refl _) (fun k hk => by cases hk)) ⟨0, h2⟩)
end

/-- A variable's box, and the slice that it holds: behind an append of the slice that it held, and the store. -/
theorem Boxed.put {w1 w2 : World} {n₀ B : Nat} {t e : TypeId} {v v' : Value} {xs ys : List UInt8} (hv : Boxed w1 B t v) (hte : t ≠ e) (hrow : Own e n₀ w1 v xs) (hB : n₀ ≤ B)
    (hown' : Own e n₀ w2 v' ys) (hg : w1.grownBy w2 v.ownBlock) :
    Boxed w2 B t v ∧ Boxed (w2.setCell ⟨B, 0, none⟩ v') B t v' ∧ Own e n₀ (w2.setCell ⟨B, 0, none⟩ v') v' ys ∧ Below n₀ w2 (w2.setCell ⟨B, 0, none⟩ v') := by
  obtain ⟨n, hrow⟩ := hrow
  obtain ⟨m, hown'⟩ := hown'
  have hv1 : Boxed w2 B t v := hv.kept hg (hv.not_row hte hrow)
  exact ⟨hv1, hv1.set v', ⟨m, hown'.kept (grownBy_setCell' w2 B v') (.inr (hv1.not_row hte hown').symm)⟩, (Below.refl _ _).setCell (p := ⟨B, 0, none⟩) hB _⟩

/-- A slice that is the call's own, over the turn of a block that is no cells. -/
theorem Own.putObj {E : TypeId} {base : Nat} {W : World} {v : Value} {xs : List UInt8} (h : Own E base W v xs) {l : Nat} {o : Obj} (o' : Obj) (hl : W.heap[l]? = some o) (ho : o.isCells = false) : Own E base (W.putObj l o') v xs :=
  let ⟨n, h⟩ := h; ⟨n, ownsRow_putObj h o' hl ho⟩
theorem Own.ne_block {E : TypeId} {base : Nat} {W : World} {v : Value} {xs : List UInt8} (h : Own E base W v xs) {l : Nat} {o : Obj} (hl : W.heap[l]? = some o) (ho : o.isCells = false) : some l ≠ v.ownBlock := by
  obtain ⟨n, h⟩ := h
  intro e
  rcases h.2 with ⟨rfl, _⟩ | ⟨g, cap, cur, rfl, _, hg, _⟩
  · cases e
  · obtain rfl : l = g := by simpa [Value.ownBlock] using e
    rw [hg] at hl; cases hl; cases ho
/-- 'The box holds a slice that is the call's own' speaks of cells alone. -/
theorem holds_own {β : Type} (n₀ B : Nat) (t E : TypeId) (f : β → List UInt8) (G : β → Value → Prop) : Go.Own (fun s W => ∃ v, Boxed W B t v ∧ Own E n₀ W v (f s) ∧ G s v) := by
  rintro s X Y row ⟨v, hv, ⟨n, hr⟩, hG⟩ hg hrow
  obtain ⟨v2, h1, h2, h3⟩ := holdsRow_own n₀ B t E 1 (fun (_ : Unit) => n) (fun _ => bv (f s)) (fun _ v' => v' = v) () X Y row ⟨v, hv, hr, rfl⟩ hg hrow
  subst h3
  exact ⟨v2, h1, ⟨n, h2⟩, hG⟩
end Go.Proofs.Ytebilecgmblmfaa
