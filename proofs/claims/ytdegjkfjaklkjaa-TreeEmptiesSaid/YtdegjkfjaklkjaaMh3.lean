/-
  TEXTS OF ONE PROOF, merged: Kept, Link, Sink, VerC, VerE, VerN, VerX, TreM, TreN.
-/
import Derived.BigQuiet
import Derived.Deep.Cut
import Derived.Deep.QuietTactic
import Derived.IntWalk
import Derived.Lib.Hide
import Derived.RangeFuncBox
import Derived.Shelf.Abstract
import Derived.Test.YtdegjkfjaklkjaaProg
import Derived.WalkKit
import Derived.WalkLawsBesides
import Derived.WalkSpells
import Derived.Test.YtdegjkfjaklkjaaMh1
import Derived.Test.YtdegjkfjaklkjaaMh2
namespace Go.Proofs.Ytdegjkfjaklkjaa
open Go.RowKit
section
variable {P : Program} {Q : Exit → Act → World → Prop}
def SoftOpK (P : Program) (Q : Exit → Act → World → Prop) (ops : Array Oper) (a : Act) (K : Nat → World → World → Prop) (R : World → Prop) (G : Nat → World → Value → Prop) (i : Nat) (o : Oper) : Prop :=
  ∀ (A : Act) (vs : Nat → Value) (w' : World), (∀ t, slotIx ops.toList 0 t = none → A.eval (.tmp t) = a.eval (.tmp t)) → (∀ t j, t < a.tmps.size → slotIx ops.toList 0 t = some j → A.eval (.tmp t) = vs j) → R w' →
    (∀ e ∈ o.after, Region.binds .any e = true → G e.on w' (vs e.on)) → o.wp P A w' (fun a2 w2 => ∃ v, a2 = A.put o.dst v ∧ G i w2 v ∧ K i w' w2) Q
def GdOpK (P : Program) (Q : Exit → Act → World → Prop) (ops : Array Oper) (a : Act) (K : Nat → World → World → Prop) (R : World → Prop) (G : Nat → World → Value → Prop) (i : Nat) (o : Oper) : Prop :=
  match o.guard with
  | none => SoftOpK P Q ops a K R G i o
  | some (j, b) => (∃ oj d, ops[j]? = some oj ∧ oj.dst = some d ∧ d < a.tmps.size) ∧ (o.after.any fun e => e.on == j && Region.binds .any e) = true ∧
      (((∀ w v, G j w v → v = .bool b) ∧ SoftOpK P Q ops a K R G i o) ∨ ((∀ w v, G j w v → v = .bool (!b) ∨ v = undef) ∧ ∀ w, G i w undef))
theorem GdOpK.plain {ops : Array Oper} {a : Act} {K : Nat → World → World → Prop} {R : World → Prop} {G : Nat → World → Value → Prop} {i : Nat} {o : Oper} (h : o.guard = none) (h2 : SoftOpK P Q ops a K R G i o) : GdOpK P Q ops a K R G i o := by
  unfold GdOpK; rw [h]; exact h2
theorem GdOpK.taken {ops : Array Oper} {a : Act} {K : Nat → World → World → Prop} {R : World → Prop} {G : Nat → World → Value → Prop} {i : Nat} {o : Oper} {j : Nat} {b : Bool} (h : o.guard = some (j, b)) (h1 : ∃ oj d, ops[j]? = some oj ∧ oj.dst = some d ∧ d < a.tmps.size)
    (h2 : (o.after.any fun e => e.on == j && Region.binds .any e) = true) (h3 : ∀ w v, G j w v → v = .bool b) (h4 : SoftOpK P Q ops a K R G i o) : GdOpK P Q ops a K R G i o := by
  unfold GdOpK; rw [h]; exact ⟨h1, h2, .inl ⟨h3, h4⟩⟩
theorem GdOpK.left {ops : Array Oper} {a : Act} {K : Nat → World → World → Prop} {R : World → Prop} {G : Nat → World → Value → Prop} {i : Nat} {o : Oper} {j : Nat} {b : Bool} (h : o.guard = some (j, b)) (h1 : ∃ oj d, ops[j]? = some oj ∧ oj.dst = some d ∧ d < a.tmps.size)
    (h2 : (o.after.any fun e => e.on == j && Region.binds .any e) = true) (h3 : ∀ w v, G j w v → v = .bool (!b) ∨ v = undef) (h4 : ∀ w, G i w undef) : GdOpK P Q ops a K R G i o := by
  unfold GdOpK; rw [h]; exact ⟨h1, h2, .inr ⟨h3, h4⟩⟩
def GdAllK (P : Program) (Q : Exit → Act → World → Prop) (ops : Array Oper) (a : Act) (K : Nat → World → World → Prop) (R : World → Prop) (G : Nat → World → Value → Prop) : Nat → List Oper → Prop
  | _, [] => True
  | i, o :: rest => GdOpK P Q ops a K R G i o ∧ GdAllK P Q ops a K R G (i + 1) rest
theorem GdAllK.get {ops : Array Oper} {a : Act} {K : Nat → World → World → Prop} {R : World → Prop} {G : Nat → World → Value → Prop} : ∀ (l : List Oper) (k j : Nat) (o : Oper), GdAllK P Q ops a K R G k l → l[j]? = some o → GdOpK P Q ops a K R G (k + j) o
  | [], _, _, _, _, h => by simp at h
  | o' :: rest, k, 0, o, h, hj => by obtain rfl : o' = o := by simpa using hj
                                     exact h.1
  | o' :: rest, k, j + 1, o, h, hj => by rw [show k + (j + 1) = k + 1 + j by omega]; exact GdAllK.get rest (k + 1) j o h.2 (by simpa using hj)
end
def NotU8 (v : Value) : Prop := ∀ i, v ≠ .int .u8 i
def IsBox (w : World) (t : TypeId) (b : Nat) : Prop := ∃ x y, w.heap[b]? = some (.cells #[x, y] t (0, 0)) ∧ NotU8 x ∧ NotU8 y
def BoxK (ok : Nat → Prop) (t : TypeId) (A B : World) : Prop := A = B ∨ ∃ b, ok b ∧ A.grownBy B (some b) ∧ IsBox A t b ∧ IsBox B t b
theorem BoxK.below {n₀ : Nat} {ok : Nat → Prop} {t : TypeId} {W A B : World} (h : Below n₀ W A) (k : BoxK ok t A B) (hok : ∀ b, ok b → n₀ ≤ b) (hn : n₀ ≤ W.heap.size) : Below n₀ W B := by
  rcases k with rfl | ⟨b, hb, hg, _⟩
  · exact h
  · exact h.grown hg (Nat.le_trans hn h.size) (fun k e => by cases e; exact hok _ hb)
theorem rd_core {B : Nat} {t : TypeId} {w w' : World} {v : Value} {xs : List UInt8} {g : Nat} {x y : Value} (h : Rd B w v xs) (hB : B ≤ w.heap.size) (hg : w.grownBy w' (some g)) (hx : w.heap[g]? = some (.cells #[x, y] t (0, 0))) (h1 : NotU8 x) (h2 : NotU8 y) : Rd B w' v xs := by
  rcases h with h | ⟨b, off, cap, hv, hb, h3, h4, hc⟩
  · exact .inl h
  by_cases h0 : xs = []
  · subst h0
    exact .inl ⟨_, _, hv, h4, rfl⟩
  have hpos : 0 < xs.length := List.length_pos_iff.2 h0
  have hne : some b ≠ some g := by
    intro e
    injection e with e
    subst e
    have hc0 := hc 0 (.int .u8 (xs[0].toNat : Int)) (by simp [bv, hpos])
    rw [World.cell?] at hc0
    simp only [hx] at hc0
    rcases Nat.lt_or_ge (off + 0) 2 with ho | ho
    · rcases (show off + 0 = 0 ∨ off + 0 = 1 by omega) with ho | ho
      · rw [ho] at hc0; simp at hc0; exact h1 _ hc0
      · rw [ho] at hc0; simp at hc0; exact h2 _ hc0
    · rw [Array.getElem?_eq_none (by simpa using ho)] at hc0; cases hc0
  exact .inr ⟨b, off, cap, hv, hb, h3, h4, fun j u hj => by rw [← hc j u hj]; simp [World.cell?, hg.block b (by omega) hne]⟩
theorem Rd.box {ok : Nat → Prop} {B : Nat} {t : TypeId} {w w' : World} {v : Value} {xs : List UInt8} (h : Rd B w v xs) (hB : B ≤ w.heap.size) (k : BoxK ok t w w') : Rd B w' v xs := by
  rcases k with rfl | ⟨g, _, hg, ⟨x, y, hx, h1, h2⟩, _⟩
  · exact h
  · exact rd_core h hB hg hx h1 h2
abbrev SGk (ok : Nat → Prop) (t : TypeId) := { G : World → Value → Prop // (∀ w v w', G w v → Below w.heap.size w w' → G w' v) ∧ (∀ w v w', G w v → BoxK ok t w w' → G w' v) }
section
variable {ok : Nat → Prop} {t : TypeId}
def kAny : SGk ok t := ⟨fun _ _ => True, fun _ _ _ h _ => h, fun _ _ _ h _ => h⟩
end
section
variable {P : Program} {Q : Exit → Act → World → Prop}
def kk (ok : Nat → Prop) (t : TypeId) (m : Nat) (i : Nat) (A B : World) : Prop := if i = m then BoxK ok t A B else Below A.heap.size A B
def gk {ok : Nat → Prop} {t : TypeId} (Gs : List (SGk ok t)) (m : Nat) (Gm : SG) (i : Nat) : World → Value → Prop := if i = m then Gm.1 else (Gs.getD i kAny).1
structure RK (n₀ : Nat) (ok : Nat → Prop) (t : TypeId) (w w' : World) : Prop where
  below : Below n₀ w w'
  box : ∀ b, IsBox w t b → IsBox w' t b
  same : ∀ k, k < w.heap.size → ¬ ok k → w'.heap[k]? = w.heap[k]?
theorem RK.pair {n₀ : Nat} {ok : Nat → Prop} {t u : TypeId} {w w' : World} (h : RK n₀ ok t w w') {b : Nat} {x y : Value} (hp : PairV w b u x y) (hb : ¬ ok b) : PairV w' b u x y := (h.same b hp.lt hb).trans hp
theorem IsBox.below {t : TypeId} {b : Nat} {A B : World} (h : IsBox A t b) (hb : Below A.heap.size A B) : IsBox B t b := by
  obtain ⟨x, y, hx, h1, h2⟩ := h
  exact ⟨x, y, (hb.block b (Array.getElem?_eq_some_iff.1 hx).1).trans hx, h1, h2⟩
theorem IsBox.box {ok : Nat → Prop} {t : TypeId} {b : Nat} {A B : World} (h : IsBox A t b) (k : BoxK ok t A B) : IsBox B t b := by
  rcases k with rfl | ⟨g, _, hg, _, hB⟩
  · exact h
  · by_cases e : b = g
    · subst e; exact hB
    · obtain ⟨x, y, hx, h1, h2⟩ := h
      exact ⟨x, y, (hg.block b (Array.getElem?_eq_some_iff.1 hx).1 (fun e' => e (by injection e'))).trans hx, h1, h2⟩
end
structure PrP (P : Program) (t : TypeId) (x0 y0 : Value) : Prop where
  hu : ∃ f0 f1, P.underlying t = some (.struct #[f0, f1]) ∧ f0.offset = 0 ∧ f1.offset = 1 ∧ (P.info? f0.type).map (·.size) = some 1 ∧ (P.info? f1.type).map (·.size) = some 1
  hi : (P.info? t).map (fun i => (i.zero, i.size)) = some (some (.agg #[x0, y0]), 2)
section
variable {P : Program} {t : TypeId} {x0 y0 : Value} {o : Oper} {a : Act} {K : Act → World → Prop} {Q : Exit → Act → World → Prop} {w : World}
theorem run_sizeOf {ty : TypeId} {n : Nat} (h : (P.info? ty).map (·.size) = some n) (w : World) : (sizeOf ty).run P w = .ok n w := by
  cases hi : P.info? ty with
  | none => simp [hi] at h
  | some i => simp [hi] at h; simp [sizeOf, typeInfo, hi, h]
theorem PrP.size (hP : PrP P t x0 y0) : (P.info? t).map (·.size) = some 2 := by
  have h := hP.hi
  cases hi : P.info? t with
  | none => simp [hi] at h
  | some i => simp [hi] at h; simp [h.2]
theorem PrP.zero (hP : PrP P t x0 y0) (w : World) : (zeroValue t).run P w = .ok (.agg #[x0, y0]) w := by
  have h := hP.hi
  cases hi : P.info? t with
  | none => simp [hi] at h
  | some i => simp [hi] at h; simp [zeroValue, typeInfo, hi, h.1]
theorem wp_buildP (hP : PrP P t x0 y0) {x y : Operand} {u v : Value} (ho : o.op = .build t #[(0, x), (1, y)]) (hx : a.eval x = u) (hy : a.eval y = v) (hu1 : u.cells = #[u]) (hv1 : v.cells = #[v]) (h : K (a.put o.dst (.agg #[u, v])) w) : o.wp P a w K Q := by
  obtain ⟨f0, f1, hu, e0, e1, s0, s1⟩ := hP.hu
  refine wp_run ?_ h
  simp only [execOp, ho, List.map_toArray, List.map_cons, List.map_nil, hx, hy]
  simp [Instr.build, run_underlying hu, hP.zero, run_sizeOf s0, run_sizeOf s1, Instr.fill, hu1, hv1, e0, e1, show (Value.agg #[x0, y0]).cells = #[x0, y0] from rfl]
theorem wp_skip {w2 : World} (hrun : (execOp a.eval o).run P w = .ok .skip w2) (h : K (a.put o.dst undef) w2) : o.wp P a w K Q := by
  unfold Oper.wp
  rw [hrun]
  exact h
end
theorem PairV.put1 {W : World} {g : Nat} {t : TypeId} {x y : Value} (h : PairV W g t x y) (u : Value) : PairV (W.setCell ⟨g, 1, none⟩ u) g t x u := by
  unfold PairV at h ⊢
  simp [World.setCell, Array.getElem?_modify, h]
theorem PairV.keep {W : World} {b g : Nat} {t : TypeId} {x y : Value} (h : PairV W b t x y) (hne : b ≠ g) (i : Nat) (z : Value) : PairV (W.setCell ⟨g, i, none⟩ z) b t x y :=
  (heap_setCell_other W ⟨g, i, none⟩ b z (fun e => hne (by simp at e; exact e))).trans h
theorem size_set (W : World) (p : Addr) (z : Value) : (W.setCell p z).heap.size = W.heap.size := by simp [World.setCell]
theorem RK.rd {n₀ g : Nat} {t : TypeId} {w w' : World} (h : RK n₀ (· = g) t w w') {v : Value} {xs : List UInt8} (hr : Rd w.heap.size w v xs) {x y : Value} (hp : PairV w g t x y) (hx : NotU8 x) (hy : NotU8 y) : Rd w'.heap.size w' v xs := by
  have hg : w.grownBy w' (some g) := ⟨h.below.os, h.below.tape, h.below.output, h.below.size, fun k hk hne => h.same k hk (fun e => hne (by rw [e]))⟩
  exact (rd_core hr (Nat.le_refl _) hg hp hx hy).mono h.below.size
end Go.Proofs.Ytdegjkfjaklkjaa
namespace Go.Proofs.Ytdegjkfjaklkjaa
open Go.RowKit
section
variable {P : Program} {Q : Exit → Act → World → Prop}
def SoftOpL (P : Program) (Q : Exit → Act → World → Prop) (ops : Array Oper) (a : Act) (K : Nat → World → World → Prop) (R : World → Prop) (G : (Nat → Value) → Nat → World → Value → Prop) (i : Nat) (o : Oper) : Prop :=
  ∀ (A : Act) (vs : Nat → Value) (w' : World), (∀ t, slotIx ops.toList 0 t = none → A.eval (.tmp t) = a.eval (.tmp t)) → (∀ t j, t < a.tmps.size → slotIx ops.toList 0 t = some j → A.eval (.tmp t) = vs j) → R w' →
    (∀ e ∈ o.after, Region.binds .any e = true → G vs e.on w' (vs e.on)) → o.wp P A w' (fun a2 w2 => ∃ v, a2 = A.put o.dst v ∧ G vs i w2 v ∧ K i w' w2) Q
def GdOpL (P : Program) (Q : Exit → Act → World → Prop) (ops : Array Oper) (a : Act) (K : Nat → World → World → Prop) (R : World → Prop) (G : (Nat → Value) → Nat → World → Value → Prop) (i : Nat) (o : Oper) : Prop :=
  match o.guard with
  | none => SoftOpL P Q ops a K R G i o
  | some (j, b) => (∃ oj d, ops[j]? = some oj ∧ oj.dst = some d ∧ d < a.tmps.size) ∧ (o.after.any fun e => e.on == j && Region.binds .any e) = true ∧
      (((∀ vs w v, G vs j w v → v = .bool b) ∧ SoftOpL P Q ops a K R G i o) ∨ ((∀ vs w v, G vs j w v → v = .bool (!b) ∨ v = undef) ∧ ∀ vs w, G vs i w undef))
theorem GdOpL.plain {ops : Array Oper} {a : Act} {K : Nat → World → World → Prop} {R : World → Prop} {G : (Nat → Value) → Nat → World → Value → Prop} {i : Nat} {o : Oper} (h : o.guard = none) (h2 : SoftOpL P Q ops a K R G i o) : GdOpL P Q ops a K R G i o := by
  unfold GdOpL; rw [h]; exact h2
theorem GdOpL.taken {ops : Array Oper} {a : Act} {K : Nat → World → World → Prop} {R : World → Prop} {G : (Nat → Value) → Nat → World → Value → Prop} {i : Nat} {o : Oper} {j : Nat} {b : Bool} (h : o.guard = some (j, b)) (h1 : ∃ oj d, ops[j]? = some oj ∧ oj.dst = some d ∧ d < a.tmps.size)
    (h2 : (o.after.any fun e => e.on == j && Region.binds .any e) = true) (h3 : ∀ vs w v, G vs j w v → v = .bool b) (h4 : SoftOpL P Q ops a K R G i o) : GdOpL P Q ops a K R G i o := by
  unfold GdOpL; rw [h]; exact ⟨h1, h2, .inl ⟨h3, h4⟩⟩
theorem GdOpL.left {ops : Array Oper} {a : Act} {K : Nat → World → World → Prop} {R : World → Prop} {G : (Nat → Value) → Nat → World → Value → Prop} {i : Nat} {o : Oper} {j : Nat} {b : Bool} (h : o.guard = some (j, b)) (h1 : ∃ oj d, ops[j]? = some oj ∧ oj.dst = some d ∧ d < a.tmps.size)
    (h2 : (o.after.any fun e => e.on == j && Region.binds .any e) = true) (h3 : ∀ vs w v, G vs j w v → v = .bool (!b) ∨ v = undef) (h4 : ∀ vs w, G vs i w undef) : GdOpL P Q ops a K R G i o := by
  unfold GdOpL; rw [h]; exact ⟨h1, h2, .inr ⟨h3, h4⟩⟩
def GdAllL (P : Program) (Q : Exit → Act → World → Prop) (ops : Array Oper) (a : Act) (K : Nat → World → World → Prop) (R : World → Prop) (G : (Nat → Value) → Nat → World → Value → Prop) : Nat → List Oper → Prop
  | _, [] => True
  | i, o :: rest => GdOpL P Q ops a K R G i o ∧ GdAllL P Q ops a K R G (i + 1) rest
theorem GdAllL.get {ops : Array Oper} {a : Act} {K : Nat → World → World → Prop} {R : World → Prop} {G : (Nat → Value) → Nat → World → Value → Prop} : ∀ (l : List Oper) (k j : Nat) (o : Oper), GdAllL P Q ops a K R G k l → l[j]? = some o → GdOpL P Q ops a K R G (k + j) o
  | [], _, _, _, _, h => by simp at h
  | o' :: rest, k, 0, o, h, hj => by obtain rfl : o' = o := by simpa using hj
                                     exact h.1
  | o' :: rest, k, j + 1, o, h, hj => by rw [show k + (j + 1) = k + 1 + j by omega]; exact GdAllL.get rest (k + 1) j o h.2 (by simpa using hj)
end
end Go.Proofs.Ytdegjkfjaklkjaa
namespace Go.Proofs.Ytdegjkfjaklkjaa
open Go.RowKit
def preB (ops : Array Oper) (m : Nat) (pre : Nat → Bool) : Bool :=
  (List.range ops.size).all fun i => !pre i || (decide (m < ops.size) && (List.range ops.size).any fun j => decide (i < j) && (j == m || pre j) && (ops[j]?).any fun o => o.after.any fun e => e.on == i && Region.binds .any e)
theorem preB_get {ops : Array Oper} {m : Nat} {pre : Nat → Bool} (h : preB ops m pre = true) {i : Nat} (hi : i < ops.size) (hp : pre i = true) :
    m < ops.size ∧ ∃ j o, i < j ∧ j < ops.size ∧ (j = m ∨ pre j = true) ∧ ops[j]? = some o ∧ ∃ e ∈ o.after, e.on = i ∧ Region.binds .any e = true := by
  simp only [preB, List.all_eq_true, List.mem_range] at h
  have h1 := h i hi
  simp only [hp, Bool.not_true, Bool.false_or, Bool.and_eq_true, decide_eq_true_eq, List.any_eq_true, List.mem_range, Bool.or_eq_true, beq_iff_eq] at h1
  obtain ⟨hm, j, hj, ⟨hij, hjm⟩, ho⟩ := h1
  cases hoj : ops[j]? with
  | none => rw [hoj] at ho; simp at ho
  | some o =>
    rw [hoj] at ho
    simp only [Option.any_some, Array.any_eq_true', Bool.and_eq_true, beq_iff_eq] at ho
    exact ⟨hm, j, o, hij, hj, hjm, hoj, ho⟩
theorem preB_lt {ops : Array Oper} {m : Nat} {pre : Nat → Bool} (h : preB ops m pre = true) {i : Nat} (hi : i < ops.size) (hp : pre i = true) : m < ops.size := (preB_get h hi hp).1
theorem pre_listed {ops : Array Oper} {m : Nat} {pre : Nat → Bool} {listed : Array Bool} (h : preB ops m pre = true)
    (hcl : ∀ j o, ops[j]? = some o → listed.getD j true = true → ∀ e ∈ o.after, Region.binds .any e = true → listed.getD e.on true = true) (hm : listed.getD m true = true) : ∀ i, i < ops.size → pre i = true → listed.getD i true = true := by
  have key : ∀ (d i : Nat), ops.size - i ≤ d → i < ops.size → pre i = true → listed.getD i true = true := by
    intro d
    induction d with
    | zero => intro i hd hi _; omega
    | succ d ih =>
      intro i hd hi hp
      obtain ⟨_, j, o, hij, hj, hjm, hoj, e, he, rfl, hbn⟩ := preB_get h hi hp
      refine hcl j o hoj ?_ e he hbn
      rcases hjm with rfl | hpj
      · exact hm
      · exact ih j (by omega) hj hpj
  exact fun i hi hp => key _ i (Nat.le_refl _) hi hp
def postB (ops : Array Oper) (m : Nat) (post : Nat → Bool) : Bool :=
  (List.range ops.size).all fun i => !post i || (ops[i]?).any fun o => o.after.any fun e => Region.binds .any e && (e.on == m || (decide (e.on < i) && post e.on))
theorem post_listed {ops : Array Oper} {m : Nat} {post : Nat → Bool} {listed : Array Bool} (h : postB ops m post = true)
    (hcl : ∀ j o, ops[j]? = some o → listed.getD j true = true → ∀ e ∈ o.after, Region.binds .any e = true → listed.getD e.on true = true) : ∀ i, i < ops.size → post i = true → listed.getD i true = true → listed.getD m true = true := by
  intro i
  induction i using Nat.strongRecOn with
  | ind i ih =>
    intro hi hp hl
    simp only [postB, List.all_eq_true, List.mem_range] at h
    have h1 := h i hi
    simp only [hp, Bool.not_true, Bool.false_or] at h1
    cases ho : ops[i]? with
    | none => rw [ho] at h1; simp at h1
    | some o =>
      rw [ho] at h1
      simp only [Option.any_some, Array.any_eq_true', Bool.and_eq_true, Bool.or_eq_true, beq_iff_eq, decide_eq_true_eq] at h1
      obtain ⟨e, he, hbn, hm | ⟨hlt, hpe⟩⟩ := h1
      · rw [← hm]; exact hcl i o ho hl e he hbn
      · exact ih e.on hlt (by omega) hpe (hcl i o ho hl e he hbn)
section
variable {P : Program} {Q : Exit → Act → World → Prop}
def SoftOpM (P : Program) (Q : Exit → Act → World → Prop) (ops : Array Oper) (a : Act) (K : Nat → World → World → Prop) (R R0 : World → Prop) (m : Nat) (pre post drop : Nat → Bool) (G : (Nat → Value) → Nat → World → Value → Prop) (i : Nat) (o : Oper) : Prop :=
  ∀ (A : Act) (vs : Nat → Value) (w' : World), (∀ t, slotIx ops.toList 0 t = none → A.eval (.tmp t) = a.eval (.tmp t)) → (∀ t j, t < a.tmps.size → slotIx ops.toList 0 t = some j → A.eval (.tmp t) = vs j) → R w' → (pre i = true ∨ i = m → R0 w') → (pre i = true ∨ i = m → ∀ j d, post j = true → (ops[j]?).bind (·.dst) = some d → vs j = a.eval (.tmp d)) →
    (∀ e ∈ o.after, (Region.binds .any e && (pre i || i == m || !drop e.on)) = true → G vs e.on w' (vs e.on)) → o.wp P A w' (fun a2 w2 => ∃ v, a2 = A.put o.dst v ∧ G vs i w2 v ∧ K i w' w2) Q
def GdOpM (P : Program) (Q : Exit → Act → World → Prop) (ops : Array Oper) (a : Act) (K : Nat → World → World → Prop) (R R0 : World → Prop) (m : Nat) (pre post drop : Nat → Bool) (G : (Nat → Value) → Nat → World → Value → Prop) (i : Nat) (o : Oper) : Prop :=
  match o.guard with
  | none => SoftOpM P Q ops a K R R0 m pre post drop G i o
  | some (j, b) => (∃ oj d, ops[j]? = some oj ∧ oj.dst = some d ∧ d < a.tmps.size) ∧ (o.after.any fun e => e.on == j && (Region.binds .any e && !drop e.on)) = true ∧
      (((∀ vs w v, G vs j w v → v = .bool b) ∧ SoftOpM P Q ops a K R R0 m pre post drop G i o) ∨ ((∀ vs w v, G vs j w v → v = .bool (!b) ∨ v = undef) ∧ ∀ vs w, G vs i w undef))
theorem GdOpM.plain {ops : Array Oper} {a : Act} {K : Nat → World → World → Prop} {R R0 : World → Prop} {m : Nat} {pre post drop : Nat → Bool} {G : (Nat → Value) → Nat → World → Value → Prop} {i : Nat} {o : Oper} (h : o.guard = none) (h2 : SoftOpM P Q ops a K R R0 m pre post drop G i o) : GdOpM P Q ops a K R R0 m pre post drop G i o := by
  unfold GdOpM; rw [h]; exact h2
theorem GdOpM.taken {ops : Array Oper} {a : Act} {K : Nat → World → World → Prop} {R R0 : World → Prop} {m : Nat} {pre post drop : Nat → Bool} {G : (Nat → Value) → Nat → World → Value → Prop} {i : Nat} {o : Oper} {j : Nat} {b : Bool} (h : o.guard = some (j, b)) (h1 : ∃ oj d, ops[j]? = some oj ∧ oj.dst = some d ∧ d < a.tmps.size)
    (h2 : (o.after.any fun e => e.on == j && (Region.binds .any e && !drop e.on)) = true) (h3 : ∀ vs w v, G vs j w v → v = .bool b) (h4 : SoftOpM P Q ops a K R R0 m pre post drop G i o) : GdOpM P Q ops a K R R0 m pre post drop G i o := by
  unfold GdOpM; rw [h]; exact ⟨h1, h2, .inl ⟨h3, h4⟩⟩
theorem GdOpM.left {ops : Array Oper} {a : Act} {K : Nat → World → World → Prop} {R R0 : World → Prop} {m : Nat} {pre post drop : Nat → Bool} {G : (Nat → Value) → Nat → World → Value → Prop} {i : Nat} {o : Oper} {j : Nat} {b : Bool} (h : o.guard = some (j, b)) (h1 : ∃ oj d, ops[j]? = some oj ∧ oj.dst = some d ∧ d < a.tmps.size)
    (h2 : (o.after.any fun e => e.on == j && (Region.binds .any e && !drop e.on)) = true) (h3 : ∀ vs w v, G vs j w v → v = .bool (!b) ∨ v = undef) (h4 : ∀ vs w, G vs i w undef) : GdOpM P Q ops a K R R0 m pre post drop G i o := by
  unfold GdOpM; rw [h]; exact ⟨h1, h2, .inr ⟨h3, h4⟩⟩
def GdAllM (P : Program) (Q : Exit → Act → World → Prop) (ops : Array Oper) (a : Act) (K : Nat → World → World → Prop) (R R0 : World → Prop) (m : Nat) (pre post drop : Nat → Bool) (G : (Nat → Value) → Nat → World → Value → Prop) : Nat → List Oper → Prop
  | _, [] => True
  | i, o :: rest => GdOpM P Q ops a K R R0 m pre post drop G i o ∧ GdAllM P Q ops a K R R0 m pre post drop G (i + 1) rest
theorem GdAllM.get {ops : Array Oper} {a : Act} {K : Nat → World → World → Prop} {R R0 : World → Prop} {m : Nat} {pre post drop : Nat → Bool} {G : (Nat → Value) → Nat → World → Value → Prop} : ∀ (l : List Oper) (k j : Nat) (o : Oper), GdAllM P Q ops a K R R0 m pre post drop G k l → l[j]? = some o → GdOpM P Q ops a K R R0 m pre post drop G (k + j) o
  | [], _, _, _, _, h => by simp at h
  | o' :: rest, k, 0, o, h, hj => by obtain rfl : o' = o := by simpa using hj
                                     exact h.1
  | o' :: rest, k, j + 1, o, h, hj => by rw [show k + (j + 1) = k + 1 + j by omega]; exact GdAllM.get rest (k + 1) j o h.2 (by simpa using hj)
theorem wp_region_m {id : Nat} {ops : Array Oper} {a : Act} {w : World} (hm : P.follows .mixedOrders = true) (hs : gdB ops = true) (K : Nat → World → World → Prop) (R R0 : World → Prop) (m : Nat) (pre post drop : Nat → Bool) (G : (Nat → Value) → Nat → World → Value → Prop)
    (hpre : preB ops m pre = true) (hKr : ∀ i w, K i w w) (hR0 : R { w with drawn := w.drawn + 1 }) (hR00 : R0 { w with drawn := w.drawn + 1 }) (hRs : ∀ i A B, R A → K i A B → R B) (hR0s : ∀ i A B, i ≠ m → post i = false → R0 A → K i A B → R0 B) (hpost : postB ops m post = true) (hst : ∀ vs i j w v w', i ≠ j → (j = m → post i = false ∧ drop i = false) → G vs i w v → K j w w' → G vs i w' v)
    (hlnk : ∀ (vs us : Nat → Value) i w v, (∀ o, ops[i]? = some o → ∀ e ∈ o.after, Region.binds .any e = true → vs e.on = us e.on) → G vs i w v → G us i w v) (hop : GdAllM P Q ops a K R R0 m pre post drop G 0 ops.toList)
    (hend : ∀ (vs : Nat → Value) (w' : World), R w' → (∀ i, i < ops.size → drop i = false → G vs i w' (vs i)) → Q .normal (putAll a ops.toList vs 0) w') : (Code.region id ops true).wp P Q a w := by
  refine wp_region_any hm ?_
  have hnd : (ops.toList.filterMap (·.dst)).Nodup := by simp only [gdB, slotsB, Bool.and_eq_true, decide_eq_true_eq] at hs; exact hs.2
  have main : ∀ (fuel : Nat) (listed : Array Bool) (vs : Nat → Value) (w' : World), listed.size = ops.size → (unlisted ops.size listed).length ≤ fuel → R w' →
      (∀ i, i < ops.size → listed.getD i true = true → (drop i = true → listed.getD m true = false) → G vs i w' (vs i)) → (∀ i o, ops[i]? = some o → listed.getD i true = true → ∀ e ∈ o.after, Region.binds .any e = true → e.on < ops.size ∧ listed.getD e.on true = true) → (m < ops.size → listed.getD m true = false → R0 w') → (∀ j, j < ops.size → listed.getD j true = false → ∀ d, (ops[j]?).bind (·.dst) = some d → vs j = a.eval (.tmp d)) → wpAny P .any ops Q fuel listed (putAll a ops.toList vs 0) w' := by
    intro fuel
    induction fuel with
    | zero =>
      intro listed vs w' hsz hu hb hG hcl hR0m hun
      have hall : ∀ i, i < ops.size → listed.getD i true = true := by
        intro i hi
        cases hl : listed.getD i true with
        | true => rfl
        | false =>
          have : i ∈ unlisted ops.size listed := List.mem_filter.2 ⟨List.mem_range.2 hi, by simp [hl]⟩
          rw [List.eq_nil_of_length_eq_zero (Nat.le_zero.1 hu)] at this
          cases this
      refine ⟨?_, hend vs w' hb (fun i hi hdi => hG i hi (hall i hi) (fun h => by rw [hdi] at h; cases h))⟩
      unfold Region.ready
      rw [List.filter_eq_nil_iff]
      intro i hi
      simp [hall i (List.mem_range.1 hi)]
    | succ fuel ih =>
      intro listed vs w' hsz hu hb hG hcl hR0m hun
      refine ⟨fun hr => hend vs w' hb (fun i hi hdi => hG i hi (all_listed_gd hs hr i hi) (fun h => by rw [hdi] at h; cases h)), fun i hi => ?_⟩
      unfold Region.ready at hi
      obtain ⟨hi1, hi2⟩ := List.mem_filter.1 hi
      have hlt := List.mem_range.1 hi1
      rw [Bool.and_eq_true] at hi2
      obtain ⟨hl, hdep⟩ := hi2
      have hl' : listed.getD i true = false := by simpa using hl
      obtain ⟨o, ho⟩ : ∃ o, ops[i]? = some o := ⟨_, Array.getElem?_eq_getElem hlt⟩
      rw [ho] at hdep
      simp only [Option.map_some, Option.getD_some] at hdep
      rw [Array.all_eq_true'] at hdep
      have hgop := GdAllM.get ops.toList 0 i o hop (by rw [Array.getElem?_toList]; exact ho)
      rw [Nat.zero_add] at hgop
      have hdepG : ∀ e ∈ o.after, Region.binds .any e = true → e.on < ops.size ∧ listed.getD e.on true = true ∧ ((pre i = true ∨ i = m ∨ drop e.on = false) → G vs e.on w' (vs e.on)) := by
        intro e he hbn
        have h := hdep e he
        rw [hbn] at h
        simp only [Bool.not_true, Bool.false_or] at h
        have hin : e.on < listed.size := by
          rcases Nat.lt_or_ge e.on listed.size with h' | h'
          · exact h'
          · simp [Array.getD_eq_getD_getElem?, Array.getElem?_eq_none_iff.2 h'] at h
        have hl2 : listed.getD e.on true = true := by
          simp only [Array.getD_eq_getD_getElem?, Array.getElem?_eq_getElem hin, Option.getD_some] at h ⊢
          exact h
        refine ⟨by omega, hl2, fun hpm => hG e.on (by omega) hl2 (fun hde => ?_)⟩
        cases hlm : listed.getD m true with
        | false => rfl
        | true =>
          rcases hpm with h3 | rfl | h3
          · have := pre_listed hpre (fun j oj hoj hlj e he hbn => (hcl j oj hoj hlj e he hbn).2) hlm i hlt h3
            rw [hl'] at this
            cases this
          · rw [hl'] at hlm; cases hlm
          · rw [hde] at h3; cases h3
      have hR0i : pre i = true ∨ i = m → R0 w' := by
        rintro (h | rfl)
        · refine hR0m (preB_lt hpre hlt h) ?_
          cases hlm : listed.getD m true with
          | false => rfl
          | true =>
            have := pre_listed hpre (fun j oj hoj hlj e he hbn => (hcl j oj hoj hlj e he hbn).2) hlm i hlt h
            rw [hl'] at this
            cases this
        · exact hR0m hlt hl'
      have hUi : pre i = true ∨ i = m → ∀ j d, post j = true → (ops[j]?).bind (·.dst) = some d → vs j = a.eval (.tmp d) := by
        intro h j d hpj hd
        have hjs : j < ops.size := by
          rcases Nat.lt_or_ge j ops.size with h' | h'
          · exact h'
          · rw [Array.getElem?_eq_none_iff.2 h'] at hd; cases hd
        refine hun j hjs ?_ d hd
        cases hlj : listed.getD j true with
        | false => rfl
        | true =>
          have hml := post_listed hpost (fun j2 oj hoj hlj2 e he hbn => (hcl j2 oj hoj hlj2 e he hbn).2) j hjs hpj hlj
          rcases h with h | rfl
          · have := pre_listed hpre (fun j oj hoj hlj e he hbn => (hcl j oj hoj hlj e he hbn).2) hml i hlt h
            rw [hl'] at this
            cases this
          · rw [hl'] at hml; cases hml
      have step : ∀ (v : Value) (w2 : World), K i w' w2 → G vs i w2 v → wpAny P .any ops Q fuel (listed.setIfInBounds i true) ((putAll a ops.toList vs 0).put o.dst v) w2 := by
        intro v w2 hb2 hg
        rw [putAll_put ops.toList a vs 0 i o v hnd (by rw [Array.getElem?_toList]; exact ho), Nat.zero_add]
        have hne : ∀ e : Edge, listed.getD e.on true = true → e.on ≠ i := fun e h e2 => by rw [e2, hl'] at h; cases h
        have hkeep : ∀ j, listed.getD j true = true → (listed.setIfInBounds i true).getD j true = true := fun j h => by
          by_cases hji : j = i
          · subst hji; rw [hl'] at h; cases h
          · simp only [Array.getD_eq_getD_getElem?, Array.getElem?_setIfInBounds_ne (Ne.symm hji)] at h ⊢; exact h
        have hback : ∀ j, j ≠ i → (listed.setIfInBounds i true).getD j true = true → listed.getD j true = true := fun j hji h => by
          simp only [Array.getD_eq_getD_getElem?, Array.getElem?_setIfInBounds_ne (Ne.symm hji)] at h ⊢; exact h
        refine ih _ _ _ (by simp [hsz]) (by have := unlisted_set hsz hlt hl'; omega) (hRs i _ _ hb hb2) (fun j hj hlj hdj => ?_) (fun j oj hoj hlj e he hbn => ?_) (fun hm1 hm2 => ?_) (fun j hj hlj d hd => ?_)
        · by_cases hji : j = i
          · subst hji
            refine hlnk vs _ j w2 _ (fun o2 ho2 e he hbn => ?_) (by simpa [upd] using hg)
            obtain rfl : o = o2 := by rw [ho] at ho2; injection ho2
            have := hne e (hdepG e he hbn).2.1
            simp [upd, this]
          · have hlj' := hback j hji hlj
            have hv : upd vs i v j = vs j := by simp [upd, hji]
            rw [hv]
            refine hlnk vs _ j w2 _ (fun o2 ho2 e he hbn => ?_) (hst vs j i w' _ w2 hji (fun him => ?_) (hG j hj hlj' (fun hdt => ?_)) hb2)
            rotate_left
            · constructor
              · cases hpj : post j with
                | false => rfl
                | true =>
                  have := post_listed hpost (fun j2 oj hoj hlj2 e he hbn => (hcl j2 oj hoj hlj2 e he hbn).2) j hj hpj hlj'
                  rw [← him, hl'] at this
                  cases this
              · cases hdr : drop j with
                | false => rfl
                | true =>
                  have := hdj hdr
                  rw [← him] at this
                  simp only [Array.getD_eq_getD_getElem?, Array.getElem?_setIfInBounds_self_of_lt (by omega : i < listed.size)] at this
                  cases this
            · have := hdj hdt
              by_cases him : i = m
              · rw [← him]; exact hl'
              · simp only [Array.getD_eq_getD_getElem?, Array.getElem?_setIfInBounds_ne him] at this ⊢
                exact this
            have := hne e (hcl j o2 ho2 hlj' e he hbn).2
            simp [upd, this]
        · by_cases hji : j = i
          · subst hji
            obtain rfl : o = oj := by rw [ho] at hoj; injection hoj
            exact ⟨(hdepG e he hbn).1, hkeep _ (hdepG e he hbn).2.1⟩
          · have := hcl j oj hoj (hback j hji hlj) e he hbn
            exact ⟨this.1, hkeep _ this.2⟩
        · have him : i ≠ m := by
            intro e
            subst e
            simp only [Array.getD_eq_getD_getElem?, Array.getElem?_setIfInBounds_self_of_lt (by omega : i < listed.size)] at hm2
            cases hm2
          have hml : listed.getD m true = false := by
            simp only [Array.getD_eq_getD_getElem?, Array.getElem?_setIfInBounds_ne him] at hm2 ⊢
            exact hm2
          have hpi : post i = false := by
            cases hpi : post i with
            | false => rfl
            | true =>
              have h := hpost
              simp only [postB, List.all_eq_true, List.mem_range] at h
              have h1 := h i hlt
              simp only [hpi, Bool.not_true, Bool.false_or, ho, Option.any_some, Array.any_eq_true', Bool.and_eq_true, Bool.or_eq_true, beq_iff_eq, decide_eq_true_eq] at h1
              obtain ⟨e, he, hbn, h2 | ⟨_, hpe⟩⟩ := h1
              · have := (hdepG e he hbn).2.1
                rw [h2, hml] at this
                cases this
              · have := post_listed hpost (fun j2 oj hoj hlj2 e he hbn => (hcl j2 oj hoj hlj2 e he hbn).2) e.on (hdepG e he hbn).1 hpe (hdepG e he hbn).2.1
                rw [hml] at this
                cases this
          exact hR0s i _ _ him hpi (hR0m hm1 hml) hb2
        · have hji : j ≠ i := by
            intro e
            subst e
            simp only [Array.getD_eq_getD_getElem?, Array.getElem?_setIfInBounds_self_of_lt (by omega : j < listed.size)] at hlj
            cases hlj
          rw [show upd vs i v j = vs j by simp [upd, hji]]
          refine hun j hj ?_ d hd
          simp only [Array.getD_eq_getD_getElem?, Array.getElem?_setIfInBounds_ne (Ne.symm hji)] at hlj ⊢
          exact hlj
      have run : SoftOpM P Q ops a K R R0 m pre post drop G i o → o.wp P (putAll a ops.toList vs 0) w' (wpAny P .any ops Q fuel (listed.setIfInBounds i true)) Q := by
        intro hsoft
        have hwp := hsoft (putAll a ops.toList vs 0) vs w' (fun t h => eval_putAll_out _ _ _ _ _ h) (fun t j ht h => eval_putAll_in _ _ _ _ _ _ hnd ht h) hb hR0i hUi (fun e he hbn => by
          simp only [Bool.and_eq_true, Bool.or_eq_true, beq_iff_eq, Bool.not_eq_true'] at hbn
          exact (hdepG e he hbn.1).2.2 (hbn.2.elim (fun h => h.elim .inl (fun h => .inr (.inl h))) (fun h => .inr (.inr h))))
        refine Oper.wp_mono ?_ hwp
        rintro a2 w2 ⟨v, rfl, hg, hb2⟩
        exact step v w2 hb2 hg
      unfold wpOp
      simp only [ho]
      unfold GdOpM at hgop
      cases hgd : o.guard with
      | none =>
        rw [hgd] at hgop
        simp only [Region.wanted, hgd, if_true]
        exact .inl (run hgop)
      | some p =>
        obtain ⟨j, b⟩ := p
        rw [hgd] at hgop
        obtain ⟨⟨oj, d, hoj, hd, hdlt⟩, hany, hcase⟩ := hgop
        rw [Array.any_eq_true'] at hany
        obtain ⟨e, he, hej⟩ := hany
        simp only [Bool.and_eq_true, beq_iff_eq, Bool.not_eq_true'] at hej
        obtain ⟨rfl, hbn, hde⟩ := hej
        have hgj := (hdepG e he hbn).2.2 (.inr (.inr hde))
        have hix : slotIx ops.toList 0 d = some e.on := by
          have := slotIx_at ops.toList 0 e.on oj d hnd (by rw [Array.getElem?_toList]; exact hoj) hd
          simpa using this
        have hev := eval_putAll_in ops.toList a vs 0 d e.on hnd hdlt hix
        have hy : ∀ c, vs e.on = .bool c → yielded ops (putAll a ops.toList vs 0).tmps e.on = some c := by
          intro c hc
          have h1 : (putAll a ops.toList vs 0).tmps.getD d undef = .bool c := by
            have h2 : (putAll a ops.toList vs 0).eval (.tmp d) = (putAll a ops.toList vs 0).tmps.getD d undef := rfl
            rw [← h2, hev]; exact hc
          rw [Array.getD_eq_getD_getElem?] at h1
          cases hx : (putAll a ops.toList vs 0).tmps[d]? with
          | none => rw [hx] at h1; exact absurd h1 (by simp [undef])
          | some u =>
            rw [hx] at h1
            simp only [Option.getD_some] at h1
            simp [yielded, hoj, hd, hx, h1]
        rcases hcase with ⟨hv, hsoft⟩ | ⟨hv, hun⟩
        · have hyes := hy b (hv _ _ _ hgj)
          simp only [Region.wanted, hgd, hyes, beq_self_eq_true, if_true]
          exact .inl (run hsoft)
        · have hw0 : Region.wanted o (yielded ops (putAll a ops.toList vs 0).tmps) = false := by
            rcases hv _ _ _ hgj with hv | hv
            · simp only [Region.wanted, hgd, hy (!b) hv]; cases b <;> rfl
            · have h1 : (putAll a ops.toList vs 0).tmps.getD d undef = undef := by
                have h2 : (putAll a ops.toList vs 0).eval (.tmp d) = (putAll a ops.toList vs 0).tmps.getD d undef := rfl
                rw [← h2, hev]; exact hv
              have h3 : yielded ops (putAll a ops.toList vs 0).tmps e.on = none := by
                rw [Array.getD_eq_getD_getElem?] at h1
                cases hx : (putAll a ops.toList vs 0).tmps[d]? with
                | none => simp [yielded, hoj, hd, hx]
                | some u =>
                  rw [hx] at h1
                  simp only [Option.getD_some] at h1
                  subst h1
                  simp [yielded, hoj, hd, hx, undef]
              simp only [Region.wanted, hgd, h3]; cases b <;> rfl
          simp only [hw0]
          exact step undef w' (hKr i w') (hun vs w')
  have h0 := main ops.size (Array.replicate ops.size false) (fun i => ((ops[i]?).bind (·.dst)).elim undef (fun d => a.tmps.getD d undef)) { w with drawn := w.drawn + 1 } (by simp)
    (by have := List.length_filter_le (fun i => !(Array.replicate ops.size false).getD i true) (List.range ops.size); simpa [unlisted] using this) hR0
    (fun i hi h => by simp [Array.getD_eq_getD_getElem?, hi] at h)
    (fun i o ho h => by
      have hi : i < ops.size := (Array.getElem?_eq_some_iff.1 ho).1
      simp [Array.getD_eq_getD_getElem?, hi] at h) (fun _ _ => hR00)
    (fun j hj _ d hd => by simp only [hd, Option.elim_some]; rfl)
  rw [putAll_orig ops.toList a _ 0 (fun j o d hj hd => by
    rw [Array.getElem?_toList] at hj
    simp [hj, hd])] at h0
  exact h0
end
abbrev SGm (Km : World → World → Prop) := { G : World → Value → Prop // (∀ w v w', G w v → Below w.heap.size w w' → G w' v) ∧ (∀ w v w', G w v → Km w w' → G w' v) }
section
variable {Km : World → World → Prop}
def mEq (u : Value) : SGm Km := ⟨fun _ v => v = u, fun _ _ _ h _ => h, fun _ _ _ h _ => h⟩
def mAny : SGm Km := ⟨fun _ _ => True, fun _ _ _ h _ => h, fun _ _ _ h _ => h⟩
def km (Km : World → World → Prop) (m i : Nat) (A B : World) : Prop := if i = m then Km A B else Below A.heap.size A B
end
def gq {Km : World → World → Prop} (Gs : List (SGm Km)) (m : Nat) (Gm : SG) (post : Nat → Bool) (Gp : Nat → SG) (drop : Nat → Bool) (_ : Nat → Value) (i : Nat) : World → Value → Prop := if i = m then Gm.1 else if (post i || drop i) = true then (Gp i).1 else (Gs.getD i mAny).1
section
variable {P : Program} {Q : Exit → Act → World → Prop}
theorem wp_region_sink2 {id : Nat} {ops : Array Oper} {a : Act} {w : World} (hm : P.follows .mixedOrders = true) (hs : gdB ops = true) (Km : World → World → Prop) (m : Nat) (pre : Nat → Bool) (hpre : preB ops m pre = true) (post : Nat → Bool) (hpost : postB ops m post = true) (drop : Nat → Bool) (R : World → Prop) (hR : ∀ A, Below w.heap.size w A → R A)
    (hKr : ∀ w, Km w w) (hRb : ∀ A B, R A → Below A.heap.size A B → R B) (hRk : ∀ A B, R A → Km A B → R B) (Gs : List (SGm Km)) (Gm : SG) (Gp : Nat → SG)
    (hop : GdAllM P Q ops a (km Km m) R (Below w.heap.size w) m pre post drop (gq Gs m Gm post Gp drop) 0 ops.toList)
    (hend : ∀ (vs : Nat → Value) (w' : World), R w' → (∀ i, i < ops.size → drop i = false → gq Gs m Gm post Gp drop vs i w' (vs i)) → Q .normal (putAll a ops.toList vs 0) w') : (Code.region id ops true).wp P Q a w := by
  refine wp_region_m hm hs (km Km m) R (Below w.heap.size w) m pre post drop (gq Gs m Gm post Gp drop) hpre ?_ (hR _ ⟨rfl, rfl, rfl, Nat.le_refl _, fun _ _ => rfl⟩) ⟨rfl, rfl, rfl, Nat.le_refl _, fun _ _ => rfl⟩ ?_ ?_ hpost ?_ ?_ hop hend
  · intro i w
    unfold km
    split
    · exact hKr w
    · exact Below.refl _ _
  · intro i A B h k
    unfold km at k
    split at k
    · exact hRk _ _ h k
    · exact hRb _ _ h k
  · intro i A B hi _ h k
    unfold km at k
    rw [if_neg hi] at k
    exact h.trans (k.mono h.size)
  · intro vs i j w v w' hij hpo hG hK
    unfold km at hK
    unfold gq at hG ⊢
    split at hK
    · rename_i hj
      rw [if_neg (by omega), if_neg (by rw [(hpo hj).1, (hpo hj).2]; simp)] at hG ⊢
      exact (Gs.getD i mAny).2.2 w v w' hG hK
    · split
      · rename_i hi
        rw [if_pos hi] at hG
        exact Gm.2 w v w' hG hK
      · rename_i hi
        rw [if_neg hi] at hG
        split
        · rename_i hp
          rw [if_pos hp] at hG
          exact (Gp i).2 w v w' hG hK
        · rename_i hp
          rw [if_neg hp] at hG
          exact (Gs.getD i mAny).2.1 w v w' hG hK
  · intro vs us i w v _ hG
    exact hG
end
theorem grown_trans {A B C : World} {r : Option Nat} (h : A.grownBy B r) (k : B.grownBy C r) : A.grownBy C r :=
  ⟨k.os.trans h.os, k.tape.trans h.tape, k.output.trans h.output, Nat.le_trans h.size k.size, fun i hi hn => (k.block i (Nat.lt_of_lt_of_le hi h.size) hn).trans (h.block i hi hn)⟩
theorem grown_refl (A : World) (r : Option Nat) : A.grownBy A r := ⟨rfl, rfl, rfl, Nat.le_refl _, fun _ _ _ => rfl⟩
theorem grown_below' {A B : World} (h : Below A.heap.size A B) (r : Option Nat) : A.grownBy B r := ⟨h.os, h.tape, h.output, h.size, fun k hk _ => h.block k hk⟩
end Go.Proofs.Ytdegjkfjaklkjaa
namespace Go.Proofs.Ytdegjkfjaklkjaa
open Go.RowKit Go.Shelf
theorem cells_at {w : World} {b : Nat} {t : TypeId} {us : List Value} (h : w.heap[b]? = some (.cells us.toArray t (0, 0))) (j : Nat) (u : Value) (hj : us[j]? = some u) : w.cell? (Addr.add ⟨b, 0, none⟩ j) = some u := by
  rw [Addr.add_lit, World.cell?, h]
  simpa using hj
end Go.Proofs.Ytdegjkfjaklkjaa
namespace Go.Proofs.Ytdegjkfjaklkjaa
open Go.RowKit Go.Shelf
theorem vacV_zero {l : List Ver} {s : Int} (h : cntV l s = 0) : vacV l s = l := by unfold vacV; split <;> simp [h]
theorem vacV_gone {l : List Ver} {s : Int} {m : Nat} (hk : okV l) (h : cntV l s = m + 1) (hm : m < l.length) (hg : l[m].gone = true) : vacV l s = l.drop (m + 1) := by
  unfold vacV
  rw [if_pos hk, dif_pos (by omega)]
  simp only [h, Nat.add_sub_cancel, hg, if_true]
theorem vacV_some {l : List Ver} {s : Int} {m : Nat} (hk : okV l) (h : cntV l s = m + 1) (hm : m < l.length) (hg : l[m].gone = false) : vacV l s = l.drop m := by
  unfold vacV
  rw [if_pos hk, dif_pos (by omega)]
  simp only [h, Nat.add_sub_cancel, hg, Bool.false_eq_true, if_false]
def InstEnd (w : World) (l : List Ver) (x : Ver) (e : Ending) (w' : World) : Prop :=
  ∃ a c, e = .returned (.tuple #[.slice a (instV l x).1.length c, .int .i64 ((instV l x).2 : Nat)]) ∧ OwnL Elt.ver 61 w.heap.size w.heap.size w' (.slice a (instV l x).1.length c) (instV l x).1 ∧ Below w.heap.size w w'
theorem InstEnd.of {w0 w w' : World} {l m : List Ver} {x : Ver} {er : Nat} {a : Option Addr} {c : Nat} (hb : Below w0.heap.size w0 w) (h : instV l x = (m, er)) (hO : OwnL Elt.ver 61 w.heap.size w.heap.size w' (.slice a m.length c) m) (h2 : Below w.heap.size w w') : InstEnd w0 l x (.returned (.tuple #[.slice a m.length c, .int .i64 er])) w' := by
  unfold InstEnd
  rw [h]
  exact ⟨a, c, rfl, hO.to hb.size hb.size, hb.trans (h2.mono hb.size)⟩
end Go.Proofs.Ytdegjkfjaklkjaa
namespace Go.Proofs.Ytdegjkfjaklkjaa
theorem lastAt_spec (l : List Ver) (s : Int) : ∀ k, k ≤ l.length → (∀ i (h : i < l.length), lastAt l s k ≤ i → i < k → ¬ l[i].stamp ≤ s) ∧ (∀ m (h : m < l.length), lastAt l s k = m + 1 → l[m].stamp ≤ s)
  | 0, _ => ⟨fun i _ _ h => absurd h (Nat.not_lt_zero _), fun m _ h => by simp [lastAt] at h⟩
  | k + 1, hk => by
    obtain ⟨h1, h2⟩ := lastAt_spec l s k (by omega)
    by_cases hs : l[k].stamp ≤ s
    · rw [lastAt_yes (by omega) hs]
      exact ⟨fun i _ h3 h4 => by omega, fun m hm e => by obtain rfl : m = k := by omega
                                                         exact hs⟩
    · rw [lastAt_no (by omega) hs]
      refine ⟨fun i hi h3 h4 => ?_, h2⟩
      rcases Nat.lt_or_ge i k with h5 | h5
      · exact h1 i hi h3 h5
      · obtain rfl : i = k := by omega
        exact hs
theorem okV_lt {l : List Ver} (hk : okV l) : ∀ d i (h : i + d < l.length), 0 < d → l[i].stamp < l[i + d].stamp
  | 0, _, _, h => absurd h (Nat.lt_irrefl _)
  | d + 1, i, h, _ => by
    have h1 := (hk (i + d + 1) h).2 (by omega)
    simp only [Nat.add_sub_cancel] at h1
    rcases Nat.eq_zero_or_pos d with rfl | h2
    · exact h1
    · have := okV_lt hk d i (by omega) h2
      exact Int.lt_trans this h1
theorem okV_mono {l : List Ver} (hk : okV l) {i j : Nat} (hij : i < j) (hj : j < l.length) : (l[i]'(by omega)).stamp < l[j].stamp := by
  have := okV_lt hk (j - i) i (by omega) (by omega)
  simpa [show i + (j - i) = j by omega] using this
theorem cnt_iff {l : List Ver} (hk : okV l) (s : Int) {i : Nat} (h : i < l.length) : l[i].stamp ≤ s ↔ i < cntV l s := by
  obtain ⟨h1, h2⟩ := lastAt_spec l s l.length (Nat.le_refl _)
  constructor
  · intro hs
    rcases Nat.lt_or_ge i (cntV l s) with h3 | h3
    · exact h3
    · exact absurd hs (h1 i h h3 h)
  · intro hi
    have hle := cntV_le l s
    obtain ⟨m, hm⟩ : ∃ m, cntV l s = m + 1 := ⟨cntV l s - 1, by omega⟩
    have hms := h2 m (by omega) hm
    rcases Nat.lt_or_ge i m with h3 | h3
    · have := okV_mono hk h3 (by omega)
      omega
    · obtain rfl : i = m := by omega
      exact hms
end Go.Proofs.Ytdegjkfjaklkjaa
namespace Go.Proofs.Ytdegjkfjaklkjaa
open Go.RowKit
def smallV (l : List Ver) : Prop := l.length ≤ 1000 ∧ ∀ x ∈ l, x.value.length ≤ 1000
def VersNew (w : World) (l : List Ver) (e : Ending) (w' : World) : Prop :=
  ∃ a c, e = .returned (.slice a l.length c) ∧ RdL Elt.ver (fun k => w.heap.size ≤ k ∧ k < w'.heap.size) w' (.slice a l.length c) l ∧ Below w.heap.size w w'
def InstNew (w : World) (l : List Ver) (x : Ver) (e : Ending) (w' : World) : Prop :=
  ∃ a c, e = .returned (.tuple #[.slice a (instV l x).1.length c, .int .i64 ((instV l x).2 : Nat)]) ∧ RdL Elt.ver (fun k => w.heap.size ≤ k ∧ k < w'.heap.size) w' (.slice a (instV l x).1.length c) (instV l x).1 ∧ Below w.heap.size w w'
theorem ReadVEnd.some {w w' : World} {l : List Ver} {s : Int} {e : Ending} {xs : List UInt8} (h : readV l s = some xs) (h2 : ReadVEnd w l s e w') : ∃ a c, e = .returned (.tuple #[.slice a xs.length c, .bool true]) ∧ RdS (fun k => w.heap.size ≤ k ∧ k < w'.heap.size) w' (.slice a xs.length c) xs ∧ Below w.heap.size w w' := by
  unfold ReadVEnd at h2; rw [h] at h2; exact h2
theorem i64w {n : Int} (h : (Lit.int .i64 n).wf = true) : I64' n := by
  simp [Lit.wf, IntKind.min, IntKind.max, IntKind.signed, IntKind.bits] at h
  exact ⟨by omega, by omega⟩
end Go.Proofs.Ytdegjkfjaklkjaa
namespace Go.Proofs.Ytdegjkfjaklkjaa
def ltB (a b : List UInt8) : Bool := Op.bytesLess a b
theorem ltB_irrefl : ∀ a, ltB a a = false
  | [] => rfl
  | x :: a => by
    have h := ltB_irrefl a
    unfold ltB at h ⊢
    simp [Op.bytesLess, h]
theorem ltB_trans : ∀ {a b c}, ltB a b = true → ltB b c = true → ltB a c = true
  | _, [], _, h, _ => by cases ‹List UInt8› <;> simp [ltB, Op.bytesLess] at h
  | _, _ :: _, [], _, h => by simp [ltB, Op.bytesLess] at h
  | [], _ :: _, _ :: _, _, _ => rfl
  | x :: a, y :: b, z :: c, h, k => by
    simp only [ltB, Op.bytesLess, Bool.or_eq_true, decide_eq_true_eq, Bool.and_eq_true, beq_iff_eq] at h k ⊢
    rcases h with h | ⟨rfl, h⟩
    · rcases k with k | ⟨rfl, k⟩
      · exact .inl (UInt8.lt_trans h k)
      · exact .inl h
    · rcases k with k | ⟨rfl, k⟩
      · exact .inl k
      · exact .inr ⟨rfl, ltB_trans (a := a) (b := b) (c := c) h k⟩
theorem ltB_total : ∀ {a b}, a ≠ b → ltB a b = false → ltB b a = true
  | [], [], h, _ => absurd rfl h
  | [], _ :: _, _, h => by simp [ltB, Op.bytesLess] at h
  | _ :: _, [], _, _ => rfl
  | x :: a, y :: b, hne, h => by
    simp only [ltB, Op.bytesLess, Bool.or_eq_false_iff, Bool.and_eq_false_iff, decide_eq_false_iff_not, beq_eq_false_iff_ne, Bool.or_eq_true, decide_eq_true_eq, Bool.and_eq_true, beq_iff_eq] at h ⊢
    obtain ⟨h1, h2⟩ := h
    by_cases hxy : x = y
    · subst hxy
      rcases h2 with h2 | h2
      · exact absurd rfl h2
      · exact .inr ⟨rfl, ltB_total (a := a) (b := b) (fun e => hne (by rw [e])) h2⟩
    · refine .inl ?_
      rcases UInt8.lt_or_lt_of_ne (a := x) (b := y) hxy with h3 | h3
      · exact absurd h3 h1
      · exact h3
theorem ltB_asymm {a b : List UInt8} (h : ltB a b = true) : ltB b a = false := by
  cases hb : ltB b a with
  | false => rfl
  | true => rw [← ltB_irrefl a]; exact (ltB_trans h hb).symm
theorem ltB_ne {a b : List UInt8} (h : ltB a b = true) : a ≠ b := fun e => by subst e; rw [ltB_irrefl] at h; cases h
structure Pr where
  key : List UInt8
  chain : List Ver
deriving DecidableEq
inductive Nd where
  | mk : List (List UInt8) → List (List Ver) → List Nd → Nd
def Nd.keys : Nd → List (List UInt8) | .mk a _ _ => a
def Nd.chains : Nd → List (List Ver) | .mk _ b _ => b
def Nd.kids : Nd → List Nd | .mk _ _ c => c
def allD : List Int → Int
  | [] => -1
  | d :: r => if (∀ x ∈ r, x = d) ∧ 0 ≤ d then d + 1 else -1
mutual
def formI : Nd → Bool → Int
  | .mk ks cs ns, root => if cs.length ≠ ks.length ∨ 3 < ks.length ∨ (root = false ∧ ks.length < 1) then -1 else if ns.length = 0 then 1 else if ns.length ≠ ks.length + 1 ∨ ks.length < 1 then -1 else allD (formL ns)
def formL : List Nd → List Int
  | [] => []
  | n :: ns => formI n false :: formL ns
end
def wv (ps : List (List Pr)) (ks : List (List UInt8)) (cs : List (List Ver)) : Nat → List Pr
  | 0 => []
  | i + 1 => wv ps ks cs i ++ ps.getD i [] ++ [⟨ks.getD i [], cs.getD i []⟩]
mutual
def pairsN : Nd → List Pr
  | .mk ks cs ns => wv (pairsL ns) ks cs ks.length ++ (pairsL ns).getD (ns.length - 1) []
def pairsL : List Nd → List (List Pr)
  | [] => []
  | n :: ns => pairsN n :: pairsL ns
end
theorem formL_map : ∀ ns, formL ns = ns.map (formI · false)
  | [] => by simp [formL]
  | n :: ns => by simp [formL, formL_map ns]
theorem pairsL_map : ∀ ns, pairsL ns = ns.map pairsN
  | [] => by simp [pairsL]
  | n :: ns => by simp [pairsL, pairsL_map ns]
def okP (l : List Pr) : Prop := ∀ i (h : i < l.length), okV l[i].chain ∧ l[i].chain ≠ [] ∧ l[i].key.length ≤ 16 ∧ (0 < i → ltB l[i - 1].key l[i].key = true)
instance (l : List Pr) : Decidable (okP l) := by unfold okP; infer_instance
def okN (n : Nd) : Prop := 0 ≤ formI n true ∧ okP (pairsN n)
instance (n : Nd) : Decidable (okN n) := by unfold okN; infer_instance
def prN (n : Nd) : List Pr := if okN n then pairsN n else []
def depN (n : Nd) : Int := if okN n then formI n true else 0
def putGo (k : List UInt8) (c : List Ver) : Bool → List Pr → List Pr
  | true, [] => []
  | false, [] => [⟨k, c⟩]
  | true, p :: l => (if k = p.key then [] else [p]) ++ putGo k c true l
  | false, p :: l => if ltB k p.key || decide (k = p.key) then ⟨k, c⟩ :: ((if k = p.key then [] else [p]) ++ putGo k c true l) else p :: putGo k c false l
def putP (l : List Pr) (k : List UInt8) (c : List Ver) : List Pr := putGo k c false l
def delP (l : List Pr) (k : List UInt8) : List Pr := l.filter (fun p => !decide (p.key = k))
def findP (l : List Pr) (k : List UInt8) : Option (List Ver) := (l.find? fun p => decide (p.key = k)).map (·.chain)
def nextP (l : List Pr) (k : List UInt8) : Option (List UInt8) := (l.find? fun p => !ltB p.key k).map (·.key)
end Go.Proofs.Ytdegjkfjaklkjaa
namespace Go.Proofs.Ytdegjkfjaklkjaa
def Srt (l : List Pr) : Prop := l.Pairwise fun a b => ltB a.key b.key = true
def goodP (p : Pr) : Prop := okV p.chain ∧ p.chain ≠ [] ∧ p.key.length ≤ 16
theorem srt_get {l : List Pr} (h : Srt l) {i j : Nat} (hij : i < j) (hj : j < l.length) : ltB (l[i]'(by omega)).key l[j].key = true := List.pairwise_iff_getElem.1 h i j (by omega) hj hij
theorem okP_iff (l : List Pr) : okP l ↔ (∀ p ∈ l, goodP p) ∧ Srt l := by
  constructor
  · intro h
    refine ⟨fun p hp => ?_, List.pairwise_iff_getElem.2 ?_⟩
    · obtain ⟨i, hi, rfl⟩ := List.mem_iff_getElem.1 hp
      have := h i hi
      exact ⟨this.1, this.2.1, this.2.2.1⟩
    · have key : ∀ d i (h2 : i + d + 1 < l.length), ltB (l[i]'(by omega)).key l[i + d + 1].key = true := by
        intro d
        induction d with
        | zero => intro i h2; exact (h (i + 1) h2).2.2.2 (by omega)
        | succ d ih => intro i h2; exact ltB_trans (ih i (by omega)) ((h (i + (d + 1) + 1) h2).2.2.2 (by omega))
      intro i j hi hj hij
      have := key (j - i - 1) i (by omega)
      simpa [show i + (j - i - 1) + 1 = j by omega] using this
  · rintro ⟨h1, h2⟩ i hi
    have := h1 _ (List.getElem_mem hi)
    exact ⟨this.1, this.2.1, this.2.2, fun h0 => srt_get h2 (by omega) hi⟩
theorem findP_nil (k : List UInt8) : findP [] k = none := rfl
theorem findP_cons (p : Pr) (l : List Pr) (k : List UInt8) : findP (p :: l) k = if p.key = k then some p.chain else findP l k := by
  unfold findP
  by_cases h : p.key = k <;> simp [h]
theorem findP_lt {l : List Pr} {k : List UInt8} (h : ∀ p ∈ l, ltB k p.key = true) : findP l k = none := by
  induction l with
  | nil => rfl
  | cons p l ih =>
    rw [findP_cons, if_neg (fun e => ltB_ne (h p (by simp)) e.symm)]
    exact ih fun q hq => h q (by simp [hq])
theorem findP_some {l : List Pr} {k : List UInt8} {c : List Ver} (h : findP l k = some c) : ∃ p ∈ l, p.key = k ∧ p.chain = c := by
  induction l with
  | nil => cases h
  | cons p l ih =>
    rw [findP_cons] at h
    by_cases e : p.key = k
    · rw [if_pos e] at h; injection h with h; exact ⟨p, by simp, e, h⟩
    · rw [if_neg e] at h
      obtain ⟨q, hq, h2⟩ := ih h
      exact ⟨q, by simp [hq], h2⟩
theorem findP_mem {l : List Pr} (hs : Srt l) {p : Pr} (hp : p ∈ l) : findP l p.key = some p.chain := by
  induction l with
  | nil => cases hp
  | cons q l ih =>
    have hs' := List.pairwise_cons.1 hs
    rw [findP_cons]
    rcases List.mem_cons.1 hp with rfl | h
    · rw [if_pos rfl]
    · rw [if_neg (ltB_ne (hs'.1 p h)), ih hs'.2 h]
def insP (k : List UInt8) (c : List Ver) : List Pr → List Pr
  | [] => [⟨k, c⟩]
  | p :: l => if k = p.key then ⟨k, c⟩ :: l else if ltB k p.key then ⟨k, c⟩ :: p :: l else p :: insP k c l
theorem putGo_true {k : List UInt8} {c : List Ver} : ∀ {l : List Pr}, (∀ p ∈ l, k ≠ p.key) → putGo k c true l = l
  | [], _ => by simp [putGo]
  | p :: l, h => by
    rw [putGo, if_neg (h p (by simp)), putGo_true fun q hq => h q (by simp [hq])]
    rfl
theorem putP_ins {k : List UInt8} {c : List Ver} : ∀ {l : List Pr}, Srt l → putP l k c = insP k c l
  | [], _ => by simp [putP, putGo, insP]
  | p :: l, hs => by
    have hs' := List.pairwise_cons.1 hs
    have ih := putP_ins (k := k) (c := c) hs'.2
    unfold putP at ih ⊢
    rw [putGo, insP]
    by_cases h : k = p.key
    · subst h
      rw [if_pos (by simp), if_pos rfl, if_pos rfl, putGo_true fun q hq => ltB_ne (hs'.1 q hq)]
      rfl
    · rw [if_neg h, if_neg h]
      by_cases h2 : ltB k p.key = true
      · rw [if_pos (by simp [h2]), if_pos h2, putGo_true fun q hq => ltB_ne (ltB_trans h2 (hs'.1 q hq))]
        rfl
      · rw [if_neg (by simp [h2, h]), if_neg h2, ih]
theorem ins_find {k k' : List UInt8} {c : List Ver} : ∀ (l : List Pr), findP (insP k c l) k' = if k = k' then some c else findP l k'
  | [] => by rw [insP, findP_cons]
  | p :: l => by
    have ih := ins_find (k := k) (k' := k') (c := c) l
    rw [insP]
    by_cases h : k = p.key
    · rw [if_pos h, findP_cons, findP_cons]
      by_cases h2 : k = k'
      · simp [h2]
      · rw [if_neg h2, if_neg h2, if_neg (by rw [← h]; exact h2)]
    · rw [if_neg h]
      by_cases h2 : ltB k p.key = true
      · rw [if_pos h2, findP_cons]
      · rw [if_neg h2, findP_cons, ih, findP_cons]
        by_cases h3 : p.key = k'
        · rw [if_pos h3, if_pos h3, if_neg (fun e => h (by rw [e, h3]))]
        · rw [if_neg h3, if_neg h3]
theorem ins_mem {k : List UInt8} {c : List Ver} : ∀ {l : List Pr} {q : Pr}, q ∈ insP k c l → q = ⟨k, c⟩ ∨ q ∈ l
  | [], q, h => by simp [insP] at h; exact .inl h
  | p :: l, q, h => by
    rw [insP] at h
    by_cases h1 : k = p.key
    · rw [if_pos h1] at h
      rcases List.mem_cons.1 h with h | h
      · exact .inl h
      · exact .inr (by simp [h])
    · rw [if_neg h1] at h
      by_cases h2 : ltB k p.key = true
      · rw [if_pos h2] at h
        rcases List.mem_cons.1 h with h | h
        · exact .inl h
        · exact .inr h
      · rw [if_neg h2] at h
        rcases List.mem_cons.1 h with h | h
        · exact .inr (by simp [h])
        · rcases ins_mem h with h | h
          · exact .inl h
          · exact .inr (by simp [h])
theorem ins_srt {k : List UInt8} {c : List Ver} : ∀ {l : List Pr}, Srt l → Srt (insP k c l)
  | [], _ => by simp [insP, Srt]
  | p :: l, hs => by
    have hs' := List.pairwise_cons.1 hs
    rw [insP]
    by_cases h : k = p.key
    · rw [if_pos h]
      exact List.pairwise_cons.2 ⟨fun q hq => by rw [show (Pr.mk k c).key = p.key from h]; exact hs'.1 q hq, hs'.2⟩
    · rw [if_neg h]
      by_cases h2 : ltB k p.key = true
      · rw [if_pos h2]
        refine List.pairwise_cons.2 ⟨fun q hq => ?_, hs⟩
        rcases List.mem_cons.1 hq with rfl | hq
        · exact h2
        · exact ltB_trans h2 (hs'.1 q hq)
      · rw [if_neg h2]
        refine List.pairwise_cons.2 ⟨fun q hq => ?_, ins_srt hs'.2⟩
        rcases ins_mem hq with rfl | hq
        · exact ltB_total h (by simpa using h2)
        · exact hs'.1 q hq
theorem ins_len {k : List UInt8} {c : List Ver} : ∀ {l : List Pr}, Srt l → (insP k c l).length = if (findP l k).isSome then l.length else l.length + 1
  | [], _ => by simp [insP, findP_nil]
  | p :: l, hs => by
    have hs' := List.pairwise_cons.1 hs
    have ih := ins_len (k := k) (c := c) hs'.2
    rw [insP, findP_cons]
    by_cases h : k = p.key
    · rw [if_pos h, if_pos h.symm]; simp
    · have h' : ¬ p.key = k := fun e => h e.symm
      rw [if_neg h, if_neg h']
      by_cases h2 : ltB k p.key = true
      · rw [if_pos h2, findP_lt fun q hq => ltB_trans h2 (hs'.1 q hq)]; simp
      · rw [if_neg h2, List.length_cons, ih, List.length_cons]; split <;> omega
theorem del_find {k k' : List UInt8} : ∀ (l : List Pr), findP (delP l k) k' = if k = k' then none else findP l k'
  | [] => by simp [delP, findP_nil]
  | p :: l => by
    have ih := del_find (k := k) (k' := k') l
    unfold delP at ih ⊢
    rw [List.filter_cons]
    by_cases h : p.key = k
    · simp only [h, decide_true, Bool.not_true, Bool.false_eq_true, if_false]
      rw [ih, findP_cons]
      by_cases h2 : k = k'
      · rw [if_pos h2, if_pos h2]
      · rw [if_neg h2, if_neg h2, if_neg (by rw [h]; exact h2)]
    · simp only [h, decide_false, Bool.not_false, if_true]
      rw [findP_cons, findP_cons, ih]
      by_cases h2 : k = k'
      · rw [if_pos h2, if_pos h2, if_neg (by rw [← h2]; exact h)]
      · rw [if_neg h2, if_neg h2]
theorem del_srt {k : List UInt8} {l : List Pr} (h : Srt l) : Srt (delP l k) := List.Pairwise.filter _ h
theorem del_mem {k : List UInt8} {l : List Pr} {q : Pr} (h : q ∈ delP l k) : q ∈ l := (List.mem_filter.1 h).1
theorem del_none {k : List UInt8} : ∀ {l : List Pr}, findP l k = none → delP l k = l
  | [], _ => rfl
  | p :: l, h => by
    rw [findP_cons] at h
    by_cases e : p.key = k
    · rw [if_pos e] at h; cases h
    · rw [if_neg e] at h
      have ih := del_none h
      unfold delP at ih ⊢
      rw [List.filter_cons, ih]
      simp [e]
theorem del_len {k : List UInt8} : ∀ {l : List Pr}, Srt l → (delP l k).length + (if (findP l k).isSome then 1 else 0) = l.length
  | [], _ => by simp [delP, findP_nil]
  | p :: l, hs => by
    have hs' := List.pairwise_cons.1 hs
    have ih := del_len (k := k) hs'.2
    rw [findP_cons]
    unfold delP at ih ⊢
    rw [List.filter_cons]
    by_cases h : p.key = k
    · subst h
      have hn : findP l p.key = none := findP_lt fun q hq => hs'.1 q hq
      rw [hn] at ih
      simp at ih ⊢
      exact ih
    · simp only [h, decide_false, Bool.not_false, if_true, if_false, List.length_cons]
      omega
theorem srt_ext : ∀ {a b : List Pr}, Srt a → Srt b → (∀ k, findP a k = findP b k) → a = b
  | [], [], _, _, _ => rfl
  | [], q :: b, _, _, h => by have := h q.key; rw [findP_nil, findP_cons, if_pos rfl] at this; cases this
  | p :: a, [], _, _, h => by have := h p.key; rw [findP_nil, findP_cons, if_pos rfl] at this; cases this
  | p :: a, q :: b, ha, hb, h => by
    have ha' := List.pairwise_cons.1 ha
    have hb' := List.pairwise_cons.1 hb
    have hk : p.key = q.key := by
      have h1 := h p.key
      have h2 := h q.key
      rw [findP_cons, if_pos rfl] at h1
      rw [findP_cons q b q.key, if_pos rfl] at h2
      obtain ⟨x, hx, hx2, _⟩ := findP_some h1.symm
      obtain ⟨y, hy, hy2, _⟩ := findP_some h2
      rcases List.mem_cons.1 hx with rfl | hx
      · exact hx2.symm
      · rcases List.mem_cons.1 hy with rfl | hy
        · exact hy2
        · have e1 := hb'.1 x hx
          have e2 := ha'.1 y hy
          rw [hx2] at e1
          rw [hy2] at e2
          rw [ltB_asymm e1] at e2
          cases e2
    have hc : p.chain = q.chain := by
      have := h p.key
      rw [findP_cons, if_pos rfl, findP_cons, if_pos hk.symm] at this
      injection this
    have ht : a = b := srt_ext ha'.2 hb'.2 fun k => by
      by_cases e : p.key = k
      · rw [findP_lt fun x hx => by rw [← e]; exact ha'.1 x hx, findP_lt fun x hx => by rw [← e, hk]; exact hb'.1 x hx]
      · have := h k
        rw [findP_cons, if_neg e, findP_cons, if_neg (by rw [← hk]; exact e)] at this
        exact this
    subst ht
    cases p; cases q
    simp only at hk hc
    subst hk; subst hc
    rfl
theorem put_okP {l : List Pr} (h : okP l) {k : List UInt8} {c : List Ver} (hk : k.length ≤ 16) (hc : okV c) (hc0 : c ≠ []) : okP (putP l k c) := by
  obtain ⟨h1, h2⟩ := (okP_iff l).1 h
  rw [putP_ins h2]
  refine (okP_iff _).2 ⟨fun p hp => ?_, ins_srt h2⟩
  rcases ins_mem hp with rfl | hp
  · exact ⟨hc, hc0, hk⟩
  · exact h1 p hp
theorem put_find {l : List Pr} (h : Srt l) {k k' : List UInt8} {c : List Ver} : findP (putP l k c) k' = if k = k' then some c else findP l k' := by rw [putP_ins h, ins_find]
theorem put_len {l : List Pr} (h : Srt l) {k : List UInt8} {c : List Ver} : (putP l k c).length = if (findP l k).isSome then l.length else l.length + 1 := by rw [putP_ins h, ins_len h]
theorem put_srt {l : List Pr} (h : Srt l) {k : List UInt8} {c : List Ver} : Srt (putP l k c) := by rw [putP_ins h]; exact ins_srt h
theorem put_del {l : List Pr} (h : Srt l) {k : List UInt8} {c : List Ver} (hn : findP l k = none) : delP (putP l k c) k = l := by
  refine srt_ext (del_srt (put_srt h)) h fun k' => ?_
  rw [del_find, put_find h]
  by_cases e : k = k'
  · rw [if_pos e, ← e, hn]
  · rw [if_neg e, if_neg e]
theorem del_put {l : List Pr} (h : Srt l) {k : List UInt8} {c : List Ver} (hn : findP l k = some c) : putP (delP l k) k c = l := by
  refine srt_ext (put_srt (del_srt h)) h fun k' => ?_
  rw [put_find (del_srt h), del_find]
  by_cases e : k = k'
  · rw [if_pos e, ← e, hn]
  · rw [if_neg e, if_neg e]
theorem nextP_nil (k : List UInt8) : nextP [] k = none := rfl
theorem nextP_cons (p : Pr) (l : List Pr) (k : List UInt8) : nextP (p :: l) k = if ltB p.key k then nextP l k else some p.key := by
  unfold nextP
  cases h : ltB p.key k <;> simp [h]
theorem nextP_none {l : List Pr} {k : List UInt8} : nextP l k = none ↔ ∀ p ∈ l, ltB p.key k = true := by
  induction l with
  | nil => simp [nextP_nil]
  | cons p l ih =>
    rw [nextP_cons]
    cases h : ltB p.key k <;> simp [h, ih]
theorem nextP_some {l : List Pr} (hs : Srt l) {k x : List UInt8} (h : nextP l k = some x) : ltB x k = false ∧ (∃ p ∈ l, p.key = x) ∧ ∀ p ∈ l, ltB p.key k = false → ltB p.key x = false := by
  induction l with
  | nil => cases h
  | cons p l ih =>
    have hs' := List.pairwise_cons.1 hs
    rw [nextP_cons] at h
    cases hp : ltB p.key k with
    | true =>
      rw [hp, if_pos rfl] at h
      obtain ⟨h1, ⟨q, hq, h2⟩, h3⟩ := ih hs'.2 h
      refine ⟨h1, ⟨q, by simp [hq], h2⟩, fun r hr h4 => ?_⟩
      rcases List.mem_cons.1 hr with rfl | hr
      · rw [hp] at h4; cases h4
      · exact h3 r hr h4
    | false =>
      rw [hp] at h
      simp at h
      subst h
      refine ⟨hp, ⟨p, by simp, rfl⟩, fun r hr h4 => ?_⟩
      rcases List.mem_cons.1 hr with rfl | hr
      · exact ltB_irrefl _
      · exact ltB_asymm (hs'.1 r hr)
theorem nextP_eq {l : List Pr} {k : List UInt8} {c : List Ver} (hs : Srt l) (h : findP l k = some c) : nextP l k = some k := by
  obtain ⟨p, hp, rfl, _⟩ := findP_some h
  cases hn : nextP l p.key with
  | none => have := nextP_none.1 hn p hp; rw [ltB_irrefl] at this; cases this
  | some x =>
    obtain ⟨h1, _, h3⟩ := nextP_some hs hn
    have := h3 p hp (ltB_irrefl _)
    by_cases e : p.key = x
    · rw [e]
    · have := ltB_total e this; rw [h1] at this; cases this
theorem nextP_find {l : List Pr} {k x : List UInt8} (hs : Srt l) (h : nextP l k = some x) : (findP l k).isSome = decide (x = k) := by
  obtain ⟨h1, ⟨p, hp, rfl⟩, h3⟩ := nextP_some hs h
  by_cases e : p.key = k
  · rw [← e, findP_mem hs hp]; simp
  · cases hf : findP l k with
    | none => simp [e]
    | some c =>
      have := nextP_eq hs hf
      rw [this] at h
      injection h with h
      exact absurd h.symm e
theorem ltB_nil (a : List UInt8) : ltB a [] = false := by cases a <;> rfl
theorem ltB_more : ∀ (a k : List UInt8), ltB a (k ++ [0]) = (ltB a k || decide (a = k))
  | [], [] => by simp [ltB, Op.bytesLess]
  | [], _ :: _ => by simp [ltB, Op.bytesLess]
  | x :: a, [] => by
    have h := ltB_nil a
    unfold ltB at h
    simp [ltB, Op.bytesLess, h]
  | x :: a, y :: k => by
    have ih := ltB_more a k
    unfold ltB at ih
    simp only [ltB, List.cons_append, Op.bytesLess, ih, List.cons.injEq]
    by_cases h1 : x < y
    · simp [h1]
    · by_cases h2 : x = y
      · subst h2; simp
      · have h3 : (x == y) = false := beq_eq_false_iff_ne.2 h2
        simp [h1, h2, h3]
theorem nextP_first {p : Pr} {l : List Pr} : nextP (p :: l) [] = some p.key := by rw [nextP_cons, ltB_nil]; rfl
theorem nextP_more {l : List Pr} (hs : Srt l) {i : Nat} (hi : i < l.length) : nextP l (l[i].key ++ [0]) = (l[i + 1]?).map (·.key) := by
  induction l generalizing i with
  | nil => simp at hi
  | cons p l ih =>
    have hs' := List.pairwise_cons.1 hs
    rw [nextP_cons, ltB_more]
    cases i with
    | zero =>
      simp only [List.getElem_cons_zero, decide_true, Bool.or_true, if_true, Nat.zero_add, List.getElem?_cons_succ]
      cases l with
      | nil => rfl
      | cons q l =>
        have := hs'.1 q (by simp)
        rw [nextP_cons, ltB_more, ltB_asymm this, decide_eq_false (fun e => ltB_ne this e.symm)]
        rfl
    | succ i =>
      have hi' : i < l.length := by simpa using hi
      have h1 := hs'.1 l[i] (List.getElem_mem hi')
      simp only [List.getElem_cons_succ, h1, Bool.true_or, if_true, List.getElem?_cons_succ]
      exact ih hs'.2 hi'
theorem okN_srt {n : Nd} (h : okN n) : Srt (pairsN n) := ((okP_iff _).1 h.2).2
theorem prN_srt (n : Nd) : Srt (prN n) := by
  unfold prN
  split
  · exact okN_srt ‹_›
  · exact List.Pairwise.nil
end Go.Proofs.Ytdegjkfjaklkjaa
