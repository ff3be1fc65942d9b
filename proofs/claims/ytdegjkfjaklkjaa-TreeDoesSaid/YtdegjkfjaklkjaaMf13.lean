/-
  TEXTS OF ONE PROOF, merged: Sinc, TreK, TrbC, TrbD, TrbE, TrbF, Ope, VerO.
-/
import Derived.ChangeSame
import Derived.ChangeSlices
import Derived.Deep.Slices
import Derived.Deep.Strs
import Derived.ProofKit
import Derived.RangeFuncFrom
import Derived.Test.YtdegjkfjaklkjaaMf12
namespace Go.Proofs.Ytdegjkfjaklkjaa
open Go.RowKit
abbrev SGq (Km Kb : World → World → Prop) := { G : World → Value → Prop // (∀ w v w', G w v → Below w.heap.size w w' → G w' v) ∧ (∀ w v w', G w v → Km w w' → G w' v) ∧ (∀ w v w', G w v → Kb w w' → G w' v) }
section
variable {Km Kb : World → World → Prop}
def nEq (u : Value) : SGq Km Kb := ⟨fun _ v => v = u, fun _ _ _ h _ => h, fun _ _ _ h _ => h, fun _ _ _ h _ => h⟩
def nAny : SGq Km Kb := ⟨fun _ _ => True, fun _ _ _ h _ => h, fun _ _ _ h _ => h, fun _ _ _ h _ => h⟩
def kn (Km Kb : World → World → Prop) (m m2 i : Nat) (A B : World) : Prop := if i = m then Km A B else if i = m2 then Kb A B else Below A.heap.size A B
def gn (Gs : List (SGq Km Kb)) (m m2 : Nat) (Gm : World → Value → Prop) (G2 : Value → World → Value → Prop) (vs : Nat → Value) (i : Nat) : World → Value → Prop := if i = m then Gm else if i = m2 then G2 (vs m) else (Gs.getD i nAny).1
end
variable {P : Program} {Q : Exit → Act → World → Prop}
theorem wp_region_sink3 {id : Nat} {ops : Array Oper} {a : Act} {w : World} (hm : P.follows .mixedOrders = true) (hs : gdB ops = true) (Km Kb : World → World → Prop) (m m2 : Nat) (pre : Nat → Bool) (hpre : preB ops m pre = true) (hpost : postB ops m (fun i => decide (i = m2)) = true)
    (hj : (ops[m2]?.any fun o => o.after.any fun e => e.on == m && Region.binds .any e) = true) (R : World → Prop) (hR : ∀ A, Below w.heap.size w A → R A)
    (hKr : ∀ w, Km w w) (hKb : ∀ w, Kb w w) (hRb : ∀ A B, R A → Below A.heap.size A B → R B) (hRk : ∀ A B, R A → Km A B → R B) (hRk2 : ∀ A B, R A → Kb A B → R B) (Gs : List (SGq Km Kb)) (Gm : World → Value → Prop) (hGm : ∀ w v w', Gm w v → Below w.heap.size w w' → Gm w' v) (hGm2 : ∀ w v w', Gm w v → Kb w w' → Gm w' v)
    (G2 : Value → World → Value → Prop) (hG2 : ∀ u w v w', G2 u w v → Below w.heap.size w w' → G2 u w' v)
    (hop : GdAllM P Q ops a (kn Km Kb m m2) R (Below w.heap.size w) m pre (fun i => decide (i = m2)) (fun _ => false) (gn Gs m m2 Gm G2) 0 ops.toList)
    (hend : ∀ (vs : Nat → Value) (w' : World), R w' → (∀ i, i < ops.size → gn Gs m m2 Gm G2 vs i w' (vs i)) → Q .normal (putAll a ops.toList vs 0) w') : (Code.region id ops true).wp P Q a w := by
  refine wp_region_m hm hs (kn Km Kb m m2) R (Below w.heap.size w) m pre (fun i => decide (i = m2)) (fun _ => false) (gn Gs m m2 Gm G2) hpre ?_ (hR _ ⟨rfl, rfl, rfl, Nat.le_refl _, fun _ _ => rfl⟩) ⟨rfl, rfl, rfl, Nat.le_refl _, fun _ _ => rfl⟩ ?_ ?_ hpost ?_ ?_ hop (fun vs w' h1 h2 => hend vs w' h1 fun i hi => h2 i hi rfl)
  · intro i w
    unfold kn
    split
    · exact hKr w
    · split
      · exact hKb w
      · exact Below.refl _ _
  · intro i A B h k
    unfold kn at k
    split at k
    · exact hRk _ _ h k
    · split at k
      · exact hRk2 _ _ h k
      · exact hRb _ _ h k
  · intro i A B hi hp h k
    unfold kn at k
    rw [if_neg hi, if_neg (by simpa using hp)] at k
    exact h.trans (k.mono h.size)
  · intro vs i j w v w' hij hpo hG hK
    unfold kn at hK
    unfold gn at hG ⊢
    split at hK
    · rename_i hj
      have hp := (hpo hj).1
      rw [if_neg (by omega), if_neg (by simpa using hp)] at hG ⊢
      exact (Gs.getD i nAny).2.2.1 w v w' hG hK
    · split at hK
      · rename_i hj hj2
        split
        · rename_i hi
          rw [if_pos hi] at hG
          exact hGm2 w v w' hG hK
        · rename_i hi
          rw [if_neg hi, if_neg (by omega)] at hG
          rw [if_neg (by omega)]
          exact (Gs.getD i nAny).2.2.2 w v w' hG hK
      · split
        · rename_i hi
          rw [if_pos hi] at hG
          exact hGm w v w' hG hK
        · rename_i hi
          rw [if_neg hi] at hG
          split
          · rename_i hi2
            rw [if_pos hi2] at hG
            exact hG2 _ w v w' hG hK
          · rename_i hi2
            rw [if_neg hi2] at hG
            exact (Gs.getD i nAny).2.1 w v w' hG hK
  · intro vs us i w v hl hG
    unfold gn at hG ⊢
    split
    · rename_i hi
      rw [if_pos hi] at hG
      exact hG
    · rename_i hi
      rw [if_neg hi] at hG
      split
      · rename_i hi2
        rw [if_pos hi2] at hG
        cases ho : ops[m2]? with
        | none => rw [ho] at hj; simp at hj
        | some o =>
          rw [ho] at hj
          simp only [Option.any_some, Array.any_eq_true', Bool.and_eq_true, beq_iff_eq] at hj
          obtain ⟨e, he, h1, h2⟩ := hj
          have := hl o (by rw [hi2]; exact ho) e he h2
          rw [h1] at this
          rw [← this]
          exact hG
      · rename_i hi2
        rw [if_neg hi2] at hG
        exact hG
end Go.Proofs.Ytdegjkfjaklkjaa
namespace Go.Proofs.Ytdegjkfjaklkjaa
open Go.RowKit Go.Shelf
structure Two (w A : World) (r : Option Nat) (b : Nat) : Prop where
  os : A.os = w.os
  tape : A.tape = w.tape
  output : A.output = w.output
  size : w.heap.size ≤ A.heap.size
  block : ∀ k, k < w.heap.size → some k ≠ r → k ≠ b → A.heap[k]? = w.heap[k]?
theorem Two.of_below {w A : World} {r : Option Nat} {b : Nat} (h : Below w.heap.size w A) : Two w A r b := ⟨h.os, h.tape, h.output, h.size, fun k hk _ _ => h.block k hk⟩
theorem Two.below {w A B : World} {r : Option Nat} {b : Nat} (h : Two w A r b) (k : Below A.heap.size A B) : Two w B r b :=
  ⟨k.os.trans h.os, k.tape.trans h.tape, k.output.trans h.output, Nat.le_trans h.size k.size, fun j h1 h2 h3 => (k.block j (Nat.lt_of_lt_of_le h1 h.size)).trans (h.block j h1 h2 h3)⟩
theorem Two.row {w A B : World} {r : Option Nat} {b : Nat} (h : Two w A r b) (k : A.grownBy B r) : Two w B r b :=
  ⟨k.os.trans h.os, k.tape.trans h.tape, k.output.trans h.output, Nat.le_trans h.size k.size, fun j h1 h2 h3 => (k.block j (Nat.lt_of_lt_of_le h1 h.size) h2).trans (h.block j h1 h2 h3)⟩
theorem Two.box {w A B : World} {r : Option Nat} {b : Nat} (h : Two w A r b) (k : A.grownBy B (some b)) : Two w B r b :=
  ⟨k.os.trans h.os, k.tape.trans h.tape, k.output.trans h.output, Nat.le_trans h.size k.size, fun j h1 h2 h3 => (k.block j (Nat.lt_of_lt_of_le h1 h.size) (fun e => h3 (by injection e))).trans (h.block j h1 h2 h3)⟩
theorem Two.belowB {w0 w A : World} {r : Option Nat} {b : Nat} (h : Two w A r b) (q : Below w0.heap.size w0 w) (hr : ∀ k, r = some k → w0.heap.size ≤ k) (hb : w0.heap.size ≤ b) : Below w0.heap.size w0 A :=
  ⟨h.os.trans q.os, h.tape.trans q.tape, h.output.trans q.output, Nat.le_trans q.size h.size, fun k hk => (h.block k (Nat.lt_of_lt_of_le hk q.size) (fun e => by have := hr k e.symm; omega) (by omega)).trans (q.block k hk)⟩
theorem Two.tri {w A : World} {r : Option Nat} {b g : Nat} {t : TypeId} {x y z : Value} (h : Two w A r b) (hT : TriV w g t x y z) (hr : some g ≠ r) (hb : g ≠ b) : TriV A g t x y z := (h.block g hT.lt hr hb).trans hT
theorem grown_setCell (w : World) (p : Addr) (v : Value) : w.grownBy (w.setCell p v) (some p.block) := ⟨rfl, rfl, rfl, by simp [World.setCell], fun k _ hk => heap_setCell_other w p k v (fun e => hk (by rw [e]))⟩
def KbP (b f : Nat) (A B : World) : Prop := A = B ∨ ∃ a k c, B = A.setCell ⟨b, f, none⟩ (.slice a k c)
theorem KbP.grown {b f : Nat} {A B : World} (h : KbP b f A B) : A.grownBy B (some b) := by
  rcases h with rfl | ⟨a, k, c, rfl⟩
  · exact ⟨rfl, rfl, rfl, Nat.le_refl _, fun _ _ _ => rfl⟩
  · exact grown_setCell _ ⟨b, f, none⟩ _
section
variable (E : TypeId) (base : Nat) (r : Option Nat) (hr : ∀ k, r = some k → k < base) (b : Nat) (hb : b < base) (f : Nat)
include hr hb
def nZeroB : SGq (fun A B => A.grownBy B r) (KbP b f) := ⟨fun w v => ∃ g, v = .slice (some g) 0 0 ∧ Own E base w (.slice (some g) 0 0) [], fun _ _ _ ⟨g, h, ho⟩ hb => ⟨g, h, ho.below hb⟩, fun _ _ _ ⟨g, h, ho⟩ hk => ⟨g, h, own_grown ho hk hr⟩, fun _ _ _ ⟨g, h, ho⟩ hk => ⟨g, h, own_grown ho hk.grown (fun k e => by injection e with e; omega)⟩⟩
def nOwnB (xs : List UInt8) : SGq (fun A B => A.grownBy B r) (KbP b f) := ⟨fun w v => ∃ ad k c, v = .slice ad k c ∧ Own E base w (.slice ad k c) xs, fun _ _ _ ⟨ad, k, c, h, ho⟩ hb => ⟨ad, k, c, h, ho.below hb⟩, fun _ _ _ ⟨ad, k, c, h, ho⟩ hk => ⟨ad, k, c, h, own_grown ho hk hr⟩, fun _ _ _ ⟨ad, k, c, h, ho⟩ hk => ⟨ad, k, c, h, own_grown ho hk.grown (fun k e => by injection e with e; omega)⟩⟩
def nOne (T : TypeId) (xs : List UInt8) : SGq (fun A B => A.grownBy B r) (KbP b f) := ⟨fun w v => ∃ g ad k c, v = .slice (some ⟨g, 0, none⟩) 1 1 ∧ base ≤ g ∧ w.heap[g]? = some (.cells [.slice ad k c].toArray T (0, 0)) ∧ Own E base w (.slice ad k c) xs,
  fun _ _ _ ⟨g, ad, k, c, h, h0, hc, ho⟩ hb => ⟨g, ad, k, c, h, h0, (hb.block g (Array.getElem?_eq_some_iff.1 hc).1).trans hc, ho.below hb⟩,
  fun _ _ _ ⟨g, ad, k, c, h, h0, hc, ho⟩ hk => ⟨g, ad, k, c, h, h0, (hk.block g (Array.getElem?_eq_some_iff.1 hc).1 (fun e => by have := hr g e.symm; omega)).trans hc, own_grown ho hk hr⟩,
  fun _ _ _ ⟨g, ad, k, c, h, h0, hc, ho⟩ hk => ⟨g, ad, k, c, h, h0, (hk.grown.block g (Array.getElem?_eq_some_iff.1 hc).1 (fun e => by injection e with e; omega)).trans hc, own_grown ho hk.grown (fun k e => by injection e with e; omega)⟩⟩
end
theorem triBoxes3 (w : World) (t : TypeId) (u v r u' v' r' u2 v2 r2 : Value) : ∃ W, W = ((w.alloc (.cells #[u, v, r] t)).alloc (.cells #[u', v', r'] t)).alloc (.cells #[u2, v2, r2] t) ∧ Below w.heap.size w W ∧ TriV W w.heap.size t u v r ∧ TriV W (w.heap.size + 1) t u' v' r' ∧ TriV W (w.heap.size + 1 + 1) t u2 v2 r2 ∧ W.heap.size = w.heap.size + 1 + 1 + 1 := by
  have h1 : Below w.heap.size w (w.alloc (.cells #[u, v, r] t)) := (Below.refl _ _).alloc (Nat.le_refl _) _
  have s1 : (w.alloc (.cells #[u, v, r] t)).heap.size = w.heap.size + 1 := World.size_alloc _ _
  have b1 := TriV.new w t u v r
  generalize w.alloc (.cells #[u, v, r] t) = w1 at *
  have h2 : Below w1.heap.size w1 (w1.alloc (.cells #[u', v', r'] t)) := (Below.refl _ _).alloc (Nat.le_refl _) _
  have s2 : (w1.alloc (.cells #[u', v', r'] t)).heap.size = w1.heap.size + 1 := World.size_alloc _ _
  have b2 := TriV.new w1 t u' v' r'
  generalize w1.alloc (.cells #[u', v', r'] t) = w2 at *
  have h3 : Below w2.heap.size w2 (w2.alloc (.cells #[u2, v2, r2] t)) := (Below.refl _ _).alloc (Nat.le_refl _) _
  have s3 : (w2.alloc (.cells #[u2, v2, r2] t)).heap.size = w2.heap.size + 1 := World.size_alloc _ _
  have b3 := TriV.new w2 t u2 v2 r2
  rw [s1] at b2 s2
  rw [s2] at b3 s3
  exact ⟨_, rfl, (h1.trans (h2.mono h1.size)).trans (h3.mono (h1.trans (h2.mono h1.size)).size), (b1.below h2 b1.lt).below h3 (by omega), b2.below h3 (by omega), b3, s3⟩
theorem wp_storeSl {P : Program} {o : Oper} {a : Act} {K : Act → World → Prop} {Q : Exit → Act → World → Prop} {w : World} {t : TypeId} {x y : Operand} {b f : Nat} {u : Value} {ad : Option Addr} {k c : Nat} (ho : o.op = .store t x y) (hu : (P.info? t).map (·.size) = some 1) (hx : a.eval x = .pointer (some ⟨b, f, none⟩)) (hy : a.eval y = .slice ad k c) (hc : w.cell? ⟨b, f, none⟩ = some u) (hf : w.frozen? ⟨b, f, none⟩ = false)
    (h : K (a.put o.dst undef) (w.setCell ⟨b, f, none⟩ (.slice ad k c))) : o.wp P a w K Q := by
  refine wp_skip ?_ h
  simp only [execOp, ho, hx, hy]
  simp [Instr.storeAt, storeVar, run_sizeOf hu, storeCells, Value.cells, run_store _ _ _ _ _ (show (Value.slice ad k c).oneCell' = true from rfl), hc, hf, go_sem]
section
variable {α : Type} (E : Elt α) (B : Nat) (r : Option Nat) (hr : ∀ k, r = some k → k < B) (b : Nat) (hb : b < B) (f : Nat)
include hr hb
def nElt (x : α) : SGq (fun A B => A.grownBy B r) (KbP b f) := ⟨fun w v => ∃ us : List Value, v.cells = us.toArray ∧ E.R (fun k => B ≤ k ∧ k < w.heap.size) w x us,
  fun _ _ _ ⟨us, h, hR⟩ hb => ⟨us, h, E.weak (Elt.below hR hb) fun _ hk => ⟨hk.1, Nat.lt_of_lt_of_le hk.2 hb.size⟩⟩,
  fun _ _ _ ⟨us, h, hR⟩ hk => ⟨us, h, E.weak (E.keep hR fun k hh => hk.block k hh.2 (fun e => by have := hr k e.symm; omega)) fun _ hh => ⟨hh.1, Nat.lt_of_lt_of_le hh.2 hk.size⟩⟩,
  fun _ _ _ ⟨us, h, hR⟩ hk => ⟨us, h, E.weak (E.keep hR fun k hh => hk.grown.block k hh.2 (fun e => by injection e with e; omega)) fun _ hh => ⟨hh.1, Nat.lt_of_lt_of_le hh.2 hk.grown.size⟩⟩⟩
def nOneE (T : TypeId) (x : α) : SGq (fun A B => A.grownBy B r) (KbP b f) := ⟨fun w v => ∃ g, ∃ us : List Value, v = .slice (some ⟨g, 0, none⟩) 1 1 ∧ B ≤ g ∧ w.heap[g]? = some (.cells us.toArray T (0, 0)) ∧ E.R (fun k => B ≤ k ∧ k < w.heap.size) w x us,
  fun _ _ _ ⟨g, us, h, h0, hc, hR⟩ hb => ⟨g, us, h, h0, (hb.block g (Array.getElem?_eq_some_iff.1 hc).1).trans hc, E.weak (Elt.below hR hb) fun _ hk => ⟨hk.1, Nat.lt_of_lt_of_le hk.2 hb.size⟩⟩,
  fun _ _ _ ⟨g, us, h, h0, hc, hR⟩ hk => ⟨g, us, h, h0, (hk.block g (Array.getElem?_eq_some_iff.1 hc).1 (fun e => by have := hr g e.symm; omega)).trans hc, E.weak (E.keep hR fun k hh => hk.block k hh.2 (fun e => by have := hr k e.symm; omega)) fun _ hh => ⟨hh.1, Nat.lt_of_lt_of_le hh.2 hk.size⟩⟩,
  fun _ _ _ ⟨g, us, h, h0, hc, hR⟩ hk => ⟨g, us, h, h0, (hk.grown.block g (Array.getElem?_eq_some_iff.1 hc).1 (fun e => by injection e with e; omega)).trans hc, E.weak (E.keep hR fun k hh => hk.grown.block k hh.2 (fun e => by injection e with e; omega)) fun _ hh => ⟨hh.1, Nat.lt_of_lt_of_le hh.2 hk.grown.size⟩⟩⟩
end
def BoxF (b : Nat) (t : TypeId) (x y z : Value) (f : Nat) (u : Value) (A : World) : Prop := A.heap[b]? = some (.cells (#[x, y, z].setIfInBounds f u) t (0, 0))
section
variable {b : Nat} {t : TypeId} {x y z u : Value} {f : Nat} {A B : World}
theorem BoxF.keep (h : BoxF b t x y z f u A) (hk : B.heap[b]? = A.heap[b]?) : BoxF b t x y z f u B := hk.trans h
theorem BoxF.lt (h : BoxF b t x y z f u A) : b < A.heap.size := (Array.getElem?_eq_some_iff.1 h).1
theorem BoxF.cell (h : BoxF b t x y z f u A) (hf : f < 3) : A.cell? ⟨b, f, none⟩ = some u := by
  simp [World.cell?, show A.heap[b]? = _ from h, hf]
theorem BoxF.frozen (h : BoxF b t x y z f u A) : A.frozen? ⟨b, f, none⟩ = false := by simp [World.frozen?, show A.heap[b]? = _ from h]
theorem BoxF.put (h : BoxF b t x y z f u A) (v : Value) : BoxF b t x y z f v (A.setCell ⟨b, f, none⟩ v) := by
  unfold BoxF at h ⊢
  simp only [World.setCell, Array.getElem?_modify, h]
  simp
theorem BoxF.tri0 (h : TriV A b t u y z) : BoxF b t x y z 0 u A := h
theorem BoxF.tri1 (h : TriV A b t x u z) : BoxF b t x y z 1 u A := h
theorem BoxF.tri2 (h : TriV A b t x y u) : BoxF b t x y z 2 u A := h
theorem BoxF.of0 (h : BoxF b t x y z 0 u A) : TriV A b t u y z := h
theorem BoxF.of1 (h : BoxF b t x y z 1 u A) : TriV A b t x u z := h
theorem BoxF.of2 (h : BoxF b t x y z 2 u A) : TriV A b t x y u := h
end
theorem wp_region_push {P : Program} {Q : Exit → Act → World → Prop} {α : Type} {E : Elt α} {Te : TypeId} {base lo : Nat} {wr : World} {ad : Option Addr} {ko co : Nat} {xs : List α} (el : α) {b f : Nat} {t : TypeId} {x y z : Value} (hO : OwnL E Te base lo wr (.slice ad ko co) xs) (hbox : BoxF b t x y z f (.slice ad ko co) wr) (hb1 : b < base) (hb2 : b < lo)
    {id : Nat} {ops : Array Oper} {a : Act} (hm : P.follows .mixedOrders = true) (hs : gdB ops = true) (m m2 : Nat) (pre : Nat → Bool) (hpre : preB ops m pre = true) (hpost : postB ops m (fun i => decide (i = m2)) = true) (hj : (ops[m2]?.any fun o => o.after.any fun e => e.on == m && Region.binds .any e) = true) (hlt : m < ops.size ∧ m2 < ops.size ∧ m2 ≠ m)
    (Gs : List (SGq (fun A B => A.grownBy B (Value.ownBlock (.slice ad ko co))) (KbP b f)))
    (hop : GdAllM P Q ops a (kn (fun A B => A.grownBy B (Value.ownBlock (.slice ad ko co))) (KbP b f) m m2) (fun A => Two wr A (Value.ownBlock (.slice ad ko co)) b ∧ ∃ a k c, BoxF b t x y z f (.slice a k c) A) (Below wr.heap.size wr) m pre (fun i => decide (i = m2)) (fun _ => false)
      (gn Gs m m2 (fun w v => ∃ a k c, v = .slice a k c ∧ OwnL E Te base lo w (.slice a k c) (xs ++ [el])) (fun u w _ => BoxF b t x y z f u w)) 0 ops.toList)
    (hend : ∀ (vs : Nat → Value) (w' : World) (a2 : Option Addr) (k2 c2 : Nat), vs m = .slice a2 k2 c2 → Two wr w' (Value.ownBlock (.slice ad ko co)) b → OwnL E Te base lo w' (.slice a2 k2 c2) (xs ++ [el]) → BoxF b t x y z f (.slice a2 k2 c2) w' → Q .normal (putAll a ops.toList vs 0) w') : (Code.region id ops true).wp P Q a wr := by
  have hne : some b ≠ Value.ownBlock (.slice ad ko co) := fun e => by have := (hO.block_lt b e.symm).1; omega
  refine wp_region_sink3 hm hs (fun A B => A.grownBy B (Value.ownBlock (.slice ad ko co))) (KbP b f) m m2 pre hpre hpost hj (fun A => Two wr A (Value.ownBlock (.slice ad ko co)) b ∧ ∃ a k c, BoxF b t x y z f (.slice a k c) A) (fun A h => ⟨Two.of_below h, ad, ko, co, hbox.keep (h.block b hbox.lt)⟩)
    (fun A => grown_refl A _) (fun A => .inl rfl) (fun A B h k => ⟨h.1.below k, ?_⟩) (fun A B h k => ⟨h.1.row k, ?_⟩) (fun A B h k => ⟨h.1.box k.grown, ?_⟩) Gs _ (fun w v w' h k => ?_) (fun w v w' h k => ?_) _ (fun u w v w' h k => ?_) hop (fun vs w' hR hG => ?_)
  · obtain ⟨_, a, k2, c, h2⟩ := h
    exact ⟨a, k2, c, h2.keep (k.block b h2.lt)⟩
  · obtain ⟨_, a, k2, c, h2⟩ := h
    exact ⟨a, k2, c, h2.keep (k.block b h2.lt hne)⟩
  · obtain ⟨_, a, k2, c, h2⟩ := h
    rcases k with rfl | ⟨a3, k3, c3, rfl⟩
    · exact ⟨a, k2, c, h2⟩
    · exact ⟨a3, k3, c3, h2.put _⟩
  · obtain ⟨a, k2, c, e, h2⟩ := h
    exact ⟨a, k2, c, e, h2.below k⟩
  · obtain ⟨a, k2, c, e, h2⟩ := h
    exact ⟨a, k2, c, e, h2.other k.grown hb2 hb1⟩
  · exact BoxF.keep h (k.block b (BoxF.lt h))
  · have h1 := hG m hlt.1
    have h2 := hG m2 hlt.2.1
    unfold gn at h1 h2
    rw [if_pos rfl] at h1
    rw [if_neg hlt.2.2, if_pos rfl] at h2
    obtain ⟨a2, k2, c2, e, h3⟩ := h1
    rw [e] at h2
    exact hend vs w' a2 k2 c2 e hR.1 h3 h2
def CopyAt (N : Nat) : Prop := ∀ (n : Nd) (w : World) (S : Nat → Prop) (v : Value), wN n ≤ N → N ≤ 1000000 → bndN n → RdN S w v n →
    Calls Try.prog 27 #[v] w fun e w' => ∃ v', e = .returned v' ∧ RdN (fun k => w.heap.size ≤ k ∧ k < w'.heap.size) w' v' n ∧ Below w.heap.size w w'
set_option maxRecDepth 100000 in
set_option maxHeartbeats 8000000 in
theorem refCopyN_step (N : Nat) (ih : CopyAt N) : CopyAt (N + 1) := by
    intro n w S v hN hbig hbd hr
    unfold CopyAt at ih
    have hwp := wN_parts n
    obtain ⟨hbk, hbc, hbn⟩ := (bndN_def n).1 hbd
    obtain ⟨a1, c1, a2, c2, a3, c3, rfl, r1, r2, r3⟩ := hr
    obtain ⟨W, hW, q, bn, bz, bo, hsz⟩ := triBoxes3 w 26 (.slice a1 n.keys.length c1) (.slice a2 n.chains.length c2) (.slice a3 n.kids.length c3) (.slice none 0 0) (.slice none 0 0) (.slice none 0 0) (.slice none 0 0) (.slice none 0 0) (.slice none 0 0)
    go_enter Try.func27, Try.ntmps27
    go_upto_region 3 with (fail)
    rw [← hW]
    have hB : w.heap.size + 1 + 1 + 1 ≤ W.heap.size := Nat.le_of_eq hsz.symm
    have BK := Lib.hid hbk
    have BC := Lib.hid hbc
    have BN := Lib.hid hbn
    clear hW hsz hbk hbc hbn
    go_loopw [4] (fun iv wr => ∃ (i : Nat) (ad : Option Addr) (ko co : Nat), iv = .int .i64 i ∧ i ≤ n.keys.length ∧ OwnL Elt.bytes 27 (w.heap.size + 1 + 1 + 1) (w.heap.size + 1 + 1 + 1) wr (.slice ad ko co) (n.keys.take i) ∧ TriV wr w.heap.size 26 (.slice a1 n.keys.length c1) (.slice a2 n.chains.length c2) (.slice a3 n.kids.length c3) ∧ TriV wr (w.heap.size + 1) 26 (.slice none 0 0) (.slice none 0 0) (.slice none 0 0) ∧ TriV wr (w.heap.size + 1 + 1) 26 (.slice ad ko co) (.slice none 0 0) (.slice none 0 0) ∧ Below w.heap.size w wr ∧ w.heap.size + 1 + 1 + 1 ≤ wr.heap.size) (fun i _ => n.keys.length - (intOf i).toNat)
    case atStart => exact ⟨0, none, 0, 0, rfl, Nat.zero_le _, OwnL.nil _ _ _ _ _, bn, bz, bo, q, hB⟩
    case round =>
      clear q bn bz bo hB
      obtain ⟨i, ad, ko, co, rfl, hil, hO, bn, bz, bo, q, hB⟩ := hrel
      have ta0 := bn.cell0
      have to0 := bo.cell0
      rcases Nat.lt_or_ge i n.keys.length with hlt | hge
      · obtain ⟨b, off, Ak, C, rfl, c0, hky⟩ := (r1.below q).byt i hlt
        have hk1000 := BK.out _ (List.getElem_mem hlt)
        have HSN := Lib.hid (show n.keys.take (i + 1) = n.keys.take i ++ [n.keys[i]] from List.take_succ_eq_append_getElem hlt)
        obtain ⟨ky, eky⟩ : ∃ ky, ky = n.keys[i] := ⟨_, rfl⟩
        rw [← eky] at c0 hky hk1000 HSN
        clear eky
        have c0' : wr.cell? ⟨b, off + i * 1, none⟩ = some (.slice Ak ky.length C) := by rw [Nat.mul_one]; exact c0
        clear c0
        go_upto_region 5 with (fail)
        have hob : ∀ k, Value.ownBlock (.slice ad ko co) = some k → k < wr.heap.size := fun k hk => (hO.block_lt k hk).2
        have hbo : w.heap.size + 1 + 1 < wr.heap.size := by omega
        refine wp_region_push (E := Elt.bytes) (Te := 27) ky hO (BoxF.tri0 (x := .slice none 0 0) bo) (by omega) (by omega) (by kernel_rfl) (by kernel_rfl) 10 12 (fun i => decide (i < 10)) (by kernel_rfl) (by kernel_rfl) (by kernel_rfl) (by decide) [nEq (.pointer (some ⟨w.heap.size + 1 + 1, 0, none⟩)), nEq (.slice ad ko co), nZeroB 5 wr.heap.size _ hob _ hbo 0, nEq (.pointer (some ⟨w.heap.size, 0, none⟩)), nEq (.slice (some ⟨b, off, none⟩) n.keys.length c1), nEq (.int .i64 i), nEq (.pointer (some ⟨b, off + i * 1, none⟩)), nEq (.slice Ak ky.length C), nOwnB 5 wr.heap.size _ hob _ hbo 0 ky, nOne 5 wr.heap.size _ hob _ hbo 0 27 ky, nAny, nEq (.pointer (some ⟨w.heap.size + 1 + 1, 0, none⟩))]
          ⟨?o0, ?o1, ?o2, ?o3, ?o4, ?o5, ?o6, ?o7, ?o8, ?o9, ?o10, ?o11, ?o12, trivial⟩ ?fin
        case o0 =>
          refine GdOpM.plain rfl (fun A vs w' hF hT hR h0 hu hd => ?_)
          have e1 : A.eval (.tmp 3) = .pointer (some ⟨w.heap.size + 1 + 1, 0, none⟩) := hF 3 rfl
          exact wp_fieldN ndS rfl (e1) (by omega) ⟨_, rfl, rfl, Below.refl _ _⟩
        case o1 =>
          refine GdOpM.plain rfl (fun A vs w' hF hT hR h0 hu hd => ?_)
          have e1 : A.eval (.tmp 15) = .pointer (some ⟨w.heap.size + 1 + 1, 0, none⟩) := (hT 15 0 (by simp) rfl).trans (hd ⟨0, .data⟩ (by simp) rfl)
          exact wp_ld_slice (e := 27) rfl (e1) (by kernel_rfl) (((h0 (.inl rfl)).cell (p := ⟨w.heap.size + 1 + 1, 0, none⟩) (cell_lt to0)).trans to0) ⟨_, rfl, rfl, Below.refl _ _⟩
        case o2 =>
          refine GdOpM.plain rfl (fun A vs w' hF hT hR h0 hu hd => ?_)
          refine wp_build byP rfl [] (by kernel_rfl) rfl (by simp) (fun g k w2 h2 => ?_)
          obtain rfl : k = 0 := h2.len
          exact ⟨_, rfl, ⟨_, rfl, h2.2.to (h0 (.inl rfl)).size⟩, h2.1⟩
        case o3 =>
          refine GdOpM.plain rfl (fun A vs w' hF hT hR h0 hu hd => ?_)
          have e1 : A.eval (.tmp 1) = .pointer (some ⟨w.heap.size, 0, none⟩) := hF 1 rfl
          exact wp_fieldN ndS rfl (e1) (by omega) ⟨_, rfl, rfl, Below.refl _ _⟩
        case o4 =>
          refine GdOpM.plain rfl (fun A vs w' hF hT hR h0 hu hd => ?_)
          have e1 : A.eval (.tmp 18) = .pointer (some ⟨w.heap.size, 0, none⟩) := (hT 18 3 (by simp) rfl).trans (hd ⟨3, .data⟩ (by simp) rfl)
          exact wp_ld_slice (e := 27) rfl (e1) (by kernel_rfl) (((h0 (.inl rfl)).cell (p := ⟨w.heap.size, 0, none⟩) (cell_lt ta0)).trans ta0) ⟨_, rfl, rfl, Below.refl _ _⟩
        case o5 =>
          refine GdOpM.plain rfl (fun A vs w' hF hT hR h0 hu hd => ?_)
          have e1 : A.eval (.tmp 4) = .int .i64 i := hF 4 rfl
          exact BigFrame.wp_move _ rfl ⟨_, rfl, e1, Below.refl _ _⟩
        case o6 =>
          refine GdOpM.plain rfl (fun A vs w' hF hT hR h0 hu hd => ?_)
          have e1 : A.eval (.tmp 19) = .slice (some ⟨b, off, none⟩) n.keys.length c1 := (hT 19 4 (by simp) rfl).trans (hd ⟨4, .data⟩ (by simp) rfl)
          have e2 : A.eval (.tmp 20) = .int .i64 i := (hT 20 5 (by simp) rfl).trans (hd ⟨5, .data⟩ (by simp) rfl)
          exact wp_ixN (e := 27) rfl (by kernel_rfl) (by kernel_rfl) (e1) (e2) rfl (by omega) ⟨_, rfl, rfl, Below.refl _ _⟩
        case o7 =>
          refine GdOpM.plain rfl (fun A vs w' hF hT hR h0 hu hd => ?_)
          have e1 : A.eval (.tmp 21) = .pointer (some ⟨b, off + i * 1, none⟩) := (hT 21 6 (by simp) rfl).trans (hd ⟨6, .data⟩ (by simp) rfl)
          exact wp_ld_slice (e := 5) rfl (e1) (by kernel_rfl) (((h0 (.inl rfl)).cell (p := ⟨b, off + i * 1, none⟩) (cell_lt c0')).trans c0') ⟨_, rfl, rfl, Below.refl _ _⟩
        case o8 =>
          refine GdOpM.plain rfl (fun A vs w' hF hT hR h0 hu hd => ?_)
          have e2 : A.eval (.tmp 22) = .slice Ak ky.length C := (hT 22 7 (by simp) rfl).trans (hd ⟨7, .data⟩ (by simp) rfl)
          obtain ⟨g, q0, hZ⟩ := hd ⟨2, .data⟩ (by simp) rfl
          have e3 : A.eval (.tmp 17) = .slice (some g) 0 0 := (hT 17 2 (by simp) rfl).trans q0
          exact wp_append_zero byP rfl e3 hZ e2 (hky.below (h0 (.inl rfl))).rd (h0 (.inl rfl)).size (fun ad k cap w2 h2 hb => ⟨_, rfl, ⟨_, _, _, rfl, h2⟩, hb⟩) (by omega)
        case o9 =>
          refine GdOpM.plain rfl (fun A vs w' hF hT hR h0 hu hd => ?_)
          obtain ⟨ad5, k5, c5, q0, hZ⟩ := hd ⟨8, .data⟩ (by simp) rfl
          have e4 : A.eval (.tmp 23) = .slice ad5 k5 c5 := (hT 23 8 (by simp) rfl).trans q0
          have hb1 : Below w'.heap.size w' (w'.alloc (.cells [Value.slice ad5 k5 c5].toArray 27)) := (Below.refl _ _).alloc (Nat.le_refl _) _
          exact wp_buildOne kysP rfl e4 rfl rfl (by omega) (by omega) ⟨_, rfl, ⟨_, ad5, k5, c5, rfl, (h0 (.inl rfl)).size, by simp only [World.alloc, Array.getElem?_push_size], hZ.below hb1⟩, hb1⟩
        case o10 =>
          refine GdOpM.plain rfl (fun A vs w' hF hT hR h0 hu hd => ?_)
          have e1 : A.eval (.tmp 16) = .slice ad ko co := (hT 16 1 (by simp) rfl).trans (hd ⟨1, .data⟩ (by simp) rfl)
          obtain ⟨b5, ad5, k5, c5, q0, hb5, hc5, hZ⟩ := hd ⟨9, .data⟩ (by simp) rfl
          have e4 : A.eval (.tmp 24) = .slice (some ⟨b5, 0, none⟩) 1 1 := (hT 24 9 (by simp) rfl).trans q0
          have hq := (h0 (.inr rfl))
          refine wp_appendL (E := Elt.bytes) (ys := [ky]) kysP rfl e1 (hO.below hq) e4 (cells_at hc5) (Flat.single (E := Elt.bytes) (S := fun k => wr.heap.size ≤ k ∧ k < w'.heap.size) ⟨_, rfl, hZ.rdS⟩) (fun k hk => ⟨Nat.le_trans hB hk.1, hk.2, fun e => by have := hob k e.symm; omega⟩) (Nat.le_trans hB hq.size) (fun ad k cap w2 h2 hg h3 => ⟨_, rfl, ⟨_, _, _, rfl, h2⟩, hg⟩) (by rw [List.length_take]; simp; omega)
        case o11 =>
          refine GdOpM.plain rfl (fun A vs w' hF hT hR h0 hu hd => ?_)
          have e1 : A.eval (.tmp 3) = .pointer (some ⟨w.heap.size + 1 + 1, 0, none⟩) := hF 3 rfl
          exact wp_fieldN ndS rfl (e1) (by omega) ⟨_, rfl, rfl, Below.refl _ _⟩
        case o12 =>
          refine GdOpM.plain rfl (fun A vs w' hF hT hR h0 hu hd => ?_)
          have e1 : A.eval (.tmp 26) = .pointer (some ⟨w.heap.size + 1 + 1, 0, none⟩) := (hT 26 11 (by simp) rfl).trans (hd ⟨11, .data⟩ (by simp) rfl)
          obtain ⟨ad5, k5, c5, q0, hZ⟩ := hd ⟨10, .data⟩ (by simp) rfl
          have e4 : A.eval (.tmp 25) = .slice ad5 k5 c5 := (hT 25 10 (by simp) rfl).trans q0
          obtain ⟨_, a6, k6, c6, hbx⟩ := hR
          refine wp_storeSl rfl (by kernel_rfl) e1 e4 (hbx.cell (by omega)) hbx.frozen ⟨_, rfl, ?_, .inr ⟨_, _, _, rfl⟩⟩
          show BoxF _ _ _ _ _ _ (vs 10) _
          rw [q0]
          exact hbx.put _
        case fin =>
          intro vs w' a5 k5 c5 hvm hTw hO2 hbx
          have q2 := hTw.belowB q (fun k e => by have := (hO.block_lt k e).1; omega) (by omega)
          have bn2 := hTw.tri bn (fun e => by have := (hO.block_lt _ e.symm).1; omega) (by omega)
          have bz2 := hTw.tri bz (fun e => by have := (hO.block_lt _ e.symm).1; omega) (by omega)
          have bo2 := BoxF.of0 hbx
          have hB2 := Nat.le_trans hB hTw.size
          rw [← HSN.out] at hO2
          clear hTw hbx hO bn bz bo q hB hvm
          simp only [putAll]
          go_simp
          go_wp2_with fail
          go_roundw
          case rel => exact ⟨i + 1, a5, k5, c5, by go_num, by omega, hO2, bn2, bz2, bo2, q2, hB2⟩
          case measure => simp [intOf]; omega
      · obtain rfl : i = n.keys.length := by omega
        have hK1 := (hO.rdL).weak (S' := fun k => w.heap.size + 1 + 1 + 1 ≤ k ∧ k < wr.heap.size) fun k hk => ⟨by rcases hk.1 with h | h <;> exact h, hk.2⟩
        rw [List.take_length] at hK1
        obtain rfl := hK1.len.1
        clear hO to0
        rename World => w1
        have hBw1 := hB
        go_upto_region 7 with (fail)
        clear ta0
        go_loopw [5] (fun iv w2 => ∃ (i : Nat) (ad2 : Option Addr) (ko2 co2 : Nat), iv = .int .i64 i ∧ i ≤ n.chains.length ∧ OwnL (Elt.list Elt.ver) 32 w1.heap.size w1.heap.size w2 (.slice ad2 ko2 co2) (n.chains.take i) ∧ (∀ k, w.heap.size + 1 + 1 + 1 ≤ k → k < w1.heap.size → w2.heap[k]? = w1.heap[k]?) ∧ TriV w2 w.heap.size 26 (.slice a1 n.keys.length c1) (.slice a2 n.chains.length c2) (.slice a3 n.kids.length c3) ∧ TriV w2 (w.heap.size + 1) 26 (.slice none 0 0) (.slice none 0 0) (.slice none 0 0) ∧ TriV w2 (w.heap.size + 1 + 1) 26 (.slice ad n.keys.length co) (.slice ad2 ko2 co2) (.slice none 0 0) ∧ Below w.heap.size w w2 ∧ w1.heap.size ≤ w2.heap.size) (fun i _ => n.chains.length - (intOf i).toNat)
        case atStart => exact ⟨0, none, 0, 0, rfl, Nat.zero_le _, OwnL.nil _ _ _ _ _, fun _ _ _ => rfl, bn, bz, bo, q, Nat.le_refl _⟩
        case round =>
          clear q bn bz bo
          obtain ⟨i, ad2, ko2, co2, rfl, hil, hO, hkp, bn, bz, bo, q, hB2⟩ := hrel
          have ta1 := bn.cell1
          have to1 := bo.cell1
          rcases Nat.lt_or_ge i n.chains.length with hlt | hge
          · obtain ⟨b, off, Ak, C, rfl, c0, hcc⟩ := (r2.below q).lst i hlt
            have hbs := BC.out _ (List.getElem_mem hlt)
            have HSN := Lib.hid (show n.chains.take (i + 1) = n.chains.take i ++ [n.chains[i]] from List.take_succ_eq_append_getElem hlt)
            obtain ⟨x, ex⟩ : ∃ x, x = n.chains[i] := ⟨_, rfl⟩
            rw [← ex] at c0 hcc hbs HSN
            clear ex
            have c0' : wr.cell? ⟨b, off + i * 1, none⟩ = some (.slice Ak x.length C) := by rw [Nat.mul_one]; exact c0
            clear c0
            go_upto_region 9 with (fail)
            have hob : ∀ k, Value.ownBlock (.slice ad2 ko2 co2) = some k → k < wr.heap.size := fun k hk => (hO.block_lt k hk).2
            have hbo : w.heap.size + 1 + 1 < wr.heap.size := by omega
            refine wp_region_push (E := Elt.list Elt.ver) (Te := 32) x hO (BoxF.tri1 (y := .slice none 0 0) bo) (by omega) (by omega) (by kernel_rfl) (by kernel_rfl) 9 11 (fun i => decide (i < 9)) (by kernel_rfl) (by kernel_rfl) (by kernel_rfl) (by decide) [nEq (.pointer (some ⟨w.heap.size + 1 + 1, 0 + 1, none⟩)), nEq (.slice ad2 ko2 co2), nEq (.pointer (some ⟨w.heap.size, 0 + 1, none⟩)), nEq (.slice (some ⟨b, off, none⟩) n.chains.length c2), nEq (.int .i64 i), nEq (.pointer (some ⟨b, off + i * 1, none⟩)), nEq (.slice Ak x.length C), nElt (Elt.list Elt.ver) wr.heap.size _ hob _ hbo 1 x, nOneE (Elt.list Elt.ver) wr.heap.size _ hob _ hbo 1 32 x, nAny, nEq (.pointer (some ⟨w.heap.size + 1 + 1, 0 + 1, none⟩))]
              ⟨?o0, ?o1, ?o2, ?o3, ?o4, ?o5, ?o6, ?o7, ?o8, ?o9, ?o10, ?o11, trivial⟩ ?fin
            case o0 =>
              refine GdOpM.plain rfl (fun A vs w' hF hT hR h0 hu hd => ?_)
              have e1 : A.eval (.tmp 3) = .pointer (some ⟨w.heap.size + 1 + 1, 0, none⟩) := hF 3 rfl
              exact wp_fieldN ndS rfl (e1) (by omega) ⟨_, rfl, rfl, Below.refl _ _⟩
            case o1 =>
              refine GdOpM.plain rfl (fun A vs w' hF hT hR h0 hu hd => ?_)
              have e1 : A.eval (.tmp 34) = .pointer (some ⟨w.heap.size + 1 + 1, 0 + 1, none⟩) := (hT 34 0 (by simp) rfl).trans (hd ⟨0, .data⟩ (by simp) rfl)
              exact wp_ld_slice (e := 32) rfl (e1) (by kernel_rfl) (((h0 (.inl rfl)).cell (p := ⟨w.heap.size + 1 + 1, 0 + 1, none⟩) (cell_lt to1)).trans to1) ⟨_, rfl, rfl, Below.refl _ _⟩
            case o2 =>
              refine GdOpM.plain rfl (fun A vs w' hF hT hR h0 hu hd => ?_)
              have e1 : A.eval (.tmp 1) = .pointer (some ⟨w.heap.size, 0, none⟩) := hF 1 rfl
              exact wp_fieldN ndS rfl (e1) (by omega) ⟨_, rfl, rfl, Below.refl _ _⟩
            case o3 =>
              refine GdOpM.plain rfl (fun A vs w' hF hT hR h0 hu hd => ?_)
              have e1 : A.eval (.tmp 36) = .pointer (some ⟨w.heap.size, 0 + 1, none⟩) := (hT 36 2 (by simp) rfl).trans (hd ⟨2, .data⟩ (by simp) rfl)
              exact wp_ld_slice (e := 32) rfl (e1) (by kernel_rfl) (((h0 (.inl rfl)).cell (p := ⟨w.heap.size, 0 + 1, none⟩) (cell_lt ta1)).trans ta1) ⟨_, rfl, rfl, Below.refl _ _⟩
            case o4 =>
              refine GdOpM.plain rfl (fun A vs w' hF hT hR h0 hu hd => ?_)
              have e1 : A.eval (.tmp 5) = .int .i64 i := hF 5 rfl
              exact BigFrame.wp_move _ rfl ⟨_, rfl, e1, Below.refl _ _⟩
            case o5 =>
              refine GdOpM.plain rfl (fun A vs w' hF hT hR h0 hu hd => ?_)
              have e1 : A.eval (.tmp 37) = .slice (some ⟨b, off, none⟩) n.chains.length c2 := (hT 37 3 (by simp) rfl).trans (hd ⟨3, .data⟩ (by simp) rfl)
              have e2 : A.eval (.tmp 38) = .int .i64 i := (hT 38 4 (by simp) rfl).trans (hd ⟨4, .data⟩ (by simp) rfl)
              exact wp_ixN (e := 32) rfl (by kernel_rfl) (by kernel_rfl) (e1) (e2) rfl (by omega) ⟨_, rfl, rfl, Below.refl _ _⟩
            case o6 =>
              refine GdOpM.plain rfl (fun A vs w' hF hT hR h0 hu hd => ?_)
              have e1 : A.eval (.tmp 39) = .pointer (some ⟨b, off + i * 1, none⟩) := (hT 39 5 (by simp) rfl).trans (hd ⟨5, .data⟩ (by simp) rfl)
              exact wp_ld_slice (e := 61) rfl (e1) (by kernel_rfl) (((h0 (.inl rfl)).cell (p := ⟨b, off + i * 1, none⟩) (cell_lt c0')).trans c0') ⟨_, rfl, rfl, Below.refl _ _⟩
            case o7 =>
              refine GdOpM.plain rfl (fun A vs w' hF hT hR h0 hu hd => ?_)
              have e1 : A.eval (.tmp 40) = .slice Ak x.length C := (hT 40 6 (by simp) rfl).trans (hd ⟨6, .data⟩ (by simp) rfl)
              refine wp_callFn rfl (enters_of Try.func44 (by kernel_rfl) rfl) (args := #[.slice Ak x.length C]) (by simp [e1]) ((refCopyV_any w' (hcc.below (h0 (.inl rfl))) (by have := hbs.1; omega) (fun y hy => by have := hbs.2 y hy; omega)).mono ?_)
              rintro e w2 ⟨a5, c5, rfl, hO5, hb5⟩
              exact ⟨_, rfl, _, rfl, ⟨[.slice a5 x.length c5], rfl, _, rfl, (hO5.rdL).weak fun k hk => ⟨Nat.le_trans (h0 (.inl rfl)).size (by rcases hk.1 with h | h <;> exact h), hk.2⟩⟩, hb5⟩
            case o8 =>
              refine GdOpM.plain rfl (fun A vs w' hF hT hR h0 hu hd => ?_)
              obtain ⟨us, q0, hZ⟩ := hd ⟨7, .data⟩ (by simp) rfl
              obtain ⟨vv, hvv⟩ : ∃ vv, vv = vs 7 := ⟨_, rfl⟩
              rw [← hvv] at q0
              have e4 : A.eval (.tmp 41) = vv := (hT 41 7 (by simp) rfl).trans hvv.symm
              have hb1 : Below w'.heap.size w' (w'.alloc (.cells us.toArray 32)) := (Below.refl _ _).alloc (Nat.le_refl _) _
              exact wp_buildOne chsP rfl e4 q0 ((Elt.list Elt.ver).len hZ) (by omega) (by omega) ⟨_, rfl, ⟨_, us, rfl, (h0 (.inl rfl)).size, by simp only [World.alloc, Array.getElem?_push_size], (Elt.list Elt.ver).weak (Elt.below hZ hb1) fun _ hk => ⟨hk.1, Nat.lt_of_lt_of_le hk.2 hb1.size⟩⟩, hb1⟩
            case o9 =>
              refine GdOpM.plain rfl (fun A vs w' hF hT hR h0 hu hd => ?_)
              have e1 : A.eval (.tmp 35) = .slice ad2 ko2 co2 := (hT 35 1 (by simp) rfl).trans (hd ⟨1, .data⟩ (by simp) rfl)
              obtain ⟨b5, us, q0, hb5, hc5, hZ⟩ := hd ⟨8, .data⟩ (by simp) rfl
              have e4 : A.eval (.tmp 42) = .slice (some ⟨b5, 0, none⟩) 1 1 := (hT 42 8 (by simp) rfl).trans q0
              have hq := (h0 (.inr rfl))
              refine wp_appendL (E := Elt.list Elt.ver) (ys := [x]) chsP rfl e1 (hO.below hq) e4 (cells_at hc5) (Flat.single (E := Elt.list Elt.ver) (S := fun k => wr.heap.size ≤ k ∧ k < w'.heap.size) hZ) (fun k hk => ⟨Nat.le_trans hB2 hk.1, hk.2, fun e => by have := hob k e.symm; omega⟩) (Nat.le_trans hB2 hq.size) (fun ad k cap w2 h2 hg h3 => ⟨_, rfl, ⟨_, _, _, rfl, h2⟩, hg⟩) (by rw [List.length_take]; simp; omega)
            case o10 =>
              refine GdOpM.plain rfl (fun A vs w' hF hT hR h0 hu hd => ?_)
              have e1 : A.eval (.tmp 3) = .pointer (some ⟨w.heap.size + 1 + 1, 0, none⟩) := hF 3 rfl
              exact wp_fieldN ndS rfl (e1) (by omega) ⟨_, rfl, rfl, Below.refl _ _⟩
            case o11 =>
              refine GdOpM.plain rfl (fun A vs w' hF hT hR h0 hu hd => ?_)
              have e1 : A.eval (.tmp 44) = .pointer (some ⟨w.heap.size + 1 + 1, 0 + 1, none⟩) := (hT 44 10 (by simp) rfl).trans (hd ⟨10, .data⟩ (by simp) rfl)
              obtain ⟨ad5, k5, c5, q0, hZ⟩ := hd ⟨9, .data⟩ (by simp) rfl
              have e4 : A.eval (.tmp 43) = .slice ad5 k5 c5 := (hT 43 9 (by simp) rfl).trans q0
              obtain ⟨_, a6, k6, c6, hbx⟩ := hR
              refine wp_storeSl rfl (by kernel_rfl) e1 e4 (hbx.cell (by omega)) hbx.frozen ⟨_, rfl, ?_, .inr ⟨_, _, _, rfl⟩⟩
              show BoxF _ _ _ _ _ _ (vs 9) _
              rw [q0]
              exact hbx.put _
            case fin =>
              intro vs w' a5 k5 c5 hvm hTw hO2 hbx
              have q2 := hTw.belowB q (fun k e => by have := (hO.block_lt k e).1; omega) (by omega)
              have bn2 := hTw.tri bn (fun e => by have := (hO.block_lt _ e.symm).1; omega) (by omega)
              have bz2 := hTw.tri bz (fun e => by have := (hO.block_lt _ e.symm).1; omega) (by omega)
              have bo2 := BoxF.of1 hbx
              have hB4 := Nat.le_trans hB2 hTw.size
              have hkp2 : ∀ k, w.heap.size + 1 + 1 + 1 ≤ k → k < w1.heap.size → w'.heap[k]? = w1.heap[k]? := fun k h1 h2 => (hTw.block k (by omega) (fun e => by have := (hO.block_lt k e.symm).1; omega) (by omega)).trans (hkp k h1 h2)
              rw [← HSN.out] at hO2
              clear hTw hbx hO bn bz bo q hvm hkp
              simp only [putAll]
              go_simp
              go_wp2_with fail
              go_roundw
              case rel => exact ⟨i + 1, a5, k5, c5, by go_num, by omega, hO2, hkp2, bn2, bz2, bo2, q2, hB4⟩
              case measure => simp [intOf]; omega
          · obtain rfl : i = n.chains.length := by omega
            have hC1 := (hO.rdL).weak (S' := fun k => w1.heap.size ≤ k ∧ k < wr.heap.size) fun k hk => ⟨by rcases hk.1 with h | h <;> exact h, hk.2⟩
            rw [List.take_length] at hC1
            obtain rfl := hC1.len.1
            have hK2 := hK1.keep fun k hk => hkp k hk.1 hk.2
            clear hO to1 hK1 hkp
            rename World => w2
            go_upto_region 11 with (fail)
            clear ta1
            go_loopw [6] (fun iv w3 => ∃ (i : Nat) (ad3 : Option Addr) (ko3 co3 : Nat), iv = .int .i64 i ∧ i ≤ n.kids.length ∧ OwnL Elt.nd 26 w2.heap.size w2.heap.size w3 (.slice ad3 ko3 co3) (n.kids.take i) ∧ (∀ k, w.heap.size + 1 + 1 + 1 ≤ k → k < w2.heap.size → w3.heap[k]? = w2.heap[k]?) ∧ TriV w3 w.heap.size 26 (.slice a1 n.keys.length c1) (.slice a2 n.chains.length c2) (.slice a3 n.kids.length c3) ∧ TriV w3 (w.heap.size + 1) 26 (.slice none 0 0) (.slice none 0 0) (.slice none 0 0) ∧ TriV w3 (w.heap.size + 1 + 1) 26 (.slice ad n.keys.length co) (.slice ad2 n.chains.length co2) (.slice ad3 ko3 co3) ∧ Below w.heap.size w w3 ∧ w2.heap.size ≤ w3.heap.size) (fun i _ => n.kids.length - (intOf i).toNat)
            case atStart => exact ⟨0, none, 0, 0, rfl, Nat.zero_le _, OwnL.nil _ _ _ _ _, fun _ _ _ => rfl, bn, bz, bo, q, Nat.le_refl _⟩
            case round =>
              clear q bn bz bo
              obtain ⟨i, ad3, ko3, co3, rfl, hil, hO, hkp, bn, bz, bo, q, hB3⟩ := hrel
              have ta2 := bn.cell2
              have to2 := bo.cell2
              rcases Nat.lt_or_ge i n.kids.length with hlt | hge
              · obtain ⟨b, off, x1, y1, x2, y2, x3, y3, rfl, k0, k1, k2, hkr⟩ := (r3.below q).kid i hlt
                have hwk := wN_kid (List.getElem_mem hlt)
                have hbs := BN.out _ (List.getElem_mem hlt)
                have HSN := Lib.hid (show n.kids.take (i + 1) = n.kids.take i ++ [n.kids[i]] from List.take_succ_eq_append_getElem hlt)
                obtain ⟨kd, ex⟩ : ∃ kd, kd = n.kids[i] := ⟨_, rfl⟩
                rw [← ex] at k0 k1 k2 hkr hbs HSN hwk
                clear ex
                go_upto_region 13 with (fail)
                have hob : ∀ k, Value.ownBlock (.slice ad3 ko3 co3) = some k → k < wr.heap.size := fun k hk => (hO.block_lt k hk).2
                have hbo : w.heap.size + 1 + 1 < wr.heap.size := by omega
                refine wp_region_push (E := Elt.nd) (Te := 26) kd hO (BoxF.tri2 (z := .slice none 0 0) bo) (by omega) (by omega) (by kernel_rfl) (by kernel_rfl) 9 11 (fun i => decide (i < 9)) (by kernel_rfl) (by kernel_rfl) (by kernel_rfl) (by decide) [nEq (.pointer (some ⟨w.heap.size + 1 + 1, 0 + 2, none⟩)), nEq (.slice ad3 ko3 co3), nEq (.pointer (some ⟨w.heap.size, 0 + 2, none⟩)), nEq (.slice (some ⟨b, off, none⟩) n.kids.length c3), nEq (.int .i64 i), nEq (.pointer (some ⟨b, off + i * 3, none⟩)), nEq (.agg #[.slice x1 kd.keys.length y1, .slice x2 kd.chains.length y2, .slice x3 kd.kids.length y3]), nElt Elt.nd wr.heap.size _ hob _ hbo 2 kd, nOneE Elt.nd wr.heap.size _ hob _ hbo 2 26 kd, nAny, nEq (.pointer (some ⟨w.heap.size + 1 + 1, 0 + 2, none⟩))]
                  ⟨?o0, ?o1, ?o2, ?o3, ?o4, ?o5, ?o6, ?o7, ?o8, ?o9, ?o10, ?o11, trivial⟩ ?fin
                case o0 =>
                  refine GdOpM.plain rfl (fun A vs w' hF hT hR h0 hu hd => ?_)
                  have e1 : A.eval (.tmp 3) = .pointer (some ⟨w.heap.size + 1 + 1, 0, none⟩) := hF 3 rfl
                  exact wp_fieldN ndS rfl (e1) (by omega) ⟨_, rfl, rfl, Below.refl _ _⟩
                case o1 =>
                  refine GdOpM.plain rfl (fun A vs w' hF hT hR h0 hu hd => ?_)
                  have e1 : A.eval (.tmp 52) = .pointer (some ⟨w.heap.size + 1 + 1, 0 + 2, none⟩) := (hT 52 0 (by simp) rfl).trans (hd ⟨0, .data⟩ (by simp) rfl)
                  exact wp_ld_slice (e := 26) rfl (e1) (by kernel_rfl) (((h0 (.inl rfl)).cell (p := ⟨w.heap.size + 1 + 1, 0 + 2, none⟩) (cell_lt to2)).trans to2) ⟨_, rfl, rfl, Below.refl _ _⟩
                case o2 =>
                  refine GdOpM.plain rfl (fun A vs w' hF hT hR h0 hu hd => ?_)
                  have e1 : A.eval (.tmp 1) = .pointer (some ⟨w.heap.size, 0, none⟩) := hF 1 rfl
                  exact wp_fieldN ndS rfl (e1) (by omega) ⟨_, rfl, rfl, Below.refl _ _⟩
                case o3 =>
                  refine GdOpM.plain rfl (fun A vs w' hF hT hR h0 hu hd => ?_)
                  have e1 : A.eval (.tmp 54) = .pointer (some ⟨w.heap.size, 0 + 2, none⟩) := (hT 54 2 (by simp) rfl).trans (hd ⟨2, .data⟩ (by simp) rfl)
                  exact wp_ld_slice (e := 26) rfl (e1) (by kernel_rfl) (((h0 (.inl rfl)).cell (p := ⟨w.heap.size, 0 + 2, none⟩) (cell_lt ta2)).trans ta2) ⟨_, rfl, rfl, Below.refl _ _⟩
                case o4 =>
                  refine GdOpM.plain rfl (fun A vs w' hF hT hR h0 hu hd => ?_)
                  have e1 : A.eval (.tmp 6) = .int .i64 i := hF 6 rfl
                  exact BigFrame.wp_move _ rfl ⟨_, rfl, e1, Below.refl _ _⟩
                case o5 =>
                  refine GdOpM.plain rfl (fun A vs w' hF hT hR h0 hu hd => ?_)
                  have e1 : A.eval (.tmp 55) = .slice (some ⟨b, off, none⟩) n.kids.length c3 := (hT 55 3 (by simp) rfl).trans (hd ⟨3, .data⟩ (by simp) rfl)
                  have e2 : A.eval (.tmp 56) = .int .i64 i := (hT 56 4 (by simp) rfl).trans (hd ⟨4, .data⟩ (by simp) rfl)
                  exact wp_ixN (e := 26) rfl (by kernel_rfl) (by kernel_rfl) (e1) (e2) rfl (by omega) ⟨_, rfl, rfl, Below.refl _ _⟩
                case o6 =>
                  refine GdOpM.plain rfl (fun A vs w' hF hT hR h0 hu hd => ?_)
                  have e1 : A.eval (.tmp 57) = .pointer (some ⟨b, off + i * 3, none⟩) := (hT 57 5 (by simp) rfl).trans (hd ⟨5, .data⟩ (by simp) rfl)
                  exact wp_load3 ndS rfl e1 (((h0 (.inl rfl)).cell (p := ⟨b, off + i * 3, none⟩) (cell_lt k0)).trans k0) (((h0 (.inl rfl)).cell (p := ⟨b, off + i * 3 + 1, none⟩) (cell_lt k1)).trans k1) (((h0 (.inl rfl)).cell (p := ⟨b, off + i * 3 + 2, none⟩) (cell_lt k2)).trans k2) ⟨_, rfl, rfl, Below.refl _ _⟩
                case o7 =>
                  refine GdOpM.plain rfl (fun A vs w' hF hT hR h0 hu hd => ?_)
                  have e1 : A.eval (.tmp 58) = .agg #[.slice x1 kd.keys.length y1, .slice x2 kd.chains.length y2, .slice x3 kd.kids.length y3] := (hT 58 6 (by simp) rfl).trans (hd ⟨6, .data⟩ (by simp) rfl)
                  refine wp_callFn rfl (enters_of Try.func27 (by kernel_rfl) rfl) (args := #[.agg #[.slice x1 kd.keys.length y1, .slice x2 kd.chains.length y2, .slice x3 kd.kids.length y3]]) (by simp [e1]) ((ih kd w' S _ (by omega) (by omega) hbs (hkr.below (h0 (.inl rfl)))).mono ?_)
                  rintro e w2 ⟨v5, rfl, hN5, hb5⟩
                  obtain ⟨us5, rfl, hR5⟩ := hN5.nd
                  exact ⟨_, rfl, _, rfl, ⟨us5, rfl, Elt.nd.weak hR5 fun k hk => ⟨Nat.le_trans (h0 (.inl rfl)).size hk.1, hk.2⟩⟩, hb5⟩
                case o8 =>
                  refine GdOpM.plain rfl (fun A vs w' hF hT hR h0 hu hd => ?_)
                  obtain ⟨us, q0, hZ⟩ := hd ⟨7, .data⟩ (by simp) rfl
                  obtain ⟨vv, hvv⟩ : ∃ vv, vv = vs 7 := ⟨_, rfl⟩
                  rw [← hvv] at q0
                  have e4 : A.eval (.tmp 59) = vv := (hT 59 7 (by simp) rfl).trans hvv.symm
                  have hb1 : Below w'.heap.size w' (w'.alloc (.cells us.toArray 26)) := (Below.refl _ _).alloc (Nat.le_refl _) _
                  exact wp_buildOne ndP rfl e4 q0 (Elt.nd.len hZ) (by omega) (by omega) ⟨_, rfl, ⟨_, us, rfl, (h0 (.inl rfl)).size, by simp only [World.alloc, Array.getElem?_push_size], Elt.nd.weak (Elt.below hZ hb1) fun _ hk => ⟨hk.1, Nat.lt_of_lt_of_le hk.2 hb1.size⟩⟩, hb1⟩
                case o9 =>
                  refine GdOpM.plain rfl (fun A vs w' hF hT hR h0 hu hd => ?_)
                  have e1 : A.eval (.tmp 53) = .slice ad3 ko3 co3 := (hT 53 1 (by simp) rfl).trans (hd ⟨1, .data⟩ (by simp) rfl)
                  obtain ⟨b5, us, q0, hb5, hc5, hZ⟩ := hd ⟨8, .data⟩ (by simp) rfl
                  have e4 : A.eval (.tmp 60) = .slice (some ⟨b5, 0, none⟩) 1 1 := (hT 60 8 (by simp) rfl).trans q0
                  have hq := (h0 (.inr rfl))
                  refine wp_appendL (E := Elt.nd) (ys := [kd]) ndP rfl e1 (hO.below hq) e4 (cells_at hc5) (Flat.single (E := Elt.nd) (S := fun k => wr.heap.size ≤ k ∧ k < w'.heap.size) hZ) (fun k hk => ⟨Nat.le_trans hB3 hk.1, hk.2, fun e => by have := hob k e.symm; omega⟩) (Nat.le_trans hB3 hq.size) (fun ad k cap w2 h2 hg h3 => ⟨_, rfl, ⟨_, _, _, rfl, h2⟩, hg⟩) (by rw [List.length_take]; simp; omega)
                case o10 =>
                  refine GdOpM.plain rfl (fun A vs w' hF hT hR h0 hu hd => ?_)
                  have e1 : A.eval (.tmp 3) = .pointer (some ⟨w.heap.size + 1 + 1, 0, none⟩) := hF 3 rfl
                  exact wp_fieldN ndS rfl (e1) (by omega) ⟨_, rfl, rfl, Below.refl _ _⟩
                case o11 =>
                  refine GdOpM.plain rfl (fun A vs w' hF hT hR h0 hu hd => ?_)
                  have e1 : A.eval (.tmp 62) = .pointer (some ⟨w.heap.size + 1 + 1, 0 + 2, none⟩) := (hT 62 10 (by simp) rfl).trans (hd ⟨10, .data⟩ (by simp) rfl)
                  obtain ⟨ad5, k5, c5, q0, hZ⟩ := hd ⟨9, .data⟩ (by simp) rfl
                  have e4 : A.eval (.tmp 61) = .slice ad5 k5 c5 := (hT 61 9 (by simp) rfl).trans q0
                  obtain ⟨_, a6, k6, c6, hbx⟩ := hR
                  refine wp_storeSl rfl (by kernel_rfl) e1 e4 (hbx.cell (by omega)) hbx.frozen ⟨_, rfl, ?_, .inr ⟨_, _, _, rfl⟩⟩
                  show BoxF _ _ _ _ _ _ (vs 9) _
                  rw [q0]
                  exact hbx.put _
                case fin =>
                  intro vs w' a5 k5 c5 hvm hTw hO2 hbx
                  have q2 := hTw.belowB q (fun k e => by have := (hO.block_lt k e).1; omega) (by omega)
                  have bn2 := hTw.tri bn (fun e => by have := (hO.block_lt _ e.symm).1; omega) (by omega)
                  have bz2 := hTw.tri bz (fun e => by have := (hO.block_lt _ e.symm).1; omega) (by omega)
                  have bo2 := BoxF.of2 hbx
                  have hB4 := Nat.le_trans hB3 hTw.size
                  have hkp2 : ∀ k, w.heap.size + 1 + 1 + 1 ≤ k → k < w2.heap.size → w'.heap[k]? = w2.heap[k]? := fun k h1 h2 => (hTw.block k (by omega) (fun e => by have := (hO.block_lt k e.symm).1; omega) (by omega)).trans (hkp k h1 h2)
                  rw [← HSN.out] at hO2
                  clear hTw hbx hO bn bz bo q hvm hkp
                  simp only [putAll]
                  go_simp
                  go_wp2_with fail
                  go_roundw
                  case rel => exact ⟨i + 1, a5, k5, c5, by go_num, by omega, hO2, hkp2, bn2, bz2, bo2, q2, hB4⟩
                  case measure => simp [intOf]; omega
              · obtain rfl : i = n.kids.length := by omega
                have hN1 := (hO.rdL).weak (S' := fun k => w2.heap.size ≤ k ∧ k < wr.heap.size) fun k hk => ⟨by rcases hk.1 with h | h <;> exact h, hk.2⟩
                rw [List.take_length] at hN1
                obtain rfl := hN1.len.1
                have hK3 := hK2.keep (w' := wr) fun k hk => hkp k hk.1 (Nat.lt_of_lt_of_le hk.2 hB2)
                have hC2 := hC1.keep (w' := wr) fun k hk => hkp k (Nat.le_trans hBw1 hk.1) hk.2
                clear hO hkp
                have to0 := bo.cell0
                have to1 := bo.cell1
                have tz0 := bz.cell0
                have tz1 := bz.cell1
                have tz2 := bz.cell2
                have fz : ∀ j, wr.frozen? ⟨w.heap.size + 1, j, none⟩ = false := fun j => by simp [World.frozen?, show wr.heap[w.heap.size + 1]? = _ from bz]
                have fz0 := fz 0
                have fz1 := fz 1
                have fz2 := fz 2
                go_wp2_with fail
                have p0 := BoxF.of0 ((BoxF.tri0 (x := .slice none 0 0) bz).put (.slice ad n.keys.length co))
                have p1 := BoxF.of1 ((BoxF.tri1 (y := .slice none 0 0) p0).put (.slice ad2 n.chains.length co2))
                have p2 := BoxF.of2 ((BoxF.tri2 (z := .slice none 0 0) p1).put (.slice ad3 n.kids.length co3))
                have hW3 : ∀ k, k ≠ w.heap.size + 1 → (((wr.setCell ⟨w.heap.size + 1, 0, none⟩ (.slice ad n.keys.length co)).setCell ⟨w.heap.size + 1, 1, none⟩ (.slice ad2 n.chains.length co2)).setCell ⟨w.heap.size + 1, 2, none⟩ (.slice ad3 n.kids.length co3)).heap[k]? = wr.heap[k]? := fun k hk => (heap_setCell_other _ ⟨w.heap.size + 1, 2, none⟩ k _ hk).trans ((heap_setCell_other _ ⟨w.heap.size + 1, 1, none⟩ k _ hk).trans (heap_setCell_other _ ⟨w.heap.size + 1, 0, none⟩ k _ hk))
                have q3 : Below w.heap.size w (((wr.setCell ⟨w.heap.size + 1, 0, none⟩ (.slice ad n.keys.length co)).setCell ⟨w.heap.size + 1, 1, none⟩ (.slice ad2 n.chains.length co2)).setCell ⟨w.heap.size + 1, 2, none⟩ (.slice ad3 n.kids.length co3)) := ((q.setCell (p := ⟨w.heap.size + 1, 0, none⟩) (Nat.le_succ _) _).setCell (p := ⟨w.heap.size + 1, 1, none⟩) (Nat.le_succ _) _).setCell (p := ⟨w.heap.size + 1, 2, none⟩) (Nat.le_succ _) _
                have hs3 : (((wr.setCell ⟨w.heap.size + 1, 0, none⟩ (.slice ad n.keys.length co)).setCell ⟨w.heap.size + 1, 1, none⟩ (.slice ad2 n.chains.length co2)).setCell ⟨w.heap.size + 1, 2, none⟩ (.slice ad3 n.kids.length co3)).heap.size = wr.heap.size := by rw [size_set, size_set, size_set]
                generalize ((wr.setCell ⟨w.heap.size + 1, 0, none⟩ (.slice ad n.keys.length co)).setCell ⟨w.heap.size + 1, 1, none⟩ (.slice ad2 n.chains.length co2)).setCell ⟨w.heap.size + 1, 2, none⟩ (.slice ad3 n.kids.length co3) = W9 at *
                obtain ⟨fs, hu, _⟩ := ndS.hu
                refine bodyPost_ret (v := .agg #[.slice ad n.keys.length co, .slice ad2 n.chains.length co2, .slice ad3 n.kids.length co3]) (by simp [results, Try.results27, go_sem, loadVar, isAgg, run_underlying hu, run_sizeOf' ndS.hs, loadCellsFrom, Addr.add, p2.cell0, p2.cell1, p2.cell2]) rfl ⟨_, rfl, ⟨ad, co, ad2, co2, ad3, co3, rfl, ?_, ?_, ?_⟩, q3⟩
                · exact (hK3.keep (w' := W9) fun k hk => hW3 k (by omega)).weak fun k hk => ⟨by omega, by rw [hs3]; omega⟩
                · exact (hC2.keep (w' := W9) fun k hk => hW3 k (by omega)).weak fun k hk => ⟨by omega, by rw [hs3]; omega⟩
                · exact (hN1.keep (w' := W9) fun k hk => hW3 k (by omega)).weak fun k hk => ⟨by omega, by rw [hs3]; omega⟩
theorem refCopyN_any (N : Nat) : CopyAt N := by
  induction N with
  | zero =>
    intro n w S v h
    have := wN_pos n
    omega
  | succ N ih => exact refCopyN_step N ih
end Go.Proofs.Ytdegjkfjaklkjaa
namespace Go.Proofs.Ytdegjkfjaklkjaa
open Go.RowKit
def cellsAtW (w : World) (k : Nat) : Prop := ∃ o : Obj, w.heap[k]? = some o ∧ o.isCells = true
def OnlyC {α : Type} (E : Elt α) : Prop := ∀ (S : Nat → Prop) (w : World) (x : α) (vs : List Value), E.R S w x vs → E.R (fun k => S k ∧ cellsAtW w k) w x vs
theorem rdS_cells {S : Nat → Prop} {w : World} {v : Value} {xs : List UInt8} (h : RdS S w v xs) : RdS (fun k => S k ∧ cellsAtW w k) w v xs := by
  rcases h with h | ⟨b, off, cap, hv, hb, h1, h2, hc⟩
  · exact .inl h
  · cases xs with
    | nil => exact .inl ⟨_, _, hv, h2, rfl⟩
    | cons x r => exact .inr ⟨b, off, cap, hv, ⟨hb, cells_of_cell (hc 0 _ rfl)⟩, h1, h2, hc⟩
theorem bytes_only : OnlyC Elt.bytes := fun _ _ _ _ ⟨v, e, h⟩ => ⟨v, e, rdS_cells h⟩
section
variable {α : Type} {E : Elt α} {T Te : TypeId} {base lo : Nat} {w w' : World} {v : Value} {xs : List α}
theorem Flat.cells (hE : OnlyC E) {S : Nat → Prop} : ∀ {xs : List α} {vs : List Value}, Flat E S w xs vs → Flat E (fun k => S k ∧ cellsAtW w k) w xs vs
  | [], _, h => h
  | _ :: _, _, ⟨us, ws, e, h1, h2⟩ => ⟨us, ws, e, hE _ _ _ _ h1, Flat.cells hE h2⟩
theorem OwnL.grown (hE : OnlyC E) (h : OwnL E Te base lo w v xs) {row : Option Nat} (hg : w.grownBy w' row) (hr : ∀ r, row = some r → ∃ o : Obj, w.heap[r]? = some o ∧ o.isCells = false) : OwnL E Te base lo w' v xs := by
  obtain ⟨vs, h1, h2⟩ := h
  refine ⟨vs, ⟨h1.1, ?_⟩, ((h2.cells hE).keep fun k hk => ?_).weak fun k hk => ⟨hk.1.1, Nat.lt_of_lt_of_le hk.1.2.1 hg.size, hk.1.2.2⟩⟩
  · rcases h1.2 with h | ⟨g, cap, cur, hv, hb, hg2, r⟩
    · exact .inl h
    · exact .inr ⟨g, cap, cur, hv, hb, (grownBy_keeps_cells hg hr hg2 rfl).trans hg2, r⟩
  · obtain ⟨o, ho, hc⟩ := hk.2
    exact grownBy_keeps_cells hg hr ho hc
theorem own_type {k : Nat} (h : OwnL E Te base lo w v xs) (hk : v.ownBlock = some k) : ∃ c r, w.heap[k]? = some (.cells c Te r) := by
  obtain ⟨vs, h1, _⟩ := h
  rcases h1.2 with ⟨rfl, _⟩ | ⟨g, cap, cur, rfl, _, hg, _⟩
  · cases hk
  · injection hk with hk
    subst hk
    exact ⟨_, _, hg⟩
def BoxL (E : Elt α) (T Te : TypeId) (B base lo : Nat) (w : World) (xs : List α) : Prop := ∃ a k c, Boxed w B T (.slice a k c) ∧ OwnL E Te base lo w (.slice a k c) xs
theorem BoxL.own {β : Type} {N : Nat} {B : Nat} (hE : OnlyC E) (f : β → List α) : OwnFrom N (fun s W => BoxL E T Te B base lo W (f s)) := fun _ _ _ _ ⟨a, k, c, h1, h2⟩ hg hr =>
  ⟨a, k, c, h1.kept hg (fun e => by obtain ⟨_, o, ho, hc⟩ := hr _ e.symm; rw [h1] at ho; cases ho; cases hc), h2.grown hE hg fun r e => (hr r e).2⟩
theorem KpW.own {β : Type} {n₀ N : Nat} {w₀ : World} (h1 : n₀ ≤ w₀.heap.size) (h2 : n₀ ≤ N) : OwnFrom N (fun (_ : β) W => KpW n₀ w₀ W) := fun _ _ _ _ hs hg hr =>
  hs.trans ⟨⟨hg.os, hg.tape, hg.output, hg.size, fun k hk => hg.block k (by have := hs.1.size; omega) fun e => by have := (hr k e.symm).1; omega⟩, fun j _ _ e => grownBy_keeps_cells hg (fun r h => (hr r h).2) e rfl⟩
end
structure ColE {α : Type} (E : Elt α) (T Te : TypeId) (B base lo : Nat) (W : World) (v : Value) (xs : List α) (x : α) (C : World → Value → Prop) (o0 o2 o3 o4 o5 : Option Value) (w' : World) : Prop where
  ld : ∀ u, o0 = some u → u = v
  el : ∀ u, o2 = some u → C w' u
  rw : ∀ u, o3 = some u → o4 = none → ∃ b us, u = .slice (some ⟨b, 0, none⟩) 1 1 ∧ W.heap.size ≤ b ∧ w'.heap[b]? = some (.cells us.toArray Te (0, 0)) ∧ E.R (fun g => lo ≤ g ∧ g < w'.heap.size ∧ some g ≠ v.ownBlock) w' x us
  tr : Trd (fun k => (o4 ≠ none ∧ some k = v.ownBlock) ∨ (o5 ≠ none ∧ k = B)) W w'
  ap : ∀ u, o4 = some u → ∃ a k c, u = .slice a k c ∧ OwnL E Te base lo w' u (xs ++ [x])
  no : o4 = none → o5 = none
  dn : o4 ≠ none → o0 ≠ none ∧ o3 ≠ none
  st : ∀ u, o5 = some u → ∃ a, o4 = some a ∧ Boxed w' B T a
def ColL {α : Type} (E : Elt α) (T Te : TypeId) (B base lo : Nat) (W : World) (v : Value) (xs : List α) (x : α) (C : World → Value → Prop) : List (Option Value) → World → Prop
  | [o0, o2, o3, o4, o5], w' => ColE E T Te B base lo W v xs x C o0 o2 o3 o4 o5 w'
  | _, _ => False
section
variable {α : Type} {E : Elt α} {T Te : TypeId} {B base lo : Nat} {W w' w2 : World} {v : Value} {xs : List α} {x : α} {C : World → Value → Prop} {o0 o2 o3 o4 o5 : Option Value}
theorem ColE.start (W : World) : ColE E T Te B base lo W v xs x C none none none none none W :=
  ⟨fun _ h => (by cases h), fun _ h => (by cases h), fun _ h => (by cases h), Trd.refl _ _, fun _ h => (by cases h), fun _ => rfl, fun h => absurd rfl h, fun _ h => (by cases h)⟩
theorem ColE.more (hC : ∀ w u w', C w u → Below w.heap.size w w' → C w' u) (h : ColE E T Te B base lo W v xs x C o0 o2 o3 o4 o5 w') (hb : Below w'.heap.size w' w2) : ColE E T Te B base lo W v xs x C o0 o2 o3 o4 o5 w2 where
  ld := h.ld
  el u hu := hC _ _ _ (h.el u hu) hb
  rw u hu h4 := by
    obtain ⟨b, us, e, h1, h2, h3⟩ := h.rw u hu h4
    exact ⟨b, us, e, h1, (hb.block b (Array.getElem?_eq_some_iff.1 h2).1).trans h2, E.weak (E.keep h3 fun g hg => hb.block g hg.2.1) fun g hg => ⟨hg.1, Nat.lt_of_lt_of_le hg.2.1 hb.size, hg.2.2⟩⟩
  tr := h.tr.trans (Trd.of (F := fun _ => False) hb) fun _ _ h => h.elim
  ap u hu := by
    obtain ⟨a, k, c, e, h1⟩ := h.ap u hu
    exact ⟨a, k, c, e, h1.below hb⟩
  no := h.no
  dn := h.dn
  st u hu := by
    obtain ⟨a, e, h1⟩ := h.st u hu
    exact ⟨a, e, (hb.block B h1.lt).trans h1⟩
theorem ColL.more (hC : ∀ w u w', C w u → Below w.heap.size w w' → C w' u) : ∀ (l : List (Option Value)) (w w' : World), ColL E T Te B base lo W v xs x C l w → Below w.heap.size w w' → ColL E T Te B base lo W v xs x C l w'
  | [_, _, _, _, _], _, _, h, hb => ColE.more hC h hb
theorem ColE.done {n₀ : Nat} {u a : Value} (h : ColE E T Te B base lo W v xs x C o0 o2 o3 (some a) (some u) w') (hb : Boxed W B T v) (hO : OwnL E Te base lo W v xs) (hn : n₀ ≤ base) (hB : n₀ ≤ B) (hT : T ≠ 26) (hTe : Te ≠ 26) (N : Nat) :
    KeepsFrom N W w' ∧ KpW n₀ W w' ∧ BoxL E T Te B base lo w' (xs ++ [x]) := by
  have hF : ∀ k, ((some a ≠ none ∧ some k = v.ownBlock) ∨ (some u ≠ none ∧ k = B)) → (base ≤ k ∨ k = B) ∧ ∃ c T' r, W.heap[k]? = some (.cells c T' r) ∧ T' ≠ 26 := by
    rintro k (⟨_, e⟩ | ⟨_, rfl⟩)
    · obtain ⟨c, r, e2⟩ := own_type hO e.symm
      exact ⟨.inl (hO.block_lt k e.symm).1, c, Te, r, e2, hTe⟩
    · exact ⟨.inr rfl, _, _, _, hb, hT⟩
  refine ⟨⟨h.tr.size, fun k o _ hk ho => (h.tr.block k (Array.getElem?_eq_some_iff.1 hk).1 fun e => ?_).trans hk⟩, ⟨h.tr.below (n := n₀) ?_ fun k hk e => ?_, fun j c r e => h.tr.block j (Array.getElem?_eq_some_iff.1 e).1 fun e2 => ?_⟩, ?_⟩
  · obtain ⟨_, c, T', r, e2, _⟩ := hF k e
    rw [hk] at e2
    cases e2
    cases ho
  · have := hb.lt; omega
  · have := (hF k e).1; omega
  · obtain ⟨_, c', T', r', e3, hne⟩ := hF j e2
    rw [e] at e3
    injection e3 with e3
    injection e3 with _ e4
    exact hne e4.symm
  · obtain ⟨a', k, c, e, h1⟩ := h.ap a rfl
    obtain ⟨a2, e2, h2⟩ := h.st u rfl
    injection e2 with e2
    subst e2 e
    exact ⟨a', k, c, h2, h1⟩
end
section
variable {α : Type} {E : Elt α} {P : Program} {T Te : TypeId} {B base lo : Nat} {W w' : World} {v : Value} {xs : List α} {x : α} {C : World → Value → Prop} {o0 o2 o3 o4 o5 : Option Value} {o : Oper} {a : Act} {K : Act → World → Prop} {Q : Exit → Act → World → Prop}
theorem ColE.load (h : ColE E T Te B base lo W v xs x C none o2 o3 o4 o5 w') (hb : Boxed W B T v) : Boxed w' B T v ∧ ColE E T Te B base lo W v xs x C (some v) o2 o3 o4 o5 w' := by
  have h4 : o4 = none := by
    cases o4 with
    | none => rfl
    | some u => exact absurd rfl (h.dn (by simp)).1
  have h5 := h.no h4
  subst h4 h5
  exact ⟨(h.tr.block B hb.lt fun e => e.elim (fun e => e.1 rfl) fun e => e.1 rfl).trans hb, ⟨fun u hu => by injection hu with hu; exact hu.symm, h.el, h.rw, h.tr, h.ap, h.no, fun e => absurd rfl e, h.st⟩⟩
theorem ColE.elem (hC : ∀ w u w', C w u → Below w.heap.size w w' → C w' u) (h : ColE E T Te B base lo W v xs x C o0 none o3 o4 o5 w') {w2 : World} {u : Value} (hb : Below w'.heap.size w' w2) (hu : C w2 u) : ColE E T Te B base lo W v xs x C o0 (some u) o3 o4 o5 w2 := by
  have h2 := h.more hC hb
  exact ⟨h2.ld, fun u' h' => by injection h' with h'; exact h' ▸ hu, h2.rw, h2.tr, h2.ap, h2.no, h2.dn, h2.st⟩
theorem ColE.build (hP : LoP P T Te E.size) (h : ColE E T Te B base lo W v xs x C o0 o2 none none none w') {y : Operand} {u : Value} {us : List Value} (ho : o.op = .buildSlice T 1 #[(0, y)]) (hy : a.eval y = u) (hu : u.cells = us.toArray)
    (hx : E.R (fun g => lo ≤ g ∧ g < w'.heap.size ∧ some g ≠ v.ownBlock) w' x us) (hn : E.size ≤ 4096) (hC : ∀ w u w', C w u → Below w.heap.size w w' → C w' u)
    (hk : ∀ r w2, ColE E T Te B base lo W v xs x C o0 o2 (some r) none none w2 → K (a.put o.dst r) w2) : o.wp P a w' K Q := by
  have hb : Below w'.heap.size w' (w'.alloc (.cells us.toArray Te)) := (Below.refl _ _).alloc (Nat.le_refl _) _
  refine wp_buildOne hP ho hy hu (E.len hx) E.pos hn (hk _ _ ?_)
  have h2 := h.more hC hb
  exact ⟨h2.ld, h2.el, fun u' hu' _ => by
    injection hu' with hu'
    exact ⟨_, us, hu'.symm, h.tr.size, by simp only [World.alloc, Array.getElem?_push_size], E.weak (E.keep hx fun g hg => hb.block g hg.2.1) fun g hg => ⟨hg.1, Nat.lt_of_lt_of_le hg.2.1 hb.size, hg.2.2⟩⟩, h2.tr, h2.ap, h2.no, fun e => absurd rfl e, h2.st⟩
theorem ColE.app (hP : LoP P T Te E.size) {r : Value} (h : ColE E T Te B base lo W v xs x C o0 o2 (some r) none none w') (h0 : o0 ≠ none) {s y : Operand} (ho : o.op = .call { callee := .builtin .append, args := #[s, y], argTypes := #[T, T] }) (hs : a.eval s = v) (hy : a.eval y = r)
    (hO : OwnL E Te base lo W v xs) (hbW : base ≤ W.heap.size) (hlen : xs.length + 1 ≤ 1073741824) (hC : ∀ w u w', C w u → w.grownBy w' v.ownBlock → C w' u)
    (hk : ∀ r2 w2, ColE E T Te B base lo W v xs x C o0 o2 (some r) (some r2) none w2 → K (a.put o.dst r2) w2) : o.wp P a w' K Q := by
  obtain ⟨b, us, rfl, h1, h2, h3⟩ := h.rw _ rfl rfl
  have hbl : Below W.heap.size W w' := h.tr.below (Nat.le_refl _) fun k _ e => by rcases e with ⟨e, _⟩ | ⟨e, _⟩ <;> exact e rfl
  refine wp_appendL (ys := [x]) hP ho hs (hO.below hbl) hy (cells_at h2) (Flat.single h3) (fun k hk => hk) (Nat.le_trans hbW hbl.size) (fun ad k cap w2 g1 g2 _ => hk _ _ ?_) (by simpa using hlen)
  have htr : Trd (fun k => (some (Value.slice ad k cap) ≠ none ∧ some k = v.ownBlock) ∨ (@none Value ≠ none ∧ k = B)) W w2 :=
    (Trd.of (F := fun k => (some (Value.slice ad k cap) ≠ none ∧ some k = v.ownBlock) ∨ (@none Value ≠ none ∧ k = B)) hbl).trans (Trd.ofGrown g2 (F := fun k => some k = v.ownBlock) fun k e => e.symm) fun k _ e => .inl ⟨by simp, e⟩
  exact
    { ld := h.ld
      el := fun u hu => hC _ _ _ (h.el u hu) g2
      rw := fun _ _ e => by cases e
      tr := htr.mono fun k _ e => e.imp (fun e => ⟨by simp, e.2⟩) fun e => ⟨e.1, e.2⟩
      ap := fun u hu => by
        injection hu with hu
        exact ⟨ad, k, cap, hu.symm, hu ▸ g1⟩
      no := fun e => by cases e
      dn := fun _ => ⟨h0, by simp⟩
      st := fun _ e => by cases e }
theorem ColE.sto {r2 : Value} (h : ColE E T Te B base lo W v xs x C o0 o2 o3 (some r2) none w') {p y : Operand} (ho : o.op = .store T p y) (hT : (P.info? T).map (·.size) = some 1) (hp : a.eval p = .pointer (some ⟨B, 0, none⟩)) (hy : a.eval y = r2)
    (hb : Boxed W B T v) (hO : OwnL E Te base lo W v xs) (hBb : B < base) (hBl : B < lo) (hC : ∀ w u w', C w u → w.grownBy w' (some B) → C w' u)
    (hk : ∀ w2, ColE E T Te B base lo W v xs x C o0 o2 o3 (some r2) (some undef) w2 → K (a.put o.dst undef) w2) : o.wp P a w' K Q := by
  obtain ⟨ad, k, c, rfl, h1⟩ := h.ap _ rfl
  have hB : Boxed w' B T v := (h.tr.block B hb.lt fun e => e.elim (fun e => by have := (hO.block_lt B e.2.symm).1; omega) fun e => e.1 rfl).trans hb
  refine wp_storeSl ho hT hp hy hB.cell hB.frozen (hk _ ?_)
  have hg := grownBy_setCell' w' B (.slice ad k c)
  exact
    { ld := h.ld
      el := fun u hu => hC _ _ _ (h.el u hu) hg
      rw := fun _ _ e => by cases e
      tr := by
        have h5 := h.tr.mono (F' := fun i => (some (Value.slice ad k c) ≠ none ∧ some i = v.ownBlock) ∨ (some undef ≠ none ∧ i = B)) fun i _ e => e.imp id fun e => ⟨by simp, e.2⟩
        exact h5.trans (Trd.ofGrown hg (F := fun i => i = B) fun i e => by injection e with e; exact e.symm) fun i _ e => .inr ⟨by simp, e⟩
      ap := fun u hu => by
        injection hu with hu
        exact ⟨ad, k, c, hu.symm, hu ▸ h1.other hg hBl hBb⟩
      no := fun e => by cases e
      dn := fun _ => h.dn (by simp)
      st := fun u _ => ⟨_, rfl, hB.set _⟩ }
end
end Go.Proofs.Ytdegjkfjaklkjaa
namespace Go.Proofs.Ytdegjkfjaklkjaa
open Go.RowKit Go.Shelf
attribute [local go_sem] Oper.semAt_some
theorem prN_len {n : Nd} (hf : fitN n) : (prN n).length ≤ 100000 := by
  unfold prN
  split
  · rename_i h
    exact Nat.le_trans (pairs_le (wN n) (Nat.le_refl _) h.1) hf.1
  · exact Nat.zero_le _
theorem kpW_b {n₀ : Nat} {w : World} (hn : n₀ ≤ w.heap.size) (W : World) (l : Nat) (o o' : Obj) (hl : w.heap.size ≤ l) (h1 : W.heap[l]? = some o) (h2 : o.isCells = false) (h3 : o.isWalk = false) : KpW n₀ W (W.putObj l o') :=
  ⟨belowK_b hn W l o o' hl h1 h2 h3, fun j _ _ e => World.putObj_heap_other (fun e2 => by subst e2; rw [h1] at e; cases e; cases h2)⟩
def NewK (W : World) (t : List UInt8) (w' : World) (u : Value) : Prop := ∃ a k c, u = .slice a k c ∧ RdS (fun g => W.heap.size ≤ g ∧ g < w'.heap.size) w' (.slice a k c) t
theorem NewK.below {W : World} {t : List UInt8} (w : World) (u : Value) (w' : World) (h : NewK W t w u) (hb : Below w.heap.size w w') : NewK W t w' u := by
  obtain ⟨a, k, c, e, h⟩ := h
  exact ⟨a, k, c, e, (h.below hb).weak fun g hg => ⟨hg.1, Nat.lt_of_lt_of_le hg.2 hb.size⟩⟩
theorem NewK.grown {W : World} {t : List UInt8} {r : Option Nat} (hr : ∀ k, r = some k → k < W.heap.size) (w : World) (u : Value) (w' : World) (h : NewK W t w u) (hg : w.grownBy w' r) : NewK W t w' u := by
  obtain ⟨a, k, c, e, h⟩ := h
  exact ⟨a, k, c, e, (h.keep fun g hg2 => hg.block g hg2.2 fun e => by have := hr g e.symm; omega).weak fun g hg2 => ⟨hg2.1, Nat.lt_of_lt_of_le hg2.2 hg.size⟩⟩
set_option maxRecDepth 100000 in
set_option maxHeartbeats 4000000 in
theorem tKeys_any (w : World) {S : Nat → Prop} {v : Value} {n : Nd} (hr : RdN S w v n) (hf : fitN n) : Calls Try.prog 35 #[v] w (KeysEnd w ((prN n).map (·.key))) := by
  have hr0 : RdN (· < w.heap.size) w v n := hr.fit.weak fun _ h => h.2
  obtain ⟨a1, c1, a2, c2, a3, c3, rfl, _, _, _⟩ := hr
  obtain ⟨X, eX⟩ : ∃ X, X = Obj.cells #[.slice a1 n.keys.length c1, .slice a2 n.chains.length c2, .slice a3 n.kids.length c3] 26 := ⟨_, rfl⟩
  obtain ⟨w4, hw4⟩ : ∃ w4, w4 = (((w.alloc X).alloc (.cells #[.slice none 0 0] 22)).alloc X).alloc (.cells #[.slice none 0 0] 27) := ⟨_, rfl⟩
  have hs4 : w4.heap.size = w.heap.size + 4 := by rw [hw4]; simp
  have hb4 : Below w.heap.size w w4 := by
    rw [hw4]
    exact ((((Below.refl _ w).alloc (Nat.le_refl _) _).alloc (by simp) _).alloc (by simp; omega) _).alloc (by simp; omega) _
  have bK : Boxed w4 (w.heap.size + 1) 22 (.slice none 0 0) := by
    rw [hw4]
    have := Boxed.new (w.alloc X) 22 (.slice none 0 0)
    rw [World.size_alloc] at this
    exact (this.alloc _).alloc _
  have bN : TriV w4 (w.heap.size + 2) 26 (.slice a1 n.keys.length c1) (.slice a2 n.chains.length c2) (.slice a3 n.kids.length c3) := by
    rw [hw4]
    show _ = _
    rw [Below.heap_alloc _ _ _ (by simp)]
    have := World.alloc_heap_new ((w.alloc X).alloc (.cells #[.slice none 0 0] 22)) X
    simp only [World.size_alloc] at this
    rw [this, eX]
  have bE : w4.cell? ⟨w.heap.size + 3, 0, none⟩ = some (.slice none 0 0) := by
    rw [hw4]
    have := (Boxed.new (((w.alloc X).alloc (.cells #[.slice none 0 0] 22)).alloc X) 27 (.slice none 0 0)).cell
    simpa using this
  have hN : (prN n).length ≤ 100000 := prN_len hf
  have hgl : (geK (prN n) []).length ≤ (prN n).length := geK_len _ _
  have hst := from_stops (N := (prN n).length) hr0 hf (RdS.nil _ w) hb4 bN bE hgl
  refine calls_of_wp_marks Try.func35 rfl ?_
  simp only [Try.ntmps35, List.size_toArray, List.length_cons, List.length_nil, Nat.reduceAdd, Nat.reduceSub, Array.replicate_succ, Array.replicate_zero, List.push_toArray, List.append_toArray, List.nil_append, List.cons_append]
  go_wp2_with fail
  refine (from_any _ _ _ _ _ _ _).mono ?_
  rintro e wS ⟨rfl, hw'⟩
  obtain rfl : wS = w4 := by rw [hw', hw4, eX]
  clear hw' hw4
  go_wp2_with fail
  have hT : 22 ≠ 26 := by decide
  have hTe : 27 ≠ 26 := by decide
  refine wp_rangeFunc (gf := 54) (lb := #[.pointer (some ⟨w.heap.size + 2, 0, none⟩), .pointer (some ⟨w.heap.size + 3, 0, none⟩)]) rfl (enters_of Try.func54 (by kernel_rfl) rfl)
    hst (fun h k => h.trans k) (kpW_b (by omega)) (Below.refl _ _) (fun _ => rfl)
    (fun pre W => BoxL Elt.bytes 22 27 (w.heap.size + 1) (w.heap.size + 4) (w.heap.size + 4) W (pre.map (·.t)) ∧ KpW w.heap.size wS W)
    (fun _ _ _ => False)
    (OwnFrom.and (BoxL.own bytes_only _) (KpW.own (by omega) (by omega)))
    (fun _ _ _ _ _ hs _ _ => hs)
    ⟨⟨none, 0, 0, bK, OwnL.nil _ _ _ _ _⟩, KpW.refl _ _⟩
    (fun x => { tmps := #[.agg #[.slice a1 n.keys.length c1, .slice a2 n.chains.length c2, .slice a3 n.kids.length c3], .pointer (some ⟨w.heap.size, 0, none⟩), .slice none 0 0, .pointer (some ⟨w.heap.size + 1, 0, none⟩), .slice x.ad x.t.length x.c, .agg #[.slice a1 n.keys.length c1, .slice a2 n.chains.length c2, .slice a3 n.kids.length c3], .func (.func 54) #[] #[.pointer (some ⟨w.heap.size + 2, 0, none⟩), .pointer (some ⟨w.heap.size + 3, 0, none⟩)], .slice x.ad x.t.length x.c, undef, undef, undef, undef, undef, undef], defers := [] }) ?assign ?body ?done ?stop
  case assign =>
    intro l x W K hK
    gi_wp2
    refine Eq.mp ?_ hK
    kernel_rfl
  case stop =>
    rintro D c pre W _ _ h _
    exact h.elim
  case body =>
    rintro l pre x W ⟨⟨ad, k, c, hbx, hO⟩, hKp⟩ hlt
    have hWs : w.heap.size + 4 ≤ W.heap.size := by have := hKp.1.size; omega
    have hxr : RdS (· < w.heap.size) W (.slice x.ad x.t.length x.c) x.t := rdS_to x.rd (hb4.trans (hKp.1.mono (Nat.le_refl _)))
    have hob : ∀ i, Value.ownBlock (.slice ad k c) = some i → w.heap.size + 4 ≤ i ∧ i < W.heap.size := hO.block_lt
    have hlen : (pre.map (·.t)).length + 1 ≤ 1073741824 := by rw [List.length_map]; omega
    have eC : ∀ args w, (callFunc 41 args).run Try.prog w = .ok (.enter 41 args) w := enters_of Try.func41 (by kernel_rfl) rfl
    have hxl : x.t.length ≤ 1000000 := x.le
    refine wpIn_block ?_
    refine wpIn_region_setl (K := fun _ _ => True) (by kernel_rfl) (by kernel_rfl) (by kernel_rfl) [0, 2, 3, 4, 5] (by kernel_rfl) [lAny, lEq (.slice x.ad x.t.length x.c), lAny, lAny, lAny, lAny]
      (ColL Elt.bytes 22 27 (w.heap.size + 1) (w.heap.size + 4) (w.heap.size + 4) W (.slice ad k c) (pre.map (·.t)) x.t (NewK W x.t)) (ColL.more NewK.below) (ColE.start W)
      ⟨?o0, ?o1, ?o2, ?o3, ?o4, ?o5, trivial⟩ ?fin
    case o0 =>
      refine StOp.set rfl (by kernel_rfl) (fun A va D w' hF hT hN' hE hd hu hg => ?_)
      have e1 : A.eval (.tmp 3) = .pointer (some ⟨w.heap.size + 1, 0, none⟩) := hF 3 rfl
      have hE2 := hE
      simp only [told, List.map_cons, List.map_nil, hN', Bool.false_eq_true, if_false] at hE2
      obtain ⟨h5, h6⟩ := ColE.load hE2 hbx
      refine wp_ld_slice (e := 27) rfl e1 (by kernel_rfl) h5.cell ⟨_, rfl, ?_, trivial⟩
      simpa [ColL, told, don, upd] using h6
    case o1 =>
      refine StOp.free rfl (by kernel_rfl) (fun A va D w' hF hT hN' hE hd hu hg => ?_)
      have e1 : A.eval (.tmp 4) = .slice x.ad x.t.length x.c := hF 4 rfl
      exact BigFrame.wp_move _ rfl ⟨_, rfl, e1, Below.refl _ _⟩
    case o2 =>
      refine StOp.set rfl (by kernel_rfl) (fun A va D w' hF hT hN' hE hd hu hg => ?_)
      have e1 : A.eval (.tmp 9) = .slice x.ad x.t.length x.c := (hT 9 1 (by simp) rfl).trans (hg ⟨1, .data⟩ (by simp) rfl rfl)
      have hE2 := hE
      simp only [told, List.map_cons, List.map_nil, hN', Bool.false_eq_true, if_false] at hE2
      have hxw : RdS (· < w.heap.size) w' (.slice x.ad x.t.length x.c) x.t := hxr.keep fun g hg => hE2.tr.block g (by omega) fun e => by
        rcases e with ⟨_, e⟩ | ⟨_, e⟩
        · have := hob g e.symm; omega
        · omega
      refine wp_callFn rfl eC (args := #[.slice x.ad x.t.length x.c]) (by simp only [List.map_toArray, List.map_cons, List.map_nil, e1]) ((clone_any w' hxw.rd (Nat.le_refl _) hxl).mono ?_)
      rintro e w2 ⟨ad', k2, c', rfl, hf'⟩
      obtain rfl := hf'.2.rdS.len.1
      have h5 := ColE.elem NewK.below hE2 hf'.1 (u := .slice ad' x.t.length c') ⟨_, _, _, rfl, hf'.2.rdS.weak fun g hg => ⟨Nat.le_trans hE2.tr.size hg.1, hg.2⟩⟩
      exact ⟨_, rfl, _, rfl, by simpa [ColL, told, don, upd] using h5, trivial⟩
    case o3 =>
      refine StOp.set rfl (by kernel_rfl) (fun A va D w' hF hT hN' hE hd hu hg => ?_)
      have x1 : A.eval (.tmp 10) = va 2 := hT 10 2 (by simp) rfl
      have d2 : D 2 = true := hd ⟨2, .data⟩ (by simp) rfl
      have hE2 := hE
      simp only [told, List.map_cons, List.map_nil, hN', d2, Bool.false_eq_true, if_false, if_true] at hE2
      have d4 : D 4 = false := by
        cases h : D 4 with
        | false => rfl
        | true => rw [h] at hE2; exact absurd rfl (ColE.dn hE2 (by simp)).2
      rw [d4] at hE2
      simp only [Bool.false_eq_true, if_false] at hE2
      have d5 : D 5 = false := by
        cases h : D 5 with
        | false => rfl
        | true => rw [h] at hE2; have := ColE.no hE2 rfl; simp at this
      rw [d5] at hE2
      simp only [Bool.false_eq_true, if_false] at hE2
      obtain ⟨a5, k5, c5, ec, hc5⟩ := hE2.el _ rfl
      refine ColE.build kysP hE2 rfl (x1.trans ec) rfl ⟨_, rfl, hc5.weak fun g hg => ⟨by omega, hg.2, fun e => by have := hob g e.symm; omega⟩⟩ (by decide) NewK.below fun r w2 h6 => ⟨_, rfl, ?_, trivial⟩
      simpa [ColL, told, don, upd, d2, d4, d5] using h6
    case o4 =>
      refine StOp.set rfl (by kernel_rfl) (fun A va D w' hF hT hN' hE hd hu hg => ?_)
      have x1 : A.eval (.tmp 8) = va 0 := hT 8 0 (by simp) rfl
      have x2 : A.eval (.tmp 11) = va 3 := hT 11 3 (by simp) rfl
      have d0 : D 0 = true := hd ⟨0, .data⟩ (by simp) rfl
      have d3 : D 3 = true := hd ⟨3, .data⟩ (by simp) rfl
      have hE2 := hE
      simp only [told, List.map_cons, List.map_nil, hN', d0, d3, Bool.false_eq_true, if_false, if_true] at hE2
      have d5 : D 5 = false := by
        cases h : D 5 with
        | false => rfl
        | true => rw [h] at hE2; have := ColE.no hE2 rfl; simp at this
      rw [d5] at hE2
      simp only [Bool.false_eq_true, if_false] at hE2
      refine ColE.app kysP hE2 (by simp) rfl (x1.trans (hE2.ld _ rfl)) x2 hO (by omega) hlen (NewK.grown fun i hi => (hob i hi).2) fun r2 w2 h6 => ⟨_, rfl, ?_, trivial⟩
      simpa [ColL, told, don, upd, d0, d3, d5] using h6
    case o5 =>
      refine StOp.set rfl (by kernel_rfl) (fun A va D w' hF hT hN' hE hd hu hg => ?_)
      have e1 : A.eval (.tmp 3) = .pointer (some ⟨w.heap.size + 1, 0, none⟩) := hF 3 rfl
      have x2 : A.eval (.tmp 12) = va 4 := hT 12 4 (by simp) rfl
      have d4 : D 4 = true := hd ⟨4, .data⟩ (by simp) rfl
      have hE2 := hE
      simp only [told, List.map_cons, List.map_nil, hN', d4, Bool.false_eq_true, if_false, if_true] at hE2
      refine ColE.sto hE2 rfl (by kernel_rfl) e1 x2 hbx hO (by omega) (by omega) (NewK.grown fun i hi => by injection hi with hi; omega) fun w2 h6 => ⟨_, rfl, ?_, trivial⟩
      simpa [ColL, told, don, upd, d4] using h6
    case fin =>
      intro vs1 W1 hE hG
      obtain ⟨h1, h2, h3⟩ := ColE.done (n₀ := w.heap.size) hE hbx hO (by omega) (by omega) hT hTe wS.heap.size
      exact ⟨h1, h2, by rw [List.map_append]; exact h3, hKp.trans h2⟩
  case done =>
    rintro D ys W hD hys ⟨⟨ad, k, c, hbx, hO⟩, hKp⟩ hK
    have hc := hbx.cell
    obtain ⟨rfl, _, _⟩ := hO.rdL.len
    rw [hys, geK_all] at hO hc
    clear hbx
    replace hys := Lib.hid hys
    go_wp2_with fail
    refine ⟨by simp, .inl ⟨_, _, rfl, run_takeDeferred hK, ?_⟩⟩
    have hb : Below w.heap.size w (W.putObj D (Obj.deferred none)) := (hb4.trans hKp.1).trans (belowK_b (w := w) (Nat.le_refl _) W D _ _ (by omega) hK rfl rfl)
    have hrd : RdL Elt.bytes (fun g => w.heap.size ≤ g ∧ g < (W.putObj D (Obj.deferred none)).heap.size) (W.putObj D (Obj.deferred none)) (.slice ad (prN n).length c) ((prN n).map (·.key)) := by
      have h1 := (hO.grown bytes_only (grownBy_putObj' W D (Obj.deferred none)) (fun r e => by injection e with e; subst e; exact ⟨_, hK, rfl⟩)).rdL
      rw [List.length_map] at h1
      exact h1.weak fun g hg => ⟨by omega, hg.2⟩
    refine ⟨.slice ad (prN n).length c, by simp [results, Try.results35, go_sem], ad, c, by rw [List.length_map], ?_, hb⟩
    rw [List.length_map]
    exact hrd
end Go.Proofs.Ytdegjkfjaklkjaa
namespace Go.Proofs.Ytdegjkfjaklkjaa
open Go.RowKit Go.Shelf
attribute [local go_sem] Oper.semAt_some
theorem boxed_own {β : Type} {N b : Nat} {t : TypeId} {v : β → Value} : OwnFrom N (fun (s : β) W => Boxed W b t (v s)) := fun s X Y row hs hg hr =>
  hs.kept hg (fun e => by obtain ⟨_, o, ho, hc⟩ := hr _ e.symm; rw [show X.heap[b]? = _ from hs] at ho; cases ho; cases hc)
theorem below_own {β : Type} {n₀ N : Nat} {w₀ : World} (h1 : n₀ ≤ w₀.heap.size) (h2 : n₀ ≤ N) : OwnFrom N (fun (_ : β) W => Below n₀ w₀ W) := fun _ _ _ _ hs hg hr =>
  hs.grown hg (Nat.le_trans h1 hs.size) fun k e => Nat.le_trans h2 (hr k e).1
theorem rdS_own {S : Nat → Prop} {v : Value} {t : List UInt8} {X Y : World} {row : Option Nat} (h : RdS S X v t) (hg : X.grownBy Y row) (hr : ∀ r, row = some r → ∃ o : Obj, X.heap[r]? = some o ∧ o.isCells = false) : RdS S Y v t :=
  ((rdS_cells h).keep fun k hk => by
    obtain ⟨o, ho, hc⟩ := hk.2
    exact grownBy_keeps_cells hg hr ho hc).weak fun k hk => hk.1
set_option maxRecDepth 100000 in
set_option maxHeartbeats 4000000 in
theorem tMany_any (w : World) {S : Nat → Prop} {v : Value} {n : Nd} (hr : RdN S w v n) (hf : fitN n) : Calls Try.prog 24 #[v] w fun e w' => e = .returned (.int .i64 ((prN n).length : Nat)) ∧ Below w.heap.size w w' := by
  have hr0 : RdN (· < w.heap.size) w v n := hr.fit.weak fun _ h => h.2
  obtain ⟨a1, c1, a2, c2, a3, c3, rfl, _, _, _⟩ := hr
  obtain ⟨X, eX⟩ : ∃ X, X = Obj.cells #[.slice a1 n.keys.length c1, .slice a2 n.chains.length c2, .slice a3 n.kids.length c3] 26 := ⟨_, rfl⟩
  obtain ⟨w2, hw2⟩ : ∃ w2, w2 = (w.alloc X).alloc (.cells #[.int .i64 0] 3) := ⟨_, rfl⟩
  obtain ⟨w4, hw4⟩ : ∃ w4, w4 = (w2.alloc X).alloc (.cells #[.slice none 0 0] 27) := ⟨_, rfl⟩
  have bI0 : Boxed ((w.alloc X).alloc (.cells #[.int .i64 0] 3)) (w.heap.size + 1) 3 (.int .i64 0) := by
    have := Boxed.new (w.alloc X) 3 (.int .i64 0)
    rwa [World.size_alloc] at this
  have bI2 : Boxed w2 (w.heap.size + 1) 3 (.int .i64 0) := by rw [hw2]; exact bI0
  have hb2 : Below w.heap.size w w2 := by
    rw [hw2]
    exact ((Below.refl _ w).alloc (Nat.le_refl _) _).alloc (by simp) _
  have hs2 : w2.heap.size = w.heap.size + 2 := by rw [hw2]; simp
  have hb4 : Below w.heap.size w w4 := by
    rw [hw4]
    exact (hb2.alloc (by omega) _).alloc (by simp; omega) _
  have hs4 : w4.heap.size = w.heap.size + 4 := by rw [hw4]; simp [hs2]
  have bK : Boxed w4 (w.heap.size + 1) 3 (.int .i64 0) := by
    rw [hw4]
    exact (bI2.alloc _).alloc _
  have bN : TriV w4 (w.heap.size + 2) 26 (.slice a1 n.keys.length c1) (.slice a2 n.chains.length c2) (.slice a3 n.kids.length c3) := by
    rw [hw4]
    show _ = _
    rw [Below.heap_alloc _ _ _ (by simp [hs2])]
    have := World.alloc_heap_new w2 X
    rw [hs2] at this
    rw [this, eX]
  have bE : w4.cell? ⟨w.heap.size + 3, 0, none⟩ = some (.slice none 0 0) := by
    rw [hw4]
    have := (Boxed.new (w2.alloc X) 27 (.slice none 0 0)).cell
    rw [World.size_alloc, hs2] at this
    exact this
  have hN : (prN n).length ≤ 100000 := prN_len hf
  have hgl : (geK (prN n) []).length ≤ (prN n).length := geK_len _ _
  have hst := from_stops (N := (prN n).length) hr0 hf (RdS.nil _ w) hb4 bN bE hgl
  have hcI := bI0.cell
  have hfI := bI0.frozen
  have bX : TriV ((w.alloc X).alloc (.cells #[.int .i64 0] 3)) w.heap.size 26 (.slice a1 n.keys.length c1) (.slice a2 n.chains.length c2) (.slice a3 n.kids.length c3) := by
    rw [eX]
    exact (TriV.new w _ _ _ _).below ((Below.refl _ _).alloc (Nat.le_refl _) _) (by simp)
  have bX2 : TriV w2 w.heap.size 26 (.slice a1 n.keys.length c1) (.slice a2 n.chains.length c2) (.slice a3 n.kids.length c3) := by
    rw [hw2]
    exact bX
  have tn0 := bX2.cell0
  have tn1 := bX2.cell1
  have tn2 := bX2.cell2
  refine calls_of_wp_marks Try.func24 rfl ?_
  simp only [Try.ntmps24, List.size_toArray, List.length_cons, List.length_nil, Nat.reduceAdd, Nat.reduceSub, Array.replicate_succ, Array.replicate_zero, List.push_toArray, List.append_toArray, List.nil_append, List.cons_append]
  go_upto_region 2 with (fail)
  rw [← eX, ← hw2]
  replace hw2 := Lib.hid hw2
  replace hw4 := Lib.hid hw4
  replace eX := Lib.hid eX
  go_wp2_with fail
  refine (from_any _ _ _ _ _ _ _).mono ?_
  rintro e wS ⟨rfl, hw'⟩
  obtain rfl : wS = w4 := by rw [hw', hw4.out, eX.out]
  clear hw' hw4 tn0 tn1 tn2 hcI hfI bX bX2 bI0
  clear hw2
  go_wp2_with fail
  refine wp_rangeFunc (gf := 54) (lb := #[.pointer (some ⟨w.heap.size + 2, 0, none⟩), .pointer (some ⟨w.heap.size + 3, 0, none⟩)]) rfl (enters_of Try.func54 (by kernel_rfl) rfl)
    hst (fun h k => h.trans k) (kpW_b (by omega)) (Below.refl _ _) (fun _ => rfl)
    (fun (pre : List (KeyAt w)) W => Boxed W (w.heap.size + 1) 3 (.int .i64 (pre.length : Nat)) ∧ KpW w.heap.size wS W)
    (fun _ _ _ => False)
    (OwnFrom.and boxed_own (KpW.own (by omega) (by omega)))
    (fun _ _ _ _ _ hs _ _ => hs)
    ⟨bK, KpW.refl _ _⟩
    (fun (x : KeyAt w) => { tmps := #[.agg #[.slice a1 n.keys.length c1, .slice a2 n.chains.length c2, .slice a3 n.kids.length c3], .pointer (some ⟨w.heap.size, 0, none⟩), .int .i64 0, .pointer (some ⟨w.heap.size + 1, 0, none⟩), .agg #[.slice a1 n.keys.length c1, .slice a2 n.chains.length c2, .slice a3 n.kids.length c3], .func (.func 54) #[] #[.pointer (some ⟨w.heap.size + 2, 0, none⟩), .pointer (some ⟨w.heap.size + 3, 0, none⟩)], .slice x.ad x.t.length x.c, undef, undef, undef], defers := [] }) ?assign ?body ?done ?stop
  case assign =>
    intro l x W K hK
    gi_wp2
    refine Eq.mp ?_ hK
    kernel_rfl
  case stop =>
    rintro D c pre W _ _ h _
    exact h.elim
  case body =>
    rintro l pre x W ⟨hbx, hKp⟩ hlt
    have hc := hbx.cell
    have hf := hbx.frozen
    gi_wp2
    have hk' : KpW w.heap.size W (W.setCell ⟨w.heap.size + 1, 0, none⟩ (.int .i64 ((pre.length : Int) + 1))) :=
      ⟨(Below.refl _ _).setCell (p := ⟨w.heap.size + 1, 0, none⟩) (by show w.heap.size ≤ w.heap.size + 1; omega) _, fun j c r e => heap_setCell_other W ⟨w.heap.size + 1, 0, none⟩ j _ (fun e2 => by
        have e3 : j = w.heap.size + 1 := e2
        rw [e3, show W.heap[w.heap.size + 1]? = _ from hbx] at e
        injection e with e
        injection e with _ e4
        exact absurd e4 (by decide))⟩
    refine ⟨(KeepsOthers.setCell _ _ _).from _, hk', ?_, hKp.trans hk'⟩
    have := hbx.set (.int .i64 ((pre.length : Int) + 1))
    simpa using this
  case done =>
    rintro D ys W hD hys ⟨hbx, hKp⟩ hK
    have hc := hbx.cell
    have hl : ys.length = (prN n).length := by
      have := congrArg List.length hys
      rwa [geK_all, List.length_map, List.length_map] at this
    rw [hl] at hc
    clear hbx
    replace hys := Lib.hid hys
    replace hl := Lib.hid hl
    go_wp2_with fail
    refine ⟨by simp, .inl ⟨_, _, rfl, run_takeDeferred hK, ?_⟩⟩
    exact ⟨.int .i64 ((prN n).length : Nat), by simp [results, Try.results24, go_sem], rfl, (hb4.trans hKp.1).trans (belowK_b (w := w) (Nat.le_refl _) W D _ _ (by omega) hK rfl rfl)⟩
set_option maxRecDepth 100000 in
set_option maxHeartbeats 4000000 in
theorem tNext_any (w : World) {S S2 : Nat → Prop} {v : Value} {n : Nd} {a : Option Addr} {m c : Nat} {k : List UInt8} (hr : RdN S w v n) (hf : fitN n) (hk : RdS S2 w (.slice a m c) k) : Calls Try.prog 17 #[v, .slice a m c] w (NextEnd w (nextP (prN n) k)) := by
  have hr0 : RdN (· < w.heap.size) w v n := hr.fit.weak fun _ h => h.2
  have hk0 : RdS (· < w.heap.size) w (.slice a m c) k := hk.fit.weak fun _ h => h.2
  obtain ⟨rfl, _, _⟩ := hk.len
  obtain ⟨a1, c1, a2, c2, a3, c3, rfl, _, _, _⟩ := hr
  obtain ⟨X, eX⟩ : ∃ X, X = Obj.cells #[.slice a1 n.keys.length c1, .slice a2 n.chains.length c2, .slice a3 n.kids.length c3] 26 := ⟨_, rfl⟩
  obtain ⟨w2, hw2⟩ : ∃ w2, w2 = ((w.alloc X).alloc (.cells #[.slice none 0 0] 27)).alloc (.cells #[.bool false] 4) := ⟨_, rfl⟩
  obtain ⟨w4, hw4⟩ : ∃ w4, w4 = (w2.alloc X).alloc (.cells #[.slice a k.length c] 27) := ⟨_, rfl⟩
  have hs2 : w2.heap.size = w.heap.size + 3 := by rw [hw2]; simp
  have bA2 : Boxed w2 (w.heap.size + 1) 27 (.slice none 0 0) := by
    rw [hw2]
    have := Boxed.new (w.alloc X) 27 (.slice none 0 0)
    rw [World.size_alloc] at this
    exact this.alloc _
  have bB2 : Boxed w2 (w.heap.size + 2) 4 (.bool false) := by
    rw [hw2]
    have := Boxed.new ((w.alloc X).alloc (.cells #[.slice none 0 0] 27)) 4 (.bool false)
    rw [World.size_alloc, World.size_alloc] at this
    exact this
  have bX2 : TriV w2 w.heap.size 26 (.slice a1 n.keys.length c1) (.slice a2 n.chains.length c2) (.slice a3 n.kids.length c3) := by
    rw [hw2, eX]
    exact (TriV.new w _ _ _ _).below (((Below.refl _ _).alloc (Nat.le_refl _) _).alloc (by simp) _) (by simp)
  have hb2 : Below w.heap.size w w2 := by
    rw [hw2]
    exact (((Below.refl _ w).alloc (Nat.le_refl _) _).alloc (by simp) _).alloc (by simp; omega) _
  have hb4 : Below w.heap.size w w4 := by
    rw [hw4]
    exact (hb2.alloc (by omega) _).alloc (by simp; omega) _
  have hs4 : w4.heap.size = w.heap.size + 5 := by rw [hw4]; simp [hs2]
  have bA4 : Boxed w4 (w.heap.size + 1) 27 (.slice none 0 0) := by rw [hw4]; exact (bA2.alloc _).alloc _
  have bB4 : Boxed w4 (w.heap.size + 2) 4 (.bool false) := by rw [hw4]; exact (bB2.alloc _).alloc _
  have bN : TriV w4 (w.heap.size + 3) 26 (.slice a1 n.keys.length c1) (.slice a2 n.chains.length c2) (.slice a3 n.kids.length c3) := by
    rw [hw4]
    show _ = _
    rw [Below.heap_alloc _ _ _ (by simp [hs2])]
    have := World.alloc_heap_new w2 X
    rw [hs2] at this
    rw [this, eX]
  have bE : w4.cell? ⟨w.heap.size + 4, 0, none⟩ = some (.slice a k.length c) := by
    rw [hw4]
    have := (Boxed.new (w2.alloc X) 27 (.slice a k.length c)).cell
    rw [World.size_alloc, hs2] at this
    exact this
  have hst := from_stops (N := (prN n).length) hr0 hf hk0 hb4 bN bE (geK_len _ _)
  have hhd := geK_head (prN n) k
  obtain ⟨G, eG⟩ : ∃ G, G = geK (prN n) k := ⟨_, rfl⟩
  rw [← eG] at hst hhd
  rw [← hhd]
  clear hhd eG
  have tn0 := bX2.cell0
  have tn1 := bX2.cell1
  have tn2 := bX2.cell2
  refine calls_of_wp_marks Try.func17 rfl ?_
  simp only [Try.ntmps17, List.size_toArray, List.length_cons, List.length_nil, Nat.reduceAdd, Nat.reduceSub, Array.replicate_succ, Array.replicate_zero, List.push_toArray, List.append_toArray, List.nil_append, List.cons_append]
  go_upto_region 1 with (fail)
  rw [← eX, ← hw2]
  replace hw2 := Lib.hid hw2
  replace hw4 := Lib.hid hw4
  replace eX := Lib.hid eX
  go_wp2_with fail
  refine (from_any _ _ _ _ _ _ _).mono ?_
  rintro e wS ⟨rfl, hw'⟩
  obtain rfl : wS = w4 := by rw [hw', hw4.out, eX.out]
  clear hw' hw4 tn0 tn1 tn2 bX2
  clear hw2
  go_wp2_with fail
  refine wp_rangeFunc (gf := 54) (lb := #[.pointer (some ⟨w.heap.size + 3, 0, none⟩), .pointer (some ⟨w.heap.size + 4, 0, none⟩)]) rfl (enters_of Try.func54 (by kernel_rfl) rfl)
    hst (fun h k => h.trans k) (kpW_b (by omega)) (Below.refl _ _) (fun _ => rfl)
    (fun (pre : List (KeyAt w)) W => pre = [] ∧ Boxed W (w.heap.size + 1) 27 (.slice none 0 0) ∧ Boxed W (w.heap.size + 2) 4 (.bool false) ∧ Below w.heap.size w W)
    (fun c pre W => c = .ret ∧ ∃ (x : KeyAt w) (ad : Option Addr) (cc : Nat), pre = [x] ∧ Boxed W (w.heap.size + 1) 27 (.slice ad x.t.length cc) ∧ Boxed W (w.heap.size + 2) 4 (.bool true) ∧ RdS (fun g => w.heap.size ≤ g ∧ g < W.heap.size) W (.slice ad x.t.length cc) x.t ∧ Below w.heap.size w W)
    (OwnFrom.and (fun _ _ _ _ hs _ _ => hs) (OwnFrom.and boxed_own (OwnFrom.and boxed_own (below_own (Nat.le_refl _) (by omega)))))
    (fun c s X Y row hs hg hr => by
      obtain ⟨ec, x, ad, cc, hp, h1, h2, h3, h4⟩ := hs
      exact ⟨ec, x, ad, cc, hp, boxed_own (v := fun _ : Unit => _) () X Y row h1 hg hr, boxed_own (v := fun _ : Unit => _) () X Y row h2 hg hr, (rdS_own h3 hg fun r e => (hr r e).2).weak fun g hg2 => ⟨hg2.1, Nat.lt_of_lt_of_le hg2.2 hg.size⟩, below_own (β := Unit) (N := wS.heap.size) (Nat.le_refl _) (by omega) () X Y row h4 hg hr⟩)
    ⟨rfl, bA4, bB4, hb4⟩
    (fun (x : KeyAt w) => { tmps := #[.agg #[.slice a1 n.keys.length c1, .slice a2 n.chains.length c2, .slice a3 n.kids.length c3], .slice a k.length c, .pointer (some ⟨w.heap.size, 0, none⟩), undef, .pointer (some ⟨w.heap.size + 1, 0, none⟩), .pointer (some ⟨w.heap.size + 2, 0, none⟩), .slice x.ad x.t.length x.c, .agg #[.slice a1 n.keys.length c1, .slice a2 n.chains.length c2, .slice a3 n.kids.length c3], .slice a k.length c, .func (.func 54) #[] #[.pointer (some ⟨w.heap.size + 3, 0, none⟩), .pointer (some ⟨w.heap.size + 4, 0, none⟩)], .slice x.ad x.t.length x.c, undef, undef], defers := [] }) ?assign ?body ?done ?stop
  case assign =>
    intro l x W K hK
    gi_wp2
    refine Eq.mp ?_ hK
    kernel_rfl
  case body =>
    rintro l pre x W ⟨rfl, hA, hB, hbW⟩ hlt
    have hxr := rdS_to x.rd hbW
    have hcl := CallsIn.inRound l ((callsIn_wide (n := 0)).2 (clone_any W hxr.rd (Nat.le_refl _) x.le))
    gi_wp2
    refine ⟨trivial, hcl.mono ?_⟩
    clear hcl
    rintro e W3 ⟨ad', k2, c', rfl, hf'⟩
    have hrd := hf'.2.rdS
    obtain rfl := hrd.len.1
    have hA3 : Boxed W3 (w.heap.size + 1) 27 (.slice none 0 0) := (hf'.1.block _ hA.lt).trans hA
    have hB3 : Boxed W3 (w.heap.size + 2) 4 (.bool false) := (hf'.1.block _ hB.lt).trans hB
    have hsz := hf'.1.size
    have hbl := hb4.size
    have hWl := hB.lt
    have hA4 := hA3.set (.slice ad' x.t.length c')
    have hB4 : Boxed (W3.setCell ⟨w.heap.size + 1, 0, none⟩ (.slice ad' x.t.length c')) (w.heap.size + 2) 4 (.bool false) := hB3.other (by omega) _
    have hb3 : Below w.heap.size w W3 := hbW.trans (hf'.1.mono hbW.size)
    have hcA := hA3.cell
    have hfA := hA3.frozen
    have hcB := hB4.cell
    have hfB := hB4.frozen
    have hko : KeepsOthers W W3 := KeepsOthers.of_grownBy (grown_below hf'.1) (fun j o e => by cases e)
    clear hA hB hxr hf'
    gi_wp2
    refine ⟨((hko.trans (KeepsOthers.setCell _ _ _)).trans (KeepsOthers.setCell _ _ _)).from _, rfl, x, ad', c', rfl, hA4.other (by omega) _, hB4.set _, ?_, ?_⟩
    · exact (hrd.keep fun g hg => (heap_setCell_other _ ⟨w.heap.size + 2, 0, none⟩ g _ (by show g ≠ w.heap.size + 2; omega)).trans (heap_setCell_other _ ⟨w.heap.size + 1, 0, none⟩ g _ (by show g ≠ w.heap.size + 1; omega))).weak fun g hg => ⟨by omega, by simp; omega⟩
    · exact (hb3.setCell (p := ⟨w.heap.size + 1, 0, none⟩) (by show w.heap.size ≤ w.heap.size + 1; omega) _).setCell (p := ⟨w.heap.size + 2, 0, none⟩) (by show w.heap.size ≤ w.heap.size + 2; omega) _
  case stop =>
    rintro D c pre W hD ⟨r, hpk⟩ ⟨rfl, x, ad, cc, rfl, hA, hB, hrd, hbW⟩ hK
    have hcA := hA.cell
    have hcB := hB.cell
    go_wp2_with fail
    refine ⟨by simp, .inl ⟨_, _, rfl, run_takeDeferred hK, ?_⟩⟩
    have hA5 := hA.kept (grownBy_putObj' W D (Obj.deferred none)) (fun e => by injection e with e; subst e; rw [hA] at hK; cases hK)
    have hB5 := hB.kept (grownBy_putObj' W D (Obj.deferred none)) (fun e => by injection e with e; subst e; rw [hB] at hK; cases hK)
    have hcA := hA5.cell
    have hcB := hB5.cell
    refine ⟨.tuple #[.slice ad x.t.length cc, .bool true], by simp [results, Try.results17, go_sem, loadVar, hcA, hcB], ad, cc, ?_, ?_, (hbW.trans (belowK_b (w := w) (Nat.le_refl _) W D _ _ (by omega) hK rfl rfl))⟩
    · rw [hpk]
      rfl
    · rw [hpk]
      exact (rdS_own hrd (grownBy_putObj' W D (Obj.deferred none)) fun r e => by injection e with e; subst e; exact ⟨_, hK, rfl⟩).weak fun g hg => ⟨hg.1, by simpa using hg.2⟩
  case done =>
    rintro D ys W hD hys ⟨rfl, hA, hB, hbW⟩ hK
    have hcA := hA.cell
    have hfA := hA.frozen
    have hcB := hB.cell
    have hfB := hB.frozen
    obtain rfl : G = [] := hys.symm
    have hA4 := hA.set (.slice none 0 0)
    have hB4 : Boxed (W.setCell ⟨w.heap.size + 1, 0, none⟩ (.slice none 0 0)) (w.heap.size + 2) 4 (.bool false) := hB.other (by omega) _
    have hcB := hB4.cell
    have hfB := hB4.frozen
    have hA5 : Boxed ((W.setCell ⟨w.heap.size + 1, 0, none⟩ (.slice none 0 0)).setCell ⟨w.heap.size + 2, 0, none⟩ (.bool false)) (w.heap.size + 1) 27 (.slice none 0 0) := hA4.other (by omega) _
    have hB5 := hB4.set (.bool false)
    have hb5 : Below w.heap.size w ((W.setCell ⟨w.heap.size + 1, 0, none⟩ (.slice none 0 0)).setCell ⟨w.heap.size + 2, 0, none⟩ (.bool false)) :=
      (hbW.setCell (p := ⟨w.heap.size + 1, 0, none⟩) (by show w.heap.size ≤ w.heap.size + 1; omega) _).setCell (p := ⟨w.heap.size + 2, 0, none⟩) (by show w.heap.size ≤ w.heap.size + 2; omega) _
    have hK5 : ((W.setCell ⟨w.heap.size + 1, 0, none⟩ (.slice none 0 0)).setCell ⟨w.heap.size + 2, 0, none⟩ (.bool false)).heap[D]? = some (.deferred (some [])) :=
      (heap_setCell_other _ ⟨w.heap.size + 2, 0, none⟩ D _ (by show D ≠ w.heap.size + 2; omega)).trans ((heap_setCell_other _ ⟨w.heap.size + 1, 0, none⟩ D _ (by show D ≠ w.heap.size + 1; omega)).trans hK)
    go_wp2_with fail
    generalize (W.setCell ⟨w.heap.size + 1, 0, none⟩ (.slice none 0 0)).setCell ⟨w.heap.size + 2, 0, none⟩ (.bool false) = W5 at *
    refine ⟨by simp, .inl ⟨_, _, rfl, run_takeDeferred hK5, ?_⟩⟩
    have hA6 := hA5.kept (grownBy_putObj' W5 D (Obj.deferred none)) (fun e => by injection e with e; subst e; rw [hA5] at hK5; cases hK5)
    have hB6 := hB5.kept (grownBy_putObj' W5 D (Obj.deferred none)) (fun e => by injection e with e; subst e; rw [hB5] at hK5; cases hK5)
    have hcA6 := hA6.cell
    have hcB6 := hB6.cell
    exact ⟨.tuple #[.slice none 0 0, .bool false], by simp [results, Try.results17, go_sem, loadVar, hcA6, hcB6], none, 0, rfl, RdS.nil _ _, hb5.trans (belowK_b (w := w) (Nat.le_refl _) W5 D _ _ (by omega) hK5 rfl rfl)⟩
end Go.Proofs.Ytdegjkfjaklkjaa
namespace Go.Proofs.Ytdegjkfjaklkjaa
open Go.RowKit
theorem treC0 : TreC0 where
  check w _ _ _ hr hf := tCheck_any w hr (by have := hf.1; omega)
  keys w _ _ _ hr hf := tKeys_any w hr hf
  many w _ _ _ hr hf := tMany_any w hr hf
  depth w _ _ _ hr hf := tDepth_any w hr (by have := hf.1; omega)
  find w _ _ _ _ _ _ _ _ hr hf hk _ := tFind_any w hr hf hk
  next w _ _ _ _ _ _ _ _ hr hf hk _ := tNext_any w hr hf hk
  put w _ _ _ _ _ _ _ _ _ _ _ _ _ hr hf hk hl hx hs := tPut_any w hr hf hk hl hx hs
  delete w _ _ _ _ _ _ _ _ hr hf hk _ := tDelete_any w hr hf hk
end Go.Proofs.Ytdegjkfjaklkjaa
namespace Go.Proofs.Ytdegjkfjaklkjaa
open Go.ChangeShapes Go.WideShapes Go.ChangeAt Go.RowKit Go.Deep
def Opens {α : Type} (P : Program) (t : TypeId) (E : Elt α) : Prop :=
  ∀ {H : Type} {enc : TypeId × Value → H} {w : World} {base : Nat} {held : Bool} {fuel : Nat} {cs : List Value} {x : DataW H × List MemPlace}, DataW.trod enc P w base (fun _ => true) held fuel t cs = some x → ∃ d, E.R (· < w.heap.size) w d cs
theorem choose_list {α : Type} {p : Nat → α → Prop} : ∀ n, (∀ i, i < n → ∃ d, p i d) → ∃ l : List α, l.length = n ∧ ∀ i (h : i < l.length), p i l[i]
  | 0, _ => ⟨[], rfl, fun i h => absurd h (Nat.not_lt_zero _)⟩
  | n + 1, h => by
    obtain ⟨l, hl, hp⟩ := choose_list n (fun i hi => h i (by omega))
    obtain ⟨d, hd⟩ := h n (Nat.lt_succ_self n)
    refine ⟨l ++ [d], by simp [hl], fun i hi => ?_⟩
    rcases Nat.lt_or_ge i l.length with h1 | h1
    · rw [List.getElem_append_left h1]; exact hp i h1
    · rw [List.length_append] at hi
      simp only [List.length_cons, List.length_nil] at hi
      obtain rfl : i = l.length := by omega
      rw [List.getElem_append_right (Nat.le_refl _)]
      simp only [Nat.sub_self, List.getElem_cons_zero]
      rw [hl]; exact hd
section
variable {P : Program} {t e : TypeId}
theorem Opens.bytes (ht : P.underlying t = some (.slice e)) (he : P.underlying e = some (.int .u8)) (hc : P.cellsOf e = 1) : Opens P t Elt.bytes := by
  intro H enc w base held fuel cs x h
  rcases open_ints ht he hc h with ⟨hcs, _⟩ | ⟨x, l, c, zs, hcs, _, hl, hm, hz, _, hcell, hwz⟩
  · exact ⟨_, _, hcs, (Rd.of_row (.inl ⟨rfl, rfl, rfl, rfl⟩)).s⟩
  · exact ⟨_, _, hcs, (Rd.of_row (.inr ⟨_, rfl, hl, hm, by simpa using hz, hcell, hwz⟩)).s⟩
theorem Opens.list {α : Type} {E : Elt α} (ht : P.underlying t = some (.slice e)) (hc : P.cellsOf e = E.size) (hE : Opens P e E) : Opens P t (Elt.list E) := by
  intro H enc w base held fuel cs x h
  rcases open_slice ht h with ⟨rfl, _⟩ | ⟨a, len, cap, m, n, D, Pl, rfl, hb, hl, hm, hmm, _, hi⟩
  · exact ⟨[], _, rfl, RdL.nil _ _ _⟩
  · have hlm : len ≤ m := by rw [hmm]; split <;> omega
    obtain ⟨l, hll, hp⟩ := choose_list (p := fun i d => ∃ cs', E.R (· < w.heap.size) w d cs' ∧ ∀ j, j < cs'.length → w.cell? (a.add (i * E.size + j)) = cs'[j]?) len (fun i hil => by
      obtain ⟨cs', h1, h2⟩ := hi i (by omega)
      obtain ⟨d, hd⟩ := hE h2
      obtain ⟨_, hcl, hat⟩ := World.cells?_some h1
      refine ⟨d, cs', hd, fun j hj => ?_⟩
      have := hat j (by omega)
      rw [add_add, hc] at this
      exact this)
    refine ⟨l, _, rfl, ?_⟩
    rw [← hll] at hl ⊢
    refine ⟨some a, cap, rfl, hl, hm, ?_⟩
    rcases Nat.eq_zero_or_pos l.length with h0 | h0
    · exact .inl (List.eq_nil_of_length_eq_zero h0)
    · obtain ⟨cs0, hR0, hc0⟩ := hp 0 h0
      have hl0 := E.len hR0
      have hpos := E.pos
      have hcell := hc0 0 (by omega)
      rw [List.getElem?_eq_getElem (by omega)] at hcell
      obtain ⟨b, off, spot⟩ := a
      have hspot : spot = none := by simpa [Addr.add] using World.cell?_spot hcell
      subst hspot
      have hblt := World.block_lt_of_cell? w _ hcell
      refine .inr ⟨b, off, rfl, by simpa [Addr.add_lit] using hblt, fun r hr => ?_⟩
      obtain ⟨cs', hR, hcs⟩ := hp r hr
      refine ⟨cs', hR, fun j u hj => ?_⟩
      have := hcs j (List.getElem?_eq_some_iff.1 hj).1
      rw [hj, Addr.add_lit, ← Nat.add_assoc] at this
      exact this
theorem Opens.rdL {α : Type} {E : Elt α} (hO : Opens P t (Elt.list E)) {H : Type} {enc : TypeId × Value → H} {w : World} {base : Nat} {held : Bool} {fuel : Nat} {a : Option Addr} {n c : Nat} {x : DataW H × List MemPlace}
    (h : DataW.trod enc P w base (fun _ => true) held fuel t [.slice a n c] = some x) : ∃ xs, RdL E (· < w.heap.size) w (.slice a n c) xs := by
  obtain ⟨d, v, hv, hR⟩ := hO h
  cases hv
  exact ⟨d, hR⟩
end
end Go.Proofs.Ytdegjkfjaklkjaa
namespace Go.Proofs.Ytdegjkfjaklkjaa
open Go.ChangeShapes Go.WideShapes Go.ChangeAt Go.RowKit Go.Deep
set_option maxRecDepth 4000 in
theorem opens_ver : Opens Try.prog 61 Elt.ver := by
  intro H enc w base held fuel cs x h
  obtain ⟨y0, y1, y2, n, _, hl, h0, h1, h2⟩ := trod_struct3 Try.underlying61 h
  have hc : cs.length = 3 := hl.trans (by kernel_rfl)
  match cs, hc with
  | [u, v, r], _ =>
    obtain ⟨m, hm, _, hw⟩ := DataW.trod_int (by kernel_rfl : Try.prog.underlying 3 = some (.int .i64)) (h0 : DataW.trod enc Try.prog w base (fun _ => true) held n 3 [u] = some y0)
    obtain ⟨g, hg, _⟩ := DataW.trod_bool (by kernel_rfl : Try.prog.underlying 4 = some .bool) (h1 : DataW.trod enc Try.prog w base (fun _ => true) held n 4 [v] = some y1)
    obtain ⟨xs, v', hv, hR⟩ := Opens.bytes (P := Try.prog) (t := 27) (e := 5) (by kernel_rfl) (by kernel_rfl) (by kernel_rfl) (h2 : DataW.trod enc Try.prog w base (fun _ => true) held n 27 [r] = some y2)
    cases hm; cases hg; cases hv
    exact ⟨⟨m, g, xs⟩, r, rfl, hR, i64w hw⟩
theorem opens_vers : Opens Try.prog 32 (Elt.list Elt.ver) := Opens.list (by kernel_rfl) (by kernel_rfl) opens_ver
end Go.Proofs.Ytdegjkfjaklkjaa
