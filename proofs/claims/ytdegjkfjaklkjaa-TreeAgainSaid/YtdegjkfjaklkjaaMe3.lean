/-
  TEXTS OF ONE PROOF, merged: Link, Sink, VerC, VerE, VerN, VerX, TreM, TreN, TreO.
-/
import Derived.BigQuiet
import Derived.Deep.Cut
import Derived.Deep.QuietTactic
import Derived.IntWalk
import Derived.Lib.Hide
import Derived.RangeFuncBox
import Derived.Shelf.Abstract
import Derived.Test.YtdegjkfjaklkjaaProg
import Derived.WalkKit
import Derived.WalkLawsBesides
import Derived.WalkSpells
import Derived.Test.YtdegjkfjaklkjaaMe1
import Derived.Test.YtdegjkfjaklkjaaMe2
namespace Go.Proofs.Ytdegjkfjaklkjaa
open Go.RowKit
section
variable {P : Program} {Q : Exit → Act → World → Prop}
def SoftOpL (P : Program) (Q : Exit → Act → World → Prop) (ops : Array Oper) (a : Act) (K : Nat → World → World → Prop) (R : World → Prop) (G : (Nat → Value) → Nat → World → Value → Prop) (i : Nat) (o : Oper) : Prop :=
  ∀ (A : Act) (vs : Nat → Value) (w' : World), (∀ t, slotIx ops.toList 0 t = none → A.eval (.tmp t) = a.eval (.tmp t)) → (∀ t j, t < a.tmps.size → slotIx ops.toList 0 t = some j → A.eval (.tmp t) = vs j) → R w' →
    (∀ e ∈ o.after, Region.binds .any e = true → G vs e.on w' (vs e.on)) → o.wp P A w' (fun a2 w2 => ∃ v, a2 = A.put o.dst v ∧ G vs i w2 v ∧ K i w' w2) Q
def GdOpL (P : Program) (Q : Exit → Act → World → Prop) (ops : Array Oper) (a : Act) (K : Nat → World → World → Prop) (R : World → Prop) (G : (Nat → Value) → Nat → World → Value → Prop) (i : Nat) (o : Oper) : Prop :=
  match o.guard with
  | none => SoftOpL P Q ops a K R G i o
  | some (j, b) => (∃ oj d, ops[j]? = some oj ∧ oj.dst = some d ∧ d < a.tmps.size) ∧ (o.after.any fun e => e.on == j && Region.binds .any e) = true ∧
      (((∀ vs w v, G vs j w v → v = .bool b) ∧ SoftOpL P Q ops a K R G i o) ∨ ((∀ vs w v, G vs j w v → v = .bool (!b) ∨ v = undef) ∧ ∀ vs w, G vs i w undef))
theorem GdOpL.plain {ops : Array Oper} {a : Act} {K : Nat → World → World → Prop} {R : World → Prop} {G : (Nat → Value) → Nat → World → Value → Prop} {i : Nat} {o : Oper} (h : o.guard = none) (h2 : SoftOpL P Q ops a K R G i o) : GdOpL P Q ops a K R G i o := by
  unfold GdOpL; rw [h]; exact h2
theorem GdOpL.taken {ops : Array Oper} {a : Act} {K : Nat → World → World → Prop} {R : World → Prop} {G : (Nat → Value) → Nat → World → Value → Prop} {i : Nat} {o : Oper} {j : Nat} {b : Bool} (h : o.guard = some (j, b)) (h1 : ∃ oj d, ops[j]? = some oj ∧ oj.dst = some d ∧ d < a.tmps.size)
    (h2 : (o.after.any fun e => e.on == j && Region.binds .any e) = true) (h3 : ∀ vs w v, G vs j w v → v = .bool b) (h4 : SoftOpL P Q ops a K R G i o) : GdOpL P Q ops a K R G i o := by
  unfold GdOpL; rw [h]; exact ⟨h1, h2, .inl ⟨h3, h4⟩⟩
theorem GdOpL.left {ops : Array Oper} {a : Act} {K : Nat → World → World → Prop} {R : World → Prop} {G : (Nat → Value) → Nat → World → Value → Prop} {i : Nat} {o : Oper} {j : Nat} {b : Bool} (h : o.guard = some (j, b)) (h1 : ∃ oj d, ops[j]? = some oj ∧ oj.dst = some d ∧ d < a.tmps.size)
    (h2 : (o.after.any fun e => e.on == j && Region.binds .any e) = true) (h3 : ∀ vs w v, G vs j w v → v = .bool (!b) ∨ v = undef) (h4 : ∀ vs w, G vs i w undef) : GdOpL P Q ops a K R G i o := by
  unfold GdOpL; rw [h]; exact ⟨h1, h2, .inr ⟨h3, h4⟩⟩
def GdAllL (P : Program) (Q : Exit → Act → World → Prop) (ops : Array Oper) (a : Act) (K : Nat → World → World → Prop) (R : World → Prop) (G : (Nat → Value) → Nat → World → Value → Prop) : Nat → List Oper → Prop
  | _, [] => True
  | i, o :: rest => GdOpL P Q ops a K R G i o ∧ GdAllL P Q ops a K R G (i + 1) rest
theorem GdAllL.get {ops : Array Oper} {a : Act} {K : Nat → World → World → Prop} {R : World → Prop} {G : (Nat → Value) → Nat → World → Value → Prop} : ∀ (l : List Oper) (k j : Nat) (o : Oper), GdAllL P Q ops a K R G k l → l[j]? = some o → GdOpL P Q ops a K R G (k + j) o
  | [], _, _, _, _, h => by simp at h
  | o' :: rest, k, 0, o, h, hj => by obtain rfl : o' = o := by simpa using hj
                                     exact h.1
  | o' :: rest, k, j + 1, o, h, hj => by rw [show k + (j + 1) = k + 1 + j by omega]; exact GdAllL.get rest (k + 1) j o h.2 (by simpa using hj)
end
end Go.Proofs.Ytdegjkfjaklkjaa
namespace Go.Proofs.Ytdegjkfjaklkjaa
open Go.RowKit
section
variable {P : Program} {Q : Exit → Act → World → Prop}
def SoftOpM (P : Program) (Q : Exit → Act → World → Prop) (ops : Array Oper) (a : Act) (K : Nat → World → World → Prop) (R R0 : World → Prop) (m : Nat) (pre post drop : Nat → Bool) (G : (Nat → Value) → Nat → World → Value → Prop) (i : Nat) (o : Oper) : Prop :=
  ∀ (A : Act) (vs : Nat → Value) (w' : World), (∀ t, slotIx ops.toList 0 t = none → A.eval (.tmp t) = a.eval (.tmp t)) → (∀ t j, t < a.tmps.size → slotIx ops.toList 0 t = some j → A.eval (.tmp t) = vs j) → R w' → (pre i = true ∨ i = m → R0 w') → (pre i = true ∨ i = m → ∀ j d, post j = true → (ops[j]?).bind (·.dst) = some d → vs j = a.eval (.tmp d)) →
    (∀ e ∈ o.after, (Region.binds .any e && (pre i || i == m || !drop e.on)) = true → G vs e.on w' (vs e.on)) → o.wp P A w' (fun a2 w2 => ∃ v, a2 = A.put o.dst v ∧ G vs i w2 v ∧ K i w' w2) Q
def GdOpM (P : Program) (Q : Exit → Act → World → Prop) (ops : Array Oper) (a : Act) (K : Nat → World → World → Prop) (R R0 : World → Prop) (m : Nat) (pre post drop : Nat → Bool) (G : (Nat → Value) → Nat → World → Value → Prop) (i : Nat) (o : Oper) : Prop :=
  match o.guard with
  | none => SoftOpM P Q ops a K R R0 m pre post drop G i o
  | some (j, b) => (∃ oj d, ops[j]? = some oj ∧ oj.dst = some d ∧ d < a.tmps.size) ∧ (o.after.any fun e => e.on == j && (Region.binds .any e && !drop e.on)) = true ∧
      (((∀ vs w v, G vs j w v → v = .bool b) ∧ SoftOpM P Q ops a K R R0 m pre post drop G i o) ∨ ((∀ vs w v, G vs j w v → v = .bool (!b) ∨ v = undef) ∧ ∀ vs w, G vs i w undef))
theorem GdOpM.plain {ops : Array Oper} {a : Act} {K : Nat → World → World → Prop} {R R0 : World → Prop} {m : Nat} {pre post drop : Nat → Bool} {G : (Nat → Value) → Nat → World → Value → Prop} {i : Nat} {o : Oper} (h : o.guard = none) (h2 : SoftOpM P Q ops a K R R0 m pre post drop G i o) : GdOpM P Q ops a K R R0 m pre post drop G i o := by
  unfold GdOpM; rw [h]; exact h2
theorem GdOpM.taken {ops : Array Oper} {a : Act} {K : Nat → World → World → Prop} {R R0 : World → Prop} {m : Nat} {pre post drop : Nat → Bool} {G : (Nat → Value) → Nat → World → Value → Prop} {i : Nat} {o : Oper} {j : Nat} {b : Bool} (h : o.guard = some (j, b)) (h1 : ∃ oj d, ops[j]? = some oj ∧ oj.dst = some d ∧ d < a.tmps.size)
    (h2 : (o.after.any fun e => e.on == j && (Region.binds .any e && !drop e.on)) = true) (h3 : ∀ vs w v, G vs j w v → v = .bool b) (h4 : SoftOpM P Q ops a K R R0 m pre post drop G i o) : GdOpM P Q ops a K R R0 m pre post drop G i o := by
  unfold GdOpM; rw [h]; exact ⟨h1, h2, .inl ⟨h3, h4⟩⟩
theorem GdOpM.left {ops : Array Oper} {a : Act} {K : Nat → World → World → Prop} {R R0 : World → Prop} {m : Nat} {pre post drop : Nat → Bool} {G : (Nat → Value) → Nat → World → Value → Prop} {i : Nat} {o : Oper} {j : Nat} {b : Bool} (h : o.guard = some (j, b)) (h1 : ∃ oj d, ops[j]? = some oj ∧ oj.dst = some d ∧ d < a.tmps.size)
    (h2 : (o.after.any fun e => e.on == j && (Region.binds .any e && !drop e.on)) = true) (h3 : ∀ vs w v, G vs j w v → v = .bool (!b) ∨ v = undef) (h4 : ∀ vs w, G vs i w undef) : GdOpM P Q ops a K R R0 m pre post drop G i o := by
  unfold GdOpM; rw [h]; exact ⟨h1, h2, .inr ⟨h3, h4⟩⟩
def GdAllM (P : Program) (Q : Exit → Act → World → Prop) (ops : Array Oper) (a : Act) (K : Nat → World → World → Prop) (R R0 : World → Prop) (m : Nat) (pre post drop : Nat → Bool) (G : (Nat → Value) → Nat → World → Value → Prop) : Nat → List Oper → Prop
  | _, [] => True
  | i, o :: rest => GdOpM P Q ops a K R R0 m pre post drop G i o ∧ GdAllM P Q ops a K R R0 m pre post drop G (i + 1) rest
theorem GdAllM.get {ops : Array Oper} {a : Act} {K : Nat → World → World → Prop} {R R0 : World → Prop} {m : Nat} {pre post drop : Nat → Bool} {G : (Nat → Value) → Nat → World → Value → Prop} : ∀ (l : List Oper) (k j : Nat) (o : Oper), GdAllM P Q ops a K R R0 m pre post drop G k l → l[j]? = some o → GdOpM P Q ops a K R R0 m pre post drop G (k + j) o
  | [], _, _, _, _, h => by simp at h
  | o' :: rest, k, 0, o, h, hj => by obtain rfl : o' = o := by simpa using hj
                                     exact h.1
  | o' :: rest, k, j + 1, o, h, hj => by rw [show k + (j + 1) = k + 1 + j by omega]; exact GdAllM.get rest (k + 1) j o h.2 (by simpa using hj)
end
end Go.Proofs.Ytdegjkfjaklkjaa
namespace Go.Proofs.Ytdegjkfjaklkjaa
open Go.RowKit Go.Shelf
theorem cells_at {w : World} {b : Nat} {t : TypeId} {us : List Value} (h : w.heap[b]? = some (.cells us.toArray t (0, 0))) (j : Nat) (u : Value) (hj : us[j]? = some u) : w.cell? (Addr.add ⟨b, 0, none⟩ j) = some u := by
  rw [Addr.add_lit, World.cell?, h]
  simpa using hj
end Go.Proofs.Ytdegjkfjaklkjaa
namespace Go.Proofs.Ytdegjkfjaklkjaa
open Go.RowKit Go.Shelf
theorem vacV_zero {l : List Ver} {s : Int} (h : cntV l s = 0) : vacV l s = l := by unfold vacV; split <;> simp [h]
theorem vacV_gone {l : List Ver} {s : Int} {m : Nat} (hk : okV l) (h : cntV l s = m + 1) (hm : m < l.length) (hg : l[m].gone = true) : vacV l s = l.drop (m + 1) := by
  unfold vacV
  rw [if_pos hk, dif_pos (by omega)]
  simp only [h, Nat.add_sub_cancel, hg, if_true]
theorem vacV_some {l : List Ver} {s : Int} {m : Nat} (hk : okV l) (h : cntV l s = m + 1) (hm : m < l.length) (hg : l[m].gone = false) : vacV l s = l.drop m := by
  unfold vacV
  rw [if_pos hk, dif_pos (by omega)]
  simp only [h, Nat.add_sub_cancel, hg, Bool.false_eq_true, if_false]
def InstEnd (w : World) (l : List Ver) (x : Ver) (e : Ending) (w' : World) : Prop :=
  ∃ a c, e = .returned (.tuple #[.slice a (instV l x).1.length c, .int .i64 ((instV l x).2 : Nat)]) ∧ OwnL Elt.ver 61 w.heap.size w.heap.size w' (.slice a (instV l x).1.length c) (instV l x).1 ∧ Below w.heap.size w w'
theorem InstEnd.of {w0 w w' : World} {l m : List Ver} {x : Ver} {er : Nat} {a : Option Addr} {c : Nat} (hb : Below w0.heap.size w0 w) (h : instV l x = (m, er)) (hO : OwnL Elt.ver 61 w.heap.size w.heap.size w' (.slice a m.length c) m) (h2 : Below w.heap.size w w') : InstEnd w0 l x (.returned (.tuple #[.slice a m.length c, .int .i64 er])) w' := by
  unfold InstEnd
  rw [h]
  exact ⟨a, c, rfl, hO.to hb.size hb.size, hb.trans (h2.mono hb.size)⟩
end Go.Proofs.Ytdegjkfjaklkjaa
namespace Go.Proofs.Ytdegjkfjaklkjaa
theorem lastAt_spec (l : List Ver) (s : Int) : ∀ k, k ≤ l.length → (∀ i (h : i < l.length), lastAt l s k ≤ i → i < k → ¬ l[i].stamp ≤ s) ∧ (∀ m (h : m < l.length), lastAt l s k = m + 1 → l[m].stamp ≤ s)
  | 0, _ => ⟨fun i _ _ h => absurd h (Nat.not_lt_zero _), fun m _ h => by simp [lastAt] at h⟩
  | k + 1, hk => by
    obtain ⟨h1, h2⟩ := lastAt_spec l s k (by omega)
    by_cases hs : l[k].stamp ≤ s
    · rw [lastAt_yes (by omega) hs]
      exact ⟨fun i _ h3 h4 => by omega, fun m hm e => by obtain rfl : m = k := by omega
                                                         exact hs⟩
    · rw [lastAt_no (by omega) hs]
      refine ⟨fun i hi h3 h4 => ?_, h2⟩
      rcases Nat.lt_or_ge i k with h5 | h5
      · exact h1 i hi h3 h5
      · obtain rfl : i = k := by omega
        exact hs
theorem okV_lt {l : List Ver} (hk : okV l) : ∀ d i (h : i + d < l.length), 0 < d → l[i].stamp < l[i + d].stamp
  | 0, _, _, h => absurd h (Nat.lt_irrefl _)
  | d + 1, i, h, _ => by
    have h1 := (hk (i + d + 1) h).2 (by omega)
    simp only [Nat.add_sub_cancel] at h1
    rcases Nat.eq_zero_or_pos d with rfl | h2
    · exact h1
    · have := okV_lt hk d i (by omega) h2
      exact Int.lt_trans this h1
theorem okV_mono {l : List Ver} (hk : okV l) {i j : Nat} (hij : i < j) (hj : j < l.length) : (l[i]'(by omega)).stamp < l[j].stamp := by
  have := okV_lt hk (j - i) i (by omega) (by omega)
  simpa [show i + (j - i) = j by omega] using this
theorem cnt_iff {l : List Ver} (hk : okV l) (s : Int) {i : Nat} (h : i < l.length) : l[i].stamp ≤ s ↔ i < cntV l s := by
  obtain ⟨h1, h2⟩ := lastAt_spec l s l.length (Nat.le_refl _)
  constructor
  · intro hs
    rcases Nat.lt_or_ge i (cntV l s) with h3 | h3
    · exact h3
    · exact absurd hs (h1 i h h3 h)
  · intro hi
    have hle := cntV_le l s
    obtain ⟨m, hm⟩ : ∃ m, cntV l s = m + 1 := ⟨cntV l s - 1, by omega⟩
    have hms := h2 m (by omega) hm
    rcases Nat.lt_or_ge i m with h3 | h3
    · have := okV_mono hk h3 (by omega)
      omega
    · obtain rfl : i = m := by omega
      exact hms
end Go.Proofs.Ytdegjkfjaklkjaa
namespace Go.Proofs.Ytdegjkfjaklkjaa
open Go.RowKit
def smallV (l : List Ver) : Prop := l.length ≤ 1000 ∧ ∀ x ∈ l, x.value.length ≤ 1000
def VersNew (w : World) (l : List Ver) (e : Ending) (w' : World) : Prop :=
  ∃ a c, e = .returned (.slice a l.length c) ∧ RdL Elt.ver (fun k => w.heap.size ≤ k ∧ k < w'.heap.size) w' (.slice a l.length c) l ∧ Below w.heap.size w w'
def InstNew (w : World) (l : List Ver) (x : Ver) (e : Ending) (w' : World) : Prop :=
  ∃ a c, e = .returned (.tuple #[.slice a (instV l x).1.length c, .int .i64 ((instV l x).2 : Nat)]) ∧ RdL Elt.ver (fun k => w.heap.size ≤ k ∧ k < w'.heap.size) w' (.slice a (instV l x).1.length c) (instV l x).1 ∧ Below w.heap.size w w'
theorem ReadVEnd.some {w w' : World} {l : List Ver} {s : Int} {e : Ending} {xs : List UInt8} (h : readV l s = some xs) (h2 : ReadVEnd w l s e w') : ∃ a c, e = .returned (.tuple #[.slice a xs.length c, .bool true]) ∧ RdS (fun k => w.heap.size ≤ k ∧ k < w'.heap.size) w' (.slice a xs.length c) xs ∧ Below w.heap.size w w' := by
  unfold ReadVEnd at h2; rw [h] at h2; exact h2
end Go.Proofs.Ytdegjkfjaklkjaa
namespace Go.Proofs.Ytdegjkfjaklkjaa
def ltB (a b : List UInt8) : Bool := Op.bytesLess a b
theorem ltB_irrefl : ∀ a, ltB a a = false
  | [] => rfl
  | x :: a => by
    have h := ltB_irrefl a
    unfold ltB at h ⊢
    simp [Op.bytesLess, h]
theorem ltB_trans : ∀ {a b c}, ltB a b = true → ltB b c = true → ltB a c = true
  | _, [], _, h, _ => by cases ‹List UInt8› <;> simp [ltB, Op.bytesLess] at h
  | _, _ :: _, [], _, h => by simp [ltB, Op.bytesLess] at h
  | [], _ :: _, _ :: _, _, _ => rfl
  | x :: a, y :: b, z :: c, h, k => by
    simp only [ltB, Op.bytesLess, Bool.or_eq_true, decide_eq_true_eq, Bool.and_eq_true, beq_iff_eq] at h k ⊢
    rcases h with h | ⟨rfl, h⟩
    · rcases k with k | ⟨rfl, k⟩
      · exact .inl (UInt8.lt_trans h k)
      · exact .inl h
    · rcases k with k | ⟨rfl, k⟩
      · exact .inl k
      · exact .inr ⟨rfl, ltB_trans (a := a) (b := b) (c := c) h k⟩
theorem ltB_total : ∀ {a b}, a ≠ b → ltB a b = false → ltB b a = true
  | [], [], h, _ => absurd rfl h
  | [], _ :: _, _, h => by simp [ltB, Op.bytesLess] at h
  | _ :: _, [], _, _ => rfl
  | x :: a, y :: b, hne, h => by
    simp only [ltB, Op.bytesLess, Bool.or_eq_false_iff, Bool.and_eq_false_iff, decide_eq_false_iff_not, beq_eq_false_iff_ne, Bool.or_eq_true, decide_eq_true_eq, Bool.and_eq_true, beq_iff_eq] at h ⊢
    obtain ⟨h1, h2⟩ := h
    by_cases hxy : x = y
    · subst hxy
      rcases h2 with h2 | h2
      · exact absurd rfl h2
      · exact .inr ⟨rfl, ltB_total (a := a) (b := b) (fun e => hne (by rw [e])) h2⟩
    · refine .inl ?_
      rcases UInt8.lt_or_lt_of_ne (a := x) (b := y) hxy with h3 | h3
      · exact absurd h3 h1
      · exact h3
theorem ltB_asymm {a b : List UInt8} (h : ltB a b = true) : ltB b a = false := by
  cases hb : ltB b a with
  | false => rfl
  | true => rw [← ltB_irrefl a]; exact (ltB_trans h hb).symm
theorem ltB_ne {a b : List UInt8} (h : ltB a b = true) : a ≠ b := fun e => by subst e; rw [ltB_irrefl] at h; cases h
structure Pr where
  key : List UInt8
  chain : List Ver
deriving DecidableEq
inductive Nd where
  | mk : List (List UInt8) → List (List Ver) → List Nd → Nd
def Nd.keys : Nd → List (List UInt8) | .mk a _ _ => a
def Nd.chains : Nd → List (List Ver) | .mk _ b _ => b
def Nd.kids : Nd → List Nd | .mk _ _ c => c
def allD : List Int → Int
  | [] => -1
  | d :: r => if (∀ x ∈ r, x = d) ∧ 0 ≤ d then d + 1 else -1
mutual
def formI : Nd → Bool → Int
  | .mk ks cs ns, root => if cs.length ≠ ks.length ∨ 3 < ks.length ∨ (root = false ∧ ks.length < 1) then -1 else if ns.length = 0 then 1 else if ns.length ≠ ks.length + 1 ∨ ks.length < 1 then -1 else allD (formL ns)
def formL : List Nd → List Int
  | [] => []
  | n :: ns => formI n false :: formL ns
end
def wv (ps : List (List Pr)) (ks : List (List UInt8)) (cs : List (List Ver)) : Nat → List Pr
  | 0 => []
  | i + 1 => wv ps ks cs i ++ ps.getD i [] ++ [⟨ks.getD i [], cs.getD i []⟩]
mutual
def pairsN : Nd → List Pr
  | .mk ks cs ns => wv (pairsL ns) ks cs ks.length ++ (pairsL ns).getD (ns.length - 1) []
def pairsL : List Nd → List (List Pr)
  | [] => []
  | n :: ns => pairsN n :: pairsL ns
end
theorem formL_map : ∀ ns, formL ns = ns.map (formI · false)
  | [] => by simp [formL]
  | n :: ns => by simp [formL, formL_map ns]
theorem pairsL_map : ∀ ns, pairsL ns = ns.map pairsN
  | [] => by simp [pairsL]
  | n :: ns => by simp [pairsL, pairsL_map ns]
def okP (l : List Pr) : Prop := ∀ i (h : i < l.length), okV l[i].chain ∧ l[i].chain ≠ [] ∧ l[i].key.length ≤ 16 ∧ (0 < i → ltB l[i - 1].key l[i].key = true)
instance (l : List Pr) : Decidable (okP l) := by unfold okP; infer_instance
def okN (n : Nd) : Prop := 0 ≤ formI n true ∧ okP (pairsN n)
instance (n : Nd) : Decidable (okN n) := by unfold okN; infer_instance
def prN (n : Nd) : List Pr := if okN n then pairsN n else []
def depN (n : Nd) : Int := if okN n then formI n true else 0
def putGo (k : List UInt8) (c : List Ver) : Bool → List Pr → List Pr
  | true, [] => []
  | false, [] => [⟨k, c⟩]
  | true, p :: l => (if k = p.key then [] else [p]) ++ putGo k c true l
  | false, p :: l => if ltB k p.key || decide (k = p.key) then ⟨k, c⟩ :: ((if k = p.key then [] else [p]) ++ putGo k c true l) else p :: putGo k c false l
def putP (l : List Pr) (k : List UInt8) (c : List Ver) : List Pr := putGo k c false l
def delP (l : List Pr) (k : List UInt8) : List Pr := l.filter (fun p => !decide (p.key = k))
def findP (l : List Pr) (k : List UInt8) : Option (List Ver) := (l.find? fun p => decide (p.key = k)).map (·.chain)
def nextP (l : List Pr) (k : List UInt8) : Option (List UInt8) := (l.find? fun p => !ltB p.key k).map (·.key)
end Go.Proofs.Ytdegjkfjaklkjaa
namespace Go.Proofs.Ytdegjkfjaklkjaa
def Srt (l : List Pr) : Prop := l.Pairwise fun a b => ltB a.key b.key = true
def goodP (p : Pr) : Prop := okV p.chain ∧ p.chain ≠ [] ∧ p.key.length ≤ 16
theorem srt_get {l : List Pr} (h : Srt l) {i j : Nat} (hij : i < j) (hj : j < l.length) : ltB (l[i]'(by omega)).key l[j].key = true := List.pairwise_iff_getElem.1 h i j (by omega) hj hij
theorem okP_iff (l : List Pr) : okP l ↔ (∀ p ∈ l, goodP p) ∧ Srt l := by
  constructor
  · intro h
    refine ⟨fun p hp => ?_, List.pairwise_iff_getElem.2 ?_⟩
    · obtain ⟨i, hi, rfl⟩ := List.mem_iff_getElem.1 hp
      have := h i hi
      exact ⟨this.1, this.2.1, this.2.2.1⟩
    · have key : ∀ d i (h2 : i + d + 1 < l.length), ltB (l[i]'(by omega)).key l[i + d + 1].key = true := by
        intro d
        induction d with
        | zero => intro i h2; exact (h (i + 1) h2).2.2.2 (by omega)
        | succ d ih => intro i h2; exact ltB_trans (ih i (by omega)) ((h (i + (d + 1) + 1) h2).2.2.2 (by omega))
      intro i j hi hj hij
      have := key (j - i - 1) i (by omega)
      simpa [show i + (j - i - 1) + 1 = j by omega] using this
  · rintro ⟨h1, h2⟩ i hi
    have := h1 _ (List.getElem_mem hi)
    exact ⟨this.1, this.2.1, this.2.2, fun h0 => srt_get h2 (by omega) hi⟩
theorem findP_nil (k : List UInt8) : findP [] k = none := rfl
theorem findP_cons (p : Pr) (l : List Pr) (k : List UInt8) : findP (p :: l) k = if p.key = k then some p.chain else findP l k := by
  unfold findP
  by_cases h : p.key = k <;> simp [h]
theorem findP_lt {l : List Pr} {k : List UInt8} (h : ∀ p ∈ l, ltB k p.key = true) : findP l k = none := by
  induction l with
  | nil => rfl
  | cons p l ih =>
    rw [findP_cons, if_neg (fun e => ltB_ne (h p (by simp)) e.symm)]
    exact ih fun q hq => h q (by simp [hq])
theorem findP_some {l : List Pr} {k : List UInt8} {c : List Ver} (h : findP l k = some c) : ∃ p ∈ l, p.key = k ∧ p.chain = c := by
  induction l with
  | nil => cases h
  | cons p l ih =>
    rw [findP_cons] at h
    by_cases e : p.key = k
    · rw [if_pos e] at h; injection h with h; exact ⟨p, by simp, e, h⟩
    · rw [if_neg e] at h
      obtain ⟨q, hq, h2⟩ := ih h
      exact ⟨q, by simp [hq], h2⟩
theorem findP_mem {l : List Pr} (hs : Srt l) {p : Pr} (hp : p ∈ l) : findP l p.key = some p.chain := by
  induction l with
  | nil => cases hp
  | cons q l ih =>
    have hs' := List.pairwise_cons.1 hs
    rw [findP_cons]
    rcases List.mem_cons.1 hp with rfl | h
    · rw [if_pos rfl]
    · rw [if_neg (ltB_ne (hs'.1 p h)), ih hs'.2 h]
def insP (k : List UInt8) (c : List Ver) : List Pr → List Pr
  | [] => [⟨k, c⟩]
  | p :: l => if k = p.key then ⟨k, c⟩ :: l else if ltB k p.key then ⟨k, c⟩ :: p :: l else p :: insP k c l
theorem putGo_true {k : List UInt8} {c : List Ver} : ∀ {l : List Pr}, (∀ p ∈ l, k ≠ p.key) → putGo k c true l = l
  | [], _ => by simp [putGo]
  | p :: l, h => by
    rw [putGo, if_neg (h p (by simp)), putGo_true fun q hq => h q (by simp [hq])]
    rfl
theorem putP_ins {k : List UInt8} {c : List Ver} : ∀ {l : List Pr}, Srt l → putP l k c = insP k c l
  | [], _ => by simp [putP, putGo, insP]
  | p :: l, hs => by
    have hs' := List.pairwise_cons.1 hs
    have ih := putP_ins (k := k) (c := c) hs'.2
    unfold putP at ih ⊢
    rw [putGo, insP]
    by_cases h : k = p.key
    · subst h
      rw [if_pos (by simp), if_pos rfl, if_pos rfl, putGo_true fun q hq => ltB_ne (hs'.1 q hq)]
      rfl
    · rw [if_neg h, if_neg h]
      by_cases h2 : ltB k p.key = true
      · rw [if_pos (by simp [h2]), if_pos h2, putGo_true fun q hq => ltB_ne (ltB_trans h2 (hs'.1 q hq))]
        rfl
      · rw [if_neg (by simp [h2, h]), if_neg h2, ih]
theorem ins_find {k k' : List UInt8} {c : List Ver} : ∀ (l : List Pr), findP (insP k c l) k' = if k = k' then some c else findP l k'
  | [] => by rw [insP, findP_cons]
  | p :: l => by
    have ih := ins_find (k := k) (k' := k') (c := c) l
    rw [insP]
    by_cases h : k = p.key
    · rw [if_pos h, findP_cons, findP_cons]
      by_cases h2 : k = k'
      · simp [h2]
      · rw [if_neg h2, if_neg h2, if_neg (by rw [← h]; exact h2)]
    · rw [if_neg h]
      by_cases h2 : ltB k p.key = true
      · rw [if_pos h2, findP_cons]
      · rw [if_neg h2, findP_cons, ih, findP_cons]
        by_cases h3 : p.key = k'
        · rw [if_pos h3, if_pos h3, if_neg (fun e => h (by rw [e, h3]))]
        · rw [if_neg h3, if_neg h3]
theorem ins_mem {k : List UInt8} {c : List Ver} : ∀ {l : List Pr} {q : Pr}, q ∈ insP k c l → q = ⟨k, c⟩ ∨ q ∈ l
  | [], q, h => by simp [insP] at h; exact .inl h
  | p :: l, q, h => by
    rw [insP] at h
    by_cases h1 : k = p.key
    · rw [if_pos h1] at h
      rcases List.mem_cons.1 h with h | h
      · exact .inl h
      · exact .inr (by simp [h])
    · rw [if_neg h1] at h
      by_cases h2 : ltB k p.key = true
      · rw [if_pos h2] at h
        rcases List.mem_cons.1 h with h | h
        · exact .inl h
        · exact .inr h
      · rw [if_neg h2] at h
        rcases List.mem_cons.1 h with h | h
        · exact .inr (by simp [h])
        · rcases ins_mem h with h | h
          · exact .inl h
          · exact .inr (by simp [h])
theorem ins_srt {k : List UInt8} {c : List Ver} : ∀ {l : List Pr}, Srt l → Srt (insP k c l)
  | [], _ => by simp [insP, Srt]
  | p :: l, hs => by
    have hs' := List.pairwise_cons.1 hs
    rw [insP]
    by_cases h : k = p.key
    · rw [if_pos h]
      exact List.pairwise_cons.2 ⟨fun q hq => by rw [show (Pr.mk k c).key = p.key from h]; exact hs'.1 q hq, hs'.2⟩
    · rw [if_neg h]
      by_cases h2 : ltB k p.key = true
      · rw [if_pos h2]
        refine List.pairwise_cons.2 ⟨fun q hq => ?_, hs⟩
        rcases List.mem_cons.1 hq with rfl | hq
        · exact h2
        · exact ltB_trans h2 (hs'.1 q hq)
      · rw [if_neg h2]
        refine List.pairwise_cons.2 ⟨fun q hq => ?_, ins_srt hs'.2⟩
        rcases ins_mem hq with rfl | hq
        · exact ltB_total h (by simpa using h2)
        · exact hs'.1 q hq
theorem ins_len {k : List UInt8} {c : List Ver} : ∀ {l : List Pr}, Srt l → (insP k c l).length = if (findP l k).isSome then l.length else l.length + 1
  | [], _ => by simp [insP, findP_nil]
  | p :: l, hs => by
    have hs' := List.pairwise_cons.1 hs
    have ih := ins_len (k := k) (c := c) hs'.2
    rw [insP, findP_cons]
    by_cases h : k = p.key
    · rw [if_pos h, if_pos h.symm]; simp
    · have h' : ¬ p.key = k := fun e => h e.symm
      rw [if_neg h, if_neg h']
      by_cases h2 : ltB k p.key = true
      · rw [if_pos h2, findP_lt fun q hq => ltB_trans h2 (hs'.1 q hq)]; simp
      · rw [if_neg h2, List.length_cons, ih, List.length_cons]; split <;> omega
theorem del_find {k k' : List UInt8} : ∀ (l : List Pr), findP (delP l k) k' = if k = k' then none else findP l k'
  | [] => by simp [delP, findP_nil]
  | p :: l => by
    have ih := del_find (k := k) (k' := k') l
    unfold delP at ih ⊢
    rw [List.filter_cons]
    by_cases h : p.key = k
    · simp only [h, decide_true, Bool.not_true, Bool.false_eq_true, if_false]
      rw [ih, findP_cons]
      by_cases h2 : k = k'
      · rw [if_pos h2, if_pos h2]
      · rw [if_neg h2, if_neg h2, if_neg (by rw [h]; exact h2)]
    · simp only [h, decide_false, Bool.not_false, if_true]
      rw [findP_cons, findP_cons, ih]
      by_cases h2 : k = k'
      · rw [if_pos h2, if_pos h2, if_neg (by rw [← h2]; exact h)]
      · rw [if_neg h2, if_neg h2]
theorem del_srt {k : List UInt8} {l : List Pr} (h : Srt l) : Srt (delP l k) := List.Pairwise.filter _ h
theorem del_mem {k : List UInt8} {l : List Pr} {q : Pr} (h : q ∈ delP l k) : q ∈ l := (List.mem_filter.1 h).1
theorem del_none {k : List UInt8} : ∀ {l : List Pr}, findP l k = none → delP l k = l
  | [], _ => rfl
  | p :: l, h => by
    rw [findP_cons] at h
    by_cases e : p.key = k
    · rw [if_pos e] at h; cases h
    · rw [if_neg e] at h
      have ih := del_none h
      unfold delP at ih ⊢
      rw [List.filter_cons, ih]
      simp [e]
theorem del_len {k : List UInt8} : ∀ {l : List Pr}, Srt l → (delP l k).length + (if (findP l k).isSome then 1 else 0) = l.length
  | [], _ => by simp [delP, findP_nil]
  | p :: l, hs => by
    have hs' := List.pairwise_cons.1 hs
    have ih := del_len (k := k) hs'.2
    rw [findP_cons]
    unfold delP at ih ⊢
    rw [List.filter_cons]
    by_cases h : p.key = k
    · subst h
      have hn : findP l p.key = none := findP_lt fun q hq => hs'.1 q hq
      rw [hn] at ih
      simp at ih ⊢
      exact ih
    · simp only [h, decide_false, Bool.not_false, if_true, if_false, List.length_cons]
      omega
theorem srt_ext : ∀ {a b : List Pr}, Srt a → Srt b → (∀ k, findP a k = findP b k) → a = b
  | [], [], _, _, _ => rfl
  | [], q :: b, _, _, h => by have := h q.key; rw [findP_nil, findP_cons, if_pos rfl] at this; cases this
  | p :: a, [], _, _, h => by have := h p.key; rw [findP_nil, findP_cons, if_pos rfl] at this; cases this
  | p :: a, q :: b, ha, hb, h => by
    have ha' := List.pairwise_cons.1 ha
    have hb' := List.pairwise_cons.1 hb
    have hk : p.key = q.key := by
      have h1 := h p.key
      have h2 := h q.key
      rw [findP_cons, if_pos rfl] at h1
      rw [findP_cons q b q.key, if_pos rfl] at h2
      obtain ⟨x, hx, hx2, _⟩ := findP_some h1.symm
      obtain ⟨y, hy, hy2, _⟩ := findP_some h2
      rcases List.mem_cons.1 hx with rfl | hx
      · exact hx2.symm
      · rcases List.mem_cons.1 hy with rfl | hy
        · exact hy2
        · have e1 := hb'.1 x hx
          have e2 := ha'.1 y hy
          rw [hx2] at e1
          rw [hy2] at e2
          rw [ltB_asymm e1] at e2
          cases e2
    have hc : p.chain = q.chain := by
      have := h p.key
      rw [findP_cons, if_pos rfl, findP_cons, if_pos hk.symm] at this
      injection this
    have ht : a = b := srt_ext ha'.2 hb'.2 fun k => by
      by_cases e : p.key = k
      · rw [findP_lt fun x hx => by rw [← e]; exact ha'.1 x hx, findP_lt fun x hx => by rw [← e, hk]; exact hb'.1 x hx]
      · have := h k
        rw [findP_cons, if_neg e, findP_cons, if_neg (by rw [← hk]; exact e)] at this
        exact this
    subst ht
    cases p; cases q
    simp only at hk hc
    subst hk; subst hc
    rfl
theorem put_okP {l : List Pr} (h : okP l) {k : List UInt8} {c : List Ver} (hk : k.length ≤ 16) (hc : okV c) (hc0 : c ≠ []) : okP (putP l k c) := by
  obtain ⟨h1, h2⟩ := (okP_iff l).1 h
  rw [putP_ins h2]
  refine (okP_iff _).2 ⟨fun p hp => ?_, ins_srt h2⟩
  rcases ins_mem hp with rfl | hp
  · exact ⟨hc, hc0, hk⟩
  · exact h1 p hp
theorem put_find {l : List Pr} (h : Srt l) {k k' : List UInt8} {c : List Ver} : findP (putP l k c) k' = if k = k' then some c else findP l k' := by rw [putP_ins h, ins_find]
theorem put_len {l : List Pr} (h : Srt l) {k : List UInt8} {c : List Ver} : (putP l k c).length = if (findP l k).isSome then l.length else l.length + 1 := by rw [putP_ins h, ins_len h]
theorem put_srt {l : List Pr} (h : Srt l) {k : List UInt8} {c : List Ver} : Srt (putP l k c) := by rw [putP_ins h]; exact ins_srt h
theorem put_del {l : List Pr} (h : Srt l) {k : List UInt8} {c : List Ver} (hn : findP l k = none) : delP (putP l k c) k = l := by
  refine srt_ext (del_srt (put_srt h)) h fun k' => ?_
  rw [del_find, put_find h]
  by_cases e : k = k'
  · rw [if_pos e, ← e, hn]
  · rw [if_neg e, if_neg e]
theorem del_put {l : List Pr} (h : Srt l) {k : List UInt8} {c : List Ver} (hn : findP l k = some c) : putP (delP l k) k c = l := by
  refine srt_ext (put_srt (del_srt h)) h fun k' => ?_
  rw [put_find (del_srt h), del_find]
  by_cases e : k = k'
  · rw [if_pos e, ← e, hn]
  · rw [if_neg e, if_neg e]
theorem nextP_nil (k : List UInt8) : nextP [] k = none := rfl
theorem nextP_cons (p : Pr) (l : List Pr) (k : List UInt8) : nextP (p :: l) k = if ltB p.key k then nextP l k else some p.key := by
  unfold nextP
  cases h : ltB p.key k <;> simp [h]
theorem nextP_none {l : List Pr} {k : List UInt8} : nextP l k = none ↔ ∀ p ∈ l, ltB p.key k = true := by
  induction l with
  | nil => simp [nextP_nil]
  | cons p l ih =>
    rw [nextP_cons]
    cases h : ltB p.key k <;> simp [h, ih]
theorem nextP_some {l : List Pr} (hs : Srt l) {k x : List UInt8} (h : nextP l k = some x) : ltB x k = false ∧ (∃ p ∈ l, p.key = x) ∧ ∀ p ∈ l, ltB p.key k = false → ltB p.key x = false := by
  induction l with
  | nil => cases h
  | cons p l ih =>
    have hs' := List.pairwise_cons.1 hs
    rw [nextP_cons] at h
    cases hp : ltB p.key k with
    | true =>
      rw [hp, if_pos rfl] at h
      obtain ⟨h1, ⟨q, hq, h2⟩, h3⟩ := ih hs'.2 h
      refine ⟨h1, ⟨q, by simp [hq], h2⟩, fun r hr h4 => ?_⟩
      rcases List.mem_cons.1 hr with rfl | hr
      · rw [hp] at h4; cases h4
      · exact h3 r hr h4
    | false =>
      rw [hp] at h
      simp at h
      subst h
      refine ⟨hp, ⟨p, by simp, rfl⟩, fun r hr h4 => ?_⟩
      rcases List.mem_cons.1 hr with rfl | hr
      · exact ltB_irrefl _
      · exact ltB_asymm (hs'.1 r hr)
theorem nextP_eq {l : List Pr} {k : List UInt8} {c : List Ver} (hs : Srt l) (h : findP l k = some c) : nextP l k = some k := by
  obtain ⟨p, hp, rfl, _⟩ := findP_some h
  cases hn : nextP l p.key with
  | none => have := nextP_none.1 hn p hp; rw [ltB_irrefl] at this; cases this
  | some x =>
    obtain ⟨h1, _, h3⟩ := nextP_some hs hn
    have := h3 p hp (ltB_irrefl _)
    by_cases e : p.key = x
    · rw [e]
    · have := ltB_total e this; rw [h1] at this; cases this
theorem nextP_find {l : List Pr} {k x : List UInt8} (hs : Srt l) (h : nextP l k = some x) : (findP l k).isSome = decide (x = k) := by
  obtain ⟨h1, ⟨p, hp, rfl⟩, h3⟩ := nextP_some hs h
  by_cases e : p.key = k
  · rw [← e, findP_mem hs hp]; simp
  · cases hf : findP l k with
    | none => simp [e]
    | some c =>
      have := nextP_eq hs hf
      rw [this] at h
      injection h with h
      exact absurd h.symm e
theorem ltB_nil (a : List UInt8) : ltB a [] = false := by cases a <;> rfl
theorem ltB_more : ∀ (a k : List UInt8), ltB a (k ++ [0]) = (ltB a k || decide (a = k))
  | [], [] => by simp [ltB, Op.bytesLess]
  | [], _ :: _ => by simp [ltB, Op.bytesLess]
  | x :: a, [] => by
    have h := ltB_nil a
    unfold ltB at h
    simp [ltB, Op.bytesLess, h]
  | x :: a, y :: k => by
    have ih := ltB_more a k
    unfold ltB at ih
    simp only [ltB, List.cons_append, Op.bytesLess, ih, List.cons.injEq]
    by_cases h1 : x < y
    · simp [h1]
    · by_cases h2 : x = y
      · subst h2; simp
      · have h3 : (x == y) = false := beq_eq_false_iff_ne.2 h2
        simp [h1, h2, h3]
theorem nextP_first {p : Pr} {l : List Pr} : nextP (p :: l) [] = some p.key := by rw [nextP_cons, ltB_nil]; rfl
theorem nextP_more {l : List Pr} (hs : Srt l) {i : Nat} (hi : i < l.length) : nextP l (l[i].key ++ [0]) = (l[i + 1]?).map (·.key) := by
  induction l generalizing i with
  | nil => simp at hi
  | cons p l ih =>
    have hs' := List.pairwise_cons.1 hs
    rw [nextP_cons, ltB_more]
    cases i with
    | zero =>
      simp only [List.getElem_cons_zero, decide_true, Bool.or_true, if_true, Nat.zero_add, List.getElem?_cons_succ]
      cases l with
      | nil => rfl
      | cons q l =>
        have := hs'.1 q (by simp)
        rw [nextP_cons, ltB_more, ltB_asymm this, decide_eq_false (fun e => ltB_ne this e.symm)]
        rfl
    | succ i =>
      have hi' : i < l.length := by simpa using hi
      have h1 := hs'.1 l[i] (List.getElem_mem hi')
      simp only [List.getElem_cons_succ, h1, Bool.true_or, if_true, List.getElem?_cons_succ]
      exact ih hs'.2 hi'
theorem okN_srt {n : Nd} (h : okN n) : Srt (pairsN n) := ((okP_iff _).1 h.2).2
theorem prN_srt (n : Nd) : Srt (prN n) := by
  unfold prN
  split
  · exact okN_srt ‹_›
  · exact List.Pairwise.nil
end Go.Proofs.Ytdegjkfjaklkjaa
namespace Go.Proofs.Ytdegjkfjaklkjaa
mutual
def wN : Nd → Nat
  | .mk ks cs ns => 1 + ks.length + cs.length + ns.length + wL ns
def wL : List Nd → Nat
  | [] => 0
  | n :: ns => wN n + wL ns
end
theorem wL_get : ∀ {ns : List Nd} {n : Nd}, n ∈ ns → wN n ≤ wL ns
  | m :: ns, n, h => by
    rw [wL]
    rcases List.mem_cons.1 h with rfl | h
    · omega
    · have := wL_get h; omega
theorem wN_kid {n m : Nd} (h : m ∈ n.kids) : wN m < wN n := by
  cases n with
  | mk ks cs ns =>
    have := wL_get (show m ∈ ns from h)
    rw [wN]; omega
theorem wN_pos (n : Nd) : 0 < wN n := by cases n; rw [wN]; omega
theorem wN_parts (n : Nd) : n.keys.length ≤ wN n ∧ n.chains.length ≤ wN n ∧ n.kids.length ≤ wN n := by
  cases n with
  | mk ks cs ns => simp only [wN, Nd.keys, Nd.chains, Nd.kids]; omega
theorem formI_def (n : Nd) (root : Bool) : formI n root = if n.chains.length ≠ n.keys.length ∨ 3 < n.keys.length ∨ (root = false ∧ n.keys.length < 1) then -1 else if n.kids.length = 0 then 1 else if n.kids.length ≠ n.keys.length + 1 ∨ n.keys.length < 1 then -1 else allD (n.kids.map (formI · false)) := by
  cases n with
  | mk ks cs ns => rw [formI, formL_map]; rfl
theorem pairsN_def (n : Nd) : pairsN n = wv (n.kids.map pairsN) n.keys n.chains n.keys.length ++ (n.kids.map pairsN).getD (n.kids.length - 1) [] := by
  cases n with
  | mk ks cs ns => rw [pairsN, pairsL_map]; rfl
theorem allD_spec {l : List Int} {d : Int} (h : allD l = d) (hd : 0 ≤ d) : l ≠ [] ∧ 1 ≤ d ∧ ∀ x ∈ l, x = d - 1 := by
  cases l with
  | nil => simp [allD] at h; omega
  | cons y r =>
    simp only [allD] at h
    by_cases hc : (∀ x ∈ r, x = y) ∧ 0 ≤ y
    · rw [if_pos hc] at h
      refine ⟨by simp, by omega, fun x hx => ?_⟩
      rcases List.mem_cons.1 hx with rfl | hx
      · omega
      · have := hc.1 x hx; omega
    · rw [if_neg hc] at h; omega
theorem form_inv {n : Nd} {root : Bool} {d : Int} (h : formI n root = d) (hd : 0 ≤ d) : n.chains.length = n.keys.length ∧ n.keys.length ≤ 3 ∧ (root = false → 1 ≤ n.keys.length) ∧ ((n.kids = [] ∧ d = 1) ∨ (n.kids.length = n.keys.length + 1 ∧ 1 ≤ n.keys.length ∧ 2 ≤ d ∧ ∀ m ∈ n.kids, formI m false = d - 1)) := by
  rw [formI_def] at h
  by_cases h1 : n.chains.length ≠ n.keys.length ∨ 3 < n.keys.length ∨ (root = false ∧ n.keys.length < 1)
  · rw [if_pos h1] at h; omega
  · rw [if_neg h1] at h
    have h1' : n.chains.length = n.keys.length ∧ n.keys.length ≤ 3 ∧ (root = false → 1 ≤ n.keys.length) := by
      refine ⟨?_, ?_, fun hr => ?_⟩
      · exact Decidable.byContradiction fun h => h1 (.inl h)
      · exact Decidable.byContradiction fun h => h1 (.inr (.inl (by omega)))
      · exact Decidable.byContradiction fun h => h1 (.inr (.inr ⟨hr, by omega⟩))
    refine ⟨h1'.1, h1'.2.1, h1'.2.2, ?_⟩
    by_cases h2 : n.kids.length = 0
    · rw [if_pos h2] at h
      exact .inl ⟨List.eq_nil_of_length_eq_zero h2, h.symm⟩
    · rw [if_neg h2] at h
      by_cases h3 : n.kids.length ≠ n.keys.length + 1 ∨ n.keys.length < 1
      · rw [if_pos h3] at h; omega
      · rw [if_neg h3] at h
        obtain ⟨_, h4, h5⟩ := allD_spec h hd
        have h6 : ∀ m ∈ n.kids, formI m false = d - 1 := fun m hm => h5 _ (List.mem_map.2 ⟨m, hm, rfl⟩)
        have h7 : 2 ≤ d := by
          cases hk : n.kids with
          | nil => rw [hk] at h2; exact absurd rfl h2
          | cons m r =>
            have h8 := h6 m (by rw [hk]; simp)
            rcases Int.lt_or_le d 2 with h9 | h9
            · exfalso
              have e : d - 1 = 0 := by omega
              rw [e] at h8
              rw [formI_def] at h8
              split at h8
              · omega
              · split at h8
                · omega
                · split at h8
                  · omega
                  · obtain ⟨_, h10, _⟩ := allD_spec h8 (Int.le_refl _)
                    omega
            · exact h9
        exact .inr ⟨by omega, by omega, h7, h6⟩
theorem wv_len (ps : List (List Pr)) (ks : List (List UInt8)) (cs : List (List Ver)) : ∀ i, (wv ps ks cs i).length = i + ((List.range i).map fun j => (ps.getD j []).length).sum
  | 0 => rfl
  | i + 1 => by
    rw [wv, List.length_append, List.length_append, wv_len ps ks cs i, List.range_succ, List.map_append, List.sum_append]
    simp
    omega
theorem sum_between {a b : Nat} : ∀ {l : List Nat}, (∀ x ∈ l, a ≤ x ∧ x ≤ b) → l.length * a ≤ l.sum ∧ l.sum ≤ l.length * b
  | [], _ => by simp
  | x :: l, h => by
    have h1 := h x (by simp)
    have h2 := sum_between (a := a) (b := b) (l := l) fun y hy => h y (by simp [hy])
    rw [List.length_cons, List.sum_cons, Nat.add_mul, Nat.add_mul]
    omega
theorem pairs_len (n : Nd) (h : n.kids.length = n.keys.length + 1) : (pairsN n).length = n.keys.length + (n.kids.map fun m => (pairsN m).length).sum := by
  rw [pairsN_def, List.length_append, wv_len, h, Nat.add_sub_cancel]
  have e : ((n.kids.map fun m => (pairsN m).length)) = (List.range (n.keys.length + 1)).map fun j => ((n.kids.map pairsN).getD j []).length := by
    apply List.ext_getElem
    · simp [h]
    · intro i h1 h2
      simp at h1
      simp [List.getElem?_eq_getElem h1]
  rw [e, List.range_succ, List.map_append, List.sum_append]
  simp
  omega
theorem pairs_leaf (n : Nd) (h : n.kids = []) : (pairsN n).length = n.keys.length := by
  rw [pairsN_def, h, List.length_append, wv_len]
  have : ∀ i, ((List.range i).map fun j => ((([] : List Nd).map pairsN).getD j []).length).sum = 0 := by
    intro i
    induction i with
    | zero => rfl
    | succ i ih => rw [List.range_succ, List.map_append, List.sum_append, ih]; simp
  rw [this]
  simp
theorem pairs_bounds : ∀ (d : Nat) {n : Nd} {root : Bool}, formI n root = (d : Int) → 1 ≤ d ∧ (pairsN n).length ≤ 4 ^ d - 1 ∧ (2 ^ d - 1 ≤ (pairsN n).length ∨ (root = true ∧ d = 1 ∧ (pairsN n).length = 0))
  | 0, n, root, h => by
    obtain ⟨_, _, _, h1 | h1⟩ := form_inv h (Int.le_refl _)
    · omega
    · omega
  | d + 1, n, root, h => by
    obtain ⟨hc, hk, hr, h1 | h1⟩ := form_inv h (by omega)
    · obtain ⟨h2, h3⟩ := h1
      have hd : d = 0 := by omega
      subst hd
      rw [pairs_leaf n h2]
      refine ⟨Nat.le_refl _, by simpa using hk, ?_⟩
      cases root with
      | false => have := hr rfl; left; simpa using this
      | true =>
        rcases Nat.eq_zero_or_pos n.keys.length with h4 | h4
        · exact .inr ⟨rfl, rfl, h4⟩
        · left; simp only [Nat.zero_add, Nat.pow_one]; omega
    · obtain ⟨h2, h3, h4, h5⟩ := h1
      rw [pairs_len n h2]
      have hb := sum_between (a := 2 ^ d - 1) (b := 4 ^ d - 1) (l := n.kids.map fun m => (pairsN m).length) (fun x hx => by
        obtain ⟨m, hm, rfl⟩ := List.mem_map.1 hx
        have h6 := h5 m hm
        obtain ⟨h7, h8, h9⟩ := pairs_bounds d (root := false) (h6.trans (by omega))
        refine ⟨?_, h8⟩
        rcases h9 with h9 | ⟨h9, _⟩
        · exact h9
        · cases h9)
      rw [List.length_map, h2] at hb
      have p2 : 0 < 2 ^ d := Nat.pow_pos (by omega)
      have p4 : 0 < 4 ^ d := Nat.pow_pos (by omega)
      have e2 : 2 ^ (d + 1) = 2 * 2 ^ d := by rw [Nat.pow_succ]; omega
      have e4 : 4 ^ (d + 1) = 4 * 4 ^ d := by rw [Nat.pow_succ]; omega
      refine ⟨by omega, ?_, .inl ?_⟩
      · have := Nat.mul_le_mul_right (4 ^ d - 1) (show n.keys.length + 1 ≤ 4 by omega)
        omega
      · have := Nat.mul_le_mul_right (2 ^ d - 1) (show 2 ≤ n.keys.length + 1 by omega)
        omega
theorem weight_pairs : ∀ (N : Nat) {n : Nd} {root : Bool}, wN n ≤ N → 0 ≤ formI n root → wN n ≤ 5 * (pairsN n).length + 1 ∧ (root = false → wN n + 2 ≤ 5 * (pairsN n).length)
  | 0, n, _, h, _ => by have := wN_pos n; omega
  | N + 1, n, root, hN, hd => by
    obtain ⟨hc, hk, hr, h1 | h1⟩ := form_inv rfl hd
    · rw [pairs_leaf n h1.1]
      have hw : wN n = 1 + n.keys.length + n.chains.length := by
        cases n with
        | mk ks cs ns =>
          have : ns = [] := h1.1
          subst this
          simp [wN, wL, Nd.keys, Nd.chains]
      rw [hw, hc]
      refine ⟨by omega, fun h => ?_⟩
      have := hr h
      omega
    · obtain ⟨h2, h3, h4, h5⟩ := h1
      rw [pairs_len n h2]
      have hw : wN n = 1 + n.keys.length + n.chains.length + n.kids.length + wL n.kids := by cases n; rw [wN]; rfl
      have hs : ∀ ns : List Nd, (∀ m ∈ ns, m ∈ n.kids) → wL ns + 2 * ns.length ≤ 5 * (ns.map fun m => (pairsN m).length).sum := by
        intro ns
        induction ns with
        | nil => intro _; simp [wL]
        | cons m r ih =>
          intro hm
          have h6 := ih fun x hx => hm x (by simp [hx])
          have h7 := hm m (by simp)
          have h8 := wN_kid h7
          have h9 := (weight_pairs N (n := m) (root := false) (by omega) (by rw [h5 m h7]; omega)).2 rfl
          rw [wL, List.map_cons, List.sum_cons, List.length_cons]
          omega
      have h6 := hs n.kids fun _ h => h
      rw [hw, hc]
      refine ⟨by omega, fun _ => by omega⟩
end Go.Proofs.Ytdegjkfjaklkjaa
