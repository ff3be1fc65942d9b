/-
  LISTS OF WHATEVER ELEMENTS, over whatever program: how an element lies in cells ('Elt'), what it is that a slice reads as such elements ('RdL'), all that is read lying in blocks of a set S; what keeps a reading; parts of a slice. No condition beyond each theorem's own.
-/
import Derived.WalkKit
import Derived.WalkSpells
import Derived.Test.YtemdcpajcaaphaaByte
namespace Go.Proofs.Ytemdcpajcaaphaa
open Go.RowKit

/-- The value reads as these bytes; its block is one of S. -/
def RdS (S : Nat → Prop) (w : World) (v : Value) (xs : List UInt8) : Prop :=
  (∃ a c, v = .slice a 0 c ∧ c ≤ maxLen ∧ xs = []) ∨
  ∃ b off cap, v = .slice (some ⟨b, off, none⟩) xs.length cap ∧ S b ∧ xs.length ≤ cap ∧ cap ≤ maxLen ∧ ∀ j u, (bv xs)[j]? = some u → w.cell? ⟨b, off + j, none⟩ = some u
theorem Rd.s {B : Nat} {w : World} {v : Value} {xs : List UInt8} (h : Rd B w v xs) : RdS (· < B) w v xs := h
theorem cell_keep {w w' : World} {b : Nat} (h : w'.heap[b]? = w.heap[b]?) (o : Nat) : w'.cell? ⟨b, o, none⟩ = w.cell? ⟨b, o, none⟩ := by simp [World.cell?, h]
theorem cell_lt {w : World} {b o : Nat} {u : Value} (h : w.cell? ⟨b, o, none⟩ = some u) : b < w.heap.size := World.block_lt_of_cell? w _ h
section
variable {S S' : Nat → Prop} {w w' : World} {v : Value} {xs : List UInt8}
theorem RdS.keep (h : RdS S w v xs) (hk : ∀ k, S k → w'.heap[k]? = w.heap[k]?) : RdS S w' v xs := by
  rcases h with h | ⟨b, off, cap, hv, hb, h1, h2, hc⟩
  · exact .inl h
  · exact .inr ⟨b, off, cap, hv, hb, h1, h2, fun j u hj => (cell_keep (hk b hb) _).trans (hc j u hj)⟩
theorem RdS.weak (h : RdS S w v xs) (hs : ∀ k, S k → S' k) : RdS S' w v xs := by
  rcases h with h | ⟨b, off, cap, hv, hb, h1, h2, hc⟩
  · exact .inl h
  · exact .inr ⟨b, off, cap, hv, hs b hb, h1, h2, hc⟩
/-- What is read is there. -/
theorem RdS.fit (h : RdS S w v xs) : RdS (fun k => S k ∧ k < w.heap.size) w v xs := by
  rcases h with h | ⟨b, off, cap, hv, hb, h1, h2, hc⟩
  · exact .inl h
  · by_cases h0 : xs = []
    · subst h0; exact .inl ⟨_, _, hv, h2, rfl⟩
    · have hpos : 0 < xs.length := List.length_pos_iff.2 h0
      exact .inr ⟨b, off, cap, hv, ⟨hb, cell_lt (hc 0 _ (bv_get xs 0 hpos))⟩, h1, h2, hc⟩
theorem RdS.rd (h : RdS S w v xs) : Rd w.heap.size w v xs := h.fit.weak (fun _ h => h.2)
theorem RdS.shape (h : RdS S w v xs) : ∃ a c, v = .slice a xs.length c ∧ xs.length ≤ c ∧ c ≤ maxLen := by
  rcases h with ⟨a, c, rfl, hm, rfl⟩ | ⟨b, off, cap, rfl, _, h1, h2, _⟩
  · exact ⟨a, c, rfl, Nat.zero_le _, hm⟩
  · exact ⟨_, _, rfl, h1, h2⟩
theorem RdS.len {a : Option Addr} {n c : Nat} (h : RdS S w (.slice a n c) xs) : n = xs.length ∧ n ≤ c ∧ c ≤ maxLen := by
  obtain ⟨_, _, e, h1, h2⟩ := h.shape
  cases e
  exact ⟨rfl, h1, h2⟩
theorem RdS.below (h : RdS S w v xs) (hb : Below w.heap.size w w') : RdS S w' v xs :=
  (h.fit.keep fun k hk => hb.block k hk.2).weak (fun _ h => h.1)
theorem RdS.one (h : RdS S w v xs) : v.oneCell' = true := by
  obtain ⟨_, _, rfl, _⟩ := h.shape; rfl
theorem RdS.nil (S : Nat → Prop) (w : World) : RdS S w (.slice none 0 0) [] := .inl ⟨none, 0, rfl, by unfold maxLen; omega, rfl⟩
theorem Own.rdS {E : TypeId} {base : Nat} (h : Own E base w v xs) : RdS (fun k => base ≤ k ∧ k < w.heap.size) w v xs := by
  obtain ⟨n, h⟩ := h
  have hr := Own.rd ⟨n, h⟩
  rcases h.2 with ⟨rfl, h0⟩ | ⟨g, cap, cur, rfl, hb, hg, hn, hc, hcs, ht⟩
  · obtain rfl := own_n h
    exact .inl ⟨none, 0, rfl, by unfold maxLen; omega, List.eq_nil_of_length_eq_zero h0⟩
  · rcases hr with h | ⟨b, off, cap', hv, hb', h1, h2, h3⟩
    · exact .inl h
    · cases hv
      exact .inr ⟨_, _, _, rfl, ⟨hb, hb'⟩, h1, h2, h3⟩
end

/-- How data of a kind lie in cells: how many cells; when cells are such data, all that is read lying in blocks of a set. -/
structure Elt (α : Type) where
  size : Nat
  pos : 0 < size
  R : (Nat → Prop) → World → α → List Value → Prop
  len : ∀ {S w x vs}, R S w x vs → vs.length = size
  keep : ∀ {S w w' x vs}, R S w x vs → (∀ k, S k → w'.heap[k]? = w.heap[k]?) → R S w' x vs
  weak : ∀ {S S' w x vs}, R S w x vs → (∀ k, S k → S' k) → R S' w x vs
  fit : ∀ {S w x vs}, R S w x vs → R (fun k => S k ∧ k < w.heap.size) w x vs
  one : ∀ {S w x vs}, R S w x vs → ∀ u ∈ vs, u.oneCell' = true
section
variable {α : Type} {E : Elt α} {S S' : Nat → Prop} {w w' : World} {v : Value} {xs : List α}
theorem Elt.below {x : α} {vs : List Value} (h : E.R S w x vs) (hb : Below w.heap.size w w') : E.R S w' x vs :=
  E.weak (E.keep (E.fit h) fun k hk => hb.block k hk.2) (fun _ h => h.1)

/-- The value reads as these elements. -/
def RdL (E : Elt α) (S : Nat → Prop) (w : World) (v : Value) (xs : List α) : Prop :=
  ∃ a cap, v = .slice a xs.length cap ∧ xs.length ≤ cap ∧ cap ≤ maxLen ∧ (xs = [] ∨ ∃ b off, a = some ⟨b, off, none⟩ ∧ S b ∧
    ∀ r (h : r < xs.length), ∃ vs, E.R S w xs[r] vs ∧ ∀ j u, vs[j]? = some u → w.cell? ⟨b, off + r * E.size + j, none⟩ = some u)
theorem RdL.nil (E : Elt α) (S : Nat → Prop) (w : World) : RdL E S w (.slice none 0 0) [] := ⟨none, 0, rfl, Nat.le_refl _, by unfold maxLen; omega, .inl rfl⟩
theorem RdL.shape (h : RdL E S w v xs) : ∃ a c, v = .slice a xs.length c ∧ xs.length ≤ c ∧ c ≤ maxLen := let ⟨a, c, h1, h2, h3, _⟩ := h; ⟨a, c, h1, h2, h3⟩
theorem RdL.len {a : Option Addr} {n c : Nat} (h : RdL E S w (.slice a n c) xs) : n = xs.length ∧ n ≤ c ∧ c ≤ maxLen := by
  obtain ⟨_, _, e, h1, h2⟩ := h.shape
  cases e
  exact ⟨rfl, h1, h2⟩
theorem RdL.keep (h : RdL E S w v xs) (hk : ∀ k, S k → w'.heap[k]? = w.heap[k]?) : RdL E S w' v xs := by
  obtain ⟨a, cap, h1, h2, h3, h4⟩ := h
  refine ⟨a, cap, h1, h2, h3, h4.imp id fun ⟨b, off, e, hb, hr⟩ => ⟨b, off, e, hb, fun r h => ?_⟩⟩
  obtain ⟨vs, hR, hc⟩ := hr r h
  exact ⟨vs, E.keep hR hk, fun j u hj => (cell_keep (hk b hb) _).trans (hc j u hj)⟩
theorem RdL.weak (h : RdL E S w v xs) (hs : ∀ k, S k → S' k) : RdL E S' w v xs := by
  obtain ⟨a, cap, h1, h2, h3, h4⟩ := h
  refine ⟨a, cap, h1, h2, h3, h4.imp id fun ⟨b, off, e, hb, hr⟩ => ⟨b, off, e, hs b hb, fun r h => ?_⟩⟩
  obtain ⟨vs, hR, hc⟩ := hr r h
  exact ⟨vs, E.weak hR hs, hc⟩
theorem RdL.fit (h : RdL E S w v xs) : RdL E (fun k => S k ∧ k < w.heap.size) w v xs := by
  obtain ⟨a, cap, h1, h2, h3, h4⟩ := h
  by_cases h0 : xs = []
  · exact ⟨a, cap, h1, h2, h3, .inl h0⟩
  obtain ⟨b, off, e, hb, hr⟩ := h4.resolve_left h0
  have hpos : 0 < xs.length := List.length_pos_iff.2 h0
  have hlt : b < w.heap.size := by
    obtain ⟨vs, hR, hc⟩ := hr 0 hpos
    have hl := E.len hR
    have hp := E.pos
    exact cell_lt (hc 0 vs[0] (List.getElem?_eq_getElem (by omega)))
  refine ⟨a, cap, h1, h2, h3, .inr ⟨b, off, e, ⟨hb, hlt⟩, fun r h => ?_⟩⟩
  obtain ⟨vs, hR, hc⟩ := hr r h
  exact ⟨vs, E.fit hR, hc⟩
theorem RdL.below (h : RdL E S w v xs) (hb : Below w.heap.size w w') : RdL E S w' v xs := (h.fit.keep fun k hk => hb.block k hk.2).weak (fun _ h => h.1)
/-- An element's cells. -/
theorem RdL.at {a : Option Addr} {n c : Nat} (h : RdL E S w (.slice a n c) xs) (r : Nat) (hr : r < xs.length) :
    ∃ b off vs, a = some ⟨b, off, none⟩ ∧ S b ∧ E.R S w xs[r] vs ∧ ∀ j u, vs[j]? = some u → w.cell? ⟨b, off + r * E.size + j, none⟩ = some u := by
  obtain ⟨a', cap, h1, h2, h3, h4⟩ := h
  cases h1
  rcases h4 with rfl | ⟨b, off, e, hb, hq⟩
  · exact absurd hr (Nat.not_lt_zero _)
  · obtain ⟨vs, hR, hc⟩ := hq r hr
    exact ⟨b, off, vs, e, hb, hR, hc⟩
/-- A part of it: from the l-th element on, as many as there are up to the h-th. -/
theorem RdL.part {a : Option Addr} {n c : Nat} (h : RdL E S w (.slice a n c) xs) {l r : Nat} (hl : l ≤ r) (hr : r ≤ xs.length) :
    RdL E S w (.slice (if c = l then a else a.map (·.add (l * E.size))) (r - l) (c - l)) ((xs.drop l).take (r - l)) := by
  obtain ⟨a', cap, h1, h2, h3, h4⟩ := h
  cases h1
  have hlen : ((xs.drop l).take (r - l)).length = r - l := by simp; omega
  refine ⟨_, _, by rw [hlen], by omega, by omega, ?_⟩
  by_cases h0 : r = l
  · exact .inl (by subst h0; simp)
  rcases h4 with rfl | ⟨b, off, rfl, hb, hq⟩
  · simp at hr; omega
  · refine .inr ⟨b, off + l * E.size, ?_, hb, fun i hi => ?_⟩
    · rw [if_neg (by omega)]
      simp [Addr.add_lit]
    · rw [hlen] at hi
      obtain ⟨vs, hR, hc⟩ := hq (l + i) (by omega)
      refine ⟨vs, by simpa using hR, fun j u hj => ?_⟩
      have := hc j u hj
      rw [show off + l * E.size + i * E.size + j = off + (l + i) * E.size + j by rw [Nat.add_mul]; omega]
      exact this
end

/-- Lists as elements: one cell each. -/
def Elt.list {α : Type} (E : Elt α) : Elt (List α) where
  size := 1
  pos := Nat.one_pos
  R S w xs vs := ∃ v, vs = [v] ∧ RdL E S w v xs
  len := by rintro _ _ _ _ ⟨_, rfl, _⟩; rfl
  keep := by rintro _ _ _ _ _ ⟨v, rfl, h⟩ hk; exact ⟨v, rfl, h.keep hk⟩
  weak := by rintro _ _ _ _ _ ⟨v, rfl, h⟩ hk; exact ⟨v, rfl, h.weak hk⟩
  fit := by rintro _ _ _ _ ⟨v, rfl, h⟩; exact ⟨v, rfl, h.fit⟩
  one := by
    rintro _ _ _ _ ⟨v, rfl, h⟩ u hu
    obtain rfl : u = v := by simpa using hu
    obtain ⟨_, _, rfl, _⟩ := h.shape
    rfl
/-- Bytes as elements: a slice's one cell. -/
def Elt.bytes : Elt (List UInt8) where
  size := 1
  pos := Nat.one_pos
  R S w xs vs := ∃ v, vs = [v] ∧ RdS S w v xs
  len := by rintro _ _ _ _ ⟨_, rfl, _⟩; rfl
  keep := by rintro _ _ _ _ _ ⟨v, rfl, h⟩ hk; exact ⟨v, rfl, h.keep hk⟩
  weak := by rintro _ _ _ _ _ ⟨v, rfl, h⟩ hk; exact ⟨v, rfl, h.weak hk⟩
  fit := by rintro _ _ _ _ ⟨v, rfl, h⟩; exact ⟨v, rfl, h.fit⟩
  one := by
    rintro _ _ _ _ ⟨v, rfl, h⟩ u hu
    obtain rfl : u = v := by simpa using hu
    exact h.one

section
variable {α : Type} {E : Elt α} {P : Program} {T Te : TypeId} {ops : Array Oper} {rest : List Oper} {o : Oper} {a : Act} {Q : Exit → Act → World → Prop} {w : World} {K : Act → World → Prop}
/-- What a program must have: the type of slices of these elements. -/
structure LsP (P : Program) (T Te : TypeId) (n : Nat) : Prop where
  hT : P.underlying T = some (.slice Te)
  hn : (P.info? Te).map (·.size) = some n
theorem LsP.info {n : Nat} (h : LsP P T Te n) : ∃ i, P.info? Te = some i ∧ i.size = n := by
  have := h.hn
  cases hi : P.info? Te with
  | none => simp [hi] at this
  | some i => simp [hi] at this; exact ⟨i, rfl, this⟩
theorem run_sliceL {n : Nat} (hP : LsP P T Te n) {ad : Option Addr} {len c l r : Nat} {lo hi : Option Value} (hb : (Instr.sliceBounds true len c lo hi none).run P w = .ok (l, r, c) w) :
    (Instr.sliceAt T (.slice ad len c) lo hi none).run P w = .ok (.slice (if c = l then ad else ad.map (·.add (l * n))) (r - l) (c - l)) w := by
  obtain ⟨i, hi', hsz⟩ := hP.info
  simp [Instr.sliceAt, Instr.slice, run_underlying hP.hT, hb, sizeOf, typeInfo, hi', hsz]
/-- 'x[lo:hi]' of whatever elements. -/
theorem wpList_sliceL (hP : LsP P T Te E.size) {x : Operand} {lo hi : Option Operand} (ho : o.op = .slice T x lo hi none) (hgd : Region.wanted o (yielded ops a.tmps) = true) {S : Nat → Prop} {ad : Option Addr} {n c : Nat} {xs : List α} (hx : a.eval x = .slice ad n c) (hr : RdL E S w (.slice ad n c) xs)
    {l r : Nat} (hb : (Instr.sliceBounds true n c (lo.map a.eval) (hi.map a.eval) none).run P w = .ok (l, r, c) w)
    (h : ∀ ad' c', RdL E S w (.slice ad' (r - l) c') ((xs.drop l).take (r - l)) → wpList P ops Q rest (a.put o.dst (.slice ad' (r - l) c')) w) (hl : l ≤ r) (hrn : r ≤ xs.length) : wpList P ops Q (o :: rest) a w := by
  refine BigFrame.wpList_want hgd fun K hK => ?_
  unfold Oper.wp execOp
  simp only [ho, hx, Option.map_none, Sem.run_bind, Sem.run_pure, Result.andThen_ok, run_sliceL hP hb]
  exact hK _ _ (h _ _ (hr.part hl hrn))
theorem wp_sliceL (hP : LsP P T Te E.size) {x : Operand} {lo hi : Option Operand} (ho : o.op = .slice T x lo hi none) {S : Nat → Prop} {ad : Option Addr} {n c : Nat} {xs : List α} (hx : a.eval x = .slice ad n c) (hr : RdL E S w (.slice ad n c) xs)
    {l r : Nat} {lov hiv : Option Value} (hlo : lo.map a.eval = lov) (hhi : hi.map a.eval = hiv) (hb : (Instr.sliceBounds true n c lov hiv none).run P w = .ok (l, r, c) w)
    (h : ∀ ad' c', RdL E S w (.slice ad' (r - l) c') ((xs.drop l).take (r - l)) → K (a.put o.dst (.slice ad' (r - l) c')) w) (hl : l ≤ r) (hrn : r ≤ xs.length) : o.wp P a w K Q := by
  subst hlo; subst hhi
  unfold Oper.wp execOp
  simp only [ho, hx, Option.map_none, Sem.run_bind, Sem.run_pure, Result.andThen_ok, run_sliceL hP hb]
  exact h _ _ (hr.part hl hrn)
end
end Go.Proofs.Ytemdcpajcaaphaa
