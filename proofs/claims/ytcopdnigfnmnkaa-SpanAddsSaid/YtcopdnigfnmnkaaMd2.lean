/-
  TEXTS OF ONE PROOF, merged: Kept, Sink, Line, Ope, Cpy, Tri, Box, Apv, Zro.
-/
import Derived.BigFrame
import Derived.ChangeAlike
import Derived.ChangeSame
import Derived.ChangeSlices
import Derived.Deep.Matrix
import Derived.Deep.Slices
import Derived.Deep.Strs
import Derived.Laws.CopyRow
import Derived.Laws.Tables
import Derived.Lib.Hide
import Derived.ProofKit
import Derived.RegionTactic
import Derived.Test.YtcopdnigfnmnkaaMd1
namespace Go.Proofs.Ytcopdnigfnmnkaa
open Go.RowKit
def NotU8 (v : Value) : Prop := ∀ i, v ≠ .int .u8 i
def IsBox (w : World) (t : TypeId) (b : Nat) : Prop := ∃ x y, w.heap[b]? = some (.cells #[x, y] t (0, 0)) ∧ NotU8 x ∧ NotU8 y
def BoxK (ok : Nat → Prop) (t : TypeId) (A B : World) : Prop := A = B ∨ ∃ b, ok b ∧ A.grownBy B (some b) ∧ IsBox A t b ∧ IsBox B t b
section
variable {P : Program} {Q : Exit → Act → World → Prop}
def kk (ok : Nat → Prop) (t : TypeId) (m : Nat) (i : Nat) (A B : World) : Prop := if i = m then BoxK ok t A B else Below A.heap.size A B
end
section
variable {P : Program} {t : TypeId} {x0 y0 : Value} {o : Oper} {a : Act} {K : Act → World → Prop} {Q : Exit → Act → World → Prop} {w : World}
theorem run_sizeOf {ty : TypeId} {n : Nat} (h : (P.info? ty).map (·.size) = some n) (w : World) : (sizeOf ty).run P w = .ok n w := by
  cases hi : P.info? ty with
  | none => simp [hi] at h
  | some i => simp [hi] at h; simp [sizeOf, typeInfo, hi, h]
theorem wp_skip {w2 : World} (hrun : (execOp a.eval o).run P w = .ok .skip w2) (h : K (a.put o.dst undef) w2) : o.wp P a w K Q := by
  unfold Oper.wp
  rw [hrun]
  exact h
end
end Go.Proofs.Ytcopdnigfnmnkaa
namespace Go.Proofs.Ytcopdnigfnmnkaa
open Go.RowKit
theorem grown_trans {A B C : World} {r : Option Nat} (h : A.grownBy B r) (k : B.grownBy C r) : A.grownBy C r :=
  ⟨k.os.trans h.os, k.tape.trans h.tape, k.output.trans h.output, Nat.le_trans h.size k.size, fun i hi hn => (k.block i (Nat.lt_of_lt_of_le hi h.size) hn).trans (h.block i hi hn)⟩
theorem grown_below' {A B : World} (h : Below A.heap.size A B) (r : Option Nat) : A.grownBy B r := ⟨h.os, h.tape, h.output, h.size, fun k hk _ => h.block k hk⟩
theorem grown_below2 {A B : World} {n : Nat} (h : Below n A B) (hn : n = A.heap.size) (r : Option Nat) : A.grownBy B r := by subst hn; exact grown_below' h r
end Go.Proofs.Ytcopdnigfnmnkaa
namespace Go.Proofs.Ytcopdnigfnmnkaa
open Go.RowKit
def hangs (ops : Array Oper) (j i : Nat) : Bool := (ops[j]?).any fun o => o.after.any fun e => e.on == i && Region.binds .any e
theorem hangs_get {ops : Array Oper} {j i : Nat} (h : hangs ops j i = true) : ∃ o, ops[j]? = some o ∧ ∃ e ∈ o.after, e.on = i ∧ Region.binds .any e = true := by
  unfold hangs at h
  cases ho : ops[j]? with
  | none => rw [ho] at h; simp at h
  | some o =>
    rw [ho] at h
    simp only [Option.any_some, Array.any_eq_true', Bool.and_eq_true, beq_iff_eq] at h
    exact ⟨o, rfl, h⟩
def incB : List Nat → Bool
  | [] => true
  | [_] => true
  | c :: d :: r => decide (c < d) && incB (d :: r)
theorem inc_head : ∀ {r : List Nat} {c q d : Nat}, incB (c :: r) = true → r[q]? = some d → c < d
  | [], _, _, _, _, h => by simp at h
  | x :: r, c, 0, d, h, h2 => by
    simp only [incB, Bool.and_eq_true, decide_eq_true_eq] at h
    obtain rfl : x = d := by simpa using h2
    exact h.1
  | x :: r, c, q + 1, d, h, h2 => by
    simp only [incB, Bool.and_eq_true, decide_eq_true_eq] at h
    exact Nat.lt_trans h.1 (inc_head h.2 (by simpa using h2))
theorem inc_lt : ∀ {l : List Nat} {p q c d : Nat}, incB l = true → l[p]? = some c → l[q]? = some d → p < q → c < d
  | [], _, _, _, _, _, h, _, _ => by simp at h
  | x :: r, 0, q + 1, c, d, h, h1, h2, _ => by
    obtain rfl : x = c := by simpa using h1
    exact inc_head h (by simpa using h2)
  | x :: r, p + 1, q + 1, c, d, h, h1, h2, h3 => by
    have h' : incB r = true := by
      cases r with
      | nil => rfl
      | cons y r => simp only [incB, Bool.and_eq_true] at h; exact h.2
    exact inc_lt h' (by simpa using h1) (by simpa using h2) (by omega)
  | _, _, 0, _, _, _, _, _, h => absurd h (Nat.not_lt_zero _)
theorem inc_ix {l : List Nat} {p q c : Nat} (h : incB l = true) (h1 : l[p]? = some c) (h2 : l[q]? = some c) : p = q := by
  rcases Nat.lt_trichotomy p q with h3 | h3 | h3
  · exact absurd (inc_lt h h1 h2 h3) (Nat.lt_irrefl _)
  · exact h3
  · exact absurd (inc_lt h h2 h1 h3) (Nat.lt_irrefl _)
def lineB (ops : Array Oper) (ch : List Nat) : Bool :=
  (ch.all fun c => decide (c < ops.size)) && incB ch && (List.range ch.length).all fun p => p == 0 || hangs ops (ch.getD p 0) (ch.getD (p - 1) 0)
theorem line_lt {ops : Array Oper} {ch : List Nat} (h : lineB ops ch = true) {p c : Nat} (hp : ch[p]? = some c) : c < ops.size := by
  simp only [lineB, Bool.and_eq_true, List.all_eq_true, decide_eq_true_eq] at h
  exact h.1.1 c (List.mem_of_getElem? hp)
theorem line_hangs {ops : Array Oper} {ch : List Nat} (h : lineB ops ch = true) {p c d : Nat} (hp : ch[p + 1]? = some d) (hc : ch[p]? = some c) : hangs ops d c = true := by
  simp only [lineB, Bool.and_eq_true, List.all_eq_true, List.mem_range, Bool.or_eq_true, beq_iff_eq] at h
  have := (h.2 (p + 1) (List.getElem?_eq_some_iff.1 hp).1).resolve_left (by omega)
  rwa [List.getD_eq_getElem?_getD, hp, List.getD_eq_getElem?_getD, Nat.add_sub_cancel, hc] at this
section
variable {P : Program} {Q : Exit → Act → World → Prop}
def LineOp (P : Program) (Q : Exit → Act → World → Prop) (ops : Array Oper) (a : Act) (ch : List Nat) (G : Nat → World → Value → Prop) (J : List Value → World → Prop) (K : World → World → Prop) (p : Nat) (o : Oper) : Prop :=
  ∀ (A : Act) (vs : Nat → Value) (w' : World), (∀ t, slotIx ops.toList 0 t = none → A.eval (.tmp t) = a.eval (.tmp t)) → (∀ t j, t < a.tmps.size → slotIx ops.toList 0 t = some j → A.eval (.tmp t) = vs j) → J ((ch.take p).map vs) w' →
    (∀ q j d, p ≤ q → ch[q]? = some j → (ops[j]?).bind (·.dst) = some d → vs j = a.eval (.tmp d)) → (∀ e ∈ o.after, Region.binds .any e = true → ch.contains e.on = false → G e.on w' (vs e.on)) →
    o.wp P A w' (fun a2 w2 => ∃ v, a2 = A.put o.dst v ∧ J ((ch.take p).map vs ++ [v]) w2 ∧ K w' w2) Q
def SideOp (P : Program) (Q : Exit → Act → World → Prop) (ops : Array Oper) (a : Act) (ch : List Nat) (G : Nat → World → Value → Prop) (J : List Value → World → Prop) (i : Nat) (o : Oper) : Prop :=
  ∀ (A : Act) (vs : Nat → Value) (w' : World) (k : Nat), (∀ t, slotIx ops.toList 0 t = none → A.eval (.tmp t) = a.eval (.tmp t)) → (∀ t j, t < a.tmps.size → slotIx ops.toList 0 t = some j → A.eval (.tmp t) = vs j) → k ≤ ch.length → J ((ch.take k).map vs) w' →
    (∀ p c, ch[p]? = some c → hangs ops c i = true → k ≤ p) → (∀ q j d, k ≤ q → ch[q]? = some j → (ops[j]?).bind (·.dst) = some d → vs j = a.eval (.tmp d)) →
    (∀ e ∈ o.after, Region.binds .any e = true → ∀ p, ch[p]? = some e.on → p < k) → (∀ e ∈ o.after, Region.binds .any e = true → ch.contains e.on = false → G e.on w' (vs e.on)) →
    o.wp P A w' (fun a2 w2 => ∃ v, a2 = A.put o.dst v ∧ G i w2 v ∧ Below w'.heap.size w' w2) Q
def LnOp (P : Program) (Q : Exit → Act → World → Prop) (ops : Array Oper) (a : Act) (ch : List Nat) (G : Nat → World → Value → Prop) (J : List Value → World → Prop) (K : World → World → Prop) (i : Nat) (o : Oper) : Prop :=
  o.guard = none ∧ ((∃ p, ch[p]? = some i ∧ LineOp P Q ops a ch G J K p o) ∨ (ch.contains i = false ∧ SideOp P Q ops a ch G J i o))
theorem LnOp.line {ops : Array Oper} {a : Act} {ch : List Nat} {G : Nat → World → Value → Prop} {J : List Value → World → Prop} {K : World → World → Prop} {i : Nat} {o : Oper} (p : Nat) (hg : o.guard = none) (hp : ch[p]? = some i) (h : LineOp P Q ops a ch G J K p o) : LnOp P Q ops a ch G J K i o := ⟨hg, .inl ⟨p, hp, h⟩⟩
theorem LnOp.side {ops : Array Oper} {a : Act} {ch : List Nat} {G : Nat → World → Value → Prop} {J : List Value → World → Prop} {K : World → World → Prop} {i : Nat} {o : Oper} (hg : o.guard = none) (hp : ch.contains i = false) (h : SideOp P Q ops a ch G J i o) : LnOp P Q ops a ch G J K i o := ⟨hg, .inr ⟨hp, h⟩⟩
def LnAll (P : Program) (Q : Exit → Act → World → Prop) (ops : Array Oper) (a : Act) (ch : List Nat) (G : Nat → World → Value → Prop) (J : List Value → World → Prop) (K : World → World → Prop) : Nat → List Oper → Prop
  | _, [] => True
  | i, o :: rest => LnOp P Q ops a ch G J K i o ∧ LnAll P Q ops a ch G J K (i + 1) rest
theorem LnAll.get {ops : Array Oper} {a : Act} {ch : List Nat} {G : Nat → World → Value → Prop} {J : List Value → World → Prop} {K : World → World → Prop} : ∀ (l : List Oper) (k j : Nat) (o : Oper), LnAll P Q ops a ch G J K k l → l[j]? = some o → LnOp P Q ops a ch G J K (k + j) o
  | [], _, _, _, _, h => by simp at h
  | o' :: rest, k, 0, o, h, hj => by obtain rfl : o' = o := by simpa using hj
                                     exact h.1
  | o' :: rest, k, j + 1, o, h, hj => by rw [show k + (j + 1) = k + 1 + j by omega]; exact LnAll.get rest (k + 1) j o h.2 (by simpa using hj)
theorem map_upd_out {l : List Nat} {vs : Nat → Value} {i : Nat} {v : Value} (h : i ∉ l) : l.map (upd vs i v) = l.map vs := by
  refine List.map_congr_left fun j hj => ?_
  have : j ≠ i := fun e => h (by rw [← e]; exact hj)
  simp [upd, this]
theorem wp_region_line {id : Nat} {ops : Array Oper} {a : Act} {w : World} (hm : P.follows .mixedOrders = true) (hs : gdB ops = true) (ch : List Nat) (hch : lineB ops ch = true) (G : Nat → World → Value → Prop) (J : List Value → World → Prop) (K : World → World → Prop)
    (hG : ∀ i w v w', G i w v → Below w.heap.size w w' → G i w' v) (hK : ∀ i w v w', G i w v → K w w' → G i w' v) (hJ : ∀ l w w', J l w → Below w.heap.size w w' → J l w') (h0 : J [] w)
    (hop : LnAll P Q ops a ch G J K 0 ops.toList)
    (hend : ∀ (vs : Nat → Value) (w' : World), J (ch.map vs) w' → (∀ i, i < ops.size → ch.contains i = false → G i w' (vs i)) → Q .normal (putAll a ops.toList vs 0) w') : (Code.region id ops true).wp P Q a w := by
  refine wp_region_any hm ?_
  have hnd : (ops.toList.filterMap (·.dst)).Nodup := by simp only [gdB, slotsB, Bool.and_eq_true, decide_eq_true_eq] at hs; exact hs.2
  have hinc : incB ch = true := by simp only [lineB, Bool.and_eq_true] at hch; exact hch.1.2
  have main : ∀ (fuel : Nat) (listed : Array Bool) (vs : Nat → Value) (w' : World) (k : Nat), listed.size = ops.size → (unlisted ops.size listed).length ≤ fuel → k ≤ ch.length → (∀ p c, ch[p]? = some c → (listed.getD c true = true ↔ p < k)) → J ((ch.take k).map vs) w' →
      (∀ i, i < ops.size → listed.getD i true = true → ch.contains i = false → G i w' (vs i)) → (∀ i o, ops[i]? = some o → listed.getD i true = true → ∀ e ∈ o.after, Region.binds .any e = true → e.on < ops.size ∧ listed.getD e.on true = true) → (∀ j, j < ops.size → listed.getD j true = false → ∀ d, (ops[j]?).bind (·.dst) = some d → vs j = a.eval (.tmp d)) → wpAny P .any ops Q fuel listed (putAll a ops.toList vs 0) w' := by
    intro fuel
    have fin : ∀ (listed : Array Bool) (vs : Nat → Value) (w' : World) (k : Nat), k ≤ ch.length → (∀ p c, ch[p]? = some c → (listed.getD c true = true ↔ p < k)) → J ((ch.take k).map vs) w' →
        (∀ i, i < ops.size → listed.getD i true = true → ch.contains i = false → G i w' (vs i)) → (∀ i, i < ops.size → listed.getD i true = true) → Q .normal (putAll a ops.toList vs 0) w' := by
      intro listed vs w' k hk hlk hJ' hG' hall
      have : k = ch.length := by
        rcases Nat.lt_or_ge k ch.length with h | h
        · have h1 := List.getElem?_eq_getElem h
          have h2 := (hlk k _ h1).1 (hall _ (line_lt hch h1))
          omega
        · omega
      subst this
      rw [List.take_length] at hJ'
      exact hend vs w' hJ' fun i hi hc => hG' i hi (hall i hi) hc
    induction fuel with
    | zero =>
      intro listed vs w' k hsz hu hk hlk hJ' hG' hcl hun
      have hall : ∀ i, i < ops.size → listed.getD i true = true := by
        intro i hi
        cases hl : listed.getD i true with
        | true => rfl
        | false =>
          have : i ∈ unlisted ops.size listed := List.mem_filter.2 ⟨List.mem_range.2 hi, by simp [hl]⟩
          rw [List.eq_nil_of_length_eq_zero (Nat.le_zero.1 hu)] at this
          cases this
      refine ⟨?_, fin listed vs w' k hk hlk hJ' hG' hall⟩
      unfold Region.ready
      rw [List.filter_eq_nil_iff]
      intro i hi
      simp [hall i (List.mem_range.1 hi)]
    | succ fuel ih =>
      intro listed vs w' k hsz hu hk hlk hJ' hG' hcl hun
      refine ⟨fun hr => fin listed vs w' k hk hlk hJ' hG' (fun i hi => all_listed_gd hs hr i hi), fun i hi => ?_⟩
      unfold Region.ready at hi
      obtain ⟨hi1, hi2⟩ := List.mem_filter.1 hi
      have hlt := List.mem_range.1 hi1
      rw [Bool.and_eq_true] at hi2
      obtain ⟨hl, hdep⟩ := hi2
      have hl' : listed.getD i true = false := by simpa using hl
      obtain ⟨o, ho⟩ : ∃ o, ops[i]? = some o := ⟨_, Array.getElem?_eq_getElem hlt⟩
      rw [ho] at hdep
      simp only [Option.map_some, Option.getD_some] at hdep
      rw [Array.all_eq_true'] at hdep
      have hgop := LnAll.get ops.toList 0 i o hop (by rw [Array.getElem?_toList]; exact ho)
      rw [Nat.zero_add] at hgop
      have hdepG : ∀ e ∈ o.after, Region.binds .any e = true → e.on < ops.size ∧ listed.getD e.on true = true := by
        intro e he hbn
        have h := hdep e he
        rw [hbn] at h
        simp only [Bool.not_true, Bool.false_or] at h
        have hin : e.on < listed.size := by
          rcases Nat.lt_or_ge e.on listed.size with h' | h'
          · exact h'
          · simp [Array.getD_eq_getD_getElem?, Array.getElem?_eq_none_iff.2 h'] at h
        have hl2 : listed.getD e.on true = true := by
          simp only [Array.getD_eq_getD_getElem?, Array.getElem?_eq_getElem hin, Option.getD_some] at h ⊢
          exact h
        exact ⟨by omega, hl2⟩
      have hdepS : ∀ e ∈ o.after, Region.binds .any e = true → ch.contains e.on = false → G e.on w' (vs e.on) := fun e he hbn hc => hG' e.on (hdepG e he hbn).1 (hdepG e he hbn).2 hc
      have hlate : ∀ q j d, k ≤ q → ch[q]? = some j → (ops[j]?).bind (·.dst) = some d → vs j = a.eval (.tmp d) := by
        intro q j d hq hj hd
        refine hun j (line_lt hch hj) ?_ d hd
        cases hlj : listed.getD j true with
        | false => rfl
        | true => have := (hlk q j hj).1 hlj; omega
      have step : ∀ (v : Value) (w2 : World) (k2 : Nat), k2 ≤ ch.length → (∀ p c, ch[p]? = some c → ((c = i ∨ p < k) ↔ p < k2)) → J ((ch.take k2).map (upd vs i v)) w2 → (ch.contains i = false → G i w2 v) → (∀ j u, ch.contains j = false → G j w' u → G j w2 u) → wpAny P .any ops Q fuel (listed.setIfInBounds i true) ((putAll a ops.toList vs 0).put o.dst v) w2 := by
        intro v w2 k2 hk2 hlk2 hJ2 hGi hGs
        rw [putAll_put ops.toList a vs 0 i o v hnd (by rw [Array.getElem?_toList]; exact ho), Nat.zero_add]
        have hset : ∀ j, (listed.setIfInBounds i true).getD j true = true ↔ j = i ∨ listed.getD j true = true := fun j => by
          by_cases hji : j = i
          · subst hji
            simp [Array.getD_eq_getD_getElem?, Array.getElem?_setIfInBounds_self_of_lt (by omega : j < listed.size)]
          · simp [Array.getD_eq_getD_getElem?, Array.getElem?_setIfInBounds_ne (Ne.symm hji), hji]
        refine ih _ _ _ k2 (by simp [hsz]) (by have := unlisted_set hsz hlt hl'; omega) hk2 (fun p c hp => ?_) hJ2 (fun j hj hlj hc => ?_) (fun j oj hoj hlj e he hbn => ?_) (fun j hj hlj d hd => ?_)
        · rw [hset, ← hlk2 p c hp, hlk p c hp]
        · by_cases hji : j = i
          · subst hji
            simpa [upd] using hGi hc
          · have hlj' := ((hset j).1 hlj).resolve_left hji
            have hv : upd vs i v j = vs j := by simp [upd, hji]
            rw [hv]
            exact hGs j _ hc (hG' j hj hlj' hc)
        · by_cases hji : j = i
          · subst hji
            obtain rfl : o = oj := by rw [ho] at hoj; injection hoj
            have := hdepG e he hbn
            exact ⟨this.1, (hset _).2 (.inr this.2)⟩
          · have hlj' := ((hset j).1 hlj).resolve_left hji
            have := hcl j oj hoj hlj' e he hbn
            exact ⟨this.1, (hset _).2 (.inr this.2)⟩
        · have hji : j ≠ i := fun e => by
            have := (hset j).2 (.inl e)
            rw [hlj] at this; cases this
          have hv : upd vs i v j = vs j := by simp [upd, hji]
          rw [hv]
          refine hun j hj ?_ d hd
          cases h : listed.getD j true with
          | false => rfl
          | true => have := (hset j).2 (.inr h); rw [hlj] at this; cases this
      unfold wpOp
      simp only [ho, Region.wanted, hgop.1, if_true]
      left
      rcases hgop.2 with ⟨p, hp, hln⟩ | ⟨hc, hsd⟩
      · have hkp : k = p := by
          have h1 : ¬ p < k := fun h => by have := (hlk p i hp).2 h; rw [hl'] at this; cases this
          cases p with
          | zero => omega
          | succ p =>
            obtain ⟨c, hcp⟩ : ∃ c, ch[p]? = some c := ⟨_, List.getElem?_eq_getElem (by have := (List.getElem?_eq_some_iff.1 hp).1; omega)⟩
            obtain ⟨o2, ho2, e, he, rfl, hbn⟩ := hangs_get (line_hangs hch hp hcp)
            obtain rfl : o = o2 := by rw [ho] at ho2; injection ho2
            have := (hlk p _ hcp).1 (hdepG e he hbn).2
            omega
        subst hkp
        have hkl := (List.getElem?_eq_some_iff.1 hp).1
        have hwp := hln (putAll a ops.toList vs 0) vs w' (fun t h => eval_putAll_out _ _ _ _ _ h) (fun t j ht h => eval_putAll_in _ _ _ _ _ _ hnd ht h) hJ' hlate hdepS
        refine Oper.wp_mono ?_ hwp
        rintro a2 w2 ⟨v, rfl, hJ2, hK2⟩
        refine step v w2 (k + 1) hkl (fun p c hpc => ?_) ?_ (fun hc => ?_) (fun j u _ hg => hK j w' u w2 hg hK2)
        · constructor
          · rintro (rfl | h)
            · have := inc_ix hinc hpc hp; omega
            · omega
          · intro h
            by_cases h3 : p = k
            · subst h3
              rw [hp] at hpc
              injection hpc with hpc
              exact .inl hpc.symm
            · exact .inr (by omega)
        · have e1 : ch.take (k + 1) = ch.take k ++ [i] := by
            rw [List.take_add_one, hp]; rfl
          have e2 : i ∉ ch.take k := fun hmem => by
            obtain ⟨q, hq⟩ := List.mem_iff_getElem?.1 hmem
            rw [List.getElem?_take] at hq
            split at hq
            · have := inc_ix hinc hq hp; omega
            · cases hq
          rw [e1, List.map_append, map_upd_out e2]
          simpa [upd] using hJ2
        · rw [List.contains_iff_mem.2 (List.mem_of_getElem? hp)] at hc
          cases hc
      · have hci : i ∉ ch := fun h => by rw [List.contains_iff_mem.2 h] at hc; cases hc
        have hwp := hsd (putAll a ops.toList vs 0) vs w' k (fun t h => eval_putAll_out _ _ _ _ _ h) (fun t j ht h => eval_putAll_in _ _ _ _ _ _ hnd ht h) hk hJ' (fun p c hpc hh => ?_) hlate (fun e he hbn p hp => (hlk p e.on hp).1 (hdepG e he hbn).2) hdepS
        · refine Oper.wp_mono ?_ hwp
          rintro a2 w2 ⟨v, rfl, hg, hb2⟩
          refine step v w2 k hk (fun p c hpc => ⟨fun h => ?_, .inr⟩) ?_ (fun _ => hg) (fun j u _ hgj => hG j w' u w2 hgj hb2)
          · rcases h with rfl | h
            · exact absurd (List.mem_of_getElem? hpc) hci
            · exact h
          · rw [map_upd_out (fun hmem => hci (List.mem_of_mem_take hmem))]
            exact hJ _ _ _ hJ' hb2
        · rcases Nat.lt_or_ge p k with h | h
          · exfalso
            obtain ⟨o2, ho2, e, he, hei, hbn⟩ := hangs_get hh
            have := (hcl c o2 ho2 ((hlk p c hpc).2 h) e he hbn).2
            rw [hei, hl'] at this
            cases this
          · exact h
  have hbz : Below w.heap.size w { w with drawn := w.drawn + 1 } := ⟨rfl, rfl, rfl, Nat.le_refl _, fun _ _ => rfl⟩
  have h1 := main ops.size (Array.replicate ops.size false) (fun i => ((ops[i]?).bind (·.dst)).elim undef (fun d => a.tmps.getD d undef)) { w with drawn := w.drawn + 1 } 0 (by simp)
    (by have := List.length_filter_le (fun i => !(Array.replicate ops.size false).getD i true) (List.range ops.size); simpa [unlisted] using this) (Nat.zero_le _)
    (fun p c hp => by have := line_lt hch hp; simp [Array.getD_eq_getD_getElem?, this]) (hJ _ _ _ h0 hbz)
    (fun i hi h => by simp [Array.getD_eq_getD_getElem?, hi] at h) (fun i o ho h => by
      have : i < ops.size := (Array.getElem?_eq_some_iff.1 ho).1
      simp [Array.getD_eq_getD_getElem?, this] at h)
    (fun j hj _ d hd => by simp only [hd, Option.elim]; rfl)
  rw [putAll_orig ops.toList a _ 0 (fun j o d hj hd => by
    rw [Array.getElem?_toList] at hj
    simp [hj, hd])] at h1
  exact h1
end
abbrev SGn (K : World → World → Prop) := { G : World → Value → Prop // (∀ w v w', G w v → Below w.heap.size w w' → G w' v) ∧ (∀ w v w', G w v → K w w' → G w' v) }
section
variable {K : World → World → Prop}
def lEq (u : Value) : SGn K := ⟨fun _ v => v = u, fun _ _ _ h _ => h, fun _ _ _ h _ => h⟩
def lAny : SGn K := ⟨fun _ _ => True, fun _ _ _ h _ => h, fun _ _ _ h _ => h⟩
variable {P : Program} {Q : Exit → Act → World → Prop}
theorem wp_region_lnl {id : Nat} {ops : Array Oper} {a : Act} {w : World} (hm : P.follows .mixedOrders = true) (hs : gdB ops = true) (ch : List Nat) (hch : lineB ops ch = true) (Gs : List (SGn K)) (J : List Value → World → Prop)
    (hJ : ∀ l w w', J l w → Below w.heap.size w w' → J l w') (h0 : J [] w)
    (hop : LnAll P Q ops a ch (fun i => (Gs.getD i lAny).1) J K 0 ops.toList)
    (hend : ∀ (vs : Nat → Value) (w' : World), J (ch.map vs) w' → (∀ i, i < ops.size → ch.contains i = false → (Gs.getD i lAny).1 w' (vs i)) → Q .normal (putAll a ops.toList vs 0) w') : (Code.region id ops true).wp P Q a w :=
  wp_region_line hm hs ch hch (fun i => (Gs.getD i lAny).1) J K (fun i => (Gs.getD i lAny).2.1) (fun i => (Gs.getD i lAny).2.2) hJ h0 hop hend
end
end Go.Proofs.Ytcopdnigfnmnkaa
namespace Go.Proofs.Ytcopdnigfnmnkaa
open Go.ChangeShapes Go.WideShapes Go.ChangeAt Go.RowKit Go.Deep
def Opens {α : Type} (P : Program) (t : TypeId) (E : Elt α) : Prop :=
  ∀ {H : Type} {enc : TypeId × Value → H} {w : World} {base : Nat} {held : Bool} {fuel : Nat} {cs : List Value} {x : DataW H × List MemPlace}, DataW.trod enc P w base (fun _ => true) held fuel t cs = some x → ∃ d, E.R (· < w.heap.size) w d cs
theorem choose_list {α : Type} {p : Nat → α → Prop} : ∀ n, (∀ i, i < n → ∃ d, p i d) → ∃ l : List α, l.length = n ∧ ∀ i (h : i < l.length), p i l[i]
  | 0, _ => ⟨[], rfl, fun i h => absurd h (Nat.not_lt_zero _)⟩
  | n + 1, h => by
    obtain ⟨l, hl, hp⟩ := choose_list n (fun i hi => h i (by omega))
    obtain ⟨d, hd⟩ := h n (Nat.lt_succ_self n)
    refine ⟨l ++ [d], by simp [hl], fun i hi => ?_⟩
    rcases Nat.lt_or_ge i l.length with h1 | h1
    · rw [List.getElem_append_left h1]; exact hp i h1
    · rw [List.length_append] at hi
      simp only [List.length_cons, List.length_nil] at hi
      obtain rfl : i = l.length := by omega
      rw [List.getElem_append_right (Nat.le_refl _)]
      simp only [Nat.sub_self, List.getElem_cons_zero]
      rw [hl]; exact hd
section
variable {P : Program} {t e : TypeId}
theorem Opens.bytes (ht : P.underlying t = some (.slice e)) (he : P.underlying e = some (.int .u8)) (hc : P.cellsOf e = 1) : Opens P t Elt.bytes := by
  intro H enc w base held fuel cs x h
  rcases open_ints ht he hc h with ⟨hcs, _⟩ | ⟨x, l, c, zs, hcs, _, hl, hm, hz, _, hcell, hwz⟩
  · exact ⟨_, _, hcs, (Rd.of_row (.inl ⟨rfl, rfl, rfl, rfl⟩)).s⟩
  · exact ⟨_, _, hcs, (Rd.of_row (.inr ⟨_, rfl, hl, hm, by simpa using hz, hcell, hwz⟩)).s⟩
theorem Opens.list {α : Type} {E : Elt α} (ht : P.underlying t = some (.slice e)) (hc : P.cellsOf e = E.size) (hE : Opens P e E) : Opens P t (Elt.list E) := by
  intro H enc w base held fuel cs x h
  rcases open_slice ht h with ⟨rfl, _⟩ | ⟨a, len, cap, m, n, D, Pl, rfl, hb, hl, hm, hmm, _, hi⟩
  · exact ⟨[], _, rfl, RdL.nil _ _ _⟩
  · have hlm : len ≤ m := by rw [hmm]; split <;> omega
    obtain ⟨l, hll, hp⟩ := choose_list (p := fun i d => ∃ cs', E.R (· < w.heap.size) w d cs' ∧ ∀ j, j < cs'.length → w.cell? (a.add (i * E.size + j)) = cs'[j]?) len (fun i hil => by
      obtain ⟨cs', h1, h2⟩ := hi i (by omega)
      obtain ⟨d, hd⟩ := hE h2
      obtain ⟨_, hcl, hat⟩ := World.cells?_some h1
      refine ⟨d, cs', hd, fun j hj => ?_⟩
      have := hat j (by omega)
      rw [add_add, hc] at this
      exact this)
    refine ⟨l, _, rfl, ?_⟩
    rw [← hll] at hl ⊢
    refine ⟨some a, cap, rfl, hl, hm, ?_⟩
    rcases Nat.eq_zero_or_pos l.length with h0 | h0
    · exact .inl (List.eq_nil_of_length_eq_zero h0)
    · obtain ⟨cs0, hR0, hc0⟩ := hp 0 h0
      have hl0 := E.len hR0
      have hpos := E.pos
      have hcell := hc0 0 (by omega)
      rw [List.getElem?_eq_getElem (by omega)] at hcell
      obtain ⟨b, off, spot⟩ := a
      have hspot : spot = none := by simpa [Addr.add] using World.cell?_spot hcell
      subst hspot
      have hblt := World.block_lt_of_cell? w _ hcell
      refine .inr ⟨b, off, rfl, by simpa [Addr.add_lit] using hblt, fun r hr => ?_⟩
      obtain ⟨cs', hR, hcs⟩ := hp r hr
      refine ⟨cs', hR, fun j u hj => ?_⟩
      have := hcs j (List.getElem?_eq_some_iff.1 hj).1
      rw [hj, Addr.add_lit, ← Nat.add_assoc] at this
      exact this
theorem Opens.rdL {α : Type} {E : Elt α} (hO : Opens P t (Elt.list E)) {H : Type} {enc : TypeId × Value → H} {w : World} {base : Nat} {held : Bool} {fuel : Nat} {a : Option Addr} {n c : Nat} {x : DataW H × List MemPlace}
    (h : DataW.trod enc P w base (fun _ => true) held fuel t [.slice a n c] = some x) : ∃ xs, RdL E (· < w.heap.size) w (.slice a n c) xs := by
  obtain ⟨d, v, hv, hR⟩ := hO h
  cases hv
  exact ⟨d, hR⟩
end
end Go.Proofs.Ytcopdnigfnmnkaa
namespace Go.Proofs.Ytcopdnigfnmnkaa
open Go.RowKit
theorem grown_setRow (w : World) (g : Nat) (cs : Array Value) : w.grownBy (w.setRow g cs) (some g) :=
  ⟨rfl, rfl, rfl, by unfold World.setRow; simp, fun k _ hk => setRow_other w g k cs (fun e => hk (by rw [e]))⟩
end Go.Proofs.Ytcopdnigfnmnkaa
namespace Go.Proofs.Ytcopdnigfnmnkaa
open Go.RowKit
def stB (P : Program) (t : TypeId) (n : Nat) : Bool := match P.underlying t with
  | some (.struct fs) => fs.size == n && ((List.range n).all fun i => match fs[i]? with
    | some f => f.offset == i && (P.info? f.type).map (·.size) == some 1
    | none => false) && ((P.info? t).map (·.size) == some n) && (match (P.info? t).bind (·.zero) with
    | some (.agg zs) => zs.size == n
    | _ => false)
  | _ => false
structure StP (P : Program) (t : TypeId) (n : Nat) : Prop where
  hu : ∃ fs : Array Field, P.underlying t = some (.struct fs) ∧ fs.size = n ∧ ∀ i, i < n → ∃ f, fs[i]? = some f ∧ f.offset = i ∧ (P.info? f.type).map (·.size) = some 1
  hs : (P.info? t).map (·.size) = some n
  hz : ∃ zs, (P.info? t).bind (·.zero) = some (.agg zs) ∧ zs.size = n
theorem StP.of {P : Program} {t : TypeId} {n : Nat} (h : stB P t n = true) : StP P t n := by
  unfold stB at h
  split at h
  · rename_i fs hu
    simp only [Bool.and_eq_true, beq_iff_eq, List.all_eq_true, List.mem_range] at h
    obtain ⟨⟨⟨h1, h2⟩, h3⟩, h4⟩ := h
    refine ⟨⟨fs, hu, h1, fun i hi => ?_⟩, h3, ?_⟩
    · have := h2 i hi
      split at this
      · rename_i f hf
        simp only [Bool.and_eq_true, beq_iff_eq] at this
        exact ⟨f, hf, this.1, this.2⟩
      · cases this
    · split at h4
      · rename_i zs hz
        exact ⟨zs, hz, by simpa using h4⟩
      · cases h4
  · cases h
theorem run_sizeOf' {P : Program} {ty : TypeId} {n : Nat} (h : (P.info? ty).map (·.size) = some n) (w : World) : (sizeOf ty).run P w = .ok n w := by
  cases hi : P.info? ty with
  | none => simp [hi] at h
  | some i => simp [hi] at h; simp [sizeOf, typeInfo, hi, h]
theorem StP.zero {P : Program} {t : TypeId} {n : Nat} (hP : StP P t n) : ∃ zs : Array Value, zs.size = n ∧ ∀ w, (zeroValue t).run P w = .ok (.agg zs) w := by
  obtain ⟨zs, h, hs⟩ := hP.hz
  cases hi : P.info? t with
  | none => simp [hi] at h
  | some i => simp [hi] at h; exact ⟨zs, hs, fun w => by simp [zeroValue, typeInfo, hi, h]⟩
section
variable {P : Program} {t : TypeId} {n : Nat} {o : Oper} {a : Act} {K : Act → World → Prop} {Q : Exit → Act → World → Prop} {w : World}
theorem wp_run' {v : Value} (hrun : (execOp a.eval o).run P w = .ok (.value v) w) (h : K (a.put o.dst v) w) : o.wp P a w K Q := by
  unfold Oper.wp
  rw [hrun]
  exact h
theorem wp_fieldN (hP : StP P t n) {x : Operand} {b off i : Nat} (ho : o.op = .fieldAddr t x i) (hx : a.eval x = .pointer (some ⟨b, off, none⟩)) (hi : i < n) (h : K (a.put o.dst (.pointer (some ⟨b, off + i, none⟩))) w) : o.wp P a w K Q := by
  obtain ⟨fs, hu, _, hf⟩ := hP.hu
  obtain ⟨f, hf, ho2, hs⟩ := hf i hi
  refine wp_run' ?_ h
  simp only [execOp, ho, hx]
  simp [Instr.fieldAt, run_underlying hu, fieldPlace, hf, ho2, run_sizeOf' hs, go_sem, Addr.add]
theorem wp_ld_bool {x : Operand} {p : Addr} {v : Value} (ho : o.op = .load t x) (hx : a.eval x = .pointer (some p)) (hu : P.underlying t = some .bool) (hc : w.cell? p = some v) (h : K (a.put o.dst v) w) : o.wp P a w K Q := by
  refine wp_run' ?_ h
  simp only [execOp, ho, hx]
  simp [isAgg, run_underlying hu, hc, go_sem]
theorem wp_ixN {e : TypeId} {x i : Operand} {b off m c k : Nat} {kk : IntKind} {j : Int} (ho : o.op = .indexAddr t x i) (hu : P.underlying t = some (.slice e)) (hi : (P.info? e).map (·.size) = some n) (hx : a.eval x = .slice (some ⟨b, off, none⟩) m c) (hy : a.eval i = .int kk j) (hj : j = (k : Int)) (hk : k < m)
    (h : K (a.put o.dst (.pointer (some ⟨b, off + k * n, none⟩))) w) : o.wp P a w K Q := by
  subst hj
  refine wp_run' ?_ h
  obtain ⟨inf, hinf, hsz⟩ : ∃ inf, P.info? e = some inf ∧ inf.size = n := by
    cases h : P.info? e with
    | none => simp [h] at hi
    | some i => simp [h] at hi; exact ⟨i, rfl, hi⟩
  simp only [execOp, ho, hx, hy]
  simp [Instr.indexAt, run_underlying hu, asIntOf, hinf, hsz, sizeOf, typeInfo, go_sem, Addr.add]
  rw [if_pos hk]
  by_cases h0 : k = 0
  · subst h0; simp
  · simp
end
end Go.Proofs.Ytcopdnigfnmnkaa
namespace Go.Proofs.Ytcopdnigfnmnkaa
open Go.RowKit
def BoxN (W : World) (b : Nat) (t : TypeId) (vs : List Value) : Prop := W.heap[b]? = some (.cells vs.toArray t (0, 0))
section
variable {W W' : World} {b : Nat} {t : TypeId} {vs : List Value}
theorem BoxN.new (W : World) (t : TypeId) (vs : List Value) : BoxN (W.alloc (.cells vs.toArray t)) W.heap.size t vs := by unfold BoxN; simp only [World.alloc, Array.getElem?_push_size]
theorem BoxN.lt (h : BoxN W b t vs) : b < W.heap.size := (Array.getElem?_eq_some_iff.1 h).1
theorem BoxN.cell (h : BoxN W b t vs) {i : Nat} {u : Value} (hi : vs[i]? = some u) : W.cell? ⟨b, i, none⟩ = some u := by simp [World.cell?, show W.heap[b]? = _ from h, hi]
theorem BoxN.frozen (h : BoxN W b t vs) (i : Nat) : W.frozen? ⟨b, i, none⟩ = false := by simp [World.frozen?, show W.heap[b]? = _ from h]
theorem BoxN.below {n : Nat} (h : BoxN W b t vs) (hb : Below n W W') (hn : b < n) : BoxN W' b t vs := (hb.block b hn).trans h
theorem BoxN.other {c : Option Nat} (h : BoxN W b t vs) (hg : W.grownBy W' c) (hn : c ≠ some b) : BoxN W' b t vs := (hg.block b h.lt fun e => hn e.symm).trans h
end
section
variable {P : Program} {t : TypeId} {n : Nat} {ops : Array Oper} {rest : List Oper} {o : Oper} {a : Act} {K : Act → World → Prop} {Q : Exit → Act → World → Prop} {w : World}
theorem wp_boxNew {vs : List Value} (hz : (P.info? t).bind (·.zero) = some (.agg vs.toArray)) (ho : o.op = .alloc t) (h : ∀ w', Below w.heap.size w w' → BoxN w' w.heap.size t vs → K (a.put o.dst (.pointer (some ⟨w.heap.size, 0, none⟩))) w') : o.wp P a w K Q := by
  have hzz : (zeroValue t).run P w = .ok (.agg vs.toArray) w := by
    cases hi : P.info? t with
    | none => simp [hi] at hz
    | some i => simp [hi] at hz; simp [zeroValue, typeInfo, hi, hz]
  have hrun : (execOp a.eval o).run P w = .ok (.value (.pointer (some ⟨w.heap.size, 0, none⟩))) (w.alloc (.cells vs.toArray t)) := by
    simp [execOp, ho, newVar, hzz, Value.cells, go_sem]
  unfold Oper.wp
  rw [hrun]
  exact h _ ((Below.refl _ _).alloc (Nat.le_refl _) _) (BoxN.new w t vs)
theorem wpList_boxNew {vs : List Value} (hz : (P.info? t).bind (·.zero) = some (.agg vs.toArray)) (ho : o.op = .alloc t) (hgd : Region.wanted o (yielded ops a.tmps) = true) (h : ∀ w', Below w.heap.size w w' → BoxN w' w.heap.size t vs → wpList P ops Q rest (a.put o.dst (.pointer (some ⟨w.heap.size, 0, none⟩))) w') : wpList P ops Q (o :: rest) a w :=
  BigFrame.wpList_want hgd fun _ hK => wp_boxNew hz ho fun w' h1 h2 => hK _ _ (h w' h1 h2)
theorem wp_boxStore {vs us : List Value} {x y : Operand} {b : Nat} (hs : (P.info? t).map (·.size) = some us.length) (ho : o.op = .store t x y) (hx : a.eval x = .pointer (some ⟨b, 0, none⟩)) (hy : a.eval y = .agg us.toArray) (h1 : us.all (·.oneCell') = true) (hb : BoxN w b t vs) (hl : vs.length = us.length)
    (h : ∀ w', w.grownBy w' (some b) → BoxN w' b t us → K (a.put o.dst undef) w') : o.wp P a w K Q := by
  refine wp_store_row t x y ho b us.toArray hx hy t vs.toArray hb (by simpa using hs) (by simp [hl]) (by simpa using h1) (h _ ⟨rfl, rfl, rfl, by simp [World.setRow], fun k _ hk => ?_⟩ ?_)
  · have hkb : k ≠ b := fun e => hk (by rw [e])
    simp [World.setRow, Array.getElem?_modify, Ne.symm hkb]
  · unfold BoxN at hb ⊢
    simp [World.setRow, Array.getElem?_modify, hb]
theorem wpList_boxStore {vs us : List Value} {x y : Operand} {b : Nat} (hs : (P.info? t).map (·.size) = some us.length) (ho : o.op = .store t x y) (hd : o.dst = none) (hgd : Region.wanted o (yielded ops a.tmps) = true) (hx : a.eval x = .pointer (some ⟨b, 0, none⟩)) (hy : a.eval y = .agg us.toArray) (h1 : us.all (·.oneCell') = true) (hb : BoxN w b t vs) (hl : vs.length = us.length)
    (h : ∀ w', w.grownBy w' (some b) → BoxN w' b t us → wpList P ops Q rest a w') : wpList P ops Q (o :: rest) a w :=
  BigFrame.wpList_want hgd fun _ hK => wp_boxStore hs ho hx hy h1 hb hl fun w' h3 h4 => hK _ _ (by rw [hd]; exact h w' h3 h4)
theorem wp_boxSet {t2 : TypeId} {vs : List Value} {x y : Operand} {b j : Nat} {u : Value} (ho : o.op = .store t2 x y) (hs : (P.info? t2).map (·.size) = some 1) (hx : a.eval x = .pointer (some ⟨b, j, none⟩)) (hy : a.eval y = u) (hu : u.cells = #[u]) (h1 : u.oneCell' = true) (hb : BoxN w b t vs) (hj : j < vs.length)
    (h : ∀ w', w.grownBy w' (some b) → BoxN w' b t (vs.set j u) → K (a.put o.dst undef) w') : o.wp P a w K Q := by
  have hc := hb.cell (i := j) (List.getElem?_eq_getElem hj)
  have hf := hb.frozen j
  refine wp_skip ?_ (h (w.setCell ⟨b, j, none⟩ u) ⟨rfl, rfl, rfl, by simp [World.setCell], fun k _ hk => heap_setCell_other _ ⟨b, j, none⟩ k _ fun e => hk (by rw [e])⟩ ?_)
  · simp only [execOp, ho, hx, hy]
    have hu' := hu
    unfold Value.cells at hu'
    simp [Instr.storeAt, storeVar, run_sizeOf' hs, storeCells, hu', run_store _ _ _ _ _ h1, hc, hf, Addr.add, go_sem]
  · unfold BoxN at hb ⊢
    simp only [World.setCell, Array.getElem?_modify, hb]
    simp
theorem wp_load4 (hP : StP P t 4) {x : Operand} {b off : Nat} {u v r s : Value} (ho : o.op = .load t x) (hx : a.eval x = .pointer (some ⟨b, off, none⟩)) (h0 : w.cell? ⟨b, off, none⟩ = some u) (h1 : w.cell? ⟨b, off + 1, none⟩ = some v) (h2 : w.cell? ⟨b, off + 2, none⟩ = some r) (h3 : w.cell? ⟨b, off + 3, none⟩ = some s) (h : K (a.put o.dst (.agg #[u, v, r, s])) w) : o.wp P a w K Q := by
  obtain ⟨fs, hu, hfs, hf⟩ := hP.hu
  refine wp_run' ?_ h
  simp only [execOp, ho, hx]
  simp [Instr.loadAt, loadVar, isAgg, run_underlying hu, run_sizeOf' hP.hs, loadCellsFrom, Addr.add, h0, h1, h2, h3, go_sem]
end
end Go.Proofs.Ytcopdnigfnmnkaa
namespace Go.Proofs.Ytcopdnigfnmnkaa
open Go.RowKit
def ApJ {α : Type} (E : Elt α) (Te : TypeId) (base lo : Nat) (r : Option Nat) (W : World) (xs ys : List α) : List Value → World → Prop
  | [], V => Below W.heap.size W V
  | s :: rest, V => (∀ u ∈ rest, u = s) ∧ W.grownBy V r ∧ ∃ ad c, s = .slice ad (xs ++ ys).length c ∧ OwnL E Te base lo V (.slice ad (xs ++ ys).length c) (xs ++ ys)
section
variable {α : Type} {E : Elt α} {Te : TypeId} {base lo : Nat} {r : Option Nat} {W : World} {xs ys : List α}
theorem grownB {A B : World} (h : Below A.heap.size A B) (r : Option Nat) : A.grownBy B r := ⟨h.os, h.tape, h.output, h.size, fun k hk _ => h.block k hk⟩
theorem grownT {A B C : World} (h : A.grownBy B r) (k : B.grownBy C r) : A.grownBy C r := ⟨k.os.trans h.os, k.tape.trans h.tape, k.output.trans h.output, Nat.le_trans h.size k.size, fun j hj hn => (k.block j (Nat.lt_of_lt_of_le hj h.size) hn).trans (h.block j hj hn)⟩
theorem ApJ.below : ∀ (l : List Value) (V V' : World), ApJ E Te base lo r W xs ys l V → Below V.heap.size V V' → ApJ E Te base lo r W xs ys l V'
  | [], _, _, h, hb => Below.trans h (hb.mono (Below.size h))
  | _ :: _, _, _, ⟨h0, h1, ad, c, e, h2⟩, hb => ⟨h0, grownT h1 (grownB hb r), ad, c, e, h2.below hb⟩
theorem ApJ.grown : ∀ {l : List Value} {V : World}, ApJ E Te base lo r W xs ys l V → W.grownBy V r
  | [], _, h => grownB h r
  | _ :: _, _, ⟨_, h, _⟩ => h
theorem RdS.grownR {S : Nat → Prop} {V : World} {v : Value} {l : List UInt8} (h : RdS S W v l) (hg : W.grownBy V r) (hr : ∀ k, r = some k → ¬ S k) : RdS S V v l := (h.fit.keep fun k hk => hg.block k hk.2 fun e => hr k e.symm hk.1).weak fun _ hk => hk.1
theorem RdL.grownR {β : Type} {F : Elt β} {S : Nat → Prop} {V : World} {v : Value} {l : List β} (h : RdL F S W v l) (hg : W.grownBy V r) (hr : ∀ k, r = some k → ¬ S k) : RdL F S V v l := (h.fit.keep fun k hk => hg.block k hk.2 fun e => hr k e.symm hk.1).weak fun _ hk => hk.1
def inNew (S : Nat → Prop) (W V : World) : Nat → Prop := fun k => (S k ∨ W.heap.size ≤ k) ∧ k < V.heap.size
theorem inNew.ne {S : Nat → Prop} {V : World} {k : Nat} (hr : ∀ k, r = some k → k < W.heap.size) (hS : ∀ k, S k → some k ≠ r) (h : inNew S W V k) : some k ≠ r := by
  rcases h.1 with h1 | h1
  · exact hS k h1
  · intro e; have := hr k e.symm; omega
def aElt (E : Elt α) (W : World) (r : Option Nat) (S : Nat → Prop) (x : α) (hr : ∀ k, r = some k → k < W.heap.size) (hS : ∀ k, S k → some k ≠ r) : SGn (fun A B => A.grownBy B r) :=
  ⟨fun V v => ∃ us : List Value, v.cells = us.toArray ∧ E.R (inNew S W V) V x us,
  fun _ _ _ ⟨us, e, h⟩ hb => ⟨us, e, E.weak (Elt.below h hb) fun _ hk => ⟨hk.1, Nat.lt_of_lt_of_le hk.2 hb.size⟩⟩,
  fun _ _ _ ⟨us, e, h⟩ hk => ⟨us, e, E.weak (E.keep h fun k h2 => hk.block k h2.2 (inNew.ne hr hS h2)) fun _ h2 => ⟨h2.1, Nat.lt_of_lt_of_le h2.2 hk.size⟩⟩⟩
def aRd (W : World) (r : Option Nat) (S : Nat → Prop) (x : List UInt8) (hr : ∀ k, r = some k → k < W.heap.size) (hS : ∀ k, S k → some k ≠ r) : SGn (fun A B => A.grownBy B r) :=
  ⟨fun V v => RdS (inNew S W V) V v x,
  fun _ _ _ h hb => (h.below hb).weak fun _ hk => ⟨hk.1, Nat.lt_of_lt_of_le hk.2 hb.size⟩,
  fun _ _ _ h hk => (h.keep fun k h2 => hk.block k h2.2 (inNew.ne hr hS h2)).weak fun _ h2 => ⟨h2.1, Nat.lt_of_lt_of_le h2.2 hk.size⟩⟩
def aRow (E : Elt α) (Te : TypeId) (W : World) (r : Option Nat) (S : Nat → Prop) (x : α) (hr : ∀ k, r = some k → k < W.heap.size) (hS : ∀ k, S k → some k ≠ r) : SGn (fun A B => A.grownBy B r) :=
  ⟨fun V v => ∃ g, ∃ us : List Value, v = .slice (some ⟨g, 0, none⟩) 1 1 ∧ W.heap.size ≤ g ∧ V.heap[g]? = some (.cells us.toArray Te (0, 0)) ∧ E.R (inNew S W V) V x us,
  fun _ _ _ ⟨g, us, h, h0, hc, hR⟩ hb => ⟨g, us, h, h0, (hb.block g (Array.getElem?_eq_some_iff.1 hc).1).trans hc, E.weak (Elt.below hR hb) fun _ hk => ⟨hk.1, Nat.lt_of_lt_of_le hk.2 hb.size⟩⟩,
  fun _ _ _ ⟨g, us, h, h0, hc, hR⟩ hk => ⟨g, us, h, h0, (hk.block g (Array.getElem?_eq_some_iff.1 hc).1 (fun e => by have := hr g e.symm; omega)).trans hc, E.weak (E.keep hR fun k h2 => hk.block k h2.2 (inNew.ne hr hS h2)) fun _ h2 => ⟨h2.1, Nat.lt_of_lt_of_le h2.2 hk.size⟩⟩⟩
def aZb (T : TypeId) (W : World) (r : Option Nat) (hr : ∀ k, r = some k → k < W.heap.size) : SGn (fun A B => A.grownBy B r) :=
  ⟨fun V v => ∃ g, v = .slice (some g) 0 0 ∧ Own T W.heap.size V v [], fun _ _ _ ⟨g, e, h⟩ hb => ⟨g, e, h.below hb⟩,
    fun _ _ _ ⟨g, e, n, h⟩ hk => ⟨g, e, n, h.1, h.2.imp id fun ⟨g, cap, cur, hv, h1, hg, z⟩ => ⟨g, cap, cur, hv, h1, (hk.block g (Array.getElem?_eq_some_iff.1 hg).1 (fun e => by have := hr g e.symm; omega)).trans hg, z⟩⟩⟩
theorem aRow.mk {S : Nat → Prop} {x : α} {us : List Value} {hr : ∀ k, r = some k → k < W.heap.size} {hS : ∀ k, S k → some k ≠ r} {V : World} (hWV : W.heap.size ≤ V.heap.size) (hR : E.R (inNew S W V) V x us) :
    (aRow E Te W r S x hr hS).1 (V.alloc (.cells us.toArray Te)) (.slice (some ⟨V.heap.size, 0, none⟩) 1 1) := by
  have hb : Below V.heap.size V (V.alloc (.cells us.toArray Te)) := (Below.refl _ _).alloc (Nat.le_refl _) _
  exact ⟨_, us, rfl, hWV, by simp only [World.alloc, Array.getElem?_push_size], E.weak (Elt.below hR hb) fun k hk => ⟨hk.1, Nat.lt_of_lt_of_le hk.2 hb.size⟩⟩
variable {P : Program} {T : TypeId} {o : Oper} {a : Act} {Q : Exit → Act → World → Prop} {K : Act → World → Prop}
theorem wp_apv (hP : LoP P T Te E.size) {x y : Operand} {S : Nat → Prop} {e : α} {hr : ∀ k, r = some k → k < W.heap.size} {hS : ∀ k, S k → some k ≠ r} {V : World} (hJ : Below W.heap.size W V) (ho : o.op = .call { callee := .builtin .append, args := #[x, y], argTypes := #[T, T] }) {v u : Value} (hx : a.eval x = v) (hy : a.eval y = u)
    (hO : OwnL E Te base lo W v xs) (hro : r = v.ownBlock) (hu : (aRow E Te W r S e hr hS).1 V u) (hSl : ∀ k, S k → lo ≤ k) (hlo : lo ≤ W.heap.size) (hbase : base ≤ W.heap.size) (hlen : xs.length + 1 ≤ 1073741824)
    (h : ∀ v' V', ApJ E Te base lo r W xs [e] [v'] V' → V.grownBy V' r → K (a.put o.dst v') V') : o.wp P a V K Q := by
  obtain ⟨g, us, eg, hg0, hgc, hgR⟩ := hu
  subst eg
  subst hro
  refine wp_appendL (E := E) (ys := [e]) hP ho hx (hO.below hJ) hy (fun j u hj => by rw [Addr.add_lit, World.cell?, hgc]; simpa using hj) (Flat.single hgR) (fun k hk => ⟨?_, hk.2, inNew.ne hr hS hk⟩) (Nat.le_trans hbase hJ.size) (fun ad7 k7 cap7 w2 h2 hg h3 => ?_) hlen
  · rcases hk.1 with h1 | h1
    · exact hSl k h1
    · exact Nat.le_trans hlo h1
  · obtain rfl : k7 = (xs ++ [e]).length := h2.len
    exact h _ _ ⟨(fun _ h => by cases h), grownT (grownB hJ _) hg, ad7, cap7, rfl, h2⟩ hg
variable {ops : Array Oper} {rest : List Oper} {w : World}
theorem wpList_buildOne {n : Nat} (hP : LoP P T Te n) {y : Operand} {v : Value} {us : List Value} (ho : o.op = .buildSlice T 1 #[(0, y)]) (hgd : Region.wanted o (yielded ops a.tmps) = true) (hy : a.eval y = v) (hv : v.cells = us.toArray) (hl : us.length = n) (h0 : 0 < n) (hn : n ≤ 4096)
    (h : ∀ w', Below w.heap.size w w' → w'.heap[w.heap.size]? = some (.cells us.toArray Te (0, 0)) → wpList P ops Q rest (a.put o.dst (.slice (some ⟨w.heap.size, 0, none⟩) 1 1)) w') : wpList P ops Q (o :: rest) a w :=
  BigFrame.wpList_want hgd fun _ hK => wp_buildOne hP ho hy hv hl h0 hn (hK _ _ (h _ ((Below.refl _ _).alloc (Nat.le_refl _) _) (by simp only [World.alloc, Array.getElem?_push_size])))
theorem wpList_apvRow (hP : LoP P T Te E.size) {x y : Operand} {S : Nat → Prop} {e : α} {us : List Value} {n g : Nat} {v : Value} (ho : o.op = .call { callee := .builtin .append, args := #[x, y], argTypes := #[T, T] }) (hgd : Region.wanted o (yielded ops a.tmps) = true) (hx : a.eval x = v) (hy : a.eval y = .slice (some ⟨g, 0, none⟩) 1 1)
    (hO : OwnL E Te base lo w v xs) (hrow : w.heap[g]? = some (.cells us.toArray Te (0, 0))) (hR : E.R S w e us) (hS : ∀ k, S k → lo ≤ k ∧ k < w.heap.size ∧ some k ≠ v.ownBlock) (hbase : base ≤ w.heap.size) (hlen : xs.length + 1 ≤ 1073741824) (hn : n = xs.length + 1)
    (h : ∀ ad cap w', OwnL E Te base lo w' (.slice ad n cap) (xs ++ [e]) → w.grownBy w' v.ownBlock → (Value.ownBlock (.slice ad n cap) = v.ownBlock ∨ Value.ownBlock (.slice ad n cap) = some w.heap.size) → wpList P ops Q rest (a.put o.dst (.slice ad n cap)) w') : wpList P ops Q (o :: rest) a w := by
  refine wpList_appendL (E := E) (ys := [e]) hP ho hgd hx hO hy (fun j u hj => by rw [Addr.add_lit, World.cell?, hrow]; simpa using hj) (Flat.single hR) hS hbase (fun ad7 k7 cap7 w2 h2 hg h3 => ?_) hlen
  obtain rfl : k7 = n := by rw [h2.len, List.length_append, hn]; rfl
  exact h _ _ _ h2 hg h3
end
end Go.Proofs.Ytcopdnigfnmnkaa
namespace Go.Proofs.Ytcopdnigfnmnkaa
open Go.RowKit
section
variable {α : Type} {E : Elt α} {P : Program} {T Te : TypeId} {ops : Array Oper} {rest : List Oper} {o : Oper} {a : Act} {Q : Exit → Act → World → Prop} {w : World} {K : Act → World → Prop}
theorem run_buildZero (hP : LoP P T Te E.size) (w : World) : (Instr.buildSlice T 0 #[]).run P w = .ok (.slice (some ⟨w.heap.size, 0, none⟩) 0 0) (w.alloc (.cells #[] Te)) := by
  obtain ⟨i, z, hi, hz, hsz, hby, hzs⟩ := hP.all
  have e0 : Array.range 0 = #[] := by decide
  simp [Instr.buildSlice, run_underlying hP.hT, sizeOf, typeInfo, hi, newRow, Instr.fill, e0]
theorem ownL_zero (E : Elt α) (Te : TypeId) (w : World) : OwnL E Te w.heap.size w.heap.size (w.alloc (.cells #[] Te)) (.slice (some ⟨w.heap.size, 0, none⟩) 0 0) [] := by
  refine ⟨[], ⟨by simp, .inr ⟨w.heap.size, 0, #[], rfl, Nat.le_refl _, ?_, by simp, by unfold maxLen; omega, by simp, by simp⟩⟩, rfl⟩
  simp only [World.alloc, Array.getElem?_push_size]
theorem wp_buildZero (hP : LoP P T Te E.size) (ho : o.op = .buildSlice T 0 #[]) (h : ∀ w', Below w.heap.size w w' → OwnL E Te w.heap.size w.heap.size w' (.slice (some ⟨w.heap.size, 0, none⟩) 0 0) [] → K (a.put o.dst (.slice (some ⟨w.heap.size, 0, none⟩) 0 0)) w') : o.wp P a w K Q := by
  have hrun := run_buildZero (E := E) hP w
  unfold Oper.wp execOp
  simp only [ho, Sem.run_bind, Sem.run_pure, Result.andThen_ok, List.map_toArray, List.map_nil, hrun]
  exact h _ ((Below.refl _ _).alloc (Nat.le_refl _) _) (ownL_zero E Te w)
end
end Go.Proofs.Ytcopdnigfnmnkaa
