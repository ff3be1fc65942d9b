/-
  TEXTS OF ONE PROOF, merged: Line, OctB, Elt, Tri, Box, Ell, Ope, DltM, Dlt.
-/
import Derived.BigFrame
import Derived.ChangeSame
import Derived.ChangeSlices
import Derived.Deep.Slices
import Derived.Deep.Strs
import Derived.Laws.Tables
import Derived.Lib.SmallJoins
import Derived.ProofKit
import Derived.Test.YtjbdkhddnblieaaMo1
namespace Go.Proofs.Ytjbdkhddnblieaa
open Go.RowKit
def hangs (ops : Array Oper) (j i : Nat) : Bool := (ops[j]?).any fun o => o.after.any fun e => e.on == i && Region.binds .any e
theorem hangs_get {ops : Array Oper} {j i : Nat} (h : hangs ops j i = true) : ∃ o, ops[j]? = some o ∧ ∃ e ∈ o.after, e.on = i ∧ Region.binds .any e = true := by
  unfold hangs at h
  cases ho : ops[j]? with
  | none => rw [ho] at h; simp at h
  | some o =>
    rw [ho] at h
    simp only [Option.any_some, Array.any_eq_true', Bool.and_eq_true, beq_iff_eq] at h
    exact ⟨o, rfl, h⟩
def incB : List Nat → Bool
  | [] => true
  | [_] => true
  | c :: d :: r => decide (c < d) && incB (d :: r)
theorem inc_head : ∀ {r : List Nat} {c q d : Nat}, incB (c :: r) = true → r[q]? = some d → c < d
  | [], _, _, _, _, h => by simp at h
  | x :: r, c, 0, d, h, h2 => by
    simp only [incB, Bool.and_eq_true, decide_eq_true_eq] at h
    obtain rfl : x = d := by simpa using h2
    exact h.1
  | x :: r, c, q + 1, d, h, h2 => by
    simp only [incB, Bool.and_eq_true, decide_eq_true_eq] at h
    exact Nat.lt_trans h.1 (inc_head h.2 (by simpa using h2))
theorem inc_lt : ∀ {l : List Nat} {p q c d : Nat}, incB l = true → l[p]? = some c → l[q]? = some d → p < q → c < d
  | [], _, _, _, _, _, h, _, _ => by simp at h
  | x :: r, 0, q + 1, c, d, h, h1, h2, _ => by
    obtain rfl : x = c := by simpa using h1
    exact inc_head h (by simpa using h2)
  | x :: r, p + 1, q + 1, c, d, h, h1, h2, h3 => by
    have h' : incB r = true := by
      cases r with
      | nil => rfl
      | cons y r => simp only [incB, Bool.and_eq_true] at h; exact h.2
    exact inc_lt h' (by simpa using h1) (by simpa using h2) (by omega)
  | _, _, 0, _, _, _, _, _, h => absurd h (Nat.not_lt_zero _)
theorem inc_ix {l : List Nat} {p q c : Nat} (h : incB l = true) (h1 : l[p]? = some c) (h2 : l[q]? = some c) : p = q := by
  rcases Nat.lt_trichotomy p q with h3 | h3 | h3
  · exact absurd (inc_lt h h1 h2 h3) (Nat.lt_irrefl _)
  · exact h3
  · exact absurd (inc_lt h h2 h1 h3) (Nat.lt_irrefl _)
def lineB (ops : Array Oper) (ch : List Nat) : Bool :=
  (ch.all fun c => decide (c < ops.size)) && incB ch && (List.range ch.length).all fun p => p == 0 || hangs ops (ch.getD p 0) (ch.getD (p - 1) 0)
theorem line_lt {ops : Array Oper} {ch : List Nat} (h : lineB ops ch = true) {p c : Nat} (hp : ch[p]? = some c) : c < ops.size := by
  simp only [lineB, Bool.and_eq_true, List.all_eq_true, decide_eq_true_eq] at h
  exact h.1.1 c (List.mem_of_getElem? hp)
theorem line_hangs {ops : Array Oper} {ch : List Nat} (h : lineB ops ch = true) {p c d : Nat} (hp : ch[p + 1]? = some d) (hc : ch[p]? = some c) : hangs ops d c = true := by
  simp only [lineB, Bool.and_eq_true, List.all_eq_true, List.mem_range, Bool.or_eq_true, beq_iff_eq] at h
  have := (h.2 (p + 1) (List.getElem?_eq_some_iff.1 hp).1).resolve_left (by omega)
  rwa [List.getD_eq_getElem?_getD, hp, List.getD_eq_getElem?_getD, Nat.add_sub_cancel, hc] at this
section
variable {P : Program} {Q : Exit → Act → World → Prop}
def LineOp (P : Program) (Q : Exit → Act → World → Prop) (ops : Array Oper) (a : Act) (ch : List Nat) (G : Nat → World → Value → Prop) (J : List Value → World → Prop) (K : World → World → Prop) (p : Nat) (o : Oper) : Prop :=
  ∀ (A : Act) (vs : Nat → Value) (w' : World), (∀ t, slotIx ops.toList 0 t = none → A.eval (.tmp t) = a.eval (.tmp t)) → (∀ t j, t < a.tmps.size → slotIx ops.toList 0 t = some j → A.eval (.tmp t) = vs j) → J ((ch.take p).map vs) w' →
    (∀ q j d, p ≤ q → ch[q]? = some j → (ops[j]?).bind (·.dst) = some d → vs j = a.eval (.tmp d)) → (∀ e ∈ o.after, Region.binds .any e = true → ch.contains e.on = false → G e.on w' (vs e.on)) →
    o.wp P A w' (fun a2 w2 => ∃ v, a2 = A.put o.dst v ∧ J ((ch.take p).map vs ++ [v]) w2 ∧ K w' w2) Q
def SideOp (P : Program) (Q : Exit → Act → World → Prop) (ops : Array Oper) (a : Act) (ch : List Nat) (G : Nat → World → Value → Prop) (J : List Value → World → Prop) (i : Nat) (o : Oper) : Prop :=
  ∀ (A : Act) (vs : Nat → Value) (w' : World) (k : Nat), (∀ t, slotIx ops.toList 0 t = none → A.eval (.tmp t) = a.eval (.tmp t)) → (∀ t j, t < a.tmps.size → slotIx ops.toList 0 t = some j → A.eval (.tmp t) = vs j) → k ≤ ch.length → J ((ch.take k).map vs) w' →
    (∀ p c, ch[p]? = some c → hangs ops c i = true → k ≤ p) → (∀ q j d, k ≤ q → ch[q]? = some j → (ops[j]?).bind (·.dst) = some d → vs j = a.eval (.tmp d)) →
    (∀ e ∈ o.after, Region.binds .any e = true → ∀ p, ch[p]? = some e.on → p < k) → (∀ e ∈ o.after, Region.binds .any e = true → ch.contains e.on = false → G e.on w' (vs e.on)) →
    o.wp P A w' (fun a2 w2 => ∃ v, a2 = A.put o.dst v ∧ G i w2 v ∧ Below w'.heap.size w' w2) Q
def LnOp (P : Program) (Q : Exit → Act → World → Prop) (ops : Array Oper) (a : Act) (ch : List Nat) (G : Nat → World → Value → Prop) (J : List Value → World → Prop) (K : World → World → Prop) (i : Nat) (o : Oper) : Prop :=
  o.guard = none ∧ ((∃ p, ch[p]? = some i ∧ LineOp P Q ops a ch G J K p o) ∨ (ch.contains i = false ∧ SideOp P Q ops a ch G J i o))
theorem LnOp.line {ops : Array Oper} {a : Act} {ch : List Nat} {G : Nat → World → Value → Prop} {J : List Value → World → Prop} {K : World → World → Prop} {i : Nat} {o : Oper} (p : Nat) (hg : o.guard = none) (hp : ch[p]? = some i) (h : LineOp P Q ops a ch G J K p o) : LnOp P Q ops a ch G J K i o := ⟨hg, .inl ⟨p, hp, h⟩⟩
theorem LnOp.side {ops : Array Oper} {a : Act} {ch : List Nat} {G : Nat → World → Value → Prop} {J : List Value → World → Prop} {K : World → World → Prop} {i : Nat} {o : Oper} (hg : o.guard = none) (hp : ch.contains i = false) (h : SideOp P Q ops a ch G J i o) : LnOp P Q ops a ch G J K i o := ⟨hg, .inr ⟨hp, h⟩⟩
def LnAll (P : Program) (Q : Exit → Act → World → Prop) (ops : Array Oper) (a : Act) (ch : List Nat) (G : Nat → World → Value → Prop) (J : List Value → World → Prop) (K : World → World → Prop) : Nat → List Oper → Prop
  | _, [] => True
  | i, o :: rest => LnOp P Q ops a ch G J K i o ∧ LnAll P Q ops a ch G J K (i + 1) rest
theorem LnAll.get {ops : Array Oper} {a : Act} {ch : List Nat} {G : Nat → World → Value → Prop} {J : List Value → World → Prop} {K : World → World → Prop} : ∀ (l : List Oper) (k j : Nat) (o : Oper), LnAll P Q ops a ch G J K k l → l[j]? = some o → LnOp P Q ops a ch G J K (k + j) o
  | [], _, _, _, _, h => by simp at h
  | o' :: rest, k, 0, o, h, hj => by obtain rfl : o' = o := by simpa using hj
                                     exact h.1
  | o' :: rest, k, j + 1, o, h, hj => by rw [show k + (j + 1) = k + 1 + j by omega]; exact LnAll.get rest (k + 1) j o h.2 (by simpa using hj)
theorem map_upd_out {l : List Nat} {vs : Nat → Value} {i : Nat} {v : Value} (h : i ∉ l) : l.map (upd vs i v) = l.map vs := by
  refine List.map_congr_left fun j hj => ?_
  have : j ≠ i := fun e => h (by rw [← e]; exact hj)
  simp [upd, this]
theorem wp_region_line {id : Nat} {ops : Array Oper} {a : Act} {w : World} (hm : P.follows .mixedOrders = true) (hs : gdB ops = true) (ch : List Nat) (hch : lineB ops ch = true) (G : Nat → World → Value → Prop) (J : List Value → World → Prop) (K : World → World → Prop)
    (hG : ∀ i w v w', G i w v → Below w.heap.size w w' → G i w' v) (hK : ∀ i w v w', G i w v → K w w' → G i w' v) (hJ : ∀ l w w', J l w → Below w.heap.size w w' → J l w') (h0 : J [] w)
    (hop : LnAll P Q ops a ch G J K 0 ops.toList)
    (hend : ∀ (vs : Nat → Value) (w' : World), J (ch.map vs) w' → (∀ i, i < ops.size → ch.contains i = false → G i w' (vs i)) → Q .normal (putAll a ops.toList vs 0) w') : (Code.region id ops true).wp P Q a w := by
  refine wp_region_any hm ?_
  have hnd : (ops.toList.filterMap (·.dst)).Nodup := by simp only [gdB, slotsB, Bool.and_eq_true, decide_eq_true_eq] at hs; exact hs.2
  have hinc : incB ch = true := by simp only [lineB, Bool.and_eq_true] at hch; exact hch.1.2
  have main : ∀ (fuel : Nat) (listed : Array Bool) (vs : Nat → Value) (w' : World) (k : Nat), listed.size = ops.size → (unlisted ops.size listed).length ≤ fuel → k ≤ ch.length → (∀ p c, ch[p]? = some c → (listed.getD c true = true ↔ p < k)) → J ((ch.take k).map vs) w' →
      (∀ i, i < ops.size → listed.getD i true = true → ch.contains i = false → G i w' (vs i)) → (∀ i o, ops[i]? = some o → listed.getD i true = true → ∀ e ∈ o.after, Region.binds .any e = true → e.on < ops.size ∧ listed.getD e.on true = true) → (∀ j, j < ops.size → listed.getD j true = false → ∀ d, (ops[j]?).bind (·.dst) = some d → vs j = a.eval (.tmp d)) → wpAny P .any ops Q fuel listed (putAll a ops.toList vs 0) w' := by
    intro fuel
    have fin : ∀ (listed : Array Bool) (vs : Nat → Value) (w' : World) (k : Nat), k ≤ ch.length → (∀ p c, ch[p]? = some c → (listed.getD c true = true ↔ p < k)) → J ((ch.take k).map vs) w' →
        (∀ i, i < ops.size → listed.getD i true = true → ch.contains i = false → G i w' (vs i)) → (∀ i, i < ops.size → listed.getD i true = true) → Q .normal (putAll a ops.toList vs 0) w' := by
      intro listed vs w' k hk hlk hJ' hG' hall
      have : k = ch.length := by
        rcases Nat.lt_or_ge k ch.length with h | h
        · have h1 := List.getElem?_eq_getElem h
          have h2 := (hlk k _ h1).1 (hall _ (line_lt hch h1))
          omega
        · omega
      subst this
      rw [List.take_length] at hJ'
      exact hend vs w' hJ' fun i hi hc => hG' i hi (hall i hi) hc
    induction fuel with
    | zero =>
      intro listed vs w' k hsz hu hk hlk hJ' hG' hcl hun
      have hall : ∀ i, i < ops.size → listed.getD i true = true := by
        intro i hi
        cases hl : listed.getD i true with
        | true => rfl
        | false =>
          have : i ∈ unlisted ops.size listed := List.mem_filter.2 ⟨List.mem_range.2 hi, by simp [hl]⟩
          rw [List.eq_nil_of_length_eq_zero (Nat.le_zero.1 hu)] at this
          cases this
      refine ⟨?_, fin listed vs w' k hk hlk hJ' hG' hall⟩
      unfold Region.ready
      rw [List.filter_eq_nil_iff]
      intro i hi
      simp [hall i (List.mem_range.1 hi)]
    | succ fuel ih =>
      intro listed vs w' k hsz hu hk hlk hJ' hG' hcl hun
      refine ⟨fun hr => fin listed vs w' k hk hlk hJ' hG' (fun i hi => all_listed_gd hs hr i hi), fun i hi => ?_⟩
      unfold Region.ready at hi
      obtain ⟨hi1, hi2⟩ := List.mem_filter.1 hi
      have hlt := List.mem_range.1 hi1
      rw [Bool.and_eq_true] at hi2
      obtain ⟨hl, hdep⟩ := hi2
      have hl' : listed.getD i true = false := by simpa using hl
      obtain ⟨o, ho⟩ : ∃ o, ops[i]? = some o := ⟨_, Array.getElem?_eq_getElem hlt⟩
      rw [ho] at hdep
      simp only [Option.map_some, Option.getD_some] at hdep
      rw [Array.all_eq_true'] at hdep
      have hgop := LnAll.get ops.toList 0 i o hop (by rw [Array.getElem?_toList]; exact ho)
      rw [Nat.zero_add] at hgop
      have hdepG : ∀ e ∈ o.after, Region.binds .any e = true → e.on < ops.size ∧ listed.getD e.on true = true := by
        intro e he hbn
        have h := hdep e he
        rw [hbn] at h
        simp only [Bool.not_true, Bool.false_or] at h
        have hin : e.on < listed.size := by
          rcases Nat.lt_or_ge e.on listed.size with h' | h'
          · exact h'
          · simp [Array.getD_eq_getD_getElem?, Array.getElem?_eq_none_iff.2 h'] at h
        have hl2 : listed.getD e.on true = true := by
          simp only [Array.getD_eq_getD_getElem?, Array.getElem?_eq_getElem hin, Option.getD_some] at h ⊢
          exact h
        exact ⟨by omega, hl2⟩
      have hdepS : ∀ e ∈ o.after, Region.binds .any e = true → ch.contains e.on = false → G e.on w' (vs e.on) := fun e he hbn hc => hG' e.on (hdepG e he hbn).1 (hdepG e he hbn).2 hc
      have hlate : ∀ q j d, k ≤ q → ch[q]? = some j → (ops[j]?).bind (·.dst) = some d → vs j = a.eval (.tmp d) := by
        intro q j d hq hj hd
        refine hun j (line_lt hch hj) ?_ d hd
        cases hlj : listed.getD j true with
        | false => rfl
        | true => have := (hlk q j hj).1 hlj; omega
      have step : ∀ (v : Value) (w2 : World) (k2 : Nat), k2 ≤ ch.length → (∀ p c, ch[p]? = some c → ((c = i ∨ p < k) ↔ p < k2)) → J ((ch.take k2).map (upd vs i v)) w2 → (ch.contains i = false → G i w2 v) → (∀ j u, ch.contains j = false → G j w' u → G j w2 u) → wpAny P .any ops Q fuel (listed.setIfInBounds i true) ((putAll a ops.toList vs 0).put o.dst v) w2 := by
        intro v w2 k2 hk2 hlk2 hJ2 hGi hGs
        rw [putAll_put ops.toList a vs 0 i o v hnd (by rw [Array.getElem?_toList]; exact ho), Nat.zero_add]
        have hset : ∀ j, (listed.setIfInBounds i true).getD j true = true ↔ j = i ∨ listed.getD j true = true := fun j => by
          by_cases hji : j = i
          · subst hji
            simp [Array.getD_eq_getD_getElem?, Array.getElem?_setIfInBounds_self_of_lt (by omega : j < listed.size)]
          · simp [Array.getD_eq_getD_getElem?, Array.getElem?_setIfInBounds_ne (Ne.symm hji), hji]
        refine ih _ _ _ k2 (by simp [hsz]) (by have := unlisted_set hsz hlt hl'; omega) hk2 (fun p c hp => ?_) hJ2 (fun j hj hlj hc => ?_) (fun j oj hoj hlj e he hbn => ?_) (fun j hj hlj d hd => ?_)
        · rw [hset, ← hlk2 p c hp, hlk p c hp]
        · by_cases hji : j = i
          · subst hji
            simpa [upd] using hGi hc
          · have hlj' := ((hset j).1 hlj).resolve_left hji
            have hv : upd vs i v j = vs j := by simp [upd, hji]
            rw [hv]
            exact hGs j _ hc (hG' j hj hlj' hc)
        · by_cases hji : j = i
          · subst hji
            obtain rfl : o = oj := by rw [ho] at hoj; injection hoj
            have := hdepG e he hbn
            exact ⟨this.1, (hset _).2 (.inr this.2)⟩
          · have hlj' := ((hset j).1 hlj).resolve_left hji
            have := hcl j oj hoj hlj' e he hbn
            exact ⟨this.1, (hset _).2 (.inr this.2)⟩
        · have hji : j ≠ i := fun e => by
            have := (hset j).2 (.inl e)
            rw [hlj] at this; cases this
          have hv : upd vs i v j = vs j := by simp [upd, hji]
          rw [hv]
          refine hun j hj ?_ d hd
          cases h : listed.getD j true with
          | false => rfl
          | true => have := (hset j).2 (.inr h); rw [hlj] at this; cases this
      unfold wpOp
      simp only [ho, Region.wanted, hgop.1, if_true]
      left
      rcases hgop.2 with ⟨p, hp, hln⟩ | ⟨hc, hsd⟩
      · have hkp : k = p := by
          have h1 : ¬ p < k := fun h => by have := (hlk p i hp).2 h; rw [hl'] at this; cases this
          cases p with
          | zero => omega
          | succ p =>
            obtain ⟨c, hcp⟩ : ∃ c, ch[p]? = some c := ⟨_, List.getElem?_eq_getElem (by have := (List.getElem?_eq_some_iff.1 hp).1; omega)⟩
            obtain ⟨o2, ho2, e, he, rfl, hbn⟩ := hangs_get (line_hangs hch hp hcp)
            obtain rfl : o = o2 := by rw [ho] at ho2; injection ho2
            have := (hlk p _ hcp).1 (hdepG e he hbn).2
            omega
        subst hkp
        have hkl := (List.getElem?_eq_some_iff.1 hp).1
        have hwp := hln (putAll a ops.toList vs 0) vs w' (fun t h => eval_putAll_out _ _ _ _ _ h) (fun t j ht h => eval_putAll_in _ _ _ _ _ _ hnd ht h) hJ' hlate hdepS
        refine Oper.wp_mono ?_ hwp
        rintro a2 w2 ⟨v, rfl, hJ2, hK2⟩
        refine step v w2 (k + 1) hkl (fun p c hpc => ?_) ?_ (fun hc => ?_) (fun j u _ hg => hK j w' u w2 hg hK2)
        · constructor
          · rintro (rfl | h)
            · have := inc_ix hinc hpc hp; omega
            · omega
          · intro h
            by_cases h3 : p = k
            · subst h3
              rw [hp] at hpc
              injection hpc with hpc
              exact .inl hpc.symm
            · exact .inr (by omega)
        · have e1 : ch.take (k + 1) = ch.take k ++ [i] := by
            rw [List.take_add_one, hp]; rfl
          have e2 : i ∉ ch.take k := fun hmem => by
            obtain ⟨q, hq⟩ := List.mem_iff_getElem?.1 hmem
            rw [List.getElem?_take] at hq
            split at hq
            · have := inc_ix hinc hq hp; omega
            · cases hq
          rw [e1, List.map_append, map_upd_out e2]
          simpa [upd] using hJ2
        · rw [List.contains_iff_mem.2 (List.mem_of_getElem? hp)] at hc
          cases hc
      · have hci : i ∉ ch := fun h => by rw [List.contains_iff_mem.2 h] at hc; cases hc
        have hwp := hsd (putAll a ops.toList vs 0) vs w' k (fun t h => eval_putAll_out _ _ _ _ _ h) (fun t j ht h => eval_putAll_in _ _ _ _ _ _ hnd ht h) hk hJ' (fun p c hpc hh => ?_) hlate (fun e he hbn p hp => (hlk p e.on hp).1 (hdepG e he hbn).2) hdepS
        · refine Oper.wp_mono ?_ hwp
          rintro a2 w2 ⟨v, rfl, hg, hb2⟩
          refine step v w2 k hk (fun p c hpc => ⟨fun h => ?_, .inr⟩) ?_ (fun _ => hg) (fun j u _ hgj => hG j w' u w2 hgj hb2)
          · rcases h with rfl | h
            · exact absurd (List.mem_of_getElem? hpc) hci
            · exact h
          · rw [map_upd_out (fun hmem => hci (List.mem_of_mem_take hmem))]
            exact hJ _ _ _ hJ' hb2
        · rcases Nat.lt_or_ge p k with h | h
          · exfalso
            obtain ⟨o2, ho2, e, he, hei, hbn⟩ := hangs_get hh
            have := (hcl c o2 ho2 ((hlk p c hpc).2 h) e he hbn).2
            rw [hei, hl'] at this
            cases this
          · exact h
  have hbz : Below w.heap.size w { w with drawn := w.drawn + 1 } := ⟨rfl, rfl, rfl, Nat.le_refl _, fun _ _ => rfl⟩
  have h1 := main ops.size (Array.replicate ops.size false) (fun i => ((ops[i]?).bind (·.dst)).elim undef (fun d => a.tmps.getD d undef)) { w with drawn := w.drawn + 1 } 0 (by simp)
    (by have := List.length_filter_le (fun i => !(Array.replicate ops.size false).getD i true) (List.range ops.size); simpa [unlisted] using this) (Nat.zero_le _)
    (fun p c hp => by have := line_lt hch hp; simp [Array.getD_eq_getD_getElem?, this]) (hJ _ _ _ h0 hbz)
    (fun i hi h => by simp [Array.getD_eq_getD_getElem?, hi] at h) (fun i o ho h => by
      have : i < ops.size := (Array.getElem?_eq_some_iff.1 ho).1
      simp [Array.getD_eq_getD_getElem?, this] at h)
    (fun j hj _ d hd => by simp only [hd, Option.elim]; rfl)
  rw [putAll_orig ops.toList a _ 0 (fun j o d hj hd => by
    rw [Array.getElem?_toList] at hj
    simp [hj, hd])] at h1
  exact h1
end
abbrev SGn (K : World → World → Prop) := { G : World → Value → Prop // (∀ w v w', G w v → Below w.heap.size w w' → G w' v) ∧ (∀ w v w', G w v → K w w' → G w' v) }
section
variable {K : World → World → Prop}
def lEq (u : Value) : SGn K := ⟨fun _ v => v = u, fun _ _ _ h _ => h, fun _ _ _ h _ => h⟩
def lAny : SGn K := ⟨fun _ _ => True, fun _ _ _ h _ => h, fun _ _ _ h _ => h⟩
variable {P : Program} {Q : Exit → Act → World → Prop}
theorem wp_region_lnl {id : Nat} {ops : Array Oper} {a : Act} {w : World} (hm : P.follows .mixedOrders = true) (hs : gdB ops = true) (ch : List Nat) (hch : lineB ops ch = true) (Gs : List (SGn K)) (J : List Value → World → Prop)
    (hJ : ∀ l w w', J l w → Below w.heap.size w w' → J l w') (h0 : J [] w)
    (hop : LnAll P Q ops a ch (fun i => (Gs.getD i lAny).1) J K 0 ops.toList)
    (hend : ∀ (vs : Nat → Value) (w' : World), J (ch.map vs) w' → (∀ i, i < ops.size → ch.contains i = false → (Gs.getD i lAny).1 w' (vs i)) → Q .normal (putAll a ops.toList vs 0) w') : (Code.region id ops true).wp P Q a w :=
  wp_region_line hm hs ch hch (fun i => (Gs.getD i lAny).1) J K (fun i => (Gs.getD i lAny).2.1) (fun i => (Gs.getD i lAny).2.2) hJ h0 hop hend
end
end Go.Proofs.Ytjbdkhddnblieaa
namespace Go.Proofs.Ytjbdkhddnblieaa
open Go.RowKit
theorem clone_any (w : World) {B : Nat} {ad : Option Addr} {n c : Nat} {xs : List UInt8} (hr : Rd B w (.slice ad n c) xs) (hB : B ≤ w.heap.size) (hx : xs.length ≤ 1000000) :
    Calls Try.prog 48 #[.slice ad n c] w fun e w' => ∃ ad' k c', e = .returned (.slice ad' k c') ∧ Fresh 5 w w' (.slice ad' k c') xs := by
  have he := fun (w : World) (ad : Option Addr) (n c : Nat) => Lib.run_eql_slice_nil (P := Try.prog) w 26 5 ad n c 0 0 byP.hT
  obtain ⟨rfl, _, _⟩ := hr.len
  cases ad with
  | none =>
    have hr' := hr
    rcases hr with ⟨_, _, h, _, rfl⟩ | ⟨_, _, _, h, _⟩
    · go_enter Try.func48, Try.ntmps48
      go_wp2
      go_ret
      exact ⟨_, _, _, rfl, Fresh.nil _ _⟩
    · cases h
  | some p =>
    go_enter Try.func48, Try.ntmps48
    go_wp2_with (first
      | (refine wpList_build byP rfl rfl [] (by kernel_rfl) rfl (by simp) ?_; intro g k1 w1 hF)
      | (at_builtin; refine wpList_append byP rfl rfl rfl hF.2 rfl (hr.below (hF.1.mono hB)) hF.1.size ?_ ?hlen; intro ad' k' c' w2 hO hg hb))
    case hlen => simp; omega
    go_ret
    exact ⟨_, _, _, rfl, hF.1.trans hb, hO⟩
end Go.Proofs.Ytjbdkhddnblieaa
namespace Go.Proofs.Ytjbdkhddnblieaa
open Go.RowKit
def RdS (S : Nat → Prop) (w : World) (v : Value) (xs : List UInt8) : Prop :=
  (∃ a c, v = .slice a 0 c ∧ c ≤ maxLen ∧ xs = []) ∨
  ∃ b off cap, v = .slice (some ⟨b, off, none⟩) xs.length cap ∧ S b ∧ xs.length ≤ cap ∧ cap ≤ maxLen ∧ ∀ j u, (bv xs)[j]? = some u → w.cell? ⟨b, off + j, none⟩ = some u
theorem Rd.s {B : Nat} {w : World} {v : Value} {xs : List UInt8} (h : Rd B w v xs) : RdS (· < B) w v xs := h
theorem cell_keep {w w' : World} {b : Nat} (h : w'.heap[b]? = w.heap[b]?) (o : Nat) : w'.cell? ⟨b, o, none⟩ = w.cell? ⟨b, o, none⟩ := by simp [World.cell?, h]
theorem cell_lt {w : World} {b o : Nat} {u : Value} (h : w.cell? ⟨b, o, none⟩ = some u) : b < w.heap.size := World.block_lt_of_cell? w _ h
section
variable {S S' : Nat → Prop} {w w' : World} {v : Value} {xs : List UInt8}
theorem RdS.keep (h : RdS S w v xs) (hk : ∀ k, S k → w'.heap[k]? = w.heap[k]?) : RdS S w' v xs := by
  rcases h with h | ⟨b, off, cap, hv, hb, h1, h2, hc⟩
  · exact .inl h
  · exact .inr ⟨b, off, cap, hv, hb, h1, h2, fun j u hj => (cell_keep (hk b hb) _).trans (hc j u hj)⟩
theorem RdS.weak (h : RdS S w v xs) (hs : ∀ k, S k → S' k) : RdS S' w v xs := by
  rcases h with h | ⟨b, off, cap, hv, hb, h1, h2, hc⟩
  · exact .inl h
  · exact .inr ⟨b, off, cap, hv, hs b hb, h1, h2, hc⟩
theorem RdS.fit (h : RdS S w v xs) : RdS (fun k => S k ∧ k < w.heap.size) w v xs := by
  rcases h with h | ⟨b, off, cap, hv, hb, h1, h2, hc⟩
  · exact .inl h
  · by_cases h0 : xs = []
    · subst h0; exact .inl ⟨_, _, hv, h2, rfl⟩
    · have hpos : 0 < xs.length := List.length_pos_iff.2 h0
      exact .inr ⟨b, off, cap, hv, ⟨hb, cell_lt (hc 0 _ (bv_get xs 0 hpos))⟩, h1, h2, hc⟩
theorem RdS.rd (h : RdS S w v xs) : Rd w.heap.size w v xs := h.fit.weak (fun _ h => h.2)
theorem RdS.shape (h : RdS S w v xs) : ∃ a c, v = .slice a xs.length c ∧ xs.length ≤ c ∧ c ≤ maxLen := by
  rcases h with ⟨a, c, rfl, hm, rfl⟩ | ⟨b, off, cap, rfl, _, h1, h2, _⟩
  · exact ⟨a, c, rfl, Nat.zero_le _, hm⟩
  · exact ⟨_, _, rfl, h1, h2⟩
theorem RdS.len {a : Option Addr} {n c : Nat} (h : RdS S w (.slice a n c) xs) : n = xs.length ∧ n ≤ c ∧ c ≤ maxLen := by
  obtain ⟨_, _, e, h1, h2⟩ := h.shape
  cases e
  exact ⟨rfl, h1, h2⟩
theorem RdS.below (h : RdS S w v xs) (hb : Below w.heap.size w w') : RdS S w' v xs :=
  (h.fit.keep fun k hk => hb.block k hk.2).weak (fun _ h => h.1)
theorem RdS.one (h : RdS S w v xs) : v.oneCell' = true := by
  obtain ⟨_, _, rfl, _⟩ := h.shape; rfl
theorem RdS.nil (S : Nat → Prop) (w : World) : RdS S w (.slice none 0 0) [] := .inl ⟨none, 0, rfl, by unfold maxLen; omega, rfl⟩
theorem Own.rdS {E : TypeId} {base : Nat} (h : Own E base w v xs) : RdS (fun k => base ≤ k ∧ k < w.heap.size) w v xs := by
  obtain ⟨n, h⟩ := h
  have hr := Own.rd ⟨n, h⟩
  rcases h.2 with ⟨rfl, h0⟩ | ⟨g, cap, cur, rfl, hb, hg, hn, hc, hcs, ht⟩
  · obtain rfl := own_n h
    exact .inl ⟨none, 0, rfl, by unfold maxLen; omega, List.eq_nil_of_length_eq_zero h0⟩
  · rcases hr with h | ⟨b, off, cap', hv, hb', h1, h2, h3⟩
    · exact .inl h
    · cases hv
      exact .inr ⟨_, _, _, rfl, ⟨hb, hb'⟩, h1, h2, h3⟩
end
structure Elt (α : Type) where
  size : Nat
  pos : 0 < size
  R : (Nat → Prop) → World → α → List Value → Prop
  len : ∀ {S w x vs}, R S w x vs → vs.length = size
  keep : ∀ {S w w' x vs}, R S w x vs → (∀ k, S k → w'.heap[k]? = w.heap[k]?) → R S w' x vs
  weak : ∀ {S S' w x vs}, R S w x vs → (∀ k, S k → S' k) → R S' w x vs
  fit : ∀ {S w x vs}, R S w x vs → R (fun k => S k ∧ k < w.heap.size) w x vs
  one : ∀ {S w x vs}, R S w x vs → ∀ u ∈ vs, u.oneCell' = true
section
variable {α : Type} {E : Elt α} {S S' : Nat → Prop} {w w' : World} {v : Value} {xs : List α}
theorem Elt.below {x : α} {vs : List Value} (h : E.R S w x vs) (hb : Below w.heap.size w w') : E.R S w' x vs :=
  E.weak (E.keep (E.fit h) fun k hk => hb.block k hk.2) (fun _ h => h.1)
def RdL (E : Elt α) (S : Nat → Prop) (w : World) (v : Value) (xs : List α) : Prop :=
  ∃ a cap, v = .slice a xs.length cap ∧ xs.length ≤ cap ∧ cap ≤ maxLen ∧ (xs = [] ∨ ∃ b off, a = some ⟨b, off, none⟩ ∧ S b ∧
    ∀ r (h : r < xs.length), ∃ vs, E.R S w xs[r] vs ∧ ∀ j u, vs[j]? = some u → w.cell? ⟨b, off + r * E.size + j, none⟩ = some u)
theorem RdL.nil (E : Elt α) (S : Nat → Prop) (w : World) : RdL E S w (.slice none 0 0) [] := ⟨none, 0, rfl, Nat.le_refl _, by unfold maxLen; omega, .inl rfl⟩
theorem RdL.shape (h : RdL E S w v xs) : ∃ a c, v = .slice a xs.length c ∧ xs.length ≤ c ∧ c ≤ maxLen := let ⟨a, c, h1, h2, h3, _⟩ := h; ⟨a, c, h1, h2, h3⟩
theorem RdL.len {a : Option Addr} {n c : Nat} (h : RdL E S w (.slice a n c) xs) : n = xs.length ∧ n ≤ c ∧ c ≤ maxLen := by
  obtain ⟨_, _, e, h1, h2⟩ := h.shape
  cases e
  exact ⟨rfl, h1, h2⟩
theorem RdL.keep (h : RdL E S w v xs) (hk : ∀ k, S k → w'.heap[k]? = w.heap[k]?) : RdL E S w' v xs := by
  obtain ⟨a, cap, h1, h2, h3, h4⟩ := h
  refine ⟨a, cap, h1, h2, h3, h4.imp id fun ⟨b, off, e, hb, hr⟩ => ⟨b, off, e, hb, fun r h => ?_⟩⟩
  obtain ⟨vs, hR, hc⟩ := hr r h
  exact ⟨vs, E.keep hR hk, fun j u hj => (cell_keep (hk b hb) _).trans (hc j u hj)⟩
theorem RdL.weak (h : RdL E S w v xs) (hs : ∀ k, S k → S' k) : RdL E S' w v xs := by
  obtain ⟨a, cap, h1, h2, h3, h4⟩ := h
  refine ⟨a, cap, h1, h2, h3, h4.imp id fun ⟨b, off, e, hb, hr⟩ => ⟨b, off, e, hs b hb, fun r h => ?_⟩⟩
  obtain ⟨vs, hR, hc⟩ := hr r h
  exact ⟨vs, E.weak hR hs, hc⟩
theorem RdL.fit (h : RdL E S w v xs) : RdL E (fun k => S k ∧ k < w.heap.size) w v xs := by
  obtain ⟨a, cap, h1, h2, h3, h4⟩ := h
  by_cases h0 : xs = []
  · exact ⟨a, cap, h1, h2, h3, .inl h0⟩
  obtain ⟨b, off, e, hb, hr⟩ := h4.resolve_left h0
  have hpos : 0 < xs.length := List.length_pos_iff.2 h0
  have hlt : b < w.heap.size := by
    obtain ⟨vs, hR, hc⟩ := hr 0 hpos
    have hl := E.len hR
    have hp := E.pos
    exact cell_lt (hc 0 vs[0] (List.getElem?_eq_getElem (by omega)))
  refine ⟨a, cap, h1, h2, h3, .inr ⟨b, off, e, ⟨hb, hlt⟩, fun r h => ?_⟩⟩
  obtain ⟨vs, hR, hc⟩ := hr r h
  exact ⟨vs, E.fit hR, hc⟩
theorem RdL.below (h : RdL E S w v xs) (hb : Below w.heap.size w w') : RdL E S w' v xs := (h.fit.keep fun k hk => hb.block k hk.2).weak (fun _ h => h.1)
theorem RdL.at {a : Option Addr} {n c : Nat} (h : RdL E S w (.slice a n c) xs) (r : Nat) (hr : r < xs.length) :
    ∃ b off vs, a = some ⟨b, off, none⟩ ∧ S b ∧ E.R S w xs[r] vs ∧ ∀ j u, vs[j]? = some u → w.cell? ⟨b, off + r * E.size + j, none⟩ = some u := by
  obtain ⟨a', cap, h1, h2, h3, h4⟩ := h
  cases h1
  rcases h4 with rfl | ⟨b, off, e, hb, hq⟩
  · exact absurd hr (Nat.not_lt_zero _)
  · obtain ⟨vs, hR, hc⟩ := hq r hr
    exact ⟨b, off, vs, e, hb, hR, hc⟩
theorem RdL.part {a : Option Addr} {n c : Nat} (h : RdL E S w (.slice a n c) xs) {l r : Nat} (hl : l ≤ r) (hr : r ≤ xs.length) :
    RdL E S w (.slice (if c = l then a else a.map (·.add (l * E.size))) (r - l) (c - l)) ((xs.drop l).take (r - l)) := by
  obtain ⟨a', cap, h1, h2, h3, h4⟩ := h
  cases h1
  have hlen : ((xs.drop l).take (r - l)).length = r - l := by simp; omega
  refine ⟨_, _, by rw [hlen], by omega, by omega, ?_⟩
  by_cases h0 : r = l
  · exact .inl (by subst h0; simp)
  rcases h4 with rfl | ⟨b, off, rfl, hb, hq⟩
  · simp at hr; omega
  · refine .inr ⟨b, off + l * E.size, ?_, hb, fun i hi => ?_⟩
    · rw [if_neg (by omega)]
      simp [Addr.add_lit]
    · rw [hlen] at hi
      obtain ⟨vs, hR, hc⟩ := hq (l + i) (by omega)
      refine ⟨vs, by simpa using hR, fun j u hj => ?_⟩
      have := hc j u hj
      rw [show off + l * E.size + i * E.size + j = off + (l + i) * E.size + j by rw [Nat.add_mul]; omega]
      exact this
end
def Elt.list {α : Type} (E : Elt α) : Elt (List α) where
  size := 1
  pos := Nat.one_pos
  R S w xs vs := ∃ v, vs = [v] ∧ RdL E S w v xs
  len := by rintro _ _ _ _ ⟨_, rfl, _⟩; rfl
  keep := by rintro _ _ _ _ _ ⟨v, rfl, h⟩ hk; exact ⟨v, rfl, h.keep hk⟩
  weak := by rintro _ _ _ _ _ ⟨v, rfl, h⟩ hk; exact ⟨v, rfl, h.weak hk⟩
  fit := by rintro _ _ _ _ ⟨v, rfl, h⟩; exact ⟨v, rfl, h.fit⟩
  one := by
    rintro _ _ _ _ ⟨v, rfl, h⟩ u hu
    obtain rfl : u = v := by simpa using hu
    obtain ⟨_, _, rfl, _⟩ := h.shape
    rfl
def Elt.bytes : Elt (List UInt8) where
  size := 1
  pos := Nat.one_pos
  R S w xs vs := ∃ v, vs = [v] ∧ RdS S w v xs
  len := by rintro _ _ _ _ ⟨_, rfl, _⟩; rfl
  keep := by rintro _ _ _ _ _ ⟨v, rfl, h⟩ hk; exact ⟨v, rfl, h.keep hk⟩
  weak := by rintro _ _ _ _ _ ⟨v, rfl, h⟩ hk; exact ⟨v, rfl, h.weak hk⟩
  fit := by rintro _ _ _ _ ⟨v, rfl, h⟩; exact ⟨v, rfl, h.fit⟩
  one := by
    rintro _ _ _ _ ⟨v, rfl, h⟩ u hu
    obtain rfl : u = v := by simpa using hu
    exact h.one
section
variable {α : Type} {E : Elt α} {P : Program} {T Te : TypeId} {ops : Array Oper} {rest : List Oper} {o : Oper} {a : Act} {Q : Exit → Act → World → Prop} {w : World} {K : Act → World → Prop}
structure LsP (P : Program) (T Te : TypeId) (n : Nat) : Prop where
  hT : P.underlying T = some (.slice Te)
  hn : (P.info? Te).map (·.size) = some n
theorem LsP.info {n : Nat} (h : LsP P T Te n) : ∃ i, P.info? Te = some i ∧ i.size = n := by
  have := h.hn
  cases hi : P.info? Te with
  | none => simp [hi] at this
  | some i => simp [hi] at this; exact ⟨i, rfl, this⟩
theorem run_sliceL {n : Nat} (hP : LsP P T Te n) {ad : Option Addr} {len c l r : Nat} {lo hi : Option Value} (hb : (Instr.sliceBounds true len c lo hi none).run P w = .ok (l, r, c) w) :
    (Instr.sliceAt T (.slice ad len c) lo hi none).run P w = .ok (.slice (if c = l then ad else ad.map (·.add (l * n))) (r - l) (c - l)) w := by
  obtain ⟨i, hi', hsz⟩ := hP.info
  simp [Instr.sliceAt, Instr.slice, run_underlying hP.hT, hb, sizeOf, typeInfo, hi', hsz]
theorem wp_sliceL (hP : LsP P T Te E.size) {x : Operand} {lo hi : Option Operand} (ho : o.op = .slice T x lo hi none) {S : Nat → Prop} {ad : Option Addr} {n c : Nat} {xs : List α} (hx : a.eval x = .slice ad n c) (hr : RdL E S w (.slice ad n c) xs)
    {l r : Nat} {lov hiv : Option Value} (hlo : lo.map a.eval = lov) (hhi : hi.map a.eval = hiv) (hb : (Instr.sliceBounds true n c lov hiv none).run P w = .ok (l, r, c) w)
    (h : ∀ ad' c', RdL E S w (.slice ad' (r - l) c') ((xs.drop l).take (r - l)) → K (a.put o.dst (.slice ad' (r - l) c')) w) (hl : l ≤ r) (hrn : r ≤ xs.length) : o.wp P a w K Q := by
  subst hlo; subst hhi
  unfold Oper.wp execOp
  simp only [ho, hx, Option.map_none, Sem.run_bind, Sem.run_pure, Result.andThen_ok, run_sliceL hP hb]
  exact h _ _ (hr.part hl hrn)
end
end Go.Proofs.Ytjbdkhddnblieaa
namespace Go.Proofs.Ytjbdkhddnblieaa
open Go.RowKit
def stB (P : Program) (t : TypeId) (n : Nat) : Bool := match P.underlying t with
  | some (.struct fs) => fs.size == n && ((List.range n).all fun i => match fs[i]? with
    | some f => f.offset == i && (P.info? f.type).map (·.size) == some 1
    | none => false) && ((P.info? t).map (·.size) == some n) && (match (P.info? t).bind (·.zero) with
    | some (.agg zs) => zs.size == n
    | _ => false)
  | _ => false
structure StP (P : Program) (t : TypeId) (n : Nat) : Prop where
  hu : ∃ fs : Array Field, P.underlying t = some (.struct fs) ∧ fs.size = n ∧ ∀ i, i < n → ∃ f, fs[i]? = some f ∧ f.offset = i ∧ (P.info? f.type).map (·.size) = some 1
  hs : (P.info? t).map (·.size) = some n
  hz : ∃ zs, (P.info? t).bind (·.zero) = some (.agg zs) ∧ zs.size = n
theorem StP.of {P : Program} {t : TypeId} {n : Nat} (h : stB P t n = true) : StP P t n := by
  unfold stB at h
  split at h
  · rename_i fs hu
    simp only [Bool.and_eq_true, beq_iff_eq, List.all_eq_true, List.mem_range] at h
    obtain ⟨⟨⟨h1, h2⟩, h3⟩, h4⟩ := h
    refine ⟨⟨fs, hu, h1, fun i hi => ?_⟩, h3, ?_⟩
    · have := h2 i hi
      split at this
      · rename_i f hf
        simp only [Bool.and_eq_true, beq_iff_eq] at this
        exact ⟨f, hf, this.1, this.2⟩
      · cases this
    · split at h4
      · rename_i zs hz
        exact ⟨zs, hz, by simpa using h4⟩
      · cases h4
  · cases h
theorem run_sizeOf' {P : Program} {ty : TypeId} {n : Nat} (h : (P.info? ty).map (·.size) = some n) (w : World) : (sizeOf ty).run P w = .ok n w := by
  cases hi : P.info? ty with
  | none => simp [hi] at h
  | some i => simp [hi] at h; simp [sizeOf, typeInfo, hi, h]
theorem StP.zero {P : Program} {t : TypeId} {n : Nat} (hP : StP P t n) : ∃ zs : Array Value, zs.size = n ∧ ∀ w, (zeroValue t).run P w = .ok (.agg zs) w := by
  obtain ⟨zs, h, hs⟩ := hP.hz
  cases hi : P.info? t with
  | none => simp [hi] at h
  | some i => simp [hi] at h; exact ⟨zs, hs, fun w => by simp [zeroValue, typeInfo, hi, h]⟩
section
variable {P : Program} {t : TypeId} {n : Nat} {o : Oper} {a : Act} {K : Act → World → Prop} {Q : Exit → Act → World → Prop} {w : World}
theorem wp_run' {v : Value} (hrun : (execOp a.eval o).run P w = .ok (.value v) w) (h : K (a.put o.dst v) w) : o.wp P a w K Q := by
  unfold Oper.wp
  rw [hrun]
  exact h
theorem wp_fieldN (hP : StP P t n) {x : Operand} {b off i : Nat} (ho : o.op = .fieldAddr t x i) (hx : a.eval x = .pointer (some ⟨b, off, none⟩)) (hi : i < n) (h : K (a.put o.dst (.pointer (some ⟨b, off + i, none⟩))) w) : o.wp P a w K Q := by
  obtain ⟨fs, hu, _, hf⟩ := hP.hu
  obtain ⟨f, hf, ho2, hs⟩ := hf i hi
  refine wp_run' ?_ h
  simp only [execOp, ho, hx]
  simp [Instr.fieldAt, run_underlying hu, fieldPlace, hf, ho2, run_sizeOf' hs, go_sem, Addr.add]
theorem wp_ld_bool {x : Operand} {p : Addr} {v : Value} (ho : o.op = .load t x) (hx : a.eval x = .pointer (some p)) (hu : P.underlying t = some .bool) (hc : w.cell? p = some v) (h : K (a.put o.dst v) w) : o.wp P a w K Q := by
  refine wp_run' ?_ h
  simp only [execOp, ho, hx]
  simp [isAgg, run_underlying hu, hc, go_sem]
theorem wp_ixN {e : TypeId} {x i : Operand} {b off m c k : Nat} {kk : IntKind} {j : Int} (ho : o.op = .indexAddr t x i) (hu : P.underlying t = some (.slice e)) (hi : (P.info? e).map (·.size) = some n) (hx : a.eval x = .slice (some ⟨b, off, none⟩) m c) (hy : a.eval i = .int kk j) (hj : j = (k : Int)) (hk : k < m)
    (h : K (a.put o.dst (.pointer (some ⟨b, off + k * n, none⟩))) w) : o.wp P a w K Q := by
  subst hj
  refine wp_run' ?_ h
  obtain ⟨inf, hinf, hsz⟩ : ∃ inf, P.info? e = some inf ∧ inf.size = n := by
    cases h : P.info? e with
    | none => simp [h] at hi
    | some i => simp [h] at hi; exact ⟨i, rfl, hi⟩
  simp only [execOp, ho, hx, hy]
  simp [Instr.indexAt, run_underlying hu, asIntOf, hinf, hsz, sizeOf, typeInfo, go_sem, Addr.add]
  rw [if_pos hk]
  by_cases h0 : k = 0
  · subst h0; simp
  · simp
end
end Go.Proofs.Ytjbdkhddnblieaa
namespace Go.Proofs.Ytjbdkhddnblieaa
open Go.RowKit
def BoxN (W : World) (b : Nat) (t : TypeId) (vs : List Value) : Prop := W.heap[b]? = some (.cells vs.toArray t (0, 0))
section
variable {W W' : World} {b : Nat} {t : TypeId} {vs : List Value}
theorem BoxN.new (W : World) (t : TypeId) (vs : List Value) : BoxN (W.alloc (.cells vs.toArray t)) W.heap.size t vs := by unfold BoxN; simp only [World.alloc, Array.getElem?_push_size]
theorem BoxN.lt (h : BoxN W b t vs) : b < W.heap.size := (Array.getElem?_eq_some_iff.1 h).1
theorem BoxN.cell (h : BoxN W b t vs) {i : Nat} {u : Value} (hi : vs[i]? = some u) : W.cell? ⟨b, i, none⟩ = some u := by simp [World.cell?, show W.heap[b]? = _ from h, hi]
theorem BoxN.frozen (h : BoxN W b t vs) (i : Nat) : W.frozen? ⟨b, i, none⟩ = false := by simp [World.frozen?, show W.heap[b]? = _ from h]
theorem BoxN.below {n : Nat} (h : BoxN W b t vs) (hb : Below n W W') (hn : b < n) : BoxN W' b t vs := (hb.block b hn).trans h
theorem BoxN.other {c : Option Nat} (h : BoxN W b t vs) (hg : W.grownBy W' c) (hn : c ≠ some b) : BoxN W' b t vs := (hg.block b h.lt fun e => hn e.symm).trans h
end
section
variable {P : Program} {t : TypeId} {n : Nat} {ops : Array Oper} {rest : List Oper} {o : Oper} {a : Act} {K : Act → World → Prop} {Q : Exit → Act → World → Prop} {w : World}
theorem wp_boxNew {vs : List Value} (hz : (P.info? t).bind (·.zero) = some (.agg vs.toArray)) (ho : o.op = .alloc t) (h : ∀ w', Below w.heap.size w w' → BoxN w' w.heap.size t vs → K (a.put o.dst (.pointer (some ⟨w.heap.size, 0, none⟩))) w') : o.wp P a w K Q := by
  have hzz : (zeroValue t).run P w = .ok (.agg vs.toArray) w := by
    cases hi : P.info? t with
    | none => simp [hi] at hz
    | some i => simp [hi] at hz; simp [zeroValue, typeInfo, hi, hz]
  have hrun : (execOp a.eval o).run P w = .ok (.value (.pointer (some ⟨w.heap.size, 0, none⟩))) (w.alloc (.cells vs.toArray t)) := by
    simp [execOp, ho, newVar, hzz, Value.cells, go_sem]
  unfold Oper.wp
  rw [hrun]
  exact h _ ((Below.refl _ _).alloc (Nat.le_refl _) _) (BoxN.new w t vs)
theorem wpList_boxNew {vs : List Value} (hz : (P.info? t).bind (·.zero) = some (.agg vs.toArray)) (ho : o.op = .alloc t) (hgd : Region.wanted o (yielded ops a.tmps) = true) (h : ∀ w', Below w.heap.size w w' → BoxN w' w.heap.size t vs → wpList P ops Q rest (a.put o.dst (.pointer (some ⟨w.heap.size, 0, none⟩))) w') : wpList P ops Q (o :: rest) a w :=
  BigFrame.wpList_want hgd fun _ hK => wp_boxNew hz ho fun w' h1 h2 => hK _ _ (h w' h1 h2)
theorem wp_boxStore {vs us : List Value} {x y : Operand} {b : Nat} (hs : (P.info? t).map (·.size) = some us.length) (ho : o.op = .store t x y) (hx : a.eval x = .pointer (some ⟨b, 0, none⟩)) (hy : a.eval y = .agg us.toArray) (h1 : us.all (·.oneCell') = true) (hb : BoxN w b t vs) (hl : vs.length = us.length)
    (h : ∀ w', w.grownBy w' (some b) → BoxN w' b t us → K (a.put o.dst undef) w') : o.wp P a w K Q := by
  refine wp_store_row t x y ho b us.toArray hx hy t vs.toArray hb (by simpa using hs) (by simp [hl]) (by simpa using h1) (h _ ⟨rfl, rfl, rfl, by simp [World.setRow], fun k _ hk => ?_⟩ ?_)
  · have hkb : k ≠ b := fun e => hk (by rw [e])
    simp [World.setRow, Array.getElem?_modify, Ne.symm hkb]
  · unfold BoxN at hb ⊢
    simp [World.setRow, Array.getElem?_modify, hb]
theorem wpList_boxStore {vs us : List Value} {x y : Operand} {b : Nat} (hs : (P.info? t).map (·.size) = some us.length) (ho : o.op = .store t x y) (hd : o.dst = none) (hgd : Region.wanted o (yielded ops a.tmps) = true) (hx : a.eval x = .pointer (some ⟨b, 0, none⟩)) (hy : a.eval y = .agg us.toArray) (h1 : us.all (·.oneCell') = true) (hb : BoxN w b t vs) (hl : vs.length = us.length)
    (h : ∀ w', w.grownBy w' (some b) → BoxN w' b t us → wpList P ops Q rest a w') : wpList P ops Q (o :: rest) a w :=
  BigFrame.wpList_want hgd fun _ hK => wp_boxStore hs ho hx hy h1 hb hl fun w' h3 h4 => hK _ _ (by rw [hd]; exact h w' h3 h4)
theorem wp_boxSet {t2 : TypeId} {vs : List Value} {x y : Operand} {b j : Nat} {u : Value} (ho : o.op = .store t2 x y) (hs : (P.info? t2).map (·.size) = some 1) (hx : a.eval x = .pointer (some ⟨b, j, none⟩)) (hy : a.eval y = u) (hu : u.cells = #[u]) (h1 : u.oneCell' = true) (hb : BoxN w b t vs) (hj : j < vs.length)
    (h : ∀ w', w.grownBy w' (some b) → BoxN w' b t (vs.set j u) → K (a.put o.dst undef) w') : o.wp P a w K Q := by
  have hc := hb.cell (i := j) (List.getElem?_eq_getElem hj)
  have hf := hb.frozen j
  refine wp_skip ?_ (h (w.setCell ⟨b, j, none⟩ u) ⟨rfl, rfl, rfl, by simp [World.setCell], fun k _ hk => heap_setCell_other _ ⟨b, j, none⟩ k _ fun e => hk (by rw [e])⟩ ?_)
  · simp only [execOp, ho, hx, hy]
    have hu' := hu
    unfold Value.cells at hu'
    simp [Instr.storeAt, storeVar, run_sizeOf' hs, storeCells, hu', run_store _ _ _ _ _ h1, hc, hf, Addr.add, go_sem]
  · unfold BoxN at hb ⊢
    simp only [World.setCell, Array.getElem?_modify, hb]
    simp
theorem wpList_boxSet {t2 : TypeId} {vs : List Value} {x y : Operand} {b j : Nat} {u : Value} (ho : o.op = .store t2 x y) (hd : o.dst = none) (hgd : Region.wanted o (yielded ops a.tmps) = true) (hs : (P.info? t2).map (·.size) = some 1) (hx : a.eval x = .pointer (some ⟨b, j, none⟩)) (hy : a.eval y = u) (hu : u.cells = #[u]) (h1 : u.oneCell' = true) (hb : BoxN w b t vs) (hj : j < vs.length)
    (h : ∀ w', w.grownBy w' (some b) → BoxN w' b t (vs.set j u) → wpList P ops Q rest a w') : wpList P ops Q (o :: rest) a w :=
  BigFrame.wpList_want hgd fun _ hK => wp_boxSet ho hs hx hy hu h1 hb hj fun w' h3 h4 => hK _ _ (by rw [hd]; exact h w' h3 h4)
theorem wp_load2 (hP : StP P t 2) {x : Operand} {b off : Nat} {u v : Value} (ho : o.op = .load t x) (hx : a.eval x = .pointer (some ⟨b, off, none⟩)) (h0 : w.cell? ⟨b, off, none⟩ = some u) (h1 : w.cell? ⟨b, off + 1, none⟩ = some v) (h : K (a.put o.dst (.agg #[u, v])) w) : o.wp P a w K Q := by
  obtain ⟨fs, hu, hfs, hf⟩ := hP.hu
  refine wp_run' ?_ h
  simp only [execOp, ho, hx]
  simp [Instr.loadAt, loadVar, isAgg, run_underlying hu, run_sizeOf' hP.hs, loadCellsFrom, Addr.add, h0, h1, go_sem]
theorem wp_load4 (hP : StP P t 4) {x : Operand} {b off : Nat} {u v r s : Value} (ho : o.op = .load t x) (hx : a.eval x = .pointer (some ⟨b, off, none⟩)) (h0 : w.cell? ⟨b, off, none⟩ = some u) (h1 : w.cell? ⟨b, off + 1, none⟩ = some v) (h2 : w.cell? ⟨b, off + 2, none⟩ = some r) (h3 : w.cell? ⟨b, off + 3, none⟩ = some s) (h : K (a.put o.dst (.agg #[u, v, r, s])) w) : o.wp P a w K Q := by
  obtain ⟨fs, hu, hfs, hf⟩ := hP.hu
  refine wp_run' ?_ h
  simp only [execOp, ho, hx]
  simp [Instr.loadAt, loadVar, isAgg, run_underlying hu, run_sizeOf' hP.hs, loadCellsFrom, Addr.add, h0, h1, h2, h3, go_sem]
theorem wp_build2 (hP : StP P t 2) {x y : Operand} {u v : Value} (ho : o.op = .build t #[(0, x), (1, y)]) (hx : a.eval x = u) (hy : a.eval y = v) (hu1 : u.cells = #[u]) (hv1 : v.cells = #[v]) (h : K (a.put o.dst (.agg #[u, v])) w) : o.wp P a w K Q := by
  obtain ⟨fs, hu, hfs, hf⟩ := hP.hu
  obtain ⟨f0, g0, o0, s0⟩ := hf 0 (by omega)
  obtain ⟨f1, g1, o1, s1⟩ := hf 1 (by omega)
  obtain ⟨zs, hzs, hz0⟩ := hP.zero
  obtain ⟨l⟩ := fs
  obtain ⟨zl⟩ := zs
  match l, hfs with
  | [k0, k1], _ =>
    match zl, hzs with
    | [z0, z1], _ =>
      simp at g0 g1
      subst g0; subst g1
      refine wp_run' ?_ h
      simp only [execOp, ho, List.map_toArray, List.map_cons, List.map_nil, hx, hy]
      simp [Instr.build, run_underlying hu, hz0, run_sizeOf' s0, run_sizeOf' s1, Instr.fill, hu1, hv1, o0, o1, show (Value.agg #[z0, z1]).cells = #[z0, z1] from rfl]
end
end Go.Proofs.Ytjbdkhddnblieaa
namespace Go.Proofs.Ytjbdkhddnblieaa
open Go.RowKit
def Flat {α : Type} (E : Elt α) (S : Nat → Prop) (w : World) : List α → List Value → Prop
  | [], vs => vs = []
  | x :: xs, vs => ∃ us ws, vs = us ++ ws ∧ E.R S w x us ∧ Flat E S w xs ws
section
variable {α : Type} {E : Elt α} {S S' : Nat → Prop} {w w' : World}
theorem Flat.len : ∀ {xs : List α} {vs : List Value}, Flat E S w xs vs → vs.length = xs.length * E.size
  | [], _, h => by cases h; simp
  | x :: xs, _, ⟨us, ws, rfl, h1, h2⟩ => by rw [List.length_append, E.len h1, Flat.len h2, List.length_cons, Nat.add_mul]; omega
theorem Flat.append : ∀ {xs ys : List α} {vs us : List Value}, Flat E S w xs vs → Flat E S w ys us → Flat E S w (xs ++ ys) (vs ++ us)
  | [], _, _, _, h, k => by cases h; exact k
  | x :: xs, _, _, _, ⟨us, ws, rfl, h1, h2⟩, k => ⟨us, _, by rw [List.append_assoc], h1, Flat.append h2 k⟩
theorem Flat.keep : ∀ {xs : List α} {vs : List Value}, Flat E S w xs vs → (∀ k, S k → w'.heap[k]? = w.heap[k]?) → Flat E S w' xs vs
  | [], _, h, _ => h
  | _ :: _, _, ⟨us, ws, e, h1, h2⟩, hk => ⟨us, ws, e, E.keep h1 hk, Flat.keep h2 hk⟩
theorem Flat.weak : ∀ {xs : List α} {vs : List Value}, Flat E S w xs vs → (∀ k, S k → S' k) → Flat E S' w xs vs
  | [], _, h, _ => h
  | _ :: _, _, ⟨us, ws, e, h1, h2⟩, hk => ⟨us, ws, e, E.weak h1 hk, Flat.weak h2 hk⟩
theorem Flat.one : ∀ {xs : List α} {vs : List Value}, Flat E S w xs vs → ∀ u ∈ vs, u.oneCell' = true
  | [], _, h => by cases h; simp
  | _ :: _, _, ⟨us, ws, e, h1, h2⟩ => by
    subst e
    intro u hu
    rcases List.mem_append.1 hu with hu | hu
    · exact E.one h1 u hu
    · exact Flat.one h2 u hu
theorem Flat.at : ∀ {xs : List α} {vs : List Value} (_ : Flat E S w xs vs) (r : Nat) (hr : r < xs.length), ∃ us, E.R S w xs[r] us ∧ ∀ j u, us[j]? = some u → vs[r * E.size + j]? = some u
  | [], _, _, _, hr => absurd hr (Nat.not_lt_zero _)
  | x :: xs, _, ⟨us, ws, rfl, h1, h2⟩, 0, _ => ⟨us, h1, fun j u hj => by
      rw [Nat.zero_mul, Nat.zero_add, List.getElem?_append_left (List.getElem?_eq_some_iff.1 hj).1]; exact hj⟩
  | x :: xs, _, ⟨us, ws, rfl, h1, h2⟩, r + 1, hr => by
    obtain ⟨us', h3, h4⟩ := Flat.at h2 r (by simpa using hr)
    refine ⟨us', by simpa using h3, fun j u hj => ?_⟩
    have hl := E.len h1
    rw [show (r + 1) * E.size + j = us.length + (r * E.size + j) by rw [hl, Nat.add_mul]; omega, List.getElem?_append_right (Nat.le_add_right _ _), Nat.add_sub_cancel_left]
    exact h4 j u hj
theorem Flat.take : ∀ {xs : List α} {vs : List Value} (_ : Flat E S w xs vs) (k : Nat), Flat E S w (xs.take k) (vs.take (k * E.size))
  | [], _, h, k => by cases h; simp [Flat]
  | x :: xs, _, ⟨us, ws, rfl, h1, h2⟩, 0 => by simp [Flat]
  | x :: xs, _, ⟨us, ws, rfl, h1, h2⟩, k + 1 => by
    refine ⟨us, ws.take (k * E.size), ?_, h1, Flat.take h2 k⟩
    have hl := E.len h1
    rw [show (k + 1) * E.size = us.length + k * E.size by rw [hl, Nat.add_mul]; omega, List.take_length_add_append]
theorem Flat.single {x : α} {us : List Value} (h : E.R S w x us) : Flat E S w [x] us := ⟨us, [], by simp, h, rfl⟩
theorem flat_of {b off : Nat} : ∀ (xs : List α) (k : Nat), (∀ r (h : r < xs.length), ∃ vs, E.R S w xs[r] vs ∧ ∀ j u, vs[j]? = some u → w.cell? ⟨b, off + (k + r) * E.size + j, none⟩ = some u) →
    ∃ vs, Flat E S w xs vs ∧ ∀ j u, vs[j]? = some u → w.cell? ⟨b, off + k * E.size + j, none⟩ = some u
  | [], k, _ => ⟨[], rfl, fun j u h => by simp at h⟩
  | x :: xs, k, h => by
    obtain ⟨us, h1, h2⟩ := h 0 (by simp)
    obtain ⟨ws, h3, h4⟩ := flat_of xs (k + 1) (fun r hr => by
      obtain ⟨vs, h5, h6⟩ := h (r + 1) (by simpa using hr)
      exact ⟨vs, by simpa using h5, fun j u hj => by rw [show k + 1 + r = k + (r + 1) by omega]; exact h6 j u hj⟩)
    refine ⟨us ++ ws, ⟨us, ws, rfl, by simpa using h1, h3⟩, fun j u hj => ?_⟩
    have hl := E.len h1
    rcases Nat.lt_or_ge j us.length with hlt | hge
    · rw [List.getElem?_append_left hlt] at hj
      exact h2 j u hj
    · rw [List.getElem?_append_right hge] at hj
      have := h4 _ u hj
      rw [show off + (k + 1) * E.size + (j - us.length) = off + k * E.size + j by rw [Nat.add_mul]; omega] at this
      exact this
theorem RdL.flat {b off n c : Nat} {xs : List α} (h : RdL E S w (.slice (some ⟨b, off, none⟩) n c) xs) : ∃ vs, Flat E S w xs vs ∧ ∀ j u, vs[j]? = some u → w.cell? ⟨b, off + j, none⟩ = some u := by
  obtain ⟨a, cap, h1, h2, h3, h4⟩ := h
  cases h1
  rcases h4 with rfl | ⟨b', off', e, hb, hq⟩
  · exact ⟨[], rfl, fun j u h => by simp at h⟩
  · cases e
    obtain ⟨vs, h5, h6⟩ := flat_of (b := b) (off := off) xs 0 (fun r hr => by
      obtain ⟨vs, h5, h6⟩ := hq r hr
      exact ⟨vs, h5, fun j u hj => by rw [Nat.zero_add]; exact h6 j u hj⟩)
    exact ⟨vs, h5, fun j u hj => by have := h6 j u hj; rwa [Nat.zero_mul, Nat.add_zero] at this⟩
end
def OwnL {α : Type} (E : Elt α) (T : TypeId) (base lo : Nat) (w : World) (v : Value) (xs : List α) : Prop :=
  ∃ vs, w.ownsRow base T E.size v xs.length vs ∧ Flat E (fun k => lo ≤ k ∧ k < w.heap.size ∧ some k ≠ v.ownBlock) w xs vs
section
variable {α : Type} {E : Elt α} {T : TypeId} {base lo : Nat} {w w' : World} {v : Value} {xs : List α}
theorem OwnL.nil (E : Elt α) (T : TypeId) (base lo : Nat) (w : World) : OwnL E T base lo w (.slice none 0 0) [] := ⟨[], World.ownsRow_nil _ _ _ _, rfl⟩
theorem OwnL.shape (h : OwnL E T base lo w v xs) : ∃ a cap, v = .slice a xs.length cap := by
  obtain ⟨vs, h, _⟩ := h
  rcases h.2 with ⟨rfl, h0⟩ | ⟨g, cap, cur, rfl, _⟩
  · rw [h0]; exact ⟨none, 0, rfl⟩
  · exact ⟨_, _, rfl⟩
theorem OwnL.len {a : Option Addr} {k c : Nat} (h : OwnL E T base lo w (.slice a k c) xs) : k = xs.length := by
  obtain ⟨_, _, e⟩ := h.shape
  cases e; rfl
theorem OwnL.block_lt (h : OwnL E T base lo w v xs) : ∀ k, v.ownBlock = some k → base ≤ k ∧ k < w.heap.size := by
  obtain ⟨vs, h1, _⟩ := h
  exact fun k hk => h1.lt k hk
theorem OwnL.to {base' lo' : Nat} (h : OwnL E T base lo w v xs) (hb : base' ≤ base) (hl : lo' ≤ lo) : OwnL E T base' lo' w v xs := by
  obtain ⟨vs, h1, h2⟩ := h
  exact ⟨vs, ⟨h1.1, h1.2.imp id fun ⟨g, cap, cur, a, b, c⟩ => ⟨g, cap, cur, a, Nat.le_trans hb b, c⟩⟩, h2.weak fun k hk => ⟨Nat.le_trans hl hk.1, hk.2⟩⟩
theorem OwnL.kept (h : OwnL E T base lo w v xs) (hs : w.heap.size ≤ w'.heap.size) (hk : ∀ k, lo ≤ k ∨ base ≤ k → k < w.heap.size → w'.heap[k]? = w.heap[k]?) : OwnL E T base lo w' v xs := by
  obtain ⟨vs, h1, h2⟩ := h
  refine ⟨vs, ⟨h1.1, ?_⟩, (h2.keep fun k hk' => hk k (.inl hk'.1) hk'.2.1).weak fun k hk => ⟨hk.1, Nat.lt_of_lt_of_le hk.2.1 hs, hk.2.2⟩⟩
  rcases h1.2 with h | ⟨g, cap, cur, hv, hb, hg, r⟩
  · exact .inl h
  · exact .inr ⟨g, cap, cur, hv, hb, (hk g (.inr hb) (Array.getElem?_eq_some_iff.1 hg).1).trans hg, r⟩
theorem OwnL.below (h : OwnL E T base lo w v xs) (hb : Below w.heap.size w w') : OwnL E T base lo w' v xs := h.kept hb.size fun k _ hk => hb.block k hk
theorem OwnL.other (h : OwnL E T base lo w v xs) {g : Nat} (hg : w.grownBy w' (some g)) (h1 : g < lo) (h2 : g < base) : OwnL E T base lo w' v xs :=
  h.kept hg.size fun k hk hl => hg.block k hl (fun e => by injection e with e; omega)
theorem OwnL.rdL (h : OwnL E T base lo w v xs) : RdL E (fun k => (lo ≤ k ∨ base ≤ k) ∧ k < w.heap.size) w v xs := by
  obtain ⟨vs, h1, h2⟩ := h
  have hx := h1
  rcases h1.2 with ⟨rfl, h0⟩ | ⟨g, cap, cur, rfl, hb, hg, hn, hc, hcs, ht⟩
  · obtain rfl : xs = [] := List.eq_nil_of_length_eq_zero h0
    exact RdL.nil _ _ _
  · refine ⟨_, cap, rfl, hn, hc, .inr ⟨g, 0, rfl, ⟨.inr hb, (Array.getElem?_eq_some_iff.1 hg).1⟩, fun r hr => ?_⟩⟩
    obtain ⟨us, h3, h4⟩ := h2.at r hr
    refine ⟨us, E.weak h3 fun k hk => ⟨.inl hk.1, hk.2.1⟩, fun j u hj => ?_⟩
    have := hx.cells (g := g) rfl _ u (h4 j u hj)
    simpa [Addr.add_lit] using this
theorem OwnL.rdS {S : Nat → Prop} (h : OwnL E T base lo w v xs) (hs : ∀ k, lo ≤ k ∨ base ≤ k → k < w.heap.size → S k) : RdL E S w v xs := h.rdL.weak fun k hk => hs k hk.1 hk.2
end
structure LoP (P : Program) (T Te : TypeId) (n : Nat) : Prop extends LsP P T Te n where
  hz : ∃ z by', (P.info? Te).map (fun i => (i.zero, i.bytes)) = some (some z, by') ∧ z.cells.size = n ∧ by' ≤ 4096
section
variable {α : Type} {E : Elt α} {P : Program} {T Te : TypeId} {ops : Array Oper} {rest : List Oper} {o : Oper} {a : Act} {Q : Exit → Act → World → Prop} {w : World} {K : Act → World → Prop}
theorem LoP.all {n : Nat} (h : LoP P T Te n) : ∃ i z, P.info? Te = some i ∧ i.zero = some z ∧ i.size = n ∧ i.bytes ≤ 4096 ∧ z.cells.size = n := by
  obtain ⟨i, hi, hs⟩ := h.info
  obtain ⟨z, by', h1, h2, h3⟩ := h.hz
  simp only [hi, Option.map_some, Option.some.injEq, Prod.mk.injEq] at h1
  exact ⟨i, z, hi, h1.1, hs, by omega, h2⟩
theorem run_append_L (hP : LoP P T Te E.size) (w : World) {base lo : Nat} (ty : TypeId) {v : Value} {xs ys : List α} {ns : List Value} (hown : OwnL E Te base lo w v xs) {p : Addr} {c : Nat} {S : Nat → Prop}
    (hcells : ∀ j u, ns[j]? = some u → w.cell? (p.add j) = some u) (hn : Flat E S w ys ns) (hS : ∀ k, S k → lo ≤ k ∧ k < w.heap.size ∧ some k ≠ v.ownBlock) (hbase : base ≤ w.heap.size) (hlen : xs.length + ys.length ≤ 1073741824) :
    ∃ v' w', (Builtin.append_ #[T, T] ty #[v, .slice (some p) ys.length c]).run P w = .ok v' w' ∧ OwnL E Te base lo w' v' (xs ++ ys) ∧ w.grownBy w' v.ownBlock ∧ (v'.ownBlock = v.ownBlock ∨ v'.ownBlock = some w.heap.size) := by
  obtain ⟨i, z, hi, hz, hsz, hby, hzs⟩ := hP.all
  obtain ⟨us, h1, h2⟩ := hown
  obtain ⟨v', w', hr, ho, hg, _, hb⟩ := run_append_own_at (P := P) (w := w) base T ty Te i z E.size i.bytes hP.hT hi hz hsz rfl hzs E.pos v xs.length us h1 p ys.length c ns hn.len hcells hn.one (by unfold maxLen; omega)
    (by have := Nat.mul_le_mul hlen hby; omega) hbase
  refine ⟨v', w', hr, ⟨us ++ ns, by rw [List.length_append]; exact ho, ?_⟩, hg, hb⟩
  have hne : ∀ k, k < w.heap.size → some k ≠ v.ownBlock → some k ≠ v'.ownBlock := fun k h3 h4 => by
    rcases hb with e | e
    · rw [e]; exact h4
    · rw [e]; intro e2; injection e2 with e2; omega
  have hk : ∀ k, lo ≤ k ∧ k < w.heap.size ∧ some k ≠ v.ownBlock → lo ≤ k ∧ k < w'.heap.size ∧ some k ≠ v'.ownBlock := fun k hk => ⟨hk.1, Nat.lt_of_lt_of_le hk.2.1 hg.size, hne k hk.2.1 hk.2.2⟩
  have hsame : ∀ k, lo ≤ k ∧ k < w.heap.size ∧ some k ≠ v.ownBlock → w'.heap[k]? = w.heap[k]? := fun k hk => hg.block k hk.2.1 hk.2.2
  exact ((h2.keep hsame).weak hk).append (((hn.weak hS).keep hsame).weak hk)
theorem fold_set : ∀ (vs : List Value) (k : Nat) (cells : Array Value), k + vs.length ≤ cells.size → (vs.zipIdx k).foldl (fun cs (p : Value × Nat) => cs.setIfInBounds p.2 p.1) cells = (cells.toList.take k ++ vs ++ cells.toList.drop (k + vs.length)).toArray := by
  intro vs
  induction vs with
  | nil => intro k cells _; simp
  | cons v vs ih =>
    intro k cells hk
    simp only [List.length_cons] at hk
    have hlt : k < cells.toList.length := by simp; omega
    simp only [List.zipIdx_cons, List.foldl_cons]
    rw [ih (k + 1) _ (by simp; omega)]
    congr 1
    have e1 : (cells.toList.set k v).take (k + 1) = cells.toList.take k ++ [v] := by
      rw [List.take_succ_eq_append_getElem (by simpa using hlt), List.take_set_of_le (Nat.le_refl _)]
      simp
    have e2 : (cells.toList.set k v).drop (k + 1 + vs.length) = cells.toList.drop (k + (vs.length + 1)) := by
      rw [List.drop_set_of_lt (by omega)]
      congr 1; omega
    simp only [Array.toList_setIfInBounds, List.length_cons, e1, e2]
    simp
theorem run_buildOne {n : Nat} (hP : LoP P T Te n) (w : World) {v : Value} {us : List Value} (hv : v.cells = us.toArray) (hl : us.length = n) (h0 : 0 < n) (hn : n ≤ 4096) :
    (Instr.buildSlice T 1 #[(0, v)]).run P w = .ok (.slice (some ⟨w.heap.size, 0, none⟩) 1 1) (w.alloc (.cells us.toArray Te)) := by
  obtain ⟨i, z, hi, hz, hsz, hby, hzs⟩ := hP.all
  have hf : ∀ cells : Array Value, cells.size = n → Instr.fill (fun i => some (i * n, n)) cells [(0, v)] = some us.toArray := by
    intro cells hc
    have h := fold_set us 0 cells (by omega)
    rw [show 0 + us.length = cells.toList.length by simp [hl, hc], List.drop_length] at h
    simp only [List.take_zero, List.nil_append, List.append_nil] at h
    simp [Instr.fill, hv, hl]
    exact ⟨by omega, by simpa using h⟩
  have hsz2 : ((Array.range (1 * n)).map (fun x => (z.cells)[x % (z.cells).size]!)).size = n := by simp
  have := hf _ hsz2
  simp [Instr.buildSlice, run_underlying hP.hT, sizeOf, typeInfo, zeroValue, hi, hz, hsz, newRow] at this ⊢
  rw [if_neg (by omega), if_neg (by omega), this]
  simp
theorem wp_buildOne {n : Nat} (hP : LoP P T Te n) {y : Operand} {v : Value} {us : List Value} (ho : o.op = .buildSlice T 1 #[(0, y)]) (hy : a.eval y = v) (hv : v.cells = us.toArray) (hl : us.length = n) (h0 : 0 < n) (hn : n ≤ 4096)
    (h : K (a.put o.dst (.slice (some ⟨w.heap.size, 0, none⟩) 1 1)) (w.alloc (.cells us.toArray Te))) : o.wp P a w K Q := by
  have hrun := run_buildOne hP w hv hl h0 hn
  unfold Oper.wp execOp
  simp only [ho, hy, Sem.run_bind, Sem.run_pure, Result.andThen_ok, List.map_toArray, List.map_cons, List.map_nil, hrun]
  exact h
theorem cells_new (w : World) (us : List Value) (t : TypeId) (j : Nat) (u : Value) (h : us[j]? = some u) : (w.alloc (.cells us.toArray t)).cell? (Addr.add ⟨w.heap.size, 0, none⟩ j) = some u := by
  rw [Addr.add_lit, World.cell?]
  simp only [World.alloc, Array.getElem?_push_size]
  simpa using h
theorem wp_appendL (hP : LoP P T Te E.size) {s x : Operand} (ho : o.op = .call { callee := .builtin .append, args := #[s, x], argTypes := #[T, T] })
    {base lo : Nat} {vs : Value} {xs ys : List α} {ns : List Value} {p : Addr} {c : Nat} {S : Nat → Prop} (hs : a.eval s = vs) (hown : OwnL E Te base lo w vs xs) (hx : a.eval x = .slice (some p) ys.length c)
    (hcells : ∀ j u, ns[j]? = some u → w.cell? (p.add j) = some u) (hn : Flat E S w ys ns) (hS : ∀ k, S k → lo ≤ k ∧ k < w.heap.size ∧ some k ≠ vs.ownBlock) (hbase : base ≤ w.heap.size)
    (h : ∀ ad k cap w', OwnL E Te base lo w' (.slice ad k cap) (xs ++ ys) → w.grownBy w' vs.ownBlock → (Value.ownBlock (.slice ad k cap) = vs.ownBlock ∨ Value.ownBlock (.slice ad k cap) = some w.heap.size) → K (a.put o.dst (.slice ad k cap)) w') (hlen : xs.length + ys.length ≤ 1073741824) : o.wp P a w K Q := by
  obtain ⟨v', w', hrun, h2, h3, h4⟩ := run_append_L hP w o.type hown hcells hn hS hbase hlen (c := c)
  obtain ⟨ad, cap, rfl⟩ := h2.shape
  unfold Oper.wp execOp
  simp only [ho, resolve, invoke, builtin, Sem.run_bind, Sem.run_pure, Result.andThen_ok, List.map_toArray, List.map_cons, List.map_nil, hs, hx, hrun]
  exact h _ _ _ _ h2 h3 h4
theorem wpList_appendL (hP : LoP P T Te E.size) {s x : Operand} (ho : o.op = .call { callee := .builtin .append, args := #[s, x], argTypes := #[T, T] }) (hgd : Region.wanted o (yielded ops a.tmps) = true)
    {base lo : Nat} {vs : Value} {xs ys : List α} {ns : List Value} {p : Addr} {c : Nat} {S : Nat → Prop} (hs : a.eval s = vs) (hown : OwnL E Te base lo w vs xs) (hx : a.eval x = .slice (some p) ys.length c)
    (hcells : ∀ j u, ns[j]? = some u → w.cell? (p.add j) = some u) (hn : Flat E S w ys ns) (hS : ∀ k, S k → lo ≤ k ∧ k < w.heap.size ∧ some k ≠ vs.ownBlock) (hbase : base ≤ w.heap.size)
    (h : ∀ ad k cap w', OwnL E Te base lo w' (.slice ad k cap) (xs ++ ys) → w.grownBy w' vs.ownBlock → (Value.ownBlock (.slice ad k cap) = vs.ownBlock ∨ Value.ownBlock (.slice ad k cap) = some w.heap.size) → wpList P ops Q rest (a.put o.dst (.slice ad k cap)) w') (hlen : xs.length + ys.length ≤ 1073741824) : wpList P ops Q (o :: rest) a w :=
  BigFrame.wpList_want hgd fun _ hK => wp_appendL hP ho hs hown hx hcells hn hS hbase (fun ad k cap w' h1 h2 h3 => hK _ _ (h ad k cap w' h1 h2 h3)) hlen
theorem run_append_zeroL (hP : LoP P T Te E.size) (w : World) {base lo : Nat} (ty : TypeId) {g : Addr} {ax : Option Addr} {cx nx : Nat} {ys : List α} {S : Nat → Prop} (hown : OwnL E Te base lo w (.slice (some g) 0 0) []) (hx : RdL E S w (.slice ax nx cx) ys)
    (hS : ∀ k, S k → lo ≤ k ∧ k < w.heap.size) (hbase : base ≤ w.heap.size) (hlen : ys.length ≤ 1073741824) :
    ∃ v' w', (Builtin.append_ #[T, T] ty #[.slice (some g) 0 0, .slice ax nx cx]).run P w = .ok v' w' ∧ OwnL E Te base lo w' v' ys ∧ Below w.heap.size w w' := by
  obtain ⟨i, z, hi, hz, hsz, hby, hzs⟩ := hP.all
  obtain ⟨rfl, _, _⟩ := hx.len
  by_cases h0 : ys = []
  · subst h0
    have hsrc : Src P i.size T (.slice ax 0 cx) 0 [] w := by
      cases ax with
      | none => exact Src.ofNil w hP.hT cx
      | some p => exact Src.ofSlice w hP.hT p 0 cx [] (by simp) (fun j u h => by simp at h) (fun u h => by cases h)
    exact ⟨_, w, run_append_nothing w T T ty Te i hP.hT hi (some g) 0 0 (Nat.le_refl _) _ hsrc, hown, Below.refl _ _⟩
  · have hpos : 0 < ys.length := List.length_pos_iff.2 h0
    obtain ⟨b, off, _, rfl, _⟩ := hx.at 0 hpos
    obtain ⟨ns, hn, hc⟩ := hx.flat
    have hnl := hn.len
    have hsrc : Src P i.size T (.slice (some ⟨b, off, none⟩) ys.length cx) ys.length ns w :=
      Src.ofSlice w hP.hT _ _ _ _ (by rw [hnl, hsz]) (fun j u hj => by rw [Addr.add_lit]; exact hc j u hj) hn.one
    have hbytes : (ys.length) * i.bytes ≤ 1073741824 * 4096 := Nat.mul_le_mul hlen hby
    have hr := run_append_grow_src (P := P) w T T ty Te i z hP.hT hi hz (some g) 0 0 [] (run_firstCells_some w.drew i.size 0 g 0 0 [] (by simp) (fun j u h => by simp at h)) _ _ _ hsrc (by omega) (by omega)
      (growslice_fits (by simp only [Nat.zero_add]; omega) (by simp only [Nat.zero_add]; omega))
    have hb : Below w.heap.size w (w.drew.alloc (.cells (([] ++ ns : List Value).toArray ++ Builtin.zeroCells z.cells (grownCap w (0 + ys.length) 0 Te - (0 + ys.length))) Te)) := ((Below.refl _ w).drew).alloc (Nat.le_refl _) _
    have hge := grownCap_ge w (0 + ys.length) 0 Te
    refine ⟨_, _, hr, ⟨ns, ⟨by rw [hnl], .inr ⟨w.heap.size, grownCap w (0 + ys.length) 0 Te, _, by rw [Nat.zero_add], hbase, heap_alloc_new w.drew _, by omega, grownCap_le_maxLen w _ _ _ (by unfold maxLen; omega), ?_, ?_⟩⟩, ?_⟩, hb⟩
    · rw [Nat.zero_add] at hge ⊢
      simp [size_zeroCells, hnl, hzs]
      rw [← Nat.add_mul]
      congr 1
      omega
    · simp only [List.nil_append, Array.toList_append]
      rw [← hnl]
      simp
    · refine ((hn.weak (S' := fun k => lo ≤ k ∧ k < w.heap.size) hS).keep (w' := _) (fun k hk => hb.block k hk.2)).weak fun k hk => ⟨hk.1, Nat.lt_of_lt_of_le hk.2 hb.size, ?_⟩
      intro e
      have h5 := hk.2
      simp only [Value.ownBlock] at e
      injection e with e
      omega
theorem wp_append_zeroL (hP : LoP P T Te E.size) {s x : Operand} (ho : o.op = .call { callee := .builtin .append, args := #[s, x], argTypes := #[T, T] })
    {base lo : Nat} {g : Addr} {ax : Option Addr} {cx nx : Nat} {ys : List α} {S : Nat → Prop} (hs : a.eval s = .slice (some g) 0 0) (hown : OwnL E Te base lo w (.slice (some g) 0 0) []) (hx : a.eval x = .slice ax nx cx) (hr : RdL E S w (.slice ax nx cx) ys)
    (hS : ∀ k, S k → lo ≤ k ∧ k < w.heap.size) (hbase : base ≤ w.heap.size)
    (h : ∀ ad k cap w', OwnL E Te base lo w' (.slice ad k cap) ys → Below w.heap.size w w' → K (a.put o.dst (.slice ad k cap)) w') (hlen : ys.length ≤ 1073741824) : o.wp P a w K Q := by
  obtain ⟨v', w', hrun, h2, h3⟩ := run_append_zeroL hP w o.type hown hr hS hbase hlen
  obtain ⟨ad, cap, rfl⟩ := h2.shape
  unfold Oper.wp execOp
  simp only [ho, resolve, invoke, builtin, Sem.run_bind, Sem.run_pure, Result.andThen_ok, List.map_toArray, List.map_cons, List.map_nil, hs, hx, hrun]
  exact h _ _ _ _ h2 h3
end
end Go.Proofs.Ytjbdkhddnblieaa
namespace Go.Proofs.Ytjbdkhddnblieaa
open Go.ChangeShapes Go.WideShapes Go.ChangeAt Go.RowKit Go.Deep
def Opens {α : Type} (P : Program) (t : TypeId) (E : Elt α) : Prop :=
  ∀ {H : Type} {enc : TypeId × Value → H} {w : World} {base : Nat} {held : Bool} {fuel : Nat} {cs : List Value} {x : DataW H × List MemPlace}, DataW.trod enc P w base (fun _ => true) held fuel t cs = some x → ∃ d, E.R (· < w.heap.size) w d cs
theorem choose_list {α : Type} {p : Nat → α → Prop} : ∀ n, (∀ i, i < n → ∃ d, p i d) → ∃ l : List α, l.length = n ∧ ∀ i (h : i < l.length), p i l[i]
  | 0, _ => ⟨[], rfl, fun i h => absurd h (Nat.not_lt_zero _)⟩
  | n + 1, h => by
    obtain ⟨l, hl, hp⟩ := choose_list n (fun i hi => h i (by omega))
    obtain ⟨d, hd⟩ := h n (Nat.lt_succ_self n)
    refine ⟨l ++ [d], by simp [hl], fun i hi => ?_⟩
    rcases Nat.lt_or_ge i l.length with h1 | h1
    · rw [List.getElem_append_left h1]; exact hp i h1
    · rw [List.length_append] at hi
      simp only [List.length_cons, List.length_nil] at hi
      obtain rfl : i = l.length := by omega
      rw [List.getElem_append_right (Nat.le_refl _)]
      simp only [Nat.sub_self, List.getElem_cons_zero]
      rw [hl]; exact hd
section
variable {P : Program} {t e : TypeId}
theorem Opens.bytes (ht : P.underlying t = some (.slice e)) (he : P.underlying e = some (.int .u8)) (hc : P.cellsOf e = 1) : Opens P t Elt.bytes := by
  intro H enc w base held fuel cs x h
  rcases open_ints ht he hc h with ⟨hcs, _⟩ | ⟨x, l, c, zs, hcs, _, hl, hm, hz, _, hcell, hwz⟩
  · exact ⟨_, _, hcs, (Rd.of_row (.inl ⟨rfl, rfl, rfl, rfl⟩)).s⟩
  · exact ⟨_, _, hcs, (Rd.of_row (.inr ⟨_, rfl, hl, hm, by simpa using hz, hcell, hwz⟩)).s⟩
theorem Opens.list {α : Type} {E : Elt α} (ht : P.underlying t = some (.slice e)) (hc : P.cellsOf e = E.size) (hE : Opens P e E) : Opens P t (Elt.list E) := by
  intro H enc w base held fuel cs x h
  rcases open_slice ht h with ⟨rfl, _⟩ | ⟨a, len, cap, m, n, D, Pl, rfl, hb, hl, hm, hmm, _, hi⟩
  · exact ⟨[], _, rfl, RdL.nil _ _ _⟩
  · have hlm : len ≤ m := by rw [hmm]; split <;> omega
    obtain ⟨l, hll, hp⟩ := choose_list (p := fun i d => ∃ cs', E.R (· < w.heap.size) w d cs' ∧ ∀ j, j < cs'.length → w.cell? (a.add (i * E.size + j)) = cs'[j]?) len (fun i hil => by
      obtain ⟨cs', h1, h2⟩ := hi i (by omega)
      obtain ⟨d, hd⟩ := hE h2
      obtain ⟨_, hcl, hat⟩ := World.cells?_some h1
      refine ⟨d, cs', hd, fun j hj => ?_⟩
      have := hat j (by omega)
      rw [add_add, hc] at this
      exact this)
    refine ⟨l, _, rfl, ?_⟩
    rw [← hll] at hl ⊢
    refine ⟨some a, cap, rfl, hl, hm, ?_⟩
    rcases Nat.eq_zero_or_pos l.length with h0 | h0
    · exact .inl (List.eq_nil_of_length_eq_zero h0)
    · obtain ⟨cs0, hR0, hc0⟩ := hp 0 h0
      have hl0 := E.len hR0
      have hpos := E.pos
      have hcell := hc0 0 (by omega)
      rw [List.getElem?_eq_getElem (by omega)] at hcell
      obtain ⟨b, off, spot⟩ := a
      have hspot : spot = none := by simpa [Addr.add] using World.cell?_spot hcell
      subst hspot
      have hblt := World.block_lt_of_cell? w _ hcell
      refine .inr ⟨b, off, rfl, by simpa [Addr.add_lit] using hblt, fun r hr => ?_⟩
      obtain ⟨cs', hR, hcs⟩ := hp r hr
      refine ⟨cs', hR, fun j u hj => ?_⟩
      have := hcs j (List.getElem?_eq_some_iff.1 hj).1
      rw [hj, Addr.add_lit, ← Nat.add_assoc] at this
      exact this
theorem Opens.rdL {α : Type} {E : Elt α} (hO : Opens P t (Elt.list E)) {H : Type} {enc : TypeId × Value → H} {w : World} {base : Nat} {held : Bool} {fuel : Nat} {a : Option Addr} {n c : Nat} {x : DataW H × List MemPlace}
    (h : DataW.trod enc P w base (fun _ => true) held fuel t [.slice a n c] = some x) : ∃ xs, RdL E (· < w.heap.size) w (.slice a n c) xs := by
  obtain ⟨d, v, hv, hR⟩ := hO h
  cases hv
  exact ⟨d, hR⟩
end
end Go.Proofs.Ytjbdkhddnblieaa
namespace Go.Proofs.Ytjbdkhddnblieaa
structure Tot {K : Type} (lt : K → K → Bool) : Prop where
  irr : ∀ a, lt a a = false
  tr : ∀ {a b c}, lt a b = true → lt b c = true → lt a c = true
  tot : ∀ {a b}, a ≠ b → lt a b = false → lt b a = true
theorem totB : Tot ltB := ⟨ltB_irrefl, ltB_trans, ltB_total⟩
theorem Tot.ne {K : Type} {lt : K → K → Bool} (h : Tot lt) {a b : K} (h2 : lt a b = true) : a ≠ b := fun e => by subst e; rw [h.irr] at h2; cases h2
theorem Tot.asy {K : Type} {lt : K → K → Bool} (h : Tot lt) {a b : K} (h2 : lt a b = true) : lt b a = false := by
  cases hb : lt b a with
  | false => rfl
  | true => rw [← h.irr a]; exact (h.tr h2 hb).symm
section
variable {K α : Type} [DecidableEq K] (lt : K → K → Bool) (key : α → K)
def SrtE (l : List α) : Prop := l.Pairwise fun a b => lt (key a) (key b) = true
def insE (x : α) : List α → List α
  | [] => [x]
  | y :: l => if key x = key y then x :: l else if lt (key x) (key y) then x :: y :: l else y :: insE x l
def delE (k : K) (l : List α) : List α := l.filter fun y => decide (key y ≠ k)
def findE (k : K) (l : List α) : Option α := l.find? fun y => decide (key y = k)
variable {lt key}
theorem findE_nil (k : K) : findE key k [] = none := rfl
theorem findE_cons (k : K) (y : α) (l : List α) : findE key k (y :: l) = if key y = k then some y else findE key k l := by
  unfold findE
  by_cases h : key y = k <;> simp [h]
theorem findE_some {k : K} {l : List α} {x : α} (h : findE key k l = some x) : x ∈ l ∧ key x = k := by
  unfold findE at h
  exact ⟨List.mem_of_find?_eq_some h, by simpa using List.find?_some h⟩
theorem findE_none {k : K} {l : List α} : findE key k l = none ↔ ∀ y ∈ l, key y ≠ k := by
  unfold findE
  simp
theorem findE_mem (ht : Tot lt) {l : List α} (hs : SrtE lt key l) {x : α} (hx : x ∈ l) : findE key (key x) l = some x := by
  induction l with
  | nil => cases hx
  | cons y l ih =>
    have h2 := List.pairwise_cons.1 hs
    rw [findE_cons]
    rcases List.mem_cons.1 hx with rfl | h
    · rw [if_pos rfl]
    · rw [if_neg (ht.ne (h2.1 x h)), ih h2.2 h]
theorem insE_mem {x y : α} : ∀ {l : List α}, y ∈ insE lt key x l → y = x ∨ y ∈ l
  | [], h => by simpa [insE] using h
  | z :: l, h => by
    unfold insE at h
    split at h
    · rcases List.mem_cons.1 h with h | h
      · exact .inl h
      · exact .inr (List.mem_cons_of_mem _ h)
    · split at h
      · rcases List.mem_cons.1 h with h | h
        · exact .inl h
        · exact .inr h
      · rcases List.mem_cons.1 h with h | h
        · exact .inr (by simp [h])
        · rcases insE_mem h with h | h
          · exact .inl h
          · exact .inr (List.mem_cons_of_mem _ h)
theorem insE_srt (ht : Tot lt) {x : α} : ∀ {l : List α}, SrtE lt key l → SrtE lt key (insE lt key x l)
  | [], _ => by unfold insE SrtE; simp
  | z :: l, h => by
    have h2 := List.pairwise_cons.1 h
    unfold insE
    split
    · rename_i e
      exact List.pairwise_cons.2 ⟨fun y hy => by rw [e]; exact h2.1 y hy, h2.2⟩
    · rename_i e
      split
      · rename_i e2
        refine List.pairwise_cons.2 ⟨fun y hy => ?_, h⟩
        rcases List.mem_cons.1 hy with rfl | hy
        · exact e2
        · exact ht.tr e2 (h2.1 y hy)
      · rename_i e2
        refine List.pairwise_cons.2 ⟨fun y hy => ?_, insE_srt ht h2.2⟩
        rcases insE_mem hy with rfl | hy
        · exact ht.tot e (by simpa using e2)
        · exact h2.1 y hy
theorem findE_lt (ht : Tot lt) {k : K} {l : List α} (h : ∀ y ∈ l, lt k (key y) = true) : findE key k l = none :=
  findE_none.2 fun y hy => (ht.ne (h y hy)).symm
theorem findE_ins (ht : Tot lt) {x : α} {k : K} : ∀ {l : List α}, SrtE lt key l → findE key k (insE lt key x l) = if key x = k then some x else findE key k l
  | [], _ => by unfold insE; rw [findE_cons]
  | z :: l, h => by
    have h2 := List.pairwise_cons.1 h
    unfold insE
    split
    · rename_i e
      rw [findE_cons, findE_cons, ← e]
      split <;> rfl
    · rename_i e
      split
      · rw [findE_cons]
      · rw [findE_cons, findE_ins ht h2.2, findE_cons]
        by_cases e3 : key x = k
        · rw [if_pos e3, if_pos e3, if_neg (by rw [← e3]; exact fun e4 => e e4.symm)]
        · rw [if_neg e3, if_neg e3]
theorem delE_srt {k : K} {l : List α} (h : SrtE lt key l) : SrtE lt key (delE key k l) := h.filter _
theorem findE_del {k k' : K} {l : List α} : findE key k (delE key k' l) = if k = k' then none else findE key k l := by
  induction l with
  | nil => unfold delE; simp [findE_nil]
  | cons y l ih =>
    unfold delE at ih ⊢
    rw [List.filter_cons]
    by_cases e : key y = k'
    · rw [if_neg (by simp [e]), ih, findE_cons]
      by_cases e2 : k = k'
      · rw [if_pos e2, if_pos e2]
      · rw [if_neg e2, if_neg e2, if_neg (by rw [e]; exact fun h => e2 h.symm)]
    · rw [if_pos (by simp [e]), findE_cons, findE_cons, ih]
      by_cases e2 : key y = k
      · rw [if_pos e2, if_pos e2, if_neg (by rw [← e2]; exact e)]
      · rw [if_neg e2, if_neg e2]
theorem srtE_ext (ht : Tot lt) : ∀ {l r : List α}, SrtE lt key l → SrtE lt key r → (∀ k, findE key k l = findE key k r) → l = r
  | [], [], _, _, _ => rfl
  | [], y :: r, _, _, h => by have := h (key y); rw [findE_cons, if_pos rfl] at this; cases this
  | x :: l, [], _, _, h => by have := h (key x); rw [findE_cons, if_pos rfl] at this; cases this
  | x :: l, y :: r, hl, hr, h => by
    have hl2 := List.pairwise_cons.1 hl
    have hr2 := List.pairwise_cons.1 hr
    have hxy : x = y := by
      have h1 := h (key x)
      have h2 := h (key y)
      rw [findE_cons, if_pos rfl, findE_cons] at h1
      rw [findE_cons, findE_cons, if_pos rfl] at h2
      by_cases e : key y = key x
      · rw [if_pos e] at h1; injection h1
      · rw [if_neg e] at h1
        rw [if_neg (fun e2 => e e2.symm)] at h2
        have h3 := hr2.1 x (findE_some h1.symm).1
        have h4 := hl2.1 y (findE_some h2).1
        have := ht.asy h3
        rw [h4] at this
        cases this
    subst hxy
    rw [srtE_ext ht hl2.2 hr2.2 fun k => ?_]
    have h1 := h k
    rw [findE_cons, findE_cons] at h1
    by_cases e : key x = k
    · rw [findE_lt ht (l := l) (k := k) (by rw [← e]; exact hl2.1), findE_lt ht (l := r) (k := k) (by rw [← e]; exact hr2.1)]
    · rwa [if_neg e, if_neg e] at h1
end
theorem srtE_get {K α : Type} {lt : K → K → Bool} {key : α → K} {l : List α} (h : SrtE lt key l) {i j : Nat} (hij : i < j) (hj : j < l.length) : lt (key (l[i]'(by omega))) (key l[j]) = true := List.pairwise_iff_getElem.1 h i j (by omega) hj hij
structure Wr where
  table : Int
  key : List UInt8
  gone : Bool
  val : List UInt8
deriving DecidableEq
structure Pq where
  key : List UInt8
  val : List UInt8
deriving DecidableEq
structure Dl where
  writes : List Wr
  marks : List Int
deriving DecidableEq
structure Sp where
  table : Int
  lo : List UInt8
  hi : List UInt8
  isOpen : Bool
deriving DecidableEq
structure Plc where
  table : Int
  key : List UInt8
deriving DecidableEq
def Wr.plc (w : Wr) : Plc := ⟨w.table, w.key⟩
def ltP (a b : Plc) : Bool := decide (a.table < b.table) || (decide (a.table = b.table) && ltB a.key b.key)
theorem totP : Tot ltP where
  irr a := by simp [ltP, ltB_irrefl]
  tr := by
    intro a b c h k
    simp only [ltP, Bool.or_eq_true, decide_eq_true_eq, Bool.and_eq_true] at h k ⊢
    rcases h with h | ⟨h, h2⟩ <;> rcases k with k | ⟨k, k2⟩
    · exact .inl (by omega)
    · exact .inl (by omega)
    · exact .inl (by omega)
    · exact .inr ⟨by omega, ltB_trans h2 k2⟩
  tot := by
    intro a b hne h
    simp only [ltP, Bool.or_eq_false_iff, decide_eq_false_iff_not, Bool.and_eq_false_iff, Bool.or_eq_true, decide_eq_true_eq, Bool.and_eq_true] at h ⊢
    obtain ⟨h1, h2⟩ := h
    by_cases e : a.table = b.table
    · refine .inr ⟨e.symm, ltB_total (fun e2 => hne ?_) ?_⟩
      · cases a; cases b; simp_all
      · rcases h2 with h2 | h2
        · exact absurd e h2
        · exact h2
    · exact .inl (by omega)
def mayW (w : Wr) : Prop := 0 ≤ w.table ∧ w.table ≤ 3 ∧ w.key.length ≤ 16 ∧ w.val.length ≤ 32 ∧ (w.gone = true → w.val = [])
instance (w : Wr) : Decidable (mayW w) := by unfold mayW; exact inferInstance
def okM (n : Int) : Int → List Int → Prop
  | _, [] => True
  | l, m :: ms => l ≤ m ∧ m ≤ n ∧ okM n m ms
instance decM (n : Int) : ∀ l ms, Decidable (okM n l ms)
  | _, [] => isTrue trivial
  | l, m :: ms => by unfold okM; have := decM n m ms; exact inferInstance
def okD (d : Dl) : Prop := d.writes.length ≤ 20 ∧ d.marks.length ≤ 4 ∧ (∀ w ∈ d.writes, mayW w) ∧ okM d.writes.length 0 d.marks
instance (d : Dl) : Decidable (okD d) := by unfold okD; exact inferInstance
def putD (d : Dl) (w : Wr) : Dl × Nat := if okD d ∧ mayW w then if d.writes.length = 20 then (d, 80) else (⟨d.writes ++ [w], d.marks⟩, 0) else (d, 1)
def markD (d : Dl) : Dl × Nat := if okD d then if d.marks.length = 4 then (d, 80) else (⟨d.writes, d.marks ++ [(d.writes.length : Int)]⟩, 0) else (d, 1)
def backD (d : Dl) (n : Int) : Dl × Nat := if okD d ∧ 0 ≤ n ∧ n < d.marks.length then (⟨d.writes.take (d.marks.getD n.toNat 0).toNat, d.marks.take (n.toNat + 1)⟩, 0) else (d, 1)
def findW (ws : List Wr) (p : Plc) : Option Wr := findE Wr.plc p ws.reverse
def findD (d : Dl) (p : Plc) : Option Wr := if okD d then findW d.writes p else none
def lastW (ws : List Wr) : List Wr := ws.foldl (fun acc w => insE ltP Wr.plc w acc) []
def lastD (d : Dl) : List Wr := if okD d then lastW d.writes else []
def inS (x : Sp) (k : List UInt8) : Bool := !ltB k x.lo && (x.isOpen || ltB k x.hi)
def doneW (w : Wr) (l : List Pq) : List Pq := if w.gone then delE Pq.key w.key l else insE ltB Pq.key ⟨w.key, w.val⟩ l
def overW (x : Sp) (ws : List Wr) (l : List Pq) : List Pq := ws.foldl (fun acc w => if w.table = x.table ∧ inS x w.key = true then doneW w acc else acc) l
abbrev SrtQ (l : List Pq) : Prop := SrtE ltB Pq.key l
instance (l : List Pq) : Decidable (SrtQ l) := by unfold SrtQ SrtE; exact inferInstance
def overD (d : Dl) (x : Sp) (l : List Pq) : List Pq := if SrtQ l then overW x (lastD d) l else l
theorem lastW_snoc (ws : List Wr) (w : Wr) : lastW (ws ++ [w]) = insE ltP Wr.plc w (lastW ws) := by unfold lastW; simp
theorem findW_snoc (ws : List Wr) (w : Wr) (p : Plc) : findW (ws ++ [w]) p = if w.plc = p then some w else findW ws p := by
  unfold findW
  rw [List.reverse_append, List.reverse_singleton, List.singleton_append, findE_cons]
theorem snocInd {α : Type} {p : List α → Prop} (h0 : p []) (h1 : ∀ l x, p l → p (l ++ [x])) (l : List α) : p l := by
  have : ∀ n (l : List α), l.length = n → p l := by
    intro n
    induction n with
    | zero => intro l h; rw [List.eq_nil_of_length_eq_zero h]; exact h0
    | succ n ih =>
      intro l h
      have hne : l ≠ [] := fun e => by subst e; cases h
      rw [← List.dropLast_concat_getLast hne]
      exact h1 _ _ (ih _ (by simp [h]))
  exact this _ l rfl
theorem last_srt (ws : List Wr) : SrtE ltP Wr.plc (lastW ws) := by
  induction ws using snocInd with
  | h0 => exact List.Pairwise.nil
  | h1 ws w ih => rw [lastW_snoc]; exact insE_srt totP ih
theorem last_find (ws : List Wr) (p : Plc) : findE Wr.plc p (lastW ws) = findW ws p := by
  induction ws using snocInd with
  | h0 => rfl
  | h1 ws w ih => rw [lastW_snoc, findE_ins totP (last_srt ws), findW_snoc, ih]
theorem last_mem {ws : List Wr} {w : Wr} (h : w ∈ lastW ws) : w ∈ ws := by
  have h2 := findE_mem totP (last_srt ws) h
  rw [last_find] at h2
  exact List.mem_reverse.1 (findE_some h2).1
theorem last_len (ws : List Wr) : (lastW ws).length ≤ ws.length := by
  have hi : ∀ (w : Wr) (l : List Wr), (insE ltP Wr.plc w l).length ≤ l.length + 1 := by
    intro w l
    induction l with
    | nil => simp [insE]
    | cons y l ih =>
      unfold insE
      split
      · simp
      · split
        · simp
        · simp; exact ih
  induction ws using snocInd with
  | h0 => simp [lastW]
  | h1 ws w ih => rw [lastW_snoc, List.length_append]; have := hi w (lastW ws); simp; omega
theorem done_srt {w : Wr} {l : List Pq} (h : SrtQ l) : SrtQ (doneW w l) := by
  unfold doneW
  split
  · exact delE_srt h
  · exact insE_srt totB h
def stepW (x : Sp) (acc : List Pq) (w : Wr) : List Pq := if w.table = x.table ∧ inS x w.key = true then doneW w acc else acc
theorem overW_cons (x : Sp) (w : Wr) (ws : List Wr) (l : List Pq) : overW x (w :: ws) l = overW x ws (stepW x l w) := rfl
theorem overW_snoc (x : Sp) (w : Wr) (ws : List Wr) (l : List Pq) : overW x (ws ++ [w]) l = stepW x (overW x ws l) w := by unfold overW; simp; rfl
theorem step_srt {x : Sp} {w : Wr} {l : List Pq} (h : SrtQ l) : SrtQ (stepW x l w) := by
  unfold stepW
  split
  · exact done_srt h
  · exact h
theorem over_srt {x : Sp} : ∀ {ws : List Wr} {l : List Pq}, SrtQ l → SrtQ (overW x ws l)
  | [], _, h => h
  | w :: ws, l, h => by rw [overW_cons]; exact over_srt (step_srt h)
theorem over_find {x : Sp} {k : List UInt8} : ∀ {ws : List Wr} {l : List Pq}, SrtE ltP Wr.plc ws → SrtQ l →
    findE Pq.key k (overW x ws l) = if inS x k = true then (match findE Wr.plc ⟨x.table, k⟩ ws with | some w => if w.gone = true then none else some ⟨k, w.val⟩ | none => findE Pq.key k l) else findE Pq.key k l
  | [], l, _, _ => by simp [overW, findE_nil]
  | w :: ws, l, hs, hl => by
    have hs2 := List.pairwise_cons.1 hs
    rw [overW_cons, over_find hs2.2 (step_srt hl)]
    by_cases hp : w.plc = ⟨x.table, k⟩
    · have hf : findE Wr.plc ⟨x.table, k⟩ ws = none := findE_lt totP (by rw [← hp]; exact hs2.1)
      rw [hf, findE_cons, if_pos hp]
      have h1 : w.table = x.table := congrArg Plc.table hp
      have h2 : w.key = k := congrArg Plc.key hp
      by_cases hk : inS x k = true
      · rw [if_pos hk, if_pos hk]
        unfold stepW
        rw [if_pos ⟨h1, by rw [h2]; exact hk⟩]
        unfold doneW
        by_cases hg : w.gone = true
        · rw [if_pos hg, findE_del, if_pos h2.symm]; simp [hg]
        · rw [if_neg hg, findE_ins totB hl, if_pos h2]; simp [hg, h2]
      · rw [if_neg hk, if_neg hk]
        unfold stepW
        rw [if_neg (fun h => hk (by rw [← h2]; exact h.2))]
    · rw [findE_cons, if_neg hp]
      have hst : findE Pq.key k (stepW x l w) = findE Pq.key k l ∨ inS x k = false ∧ w.key = k := by
        unfold stepW
        split
        · rename_i h
          by_cases hk : w.key = k
          · exfalso
            refine hp ?_
            unfold Wr.plc
            rw [h.1, hk]
          · left
            unfold doneW
            split
            · rw [findE_del, if_neg (fun e => hk e.symm)]
            · rw [findE_ins totB hl, if_neg hk]
        · exact .inl rfl
      rcases hst with e | ⟨e, e2⟩
      · rw [e]
      · have : findE Pq.key k (stepW x l w) = findE Pq.key k l := by
          unfold stepW
          rw [if_neg (fun h => by rw [e2, e] at h; exact Bool.false_ne_true h.2)]
        rw [this]
theorem lastD_srt (d : Dl) : SrtE ltP Wr.plc (lastD d) := by
  unfold lastD
  split
  · exact last_srt _
  · exact List.Pairwise.nil
theorem lastD_find (d : Dl) (p : Plc) : findE Wr.plc p (lastD d) = findD d p := by
  unfold lastD findD
  split
  · exact last_find _ _
  · rfl
theorem okM_snoc {n : Int} : ∀ {l : Int} {ms : List Int} {m : Int}, okM n l (ms ++ [m]) ↔ okM n l ms ∧ ms.getLastD l ≤ m ∧ m ≤ n
  | l, [], m => by simp [okM]
  | l, a :: ms, m => by
    show l ≤ a ∧ a ≤ n ∧ okM n a (ms ++ [m]) ↔ _
    rw [okM_snoc]
    show _ ↔ (l ≤ a ∧ a ≤ n ∧ okM n a ms) ∧ (a :: ms).getLastD l ≤ m ∧ m ≤ n
    have e : (a :: ms).getLastD l = ms.getLastD a := by cases ms <;> rfl
    rw [e]
    constructor
    · rintro ⟨h1, h2, h3, h4, h5⟩; exact ⟨⟨h1, h2, h3⟩, h4, h5⟩
    · rintro ⟨⟨h1, h2, h3⟩, h4, h5⟩; exact ⟨h1, h2, h3, h4, h5⟩
theorem okM_get {n l : Int} {ms : List Int} (h : okM n l ms) {i : Nat} (hi : i < ms.length) : l ≤ ms[i] ∧ ms[i] ≤ n := by
  induction ms generalizing l i with
  | nil => cases hi
  | cons a ms ih =>
    cases i with
    | zero => exact ⟨h.1, h.2.1⟩
    | succ i =>
      have := ih h.2.2 (i := i) (by simpa using hi)
      exact ⟨Int.le_trans h.1 this.1, this.2⟩
theorem okM_take {n l : Int} {ms : List Int} (h : okM n l ms) (k : Nat) : okM n l (ms.take k) := by
  induction ms generalizing l k with
  | nil => simpa using h
  | cons a ms ih =>
    cases k with
    | zero => exact trivial
    | succ k => exact ⟨h.1, h.2.1, ih h.2.2 k⟩
theorem okM_take_succ {n l : Int} {ms : List Int} {k : Nat} (hk : k < ms.length) : okM n l (ms.take (k + 1)) ↔ okM n l (ms.take k) ∧ (if k = 0 then l else ms[k - 1]'(by omega)) ≤ ms[k] ∧ ms[k] ≤ n := by
  rw [List.take_succ_eq_append_getElem hk, okM_snoc]
  have e : (ms.take k).getLastD l = if k = 0 then l else ms[k - 1]'(by omega) := by
    by_cases h0 : k = 0
    · subst h0; rfl
    · rw [if_neg h0, List.getLastD_eq_getLast?, List.getLast?_eq_getElem?, List.length_take, Nat.min_eq_left (by omega), List.getElem?_take_of_lt (by omega), List.getElem?_eq_getElem (by omega)]
      rfl
  rw [e]
end Go.Proofs.Ytjbdkhddnblieaa
namespace Go.Proofs.Ytjbdkhddnblieaa
open Go.ChangeShapes Go.WideShapes Go.ChangeAt Go.RowKit Go.Deep Go.Joins
def W64 (s : Int) : Prop := -9223372036854775808 ≤ s ∧ s ≤ 9223372036854775807
theorem w64w {n : Int} (h : (Lit.int .i64 n).wf = true) : W64 n := by
  simp [Lit.wf, IntKind.min, IntKind.max, IntKind.signed, IntKind.bits] at h
  exact ⟨by omega, by omega⟩
def wrC (x : Wr) (k v : Value) : List Value := [.int .i64 x.table, k, .bool x.gone, v]
def Elt.wr : Elt Wr where
  size := 4
  pos := by omega
  R S w x vs := ∃ k v, vs = wrC x k v ∧ RdS S w k x.key ∧ RdS S w v x.val ∧ W64 x.table
  len := by rintro _ _ _ _ ⟨_, _, rfl, _⟩; rfl
  keep := by rintro _ _ _ _ _ ⟨k, v, rfl, h, h1, h2⟩ hk; exact ⟨k, v, rfl, h.keep hk, h1.keep hk, h2⟩
  weak := by rintro _ _ _ _ _ ⟨k, v, rfl, h, h1, h2⟩ hk; exact ⟨k, v, rfl, h.weak hk, h1.weak hk, h2⟩
  fit := by rintro _ _ _ _ ⟨k, v, rfl, h, h1, h2⟩; exact ⟨k, v, rfl, h.fit, h1.fit, h2⟩
  one := by
    rintro _ _ _ _ ⟨k, v, rfl, h, h1, _⟩ u hu
    have h3 := h.one
    have h4 := h1.one
    simp only [wrC, List.mem_cons, List.not_mem_nil, or_false] at hu
    rcases hu with rfl | rfl | rfl | rfl
    · rfl
    · exact h3
    · rfl
    · exact h4
def Elt.pq : Elt Pq where
  size := 2
  pos := by omega
  R S w x vs := ∃ k v, vs = [k, v] ∧ RdS S w k x.key ∧ RdS S w v x.val
  len := by rintro _ _ _ _ ⟨_, _, rfl, _⟩; rfl
  keep := by rintro _ _ _ _ _ ⟨k, v, rfl, h, h1⟩ hk; exact ⟨k, v, rfl, h.keep hk, h1.keep hk⟩
  weak := by rintro _ _ _ _ _ ⟨k, v, rfl, h, h1⟩ hk; exact ⟨k, v, rfl, h.weak hk, h1.weak hk⟩
  fit := by rintro _ _ _ _ ⟨k, v, rfl, h, h1⟩; exact ⟨k, v, rfl, h.fit, h1.fit⟩
  one := by
    rintro _ _ _ _ ⟨k, v, rfl, h, h1⟩ u hu
    have h3 := h.one
    have h4 := h1.one
    simp only [List.mem_cons, List.not_mem_nil, or_false] at hu
    rcases hu with rfl | rfl
    · exact h3
    · exact h4
def Elt.int : Elt Int where
  size := 1
  pos := by omega
  R _ _ x vs := vs = [.int .i64 x] ∧ W64 x
  len := by rintro _ _ _ _ ⟨rfl, _⟩; rfl
  keep := by rintro _ _ _ _ _ h _; exact h
  weak := by rintro _ _ _ _ _ h _; exact h
  fit := by rintro _ _ _ _ h; exact h
  one := by
    rintro _ _ _ _ ⟨rfl, _⟩ u hu
    simp only [List.mem_cons, List.not_mem_nil, or_false] at hu
    subst hu; rfl
theorem wrP : LoP Try.prog 22 28 4 := ⟨⟨by kernel_rfl, by kernel_rfl⟩, .agg #[.int .i64 0, .slice none 0 0, .bool false, .slice none 0 0], 64, by kernel_rfl, rfl, by omega⟩
theorem wrS : StP Try.prog 28 4 := StP.of (by kernel_rfl)
theorem pqP : LoP Try.prog 40 53 2 := ⟨⟨by kernel_rfl, by kernel_rfl⟩, .agg #[.slice none 0 0, .slice none 0 0], 48, by kernel_rfl, rfl, by omega⟩
theorem pqS : StP Try.prog 53 2 := StP.of (by kernel_rfl)
theorem inP : LoP Try.prog 23 3 1 := ⟨⟨by kernel_rfl, by kernel_rfl⟩, .int .i64 0, 8, by kernel_rfl, rfl, by omega⟩
theorem dlS : StP Try.prog 25 2 := StP.of (by kernel_rfl)
section
variable {S S' : Nat → Prop} {w w' : World} {v : Value}
theorem RdL.wr {a : Option Addr} {n c : Nat} {l : List Wr} (h : RdL Elt.wr S w (.slice a n c) l) (r : Nat) (hr : r < l.length) :
    ∃ b off A C A2 C2, a = some ⟨b, off, none⟩ ∧ S b ∧ w.cell? ⟨b, off + r * 4, none⟩ = some (.int .i64 l[r].table) ∧ w.cell? ⟨b, off + r * 4 + 1, none⟩ = some (.slice A l[r].key.length C) ∧ w.cell? ⟨b, off + r * 4 + 2, none⟩ = some (.bool l[r].gone) ∧ w.cell? ⟨b, off + r * 4 + 3, none⟩ = some (.slice A2 l[r].val.length C2) ∧
      RdS S w (.slice A l[r].key.length C) l[r].key ∧ RdS S w (.slice A2 l[r].val.length C2) l[r].val ∧ W64 l[r].table := by
  obtain ⟨b, off, vs, rfl, hb, ⟨k, u, rfl, hk, hu, hi⟩, hc⟩ := h.at r hr
  obtain ⟨A, C, rfl, _, _⟩ := hk.shape
  obtain ⟨A2, C2, rfl, _, _⟩ := hu.shape
  exact ⟨b, off, A, C, A2, C2, rfl, hb, hc 0 _ rfl, hc 1 _ rfl, hc 2 _ rfl, hc 3 _ rfl, hk, hu, hi⟩
theorem RdL.pq {a : Option Addr} {n c : Nat} {l : List Pq} (h : RdL Elt.pq S w (.slice a n c) l) (r : Nat) (hr : r < l.length) :
    ∃ b off A C A2 C2, a = some ⟨b, off, none⟩ ∧ S b ∧ w.cell? ⟨b, off + r * 2, none⟩ = some (.slice A l[r].key.length C) ∧ w.cell? ⟨b, off + r * 2 + 1, none⟩ = some (.slice A2 l[r].val.length C2) ∧
      RdS S w (.slice A l[r].key.length C) l[r].key ∧ RdS S w (.slice A2 l[r].val.length C2) l[r].val := by
  obtain ⟨b, off, vs, rfl, hb, ⟨k, u, rfl, hk, hu⟩, hc⟩ := h.at r hr
  obtain ⟨A, C, rfl, _, _⟩ := hk.shape
  obtain ⟨A2, C2, rfl, _, _⟩ := hu.shape
  exact ⟨b, off, A, C, A2, C2, rfl, hb, hc 0 _ rfl, hc 1 _ rfl, hk, hu⟩
theorem RdL.num {a : Option Addr} {n c : Nat} {l : List Int} (h : RdL Elt.int S w (.slice a n c) l) (r : Nat) (hr : r < l.length) :
    ∃ b off, a = some ⟨b, off, none⟩ ∧ S b ∧ w.cell? ⟨b, off + r, none⟩ = some (.int .i64 l[r]) ∧ W64 l[r] := by
  obtain ⟨b, off, vs, rfl, hb, ⟨rfl, hi⟩, hc⟩ := h.at r hr
  have := hc 0 _ rfl
  exact ⟨b, off, rfl, hb, by simpa [Elt.int] using this, hi⟩
def RdWr (S : Nat → Prop) (w : World) (v : Value) (x : Wr) : Prop := ∃ a c a2 c2, v = .agg #[.int .i64 x.table, .slice a x.key.length c, .bool x.gone, .slice a2 x.val.length c2] ∧ RdS S w (.slice a x.key.length c) x.key ∧ RdS S w (.slice a2 x.val.length c2) x.val ∧ W64 x.table
def RdDl (S : Nat → Prop) (w : World) (v : Value) (d : Dl) : Prop := ∃ a c a2 c2, v = .agg #[.slice a d.writes.length c, .slice a2 d.marks.length c2] ∧ RdL Elt.wr S w (.slice a d.writes.length c) d.writes ∧ RdL Elt.int S w (.slice a2 d.marks.length c2) d.marks
def RdSp (S : Nat → Prop) (w : World) (v : Value) (x : Sp) : Prop := ∃ a c a2 c2, v = .agg #[.int .i64 x.table, .slice a x.lo.length c, .slice a2 x.hi.length c2, .bool x.isOpen] ∧ RdS S w (.slice a x.lo.length c) x.lo ∧ RdS S w (.slice a2 x.hi.length c2) x.hi ∧ W64 x.table
theorem RdWr.below {x : Wr} (h : RdWr S w v x) (hb : Below w.heap.size w w') : RdWr S w' v x := by
  obtain ⟨a, c, a2, c2, e, h1, h2, h3⟩ := h
  exact ⟨a, c, a2, c2, e, h1.below hb, h2.below hb, h3⟩
theorem RdDl.below {x : Dl} (h : RdDl S w v x) (hb : Below w.heap.size w w') : RdDl S w' v x := by
  obtain ⟨a, c, a2, c2, e, h1, h2⟩ := h
  exact ⟨a, c, a2, c2, e, h1.below hb, h2.below hb⟩
theorem RdDl.weak {x : Dl} (h : RdDl S w v x) (hs : ∀ k, S k → S' k) : RdDl S' w v x := by
  obtain ⟨a, c, a2, c2, e, h1, h2⟩ := h
  exact ⟨a, c, a2, c2, e, h1.weak hs, h2.weak hs⟩
theorem RdSp.below {x : Sp} (h : RdSp S w v x) (hb : Below w.heap.size w w') : RdSp S w' v x := by
  obtain ⟨a, c, a2, c2, e, h1, h2, h3⟩ := h
  exact ⟨a, c, a2, c2, e, h1.below hb, h2.below hb, h3⟩
end
set_option maxRecDepth 4000 in
theorem opens_wr : Opens Try.prog 28 Elt.wr := by
  intro H enc w base held fuel cs x h
  obtain ⟨y0, y1, y2, y3, n, _, hl, h0, h1, h2, h3⟩ := trod_struct4 Try.underlying28 h
  have hc : cs.length = 4 := hl.trans (by kernel_rfl)
  match cs, hc with
  | [u, v, r, s], _ =>
    obtain ⟨m, hm, _, hw⟩ := DataW.trod_int (by kernel_rfl : Try.prog.underlying 3 = some (.int .i64)) (h0 : DataW.trod enc Try.prog w base (fun _ => true) held n 3 [u] = some y0)
    obtain ⟨xs, v', hv, hR⟩ := Opens.bytes (P := Try.prog) (t := 26) (e := 5) (by kernel_rfl) (by kernel_rfl) (by kernel_rfl) (h1 : DataW.trod enc Try.prog w base (fun _ => true) held n 26 [v] = some y1)
    obtain ⟨g, hg, _⟩ := DataW.trod_bool (by kernel_rfl : Try.prog.underlying 4 = some .bool) (h2 : DataW.trod enc Try.prog w base (fun _ => true) held n 4 [r] = some y2)
    obtain ⟨xs2, v2, hv2, hR2⟩ := Opens.bytes (P := Try.prog) (t := 26) (e := 5) (by kernel_rfl) (by kernel_rfl) (by kernel_rfl) (h3 : DataW.trod enc Try.prog w base (fun _ => true) held n 26 [s] = some y3)
    cases hm; cases hg; cases hv; cases hv2
    exact ⟨⟨m, xs, g, xs2⟩, v, s, rfl, hR, hR2, w64w hw⟩
theorem opens_wrs : Opens Try.prog 22 (Elt.list Elt.wr) := Opens.list (by kernel_rfl) (by kernel_rfl) opens_wr
set_option maxRecDepth 4000 in
theorem opens_pq : Opens Try.prog 53 Elt.pq := by
  intro H enc w base held fuel cs x h
  obtain ⟨y0, y1, n, _, hl, h0, h1⟩ := trod_struct2 Try.underlying53 h
  have hc : cs.length = 2 := hl.trans (by kernel_rfl)
  match cs, hc with
  | [u, v], _ =>
    obtain ⟨xs, v', hv, hR⟩ := Opens.bytes (P := Try.prog) (t := 26) (e := 5) (by kernel_rfl) (by kernel_rfl) (by kernel_rfl) (h0 : DataW.trod enc Try.prog w base (fun _ => true) held n 26 [u] = some y0)
    obtain ⟨xs2, v2, hv2, hR2⟩ := Opens.bytes (P := Try.prog) (t := 26) (e := 5) (by kernel_rfl) (by kernel_rfl) (by kernel_rfl) (h1 : DataW.trod enc Try.prog w base (fun _ => true) held n 26 [v] = some y1)
    cases hv; cases hv2
    exact ⟨⟨xs, xs2⟩, u, v, rfl, hR, hR2⟩
theorem opens_pqs : Opens Try.prog 40 (Elt.list Elt.pq) := Opens.list (by kernel_rfl) (by kernel_rfl) opens_pq
theorem opens_num : Opens Try.prog 3 Elt.int := by
  intro H enc w base held fuel cs x h
  obtain ⟨m, rfl, _, hw⟩ := DataW.trod_int (by kernel_rfl : Try.prog.underlying 3 = some (.int .i64)) h
  exact ⟨m, rfl, w64w hw⟩
theorem opens_nums : Opens Try.prog 23 (Elt.list Elt.int) := Opens.list (by kernel_rfl) (by kernel_rfl) opens_num
set_option maxRecDepth 4000 in
theorem open_dl {H : Type} {enc : TypeId × Value → H} {w : World} {base : Nat} {held : Bool} {fuel : Nat} {cs : Array Value} {x : DataW H × List MemPlace} (h : DataW.trod enc Try.prog w base (fun _ => true) held fuel 25 (Value.agg cs).cells.toList = some x) : ∃ d, RdDl (· < w.heap.size) w (.agg cs) d := by
  have e0 : (Value.agg cs).cells.toList = cs.toList := by simp [Value.cells]
  rw [e0] at h
  obtain ⟨y0, y1, n, _, hl, h0, h1⟩ := trod_struct2 Try.underlying25 h
  have hc : cs.toList.length = 2 := hl.trans (by kernel_rfl)
  obtain ⟨l⟩ := cs
  match l, hc with
  | [u, v], _ =>
    obtain ⟨ws, k, hk, hR⟩ := opens_wrs (h0 : DataW.trod enc Try.prog w base (fun _ => true) held n 22 [u] = some y0)
    obtain ⟨ms, k2, hk2, hR2⟩ := opens_nums (h1 : DataW.trod enc Try.prog w base (fun _ => true) held n 23 [v] = some y1)
    cases hk; cases hk2
    obtain ⟨a, c, rfl, _⟩ := hR.shape
    obtain ⟨a2, c2, rfl, _⟩ := hR2.shape
    exact ⟨⟨ws, ms⟩, a, c, a2, c2, rfl, hR, hR2⟩
set_option maxRecDepth 4000 in
theorem open_sp {H : Type} {enc : TypeId × Value → H} {w : World} {base : Nat} {held : Bool} {fuel : Nat} {cs : Array Value} {x : DataW H × List MemPlace} (h : DataW.trod enc Try.prog w base (fun _ => true) held fuel 39 (Value.agg cs).cells.toList = some x) : ∃ d, RdSp (· < w.heap.size) w (.agg cs) d := by
  have e0 : (Value.agg cs).cells.toList = cs.toList := by simp [Value.cells]
  rw [e0] at h
  obtain ⟨y0, y1, y2, y3, n, _, hl, h0, h1, h2, h3⟩ := trod_struct4 Try.underlying39 h
  have hc : cs.toList.length = 4 := hl.trans (by kernel_rfl)
  obtain ⟨l⟩ := cs
  match l, hc with
  | [u, v, r, s], _ =>
    obtain ⟨m, hm, _, hw⟩ := DataW.trod_int (by kernel_rfl : Try.prog.underlying 3 = some (.int .i64)) (h0 : DataW.trod enc Try.prog w base (fun _ => true) held n 3 [u] = some y0)
    obtain ⟨xs, v', hv, hR⟩ := Opens.bytes (P := Try.prog) (t := 26) (e := 5) (by kernel_rfl) (by kernel_rfl) (by kernel_rfl) (h1 : DataW.trod enc Try.prog w base (fun _ => true) held n 26 [v] = some y1)
    obtain ⟨xs2, v2, hv2, hR2⟩ := Opens.bytes (P := Try.prog) (t := 26) (e := 5) (by kernel_rfl) (by kernel_rfl) (by kernel_rfl) (h2 : DataW.trod enc Try.prog w base (fun _ => true) held n 26 [r] = some y2)
    obtain ⟨g, hg, _⟩ := DataW.trod_bool (by kernel_rfl : Try.prog.underlying 4 = some .bool) (h3 : DataW.trod enc Try.prog w base (fun _ => true) held n 4 [s] = some y3)
    cases hm; cases hg; cases hv; cases hv2
    obtain ⟨a, c, rfl, _⟩ := hR.shape
    obtain ⟨a2, c2, rfl, _⟩ := hR2.shape
    exact ⟨⟨m, xs, xs2, g⟩, a, c, a2, c2, rfl, hR, hR2, w64w hw⟩
end Go.Proofs.Ytjbdkhddnblieaa
