/-
  TEXTS OF ONE PROOF, merged: Setr, Cbs, Push, LkC, LkP, WaN, WaD, WaE.
-/
import Derived.Test.YtpdnehgboafgpaaDoorKw8
namespace Go.Proofs.YtpdnehgboafgpaaDoor
open Go.RowKit
section
variable {P : Program} {Q : Exit → Act → World → Prop}
def don (D : Nat → Bool) (i : Nat) : Nat → Bool := fun j => if j = i then true else D j
def told (S : List Nat) (D : Nat → Bool) (vs : Nat → Value) : List (Option Value) := S.map fun j => if D j then some (vs j) else none
def SetOp (P : Program) (Q : Exit → Act → World → Prop) (ops : Array Oper) (a : Act) (S : List Nat) (G : Nat → World → Value → Prop) (E : List (Option Value) → World → Prop) (K : World → World → Prop) (i : Nat) (o : Oper) : Prop :=
  ∀ (A : Act) (va : Nat → Value) (D : Nat → Bool) (w' : World), (∀ t, slotIx ops.toList 0 t = none → A.eval (.tmp t) = a.eval (.tmp t)) → (∀ t j, t < a.tmps.size → slotIx ops.toList 0 t = some j → A.eval (.tmp t) = va j) → D i = false → E (told S D va) w' →
    (∀ e ∈ o.after, Region.binds .any e = true → D e.on = true) → (∀ j d, D j = false → (ops[j]?).bind (·.dst) = some d → va j = a.eval (.tmp d)) → (∀ e ∈ o.after, Region.binds .any e = true → S.contains e.on = false → G e.on w' (va e.on)) →
    o.wp P A w' (fun a2 w2 => ∃ v, a2 = A.put o.dst v ∧ E (told S (don D i) (upd va i v)) w2 ∧ K w' w2) Q
def FreeOp (P : Program) (Q : Exit → Act → World → Prop) (ops : Array Oper) (a : Act) (S : List Nat) (G : Nat → World → Value → Prop) (E : List (Option Value) → World → Prop) (i : Nat) (o : Oper) : Prop :=
  ∀ (A : Act) (va : Nat → Value) (D : Nat → Bool) (w' : World), (∀ t, slotIx ops.toList 0 t = none → A.eval (.tmp t) = a.eval (.tmp t)) → (∀ t j, t < a.tmps.size → slotIx ops.toList 0 t = some j → A.eval (.tmp t) = va j) → D i = false → E (told S D va) w' →
    (∀ e ∈ o.after, Region.binds .any e = true → D e.on = true) → (∀ j d, D j = false → (ops[j]?).bind (·.dst) = some d → va j = a.eval (.tmp d)) → (∀ e ∈ o.after, Region.binds .any e = true → S.contains e.on = false → G e.on w' (va e.on)) →
    o.wp P A w' (fun a2 w2 => ∃ v, a2 = A.put o.dst v ∧ G i w2 v ∧ Below w'.heap.size w' w2) Q
def StOp (P : Program) (Q : Exit → Act → World → Prop) (ops : Array Oper) (a : Act) (S : List Nat) (G : Nat → World → Value → Prop) (E : List (Option Value) → World → Prop) (K : World → World → Prop) (i : Nat) (o : Oper) : Prop :=
  o.guard = none ∧ ((S.contains i = true ∧ SetOp P Q ops a S G E K i o) ∨ (S.contains i = false ∧ FreeOp P Q ops a S G E i o))
theorem StOp.set {ops : Array Oper} {a : Act} {S : List Nat} {G : Nat → World → Value → Prop} {E : List (Option Value) → World → Prop} {K : World → World → Prop} {i : Nat} {o : Oper} (hg : o.guard = none) (hp : S.contains i = true) (h : SetOp P Q ops a S G E K i o) : StOp P Q ops a S G E K i o := ⟨hg, .inl ⟨hp, h⟩⟩
theorem StOp.free {ops : Array Oper} {a : Act} {S : List Nat} {G : Nat → World → Value → Prop} {E : List (Option Value) → World → Prop} {K : World → World → Prop} {i : Nat} {o : Oper} (hg : o.guard = none) (hp : S.contains i = false) (h : FreeOp P Q ops a S G E i o) : StOp P Q ops a S G E K i o := ⟨hg, .inr ⟨hp, h⟩⟩
def StAll (P : Program) (Q : Exit → Act → World → Prop) (ops : Array Oper) (a : Act) (S : List Nat) (G : Nat → World → Value → Prop) (E : List (Option Value) → World → Prop) (K : World → World → Prop) : Nat → List Oper → Prop
  | _, [] => True
  | i, o :: rest => StOp P Q ops a S G E K i o ∧ StAll P Q ops a S G E K (i + 1) rest
theorem StAll.get {ops : Array Oper} {a : Act} {S : List Nat} {G : Nat → World → Value → Prop} {E : List (Option Value) → World → Prop} {K : World → World → Prop} : ∀ (l : List Oper) (k j : Nat) (o : Oper), StAll P Q ops a S G E K k l → l[j]? = some o → StOp P Q ops a S G E K (k + j) o
  | [], _, _, _, _, h => by simp at h
  | o' :: rest, k, 0, o, h, hj => by obtain rfl : o' = o := by simpa using hj
                                     exact h.1
  | o' :: rest, k, j + 1, o, h, hj => by rw [show k + (j + 1) = k + 1 + j by omega]; exact StAll.get rest (k + 1) j o h.2 (by simpa using hj)
theorem told_out {S : List Nat} {D : Nat → Bool} {vs : Nat → Value} {i : Nat} {v : Value} (h : i ∉ S) : told S (don D i) (upd vs i v) = told S D vs := by
  refine List.map_congr_left fun j hj => ?_
  have : j ≠ i := fun e => h (by rw [← e]; exact hj)
  simp [upd, don, this]
theorem anyS_set {ops : Array Oper} {a : Act} {w : World} (hs : gdB ops = true) (S : List Nat) (hS : (S.all fun c => decide (c < ops.size)) = true) (G : Nat → World → Value → Prop) (E : List (Option Value) → World → Prop) (K : World → World → Prop)
    (hG : ∀ i w v w', G i w v → Below w.heap.size w w' → G i w' v) (hK : ∀ i w v w', G i w v → K w w' → G i w' v) (hE : ∀ l w w', E l w → Below w.heap.size w w' → E l w') (h0 : E (S.map fun _ => none) w)
    (hop : StAll P Q ops a S G E K 0 ops.toList)
    (hend : ∀ (vs : Nat → Value) (w' : World), E (S.map fun j => some (vs j)) w' → (∀ i, i < ops.size → S.contains i = false → G i w' (vs i)) → Q .normal (putAll a ops.toList vs 0) w') : wpAnyS P ops Q ops.size (Array.replicate ops.size false) a { w with drawn := w.drawn + 1 } := by
  have hnd : (ops.toList.filterMap (·.dst)).Nodup := by simp only [gdB, slotsB, Bool.and_eq_true, decide_eq_true_eq] at hs; exact hs.2
  have hSl : ∀ c ∈ S, c < ops.size := fun c hc => by simpa using List.all_eq_true.1 hS c hc
  have main : ∀ (fuel : Nat) (listed : Array Bool) (vs : Nat → Value) (w' : World), listed.size = ops.size → (unlisted ops.size listed).length ≤ fuel → E (told S (fun j => listed.getD j true) vs) w' →
      (∀ i, i < ops.size → listed.getD i true = true → S.contains i = false → G i w' (vs i)) → (∀ j, j < ops.size → listed.getD j true = false → ∀ d, (ops[j]?).bind (·.dst) = some d → vs j = a.eval (.tmp d)) → wpAnyS P ops Q fuel listed (putAll a ops.toList vs 0) w' := by
    intro fuel
    have fin : ∀ (listed : Array Bool) (vs : Nat → Value) (w' : World), E (told S (fun j => listed.getD j true) vs) w' →
        (∀ i, i < ops.size → listed.getD i true = true → S.contains i = false → G i w' (vs i)) → (∀ i, i < ops.size → listed.getD i true = true) → Q .normal (putAll a ops.toList vs 0) w' := by
      intro listed vs w' hE' hG' hall
      refine hend vs w' ?_ fun i hi hc => hG' i hi (hall i hi) hc
      have : told S (fun j => listed.getD j true) vs = S.map fun j => some (vs j) := List.map_congr_left fun j hj => by simp [hall j (hSl j hj)]
      rw [← this]; exact hE'
    induction fuel with
    | zero =>
      intro listed vs w' hsz hu hE' hG' hun
      have hall : ∀ i, i < ops.size → listed.getD i true = true := by
        intro i hi
        cases hl : listed.getD i true with
        | true => rfl
        | false =>
          have : i ∈ unlisted ops.size listed := List.mem_filter.2 ⟨List.mem_range.2 hi, by simp [hl]⟩
          rw [List.eq_nil_of_length_eq_zero (Nat.le_zero.1 hu)] at this
          cases this
      refine ⟨?_, fin listed vs w' hE' hG' hall⟩
      unfold Region.ready
      rw [List.filter_eq_nil_iff]
      intro i hi
      simp [hall i (List.mem_range.1 hi)]
    | succ fuel ih =>
      intro listed vs w' hsz hu hE' hG' hun
      refine ⟨fun hr => fin listed vs w' hE' hG' (fun i hi => all_listed_gd hs hr i hi), fun i hi => ?_⟩
      unfold Region.ready at hi
      obtain ⟨hi1, hi2⟩ := List.mem_filter.1 hi
      have hlt := List.mem_range.1 hi1
      rw [Bool.and_eq_true] at hi2
      obtain ⟨hl, hdep⟩ := hi2
      have hl' : listed.getD i true = false := by simpa using hl
      obtain ⟨o, ho⟩ : ∃ o, ops[i]? = some o := ⟨_, Array.getElem?_eq_getElem hlt⟩
      rw [ho] at hdep
      simp only [Option.map_some, Option.getD_some] at hdep
      rw [Array.all_eq_true'] at hdep
      have hgop := StAll.get ops.toList 0 i o hop (by rw [Array.getElem?_toList]; exact ho)
      rw [Nat.zero_add] at hgop
      have hdepG : ∀ e ∈ o.after, Region.binds .any e = true → e.on < ops.size ∧ listed.getD e.on true = true := by
        intro e he hbn
        have h := hdep e he
        rw [hbn] at h
        simp only [Bool.not_true, Bool.false_or] at h
        have hin : e.on < listed.size := by
          rcases Nat.lt_or_ge e.on listed.size with h' | h'
          · exact h'
          · simp [Array.getD_eq_getD_getElem?, Array.getElem?_eq_none_iff.2 h'] at h
        have hl2 : listed.getD e.on true = true := by
          simp only [Array.getD_eq_getD_getElem?, Array.getElem?_eq_getElem hin, Option.getD_some] at h ⊢
          exact h
        exact ⟨by omega, hl2⟩
      have hdepS : ∀ e ∈ o.after, Region.binds .any e = true → S.contains e.on = false → G e.on w' (vs e.on) := fun e he hbn hc => hG' e.on (hdepG e he hbn).1 (hdepG e he hbn).2 hc
      have hdepD : ∀ e ∈ o.after, Region.binds .any e = true → (fun j => listed.getD j true) e.on = true := fun e he hbn => (hdepG e he hbn).2
      have hlate : ∀ j d, (fun j => listed.getD j true) j = false → (ops[j]?).bind (·.dst) = some d → vs j = a.eval (.tmp d) := by
        intro j d hj hd
        refine hun j ?_ hj d hd
        rcases Nat.lt_or_ge j ops.size with h | h
        · exact h
        · rw [Array.getElem?_eq_none h] at hd; simp at hd
      have hset : ∀ j, (listed.setIfInBounds i true).getD j true = don (fun j => listed.getD j true) i j := fun j => by
        by_cases hji : j = i
        · subst hji
          simp [don, Array.getD_eq_getD_getElem?, Array.getElem?_setIfInBounds_self_of_lt (by omega : j < listed.size)]
        · simp [don, hji, Array.getD_eq_getD_getElem?, Array.getElem?_setIfInBounds_ne (Ne.symm hji)]
      have step : ∀ (v : Value) (w2 : World), E (told S (don (fun j => listed.getD j true) i) (upd vs i v)) w2 → (S.contains i = false → G i w2 v) → (∀ j u, S.contains j = false → G j w' u → G j w2 u) → wpAnyS P ops Q fuel (listed.setIfInBounds i true) ((putAll a ops.toList vs 0).put o.dst v) w2 := by
        intro v w2 hE2 hGi hGs
        rw [putAll_put ops.toList a vs 0 i o v hnd (by rw [Array.getElem?_toList]; exact ho), Nat.zero_add]
        refine ih _ _ _ (by simp [hsz]) (by have := unlisted_set hsz hlt hl'; omega) ?_ (fun j hj hlj hc => ?_) (fun j hj hlj d hd => ?_)
        · rw [show (fun j => (listed.setIfInBounds i true).getD j true) = don (fun j => listed.getD j true) i from funext hset]
          exact hE2
        · by_cases hji : j = i
          · subst hji
            simpa [upd] using hGi hc
          · have hlj' : listed.getD j true = true := by rw [hset] at hlj; simpa [don, hji] using hlj
            have hv : upd vs i v j = vs j := by simp [upd, hji]
            rw [hv]
            exact hGs j _ hc (hG' j hj hlj' hc)
        · have hji : j ≠ i := fun e => by
            rw [hset, e] at hlj
            simp [don] at hlj
          have hv : upd vs i v j = vs j := by simp [upd, hji]
          rw [hv]
          rw [hset] at hlj
          exact hun j hj (by simpa [don, hji] using hlj) d hd
      unfold wpOpS
      simp only [ho, Region.wanted, hgop.1, if_true]
      rcases hgop.2 with ⟨hc, hln⟩ | ⟨hc, hsd⟩
      · have hwp := hln (putAll a ops.toList vs 0) vs (fun j => listed.getD j true) w' (fun t h => eval_putAll_out _ _ _ _ _ h) (fun t j ht h => eval_putAll_in _ _ _ _ _ _ hnd ht h) hl' hE' hdepD hlate hdepS
        refine Oper.wp_mono ?_ hwp
        rintro a2 w2 ⟨v, rfl, hE2, hK2⟩
        exact step v w2 hE2 (fun h => by rw [hc] at h; cases h) (fun j u _ hg => hK j w' u w2 hg hK2)
      · have hci : i ∉ S := fun h => by rw [List.contains_iff_mem.2 h] at hc; cases hc
        have hwp := hsd (putAll a ops.toList vs 0) vs (fun j => listed.getD j true) w' (fun t h => eval_putAll_out _ _ _ _ _ h) (fun t j ht h => eval_putAll_in _ _ _ _ _ _ hnd ht h) hl' hE' hdepD hlate hdepS
        refine Oper.wp_mono ?_ hwp
        rintro a2 w2 ⟨v, rfl, hg, hb2⟩
        refine step v w2 ?_ (fun _ => hg) (fun j u _ hgj => hG j w' u w2 hgj hb2)
        rw [told_out hci]
        exact hE _ _ _ hE' hb2
  have hbz : Below w.heap.size w { w with drawn := w.drawn + 1 } := ⟨rfl, rfl, rfl, Nat.le_refl _, fun _ _ => rfl⟩
  have hno : ∀ j, j < ops.size → (Array.replicate ops.size false).getD j true = false := fun j hj => by simp [Array.getD_eq_getD_getElem?, hj]
  have h1 := main ops.size (Array.replicate ops.size false) (fun i => ((ops[i]?).bind (·.dst)).elim undef (fun d => a.tmps.getD d undef)) { w with drawn := w.drawn + 1 } (by simp)
    (by have := List.length_filter_le (fun i => !(Array.replicate ops.size false).getD i true) (List.range ops.size); simpa [unlisted] using this)
    (by
      have : told S (fun j => (Array.replicate ops.size false).getD j true) (fun i => ((ops[i]?).bind (·.dst)).elim undef (fun d => a.tmps.getD d undef)) = S.map fun _ => none := List.map_congr_left fun j hj => by simp [hno j (hSl j hj)]
      rw [this]
      exact hE _ _ _ h0 hbz)
    (fun i hi h => by rw [hno i hi] at h; cases h)
    (fun j hj _ d hd => by simp only [hd, Option.elim]; rfl)
  rw [putAll_orig ops.toList a _ 0 (fun j o d hj hd => by
    rw [Array.getElem?_toList] at hj
    simp [hj, hd])] at h1
  exact h1
theorem wp_region_set {id : Nat} {ops : Array Oper} {a : Act} {w : World} (hm : P.follows .mixedOrders = true) (hs : gdB ops = true) (S : List Nat) (hS : (S.all fun c => decide (c < ops.size)) = true) (G : Nat → World → Value → Prop) (E : List (Option Value) → World → Prop) (K : World → World → Prop)
    (hG : ∀ i w v w', G i w v → Below w.heap.size w w' → G i w' v) (hK : ∀ i w v w', G i w v → K w w' → G i w' v) (hE : ∀ l w w', E l w → Below w.heap.size w w' → E l w') (h0 : E (S.map fun _ => none) w)
    (hop : StAll P Q ops a S G E K 0 ops.toList)
    (hend : ∀ (vs : Nat → Value) (w' : World), E (S.map fun j => some (vs j)) w' → (∀ i, i < ops.size → S.contains i = false → G i w' (vs i)) → Q .normal (putAll a ops.toList vs 0) w') : (Code.region id ops true).wp P Q a w := wp_region_S hm (anyS_set hs S hS G E K hG hK hE h0 hop hend)
end
section
variable {P : Program} {Q : Exit → Act → World → Prop} {K : World → World → Prop}
theorem wp_region_setl {id : Nat} {ops : Array Oper} {a : Act} {w : World} (hm : P.follows .mixedOrders = true) (hs : gdB ops = true) (S : List Nat) (hS : (S.all fun c => decide (c < ops.size)) = true) (Gs : List (SGn K)) (E : List (Option Value) → World → Prop)
    (hE : ∀ l w w', E l w → Below w.heap.size w w' → E l w') (h0 : E (S.map fun _ => none) w)
    (hop : StAll P Q ops a S (fun i => (Gs.getD i lAny).1) E K 0 ops.toList)
    (hend : ∀ (vs : Nat → Value) (w' : World), E (S.map fun j => some (vs j)) w' → (∀ i, i < ops.size → S.contains i = false → (Gs.getD i lAny).1 w' (vs i)) → Q .normal (putAll a ops.toList vs 0) w') : (Code.region id ops true).wp P Q a w :=
  wp_region_set hm hs S hS (fun i => (Gs.getD i lAny).1) E K (fun i => (Gs.getD i lAny).2.1) (fun i => (Gs.getD i lAny).2.2) hE h0 hop hend
end
end Go.Proofs.YtpdnehgboafgpaaDoor
namespace Go.Proofs.YtpdnehgboafgpaaDoor
open Go.RowKit
def newB (W : World) (z : Option Value) (w : World) (g : Nat) : Prop := W.heap.size ≤ g ∧ g < w.heap.size ∧ ∀ b, z = some (.pointer (some ⟨b, 0, none⟩)) → g ≠ b
def newC (W : World) (o0 z : Option Value) (w : World) (g : Nat) : Prop := newB W z w g ∧ ∀ b n m, o0 = some (.slice (some ⟨b, 0, none⟩) n m) → g ≠ b
structure RdP (R : (Nat → Prop) → World → Value → Value → Prop) : Prop where
  keep : ∀ {S w w' v e}, R S w v e → (∀ k, S k → w'.heap[k]? = w.heap[k]?) → R S w' v e
  weak : ∀ {S S' w v e}, R S w v e → (∀ k, S k → S' k) → R S' w v e
structure CbS (hk : Bool) (C0 : Array Value) (E0 : TypeId) (R : (Nat → Prop) → World → Value → Value → Prop) (Z : Obj) (Bx : World → Nat → Value → Prop) (K1 K2 : (Nat → Prop) → World → Value → Prop) (W : World) (o0 o1 o2 c m x y z s : Option Value) (w : World) : Prop where
  be : Below W.heap.size W w
  k0 : ∀ u, o0 = some u → ∃ g, u = .slice (some ⟨g, 0, none⟩) C0.size C0.size ∧ newB W z w g ∧ (o1 = none → w.heap[g]? = some (.cells C0 E0 (0, 0)))
  k1 : ∀ u, o1 = some u → K1 (newB W z w) w u
  k2 : ∀ u, o2 = some u → K2 (newC W o0 z w) w u
  rr : ∀ u, c = some u → ∃ v e, u = .tuple #[v, e] ∧ R (newC W o0 z w) w v e
  mv : ∀ u, m = some u → c = some u
  mx : ∀ u, x = some u → ∃ e, m = some (.tuple #[u, e])
  my : ∀ u, y = some u → ∃ v, m = some (.tuple #[v, u])
  zz : ∀ u, z = some u → ∃ b, u = .pointer (some ⟨b, 0, none⟩) ∧ W.heap.size ≤ b ∧ b < w.heap.size ∧ (s = none → w.heap[b]? = some Z)
  sc : s ≠ none → c ≠ none
  dk : hk = true → c ≠ none → o0 ≠ none ∧ o1 ≠ none
  d1 : hk = true → o1 ≠ none → o0 ≠ none
  ss : ∀ u, s = some u → ∃ b v, z = some (.pointer (some ⟨b, 0, none⟩)) ∧ x = some v ∧ Bx w b v
section
variable {hk : Bool} {C0 : Array Value} {E0 : TypeId} {R : (Nat → Prop) → World → Value → Value → Prop} {Z : Obj} {Bx : World → Nat → Value → Prop} {K1 K2 : (Nat → Prop) → World → Value → Prop} {W w w' : World} {o0 o1 o2 c m x y z s : Option Value}
theorem CbS.start (W : World) : CbS hk C0 E0 R Z Bx K1 K2 W none none none none none none none none none W where
  be := Below.refl _ _
  k0 _ h := by cases h
  k1 _ h := by cases h
  k2 _ h := by cases h
  rr _ h := by cases h
  mv _ h := by cases h
  mx _ h := by cases h
  my _ h := by cases h
  zz _ h := by cases h
  sc h := absurd rfl h
  dk _ h := absurd rfl h
  d1 _ h := absurd rfl h
  ss _ h := by cases h
structure Stays (R : (Nat → Prop) → World → Value → Value → Prop) (Bx : World → Nat → Value → Prop) (K1 K2 : (Nat → Prop) → World → Value → Prop) : Prop extends RdP R where
  bx : ∀ {w w' b v}, Bx w b v → Below w.heap.size w w' → Bx w' b v
  s1 : ∀ {S w w' u}, K1 S w u → (∀ k, S k → w'.heap[k]? = w.heap[k]?) → K1 S w' u
  w1 : ∀ {S S' w u}, K1 S w u → (∀ k, S k → S' k) → K1 S' w u
  s2 : ∀ {S w w' u}, K2 S w u → (∀ k, S k → w'.heap[k]? = w.heap[k]?) → K2 S w' u
  w2 : ∀ {S S' w u}, K2 S w u → (∀ k, S k → S' k) → K2 S' w u
theorem CbS.more (hS : Stays R Bx K1 K2) (h : CbS hk C0 E0 R Z Bx K1 K2 W o0 o1 o2 c m x y z s w) (hb : Below w.heap.size w w') : CbS hk C0 E0 R Z Bx K1 K2 W o0 o1 o2 c m x y z s w' where
  be := h.be.trans (hb.mono h.be.size)
  k0 u hu := by
    obtain ⟨g, e, h1, h2⟩ := h.k0 u hu
    exact ⟨g, e, ⟨h1.1, Nat.lt_of_lt_of_le h1.2.1 hb.size, h1.2.2⟩, fun h3 => (hb.block g h1.2.1).trans (h2 h3)⟩
  k1 u hu := hS.w1 (hS.s1 (h.k1 u hu) fun k hk => hb.block k hk.2.1) fun k hk => ⟨hk.1, Nat.lt_of_lt_of_le hk.2.1 hb.size, hk.2.2⟩
  k2 u hu := hS.w2 (hS.s2 (h.k2 u hu) fun k hk => hb.block k hk.1.2.1) fun k hk => ⟨⟨hk.1.1, Nat.lt_of_lt_of_le hk.1.2.1 hb.size, hk.1.2.2⟩, hk.2⟩
  rr u hu := by
    obtain ⟨v, e, e1, h1⟩ := h.rr u hu
    exact ⟨v, e, e1, hS.weak (hS.keep h1 fun k hk => hb.block k hk.1.2.1) fun k hk => ⟨⟨hk.1.1, Nat.lt_of_lt_of_le hk.1.2.1 hb.size, hk.1.2.2⟩, hk.2⟩⟩
  mv := h.mv
  mx := h.mx
  my := h.my
  zz u hu := by
    obtain ⟨b, e, h1, h2, h3⟩ := h.zz u hu
    exact ⟨b, e, h1, Nat.lt_of_lt_of_le h2 hb.size, fun hs => (hb.block b h2).trans (h3 hs)⟩
  sc := h.sc
  dk := h.dk
  d1 := h.d1
  ss u hu := by
    obtain ⟨b, v, e1, e2, h1⟩ := h.ss u hu
    exact ⟨b, v, e1, e2, hS.bx h1 hb⟩
theorem CbS.new (h : CbS hk C0 E0 R Z Bx K1 K2 W o0 o1 o2 c m x y z s w) {w' : World} {g : Nat} (hg : w.heap.size ≤ g ∧ g < w'.heap.size) : newB W z w' g :=
  ⟨Nat.le_trans h.be.size hg.1, hg.2, fun b hz => by
    obtain ⟨b', e', _, h4, _⟩ := h.zz _ hz
    injection e' with e'
    injection e' with e'
    injection e' with e'
    omega⟩
theorem CbS.newOwn (h : CbS hk C0 E0 R Z Bx K1 K2 W o0 o1 o2 c m x y z s w) {w' : World} {g : Nat} (hg : w.heap.size ≤ g ∧ g < w'.heap.size) : newC W o0 z w' g :=
  ⟨h.new hg, fun b n' m' e => by
    obtain ⟨g', e', h1, _⟩ := h.k0 _ e
    injection e' with e'
    injection e' with e'
    injection e' with e'
    have := h1.2.1
    omega⟩
theorem CbS.key (hS : Stays R Bx K1 K2) (h : CbS hk C0 E0 R Z Bx K1 K2 W o0 none o2 c m x y z s w) (hh : hk = false) {u : Value} (hb : Below w.heap.size w w') (hu : K1 (fun g => w.heap.size ≤ g ∧ g < w'.heap.size) w' u) : CbS hk C0 E0 R Z Bx K1 K2 W o0 (some u) o2 c m x y z s w' :=
  { h.more hS hb with
    k0 := fun u' e => by
      obtain ⟨g, e1, h1, _⟩ := (h.more hS hb).k0 u' e
      exact ⟨g, e1, h1, fun e => by cases e⟩
    dk := fun h1 _ => by rw [hh] at h1; cases h1
    d1 := fun h1 _ => by rw [hh] at h1; cases h1
    k1 := fun u' e => by injection e with e; exact e ▸ hS.w1 hu fun g hg => h.new hg }
theorem CbS.call (hS : Stays R Bx K1 K2) (h : CbS hk C0 E0 R Z Bx K1 K2 W o0 o1 o2 none m x y z s w) (hd : hk = true → o1 ≠ none) {v e : Value} (hb : Below w.heap.size w w') (hr : R (fun g => w.heap.size ≤ g ∧ g < w'.heap.size) w' v e) : CbS hk C0 E0 R Z Bx K1 K2 W o0 o1 o2 (some (.tuple #[v, e])) m x y z s w' := by
  have h2 := h.more hS hb
  have hm : m = none := by
    cases hm : m with
    | none => rfl
    | some u => have := h.mv u hm; cases this
  exact { h2 with
    rr := fun u hu => by
      injection hu with hu
      exact ⟨v, e, hu.symm, hS.weak hr fun g hg => h.newOwn hg⟩
    mv := fun u hu => by rw [hm] at hu; cases hu
    sc := fun _ => by simp
    dk := fun h1 _ => ⟨h.d1 h1 (hd h1), hd h1⟩ }
theorem CbS.move {u : Value} (h : CbS hk C0 E0 R Z Bx K1 K2 W o0 o1 o2 (some u) none x y z s w) : CbS hk C0 E0 R Z Bx K1 K2 W o0 o1 o2 (some u) (some u) x y z s w :=
  { h with
    mv := fun _ e => e
    mx := fun u' hu => by obtain ⟨e, h2⟩ := h.mx u' hu; cases h2
    my := fun u' hu => by obtain ⟨e, h2⟩ := h.my u' hu; cases h2 }
theorem CbS.tup {u : Value} (h : CbS hk C0 E0 R Z Bx K1 K2 W o0 o1 o2 c (some u) x y z s w) : ∃ v e, u = .tuple #[v, e] := by
  obtain ⟨v, e, h1, _⟩ := h.rr u (h.mv u rfl)
  exact ⟨v, e, h1⟩
theorem CbS.ex0 {v e : Value} (h : CbS hk C0 E0 R Z Bx K1 K2 W o0 o1 o2 c (some (.tuple #[v, e])) none y z s w) : CbS hk C0 E0 R Z Bx K1 K2 W o0 o1 o2 c (some (.tuple #[v, e])) (some v) y z s w :=
  { h with
    mx := fun u hu => by injection hu with hu; exact ⟨e, by rw [hu]⟩
    ss := fun u hu => by obtain ⟨b, v', _, e2, _⟩ := h.ss u hu; cases e2 }
theorem CbS.ex1 {v e : Value} (h : CbS hk C0 E0 R Z Bx K1 K2 W o0 o1 o2 c (some (.tuple #[v, e])) x none z s w) : CbS hk C0 E0 R Z Bx K1 K2 W o0 o1 o2 c (some (.tuple #[v, e])) x (some e) z s w :=
  { h with my := fun u hu => by injection hu with hu; exact ⟨v, by rw [hu]⟩ }
theorem CbS.alloc (hS : Stays R Bx K1 K2) (h : CbS hk C0 E0 R Z Bx K1 K2 W o0 o1 o2 c m x y none s w) (hb : Below w.heap.size w w') (hz : w'.heap[w.heap.size]? = some Z) : CbS hk C0 E0 R Z Bx K1 K2 W o0 o1 o2 c m x y (some (.pointer (some ⟨w.heap.size, 0, none⟩))) s w' := by
  have h2 := h.more hS hb
  have hn : ∀ k, newB W none w k → newB W (some (.pointer (some ⟨w.heap.size, 0, none⟩))) w' k := fun k hk => ⟨hk.1, Nat.lt_of_lt_of_le hk.2.1 hb.size, fun b e2 => by
    injection e2 with e2
    injection e2 with e2
    injection e2 with e2
    injection e2 with e2
    have := hk.2.1
    omega⟩
  have hn2 : ∀ k, newC W o0 none w k → newC W o0 (some (.pointer (some ⟨w.heap.size, 0, none⟩))) w' k := fun k hk => ⟨hn k hk.1, hk.2⟩
  exact { h2 with
    k0 := fun u hu => by
      obtain ⟨g, e, h1, h3⟩ := h.k0 u hu
      exact ⟨g, e, hn g h1, fun h4 => (hb.block g h1.2.1).trans (h3 h4)⟩
    k1 := fun u hu => hS.w1 (hS.s1 (h.k1 u hu) fun k hk => hb.block k hk.2.1) hn
    k2 := fun u hu => hS.w2 (hS.s2 (h.k2 u hu) fun k hk => hb.block k hk.1.2.1) hn2
    rr := fun u hu => by
      obtain ⟨v, e, e1, h1⟩ := h.rr u hu
      exact ⟨v, e, e1, hS.weak (hS.keep h1 fun k hk => hb.block k hk.1.2.1) hn2⟩
    zz := fun u hu => by
      injection hu with hu
      exact ⟨_, hu.symm, h.be.size, (Array.getElem?_eq_some_iff.1 hz).1, fun _ => hz⟩
    ss := fun u hu => by obtain ⟨b, v', e1, _, _⟩ := h.ss u hu; cases e1 }
theorem CbS.box {p : Value} (h : CbS hk C0 E0 R Z Bx K1 K2 W o0 o1 o2 c m x y (some p) none w) : ∃ b, p = .pointer (some ⟨b, 0, none⟩) ∧ w.heap[b]? = some Z := by
  obtain ⟨b, e, _, _, h3⟩ := h.zz p rfl
  exact ⟨b, e, h3 rfl⟩
theorem CbS.sto (hS : Stays R Bx K1 K2) {v u : Value} {b : Nat} (h : CbS hk C0 E0 R Z Bx K1 K2 W o0 o1 o2 c m (some v) y (some (.pointer (some ⟨b, 0, none⟩))) none w) (hg : w.grownBy w' (some b)) (hx : Bx w' b v) : CbS hk C0 E0 R Z Bx K1 K2 W o0 o1 o2 c m (some v) y (some (.pointer (some ⟨b, 0, none⟩))) (some u) w' := by
  obtain ⟨b', e, hb1, hb2, _⟩ := h.zz _ rfl
  injection e with e
  injection e with e
  injection e with e
  subst e
  obtain ⟨e0, hm⟩ := h.mx v rfl
  have hc := h.mv _ hm
  have hne : c ≠ none := by rw [hc]; simp
  have hbe : Below W.heap.size W w' := h.be.grown hg h.be.size fun k e => by injection e with e; omega
  have hkb : ∀ k, newB W (some (.pointer (some ⟨b, 0, none⟩))) w k → w'.heap[k]? = w.heap[k]? := fun k hk => hg.block k hk.2.1 fun e2 => by injection e2 with e2; exact hk.2.2 _ rfl e2
  have hsz : ∀ k, newB W (some (.pointer (some ⟨b, 0, none⟩))) w k → newB W (some (.pointer (some ⟨b, 0, none⟩))) w' k := fun k hk => ⟨hk.1, Nat.lt_of_lt_of_le hk.2.1 hg.size, hk.2.2⟩
  exact { h with
    be := hbe
    k0 := fun u hu => by
      obtain ⟨g, e, h1, h3⟩ := h.k0 u hu
      exact ⟨g, e, hsz g h1, fun h4 => (hkb g h1).trans (h3 h4)⟩
    k1 := fun u hu => hS.w1 (hS.s1 (h.k1 u hu) hkb) hsz
    k2 := fun u hu => hS.w2 (hS.s2 (h.k2 u hu) fun k hk => hkb k hk.1) fun k hk => ⟨hsz k hk.1, hk.2⟩
    rr := fun u hu => by
      obtain ⟨v, e, e1, h1⟩ := h.rr u hu
      exact ⟨v, e, e1, hS.weak (hS.keep h1 fun k hk => hkb k hk.1) fun k hk => ⟨hsz k hk.1, hk.2⟩⟩
    zz := fun u hu => by
      injection hu with hu
      exact ⟨b, hu.symm, hb1, Nat.lt_of_lt_of_le hb2 hg.size, fun e => by cases e⟩
    sc := fun _ => hne
    ss := fun _ _ => ⟨b, v, rfl, rfl, hx⟩ }
theorem CbS.done (hR : RdP R) {u1 u2 u3 u4 u5 : Value} (h : CbS hk C0 E0 R Z Bx K1 K2 W o0 o1 o2 (some u1) (some u2) (some u3) (some u4) (some u5) s w) (hs : s ≠ none) : ∃ b, u5 = .pointer (some ⟨b, 0, none⟩) ∧ u2 = .tuple #[u3, u4] ∧ u1 = .tuple #[u3, u4] ∧ W.heap.size ≤ b ∧ Bx w b u3 ∧ R (fun g => W.heap.size ≤ g ∧ g < w.heap.size ∧ g ≠ b) w u3 u4 ∧ Below W.heap.size W w := by
  obtain ⟨u, rfl⟩ := Option.ne_none_iff_exists'.1 hs
  obtain ⟨b, v, e1, e2, h1⟩ := h.ss u rfl
  obtain ⟨e, h2⟩ := h.mx u3 rfl
  obtain ⟨e', h3⟩ := h.my u4 rfl
  have h4 := h.mv _ h2
  injection e1 with e1
  injection e2 with e2
  injection h2 with h2
  injection h3 with h3
  subst e1 e2
  rw [h2] at h3
  injection h3 with h3
  injection h3 with h3
  injection h3 with e5 h3
  injection h3 with e6 _
  subst e5 e6 h2
  injection h4 with h4
  subst h4
  obtain ⟨v', e', e7, h5⟩ := h.rr _ rfl
  injection e7 with e7
  injection e7 with e7
  injection e7 with e8 e7
  injection e7 with e9 _
  subst e8 e9
  obtain ⟨b', e, hb1, _, _⟩ := h.zz _ rfl
  injection e with e
  injection e with e
  injection e with e
  subst e
  exact ⟨b, rfl, rfl, rfl, hb1, h1, hR.weak h5 fun k hk => ⟨hk.1.1, hk.1.2.1, hk.1.2.2 _ rfl⟩, h.be⟩
def CbL (C0 : Array Value) (E0 : TypeId) (R : (Nat → Prop) → World → Value → Value → Prop) (Z : Obj) (Bx : World → Nat → Value → Prop) (K1 K2 : (Nat → Prop) → World → Value → Prop) (W : World) : List (Option Value) → World → Prop
  | [c, m, x, y, z, s], w => CbS false C0 E0 R Z Bx K1 K2 W none none none c m x y z s w
  | [o0, o1, o2, c, m, x, y, z, s], w => CbS true C0 E0 R Z Bx K1 K2 W o0 o1 o2 c m x y z s w
  | _, _ => False
def CbK (C0 : Array Value) (E0 : TypeId) (R : (Nat → Prop) → World → Value → Value → Prop) (Z : Obj) (Bx : World → Nat → Value → Prop) (K1 K2 : (Nat → Prop) → World → Value → Prop) (W : World) : List (Option Value) → World → Prop
  | [o1, c, m, x, y, z, s], w => CbS false C0 E0 R Z Bx K1 K2 W none o1 none c m x y z s w
  | [o1, o2, c, m, x, y, z, s], w => CbS false C0 E0 R Z Bx K1 K2 W none o1 o2 c m x y z s w
  | _, _ => False
theorem CbK.below : ∀ {l : List (Option Value)} {w : World}, CbK C0 E0 R Z Bx K1 K2 W l w → Below W.heap.size W w
  | [_, _, _, _, _, _, _], _, h => CbS.be h
  | [_, _, _, _, _, _, _, _], _, h => CbS.be h
theorem CbK.more (hS : Stays R Bx K1 K2) : ∀ (l : List (Option Value)) (w w' : World), CbK C0 E0 R Z Bx K1 K2 W l w → Below w.heap.size w w' → CbK C0 E0 R Z Bx K1 K2 W l w'
  | [_, _, _, _, _, _, _], _, _, h, hb => CbS.more hS h hb
  | [_, _, _, _, _, _, _, _], _, _, h, hb => CbS.more hS h hb
end
end Go.Proofs.YtpdnehgboafgpaaDoor
namespace Go.Proofs.YtpdnehgboafgpaaDoor
open Go.RowKit
structure Twb (w A : World) (r : Option Nat) (b : Nat) : Prop where
  os : A.os = w.os
  tape : A.tape = w.tape
  output : A.output = w.output
  size : w.heap.size ≤ A.heap.size
  block : ∀ k, k < w.heap.size → some k ≠ r → k ≠ b → A.heap[k]? = w.heap[k]?
section
variable {w0 w A B : World} {r : Option Nat} {b : Nat}
theorem Twb.of_below (h : Below w.heap.size w A) : Twb w A r b := ⟨h.os, h.tape, h.output, h.size, fun k hk _ _ => h.block k hk⟩
theorem Twb.below (h : Twb w A r b) (k : Below A.heap.size A B) : Twb w B r b :=
  ⟨k.os.trans h.os, k.tape.trans h.tape, k.output.trans h.output, Nat.le_trans h.size k.size, fun j h1 h2 h3 => (k.block j (Nat.lt_of_lt_of_le h1 h.size)).trans (h.block j h1 h2 h3)⟩
theorem Twb.row (h : Twb w A r b) (k : A.grownBy B r) : Twb w B r b :=
  ⟨k.os.trans h.os, k.tape.trans h.tape, k.output.trans h.output, Nat.le_trans h.size k.size, fun j h1 h2 h3 => (k.block j (Nat.lt_of_lt_of_le h1 h.size) h2).trans (h.block j h1 h2 h3)⟩
theorem Twb.box (h : Twb w A r b) (k : A.grownBy B (some b)) : Twb w B r b :=
  ⟨k.os.trans h.os, k.tape.trans h.tape, k.output.trans h.output, Nat.le_trans h.size k.size, fun j h1 h2 h3 => (k.block j (Nat.lt_of_lt_of_le h1 h.size) (fun e => h3 (by injection e))).trans (h.block j h1 h2 h3)⟩
theorem Twb.refl : Twb w w r b := ⟨rfl, rfl, rfl, Nat.le_refl _, fun _ _ _ _ => rfl⟩
theorem Twb.belowB (h : Twb w A r b) (q : Below w0.heap.size w0 w) (hr : ∀ k, r = some k → w0.heap.size ≤ k) (hb : w0.heap.size ≤ b) : Below w0.heap.size w0 A :=
  ⟨h.os.trans q.os, h.tape.trans q.tape, h.output.trans q.output, Nat.le_trans q.size h.size, fun k hk => (h.block k (Nat.lt_of_lt_of_le hk q.size) (fun e => by have := hr k e.symm; omega) (by omega)).trans (q.block k hk)⟩
theorem Twb.boxN {g : Nat} {t : TypeId} {vs : List Value} (h : Twb w A r b) (hT : BoxN w g t vs) (hr : some g ≠ r) (hb : g ≠ b) : BoxN A g t vs := (h.block g hT.lt hr hb).trans hT
end
def Elt.but {α : Type} (E : Elt α) (b : Nat) : Elt α where
  size := E.size
  pos := E.pos
  R S w x vs := E.R (fun k => S k ∧ k ≠ b) w x vs
  len h := E.len h
  keep h hk := E.keep h fun k h2 => hk k h2.1
  weak h hs := E.weak h fun k h2 => ⟨hs k h2.1, h2.2⟩
  fit h := E.weak (E.fit h) fun _ h2 => ⟨⟨h2.1.1, h2.2⟩, h2.1.2⟩
  one h := E.one h
section
variable {α : Type} {E : Elt α} {Te : TypeId} {base lo : Nat} {b : Nat} {w w' : World} {v : Value} {xs : List α}
theorem Flat.but {S : Nat → Prop} (h : ∀ k, S k → k ≠ b) : ∀ {xs : List α} {vs : List Value}, Flat E S w xs vs → Flat (Elt.but E b) S w xs vs
  | [], _, hf => hf
  | _ :: _, _, ⟨us, ws, e, h1, h2⟩ => ⟨us, ws, e, E.weak h1 fun k hk => ⟨hk, h k hk⟩, Flat.but h h2⟩
theorem Flat.unbut {S : Nat → Prop} : ∀ {xs : List α} {vs : List Value}, Flat (Elt.but E b) S w xs vs → Flat E S w xs vs
  | [], _, hf => hf
  | _ :: _, _, ⟨us, ws, e, h1, h2⟩ => ⟨us, ws, e, E.weak h1 fun _ hk => hk.1, Flat.unbut h2⟩
theorem OwnL.but (h : OwnL E Te base lo w v xs) (hb : ∀ k, lo ≤ k → k < w.heap.size → k ≠ b) : OwnL (Elt.but E b) Te base lo w v xs := by
  obtain ⟨vs, h1, h2⟩ := h
  exact ⟨vs, h1, Flat.but (fun k hk => hb k hk.1 hk.2.1) h2⟩
theorem OwnL.unbut (h : OwnL (Elt.but E b) Te base lo w v xs) : OwnL E Te base lo w v xs := by
  obtain ⟨vs, h1, h2⟩ := h
  exact ⟨vs, h1, Flat.unbut h2⟩
theorem Flat.butKeep {S : Nat → Prop} (hk : ∀ k, S k → k ≠ b → w'.heap[k]? = w.heap[k]?) : ∀ {xs : List α} {vs : List Value}, Flat (Elt.but E b) S w xs vs → Flat (Elt.but E b) S w' xs vs
  | [], _, hf => hf
  | _ :: _, _, ⟨us, ws, e, h1, h2⟩ => ⟨us, ws, e, E.keep h1 fun k h3 => hk k h3.1 h3.2, Flat.butKeep hk h2⟩
theorem OwnL.butOther (h : OwnL (Elt.but E b) Te base lo w v xs) (hg : w.grownBy w' (some b)) (hv : v.ownBlock ≠ some b) : OwnL (Elt.but E b) Te base lo w' v xs := by
  obtain ⟨vs, h1, h2⟩ := h
  refine ⟨vs, h1.kept hg (.inr fun e => hv e), ?_⟩
  exact (Flat.butKeep (fun k hk hb => hg.block k hk.2.1 fun e => by injection e with e; exact hb e) h2).weak fun k hk => ⟨hk.1, Nat.lt_of_lt_of_le hk.2.1 hg.size, hk.2.2⟩
end
def PshJ {α : Type} (E : Elt α) (Te : TypeId) (base lo : Nat) (r : Option Nat) (b : Nat) (t : TypeId) (vs : List Value) (f : Nat) (W : World) (xs : List α) (x : α) : List Value → World → Prop
  | [], V => Below W.heap.size W V
  | [v], V => Below W.heap.size W V ∧ ∃ us : List Value, v.cells = us.toArray ∧ E.R (fun k => W.heap.size ≤ k ∧ k < V.heap.size) V x us
  | [_, s], V => Twb W V r b ∧ ∃ ad c, s = .slice ad (xs ++ [x]).length c ∧ OwnL (Elt.but E b) Te base lo V (.slice ad (xs ++ [x]).length c) (xs ++ [x]) ∧ BoxN V b t vs ∧ Value.ownBlock (.slice ad (xs ++ [x]).length c) ≠ some b
  | _, V => Twb W V r b ∧ ∃ ad c, OwnL (Elt.but E b) Te base lo V (.slice ad (xs ++ [x]).length c) (xs ++ [x]) ∧ BoxN V b t (vs.set f (.slice ad (xs ++ [x]).length c)) ∧ Value.ownBlock (.slice ad (xs ++ [x]).length c) ≠ some b
section
variable {α : Type} {E : Elt α} {Te : TypeId} {base lo : Nat} {r : Option Nat} {b : Nat} {t : TypeId} {vs : List Value} {f : Nat} {W : World} {xs : List α} {x : α}
theorem PshJ.below : ∀ (l : List Value) (V V' : World), PshJ E Te base lo r b t vs f W xs x l V → Below V.heap.size V V' → PshJ E Te base lo r b t vs f W xs x l V'
  | [], _, _, h, hb => Below.trans h (hb.mono (Below.size h))
  | [_], _, _, ⟨h, us, e, h1⟩, hb => ⟨h.trans (hb.mono h.size), us, e, E.weak (Elt.below h1 hb) fun _ hk => ⟨hk.1, Nat.lt_of_lt_of_le hk.2 hb.size⟩⟩
  | [_, _], _, _, ⟨h, ad, c, e, h1, h2, h3⟩, hb => ⟨h.below hb, ad, c, e, h1.below hb, h2.below hb h2.lt, h3⟩
  | _ :: _ :: _ :: _, _, _, ⟨h, ad, c, h1, h2, h3⟩, hb => ⟨h.below hb, ad, c, h1.below hb, h2.below hb h2.lt, h3⟩
theorem PshJ.two : ∀ {l : List Value} {V : World}, PshJ E Te base lo r b t vs f W xs x l V → Twb W V r b
  | [], _, h => Twb.of_below h
  | [_], _, ⟨h, _⟩ => Twb.of_below h
  | [_, _], _, ⟨h, _⟩ => h
  | _ :: _ :: _ :: _, _, ⟨h, _⟩ => h
theorem PshJ.early {V : World} {vl : List Value} (h : PshJ E Te base lo r b t vs f W xs x vl V) (hk : vl.length ≤ 1) : Below W.heap.size W V := by
  match vl, h with
  | [], h => exact h
  | [_], h => exact h.1
  | _ :: _ :: _, _ => simp at hk
def pRow {α : Type} (E : Elt α) (Te : TypeId) (W : World) (r : Option Nat) (b : Nat) (x : α) (hr : ∀ k, r = some k → k < W.heap.size) (hb : b < W.heap.size) : SGn (fun A B => Twb A B r b) :=
  ⟨fun w v => ∃ g, ∃ us : List Value, v = .slice (some ⟨g, 0, none⟩) 1 1 ∧ W.heap.size ≤ g ∧ w.heap[g]? = some (.cells us.toArray Te (0, 0)) ∧ E.R (fun k => W.heap.size ≤ k ∧ k < w.heap.size) w x us,
  fun _ _ _ ⟨g, us, h, h0, hc, hR⟩ hb => ⟨g, us, h, h0, (hb.block g (Array.getElem?_eq_some_iff.1 hc).1).trans hc, E.weak (Elt.below hR hb) fun _ hk => ⟨hk.1, Nat.lt_of_lt_of_le hk.2 hb.size⟩⟩,
  fun _ _ _ ⟨g, us, h, h0, hc, hR⟩ hk => ⟨g, us, h, h0, (hk.block g (Array.getElem?_eq_some_iff.1 hc).1 (fun e => by have := hr g e.symm; omega) (fun e => by omega)).trans hc, E.weak (E.keep hR fun k hh => hk.block k hh.2 (fun e => by have := hr k e.symm; omega) (fun e => by omega)) fun _ hh => ⟨hh.1, Nat.lt_of_lt_of_le hh.2 hk.size⟩⟩⟩
theorem PshJ.app {V V' : World} {v : Value} {v0 : Value} {ad : Option Addr} {c : Nat} (h : PshJ E Te base lo r b t vs f W xs x [v] V) (hB : BoxN W b t vs) (hO : OwnL (Elt.but E b) Te base lo V' (.slice ad (xs ++ [x]).length c) (xs ++ [x])) (hg : V.grownBy V' r) (hbr : r ≠ some b) (ho : Value.ownBlock (.slice ad (xs ++ [x]).length c) = r ∨ Value.ownBlock (.slice ad (xs ++ [x]).length c) = some V.heap.size) :
    PshJ E Te base lo r b t vs f W xs x [v0, .slice ad (xs ++ [x]).length c] V' :=
  ⟨(Twb.of_below h.1).row hg, ad, c, rfl, hO, (hB.below h.1 hB.lt).other hg hbr, by
    rcases ho with e | e
    · rw [e]; exact hbr
    · rw [e]; intro e2; injection e2 with e2; have := hB.lt; have := h.1.size; omega⟩
theorem PshJ.sto {V V' : World} {v s u v0 s0 : Value} {ad : Option Addr} {c : Nat} (h : PshJ E Te base lo r b t vs f W xs x [v, s] V) (hO : OwnL (Elt.but E b) Te base lo V (.slice ad (xs ++ [x]).length c) (xs ++ [x])) (hn : Value.ownBlock (.slice ad (xs ++ [x]).length c) ≠ some b) (hg : V.grownBy V' (some b)) (hB : BoxN V' b t (vs.set f (.slice ad (xs ++ [x]).length c))) :
    PshJ E Te base lo r b t vs f W xs x [v0, s0, u] V' :=
  ⟨h.1.box hg, ad, c, hO.butOther hg hn, hB, hn⟩
end
end Go.Proofs.YtpdnehgboafgpaaDoor
namespace Go.Proofs.YtpdnehgboafgpaaDoor
open Go.RowKit Go.Shelf
def smK (l : List Lk) : Prop := l.length ≤ 1000000 ∧ ∀ x ∈ l, x.span.lo.length ≤ 1000000 ∧ x.span.hi.length ≤ 1000000
def OwnKs (B : Nat) (w : World) (a a2 : Option Addr) (c c2 : Nat) (H Q : List Lk) : Prop := ∃ D : Nat → Prop, OwnF Elt.lk 29 D w (.slice a H.length c) H ∧ OwnF Elt.lk 29 D w (.slice a2 Q.length c2) Q ∧
  (∀ k, D k → B ≤ k ∧ k < w.heap.size ∧ Value.ownBlock (.slice a H.length c) ≠ some k ∧ Value.ownBlock (.slice a2 Q.length c2) ≠ some k) ∧ (∀ k, Value.ownBlock (.slice a H.length c) = some k → B ≤ k ∧ Value.ownBlock (.slice a2 Q.length c2) ≠ some k) ∧ ∀ k, Value.ownBlock (.slice a2 Q.length c2) = some k → B ≤ k
theorem OwnKs.rd {B : Nat} {w : World} {a a2 : Option Addr} {c c2 : Nat} {H Q : List Lk} (h : OwnKs B w a a2 c c2 H Q) : RdLs (fun k => B ≤ k ∧ k < w.heap.size) w (.agg #[.slice a H.length c, .slice a2 Q.length c2]) H Q := by
  obtain ⟨D, h1, h2, h3, h4, h5⟩ := h
  exact ⟨a, c, a2, c2, rfl, h1.rdL.weak fun k hk => hk.elim (fun h => ⟨(h3 k h).1, (h3 k h).2.1⟩) fun h => ⟨(h4 k h).1, h1.lt h⟩, h2.rdL.weak fun k hk => hk.elim (fun h => ⟨(h3 k h).1, (h3 k h).2.1⟩) fun h => ⟨h5 k h, h2.lt h⟩⟩
theorem OwnKs.below {B : Nat} {w w' : World} {a a2 : Option Addr} {c c2 : Nat} {H Q : List Lk} (h : OwnKs B w a a2 c c2 H Q) (hb : Below w.heap.size w w') : OwnKs B w' a a2 c c2 H Q := by
  obtain ⟨D, h1, h2, h3, h4, h5⟩ := h
  exact ⟨D, h1.below hb fun k hk => (h3 k hk).2.1, h2.below hb fun k hk => (h3 k hk).2.1, fun k hk => ⟨(h3 k hk).1, Nat.lt_of_lt_of_le (h3 k hk).2.1 hb.size, (h3 k hk).2.2⟩, h4, h5⟩
theorem OwnKs.grown {B : Nat} {w w' : World} {a a2 : Option Addr} {c c2 : Nat} {H Q : List Lk} {b : Nat} (h : OwnKs B w a a2 c c2 H Q) (hg : w.grownBy w' (some b)) (hb : b < B) : OwnKs B w' a a2 c c2 H Q := by
  obtain ⟨D, h1, h2, h3, h4, h5⟩ := h
  have hD : ∀ k, D k → w'.heap[k]? = w.heap[k]? := fun k hk => hg.block k (h3 k hk).2.1 fun e => by injection e with e; have := (h3 k hk).1; omega
  exact ⟨D, h1.kept (fun k hk => hg.block k (h1.lt hk) fun e => by injection e with e; have := (h4 k hk).1; omega) hD, h2.kept (fun k hk => hg.block k (h2.lt hk) fun e => by injection e with e; have := h5 k hk; omega) hD, fun k hk => ⟨(h3 k hk).1, Nat.lt_of_lt_of_le (h3 k hk).2.1 hg.size, (h3 k hk).2.2⟩, h4, h5⟩
set_option maxRecDepth 100000 in
set_option maxHeartbeats 4000000 in
theorem lCopied_any (w : World) {S : Nat → Prop} {v : Value} {H Q : List Lk} (h : RdLs S w v H Q) (hH : smK H) (hQ : smK Q) :
    Calls Tryd.prog 54 #[v] w fun e w' => ∃ a c a2 c2, e = .returned (.agg #[.slice a H.length c, .slice a2 Q.length c2]) ∧ OwnKs w.heap.size w' a a2 c c2 H Q ∧ Below w.heap.size w w' := by
  obtain ⟨hlH, hsH⟩ := hH
  obtain ⟨hlQ, hsQ⟩ := hQ
  obtain ⟨a, c, a2, c2, rfl, hH, hQ⟩ := h
  obtain ⟨W0, hW, q, bn, bz, hsz⟩ := boxes2 w 24 24 [.slice a H.length c, .slice a2 Q.length c2] [.slice none 0 0, .slice none 0 0]
  have eA : ∀ args w, (callFunc 58 args).run Tryd.prog w = .ok (.enter 58 args) w := enters_of Tryd.func58 (by kernel_rfl) rfl
  go_enter Tryd.func54, Tryd.ntmps54
  go_upto_region 1 with (fail)
  rw [show (w.alloc (.cells #[.slice a H.length c, .slice a2 Q.length c2] 24)).alloc (.cells #[.slice none 0 0, .slice none 0 0] 24) = W0 from hW.symm]
  clear hW hsz
  have zW := bz.lt
  go_upto_region 2 with (first | (refine wpList_boxNew (vs := [.slice none 0 0, .slice none 0 0]) (by kernel_rfl) rfl rfl ?_; intro w1 hb1 hB1) | fail)
  have q1 := q.trans (hb1.mono q.size)
  have z1 := hB1.lt
  have b0 := (bn.below hb1 bn.lt).cell (i := 0) rfl
  go_upto_region 3 with (fail)
  clear b0
  go_loopw [11] (fun iv wr => ∃ (k : Nat) (ad : Option Addr) (ko : Nat), iv = .int .i64 k ∧ k ≤ H.length ∧ OwnL Elt.lk 29 (W0.heap.size + 1) (W0.heap.size + 1) wr (.slice ad (H.take k).length ko) (H.take k) ∧ BoxN wr W0.heap.size 24 [.slice ad (H.take k).length ko, .slice none 0 0] ∧ Below W0.heap.size W0 wr)
    (fun i _ => H.length - (intOf i).toNat)
  case atStart => exact ⟨0, none, 0, rfl, Nat.zero_le _, OwnL.nil _ _ _ _ _, hB1, hb1⟩
  case round =>
    clear hB1 hb1 q1
    obtain ⟨k, ad, ko, rfl, hkl, hO, hB, qr⟩ := hrel
    have q1 := q.trans (qr.mono q.size)
    have zr := qr.size
    have q0 := q
    replace q := q1
    clear q1
    rcases Nat.lt_or_ge k H.length with hlt | hge
    · obtain ⟨b, off, KA, KC, VA, VC, rfl, hb, c0, c1, c2, c3, c4, c5, c6, hk1, hk2, hw64⟩ := (hH.below q).lk k hlt
      obtain ⟨hx1, hx2⟩ := hsH _ (List.getElem_mem hlt)
      have hsn := Lib.hid (show H.take (k + 1) = H.take k ++ [H[k]] from List.take_succ_eq_append_getElem hlt)
      obtain ⟨x, ex⟩ : ∃ x, x = H[k] := ⟨_, rfl⟩
      obtain ⟨xs, exs⟩ : ∃ xs, xs = H.take k := ⟨_, rfl⟩
      have hxl : xs.length ≤ 1000000 := by rw [exs, List.length_take]; omega
      rw [← ex] at c0 c1 c2 c3 c4 c5 c6 hk1 hk2 hw64 hx1 hx2 hsn
      rw [← exs] at hO hB hsn
      clear ex exs
      have hx : RdLk S wr (.agg #[.int .i64 x.owner, .bool x.whole, .int .i64 x.span.table, .slice KA x.span.lo.length KC, .slice VA x.span.hi.length VC, .bool x.span.isOpen, .int .i64 x.mode]) x := ⟨KA, KC, VA, VC, rfl, hk1, hk2, hw64⟩
      go_upto_region 5 with (first | (refine wpList_boxNew (vs := [.int .i64 0, .bool false, .int .i64 0, .slice none 0 0, .slice none 0 0, .bool false, .int .i64 0]) (by kernel_rfl) rfl rfl ?_; intro wa hba hBa) | (refine wpList_boxStore (us := [.int .i64 x.owner, .bool x.whole, .int .i64 x.span.table, .slice KA x.span.lo.length KC, .slice VA x.span.hi.length VC, .bool x.span.isOpen, .int .i64 x.mode]) (by kernel_rfl) rfl rfl rfl rfl rfl rfl hBa rfl ?_; intro W hgw hXW) | fail)
      go_simp
      have hbw : Below wr.heap.size wr W := hba.grown hgw hba.size fun k hk => by injection hk with hk; omega
      have qW := qr.trans (hbw.mono qr.size)
      have hsW := hXW.lt
      have hBlt := hB.lt
      have hBW := hB.below hbw hB.lt
      have hrr : ∀ k, Value.ownBlock (.slice ad xs.length ko) = some k → (W0.heap.size + 1) ≤ k ∧ k < wr.heap.size := fun k hk => hO.block_lt k hk
      have hrW : ∀ k, Value.ownBlock (.slice ad xs.length ko) = some k → k < W.heap.size := fun k hk => by have := hrr k hk; omega
      replace hO := (hO.below hbw).but (b := W0.heap.size) (fun k hk _ => by omega)
      replace hx := hx.below hbw
      have hlo : (W0.heap.size + 1) ≤ W.heap.size := by omega
      have hxr : some wr.heap.size ≠ Value.ownBlock (.slice ad xs.length ko) := fun e => by have := hrr _ e.symm; omega
      have hxb : wr.heap.size ≠ W0.heap.size := by omega
      have hbr : Value.ownBlock (.slice ad xs.length ko) ≠ some W0.heap.size := fun e => by have := hrr _ e; omega
      have hb1 : W0.heap.size < (W0.heap.size + 1) := by omega
      clear c0 c1 c2 c3 c4 c5 c6 hk1 hk2 hba hBa hgw hbw hB q
      refine wp_region_lnl (K := fun A B => Twb A B (Value.ownBlock (.slice ad xs.length ko)) (W0.heap.size)) (by kernel_rfl) (by kernel_rfl) [3, 5, 7] (by kernel_rfl) [lEq (.pointer (some ⟨W0.heap.size, 0 + 0, none⟩)), lEq (.slice ad xs.length ko), lEq (.agg #[.int .i64 x.owner, .bool x.whole, .int .i64 x.span.table, .slice KA x.span.lo.length KC, .slice VA x.span.hi.length VC, .bool x.span.isOpen, .int .i64 x.mode]), lAny, pRow Elt.lk 29 (W) (Value.ownBlock (.slice ad xs.length ko)) (W0.heap.size) x hrW hBW.lt, lAny, lEq (.pointer (some ⟨W0.heap.size, 0 + 0, none⟩)), lAny] (PshJ Elt.lk 29 ((W0.heap.size + 1)) ((W0.heap.size + 1)) (Value.ownBlock (.slice ad xs.length ko)) (W0.heap.size) 24 [.slice ad xs.length ko, .slice none 0 0] 0 (W) (xs) x) PshJ.below (show Below (W).heap.size (W) (W) from Below.refl _ _)
        ⟨?o0, ?o1, ?o2, ?o3, ?o4, ?o5, ?o6, ?o7, trivial⟩ ?fin
      case o0 =>
        refine LnOp.side rfl (by kernel_rfl) (fun A va w' k hF hT hk hJ hb hu hp hd => ?_)
        have e1 : A.eval (.tmp 3) = .pointer (some ⟨W0.heap.size, 0, none⟩) := hF 3 rfl
        exact wp_fieldN lsS rfl (e1) (by omega) ⟨_, rfl, rfl, Below.refl _ _⟩
      case o1 =>
        refine LnOp.side rfl (by kernel_rfl) (fun A va w' k hF hT hk hJ hb hu hp hd => ?_)
        have e1 : A.eval (.tmp 15) = .pointer (some ⟨W0.heap.size, 0 + 0, none⟩) := (hT 15 0 (by simp) rfl).trans (hd ⟨0, .data⟩ (by simp) rfl rfl)
        have hk1 : k ≤ 1 := hb 1 5 rfl (by kernel_rfl)
        have hJ0 := PshJ.early hJ (by simp only [List.length_map, List.length_take]; omega)
        exact wp_ld_slice (e := 29) rfl e1 (by kernel_rfl) ((hBW.below hJ0 hBW.lt).cell (i := 0) rfl) ⟨_, rfl, rfl, Below.refl _ _⟩
      case o2 =>
        refine LnOp.side rfl (by kernel_rfl) (fun A va w' k hF hT hk hJ hb hu hp hd => ?_)
        have e1 : A.eval (.tmp 5) = .pointer (some ⟨wr.heap.size, 0, none⟩) := hF 5 rfl
        have hX2 := (PshJ.two hJ).boxN hXW hxr hxb
        exact wp_loadU (us := [.int .i64 x.owner, .bool x.whole, .int .i64 x.span.table, .slice KA x.span.lo.length KC, .slice VA x.span.hi.length VC, .bool x.span.isOpen, .int .i64 x.mode]) lkS rfl e1 (fun j u hj => by rw [Nat.zero_add]; exact hX2.cell hj) ⟨_, rfl, rfl, Below.refl _ _⟩
      case o3 =>
        refine LnOp.line 0 rfl rfl (fun A va w' hF hT hJ hu hd => ?_)
        have e1 : A.eval (.tmp 17) = .agg #[.int .i64 x.owner, .bool x.whole, .int .i64 x.span.table, .slice KA x.span.lo.length KC, .slice VA x.span.hi.length VC, .bool x.span.isOpen, .int .i64 x.mode] := (hT 17 2 (by simp) rfl).trans (hd ⟨2, .data⟩ (by simp) rfl rfl)
        have hJ0 : Below (W).heap.size (W) w' := hJ
        refine wp_callFn rfl eA (by simp only [List.map_toArray, List.map_cons, List.map_nil, e1]) ((lAlone_any w' (hx.below hJ0) hx1 hx2).mono ?_)
        rintro e w2 ⟨v2, rfl, ⟨ka, kc, va2, vc, rfl, hk2, hv2, ht2⟩, hb2⟩
        have hR : Elt.lk.R (fun k => W.heap.size ≤ k ∧ k < w2.heap.size) w2 x (lkC x (.slice ka x.span.lo.length kc) (.slice va2 x.span.hi.length vc)) := ⟨_, _, rfl, hk2.weak fun k hk => ⟨Nat.le_trans hJ0.size hk.1, hk.2⟩, hv2.weak fun k hk => ⟨Nat.le_trans hJ0.size hk.1, hk.2⟩, ht2⟩
        exact ⟨_, rfl, _, rfl, ⟨hJ0.trans (hb2.mono hJ0.size), _, rfl, hR⟩, (Twb.refl (r := Value.ownBlock (.slice ad xs.length ko)) (b := W0.heap.size)).below hb2⟩
      case o4 =>
        refine LnOp.side rfl (by kernel_rfl) (fun A va w' k hF hT hk hJ hb hu hp hd => ?_)
        have x1 : A.eval (.tmp 18) = va 3 := hT 18 3 (by simp) rfl
        obtain rfl : k = 1 := by
          have h1 := hp ⟨3, .data⟩ (by simp) rfl 0 rfl
          have h2 := hb 1 5 rfl (by kernel_rfl)
          omega
        obtain ⟨hJ0, us, eus, hR⟩ := hJ
        have hb1 : Below w'.heap.size w' (w'.alloc (.cells us.toArray 29)) := (Below.refl _ _).alloc (Nat.le_refl _) _
        exact wp_buildOne lkP rfl x1 eus (Elt.len _ hR) (by decide) (by decide) ⟨_, rfl, ⟨_, us, rfl, hJ0.size, by simp only [World.alloc, Array.getElem?_push_size], Elt.weak _ (Elt.below hR hb1) fun k hk => ⟨hk.1, Nat.lt_of_lt_of_le hk.2 hb1.size⟩⟩, hb1⟩
      case o5 =>
        refine LnOp.line 1 rfl rfl (fun A va w' hF hT hJ hu hd => ?_)
        have e1 : A.eval (.tmp 16) = .slice ad xs.length ko := (hT 16 1 (by simp) rfl).trans (hd ⟨1, .data⟩ (by simp) rfl rfl)
        have x2 : A.eval (.tmp 19) = va 4 := hT 19 4 (by simp) rfl
        have y2 := hd ⟨4, .data⟩ (by simp) rfl rfl
        have hJ' := hJ
        obtain ⟨hJ0, _⟩ := hJ
        obtain ⟨g, us, eg, hg0, hgc, hgR⟩ : ∃ g, ∃ us : List Value, va 4 = .slice (some ⟨g, 0, none⟩) 1 1 ∧ (W).heap.size ≤ g ∧ w'.heap[g]? = some (.cells us.toArray 29 (0, 0)) ∧ Elt.R Elt.lk (fun k => (W).heap.size ≤ k ∧ k < w'.heap.size) w' x us := y2
        refine wp_appendL (E := Elt.but Elt.lk (W0.heap.size)) (ys := [x]) lkP rfl e1 (hO.below hJ0) (x2.trans eg) (fun j u hj => by rw [Addr.add_lit, World.cell?, hgc]; simpa using hj) (Flat.single (Elt.weak Elt.lk hgR fun k hk => ⟨hk, fun e => by have := hk.1; have := hBW.lt; omega⟩)) (fun k hk => ⟨Nat.le_trans hlo hk.1, hk.2, fun e => by have := hrW k e.symm; omega⟩) (Nat.le_trans hlo hJ0.size) (fun ad7 k7 cap7 w2 h2 hg h3 => ?_) (by simp; omega)
        obtain rfl : k7 = (xs ++ [x]).length := h2.len
        exact ⟨_, rfl, PshJ.app hJ' hBW h2 hg hbr h3, (Twb.refl (b := W0.heap.size)).row hg⟩
      case o6 =>
        refine LnOp.side rfl (by kernel_rfl) (fun A va w' k hF hT hk hJ hb hu hp hd => ?_)
        have e1 : A.eval (.tmp 3) = .pointer (some ⟨W0.heap.size, 0, none⟩) := hF 3 rfl
        exact wp_fieldN lsS rfl (e1) (by omega) ⟨_, rfl, rfl, Below.refl _ _⟩
      case o7 =>
        refine LnOp.line 2 rfl rfl (fun A va w' hF hT hJ hu hd => ?_)
        have e1 : A.eval (.tmp 21) = .pointer (some ⟨W0.heap.size, 0 + 0, none⟩) := (hT 21 6 (by simp) rfl).trans (hd ⟨6, .data⟩ (by simp) rfl rfl)
        have x2 : A.eval (.tmp 20) = va 5 := hT 20 5 (by simp) rfl
        have hJ' := hJ
        obtain ⟨hJ0, ad7, c7, es, hOs, hBs, hn7⟩ := hJ
        refine wp_boxSet (j := 0) rfl (by kernel_rfl) e1 (x2.trans es) rfl rfl hBs (by simp) (fun w2 hg hB2 => ?_)
        exact ⟨_, rfl, PshJ.sto hJ' hOs hn7 hg hB2, (Twb.refl (r := Value.ownBlock (.slice ad xs.length ko))).box hg⟩
      case fin =>
        intro vs1 W9 hJ hG
        obtain ⟨htw, ad9, c9, hO9, hB9, hn9⟩ := hJ
        have g0 : vs1 0 = .pointer (some ⟨W0.heap.size, 0 + 0, none⟩) := hG 0 (by decide) rfl
        have g1 : vs1 1 = .slice ad xs.length ko := hG 1 (by decide) rfl
        have g2 : vs1 2 = .agg #[.int .i64 x.owner, .bool x.whole, .int .i64 x.span.table, .slice KA x.span.lo.length KC, .slice VA x.span.hi.length VC, .bool x.span.isOpen, .int .i64 x.mode] := hG 2 (by decide) rfl
        have g6 : vs1 6 = .pointer (some ⟨W0.heap.size, 0 + 0, none⟩) := hG 6 (by decide) rfl
        clear hG
        simp only [putAll, g0, g1, g2, g6]
        clear g0 g1 g2 g6
        go_simp
        have q9 := htw.belowB (w0 := W0) qW (fun k hk => by have := hrr k hk; omega) (Nat.le_refl _)
        replace hO9 := hO9.unbut
        rw [← hsn.out] at hO9 hB9
        clear hBW hXW hO hx hsn htw hn9
        go_wp2_with fail
        go_roundw
        case rel => exact ⟨k + 1, ad9, c9, by go_num, by omega, hO9, hB9, q9⟩
        case measure => simp [intOf]; omega
    · obtain rfl : k = H.length := by omega
      rw [List.take_length] at hO hB
      obtain ⟨aH, eaH⟩ : ∃ aH, aH = ad := ⟨_, rfl⟩
      obtain ⟨cH, ecH⟩ : ∃ cH, cH = ko := ⟨_, rfl⟩
      obtain ⟨w2, ew2⟩ : ∃ w2, w2 = wr := ⟨_, rfl⟩
      rw [← eaH, ← ecH, ← ew2] at hO hB
      rw [← ew2] at qr q zr ⊢
      clear eaH ecH ew2
      have hOH := hO
      have bn1 := bn.below qr bn.lt
      have bz1 := bz.below qr bz.lt
      have zB := hB.lt
      clear hO bn bz
      have b1 := bn1.cell (i := 1) rfl
      go_upto_region 8 with (fail)
      clear b1
      go_loopw [26] (fun iv wr => ∃ (k : Nat) (ad : Option Addr) (ko : Nat), iv = .int .i64 k ∧ k ≤ Q.length ∧ OwnL Elt.lk 29 (w2.heap.size) (w2.heap.size) wr (.slice ad (Q.take k).length ko) (Q.take k) ∧ BoxN wr W0.heap.size 24 [.slice aH H.length cH, .slice ad (Q.take k).length ko] ∧ w2.grownBy wr (some W0.heap.size))
        (fun i _ => Q.length - (intOf i).toNat)
      case atStart => exact ⟨0, none, 0, rfl, Nat.zero_le _, OwnL.nil _ _ _ _ _, hB, grownB (Below.refl _ _) _⟩
      case round =>
        clear hB
        obtain ⟨k, ad, ko, rfl, hkl, hO, hB, qr2⟩ := hrel
        have hbs : Below w.heap.size w wr := q.grown qr2 q.size fun k e => by injection e with e; have := q0.size; omega
        have qq := q
        replace q := hbs
        replace qr := qr2
        have zr2 := qr.size
        clear hbs qr2
        rcases Nat.lt_or_ge k Q.length with hlt | hge
        · obtain ⟨b, off, KA, KC, VA, VC, rfl, hb, c0, c1, c2, c3, c4, c5, c6, hk1, hk2, hw64⟩ := (hQ.below q).lk k hlt
          obtain ⟨hx1, hx2⟩ := hsQ _ (List.getElem_mem hlt)
          have hsn := Lib.hid (show Q.take (k + 1) = Q.take k ++ [Q[k]] from List.take_succ_eq_append_getElem hlt)
          obtain ⟨x, ex⟩ : ∃ x, x = Q[k] := ⟨_, rfl⟩
          obtain ⟨xs, exs⟩ : ∃ xs, xs = Q.take k := ⟨_, rfl⟩
          have hxl : xs.length ≤ 1000000 := by rw [exs, List.length_take]; omega
          rw [← ex] at c0 c1 c2 c3 c4 c5 c6 hk1 hk2 hw64 hx1 hx2 hsn
          rw [← exs] at hO hB hsn
          clear ex exs
          have hx : RdLk S wr (.agg #[.int .i64 x.owner, .bool x.whole, .int .i64 x.span.table, .slice KA x.span.lo.length KC, .slice VA x.span.hi.length VC, .bool x.span.isOpen, .int .i64 x.mode]) x := ⟨KA, KC, VA, VC, rfl, hk1, hk2, hw64⟩
          go_upto_region 10 with (first | (refine wpList_boxNew (vs := [.int .i64 0, .bool false, .int .i64 0, .slice none 0 0, .slice none 0 0, .bool false, .int .i64 0]) (by kernel_rfl) rfl rfl ?_; intro wa hba hBa) | (refine wpList_boxStore (us := [.int .i64 x.owner, .bool x.whole, .int .i64 x.span.table, .slice KA x.span.lo.length KC, .slice VA x.span.hi.length VC, .bool x.span.isOpen, .int .i64 x.mode]) (by kernel_rfl) rfl rfl rfl rfl rfl rfl hBa rfl ?_; intro W hgw hXW) | fail)
          go_simp
          have hbw : Below wr.heap.size wr W := hba.grown hgw hba.size fun k hk => by injection hk with hk; omega
          have qW : w2.grownBy W (some W0.heap.size) := grownT qr (grownB hbw _)
          have zqW := qW.size
          have hsW := hXW.lt
          have hBlt := hB.lt
          have hBW := hB.below hbw hB.lt
          have hrr : ∀ k, Value.ownBlock (.slice ad xs.length ko) = some k → (w2.heap.size) ≤ k ∧ k < wr.heap.size := fun k hk => hO.block_lt k hk
          have hrW : ∀ k, Value.ownBlock (.slice ad xs.length ko) = some k → k < W.heap.size := fun k hk => by have := hrr k hk; omega
          replace hO := (hO.below hbw).but (b := W0.heap.size) (fun k hk _ => by omega)
          replace hx := hx.below hbw
          have hlo : (w2.heap.size) ≤ W.heap.size := by omega
          have hxr : some wr.heap.size ≠ Value.ownBlock (.slice ad xs.length ko) := fun e => by have := hrr _ e.symm; omega
          have hxb : wr.heap.size ≠ W0.heap.size := by omega
          have hbr : Value.ownBlock (.slice ad xs.length ko) ≠ some W0.heap.size := fun e => by have := hrr _ e; omega
          have hb1 : W0.heap.size < (w2.heap.size) := by omega
          clear c0 c1 c2 c3 c4 c5 c6 hk1 hk2 hba hBa hgw hbw hB q
          refine wp_region_lnl (K := fun A B => Twb A B (Value.ownBlock (.slice ad xs.length ko)) (W0.heap.size)) (by kernel_rfl) (by kernel_rfl) [3, 5, 7] (by kernel_rfl) [lEq (.pointer (some ⟨W0.heap.size, 0 + 1, none⟩)), lEq (.slice ad xs.length ko), lEq (.agg #[.int .i64 x.owner, .bool x.whole, .int .i64 x.span.table, .slice KA x.span.lo.length KC, .slice VA x.span.hi.length VC, .bool x.span.isOpen, .int .i64 x.mode]), lAny, pRow Elt.lk 29 (W) (Value.ownBlock (.slice ad xs.length ko)) (W0.heap.size) x hrW hBW.lt, lAny, lEq (.pointer (some ⟨W0.heap.size, 0 + 1, none⟩)), lAny] (PshJ Elt.lk 29 ((w2.heap.size)) ((w2.heap.size)) (Value.ownBlock (.slice ad xs.length ko)) (W0.heap.size) 24 [.slice aH H.length cH, .slice ad xs.length ko] 1 (W) (xs) x) PshJ.below (show Below (W).heap.size (W) (W) from Below.refl _ _)
            ⟨?o0, ?o1, ?o2, ?o3, ?o4, ?o5, ?o6, ?o7, trivial⟩ ?fin
          case o0 =>
            refine LnOp.side rfl (by kernel_rfl) (fun A va w' k hF hT hk hJ hb hu hp hd => ?_)
            have e1 : A.eval (.tmp 3) = .pointer (some ⟨W0.heap.size, 0, none⟩) := hF 3 rfl
            exact wp_fieldN lsS rfl (e1) (by omega) ⟨_, rfl, rfl, Below.refl _ _⟩
          case o1 =>
            refine LnOp.side rfl (by kernel_rfl) (fun A va w' k hF hT hk hJ hb hu hp hd => ?_)
            have e1 : A.eval (.tmp 30) = .pointer (some ⟨W0.heap.size, 0 + 1, none⟩) := (hT 30 0 (by simp) rfl).trans (hd ⟨0, .data⟩ (by simp) rfl rfl)
            have hk1 : k ≤ 1 := hb 1 5 rfl (by kernel_rfl)
            have hJ0 := PshJ.early hJ (by simp only [List.length_map, List.length_take]; omega)
            exact wp_ld_slice (e := 29) rfl e1 (by kernel_rfl) ((hBW.below hJ0 hBW.lt).cell (i := 1) rfl) ⟨_, rfl, rfl, Below.refl _ _⟩
          case o2 =>
            refine LnOp.side rfl (by kernel_rfl) (fun A va w' k hF hT hk hJ hb hu hp hd => ?_)
            have e1 : A.eval (.tmp 7) = .pointer (some ⟨wr.heap.size, 0, none⟩) := hF 7 rfl
            have hX2 := (PshJ.two hJ).boxN hXW hxr hxb
            exact wp_loadU (us := [.int .i64 x.owner, .bool x.whole, .int .i64 x.span.table, .slice KA x.span.lo.length KC, .slice VA x.span.hi.length VC, .bool x.span.isOpen, .int .i64 x.mode]) lkS rfl e1 (fun j u hj => by rw [Nat.zero_add]; exact hX2.cell hj) ⟨_, rfl, rfl, Below.refl _ _⟩
          case o3 =>
            refine LnOp.line 0 rfl rfl (fun A va w' hF hT hJ hu hd => ?_)
            have e1 : A.eval (.tmp 32) = .agg #[.int .i64 x.owner, .bool x.whole, .int .i64 x.span.table, .slice KA x.span.lo.length KC, .slice VA x.span.hi.length VC, .bool x.span.isOpen, .int .i64 x.mode] := (hT 32 2 (by simp) rfl).trans (hd ⟨2, .data⟩ (by simp) rfl rfl)
            have hJ0 : Below (W).heap.size (W) w' := hJ
            refine wp_callFn rfl eA (by simp only [List.map_toArray, List.map_cons, List.map_nil, e1]) ((lAlone_any w' (hx.below hJ0) hx1 hx2).mono ?_)
            rintro e w2 ⟨v2, rfl, ⟨ka, kc, va2, vc, rfl, hk2, hv2, ht2⟩, hb2⟩
            have hR : Elt.lk.R (fun k => W.heap.size ≤ k ∧ k < w2.heap.size) w2 x (lkC x (.slice ka x.span.lo.length kc) (.slice va2 x.span.hi.length vc)) := ⟨_, _, rfl, hk2.weak fun k hk => ⟨Nat.le_trans hJ0.size hk.1, hk.2⟩, hv2.weak fun k hk => ⟨Nat.le_trans hJ0.size hk.1, hk.2⟩, ht2⟩
            exact ⟨_, rfl, _, rfl, ⟨hJ0.trans (hb2.mono hJ0.size), _, rfl, hR⟩, (Twb.refl (r := Value.ownBlock (.slice ad xs.length ko)) (b := W0.heap.size)).below hb2⟩
          case o4 =>
            refine LnOp.side rfl (by kernel_rfl) (fun A va w' k hF hT hk hJ hb hu hp hd => ?_)
            have x1 : A.eval (.tmp 33) = va 3 := hT 33 3 (by simp) rfl
            obtain rfl : k = 1 := by
              have h1 := hp ⟨3, .data⟩ (by simp) rfl 0 rfl
              have h2 := hb 1 5 rfl (by kernel_rfl)
              omega
            obtain ⟨hJ0, us, eus, hR⟩ := hJ
            have hb1 : Below w'.heap.size w' (w'.alloc (.cells us.toArray 29)) := (Below.refl _ _).alloc (Nat.le_refl _) _
            exact wp_buildOne lkP rfl x1 eus (Elt.len _ hR) (by decide) (by decide) ⟨_, rfl, ⟨_, us, rfl, hJ0.size, by simp only [World.alloc, Array.getElem?_push_size], Elt.weak _ (Elt.below hR hb1) fun k hk => ⟨hk.1, Nat.lt_of_lt_of_le hk.2 hb1.size⟩⟩, hb1⟩
          case o5 =>
            refine LnOp.line 1 rfl rfl (fun A va w' hF hT hJ hu hd => ?_)
            have e1 : A.eval (.tmp 31) = .slice ad xs.length ko := (hT 31 1 (by simp) rfl).trans (hd ⟨1, .data⟩ (by simp) rfl rfl)
            have x2 : A.eval (.tmp 34) = va 4 := hT 34 4 (by simp) rfl
            have y2 := hd ⟨4, .data⟩ (by simp) rfl rfl
            have hJ' := hJ
            obtain ⟨hJ0, _⟩ := hJ
            obtain ⟨g, us, eg, hg0, hgc, hgR⟩ : ∃ g, ∃ us : List Value, va 4 = .slice (some ⟨g, 0, none⟩) 1 1 ∧ (W).heap.size ≤ g ∧ w'.heap[g]? = some (.cells us.toArray 29 (0, 0)) ∧ Elt.R Elt.lk (fun k => (W).heap.size ≤ k ∧ k < w'.heap.size) w' x us := y2
            refine wp_appendL (E := Elt.but Elt.lk (W0.heap.size)) (ys := [x]) lkP rfl e1 (hO.below hJ0) (x2.trans eg) (fun j u hj => by rw [Addr.add_lit, World.cell?, hgc]; simpa using hj) (Flat.single (Elt.weak Elt.lk hgR fun k hk => ⟨hk, fun e => by have := hk.1; have := hBW.lt; omega⟩)) (fun k hk => ⟨Nat.le_trans hlo hk.1, hk.2, fun e => by have := hrW k e.symm; omega⟩) (Nat.le_trans hlo hJ0.size) (fun ad7 k7 cap7 w2 h2 hg h3 => ?_) (by simp; omega)
            obtain rfl : k7 = (xs ++ [x]).length := h2.len
            exact ⟨_, rfl, PshJ.app hJ' hBW h2 hg hbr h3, (Twb.refl (b := W0.heap.size)).row hg⟩
          case o6 =>
            refine LnOp.side rfl (by kernel_rfl) (fun A va w' k hF hT hk hJ hb hu hp hd => ?_)
            have e1 : A.eval (.tmp 3) = .pointer (some ⟨W0.heap.size, 0, none⟩) := hF 3 rfl
            exact wp_fieldN lsS rfl (e1) (by omega) ⟨_, rfl, rfl, Below.refl _ _⟩
          case o7 =>
            refine LnOp.line 2 rfl rfl (fun A va w' hF hT hJ hu hd => ?_)
            have e1 : A.eval (.tmp 36) = .pointer (some ⟨W0.heap.size, 0 + 1, none⟩) := (hT 36 6 (by simp) rfl).trans (hd ⟨6, .data⟩ (by simp) rfl rfl)
            have x2 : A.eval (.tmp 35) = va 5 := hT 35 5 (by simp) rfl
            have hJ' := hJ
            obtain ⟨hJ0, ad7, c7, es, hOs, hBs, hn7⟩ := hJ
            refine wp_boxSet (j := 1) rfl (by kernel_rfl) e1 (x2.trans es) rfl rfl hBs (by simp) (fun w2 hg hB2 => ?_)
            exact ⟨_, rfl, PshJ.sto hJ' hOs hn7 hg hB2, (Twb.refl (r := Value.ownBlock (.slice ad xs.length ko))).box hg⟩
          case fin =>
            intro vs1 W9 hJ hG
            obtain ⟨htw, ad9, c9, hO9, hB9, hn9⟩ := hJ
            have g0 : vs1 0 = .pointer (some ⟨W0.heap.size, 0 + 1, none⟩) := hG 0 (by decide) rfl
            have g1 : vs1 1 = .slice ad xs.length ko := hG 1 (by decide) rfl
            have g2 : vs1 2 = .agg #[.int .i64 x.owner, .bool x.whole, .int .i64 x.span.table, .slice KA x.span.lo.length KC, .slice VA x.span.hi.length VC, .bool x.span.isOpen, .int .i64 x.mode] := hG 2 (by decide) rfl
            have g6 : vs1 6 = .pointer (some ⟨W0.heap.size, 0 + 1, none⟩) := hG 6 (by decide) rfl
            clear hG
            simp only [putAll, g0, g1, g2, g6]
            clear g0 g1 g2 g6
            go_simp
            have q9 : w2.grownBy W9 (some W0.heap.size) := ⟨htw.os.trans qW.os, htw.tape.trans qW.tape, htw.output.trans qW.output, Nat.le_trans qW.size htw.size, fun k hk hn => (htw.block k (by omega) (fun e => by have := hrr k e.symm; omega) (fun e => hn (by rw [e]))).trans (qW.block k hk hn)⟩
            replace hO9 := hO9.unbut
            rw [← hsn.out] at hO9 hB9
            clear hBW hXW hO hx hsn htw hn9
            go_wp2_with fail
            go_roundw
            case rel => exact ⟨k + 1, ad9, c9, by go_num, by omega, hO9, hB9, q9⟩
            case measure => simp [intOf]; omega
        · obtain rfl : k = Q.length := by omega
          rw [List.take_length] at hO hB
          have b0 := hB.cell (i := 0) rfl
          have b1 := hB.cell (i := 1) rfl
          have bz2 := bz1.other qr (fun e => by injection e with e; have := bz1.lt; omega)
          go_wp2_with (first | (refine wpList_boxStore (us := [.slice aH H.length cH, .slice ad Q.length ko]) (by kernel_rfl) rfl rfl rfl rfl rfl rfl bz2 rfl ?_; intro wd hgd hBd) | fail)
          have d0 := hBd.cell (i := 0) rfl
          have d1 := hBd.cell (i := 1) rfl
          obtain ⟨fs, hu, _⟩ := lsS.hu
          refine bodyPost_ret (v := .agg #[.slice aH H.length cH, .slice ad Q.length ko]) (by simp [results, Tryd.results54, go_sem, loadVar, isAgg, run_underlying hu, run_sizeOf' lsS.hs, loadCellsFrom, Addr.add, d0, d1]) rfl ?_
          have zd := hgd.size
          have z0 := q0.size
          have hH9 := (hOH.other qr (by omega) (by omega)).other hgd (by omega) (by omega)
          have hQ9 := hO.other hgd (by omega) (by omega)
          have hHl := fun k hk => hOH.block_lt k hk
          have hQl := fun k hk => hQ9.block_lt k hk
          have hQe := hQ9.ownF
          have hHe : OwnF Elt.lk 29 (fun k => W0.heap.size + 1 ≤ k ∧ k < w2.heap.size ∧ some k ≠ Value.ownBlock (.slice aH H.length cH)) wd (.slice aH H.length cH) H := by
            refine hOH.ownF.kept (fun k hk => ?_) fun k hk => ?_
            · have h9 := hHl k hk
              exact (hgd.block k (by omega) fun e => by injection e with e; omega).trans (qr.block k h9.2 fun e => by injection e with e; omega)
            · exact (hgd.block k (by omega) fun e => by injection e with e; omega).trans (qr.block k hk.2.1 fun e => by injection e with e; omega)
          refine ⟨_, _, _, _, rfl, ⟨fun k => w.heap.size ≤ k ∧ k < wd.heap.size ∧ Value.ownBlock (.slice aH H.length cH) ≠ some k ∧ Value.ownBlock (.slice ad Q.length ko) ≠ some k, hHe.weak fun k hk => ⟨by omega, by omega, fun e => hk.2.2 e.symm, fun e => by have := hQl k e; omega⟩, hQe.weak fun k hk => ⟨by omega, hk.2.1, fun e => by have := hHl k e; omega, fun e => hk.2.2 e.symm⟩, fun k hk => hk, fun k hk => ⟨by have := hHl k hk; omega, fun e => by have := hHl k hk; have := hQl k e; omega⟩, fun k hk => by have := hQl k hk; omega⟩, q.grown hgd q.size fun k e => by injection e with e; omega⟩
end Go.Proofs.YtpdnehgboafgpaaDoor
namespace Go.Proofs.YtpdnehgboafgpaaDoor
open Go.RowKit
theorem RdLs.past {b : Nat} {w w' : World} {v : Value} {H Q : List Lk} (h : RdLs (· ≠ b) w v H Q) (hg : w.grownBy w' (some b)) : RdLs (· ≠ b) w' v H Q := by
  obtain ⟨a, c, a2, c2, e, h1, h2⟩ := h
  exact ⟨a, c, a2, c2, e, (h1.fit.keep fun k hk => hg.block k hk.2 fun e => by injection e with e; exact hk.1 e).weak fun k hk => hk.1, (h2.fit.keep fun k hk => hg.block k hk.2 fun e => by injection e with e; exact hk.1 e).weak fun k hk => hk.1⟩
theorem drop_all {H Q : List Lk} {o : Int} (P : Lk → Prop) (hH : ∀ y ∈ H, P y) (hQ : ∀ y ∈ Q, P y) : (∀ y ∈ (dropC H Q o).1, P y) ∧ ∀ y ∈ (dropC H Q o).2.1, P y := by
  by_cases h : 0 ≤ o ∧ o < 4 ∧ okLk H Q
  · have := drop_none h.2.2 h.1 h.2.1 P hH hQ
    exact ⟨fun y hy => (this.1 y hy).1, fun y hy => (this.2 y hy).1⟩
  · unfold dropC
    rw [if_neg h]
    exact ⟨hH, hQ⟩
end Go.Proofs.YtpdnehgboafgpaaDoor
namespace Go.Proofs.YtpdnehgboafgpaaDoor
def blkG (H : List Lk) : List Lk → List Lk → Int → List Int
  | _, [], _ => []
  | p, y :: l, o => if y.owner = o then riseL (blkO y (H ++ p)) else blkG H (p ++ [y]) l o
def bloL (H Q : List Lk) (o : Int) : List Int := if okLk H Q then blkG H [] Q o else []
def edgesN (H Q : List Lk) (n : Nat) : List Ed := (List.range n).flatMap fun (k : Nat) => (bloL H Q (k : Int)).map fun b => ((k : Int), b)
def edgesL (H Q : List Lk) : List Ed := edgesN H Q 4
theorem edgesN_succ (H Q : List Lk) (n : Nat) : edgesN H Q (n + 1) = edgesN H Q n ++ (bloL H Q (n : Int)).map fun b => ((n : Int), b) := by
  unfold edgesN
  rw [List.range_succ, List.flatMap_append]
  simp
theorem blkG_at {H : List Lk} {o : Int} : ∀ {Q p : List Lk} {i : Nat} (h : i < Q.length), Q[i].owner = o → (∀ y ∈ Q.take i, y.owner ≠ o) → blkG H p Q o = riseL (blkO Q[i] (H ++ (p ++ Q.take i)))
  | y :: l, p, 0, _, h1, _ => by
    have h2 : y.owner = o := h1
    unfold blkG
    rw [if_pos h2]; simp
  | y :: l, p, i + 1, h, h1, h2 => by
    have h3 : y.owner ≠ o := h2 y (by simp)
    unfold blkG
    rw [if_neg h3, blkG_at (i := i) (by simpa using h) (by simpa using h1) (fun z hz => h2 z (by simp [hz]))]
    simp
theorem blkG_no {H : List Lk} {o : Int} : ∀ {Q p : List Lk}, (∀ y ∈ Q, y.owner ≠ o) → blkG H p Q o = []
  | [], _, _ => rfl
  | y :: l, p, h => by
    unfold blkG
    rw [if_neg (h y (by simp)), blkG_no fun z hz => h z (by simp [hz])]
theorem blo_of {H Q : List Lk} {o : Int} {l : List Int} (h : (okLk H Q ∧ ∃ i, ∃ h : i < Q.length, Q[i].owner = o ∧ (∀ y ∈ Q.take i, y.owner ≠ o) ∧ l = riseL (blkO Q[i] (H ++ Q.take i))) ∨ (decide (okLk H Q) && waitsL Q o) = false ∧ l = []) : l = bloL H Q o := by
  unfold bloL
  rcases h with ⟨ok, i, hi, h1, h2, rfl⟩ | ⟨h1, rfl⟩
  · rw [if_pos ok, blkG_at hi h1 h2, List.nil_append]
  · split
    · rename_i ok
      rw [decide_eq_true ok, Bool.true_and] at h1
      rw [blkG_no (waits_no.1 h1)]
    · rfl
def Ahd (H Q : List Lk) (q z : Lk) : Prop := q ∈ Q ∧ z ∈ H ∨ [z, q].Sublist Q
theorem take_sub {α : Type} {l : List α} {i : Nat} (h : i < l.length) {z : α} (hz : z ∈ l.take i) : [z, l[i]].Sublist l := by
  have e : l = l.take i ++ l[i] :: l.drop (i + 1) := by rw [← List.drop_eq_getElem_cons h, List.take_append_drop]
  have h1 : [z].Sublist (l.take i) := List.singleton_sublist.2 hz
  have h2 : [l[i]].Sublist (l[i] :: l.drop (i + 1)) := List.singleton_sublist.2 List.mem_cons_self
  have := h1.append h2
  rw [← e] at this
  exact this
theorem sub_take {α : Type} {l : List α} {z q : α} (h : [z, q].Sublist l) : ∃ i, ∃ h : i < l.length, l[i] = q ∧ z ∈ l.take i := by
  obtain ⟨r, s, rfl, h1, h2⟩ := List.cons_sublist_iff.1 h
  obtain ⟨j, hj, e⟩ := List.mem_iff_getElem.1 (List.singleton_sublist.1 h2)
  refine ⟨r.length + j, by rw [List.length_append]; omega, ?_, ?_⟩
  · rw [List.getElem_append_right (by omega)]; simpa using e
  · rw [List.take_append]
    refine List.mem_append_left _ ?_
    rw [List.take_of_length_le (by omega)]; exact h1
theorem blo_mem {H Q : List Lk} {o b : Int} : b ∈ bloL H Q o ↔ okLk H Q ∧ ∃ q z, Ahd H Q q z ∧ clashL q z = true ∧ q.owner = o ∧ z.owner = b := by
  unfold bloL
  constructor
  · intro h
    split at h
    case isFalse => cases h
    rename_i ok
    refine ⟨ok, ?_⟩
    by_cases hw : waitsL Q o = false
    · rw [blkG_no (waits_no.1 hw)] at h; cases h
    · have hw : ∃ i, ∃ h : i < Q.length, Q[i].owner = o := by
        have : waitsL Q o = true := by simpa using hw
        unfold waitsL at this
        obtain ⟨y, hy, e⟩ := List.any_eq_true.1 this
        obtain ⟨i, hi, rfl⟩ := List.mem_iff_getElem.1 hy
        exact ⟨i, hi, by simpa using e⟩
      obtain ⟨i, hi, e⟩ := hw
      rw [blkG_at hi e (fun y hy => e ▸ (ok.2.2.2.2 i hi).2 y hy), List.nil_append, rise_mem] at h
      unfold blkO at h
      obtain ⟨z, hz, rfl⟩ := List.mem_map.1 h
      obtain ⟨hz, hc⟩ := List.mem_filter.1 hz
      refine ⟨Q[i], z, ?_, hc, e, rfl⟩
      rcases List.mem_append.1 hz with h | h
      · exact .inl ⟨List.getElem_mem hi, h⟩
      · exact .inr (take_sub hi h)
  · rintro ⟨ok, q, z, ha, hc, rfl, rfl⟩
    rw [if_pos ok]
    have : ∃ i, ∃ h : i < Q.length, Q[i] = q ∧ z ∈ H ++ Q.take i := by
      rcases ha with ⟨h1, h2⟩ | h1
      · obtain ⟨i, hi, e⟩ := List.mem_iff_getElem.1 h1
        exact ⟨i, hi, e, List.mem_append_left _ h2⟩
      · obtain ⟨i, hi, e, h2⟩ := sub_take h1
        exact ⟨i, hi, e, List.mem_append_right _ h2⟩
    obtain ⟨i, hi, rfl, hz⟩ := this
    rw [blkG_at hi rfl (ok.2.2.2.2 i hi).2, List.nil_append, rise_mem]
    unfold blkO
    exact List.mem_map.2 ⟨z, List.mem_filter.2 ⟨hz, hc⟩, rfl⟩
theorem goD_ahd {H0 Q0 : List Lk} : ∀ (l H Q : List Lk) (c : List Int), (∀ q z, clashL q z = true → Ahd H (Q ++ l) q z → Ahd H0 Q0 q z) → ∀ q z, clashL q z = true → Ahd (goD H Q l c).1 (goD H Q l c).2.1 q z → Ahd H0 Q0 q z
  | [], H, Q, c, h, q, z, hc, ha => h q z hc (by rw [List.append_nil]; exact ha)
  | x :: l, H, Q, c, h, q, z, hc, ha => by
    rw [goD_cons] at ha
    by_cases hb : blk x H Q = true
    · rw [if_pos hb] at ha
      exact goD_ahd l H (Q ++ [x]) c (by rw [show (Q ++ [x]) ++ l = Q ++ x :: l by simp]; exact h) q z hc ha
    · rw [if_neg hb] at ha
      have hb := blk_no.1 (eq_false_of_ne_true hb)
      refine goD_ahd l (heldA x H) Q _ (fun q z hc ha => h q z hc ?_) q z hc ha
      have hs : (Q ++ l).Sublist (Q ++ x :: l) := (List.Sublist.refl Q).append (List.sublist_cons_self x l)
      rcases ha with ⟨h1, h2⟩ | h1
      · rcases heldA_mem h2 with rfl | h2
        · rcases List.mem_append.1 h1 with h3 | h3
          · rw [clash_comm, hb.2 q h3] at hc; cases hc
          · refine .inr ?_
            have h4 : [z, q].Sublist (z :: l) := List.Sublist.cons_cons _ (List.singleton_sublist.2 h3)
            exact h4.trans (List.sublist_append_right Q _)
        · exact .inl ⟨hs.subset h1, h2⟩
      · exact .inr (h1.trans hs)
theorem drop_edge {H Q : List Lk} {o a b : Int} (h : b ∈ bloL (dropC H Q o).1 (dropC H Q o).2.1 a) : b ∈ bloL H Q a := by
  by_cases h0 : 0 ≤ o ∧ o < 4 ∧ okLk H Q
  case neg => unfold dropC at h; rw [if_neg h0] at h; exact h
  obtain ⟨_, q, z, ha, hc, h1, h2⟩ := blo_mem.1 h
  unfold dropC at ha
  rw [if_pos h0] at ha
  refine blo_mem.2 ⟨h0.2.2, q, z, goD_ahd _ _ _ _ (fun q z _ ha => ?_) q z hc ha, hc, h1, h2⟩
  rw [List.nil_append] at ha
  rcases ha with ⟨h1, h2⟩ | h1
  · exact .inl ⟨(less_mem.1 h1).1, (less_mem.1 h2).1⟩
  · exact .inr (h1.trans List.filter_sublist)
theorem drop_gone {H Q : List Lk} {o b : Int} (h0 : 0 ≤ o) (h4 : o < 4) (ok : okLk H Q) : b ∉ bloL (dropC H Q o).1 (dropC H Q o).2.1 o := by
  intro h
  obtain ⟨_, q, z, ha, _, h1, _⟩ := blo_mem.1 h
  have hq : q ∈ (dropC H Q o).2.1 := by
    rcases ha with ⟨h, _⟩ | h
    · exact h
    · exact h.subset (by simp)
  exact ((drop_none ok h0 h4 (fun _ => True) (fun _ _ => trivial) (fun _ _ => trivial)).2 q hq).2 h1
theorem edges_mem {H Q : List Lk} {a b : Int} : (a, b) ∈ edgesL H Q ↔ ∃ k : Nat, k < 4 ∧ a = (k : Int) ∧ b ∈ bloL H Q (k : Int) := by
  unfold edgesL edgesN
  simp only [List.mem_flatMap, List.mem_range, List.mem_map, Prod.mk.injEq]
  constructor
  · rintro ⟨k, hk, b', hb, rfl, rfl⟩; exact ⟨k, hk, rfl, hb⟩
  · rintro ⟨k, hk, rfl, hb⟩; exact ⟨k, hk, b, hb, rfl, rfl⟩
theorem drop_edges {H Q : List Lk} {o : Int} : ∀ e ∈ edgesL (dropC H Q o).1 (dropC H Q o).2.1, e ∈ edgesL H Q := by
  rintro ⟨a, b⟩ h
  obtain ⟨k, hk, rfl, hb⟩ := edges_mem.1 h
  exact edges_mem.2 ⟨k, hk, rfl, drop_edge hb⟩
def stkB (E : List Ed) (k : Nat) : Bool := reachE E 4 k k
def stuckL (E : List Ed) : List Int := markL (stkB E) 4
theorem stkB_mono {E F : List Ed} (h : ∀ e ∈ E, e ∈ F) {k : Nat} (hk : stkB E k = true) : stkB F k = true := reach_iff.2 ((reach_iff.1 hk).mono h)
theorem stuck_ext {E F : List Ed} (h : ∀ e, e ∈ E ↔ e ∈ F) : stuckL E = stuckL F := by
  have : stkB E = stkB F := by
    funext k
    rw [Bool.eq_iff_iff]
    exact ⟨stkB_mono fun e he => (h e).1 he, stkB_mono fun e he => (h e).2 he⟩
  unfold stuckL; rw [this]
theorem stuck_mem {E : List Ed} {x : Int} : x ∈ stuckL E ↔ ∃ k : Nat, x = (k : Int) ∧ k < 4 ∧ stkB E k = true := mark_mem
theorem stuck_range {E : List Ed} {x : Int} (h : x ∈ stuckL E) : 0 ≤ x ∧ x < 4 := by
  obtain ⟨k, rfl, hk, _⟩ := stuck_mem.1 h
  omega
theorem mark_mono {f g : Nat → Bool} (h : ∀ k, f k = true → g k = true) (n : Nat) : (markL f n).Sublist (markL g n) := by
  unfold markL
  refine List.Sublist.map _ ?_
  have : (List.range n).filter f = ((List.range n).filter g).filter f := by
    rw [List.filter_filter]
    refine List.filter_congr fun k _ => ?_
    cases hf : f k with
    | true => simp [h k hf]
    | false => simp
  rw [this]
  exact List.filter_sublist
theorem stuck_sub {E F : List Ed} (h : ∀ e ∈ E, e ∈ F) : (stuckL E).Sublist (stuckL F) := mark_mono (fun _ hk => stkB_mono h hk) 4
theorem stuck_waits {H Q : List Lk} {x : Int} (h : x ∈ stuckL (edgesL H Q)) : okLk H Q ∧ waitsL Q x = true := by
  obtain ⟨k, rfl, hk, h1⟩ := stuck_mem.1 h
  obtain ⟨c, hc⟩ := (reach_iff.1 h1).first
  obtain ⟨j, _, e, hb⟩ := edges_mem.1 hc
  obtain rfl : j = k := by omega
  obtain ⟨ok, q, z, ha, _, h2, _⟩ := blo_mem.1 hb
  refine ⟨ok, ?_⟩
  unfold waitsL
  refine List.any_eq_true.2 ⟨q, ?_, decide_eq_true h2⟩
  rcases ha with ⟨h, _⟩ | h
  · exact h
  · exact h.subset (by simp)
theorem drop_less {H Q : List Lk} {v : Int} (h : v ∈ stuckL (edgesL H Q)) : cntB (stkB (edgesL (dropC H Q v).1 (dropC H Q v).2.1)) < cntB (stkB (edgesL H Q)) := by
  obtain ⟨ok, _⟩ := stuck_waits h
  obtain ⟨h0, h4⟩ := stuck_range h
  obtain ⟨k, rfl, hk, h1⟩ := stuck_mem.1 h
  refine cnt_lt (fun j hj => stkB_mono drop_edges hj) ⟨k, hk, ?_, h1⟩
  cases h2 : stkB (edgesL (dropC H Q (k : Int)).1 (dropC H Q (k : Int)).2.1) k with
  | false => rfl
  | true =>
    obtain ⟨c, hc⟩ := (reach_iff.1 h2).first
    obtain ⟨j, _, e, hb⟩ := edges_mem.1 hc
    obtain rfl : j = k := by omega
    exact absurd hb (drop_gone h0 h4 ok)
theorem cntB_none {E : List Ed} (h : cntB (stkB E) = 0) : stuckL E = [] := by
  have h1 : ∀ k, k < 4 → stkB E k = false := by
    intro k hk
    unfold cntB at h
    have hd : k = 0 ∨ k = 1 ∨ k = 2 ∨ k = 3 := by omega
    rcases hd with rfl | rfl | rfl | rfl
    all_goals
      first
      | (cases h9 : stkB E 0 <;> simp [h9] at h ⊢; done)
      | (cases h9 : stkB E 1 <;> simp [h9] at h ⊢; done)
      | (cases h9 : stkB E 2 <;> simp [h9] at h ⊢; done)
      | (cases h9 : stkB E 3 <;> simp [h9] at h ⊢; done)
  refine List.eq_nil_iff_forall_not_mem.2 fun x hx => ?_
  obtain ⟨k, rfl, hk, h2⟩ := stuck_mem.1 hx
  rw [h1 k hk] at h2; cases h2
end Go.Proofs.YtpdnehgboafgpaaDoor
namespace Go.Proofs.YtpdnehgboafgpaaDoor
open Go.RowKit Go.Shelf
set_option maxRecDepth 100000 in
set_option maxHeartbeats 4000000 in
theorem stuck_any (w : World) {S : Nat → Prop} {a : Option Addr} {n c : Nat} {E : List Ed} (h : RdL Elt.ed S w (.slice a n c) E) :
    Calls Tryd.prog 27 #[.slice a n c] w fun e w' => ∃ a c, e = .returned (.slice a (stuckL E).length c) ∧ OwnL Elt.int 3 w.heap.size w.heap.size w' (.slice a (stuckL E).length c) (stuckL E) ∧ Below w.heap.size w w' := by
  have hcl := along_any w h
  have q := Below.refl w.heap.size w
  go_enter Tryd.func27, Tryd.ntmps27
  go_wp2_with fail
  refine hcl.mono ?_
  rintro e w1 ⟨rfl, hb⟩
  clear hcl
  replace q := q.trans (hb.mono q.size)
  clear hb
  go_upto_region 4 with (first | (refine wpList_boxNew (vs := [.bool false, .bool false, .bool false, .bool false, .bool false, .bool false, .bool false, .bool false, .bool false, .bool false, .bool false, .bool false, .bool false, .bool false, .bool false, .bool false]) (by kernel_rfl) rfl rfl ?_; intro wa hba hBa) | (refine wpList_boxStore (us := [.bool (reachE E 4 0 0), .bool (reachE E 4 0 1), .bool (reachE E 4 0 2), .bool (reachE E 4 0 3), .bool (reachE E 4 1 0), .bool (reachE E 4 1 1), .bool (reachE E 4 1 2), .bool (reachE E 4 1 3), .bool (reachE E 4 2 0), .bool (reachE E 4 2 1), .bool (reachE E 4 2 2), .bool (reachE E 4 2 3), .bool (reachE E 4 3 0), .bool (reachE E 4 3 1), .bool (reachE E 4 3 2), .bool (reachE E 4 3 3)]) (by kernel_rfl) rfl rfl rfl rfl rfl rfl hBa rfl ?_; intro w2 hgw Bw) | fail)
  have hbw := hba.grown hgw hba.size fun k hk => by injection hk with hk; omega
  have q1 := q.size
  replace q := q.trans (hbw.mono q.size)
  obtain ⟨b, eb⟩ : ∃ b, b = w1.heap.size := ⟨_, rfl⟩
  rw [← eb] at Bw
  rw [← eb]
  have hwb : w.heap.size ≤ b := by omega
  clear hbw hgw hba hBa eb q1
  replace Bw : BoxN w2 b 79 (m16 (reachE E 4)) := Bw
  obtain ⟨B, eB⟩ : ∃ B, B = w2.heap.size := ⟨_, rfl⟩
  have hbB : b < B := by have := Bw.lt; omega
  have hwB : w.heap.size ≤ B := by omega
  have hs0 : B ≤ w2.heap.size := by omega
  clear eB
  obtain ⟨f, ef⟩ : ∃ f, f = stkB E := ⟨_, rfl⟩
  have hf : ∀ k, f k = reachE E 4 k k := fun k => by rw [ef]; rfl
  replace ef := Lib.hid (show stuckL E = markL f 4 by rw [ef]; rfl)
  obtain ⟨M, eM⟩ : ∃ M, M = reachE E 4 := ⟨_, rfl⟩
  rw [← eM] at Bw hf
  clear eM
  go_loopw [3, 8] (fun ov iv wr => ∃ (k : Nat) (ad : Option Addr) (co : Nat), iv = .int .i64 k ∧ k ≤ 4 ∧ ov = .slice ad (markL f k).length co ∧ OwnL Elt.int 3 B B wr (.slice ad (markL f k).length co) (markL f k) ∧ Below w.heap.size w wr ∧ B ≤ wr.heap.size ∧ BoxN wr b 79 (m16 M))
    (fun _ i _ => 4 - (intOf i).toNat)
  case atStart => exact ⟨0, none, 0, rfl, by omega, rfl, OwnL.nil _ _ _ _ _, q, hs0, Bw⟩
  case round =>
    clear q Bw hs0
    obtain ⟨k, ad, co, rfl, hk4, rfl, hO, q, hs0, Bw⟩ := hrel
    rcases Nat.lt_or_ge k 4 with hlt | hge
    · have ck0 : wr.cell? ⟨b, 4 * k + k, none⟩ = some (.bool (f k)) := by rw [hf k]; exact Bw.cell (m16_at M hlt hlt)
      have ck1 : wr.cell? ⟨b, 0 + k * 4 + k * 1, none⟩ = some (.bool (f k)) := by rw [show 0 + k * 4 + k * 1 = 4 * k + k by omega]; exact ck0
      have ck2 : wr.cell? ⟨b, k * 4 + k, none⟩ = some (.bool (f k)) := by rw [show k * 4 + k = 4 * k + k by omega]; exact ck0
      have ck3 : wr.cell? ⟨b, 0 + k * 4 + k, none⟩ = some (.bool (f k)) := by rw [show 0 + k * 4 + k = 4 * k + k by omega]; exact ck0
      have hsn := Lib.hid (markL_succ f k)
      have hln0 := markL_len f k
      obtain ⟨xs, exs⟩ : ∃ xs, xs = markL f k := ⟨_, rfl⟩
      rw [← exs] at hO hsn hln0
      rw [← exs]
      clear exs
      obtain ⟨bk, ebk⟩ : ∃ b, b = f k := ⟨_, rfl⟩
      rw [← ebk] at ck0 ck1 ck2 ck3 hsn
      clear ebk
      have d0 : decide ((k : Int) < 4) = true := decide_eq_true (by omega)
      cases bk with
      | true =>
        have hs2 := Lib.hid (show markL f (k + 1) = xs ++ [(k : Int)] by rw [hsn.out]; simp)
        clear hsn
        have hrr : ∀ k, Value.ownBlock (.slice ad xs.length co) = some k → B ≤ k ∧ k < wr.heap.size := fun k hk => hO.block_lt k hk
        have hR : ∀ V, Elt.int.R (fun k => B ≤ k ∧ k < B) V (k : Int) [.int .i64 (k : Int)] := fun V => ⟨rfl, by unfold W64; omega⟩
        have hSV : ∀ V : World, ∀ k, (B ≤ k ∧ k < B) → B ≤ k ∧ k < V.heap.size ∧ some k ≠ Value.ownBlock (.slice ad xs.length co) := fun V k hk => by omega
        have hbs : ∀ V : World, Below wr.heap.size wr V → B ≤ V.heap.size := fun V h => by have := h.size; omega
        go_wp2_with (first
          | (refine wpList_buildOne inP rfl rfl rfl (us := [.int .i64 (k : Int)]) rfl rfl (by decide) (by decide) ?_; intro w6 hb6 hrow)
          | (refine wpList_apvRow (E := Elt.int) (n := xs.length + 1) inP rfl rfl rfl rfl (hO.below hb6) hrow (hR _) (hSV _) (hbs _ hb6) (by omega) rfl ?_; intro ad9 c9 w7 hO9 hg7 ho9)
          | fail)
        have hln : (xs ++ [(k : Int)]).length = xs.length + 1 := by rw [List.length_append]; rfl
        have q9 : Below w.heap.size w w7 := (q.trans (hb6.mono q.size)).grown hg7 (q.trans (hb6.mono q.size)).size fun k hk => by have := (hrr k hk).1; omega
        have Bw9 : BoxN w7 b 79 (m16 M) := (Bw.below hb6 Bw.lt).other hg7 fun e => by have := (hrr _ e).1; omega
        have hz9 : B ≤ w7.heap.size := by have := hb6.size; have := hg7.size; omega
        rw [← hln] at hO9
        clear hrr hR hSV hbs hg7 hO hrow hb6 ho9
        go_roundw
        case rel => exact ⟨k + 1, ad9, c9, by go_num, by omega, by rw [hs2.out, hln], by rw [hs2.out]; exact hO9, q9, hz9, Bw9⟩
        case measure => simp [intOf]; omega
      | false =>
        have hs2 := Lib.hid (show markL f (k + 1) = xs by rw [hsn.out]; simp)
        clear hsn
        go_wp2_with fail
        go_roundw
        case rel => exact ⟨k + 1, ad, co, by go_num, by omega, by rw [hs2.out], by rw [hs2.out]; exact hO, q, hs0, Bw⟩
        case measure => simp [intOf]; omega
    · obtain rfl : k = 4 := by omega
      go_wp2_with fail
      go_ret
      exact ⟨ad, co, by rw [ef.out]; rfl, by rw [ef.out]; exact hO.to (by omega) (by omega), q⟩
def VicEnd (E : List Ed) (s : Nat → Int) (e : Ending) : Prop := (stuckL E = [] ∧ e = .returned (.tuple #[.int .i64 0, .bool false])) ∨ ∃ v, vicP (stuckL E) (stI s) v ∧ e = .returned (.tuple #[.int .i64 v, .bool true])
set_option maxRecDepth 100000 in
set_option maxHeartbeats 4000000 in
theorem victim_any (w : World) {S : Nat → Prop} {a : Option Addr} {n c : Nat} {E : List Ed} (h : RdL Elt.ed S w (.slice a n c) E) (s : Nat → Int) :
    Calls Tryd.prog 22 #[.slice a n c, .agg #[.int .i64 (s 0), .int .i64 (s 1), .int .i64 (s 2), .int .i64 (s 3)]] w fun e w' => VicEnd E s e ∧ Below w.heap.size w w' := by
  obtain ⟨W, hW, q, Bs, hsz⟩ := spBox w 40 [.int .i64 (s 0), .int .i64 (s 1), .int .i64 (s 2), .int .i64 (s 3)]
  clear hsz
  go_enter Tryd.func22, Tryd.ntmps22
  go_upto_region 1 with (fail)
  rw [show w.alloc (.cells #[.int .i64 (s 0), .int .i64 (s 1), .int .i64 (s 2), .int .i64 (s 3)] 40) = W from hW.symm]
  clear hW
  have hcl := stuck_any W (h.below q)
  go_wp2_with fail
  refine hcl.mono ?_
  rintro e w1 ⟨al, cl, rfl, hO, hb⟩
  clear hcl
  replace q := q.trans (hb.mono q.size)
  replace Bs := Bs.below hb Bs.lt
  clear hb
  have hl : RdL Elt.int (fun _ => True) w1 (.slice al (stuckL E).length cl) (stuckL E) := hO.rdS fun _ _ _ => trivial
  clear hO
  have hr : ∀ x ∈ stuckL E, 0 ≤ x ∧ x < 4 := fun x hx => stuck_range hx
  have hV : ∀ e, ((stuckL E = [] ∧ e = .returned (.tuple #[.int .i64 0, .bool false])) ∨ ∃ v, vicP (stuckL E) (stI s) v ∧ e = .returned (.tuple #[.int .i64 v, .bool true])) → VicEnd E s e := fun e h => h
  obtain ⟨l, el⟩ : ∃ l, l = stuckL E := ⟨_, rfl⟩
  rw [← el] at hl hr hV
  rw [← el]
  clear el
  replace hV := Lib.hid hV
  rcases Nat.eq_zero_or_pos l.length with hz | hz
  · have d0 : ((l.length : Int) == 0) = true := beq_iff_eq.2 (by omega)
    have hn := Lib.hid (List.eq_nil_of_length_eq_zero hz)
    clear hz
    go_wp2_with fail
    go_ret2
    refine ⟨hV.out _ (.inl ⟨hn.out, ?_⟩), q⟩
    rfl
  · have d0 : ((l.length : Int) == 0) = false := beq_eq_false_iff_ne.2 (by omega)
    have hcl := maxFn_any w1 s hl hz hr
    have c0 := Bs.cell (i := 0) rfl
    have c1 := Bs.cell (i := 1) rfl
    have c2 := Bs.cell (i := 2) rfl
    have c3 := Bs.cell (i := 3) rfl
    replace hz := Lib.hid hz
    go_wp2_with fail
    refine hcl.mono ?_
    rintro e w2 ⟨v, rfl, hv, hb⟩
    replace q := q.trans (hb.mono q.size)
    replace hv := Lib.hid hv
    clear hcl c0 c1 c2 c3 hb
    go_wp2_with fail
    go_ret2
    refine ⟨hV.out _ (.inr ⟨v, hv.out, ?_⟩), q⟩
    rfl
end Go.Proofs.YtpdnehgboafgpaaDoor
namespace Go.Proofs.YtpdnehgboafgpaaDoor
open Go.RowKit Go.Shelf
def outF (E : List Ed) (n a : Nat) (l : List Ed) (b : Nat) : Bool := l.any fun e => decide (e.1 = (a : Int)) && decide (0 ≤ e.2) && decide (e.2 < 4) && (decide (e.2 = (b : Int)) || reachE E n e.2.toNat b)
theorem outF_snoc {E l : List Ed} {n a : Nat} {e : Ed} : outF E n a (l ++ [e]) = fun b => outF E n a l b || (decide (e.1 = (a : Int)) && decide (0 ≤ e.2) && decide (e.2 < 4) && (decide (e.2 = (b : Int)) || reachE E n e.2.toNat b)) := by
  funext b
  unfold outF
  rw [List.any_append]
  simp
theorem outF_all {E : List Ed} {n a : Nat} (ha : a < 4) : outF E n a E = reachE E (n + 1) a := by
  funext b
  rw [Bool.eq_iff_iff, reach_succ]
  unfold outF
  simp only [List.any_eq_true, Bool.and_eq_true, Bool.or_eq_true, decide_eq_true_eq]
  constructor
  · rintro ⟨⟨x, y⟩, he, ⟨⟨h1, h2⟩, h3⟩, h4⟩
    simp only at h1 h2 h3 h4
    obtain ⟨j, rfl⟩ : ∃ j : Nat, y = (j : Int) := ⟨y.toNat, by omega⟩
    subst h1
    rcases h4 with h4 | h4
    · obtain rfl : j = b := by omega
      exact .inl (adj_iff.2 ⟨ha, by omega, he⟩)
    · rw [Int.toNat_natCast] at h4
      exact .inr ⟨j, adj_iff.2 ⟨ha, by omega, he⟩, h4⟩
  · rintro (h | ⟨c, h, h1⟩)
    · obtain ⟨_, hb, he⟩ := adj_iff.1 h
      exact ⟨_, he, ⟨⟨rfl, by simp only; omega⟩, by simp only; omega⟩, .inl rfl⟩
    · obtain ⟨_, hc, he⟩ := adj_iff.1 h
      exact ⟨_, he, ⟨⟨rfl, by simp only; omega⟩, by simp only; omega⟩, .inr (by simpa using h1)⟩
def mixF (F M : Nat → Bool) (k b : Nat) : Bool := F b || (decide (b < k) && M b)
theorem set_f {F : Nat → Bool} {j : Nat} {v : Bool} (h : j < 4) : (b4 F).set j (.bool v) = b4 (fun b => if b = j then v else F b) := by
  rcases j with _ | _ | _ | _ | j
  all_goals first | omega | simp [b4]
theorem mix_zero (F M : Nat → Bool) : mixF F M 0 = F := by funext b; simp [mixF]
theorem mix_four (F M : Nat → Bool) : b4 (mixF F M 4) = b4 fun b => F b || M b := by simp [b4, mixF]
theorem mix_succ (F M : Nat → Bool) (k : Nat) : mixF F M (k + 1) = fun b => if b = k then mixF F M k k || M k else mixF F M k b := by
  funext b
  unfold mixF
  split
  · rename_i h
    subst h
    simp
  · rename_i h
    rw [show decide (b < k + 1) = decide (b < k) by rw [decide_eq_decide]; omega]
def ReachAt (n : Nat) : Prop := ∀ (w : World) {S : Nat → Prop} {ad : Option Addr} {k c : Nat} {E : List Ed} (a : Nat), RdL Elt.ed S w (.slice ad k c) E → a < 4 →
  Calls Tryd.prog 53 #[.slice ad k c, .int .i64 (a : Nat), .int .i64 (n : Nat)] w fun e w' => e = .returned (.agg #[.bool (reachE E n a 0), .bool (reachE E n a 1), .bool (reachE E n a 2), .bool (reachE E n a 3)]) ∧ Below w.heap.size w w'
set_option maxRecDepth 100000 in
set_option maxHeartbeats 4000000 in
theorem reach_zero : ReachAt 0 := by
  intro w S ad k0 c E a h ha
  have q := Below.refl w.heap.size w
  obtain ⟨z4, hz4⟩ : ∃ z, z = [Value.bool false, .bool false, .bool false, .bool false] := ⟨_, rfl⟩
  go_enter Tryd.func53, Tryd.ntmps53
  go_upto_region 1 with (first | (refine wpList_boxNew (vs := [.bool false, .bool false, .bool false, .bool false]) (by kernel_rfl) rfl rfl ?_; intro w1 hb1 Br) | fail)
  have z1 := Br.lt
  replace q := q.trans (hb1.mono q.size)
  go_upto_region 2 with (first | (refine wpList_boxNew (vs := [.bool false, .bool false, .bool false, .bool false]) (by kernel_rfl) rfl rfl ?_; intro wa hba hBa) | (refine wpList_boxStore (us := [.bool false, .bool false, .bool false, .bool false]) (by kernel_rfl) rfl rfl rfl rfl rfl rfl hBa rfl ?_; intro w2 hgw Bo) | fail)
  try go_simp
  have hbw := hba.grown hgw hba.size fun k hk => by injection hk with hk; omega
  replace q := q.trans (hbw.mono q.size)
  replace Br := Br.below hbw z1
  obtain ⟨b1, eb1⟩ : ∃ b, b = w.heap.size := ⟨_, rfl⟩
  obtain ⟨b2, eb2⟩ : ∃ b, b = w1.heap.size := ⟨_, rfl⟩
  rw [← eb1] at Br
  rw [← eb2] at Bo
  have hne : b1 ≠ b2 := by omega
  have hw1 : w.heap.size ≤ b1 := by omega
  have hw2 : w.heap.size ≤ b2 := by omega
  rw [← eb1, ← eb2]
  clear hba hgw hBa hbw eb1 eb2 z1 hb1
  clear hz4
  have o0 := Bo.cell (i := 0) rfl
  have o1 := Bo.cell (i := 1) rfl
  have o2 := Bo.cell (i := 2) rfl
  have o3 := Bo.cell (i := 3) rfl
  go_wp2_with (first | (refine wpList_boxStore (us := [.bool false, .bool false, .bool false, .bool false]) (by kernel_rfl) rfl rfl rfl rfl rfl rfl Br rfl ?_; intro wz hgz Bz) | fail)
  have z0 := Bz.cell (i := 0) rfl
  have z1 := Bz.cell (i := 1) rfl
  have z2 := Bz.cell (i := 2) rfl
  have z3 := Bz.cell (i := 3) rfl
  have hu := Tryd.underlying51
  have hs : (Tryd.prog.info? 51).map (·.size) = some 4 := by kernel_rfl
  refine bodyPost_ret (v := .agg #[.bool false, .bool false, .bool false, .bool false]) (by simp [results, Tryd.results53, go_sem, loadVar, isAgg, run_underlying hu, run_sizeOf' hs, loadCellsFrom, Addr.add, z0, z1, z2, z3]) rfl ?_
  exact ⟨rfl, q.grown hgz q.size fun k hk => by injection hk with hk; omega⟩
set_option maxRecDepth 100000 in
set_option maxHeartbeats 4000000 in
theorem reach_step {n : Nat} (hn : n < 1000) (ih : ReachAt n) : ReachAt (n + 1) := by
  intro w S ad k0 c E a h ha
  have hnl := h.len.1
  subst hnl
  have hl1 : E.length ≤ 9223372036854775807 := by obtain ⟨_, hc, hm⟩ := h.len; unfold maxLen at hm; omega
  obtain ⟨m, hm⟩ : ∃ m, m = n + 1 := ⟨_, rfl⟩
  rw [← hm]
  have hm1 : 1 ≤ m := by omega
  have hm2 : m ≤ 1000 := by omega
  have hmn : (m : Int) - 1 = (n : Int) := by omega
  replace hmn := Lib.hid hmn
  replace hm := Lib.hid hm
  have d0 : ((m : Int) == 0) = false := beq_eq_false_iff_ne.2 (by omega)
  have q := Below.refl w.heap.size w
  obtain ⟨z4, hz4⟩ : ∃ z, z = [Value.bool false, .bool false, .bool false, .bool false] := ⟨_, rfl⟩
  go_enter Tryd.func53, Tryd.ntmps53
  go_upto_region 1 with (first | (refine wpList_boxNew (vs := [.bool false, .bool false, .bool false, .bool false]) (by kernel_rfl) rfl rfl ?_; intro w1 hb1 Br) | fail)
  have z1 := Br.lt
  replace q := q.trans (hb1.mono q.size)
  go_upto_region 2 with (first | (refine wpList_boxNew (vs := [.bool false, .bool false, .bool false, .bool false]) (by kernel_rfl) rfl rfl ?_; intro wa hba hBa) | (refine wpList_boxStore (us := [.bool false, .bool false, .bool false, .bool false]) (by kernel_rfl) rfl rfl rfl rfl rfl rfl hBa rfl ?_; intro w2 hgw Bo) | fail)
  try go_simp
  have hbw := hba.grown hgw hba.size fun k hk => by injection hk with hk; omega
  replace q := q.trans (hbw.mono q.size)
  replace Br := Br.below hbw z1
  obtain ⟨b1, eb1⟩ : ∃ b, b = w.heap.size := ⟨_, rfl⟩
  obtain ⟨b2, eb2⟩ : ∃ b, b = w1.heap.size := ⟨_, rfl⟩
  rw [← eb1] at Br
  rw [← eb2] at Bo
  have hne : b1 ≠ b2 := by omega
  have hw1 : w.heap.size ≤ b1 := by omega
  have hw2 : w.heap.size ≤ b2 := by omega
  rw [← eb1, ← eb2]
  clear hba hgw hBa hbw eb1 eb2 z1 hb1
  go_upto_region 5 with (fail)
  clear d0
  have Bo0 : BoxN w2 b2 51 (b4 (outF E n a [])) := Bo
  rw [← hz4] at Br
  replace hz4 := Lib.hid hz4
  clear Bo
  go_loopw [8] (fun iv wr => ∃ k : Nat, iv = .int .i64 (k : Int) ∧ k ≤ E.length ∧ BoxN wr b1 51 z4 ∧ BoxN wr b2 51 (b4 (outF E n a (E.take k))) ∧ Below w.heap.size w wr) (fun iv _ => E.length - (intOf iv).toNat)
  case atStart => exact ⟨0, rfl, Nat.zero_le _, Br, by rw [List.take_zero]; exact Bo0, q⟩
  case round =>
    clear Br Bo0 q
    obtain ⟨k, rfl, hkl, Br, Bo, q⟩ := hrel
    rcases Nat.lt_or_ge k E.length with hlt | hge
    · obtain ⟨b, off, rfl, _, c0, c1, wx, wy⟩ := (h.below q).ed k hlt
      have hsn := Lib.hid ((congrArg (outF E n a) (List.take_succ_eq_append_getElem hlt)).trans outF_snoc)
      obtain ⟨⟨x, y⟩, exy⟩ : ∃ e, e = E[k] := ⟨_, rfl⟩
      rw [← exy] at c0 c1 hsn
      clear exy wx wy
      replace c0 : wr.cell? ⟨b, off + k * 2, none⟩ = some (.int .i64 x) := c0
      replace c1 : wr.cell? ⟨b, off + k * 2 + 1, none⟩ = some (.int .i64 y) := c1
      have c0' : wr.cell? ⟨b, off + k * 2 + 0, none⟩ = some (.int .i64 x) := c0
      replace hsn := Lib.hid (show outF E n a (E.take (k + 1)) = fun b => outF E n a (E.take k) b || (decide (x = (a : Int)) && decide (0 ≤ y) && decide (y < 4) && (decide (y = (b : Int)) || reachE E n y.toNat b)) from hsn.out)
      obtain ⟨F, eF⟩ : ∃ F, F = outF E n a (E.take k) := ⟨_, rfl⟩
      rw [← eF] at Bo hsn
      clear eF
      have d0 : decide ((k : Int) < (E.length : Int)) = true := decide_eq_true (by omega)
      by_cases hx : x = (a : Int)
      · have d1 : (x != (a : Int)) = false := by rw [hx]; simp
        have d2 : (x == (a : Int)) = true := by rw [hx]; simp
        have hx' : decide (x = (a : Int)) = true := decide_eq_true hx
        replace hx' := Lib.hid hx'
        clear hx
        by_cases hy0 : y < 0
        · have d3 : decide (y < 0) = true := decide_eq_true hy0
          have hM2 := Lib.hid (show outF E n a (E.take (k + 1)) = F by rw [hsn.out]; funext b; rw [show decide (0 ≤ y) = false from decide_eq_false (by omega)]; simp)
          clear hsn hy0
          go_wp2_with fail
          go_roundw
          case rel => exact ⟨k + 1, by go_num, by omega, Br, by rw [hM2.out]; exact Bo, q⟩
          case measure => simp [intOf]; omega
        · have d3 : decide (y < 0) = false := decide_eq_false hy0
          by_cases hy3 : 3 < y
          · have d4 : decide (3 < y) = true := decide_eq_true hy3
            have hM2 := Lib.hid (show outF E n a (E.take (k + 1)) = F by rw [hsn.out]; funext b; rw [show decide (y < 4) = false from decide_eq_false (by omega)]; simp)
            clear hsn hy0 hy3
            go_wp2_with fail
            go_roundw
            case rel => exact ⟨k + 1, by go_num, by omega, Br, by rw [hM2.out]; exact Bo, q⟩
            case measure => simp [intOf]; omega
          · have d4 : decide (3 < y) = false := decide_eq_false hy3
            obtain ⟨j, rfl, hj⟩ : ∃ j : Nat, y = (j : Int) ∧ j < 4 := ⟨y.toNat, by omega, by omega⟩
            clear hy0 hy3
            have hM2 := Lib.hid (show outF E n a (E.take (k + 1)) = fun b => F b || (decide (j = b) || reachE E n j b) by
              rw [hsn.out]; funext b
              rw [hx'.out, show decide (0 ≤ (j : Int)) = true from decide_eq_true (by omega), show decide ((j : Int) < 4) = true from decide_eq_true (by omega), Int.toNat_natCast, show decide ((j : Int) = (b : Int)) = decide (j = b) by rw [decide_eq_decide]; omega]
              simp)
            clear hsn hx'
            go_upto_region 11 with (first | (refine wpList_boxSet (j := j) (u := .bool true) rfl rfl rfl (by kernel_rfl) (by first | rfl | (simp [Act.eval]; done)) rfl rfl rfl Bo (by simpa [b4] using hj) ?_; intro wn hgn Bn) | fail)
            rw [set_f hj] at Bn
            replace q := q.grown hgn q.size fun k hk => by injection hk with hk; omega
            replace Br := Br.other hgn fun e => hne (by injection e with e; exact e.symm)
            clear c0 c1 c0' hgn Bo d1 d2 d3 d4 d0
            obtain ⟨G, eG⟩ : ∃ G : Nat → Bool, G = fun b => if b = j then true else F b := ⟨_, rfl⟩
            rw [← eG] at Bn
            have hM3 := Lib.hid (show b4 (outF E n a (E.take (k + 1))) = b4 fun b => G b || reachE E n j b by
              rw [hM2.out, eG]
              congr 1; funext b
              by_cases e : b = j
              · subst e; simp
              · simp only [if_neg e, show decide (j = b) = false from decide_eq_false (fun h => e h.symm), Bool.false_or])
            clear hM2 eG
            have hcl := ih wn j (h.below q) hj
            have e1 : ((m : Int) - 1) = (n : Int) := hmn.out
            go_wp2_with fail
            refine hcl.mono ?_
            rintro e w5 ⟨rfl, hb⟩
            clear hcl e1
            obtain ⟨M, eM⟩ : ∃ M, M = reachE E n j := ⟨_, rfl⟩
            rw [← eM] at hM3
            rw [← eM]
            clear eM
            replace q := q.trans (hb.mono q.size)
            replace Br := Br.below hb Br.lt
            replace Bn := Bn.below hb Bn.lt
            clear hb
            go_upto_region 13 with (first | (refine wpList_boxNew (vs := [.bool false, .bool false, .bool false, .bool false]) (by kernel_rfl) rfl rfl ?_; intro wa hba hBa) | (refine wpList_boxStore (us := [.bool (M 0), .bool (M 1), .bool (M 2), .bool (M 3)]) (by kernel_rfl) rfl rfl rfl rfl rfl rfl hBa rfl ?_; intro w6 hgw Bm) | fail)
            try go_simp
            have hbw := hba.grown hgw hba.size fun k hk => by injection hk with hk; omega
            obtain ⟨b3, eb3⟩ : ∃ b, b = w5.heap.size := ⟨_, rfl⟩
            rw [← eb3] at Bm
            rw [← eb3]
            have hn2 : b2 ≠ b3 := by have := Bn.lt; omega
            replace q := q.trans (hbw.mono q.size)
            replace Br := Br.below hbw Br.lt
            replace Bn := Bn.below hbw Bn.lt
            replace Bm : BoxN w6 b3 51 (b4 M) := Bm
            clear hbw hgw hba hBa eb3
            go_loopw [12] (fun iv wr => ∃ t : Nat, iv = .int .i64 (t : Int) ∧ t ≤ 4 ∧ BoxN wr b1 51 z4 ∧ BoxN wr b2 51 (b4 (mixF G M t)) ∧ BoxN wr b3 51 (b4 M) ∧ Below w.heap.size w wr) (fun iv _ => 4 - (intOf iv).toNat)
            case atStart => exact ⟨0, rfl, by omega, Br, by rw [mix_zero]; exact Bn, Bm, q⟩
            case round =>
              clear Br Bn Bm q
              obtain ⟨t, rfl, ht4, Br, Bn, Bm, q⟩ := hrel
              rcases Nat.lt_or_ge t 4 with hlt4 | hge4
              · have hms := Lib.hid (mix_succ G M t)
                obtain ⟨X, eX⟩ : ∃ X, X = mixF G M t := ⟨_, rfl⟩
                rw [← eX] at Bn hms
                clear eX
                have cb0 := Bn.cell (i := t) (b4_at X hlt4)
                have cb1 : wr.cell? ⟨b2, 0 + t * 1, none⟩ = some (.bool (X t)) := by rw [show 0 + t * 1 = t by omega]; exact cb0
                have cb2 : wr.cell? ⟨b2, 0 + t, none⟩ = some (.bool (X t)) := by rw [show 0 + t = t by omega]; exact cb0
                have cm0 := Bm.cell (i := t) (b4_at M hlt4)
                have cm1 : wr.cell? ⟨b3, 0 + t * 1, none⟩ = some (.bool (M t)) := by rw [show 0 + t * 1 = t by omega]; exact cm0
                have cm2 : wr.cell? ⟨b3, 0 + t, none⟩ = some (.bool (M t)) := by rw [show 0 + t = t by omega]; exact cm0
                have d0 : decide ((t : Int) < 4) = true := decide_eq_true (by omega)
                obtain ⟨xb, exb⟩ : ∃ v, v = X t := ⟨_, rfl⟩
                rw [← exb] at cb0 cb1 cb2 hms
                clear exb
                obtain ⟨mb, emb⟩ : ∃ v, v = M t := ⟨_, rfl⟩
                rw [← emb] at cm0 cm1 cm2 hms
                clear emb
                have hl4 : t < (b4 X).length := by simpa [b4] using hlt4
                cases xb with
                | true =>
                  have hm4 := Lib.hid (show mixF G M (t + 1) = fun b => if b = t then true else X b from hms.out)
                  clear hms
                  go_wp2_with (first | (refine wpList_boxSet (j := t) (u := .bool true) rfl rfl rfl (by kernel_rfl) (by first | rfl | (simp [Act.eval]; done)) rfl rfl rfl Bn hl4 ?_; intro wn2 hgn Bn2) | fail)
                  rw [set_f hlt4] at Bn2
                  replace q := q.grown hgn q.size fun k hk => by injection hk with hk; omega
                  replace Br := Br.other hgn fun e => hne (by injection e with e; exact e.symm)
                  replace Bm := Bm.other hgn fun e => hn2 (by injection e with e)
                  clear hgn Bn cb0 cb1 cb2 cm0 cm1 cm2 d0
                  go_roundw
                  case rel => exact ⟨t + 1, by go_num, by omega, Br, by rw [hm4.out]; exact Bn2, Bm, q⟩
                  case measure => simp [intOf]; omega
                | false =>
                  have hm4 := Lib.hid (show mixF G M (t + 1) = fun b => if b = t then mb else X b from hms.out)
                  clear hms
                  go_wp2_with (first | (refine wpList_boxSet (j := t) (u := .bool mb) rfl rfl rfl (by kernel_rfl) (by first | rfl | (simp [Act.eval]; done)) rfl rfl rfl Bn hl4 ?_; intro wn2 hgn Bn2) | fail)
                  rw [set_f hlt4] at Bn2
                  replace q := q.grown hgn q.size fun k hk => by injection hk with hk; omega
                  replace Br := Br.other hgn fun e => hne (by injection e with e; exact e.symm)
                  replace Bm := Bm.other hgn fun e => hn2 (by injection e with e)
                  clear hgn Bn cb0 cb1 cb2 cm0 cm1 cm2 d0
                  go_roundw
                  case rel => exact ⟨t + 1, by go_num, by omega, Br, by rw [hm4.out]; exact Bn2, Bm, q⟩
                  case measure => simp [intOf]; omega
              · obtain rfl : t = 4 := by omega
                rw [mix_four] at Bn
                go_wp2_with fail
                go_roundw
                case rel => exact ⟨k + 1, by go_num, by omega, Br, by rw [hM3.out]; exact Bn, q⟩
                case measure => simp [intOf]; omega
      · have d1 : (x != (a : Int)) = true := by simp [hx]
        have d2 : (x == (a : Int)) = false := by simp [hx]
        have hM2 := Lib.hid (show outF E n a (E.take (k + 1)) = F by rw [hsn.out]; funext b; rw [show decide (x = (a : Int)) = false from decide_eq_false hx]; simp)
        clear hsn hx
        go_wp2_with fail
        go_roundw
        case rel => exact ⟨k + 1, by go_num, by omega, Br, by rw [hM2.out]; exact Bo, q⟩
        case measure => simp [intOf]; omega
    · obtain rfl : k = E.length := by omega
      rw [List.take_length] at Bo
      have d0 : decide ((E.length : Int) < (E.length : Int)) = false := decide_eq_false (by omega)
      have hf := Lib.hid (outF_all (E := E) (n := n) ha)
      obtain ⟨F, eF⟩ : ∃ F, F = outF E n a E := ⟨_, rfl⟩
      rw [← eF] at Bo hf
      clear eF
      replace Bo : BoxN wr b2 51 [.bool (F 0), .bool (F 1), .bool (F 2), .bool (F 3)] := Bo
      have hz := hz4.out
      rw [hz] at Br
      clear hz
      have o0 := Bo.cell (i := 0) rfl
      have o1 := Bo.cell (i := 1) rfl
      have o2 := Bo.cell (i := 2) rfl
      have o3 := Bo.cell (i := 3) rfl
      go_wp2_with (first | (refine wpList_boxStore (us := [.bool (F 0), .bool (F 1), .bool (F 2), .bool (F 3)]) (by kernel_rfl) rfl rfl rfl rfl rfl rfl Br rfl ?_; intro wz hgz Bz) | fail)
      have z0 := Bz.cell (i := 0) rfl
      have z1 := Bz.cell (i := 1) rfl
      have z2 := Bz.cell (i := 2) rfl
      have z3 := Bz.cell (i := 3) rfl
      have hu := Tryd.underlying51
      have hs : (Tryd.prog.info? 51).map (·.size) = some 4 := by kernel_rfl
      refine bodyPost_ret (v := .agg #[.bool (F 0), .bool (F 1), .bool (F 2), .bool (F 3)]) (by simp [results, Tryd.results53, go_sem, loadVar, isAgg, run_underlying hu, run_sizeOf' hs, loadCellsFrom, Addr.add, z0, z1, z2, z3]) rfl ?_
      exact ⟨by rw [hm.out, ← hf.out], q.grown hgz q.size fun k hk => by injection hk with hk; omega⟩
theorem reach_any : ∀ (n : Nat), n ≤ 1000 → ReachAt n := by
  intro n
  induction n with
  | zero => exact fun _ => reach_zero
  | succ n ih => exact fun h => reach_step (by omega) (ih (by omega))
end Go.Proofs.YtpdnehgboafgpaaDoor
