/-
  A REGION THAT DRAWS ITS ORDER, WHOSE OPERATIONS MAKE NEW MEMORY AND TURN NOTHING THAT LAY: each operation is walked once, in whatever world lies behind the region's beginning; what each hands on is said by a predicate that new memory leaves standing. Over whatever program; no condition beyond each theorem's own.
-/
import Derived.Orders
import Derived.Below
import Derived.WalkKit
import Derived.Deep.Upon
import Derived.Test.YtemdcpajcaaphaaByte
namespace Go.Proofs.Ytemdcpajcaaphaa
open Go.RowKit

/-- The frame behind the operations of a list, number i of which left vs i. -/
def putAll (a : Act) : List Oper → (Nat → Value) → Nat → Act
  | [], _, _ => a
  | o :: rest, vs, k => putAll (a.put o.dst (vs k)) rest vs (k + 1)

def upd (vs : Nat → Value) (i : Nat) (v : Value) : Nat → Value := fun j => if j = i then v else vs j

theorem put_put (a : Act) (d : Option Tmp) (u v : Value) : (a.put d u).put d v = a.put d v := by
  cases d with
  | none => rfl
  | some d => simp [Act.put]
theorem put_comm (a : Act) {d d' : Option Tmp} (h : d = none ∨ d ≠ d') (u v : Value) : (a.put d u).put d' v = (a.put d' v).put d u := by
  cases d with
  | none => rfl
  | some d =>
    cases d' with
    | none => rfl
    | some d' =>
      have hne : d ≠ d' := by rcases h with h | h; · cases h
                              · exact fun e => h (by rw [e])
      simp only [Act.put]
      rw [Array.setIfInBounds_comm _ _ hne]
theorem put_self (a : Act) (d : Tmp) : a.put (some d) (a.tmps.getD d undef) = a := by
  cases a with
  | mk tmps defers =>
    simp only [Act.put]
    congr 1
    apply Array.ext
    · simp
    · intro i h1 h2
      rw [Array.getElem_setIfInBounds]
      split
      · rename_i e; subst e; simp [Array.getD, h2]
      · rfl

theorem putAll_congr : ∀ (l : List Oper) (a : Act) (vs us : Nat → Value) (k : Nat), (∀ j, j < l.length → vs (k + j) = us (k + j)) → putAll a l vs k = putAll a l us k
  | [], _, _, _, _, _ => rfl
  | o :: rest, a, vs, us, k, h => by
    simp only [putAll]
    have h0 := h 0 (by simp)
    rw [Nat.add_zero] at h0
    rw [h0]
    exact putAll_congr rest _ vs us (k + 1) (fun j hj => by have := h (j + 1) (by simp; omega); rw [show k + 1 + j = k + (j + 1) by omega]; exact this)

theorem putAll_out : ∀ (l : List Oper) (a : Act) (vs : Nat → Value) (k : Nat) (d : Option Tmp) (v : Value), (∀ o ∈ l, d = none ∨ o.dst = none ∨ o.dst ≠ d) → (putAll a l vs k).put d v = putAll (a.put d v) l vs k
  | [], _, _, _, _, _, _ => rfl
  | o :: rest, a, vs, k, d, v, h => by
    simp only [putAll]
    rw [putAll_out rest _ vs (k + 1) d v (fun o' ho => h o' (List.mem_cons_of_mem _ ho))]
    congr 1
    rcases h o (List.mem_cons_self) with h | h | h
    · subst h; rfl
    · rw [h]; rfl
    · exact put_comm a (.inr h) _ _

/-- Each operation has a slot of its own. -/
def slotsB (l : List Oper) : Bool := (l.filterMap (·.dst)).Nodup

theorem putAll_put : ∀ (l : List Oper) (a : Act) (vs : Nat → Value) (k j : Nat) (o : Oper) (v : Value), (l.filterMap (·.dst)).Nodup → l[j]? = some o →
    (putAll a l vs k).put o.dst v = putAll a l (upd vs (k + j) v) k
  | [], _, _, _, _, _, _, _, h => by simp at h
  | o' :: rest, a, vs, k, 0, o, v, hn, h => by
    obtain rfl : o' = o := by simpa using h
    simp only [putAll, Nat.add_zero]
    rw [putAll_out rest _ vs (k + 1) o'.dst v, put_put]
    · rw [show upd vs k v k = v by simp [upd]]
      exact putAll_congr rest _ _ _ _ (fun j _ => by simp [upd]; omega)
    · intro o2 ho2
      cases hd : o'.dst with
      | none => exact .inl rfl
      | some d =>
        refine .inr ?_
        cases hd2 : o2.dst with
        | none => exact .inl rfl
        | some d2 =>
          refine .inr fun e => ?_
          cases e
          rw [List.filterMap_cons_some hd, List.nodup_cons] at hn
          exact hn.1 (List.mem_filterMap.2 ⟨o2, ho2, hd2⟩)
  | o' :: rest, a, vs, k, j + 1, o, v, hn, h => by
    simp only [putAll]
    have hn' : (rest.filterMap (·.dst)).Nodup := by
      cases hd : o'.dst with
      | none => rwa [List.filterMap_cons_none hd] at hn
      | some d => rw [List.filterMap_cons_some hd, List.nodup_cons] at hn; exact hn.2
    rw [putAll_put rest _ vs (k + 1) j o v hn' (by simpa using h), show k + 1 + j = k + (j + 1) by omega]
    rw [show upd vs (k + (j + 1)) v k = vs k by simp [upd]]

theorem putAll_orig : ∀ (l : List Oper) (a : Act) (vs : Nat → Value) (k : Nat), (∀ j o d, l[j]? = some o → o.dst = some d → vs (k + j) = a.tmps.getD d undef) → putAll a l vs k = a
  | [], _, _, _, _ => rfl
  | o :: rest, a, vs, k, h => by
    simp only [putAll]
    have e : a.put o.dst (vs k) = a := by
      cases hd : o.dst with
      | none => rfl
      | some d =>
        have q := h 0 o d rfl hd
        rw [Nat.add_zero] at q
        rw [q]; exact put_self a d
    rw [e]
    exact putAll_orig rest a vs (k + 1) (fun j o' d hj hd => by rw [show k + 1 + j = k + (j + 1) by omega]; exact h (j + 1) o' d (by simpa using hj) hd)

/-- Which operation of a list writes a slot. -/
def slotIx : List Oper → Nat → Tmp → Option Nat
  | [], _, _ => none
  | o :: rest, k, t => if o.dst = some t then some k else slotIx rest (k + 1) t

theorem size_put (a : Act) (d : Option Tmp) (v : Value) : (a.put d v).tmps.size = a.tmps.size := by cases d <;> simp [Act.put]
theorem eval_put_ne (a : Act) {d : Option Tmp} {t : Tmp} (h : d ≠ some t) (v : Value) : (a.put d v).eval (.tmp t) = a.eval (.tmp t) := by
  cases d with
  | none => rfl
  | some d =>
    have : d ≠ t := fun e => h (by rw [e])
    simp only [Act.eval, Act.put, Array.getD_eq_getD_getElem?, Array.getElem?_setIfInBounds_ne this]
theorem eval_put_eq (a : Act) {t : Tmp} (h : t < a.tmps.size) (v : Value) : (a.put (some t) v).eval (.tmp t) = v := by
  simp [Act.eval, Act.put, h]
theorem eval_putAll_out : ∀ (l : List Oper) (a : Act) (vs : Nat → Value) (k : Nat) (t : Tmp), slotIx l k t = none → (putAll a l vs k).eval (.tmp t) = a.eval (.tmp t)
  | [], _, _, _, _, _ => rfl
  | o :: rest, a, vs, k, t, h => by
    simp only [slotIx] at h
    split at h
    · cases h
    · rename_i hne
      simp only [putAll]
      rw [eval_putAll_out rest _ vs (k + 1) t h, eval_put_ne a hne]
theorem eval_putAll_in : ∀ (l : List Oper) (a : Act) (vs : Nat → Value) (k : Nat) (t : Tmp) (j : Nat), (l.filterMap (·.dst)).Nodup → t < a.tmps.size → slotIx l k t = some j → (putAll a l vs k).eval (.tmp t) = vs j
  | [], _, _, _, _, _, _, _, h => by simp [slotIx] at h
  | o :: rest, a, vs, k, t, j, hn, ht, h => by
    simp only [slotIx] at h
    simp only [putAll]
    split at h
    · rename_i he
      obtain rfl : k = j := by simpa using h
      have hout : ∀ (l : List Oper) (k : Nat), (∀ o ∈ l, o.dst ≠ some t) → slotIx l k t = none := by
        intro l
        induction l with
        | nil => intro _ _; rfl
        | cons o2 r ih => intro k hh; simp only [slotIx]; rw [if_neg (hh o2 (by simp))]; exact ih _ (fun o3 h3 => hh o3 (by simp [h3]))
      rw [List.filterMap_cons_some he, List.nodup_cons] at hn
      rw [eval_putAll_out rest _ vs (k + 1) t (hout rest (k + 1) (fun o2 h2 e => hn.1 (List.mem_filterMap.2 ⟨o2, h2, e⟩))), he, eval_put_eq a ht]
    · have hn' : (rest.filterMap (·.dst)).Nodup := by
        cases hd : o.dst with
        | none => rwa [List.filterMap_cons_none hd] at hn
        | some d => rw [List.filterMap_cons_some hd, List.nodup_cons] at hn; exact hn.2
      exact eval_putAll_in rest _ vs (k + 1) t j hn' (by rw [size_put]; exact ht) h

/-- The region's form: no guards, no operation behind a later one, each with a slot of its own. -/
def softB (ops : Array Oper) : Bool :=
  ops.toList.all (fun o => o.guard.isNone) && (ops.toList.zipIdx.all fun p => p.1.after.all fun e => !Region.binds .any e || decide (e.on < p.2)) && slotsB ops.toList

section
variable {P : Program} {Q : Exit → Act → World → Prop}

/-- One operation, in whatever world, its forerunners having left what they should. -/
def SoftOp (P : Program) (Q : Exit → Act → World → Prop) (ops : Array Oper) (a : Act) (w : World) (G : Nat → World → Value → Prop) (i : Nat) (o : Oper) : Prop :=
  ∀ (A : Act) (vs : Nat → Value) (w' : World), (∀ t, slotIx ops.toList 0 t = none → A.eval (.tmp t) = a.eval (.tmp t)) → (∀ t j, t < a.tmps.size → slotIx ops.toList 0 t = some j → A.eval (.tmp t) = vs j) →
    Below w.heap.size w w' → (∀ e ∈ o.after, Region.binds .any e = true → G e.on w' (vs e.on)) →
    o.wp P A w' (fun a2 w2 => ∃ v, a2 = A.put o.dst v ∧ G i w2 v ∧ Below w'.heap.size w' w2) Q

def SoftAll (P : Program) (Q : Exit → Act → World → Prop) (ops : Array Oper) (a : Act) (w : World) (G : Nat → World → Value → Prop) : Nat → List Oper → Prop
  | _, [] => True
  | i, o :: rest => SoftOp P Q ops a w G i o ∧ SoftAll P Q ops a w G (i + 1) rest

theorem SoftAll.get {ops : Array Oper} {a : Act} {w : World} {G : Nat → World → Value → Prop} : ∀ (l : List Oper) (k j : Nat) (o : Oper), SoftAll P Q ops a w G k l → l[j]? = some o → SoftOp P Q ops a w G (k + j) o
  | [], _, _, _, _, h => by simp at h
  | o' :: rest, k, 0, o, h, hj => by obtain rfl : o' = o := by simpa using hj
                                     exact h.1
  | o' :: rest, k, j + 1, o, h, hj => by rw [show k + (j + 1) = k + 1 + j by omega]; exact SoftAll.get rest (k + 1) j o h.2 (by simpa using hj)

def unlisted (n : Nat) (listed : Array Bool) : List Nat := (List.range n).filter fun i => !listed.getD i true

theorem unlisted_set {n : Nat} {listed : Array Bool} {i : Nat} (hn : listed.size = n) (hi : i < n) (hl : listed.getD i true = false) : (unlisted n (listed.setIfInBounds i true)).length < (unlisted n listed).length := by
  have key : ∀ (l : List Nat), l.Nodup → i ∈ l → (l.filter fun j => !(listed.setIfInBounds i true).getD j true).length < (l.filter fun j => !listed.getD j true).length ∨ False := by
    intro l
    induction l with
    | nil => intro _ h; cases h
    | cons x r ih =>
      intro hnd hm
      rw [List.nodup_cons] at hnd
      have same : ∀ j, j ≠ i → (listed.setIfInBounds i true).getD j true = listed.getD j true := by
        intro j hj
        simp only [Array.getD_eq_getD_getElem?, Array.getElem?_setIfInBounds_ne hj.symm]
      have here : (listed.setIfInBounds i true).getD i true = true := by
        simp only [Array.getD_eq_getD_getElem?, Array.getElem?_setIfInBounds_self_of_lt (by omega : i < listed.size)]; rfl
      by_cases hx : x = i
      · subst hx
        left
        rw [List.filter_cons_of_neg (by simp [here]), List.filter_cons_of_pos (by simp [hl])]
        have e : r.filter (fun j => !(listed.setIfInBounds x true).getD j true) = r.filter (fun j => !listed.getD j true) :=
          List.filter_congr (fun j hj => by rw [same j (fun e => hnd.1 (e ▸ hj))])
        rw [e]; simp
      · left
        have hm' : i ∈ r := by rcases List.mem_cons.1 hm with h | h; · exact absurd h.symm hx
                               · exact h
        have := (ih hnd.2 hm').resolve_right id
        by_cases hb : listed.getD x true = true
        · rw [List.filter_cons_of_neg (by simp [same x hx, hb]), List.filter_cons_of_neg (by simp [hb])]; exact this
        · have hb' : listed.getD x true = false := by simpa using hb
          rw [List.filter_cons_of_pos (by simp [same x hx, hb']), List.filter_cons_of_pos (by simp [hb'])]
          simp only [List.length_cons]; omega
  exact (key (List.range n) List.nodup_range (List.mem_range.2 hi)).resolve_right id

theorem all_listed {ops : Array Oper} {listed : Array Bool} (hs : softB ops = true) (hr : Region.ready .any ops listed = []) : ∀ i, i < ops.size → listed.getD i true = true := by
  intro i
  induction i using Nat.strongRecOn with
  | ind i ih =>
    intro hi
    cases hl : listed.getD i true with
    | true => rfl
    | false =>
      exfalso
      have hm : i ∈ Region.ready .any ops listed := by
        unfold Region.ready
        refine List.mem_filter.2 ⟨List.mem_range.2 hi, ?_⟩
        have hdep : ∀ e ∈ (ops[i]'hi).after, Region.binds .any e = true → e.on < i := by
          intro e he hb
          simp only [softB, Bool.and_eq_true, List.all_eq_true] at hs
          have := hs.1.2 ((ops[i]'hi), i) (by
            rw [List.mem_zipIdx_iff_getElem?]; simp [hi])
          rw [Array.all_eq_true'] at this
          have := this e he
          simpa [hb] using this
        simp only [hl, Array.getElem?_eq_getElem hi, Option.map_some, Option.getD_some, Bool.not_false, Bool.true_and]
        rw [Array.all_eq_true']
        intro e he
        cases hb : Region.binds .any e with
        | false => simp
        | true =>
          have hlt := hdep e he hb
          have := ih e.on hlt (by omega)
          simp only [Bool.not_true, Bool.false_or]
          revert this
          simp only [Array.getD_eq_getD_getElem?]
          cases hg : listed[e.on]? with
          | some b => simp
          | none =>
            -- out of the array's range: then so is i
            exfalso
            rw [Array.getElem?_eq_none_iff] at hg
            simp only [Array.getD_eq_getD_getElem?, Array.getElem?_eq_none_iff.2 (show listed.size ≤ i by omega)] at hl
            cases hl
      rw [hr] at hm
      cases hm

theorem wp_region_soft {id : Nat} {ops : Array Oper} {a : Act} {w : World} (hm : P.follows .mixedOrders = true) (hs : softB ops = true) (G : Nat → World → Value → Prop)
    (hst : ∀ i w v w', G i w v → Below w.heap.size w w' → G i w' v) (hop : SoftAll P Q ops a w G 0 ops.toList)
    (hend : ∀ (vs : Nat → Value) (w' : World), Below w.heap.size w w' → (∀ i, i < ops.size → G i w' (vs i)) → Q .normal (putAll a ops.toList vs 0) w') : (Code.region id ops true).wp P Q a w := by
  refine wp_region_any hm ?_
  have hnd : (ops.toList.filterMap (·.dst)).Nodup := by simp only [softB, slotsB, Bool.and_eq_true, decide_eq_true_eq] at hs; exact hs.2
  have hgd : ∀ (i : Nat) o, ops[i]? = some o → o.guard = none := by
    intro i o ho
    simp only [softB, Bool.and_eq_true, List.all_eq_true] at hs
    have := hs.1.1 o (by rw [← Array.getElem?_toList] at ho; exact List.mem_of_getElem? ho)
    simpa using this
  have main : ∀ (fuel : Nat) (listed : Array Bool) (vs : Nat → Value) (w' : World), listed.size = ops.size → (unlisted ops.size listed).length ≤ fuel → Below w.heap.size w w' →
      (∀ i, i < ops.size → listed.getD i true = true → G i w' (vs i)) → wpAny P .any ops Q fuel listed (putAll a ops.toList vs 0) w' := by
    intro fuel
    induction fuel with
    | zero =>
      intro listed vs w' hsz hu hb hG
      have hall : ∀ i, i < ops.size → listed.getD i true = true := by
        intro i hi
        cases hl : listed.getD i true with
        | true => rfl
        | false =>
          have : i ∈ unlisted ops.size listed := List.mem_filter.2 ⟨List.mem_range.2 hi, by simp [hl]⟩
          rw [List.eq_nil_of_length_eq_zero (Nat.le_zero.1 hu)] at this
          cases this
      refine ⟨?_, hend vs w' hb (fun i hi => hG i hi (hall i hi))⟩
      unfold Region.ready
      rw [List.filter_eq_nil_iff]
      intro i hi
      simp [hall i (List.mem_range.1 hi)]
    | succ fuel ih =>
      intro listed vs w' hsz hu hb hG
      refine ⟨fun hr => hend vs w' hb (fun i hi => hG i hi (all_listed hs hr i hi)), fun i hi => ?_⟩
      unfold Region.ready at hi
      obtain ⟨hi1, hi2⟩ := List.mem_filter.1 hi
      have hlt := List.mem_range.1 hi1
      rw [Bool.and_eq_true] at hi2
      obtain ⟨hl, hdep⟩ := hi2
      have hl' : listed.getD i true = false := by simpa using hl
      obtain ⟨o, ho⟩ : ∃ o, ops[i]? = some o := ⟨_, Array.getElem?_eq_getElem hlt⟩
      rw [ho] at hdep
      simp only [Option.map_some, Option.getD_some] at hdep
      rw [Array.all_eq_true'] at hdep
      have hsoft := SoftAll.get ops.toList 0 i o hop (by rw [Array.getElem?_toList]; exact ho)
      rw [Nat.zero_add] at hsoft
      have hwp := hsoft (putAll a ops.toList vs 0) vs w' (fun t h => eval_putAll_out _ _ _ _ _ h) (fun t j ht h => eval_putAll_in _ _ _ _ _ _ hnd ht h) hb (fun e he hbn => by
        have h := hdep e he
        rw [hbn] at h
        simp only [Bool.not_true, Bool.false_or] at h
        have hin : e.on < listed.size := by
          rcases Nat.lt_or_ge e.on listed.size with h' | h'
          · exact h'
          · simp [Array.getD_eq_getD_getElem?, Array.getElem?_eq_none_iff.2 h'] at h
        refine hG e.on (by omega) ?_
        simp only [Array.getD_eq_getD_getElem?, Array.getElem?_eq_getElem hin, Option.getD_some] at h ⊢
        exact h)
      unfold wpOp
      simp only [ho, Region.wanted, hgd i o ho, if_true]
      refine .inl (Oper.wp_mono ?_ hwp)
      rintro a2 w2 ⟨v, rfl, hg, hb2⟩
      rw [putAll_put ops.toList a vs 0 i o v hnd (by rw [Array.getElem?_toList]; exact ho), Nat.zero_add]
      refine ih _ _ _ (by simp [hsz]) (by have := unlisted_set hsz hlt hl'; omega) (hb.trans (hb2.mono hb.size)) (fun j hj hlj => ?_)
      by_cases hji : j = i
      · subst hji; simpa [upd] using hg
      · have : upd vs i v j = vs j := by simp [upd, hji]
        rw [this]
        refine hst j w' _ w2 (hG j hj ?_) hb2
        simp only [Array.getD_eq_getD_getElem?, Array.getElem?_setIfInBounds_ne (Ne.symm hji)] at hlj ⊢
        exact hlj
  have h0 := main ops.size (Array.replicate ops.size false) (fun i => ((ops[i]?).bind (·.dst)).elim undef (fun d => a.tmps.getD d undef)) { w with drawn := w.drawn + 1 } (by simp)
    (by have := List.length_filter_le (fun i => !(Array.replicate ops.size false).getD i true) (List.range ops.size); simpa [unlisted] using this) ⟨rfl, rfl, rfl, Nat.le_refl _, fun _ _ => rfl⟩
    (fun i hi h => by simp [Array.getD_eq_getD_getElem?, hi] at h)
  rw [putAll_orig ops.toList a _ 0 (fun j o d hj hd => by
    rw [Array.getElem?_toList] at hj
    simp [hj, hd])] at h0
  exact h0
end

/-- What stays so over new memory. -/
def StableG (G : World → Value → Prop) : Prop := ∀ w v w', G w v → Below w.heap.size w w' → G w' v
abbrev SG := { G : World → Value → Prop // StableG G }
def sgEq (u : Value) : SG := ⟨fun _ v => v = u, fun _ _ _ h _ => h⟩
def sgAny : SG := ⟨fun _ _ => True, fun _ _ _ h _ => h⟩
/-- A slice that reads as these bytes. -/
def sgRd (xs : List UInt8) : SG := ⟨fun w v => ∃ ad k c, v = .slice ad k c ∧ Rd w.heap.size w (.slice ad k c) xs, fun _ _ _ ⟨ad, k, c, h, hr⟩ hb => ⟨ad, k, c, h, (hr.below hb).mono hb.size⟩⟩
/-- A slice of the call's own that holds these bytes. -/
def sgOwn (E : TypeId) (base : Nat) (xs : List UInt8) : SG := ⟨fun w v => ∃ ad k c, v = .slice ad k c ∧ Own E base w (.slice ad k c) xs, fun _ _ _ ⟨ad, k, c, h, hr⟩ hb => ⟨ad, k, c, h, hr.below hb⟩⟩

/-- '[]byte{}' of the call's own. -/
def sgZero (E : TypeId) (base : Nat) : SG := ⟨fun w v => ∃ g, v = .slice (some g) 0 0 ∧ Own E base w (.slice (some g) 0 0) [], fun _ _ _ ⟨g, h, hr⟩ hb => ⟨g, h, hr.below hb⟩⟩

theorem wp_region_sg {P : Program} {Q : Exit → Act → World → Prop} {id : Nat} {ops : Array Oper} {a : Act} {w : World} (hm : P.follows .mixedOrders = true) (hs : softB ops = true) (Gs : List SG)
    (hop : SoftAll P Q ops a w (fun i => (Gs.getD i sgAny).1) 0 ops.toList)
    (hend : ∀ (vs : Nat → Value) (w' : World), Below w.heap.size w w' → (∀ i, i < ops.size → (Gs.getD i sgAny).1 w' (vs i)) → Q .normal (putAll a ops.toList vs 0) w') : (Code.region id ops true).wp P Q a w :=
  wp_region_soft hm hs (fun i => (Gs.getD i sgAny).1) (fun i => (Gs.getD i sgAny).2) hop hend

section
variable {P : Program} {T E S : TypeId} {o : Oper} {a : Act} {K : Act → World → Prop} {Q : Exit → Act → World → Prop} {w : World}

theorem wp_run {v : Value} (hrun : (execOp a.eval o).run P w = .ok (.value v) w) (h : K (a.put o.dst v) w) : o.wp P a w K Q := by
  unfold Oper.wp
  rw [hrun]
  exact h

theorem wp_eql_str {t t2 : TypeId} {x y : Operand} {s : ByteArray} (ho : o.op = .binOp .eql t x y t2) (hx : a.eval x = .string s) (hy : a.eval y = .string s) (h : K (a.put o.dst (.bool true)) w) : o.wp P a w K Q := by
  refine wp_run (v := .bool true) ?_ h
  simp only [execOp, ho, hx, hy, binOp_string_eql]
  simp [eqGuard, go_sem]
theorem wp_eql_int {t t2 : TypeId} {x y : Operand} {k : IntKind} {n : Int} (ho : o.op = .binOp .eql t x y t2) (hx : a.eval x = .int k n) (hy : a.eval y = .int k n) (h : K (a.put o.dst (.bool true)) w) : o.wp P a w K Q := by
  refine wp_run (v := .bool true) ?_ h
  simp only [execOp, ho, hx, hy]
  simp [eqGuard, binOp, Op.intCmp, go_sem]

theorem wp_conv (hP : ByP P T E S) {x : Operand} (ho : o.op = .convert T S x) {B : Nat} {v : Value} {xs : List UInt8} (hx : a.eval x = v) (hr : Rd B w v xs)
    (h : K (a.put o.dst (.string (strOf xs))) w) : o.wp P a w K Q := by
  unfold Oper.wp execOp
  simp only [ho, hx, Sem.run_bind, Sem.run_pure, Result.andThen_ok, run_conv hP hr]
  exact h

theorem wp_lit (hP : ByP P T E S) {n : Nat} {parts : Array (Nat × Operand)} (ho : o.op = .buildSlice T n parts) (xs : List UInt8)
    (hn : n = xs.length) (hv : litB parts.toList xs 0 = true) (hs : xs.length ≤ 16777216)
    (h : ∀ g k w', Fresh E w w' (.slice (some ⟨g, 0, none⟩) k k) xs → K (a.put o.dst (.slice (some ⟨g, 0, none⟩) k k)) w') : o.wp P a w K Q := by
  subst hn
  have hrun := run_build hP w xs hs
  have hq : (parts.map fun p => (p.1, a.eval p.2)) = ((bv xs).zipIdx.map fun p => (p.2, p.1)).toArray := by
    rw [← litB_eq a parts.toList xs 0 hv]
    apply Array.ext'
    simp
  unfold Oper.wp execOp
  simp only [ho, hq, Sem.run_bind, Sem.run_pure, Result.andThen_ok, hrun]
  exact h _ _ _ (fresh_build E w xs hs)

theorem wp_callFn {f : FuncId} {xs : Array Operand} {ts : Array TypeId} {args : Array Value} (ho : o.op = .call { callee := .value (.func f), args := xs, argTypes := ts }) (eg : ∀ args w, (callFunc f args).run P w = .ok (.enter f args) w)
    (hargs : xs.map a.eval = args) (hc : Calls P f args w (fun e w' => ∃ v, e = .returned v ∧ K (a.put o.dst v) w')) : o.wp P a w K Q := by
  have hrun : (execOp a.eval o).run P w = .ok (.enter f args) w := by
    subst hargs
    simp [execOp, ho, resolve, BigFrame.eval_func, invoke, Deferred.ofValue, eg]
  unfold Oper.wp
  rw [hrun, Oper.upon_enter]
  refine hc.mono (fun e w' h => ?_)
  obtain ⟨v, rfl, hk⟩ := h
  exact hk

theorem wp_slice (hP : ByP P T E S) {x : Operand} {lo hi : Option Operand} (ho : o.op = .slice T x lo hi none) {B : Nat} {ad : Option Addr} {n c : Nat} {xs : List UInt8} (hx : a.eval x = .slice ad n c) (hr : Rd B w (.slice ad n c) xs)
    {l r : Nat} {lov hiv : Option Value} (hlo : lo.map a.eval = lov) (hhi : hi.map a.eval = hiv) (hb : (Instr.sliceBounds true n c lov hiv none).run P w = .ok (l, r, c) w)
    (h : ∀ ad' k c', Rd B w (.slice ad' k c') ((xs.drop l).take (r - l)) → K (a.put o.dst (.slice ad' k c')) w) (hl : l ≤ r) (hrn : r ≤ xs.length) : o.wp P a w K Q := by
  subst hlo; subst hhi
  obtain ⟨ad', c', hrun, h2⟩ := run_slice_rd hP hr hb hl hrn
  unfold Oper.wp execOp
  have hat : (Instr.sliceAt T (.slice ad n c) (lo.map a.eval) (hi.map a.eval) none).run P w = .ok (.slice ad' (r - l) c') w := by
    rw [show (Instr.sliceAt T (.slice ad n c) (lo.map a.eval) (hi.map a.eval) none).run P w = (Instr.slice T (.slice ad n c) (lo.map a.eval) (hi.map a.eval) none).run P w by simp [Instr.sliceAt, run_underlying hP.hT]]; exact hrun
  simp only [ho, hx, Option.map_none, Sem.run_bind, Sem.run_pure, Result.andThen_ok, hat]
  exact h _ _ _ h2

theorem wp_build (hP : ByP P T E S) {n : Nat} {parts : Array (Nat × Operand)} (ho : o.op = .buildSlice T n parts) (xs : List UInt8)
    (hv : (parts.map fun p => (p.1, a.eval p.2)) = ((bv xs).zipIdx.map fun p => (p.2, p.1)).toArray) (hn : n = xs.length) (hs : xs.length ≤ 16777216)
    (h : ∀ g k w', Fresh E w w' (.slice (some ⟨g, 0, none⟩) k k) xs → K (a.put o.dst (.slice (some ⟨g, 0, none⟩) k k)) w') : o.wp P a w K Q := by
  have hrun := run_build hP w xs hs
  subst hn
  unfold Oper.wp execOp
  simp only [ho, hv, Sem.run_bind, Sem.run_pure, Result.andThen_ok, hrun]
  exact h _ _ _ (fresh_build E w xs hs)

theorem wp_append (hP : ByP P T E S) {s x : Operand} (ho : o.op = .call { callee := .builtin .append, args := #[s, x], argTypes := #[T, T] })
    {base B : Nat} {vs vx : Value} {ys xs : List UInt8} (hs : a.eval s = vs) (hown : Own E base w vs ys) (hx : a.eval x = vx) (hr : Rd B w vx xs)
    (hbase : base ≤ w.heap.size)
    (h : ∀ ad k cap w', Own E base w' (.slice ad k cap) (ys ++ xs) → w.grownBy w' vs.ownBlock → Below base w w' → K (a.put o.dst (.slice ad k cap)) w') (hlen : ys.length + xs.length ≤ 1073741824) : o.wp P a w K Q := by
  obtain ⟨v', w', hrun, h2, h3⟩ := run_append_rd hP w o.type hown hr hbase hlen
  obtain ⟨ad, k, cap, rfl⟩ := Own.shape h2
  unfold Oper.wp execOp
  simp only [ho, resolve, invoke, builtin, Sem.run_bind, Sem.run_pure, Result.andThen_ok, List.map_toArray, List.map_cons, List.map_nil, hs, hx, hrun]
  exact h _ _ _ _ h2 h3 (hown.grown_below h3 (Nat.le_refl _) hbase)

/-- 'append([]byte{}, x...)': nothing that lay is turned. -/
theorem run_append_zero (hP : ByP P T E S) (w : World) {base B : Nat} (ty : TypeId) {g : Addr} {x : Value} {xs : List UInt8} (hown : Own E base w (.slice (some g) 0 0) []) (hx : Rd B w x xs)
    (hbase : base ≤ w.heap.size) (hlen : xs.length ≤ 1073741824) :
    ∃ v' w', (Builtin.append_ #[T, T] ty #[.slice (some g) 0 0, x]).run P w = .ok v' w' ∧ Own E base w' v' xs ∧ Below w.heap.size w w' := by
  obtain ⟨i, hi, hz, hsz, hby⟩ := hP.info
  rcases hx with ⟨ax, cx, rfl, _, rfl⟩ | ⟨b, off, cap, rfl, _, _, _, hc⟩
  · have hsrc : Src P i.size T (.slice ax 0 cx) 0 [] w := by
      cases ax with
      | none => exact Src.ofNil w hP.hT cx
      | some p => exact Src.ofSlice w hP.hT p 0 cx [] (by simp) (fun j u h => by simp at h) (fun u h => by cases h)
    exact ⟨_, w, run_append_nothing w T T ty E i hP.hT hi (some g) 0 0 (Nat.le_refl _) _ hsrc, hown, Below.refl _ _⟩
  · have hsrc : Src P i.size T (.slice (some ⟨b, off, none⟩) xs.length cap) xs.length (bv xs) w :=
      Src.ofSlice w hP.hT _ _ _ _ (by rw [bv_length, hsz, Nat.mul_one]) (fun j u hj => by simpa [Addr.add_lit] using hc j u hj) bv_one
    by_cases h0 : xs = []
    · subst h0
      exact ⟨_, w, run_append_nothing w T T ty E i hP.hT hi (some g) 0 0 (Nat.le_refl _) _ hsrc, hown, Below.refl _ _⟩
    · have hpos : 0 < xs.length := List.length_pos_iff.2 h0
      have hr := run_append_grow_src (P := P) w T T ty E i (.int .u8 0) hP.hT hi hz (some g) 0 0 [] (run_firstCells_some w.drew i.size 0 g 0 0 [] (by simp) (fun j u h => by simp at h)) _ _ _ hsrc (by omega) (by omega)
        (by rw [hby]; exact growslice_fits (by omega) (by omega))
      refine ⟨_, _, hr, ⟨xs.length, by rw [bv_length, Nat.mul_one], .inr ⟨w.heap.size, grownCap w (0 + xs.length) 0 E, _, by rw [Nat.zero_add], hbase, heap_alloc_new w.drew _, ?_, grownCap_le_maxLen w _ _ _ (by unfold maxLen; omega), ?_, ?_⟩⟩, ?_⟩
      · have := grownCap_ge w (0 + xs.length) 0 E; omega
      · have := grownCap_ge w (0 + xs.length) 0 E
        rw [Nat.zero_add] at this ⊢
        simp [size_zeroCells, Value.cells, bv_length]; omega
      · simp only [List.nil_append, Array.toList_append, Nat.mul_one]
        rw [List.take_append_of_le_length (by simp [bv_length]), List.take_of_length_le (by simp [bv_length])]
      · exact ((Below.refl _ w).drew).alloc (Nat.le_refl _) _
theorem wp_append_zero (hP : ByP P T E S) {s x : Operand} (ho : o.op = .call { callee := .builtin .append, args := #[s, x], argTypes := #[T, T] })
    {base B : Nat} {g : Addr} {vx : Value} {xs : List UInt8} (hs : a.eval s = .slice (some g) 0 0) (hown : Own E base w (.slice (some g) 0 0) []) (hx : a.eval x = vx) (hr : Rd B w vx xs)
    (hbase : base ≤ w.heap.size)
    (h : ∀ ad k cap w', Own E base w' (.slice ad k cap) xs → Below w.heap.size w w' → K (a.put o.dst (.slice ad k cap)) w') (hlen : xs.length ≤ 1073741824) : o.wp P a w K Q := by
  obtain ⟨v', w', hrun, h2, h3⟩ := run_append_zero hP w o.type hown hr hbase hlen
  obtain ⟨ad, k, cap, rfl⟩ := Own.shape h2
  unfold Oper.wp execOp
  simp only [ho, resolve, invoke, builtin, Sem.run_bind, Sem.run_pure, Result.andThen_ok, List.map_toArray, List.map_cons, List.map_nil, hs, hx, hrun]
  exact h _ _ _ _ h2 h3
end
end Go.Proofs.Ytemdcpajcaaphaa
