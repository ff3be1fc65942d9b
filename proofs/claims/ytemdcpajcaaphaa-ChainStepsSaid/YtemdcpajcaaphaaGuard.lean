/-
  A REGION THAT DRAWS ITS ORDER, WITH GUARDS THAT ARE KNOWN: each operation is carried out, or left out, for sure; it makes new memory at most. Each is walked once, in whatever world lies behind the region's beginning. Over whatever program; no condition beyond each theorem's own.
-/
import Derived.Test.YtemdcpajcaaphaaSoft
namespace Go.Proofs.Ytemdcpajcaaphaa
open Go.RowKit

theorem slotIx_at : ∀ (l : List Oper) (k j : Nat) (o : Oper) (d : Tmp), (l.filterMap (·.dst)).Nodup → l[j]? = some o → o.dst = some d → slotIx l k d = some (k + j)
  | [], _, _, _, _, _, h, _ => by simp at h
  | o2 :: r, k, 0, o, d, _, hj, hd => by
    obtain rfl : o2 = o := by simpa using hj
    simp [slotIx, hd]
  | o2 :: r, k, j + 1, o, d, hn, hj, hd => by
    have hmem : d ∈ r.filterMap (·.dst) := List.mem_filterMap.2 ⟨o, List.mem_of_getElem? (by simpa using hj), hd⟩
    have hne : o2.dst ≠ some d := by
      intro e
      rw [List.filterMap_cons_some e, List.nodup_cons] at hn
      exact hn.1 hmem
    have hn' : (r.filterMap (·.dst)).Nodup := by
      cases hd2 : o2.dst with
      | none => rwa [List.filterMap_cons_none hd2] at hn
      | some d2 => rw [List.filterMap_cons_some hd2, List.nodup_cons] at hn; exact hn.2
    simp only [slotIx, if_neg hne]
    rw [slotIx_at r (k + 1) j o d hn' (by simpa using hj) hd]
    congr 1; omega

/-- The region's form: no operation behind a later one, each with a slot of its own. -/
def gdB (ops : Array Oper) : Bool := (ops.toList.zipIdx.all fun p => p.1.after.all fun e => !Region.binds .any e || decide (e.on < p.2)) && slotsB ops.toList

theorem all_listed_gd {ops : Array Oper} {listed : Array Bool} (hs : gdB ops = true) (hr : Region.ready .any ops listed = []) : ∀ i, i < ops.size → listed.getD i true = true := by
  intro i
  induction i using Nat.strongRecOn with
  | ind i ih =>
    intro hi
    cases hl : listed.getD i true with
    | true => rfl
    | false =>
      exfalso
      have hm : i ∈ Region.ready .any ops listed := by
        unfold Region.ready
        refine List.mem_filter.2 ⟨List.mem_range.2 hi, ?_⟩
        have hdep : ∀ e ∈ (ops[i]'hi).after, Region.binds .any e = true → e.on < i := by
          intro e he hb
          simp only [gdB, Bool.and_eq_true, List.all_eq_true] at hs
          have := hs.1 ((ops[i]'hi), i) (by
            rw [List.mem_zipIdx_iff_getElem?]; simp [hi])
          rw [Array.all_eq_true'] at this
          have := this e he
          simpa [hb] using this
        simp only [hl, Array.getElem?_eq_getElem hi, Option.map_some, Option.getD_some, Bool.not_false, Bool.true_and]
        rw [Array.all_eq_true']
        intro e he
        cases hb : Region.binds .any e with
        | false => simp
        | true =>
          have hlt := hdep e he hb
          have := ih e.on hlt (by omega)
          simp only [Bool.not_true, Bool.false_or]
          revert this
          simp only [Array.getD_eq_getD_getElem?]
          cases hg : listed[e.on]? with
          | some b => simp
          | none =>
            exfalso
            rw [Array.getElem?_eq_none_iff] at hg
            simp only [Array.getD_eq_getD_getElem?, Array.getElem?_eq_none_iff.2 (show listed.size ≤ i by omega)] at hl
            cases hl
      rw [hr] at hm
      cases hm

section
variable {P : Program} {Q : Exit → Act → World → Prop}

/-- One operation: carried out, or left out, for sure. -/
def GdOp (P : Program) (Q : Exit → Act → World → Prop) (ops : Array Oper) (a : Act) (w : World) (G : Nat → World → Value → Prop) (i : Nat) (o : Oper) : Prop :=
  match o.guard with
  | none => SoftOp P Q ops a w G i o
  | some (j, b) => (∃ oj d, ops[j]? = some oj ∧ oj.dst = some d ∧ d < a.tmps.size) ∧ (o.after.any fun e => e.on == j && Region.binds .any e) = true ∧
      (((∀ w v, G j w v → v = .bool b) ∧ SoftOp P Q ops a w G i o) ∨ ((∀ w v, G j w v → v = .bool (!b) ∨ v = undef) ∧ ∀ w, G i w undef))

theorem GdOp.plain {ops : Array Oper} {a : Act} {w : World} {G : Nat → World → Value → Prop} {i : Nat} {o : Oper} (h : o.guard = none) (h2 : SoftOp P Q ops a w G i o) : GdOp P Q ops a w G i o := by
  unfold GdOp; rw [h]; exact h2
theorem GdOp.taken {ops : Array Oper} {a : Act} {w : World} {G : Nat → World → Value → Prop} {i : Nat} {o : Oper} {j : Nat} {b : Bool} (h : o.guard = some (j, b)) (h1 : ∃ oj d, ops[j]? = some oj ∧ oj.dst = some d ∧ d < a.tmps.size)
    (h2 : (o.after.any fun e => e.on == j && Region.binds .any e) = true) (h3 : ∀ w v, G j w v → v = .bool b) (h4 : SoftOp P Q ops a w G i o) : GdOp P Q ops a w G i o := by
  unfold GdOp; rw [h]; exact ⟨h1, h2, .inl ⟨h3, h4⟩⟩
theorem GdOp.left {ops : Array Oper} {a : Act} {w : World} {G : Nat → World → Value → Prop} {i : Nat} {o : Oper} {j : Nat} {b : Bool} (h : o.guard = some (j, b)) (h1 : ∃ oj d, ops[j]? = some oj ∧ oj.dst = some d ∧ d < a.tmps.size)
    (h2 : (o.after.any fun e => e.on == j && Region.binds .any e) = true) (h3 : ∀ w v, G j w v → v = .bool (!b) ∨ v = undef) (h4 : ∀ w, G i w undef) : GdOp P Q ops a w G i o := by
  unfold GdOp; rw [h]; exact ⟨h1, h2, .inr ⟨h3, h4⟩⟩

def GdAll (P : Program) (Q : Exit → Act → World → Prop) (ops : Array Oper) (a : Act) (w : World) (G : Nat → World → Value → Prop) : Nat → List Oper → Prop
  | _, [] => True
  | i, o :: rest => GdOp P Q ops a w G i o ∧ GdAll P Q ops a w G (i + 1) rest

theorem GdAll.get {ops : Array Oper} {a : Act} {w : World} {G : Nat → World → Value → Prop} : ∀ (l : List Oper) (k j : Nat) (o : Oper), GdAll P Q ops a w G k l → l[j]? = some o → GdOp P Q ops a w G (k + j) o
  | [], _, _, _, _, h => by simp at h
  | o' :: rest, k, 0, o, h, hj => by obtain rfl : o' = o := by simpa using hj
                                     exact h.1
  | o' :: rest, k, j + 1, o, h, hj => by rw [show k + (j + 1) = k + 1 + j by omega]; exact GdAll.get rest (k + 1) j o h.2 (by simpa using hj)

theorem wp_region_gd {id : Nat} {ops : Array Oper} {a : Act} {w : World} (hm : P.follows .mixedOrders = true) (hs : gdB ops = true) (G : Nat → World → Value → Prop)
    (hst : ∀ i w v w', G i w v → Below w.heap.size w w' → G i w' v) (hop : GdAll P Q ops a w G 0 ops.toList)
    (hend : ∀ (vs : Nat → Value) (w' : World), Below w.heap.size w w' → (∀ i, i < ops.size → G i w' (vs i)) → Q .normal (putAll a ops.toList vs 0) w') : (Code.region id ops true).wp P Q a w := by
  refine wp_region_any hm ?_
  have hnd : (ops.toList.filterMap (·.dst)).Nodup := by simp only [gdB, slotsB, Bool.and_eq_true, decide_eq_true_eq] at hs; exact hs.2
  have main : ∀ (fuel : Nat) (listed : Array Bool) (vs : Nat → Value) (w' : World), listed.size = ops.size → (unlisted ops.size listed).length ≤ fuel → Below w.heap.size w w' →
      (∀ i, i < ops.size → listed.getD i true = true → G i w' (vs i)) → wpAny P .any ops Q fuel listed (putAll a ops.toList vs 0) w' := by
    intro fuel
    induction fuel with
    | zero =>
      intro listed vs w' hsz hu hb hG
      have hall : ∀ i, i < ops.size → listed.getD i true = true := by
        intro i hi
        cases hl : listed.getD i true with
        | true => rfl
        | false =>
          have : i ∈ unlisted ops.size listed := List.mem_filter.2 ⟨List.mem_range.2 hi, by simp [hl]⟩
          rw [List.eq_nil_of_length_eq_zero (Nat.le_zero.1 hu)] at this
          cases this
      refine ⟨?_, hend vs w' hb (fun i hi => hG i hi (hall i hi))⟩
      unfold Region.ready
      rw [List.filter_eq_nil_iff]
      intro i hi
      simp [hall i (List.mem_range.1 hi)]
    | succ fuel ih =>
      intro listed vs w' hsz hu hb hG
      refine ⟨fun hr => hend vs w' hb (fun i hi => hG i hi (all_listed_gd hs hr i hi)), fun i hi => ?_⟩
      unfold Region.ready at hi
      obtain ⟨hi1, hi2⟩ := List.mem_filter.1 hi
      have hlt := List.mem_range.1 hi1
      rw [Bool.and_eq_true] at hi2
      obtain ⟨hl, hdep⟩ := hi2
      have hl' : listed.getD i true = false := by simpa using hl
      obtain ⟨o, ho⟩ : ∃ o, ops[i]? = some o := ⟨_, Array.getElem?_eq_getElem hlt⟩
      rw [ho] at hdep
      simp only [Option.map_some, Option.getD_some] at hdep
      rw [Array.all_eq_true'] at hdep
      have hgop := GdAll.get ops.toList 0 i o hop (by rw [Array.getElem?_toList]; exact ho)
      rw [Nat.zero_add] at hgop
      have hdepG : ∀ e ∈ o.after, Region.binds .any e = true → e.on < ops.size ∧ G e.on w' (vs e.on) := by
        intro e he hbn
        have h := hdep e he
        rw [hbn] at h
        simp only [Bool.not_true, Bool.false_or] at h
        have hin : e.on < listed.size := by
          rcases Nat.lt_or_ge e.on listed.size with h' | h'
          · exact h'
          · simp [Array.getD_eq_getD_getElem?, Array.getElem?_eq_none_iff.2 h'] at h
        refine ⟨by omega, hG e.on (by omega) ?_⟩
        simp only [Array.getD_eq_getD_getElem?, Array.getElem?_eq_getElem hin, Option.getD_some] at h ⊢
        exact h
      have step : ∀ (v : Value) (w2 : World), Below w'.heap.size w' w2 → G i w2 v → wpAny P .any ops Q fuel (listed.setIfInBounds i true) ((putAll a ops.toList vs 0).put o.dst v) w2 := by
        intro v w2 hb2 hg
        rw [putAll_put ops.toList a vs 0 i o v hnd (by rw [Array.getElem?_toList]; exact ho), Nat.zero_add]
        refine ih _ _ _ (by simp [hsz]) (by have := unlisted_set hsz hlt hl'; omega) (hb.trans (hb2.mono hb.size)) (fun j hj hlj => ?_)
        by_cases hji : j = i
        · subst hji; simpa [upd] using hg
        · have : upd vs i v j = vs j := by simp [upd, hji]
          rw [this]
          refine hst j w' _ w2 (hG j hj ?_) hb2
          simp only [Array.getD_eq_getD_getElem?, Array.getElem?_setIfInBounds_ne (Ne.symm hji)] at hlj ⊢
          exact hlj
      have run : SoftOp P Q ops a w G i o → o.wp P (putAll a ops.toList vs 0) w' (wpAny P .any ops Q fuel (listed.setIfInBounds i true)) Q := by
        intro hsoft
        have hwp := hsoft (putAll a ops.toList vs 0) vs w' (fun t h => eval_putAll_out _ _ _ _ _ h) (fun t j ht h => eval_putAll_in _ _ _ _ _ _ hnd ht h) hb (fun e he hbn => (hdepG e he hbn).2)
        refine Oper.wp_mono ?_ hwp
        rintro a2 w2 ⟨v, rfl, hg, hb2⟩
        exact step v w2 hb2 hg
      unfold wpOp
      simp only [ho]
      unfold GdOp at hgop
      cases hgd : o.guard with
      | none =>
        rw [hgd] at hgop
        simp only [Region.wanted, hgd, if_true]
        exact .inl (run hgop)
      | some p =>
        obtain ⟨j, b⟩ := p
        rw [hgd] at hgop
        obtain ⟨⟨oj, d, hoj, hd, hdlt⟩, hany, hcase⟩ := hgop
        rw [Array.any_eq_true'] at hany
        obtain ⟨e, he, hej⟩ := hany
        rw [Bool.and_eq_true, beq_iff_eq] at hej
        obtain ⟨rfl, hbn⟩ := hej
        have hgj := (hdepG e he hbn).2
        have hix : slotIx ops.toList 0 d = some e.on := by
          have := slotIx_at ops.toList 0 e.on oj d hnd (by rw [Array.getElem?_toList]; exact hoj) hd
          simpa using this
        have hev := eval_putAll_in ops.toList a vs 0 d e.on hnd hdlt hix
        have hy : ∀ c, vs e.on = .bool c → yielded ops (putAll a ops.toList vs 0).tmps e.on = some c := by
          intro c hc
          have h1 : (putAll a ops.toList vs 0).tmps.getD d undef = .bool c := by
            have h2 : (putAll a ops.toList vs 0).eval (.tmp d) = (putAll a ops.toList vs 0).tmps.getD d undef := rfl
            rw [← h2, hev]; exact hc
          rw [Array.getD_eq_getD_getElem?] at h1
          cases hx : (putAll a ops.toList vs 0).tmps[d]? with
          | none => rw [hx] at h1; exact absurd h1 (by simp [undef])
          | some u =>
            rw [hx] at h1
            simp only [Option.getD_some] at h1
            simp [yielded, hoj, hd, hx, h1]
        rcases hcase with ⟨hv, hsoft⟩ | ⟨hv, hun⟩
        · have hyes := hy b (hv _ _ hgj)
          simp only [Region.wanted, hgd, hyes, beq_self_eq_true, if_true]
          exact .inl (run hsoft)
        · have hw0 : Region.wanted o (yielded ops (putAll a ops.toList vs 0).tmps) = false := by
            rcases hv _ _ hgj with hv | hv
            · simp only [Region.wanted, hgd, hy (!b) hv]; cases b <;> rfl
            · have h1 : (putAll a ops.toList vs 0).tmps.getD d undef = undef := by
                have h2 : (putAll a ops.toList vs 0).eval (.tmp d) = (putAll a ops.toList vs 0).tmps.getD d undef := rfl
                rw [← h2, hev]; exact hv
              have h3 : yielded ops (putAll a ops.toList vs 0).tmps e.on = none := by
                rw [Array.getD_eq_getD_getElem?] at h1
                cases hx : (putAll a ops.toList vs 0).tmps[d]? with
                | none => simp [yielded, hoj, hd, hx]
                | some u =>
                  rw [hx] at h1
                  simp only [Option.getD_some] at h1
                  subst h1
                  simp [yielded, hoj, hd, hx, undef]
              simp only [Region.wanted, hgd, h3]; cases b <;> rfl
          simp only [hw0]
          exact step undef w' (Below.refl _ _) (hun w')
  have h0 := main ops.size (Array.replicate ops.size false) (fun i => ((ops[i]?).bind (·.dst)).elim undef (fun d => a.tmps.getD d undef)) { w with drawn := w.drawn + 1 } (by simp)
    (by have := List.length_filter_le (fun i => !(Array.replicate ops.size false).getD i true) (List.range ops.size); simpa [unlisted] using this) ⟨rfl, rfl, rfl, Nat.le_refl _, fun _ _ => rfl⟩
    (fun i hi h => by simp [Array.getD_eq_getD_getElem?, hi] at h)
  rw [putAll_orig ops.toList a _ 0 (fun j o d hj hd => by
    rw [Array.getElem?_toList] at hj
    simp [hj, hd])] at h0
  exact h0

theorem wp_region_gsg {id : Nat} {ops : Array Oper} {a : Act} {w : World} (hm : P.follows .mixedOrders = true) (hs : gdB ops = true) (Gs : List SG)
    (hop : GdAll P Q ops a w (fun i => (Gs.getD i sgAny).1) 0 ops.toList)
    (hend : ∀ (vs : Nat → Value) (w' : World), Below w.heap.size w w' → (∀ i, i < ops.size → (Gs.getD i sgAny).1 w' (vs i)) → Q .normal (putAll a ops.toList vs 0) w') : (Code.region id ops true).wp P Q a w :=
  wp_region_gd hm hs (fun i => (Gs.getD i sgAny).1) (fun i => (Gs.getD i sgAny).2) hop hend

theorem putAll_size : ∀ (l : List Oper) (a : Act) (vs : Nat → Value) (k : Nat), (putAll a l vs k).tmps.size = a.tmps.size
  | [], _, _, _ => rfl
  | o :: rest, a, vs, k => by simp only [putAll]; rw [putAll_size rest, size_put]
theorem defers_put (a : Act) (d : Option Tmp) (v : Value) : (a.put d v).defers = a.defers := by cases d <;> rfl
theorem putAll_defers : ∀ (l : List Oper) (a : Act) (vs : Nat → Value) (k : Nat), (putAll a l vs k).defers = a.defers
  | [], _, _, _ => rfl
  | o :: rest, a, vs, k => by simp only [putAll]; rw [putAll_defers rest, defers_put]

/-- The frame behind a region: each slot that it wrote holds what its operation left, each other one what it held. -/
def Behind (ops : List Oper) (a : Act) (vs : Nat → Value) (A : Act) : Prop :=
  A.defers = a.defers ∧ A.tmps.size = a.tmps.size ∧ (∀ t, slotIx ops 0 t = none → A.eval (.tmp t) = a.eval (.tmp t)) ∧ (∀ t j, t < a.tmps.size → slotIx ops 0 t = some j → A.eval (.tmp t) = vs j)
theorem wp_region_gsa {id : Nat} {ops : Array Oper} {a : Act} {w : World} (hm : P.follows .mixedOrders = true) (hs : gdB ops = true) (Gs : List SG)
    (hop : GdAll P Q ops a w (fun i => (Gs.getD i sgAny).1) 0 ops.toList)
    (hend : ∀ (A : Act) (vs : Nat → Value) (w' : World), Behind ops.toList a vs A → Below w.heap.size w w' → (∀ i, i < ops.size → (Gs.getD i sgAny).1 w' (vs i)) → Q .normal A w') : (Code.region id ops true).wp P Q a w := by
  have hnd : (ops.toList.filterMap (·.dst)).Nodup := by simp only [gdB, slotsB, Bool.and_eq_true, decide_eq_true_eq] at hs; exact hs.2
  exact wp_region_gsg hm hs Gs hop fun vs w' hb hG => hend _ vs w' ⟨putAll_defers _ _ _ _, putAll_size _ _ _ _, fun t h => eval_putAll_out _ _ _ _ _ h, fun t j ht h => eval_putAll_in _ _ _ _ _ _ hnd ht h⟩ hb hG
end
end Go.Proofs.Ytemdcpajcaaphaa
