/-
  A REGION THAT DRAWS ITS ORDER, OF WHOSE OPERATIONS ONE WRITES, AND OTHERS, WHICH THAT ONE HANGS ON, READ WHAT IT WRITES: these come ahead of it, whatever order is drawn. Over whatever program; no condition beyond each theorem's own.
-/
import Derived.RangeFuncBox
import Derived.IntWalk
import Derived.Test.YtemdcpajcaaphaaLink
namespace Go.Proofs.Ytemdcpajcaaphaa
open Go.RowKit
/-- Each of these operations is one that a later one of them, or the m-th, hangs on. -/
def preB (ops : Array Oper) (m : Nat) (pre : Nat → Bool) : Bool :=
  (List.range ops.size).all fun i => !pre i || (decide (m < ops.size) && (List.range ops.size).any fun j => decide (i < j) && (j == m || pre j) && (ops[j]?).any fun o => o.after.any fun e => e.on == i && Region.binds .any e)
theorem preB_get {ops : Array Oper} {m : Nat} {pre : Nat → Bool} (h : preB ops m pre = true) {i : Nat} (hi : i < ops.size) (hp : pre i = true) :
    m < ops.size ∧ ∃ j o, i < j ∧ j < ops.size ∧ (j = m ∨ pre j = true) ∧ ops[j]? = some o ∧ ∃ e ∈ o.after, e.on = i ∧ Region.binds .any e = true := by
  simp only [preB, List.all_eq_true, List.mem_range] at h
  have h1 := h i hi
  simp only [hp, Bool.not_true, Bool.false_or, Bool.and_eq_true, decide_eq_true_eq, List.any_eq_true, List.mem_range, Bool.or_eq_true, beq_iff_eq] at h1
  obtain ⟨hm, j, hj, ⟨hij, hjm⟩, ho⟩ := h1
  cases hoj : ops[j]? with
  | none => rw [hoj] at ho; simp at ho
  | some o =>
    rw [hoj] at ho
    simp only [Option.any_some, Array.any_eq_true', Bool.and_eq_true, beq_iff_eq] at ho
    exact ⟨hm, j, o, hij, hj, hjm, hoj, ho⟩
theorem preB_lt {ops : Array Oper} {m : Nat} {pre : Nat → Bool} (h : preB ops m pre = true) {i : Nat} (hi : i < ops.size) (hp : pre i = true) : m < ops.size := (preB_get h hi hp).1
theorem pre_listed {ops : Array Oper} {m : Nat} {pre : Nat → Bool} {listed : Array Bool} (h : preB ops m pre = true)
    (hcl : ∀ j o, ops[j]? = some o → listed.getD j true = true → ∀ e ∈ o.after, Region.binds .any e = true → listed.getD e.on true = true) (hm : listed.getD m true = true) : ∀ i, i < ops.size → pre i = true → listed.getD i true = true := by
  have key : ∀ (d i : Nat), ops.size - i ≤ d → i < ops.size → pre i = true → listed.getD i true = true := by
    intro d
    induction d with
    | zero => intro i hd hi _; omega
    | succ d ih =>
      intro i hd hi hp
      obtain ⟨_, j, o, hij, hj, hjm, hoj, e, he, rfl, hbn⟩ := preB_get h hi hp
      refine hcl j o hoj ?_ e he hbn
      rcases hjm with rfl | hpj
      · exact hm
      · exact ih j (by omega) hj hpj
  exact fun i hi hp => key _ i (Nat.le_refl _) hi hp
/-- Each of these operations hangs on the m-th, or on an earlier one of them. -/
def postB (ops : Array Oper) (m : Nat) (post : Nat → Bool) : Bool :=
  (List.range ops.size).all fun i => !post i || (ops[i]?).any fun o => o.after.any fun e => Region.binds .any e && (e.on == m || (decide (e.on < i) && post e.on))
theorem post_listed {ops : Array Oper} {m : Nat} {post : Nat → Bool} {listed : Array Bool} (h : postB ops m post = true)
    (hcl : ∀ j o, ops[j]? = some o → listed.getD j true = true → ∀ e ∈ o.after, Region.binds .any e = true → listed.getD e.on true = true) : ∀ i, i < ops.size → post i = true → listed.getD i true = true → listed.getD m true = true := by
  intro i
  induction i using Nat.strongRecOn with
  | ind i ih =>
    intro hi hp hl
    simp only [postB, List.all_eq_true, List.mem_range] at h
    have h1 := h i hi
    simp only [hp, Bool.not_true, Bool.false_or] at h1
    cases ho : ops[i]? with
    | none => rw [ho] at h1; simp at h1
    | some o =>
      rw [ho] at h1
      simp only [Option.any_some, Array.any_eq_true', Bool.and_eq_true, Bool.or_eq_true, beq_iff_eq, decide_eq_true_eq] at h1
      obtain ⟨e, he, hbn, hm | ⟨hlt, hpe⟩⟩ := h1
      · rw [← hm]; exact hcl i o ho hl e he hbn
      · exact ih e.on hlt (by omega) hpe (hcl i o ho hl e he hbn)
theorem post_none (ops : Array Oper) (m : Nat) : postB ops m (fun _ => false) = true := by simp [postB]
section
variable {P : Program} {Q : Exit → Act → World → Prop}
/-- One operation, whatever order was drawn. -/
def SoftOpM (P : Program) (Q : Exit → Act → World → Prop) (ops : Array Oper) (a : Act) (K : Nat → World → World → Prop) (R R0 : World → Prop) (m : Nat) (pre post drop : Nat → Bool) (G : (Nat → Value) → Nat → World → Value → Prop) (i : Nat) (o : Oper) : Prop :=
  ∀ (A : Act) (vs : Nat → Value) (w' : World), (∀ t, slotIx ops.toList 0 t = none → A.eval (.tmp t) = a.eval (.tmp t)) → (∀ t j, t < a.tmps.size → slotIx ops.toList 0 t = some j → A.eval (.tmp t) = vs j) → R w' → (pre i = true ∨ i = m → R0 w') → (pre i = true ∨ i = m → ∀ j d, post j = true → (ops[j]?).bind (·.dst) = some d → vs j = a.eval (.tmp d)) →
    (∀ e ∈ o.after, (Region.binds .any e && (pre i || i == m || !drop e.on)) = true → G vs e.on w' (vs e.on)) → o.wp P A w' (fun a2 w2 => ∃ v, a2 = A.put o.dst v ∧ G vs i w2 v ∧ K i w' w2) Q
/-- One operation: carried out, or left out, for sure. -/
def GdOpM (P : Program) (Q : Exit → Act → World → Prop) (ops : Array Oper) (a : Act) (K : Nat → World → World → Prop) (R R0 : World → Prop) (m : Nat) (pre post drop : Nat → Bool) (G : (Nat → Value) → Nat → World → Value → Prop) (i : Nat) (o : Oper) : Prop :=
  match o.guard with
  | none => SoftOpM P Q ops a K R R0 m pre post drop G i o
  | some (j, b) => (∃ oj d, ops[j]? = some oj ∧ oj.dst = some d ∧ d < a.tmps.size) ∧ (o.after.any fun e => e.on == j && (Region.binds .any e && !drop e.on)) = true ∧
      (((∀ vs w v, G vs j w v → v = .bool b) ∧ SoftOpM P Q ops a K R R0 m pre post drop G i o) ∨ ((∀ vs w v, G vs j w v → v = .bool (!b) ∨ v = undef) ∧ ∀ vs w, G vs i w undef))

theorem GdOpM.plain {ops : Array Oper} {a : Act} {K : Nat → World → World → Prop} {R R0 : World → Prop} {m : Nat} {pre post drop : Nat → Bool} {G : (Nat → Value) → Nat → World → Value → Prop} {i : Nat} {o : Oper} (h : o.guard = none) (h2 : SoftOpM P Q ops a K R R0 m pre post drop G i o) : GdOpM P Q ops a K R R0 m pre post drop G i o := by
  unfold GdOpM; rw [h]; exact h2
theorem GdOpM.taken {ops : Array Oper} {a : Act} {K : Nat → World → World → Prop} {R R0 : World → Prop} {m : Nat} {pre post drop : Nat → Bool} {G : (Nat → Value) → Nat → World → Value → Prop} {i : Nat} {o : Oper} {j : Nat} {b : Bool} (h : o.guard = some (j, b)) (h1 : ∃ oj d, ops[j]? = some oj ∧ oj.dst = some d ∧ d < a.tmps.size)
    (h2 : (o.after.any fun e => e.on == j && (Region.binds .any e && !drop e.on)) = true) (h3 : ∀ vs w v, G vs j w v → v = .bool b) (h4 : SoftOpM P Q ops a K R R0 m pre post drop G i o) : GdOpM P Q ops a K R R0 m pre post drop G i o := by
  unfold GdOpM; rw [h]; exact ⟨h1, h2, .inl ⟨h3, h4⟩⟩
theorem GdOpM.left {ops : Array Oper} {a : Act} {K : Nat → World → World → Prop} {R R0 : World → Prop} {m : Nat} {pre post drop : Nat → Bool} {G : (Nat → Value) → Nat → World → Value → Prop} {i : Nat} {o : Oper} {j : Nat} {b : Bool} (h : o.guard = some (j, b)) (h1 : ∃ oj d, ops[j]? = some oj ∧ oj.dst = some d ∧ d < a.tmps.size)
    (h2 : (o.after.any fun e => e.on == j && (Region.binds .any e && !drop e.on)) = true) (h3 : ∀ vs w v, G vs j w v → v = .bool (!b) ∨ v = undef) (h4 : ∀ vs w, G vs i w undef) : GdOpM P Q ops a K R R0 m pre post drop G i o := by
  unfold GdOpM; rw [h]; exact ⟨h1, h2, .inr ⟨h3, h4⟩⟩

def GdAllM (P : Program) (Q : Exit → Act → World → Prop) (ops : Array Oper) (a : Act) (K : Nat → World → World → Prop) (R R0 : World → Prop) (m : Nat) (pre post drop : Nat → Bool) (G : (Nat → Value) → Nat → World → Value → Prop) : Nat → List Oper → Prop
  | _, [] => True
  | i, o :: rest => GdOpM P Q ops a K R R0 m pre post drop G i o ∧ GdAllM P Q ops a K R R0 m pre post drop G (i + 1) rest

theorem GdAllM.get {ops : Array Oper} {a : Act} {K : Nat → World → World → Prop} {R R0 : World → Prop} {m : Nat} {pre post drop : Nat → Bool} {G : (Nat → Value) → Nat → World → Value → Prop} : ∀ (l : List Oper) (k j : Nat) (o : Oper), GdAllM P Q ops a K R R0 m pre post drop G k l → l[j]? = some o → GdOpM P Q ops a K R R0 m pre post drop G (k + j) o
  | [], _, _, _, _, h => by simp at h
  | o' :: rest, k, 0, o, h, hj => by obtain rfl : o' = o := by simpa using hj
                                     exact h.1
  | o' :: rest, k, j + 1, o, h, hj => by rw [show k + (j + 1) = k + 1 + j by omega]; exact GdAllM.get rest (k + 1) j o h.2 (by simpa using hj)

theorem wp_region_m {id : Nat} {ops : Array Oper} {a : Act} {w : World} (hm : P.follows .mixedOrders = true) (hs : gdB ops = true) (K : Nat → World → World → Prop) (R R0 : World → Prop) (m : Nat) (pre post drop : Nat → Bool) (G : (Nat → Value) → Nat → World → Value → Prop)
    (hpre : preB ops m pre = true) (hKr : ∀ i w, K i w w) (hR0 : R { w with drawn := w.drawn + 1 }) (hR00 : R0 { w with drawn := w.drawn + 1 }) (hRs : ∀ i A B, R A → K i A B → R B) (hR0s : ∀ i A B, i ≠ m → R0 A → K i A B → R0 B) (hpost : postB ops m post = true) (hst : ∀ vs i j w v w', i ≠ j → (j = m → post i = false ∧ drop i = false) → G vs i w v → K j w w' → G vs i w' v)
    (hlnk : ∀ (vs us : Nat → Value) i w v, (∀ o, ops[i]? = some o → ∀ e ∈ o.after, Region.binds .any e = true → vs e.on = us e.on) → G vs i w v → G us i w v) (hop : GdAllM P Q ops a K R R0 m pre post drop G 0 ops.toList)
    (hend : ∀ (vs : Nat → Value) (w' : World), R w' → (∀ i, i < ops.size → drop i = false → G vs i w' (vs i)) → Q .normal (putAll a ops.toList vs 0) w') : (Code.region id ops true).wp P Q a w := by
  refine wp_region_any hm ?_
  have hnd : (ops.toList.filterMap (·.dst)).Nodup := by simp only [gdB, slotsB, Bool.and_eq_true, decide_eq_true_eq] at hs; exact hs.2
  have main : ∀ (fuel : Nat) (listed : Array Bool) (vs : Nat → Value) (w' : World), listed.size = ops.size → (unlisted ops.size listed).length ≤ fuel → R w' →
      (∀ i, i < ops.size → listed.getD i true = true → (drop i = true → listed.getD m true = false) → G vs i w' (vs i)) → (∀ i o, ops[i]? = some o → listed.getD i true = true → ∀ e ∈ o.after, Region.binds .any e = true → e.on < ops.size ∧ listed.getD e.on true = true) → (m < ops.size → listed.getD m true = false → R0 w') → (∀ j, j < ops.size → listed.getD j true = false → ∀ d, (ops[j]?).bind (·.dst) = some d → vs j = a.eval (.tmp d)) → wpAny P .any ops Q fuel listed (putAll a ops.toList vs 0) w' := by
    intro fuel
    induction fuel with
    | zero =>
      intro listed vs w' hsz hu hb hG hcl hR0m hun
      have hall : ∀ i, i < ops.size → listed.getD i true = true := by
        intro i hi
        cases hl : listed.getD i true with
        | true => rfl
        | false =>
          have : i ∈ unlisted ops.size listed := List.mem_filter.2 ⟨List.mem_range.2 hi, by simp [hl]⟩
          rw [List.eq_nil_of_length_eq_zero (Nat.le_zero.1 hu)] at this
          cases this
      refine ⟨?_, hend vs w' hb (fun i hi hdi => hG i hi (hall i hi) (fun h => by rw [hdi] at h; cases h))⟩
      unfold Region.ready
      rw [List.filter_eq_nil_iff]
      intro i hi
      simp [hall i (List.mem_range.1 hi)]
    | succ fuel ih =>
      intro listed vs w' hsz hu hb hG hcl hR0m hun
      refine ⟨fun hr => hend vs w' hb (fun i hi hdi => hG i hi (all_listed_gd hs hr i hi) (fun h => by rw [hdi] at h; cases h)), fun i hi => ?_⟩
      unfold Region.ready at hi
      obtain ⟨hi1, hi2⟩ := List.mem_filter.1 hi
      have hlt := List.mem_range.1 hi1
      rw [Bool.and_eq_true] at hi2
      obtain ⟨hl, hdep⟩ := hi2
      have hl' : listed.getD i true = false := by simpa using hl
      obtain ⟨o, ho⟩ : ∃ o, ops[i]? = some o := ⟨_, Array.getElem?_eq_getElem hlt⟩
      rw [ho] at hdep
      simp only [Option.map_some, Option.getD_some] at hdep
      rw [Array.all_eq_true'] at hdep
      have hgop := GdAllM.get ops.toList 0 i o hop (by rw [Array.getElem?_toList]; exact ho)
      rw [Nat.zero_add] at hgop
      have hdepG : ∀ e ∈ o.after, Region.binds .any e = true → e.on < ops.size ∧ listed.getD e.on true = true ∧ ((pre i = true ∨ i = m ∨ drop e.on = false) → G vs e.on w' (vs e.on)) := by
        intro e he hbn
        have h := hdep e he
        rw [hbn] at h
        simp only [Bool.not_true, Bool.false_or] at h
        have hin : e.on < listed.size := by
          rcases Nat.lt_or_ge e.on listed.size with h' | h'
          · exact h'
          · simp [Array.getD_eq_getD_getElem?, Array.getElem?_eq_none_iff.2 h'] at h
        have hl2 : listed.getD e.on true = true := by
          simp only [Array.getD_eq_getD_getElem?, Array.getElem?_eq_getElem hin, Option.getD_some] at h ⊢
          exact h
        refine ⟨by omega, hl2, fun hpm => hG e.on (by omega) hl2 (fun hde => ?_)⟩
        cases hlm : listed.getD m true with
        | false => rfl
        | true =>
          rcases hpm with h3 | rfl | h3
          · have := pre_listed hpre (fun j oj hoj hlj e he hbn => (hcl j oj hoj hlj e he hbn).2) hlm i hlt h3
            rw [hl'] at this
            cases this
          · rw [hl'] at hlm; cases hlm
          · rw [hde] at h3; cases h3
      have hR0i : pre i = true ∨ i = m → R0 w' := by
        rintro (h | rfl)
        · refine hR0m (preB_lt hpre hlt h) ?_
          cases hlm : listed.getD m true with
          | false => rfl
          | true =>
            have := pre_listed hpre (fun j oj hoj hlj e he hbn => (hcl j oj hoj hlj e he hbn).2) hlm i hlt h
            rw [hl'] at this
            cases this
        · exact hR0m hlt hl'
      have hUi : pre i = true ∨ i = m → ∀ j d, post j = true → (ops[j]?).bind (·.dst) = some d → vs j = a.eval (.tmp d) := by
        intro h j d hpj hd
        have hjs : j < ops.size := by
          rcases Nat.lt_or_ge j ops.size with h' | h'
          · exact h'
          · rw [Array.getElem?_eq_none_iff.2 h'] at hd; cases hd
        refine hun j hjs ?_ d hd
        cases hlj : listed.getD j true with
        | false => rfl
        | true =>
          have hml := post_listed hpost (fun j2 oj hoj hlj2 e he hbn => (hcl j2 oj hoj hlj2 e he hbn).2) j hjs hpj hlj
          rcases h with h | rfl
          · have := pre_listed hpre (fun j oj hoj hlj e he hbn => (hcl j oj hoj hlj e he hbn).2) hml i hlt h
            rw [hl'] at this
            cases this
          · rw [hl'] at hml; cases hml
      have step : ∀ (v : Value) (w2 : World), K i w' w2 → G vs i w2 v → wpAny P .any ops Q fuel (listed.setIfInBounds i true) ((putAll a ops.toList vs 0).put o.dst v) w2 := by
        intro v w2 hb2 hg
        rw [putAll_put ops.toList a vs 0 i o v hnd (by rw [Array.getElem?_toList]; exact ho), Nat.zero_add]
        have hne : ∀ e : Edge, listed.getD e.on true = true → e.on ≠ i := fun e h e2 => by rw [e2, hl'] at h; cases h
        have hkeep : ∀ j, listed.getD j true = true → (listed.setIfInBounds i true).getD j true = true := fun j h => by
          by_cases hji : j = i
          · subst hji; rw [hl'] at h; cases h
          · simp only [Array.getD_eq_getD_getElem?, Array.getElem?_setIfInBounds_ne (Ne.symm hji)] at h ⊢; exact h
        have hback : ∀ j, j ≠ i → (listed.setIfInBounds i true).getD j true = true → listed.getD j true = true := fun j hji h => by
          simp only [Array.getD_eq_getD_getElem?, Array.getElem?_setIfInBounds_ne (Ne.symm hji)] at h ⊢; exact h
        refine ih _ _ _ (by simp [hsz]) (by have := unlisted_set hsz hlt hl'; omega) (hRs i _ _ hb hb2) (fun j hj hlj hdj => ?_) (fun j oj hoj hlj e he hbn => ?_) (fun hm1 hm2 => ?_) (fun j hj hlj d hd => ?_)
        · by_cases hji : j = i
          · subst hji
            refine hlnk vs _ j w2 _ (fun o2 ho2 e he hbn => ?_) (by simpa [upd] using hg)
            obtain rfl : o = o2 := by rw [ho] at ho2; injection ho2
            have := hne e (hdepG e he hbn).2.1
            simp [upd, this]
          · have hlj' := hback j hji hlj
            have hv : upd vs i v j = vs j := by simp [upd, hji]
            rw [hv]
            refine hlnk vs _ j w2 _ (fun o2 ho2 e he hbn => ?_) (hst vs j i w' _ w2 hji (fun him => ?_) (hG j hj hlj' (fun hdt => ?_)) hb2)
            rotate_left
            · constructor
              · cases hpj : post j with
                | false => rfl
                | true =>
                  have := post_listed hpost (fun j2 oj hoj hlj2 e he hbn => (hcl j2 oj hoj hlj2 e he hbn).2) j hj hpj hlj'
                  rw [← him, hl'] at this
                  cases this
              · cases hdr : drop j with
                | false => rfl
                | true =>
                  have := hdj hdr
                  rw [← him] at this
                  simp only [Array.getD_eq_getD_getElem?, Array.getElem?_setIfInBounds_self_of_lt (by omega : i < listed.size)] at this
                  cases this
            · have := hdj hdt
              by_cases him : i = m
              · rw [← him]; exact hl'
              · simp only [Array.getD_eq_getD_getElem?, Array.getElem?_setIfInBounds_ne him] at this ⊢
                exact this
            have := hne e (hcl j o2 ho2 hlj' e he hbn).2
            simp [upd, this]
        · by_cases hji : j = i
          · subst hji
            obtain rfl : o = oj := by rw [ho] at hoj; injection hoj
            exact ⟨(hdepG e he hbn).1, hkeep _ (hdepG e he hbn).2.1⟩
          · have := hcl j oj hoj (hback j hji hlj) e he hbn
            exact ⟨this.1, hkeep _ this.2⟩
        · have him : i ≠ m := by
            intro e
            subst e
            simp only [Array.getD_eq_getD_getElem?, Array.getElem?_setIfInBounds_self_of_lt (by omega : i < listed.size)] at hm2
            cases hm2
          refine hR0s i _ _ him (hR0m hm1 ?_) hb2
          simp only [Array.getD_eq_getD_getElem?, Array.getElem?_setIfInBounds_ne him] at hm2 ⊢
          exact hm2
        · have hji : j ≠ i := by
            intro e
            subst e
            simp only [Array.getD_eq_getD_getElem?, Array.getElem?_setIfInBounds_self_of_lt (by omega : j < listed.size)] at hlj
            cases hlj
          rw [show upd vs i v j = vs j by simp [upd, hji]]
          refine hun j hj ?_ d hd
          simp only [Array.getD_eq_getD_getElem?, Array.getElem?_setIfInBounds_ne (Ne.symm hji)] at hlj ⊢
          exact hlj
      have run : SoftOpM P Q ops a K R R0 m pre post drop G i o → o.wp P (putAll a ops.toList vs 0) w' (wpAny P .any ops Q fuel (listed.setIfInBounds i true)) Q := by
        intro hsoft
        have hwp := hsoft (putAll a ops.toList vs 0) vs w' (fun t h => eval_putAll_out _ _ _ _ _ h) (fun t j ht h => eval_putAll_in _ _ _ _ _ _ hnd ht h) hb hR0i hUi (fun e he hbn => by
          simp only [Bool.and_eq_true, Bool.or_eq_true, beq_iff_eq, Bool.not_eq_true'] at hbn
          exact (hdepG e he hbn.1).2.2 (hbn.2.elim (fun h => h.elim .inl (fun h => .inr (.inl h))) (fun h => .inr (.inr h))))
        refine Oper.wp_mono ?_ hwp
        rintro a2 w2 ⟨v, rfl, hg, hb2⟩
        exact step v w2 hb2 hg
      unfold wpOp
      simp only [ho]
      unfold GdOpM at hgop
      cases hgd : o.guard with
      | none =>
        rw [hgd] at hgop
        simp only [Region.wanted, hgd, if_true]
        exact .inl (run hgop)
      | some p =>
        obtain ⟨j, b⟩ := p
        rw [hgd] at hgop
        obtain ⟨⟨oj, d, hoj, hd, hdlt⟩, hany, hcase⟩ := hgop
        rw [Array.any_eq_true'] at hany
        obtain ⟨e, he, hej⟩ := hany
        simp only [Bool.and_eq_true, beq_iff_eq, Bool.not_eq_true'] at hej
        obtain ⟨rfl, hbn, hde⟩ := hej
        have hgj := (hdepG e he hbn).2.2 (.inr (.inr hde))
        have hix : slotIx ops.toList 0 d = some e.on := by
          have := slotIx_at ops.toList 0 e.on oj d hnd (by rw [Array.getElem?_toList]; exact hoj) hd
          simpa using this
        have hev := eval_putAll_in ops.toList a vs 0 d e.on hnd hdlt hix
        have hy : ∀ c, vs e.on = .bool c → yielded ops (putAll a ops.toList vs 0).tmps e.on = some c := by
          intro c hc
          have h1 : (putAll a ops.toList vs 0).tmps.getD d undef = .bool c := by
            have h2 : (putAll a ops.toList vs 0).eval (.tmp d) = (putAll a ops.toList vs 0).tmps.getD d undef := rfl
            rw [← h2, hev]; exact hc
          rw [Array.getD_eq_getD_getElem?] at h1
          cases hx : (putAll a ops.toList vs 0).tmps[d]? with
          | none => rw [hx] at h1; exact absurd h1 (by simp [undef])
          | some u =>
            rw [hx] at h1
            simp only [Option.getD_some] at h1
            simp [yielded, hoj, hd, hx, h1]
        rcases hcase with ⟨hv, hsoft⟩ | ⟨hv, hun⟩
        · have hyes := hy b (hv _ _ _ hgj)
          simp only [Region.wanted, hgd, hyes, beq_self_eq_true, if_true]
          exact .inl (run hsoft)
        · have hw0 : Region.wanted o (yielded ops (putAll a ops.toList vs 0).tmps) = false := by
            rcases hv _ _ _ hgj with hv | hv
            · simp only [Region.wanted, hgd, hy (!b) hv]; cases b <;> rfl
            · have h1 : (putAll a ops.toList vs 0).tmps.getD d undef = undef := by
                have h2 : (putAll a ops.toList vs 0).eval (.tmp d) = (putAll a ops.toList vs 0).tmps.getD d undef := rfl
                rw [← h2, hev]; exact hv
              have h3 : yielded ops (putAll a ops.toList vs 0).tmps e.on = none := by
                rw [Array.getD_eq_getD_getElem?] at h1
                cases hx : (putAll a ops.toList vs 0).tmps[d]? with
                | none => simp [yielded, hoj, hd, hx]
                | some u =>
                  rw [hx] at h1
                  simp only [Option.getD_some] at h1
                  subst h1
                  simp [yielded, hoj, hd, hx, undef]
              simp only [Region.wanted, hgd, h3]; cases b <;> rfl
          simp only [hw0]
          exact step undef w' (hKr i w') (hun vs w')
  have h0 := main ops.size (Array.replicate ops.size false) (fun i => ((ops[i]?).bind (·.dst)).elim undef (fun d => a.tmps.getD d undef)) { w with drawn := w.drawn + 1 } (by simp)
    (by have := List.length_filter_le (fun i => !(Array.replicate ops.size false).getD i true) (List.range ops.size); simpa [unlisted] using this) hR0
    (fun i hi h => by simp [Array.getD_eq_getD_getElem?, hi] at h)
    (fun i o ho h => by
      have hi : i < ops.size := (Array.getElem?_eq_some_iff.1 ho).1
      simp [Array.getD_eq_getD_getElem?, hi] at h) (fun _ _ => hR00)
    (fun j hj _ d hd => by simp only [hd, Option.elim_some]; rfl)
  rw [putAll_orig ops.toList a _ 0 (fun j o d hj hd => by
    rw [Array.getElem?_toList] at hj
    simp [hj, hd])] at h0
  exact h0

end

/-- What stays so over new memory, and over what the writing operation does. -/
abbrev SGm (Km : World → World → Prop) := { G : World → Value → Prop // (∀ w v w', G w v → Below w.heap.size w w' → G w' v) ∧ (∀ w v w', G w v → Km w w' → G w' v) }
section
variable {Km : World → World → Prop}
def mEq (u : Value) : SGm Km := ⟨fun _ v => v = u, fun _ _ _ h _ => h, fun _ _ _ h _ => h⟩
def mAny : SGm Km := ⟨fun _ _ => True, fun _ _ _ h _ => h, fun _ _ _ h _ => h⟩
def mRd (hK : ∀ A B v xs, Rd A.heap.size A v xs → Km A B → Rd B.heap.size B v xs) (xs : List UInt8) : SGm Km := ⟨fun w v => ∃ ad k c, v = .slice ad k c ∧ Rd w.heap.size w (.slice ad k c) xs, fun _ _ _ ⟨ad, k, c, h, hr⟩ hb => ⟨ad, k, c, h, (hr.below hb).mono hb.size⟩, fun _ _ _ ⟨ad, k, c, h, hr⟩ hk => ⟨ad, k, c, h, hK _ _ _ _ hr hk⟩⟩
def km (Km : World → World → Prop) (m i : Nat) (A B : World) : Prop := if i = m then Km A B else Below A.heap.size A B
def gm (Gs : List (SGm Km)) (m : Nat) (Gm : SG) (_ : Nat → Value) (i : Nat) : World → Value → Prop := if i = m then Gm.1 else (Gs.getD i mAny).1
end
section
variable {P : Program} {Q : Exit → Act → World → Prop}
/-- A region that draws its order, of whose operations one, the m-th, writes (Km); those marked 'pre' come ahead of it. -/
theorem wp_region_sink {id : Nat} {ops : Array Oper} {a : Act} {w : World} (hm : P.follows .mixedOrders = true) (hs : gdB ops = true) (Km : World → World → Prop) (m : Nat) (pre : Nat → Bool) (hpre : preB ops m pre = true) (R : World → Prop) (hR : ∀ A, Below w.heap.size w A → R A)
    (hKr : ∀ w, Km w w) (hRb : ∀ A B, R A → Below A.heap.size A B → R B) (hRk : ∀ A B, R A → Km A B → R B) (Gs : List (SGm Km)) (Gm : SG)
    (hop : GdAllM P Q ops a (km Km m) R (Below w.heap.size w) m pre (fun _ => false) (fun _ => false) (gm Gs m Gm) 0 ops.toList)
    (hend : ∀ (vs : Nat → Value) (w' : World), R w' → (∀ i, i < ops.size → gm Gs m Gm vs i w' (vs i)) → Q .normal (putAll a ops.toList vs 0) w') : (Code.region id ops true).wp P Q a w := by
  refine wp_region_m hm hs (km Km m) R (Below w.heap.size w) m pre (fun _ => false) (fun _ => false) (gm Gs m Gm) hpre ?_ (hR _ ⟨rfl, rfl, rfl, Nat.le_refl _, fun _ _ => rfl⟩) ⟨rfl, rfl, rfl, Nat.le_refl _, fun _ _ => rfl⟩ ?_ ?_ (post_none _ _) ?_ ?_ hop (fun vs w' h1 h2 => hend vs w' h1 (fun i hi => h2 i hi rfl))
  · intro i w
    unfold km
    split
    · exact hKr w
    · exact Below.refl _ _
  · intro i A B h k
    unfold km at k
    split at k
    · exact hRk _ _ h k
    · exact hRb _ _ h k
  · intro i A B hi h k
    unfold km at k
    rw [if_neg hi] at k
    exact h.trans (k.mono h.size)
  · intro vs i j w v w' hij _ hG hK
    unfold km at hK
    unfold gm at hG ⊢
    split at hK
    · rename_i hj
      rw [if_neg (by omega)] at hG ⊢
      exact (Gs.getD i mAny).2.2 w v w' hG hK
    · split
      · rename_i hi
        rw [if_pos hi] at hG
        exact Gm.2 w v w' hG hK
      · rename_i hi
        rw [if_neg hi] at hG
        exact (Gs.getD i mAny).2.1 w v w' hG hK
  · intro vs us i w v _ hG
    exact hG
end
/-- As 'gm', but what those that hang on the m-th left need not stay so over what that does. -/
def gq {Km : World → World → Prop} (Gs : List (SGm Km)) (m : Nat) (Gm : SG) (post : Nat → Bool) (Gp : Nat → SG) (drop : Nat → Bool) (_ : Nat → Value) (i : Nat) : World → Value → Prop := if i = m then Gm.1 else if (post i || drop i) = true then (Gp i).1 else (Gs.getD i mAny).1
section
variable {P : Program} {Q : Exit → Act → World → Prop}
/-- A region that draws its order, of whose operations one, the m-th, writes (Km); those marked 'pre' come ahead of it, those marked 'post' behind it. -/
theorem wp_region_sink2 {id : Nat} {ops : Array Oper} {a : Act} {w : World} (hm : P.follows .mixedOrders = true) (hs : gdB ops = true) (Km : World → World → Prop) (m : Nat) (pre : Nat → Bool) (hpre : preB ops m pre = true) (post : Nat → Bool) (hpost : postB ops m post = true) (drop : Nat → Bool) (R : World → Prop) (hR : ∀ A, Below w.heap.size w A → R A)
    (hKr : ∀ w, Km w w) (hRb : ∀ A B, R A → Below A.heap.size A B → R B) (hRk : ∀ A B, R A → Km A B → R B) (Gs : List (SGm Km)) (Gm : SG) (Gp : Nat → SG)
    (hop : GdAllM P Q ops a (km Km m) R (Below w.heap.size w) m pre post drop (gq Gs m Gm post Gp drop) 0 ops.toList)
    (hend : ∀ (vs : Nat → Value) (w' : World), R w' → (∀ i, i < ops.size → drop i = false → gq Gs m Gm post Gp drop vs i w' (vs i)) → Q .normal (putAll a ops.toList vs 0) w') : (Code.region id ops true).wp P Q a w := by
  refine wp_region_m hm hs (km Km m) R (Below w.heap.size w) m pre post drop (gq Gs m Gm post Gp drop) hpre ?_ (hR _ ⟨rfl, rfl, rfl, Nat.le_refl _, fun _ _ => rfl⟩) ⟨rfl, rfl, rfl, Nat.le_refl _, fun _ _ => rfl⟩ ?_ ?_ hpost ?_ ?_ hop hend
  · intro i w
    unfold km
    split
    · exact hKr w
    · exact Below.refl _ _
  · intro i A B h k
    unfold km at k
    split at k
    · exact hRk _ _ h k
    · exact hRb _ _ h k
  · intro i A B hi h k
    unfold km at k
    rw [if_neg hi] at k
    exact h.trans (k.mono h.size)
  · intro vs i j w v w' hij hpo hG hK
    unfold km at hK
    unfold gq at hG ⊢
    split at hK
    · rename_i hj
      rw [if_neg (by omega), if_neg (by rw [(hpo hj).1, (hpo hj).2]; simp)] at hG ⊢
      exact (Gs.getD i mAny).2.2 w v w' hG hK
    · split
      · rename_i hi
        rw [if_pos hi] at hG
        exact Gm.2 w v w' hG hK
      · rename_i hi
        rw [if_neg hi] at hG
        split
        · rename_i hp
          rw [if_pos hp] at hG
          exact (Gp i).2 w v w' hG hK
        · rename_i hp
          rw [if_neg hp] at hG
          exact (Gs.getD i mAny).2.1 w v w' hG hK
  · intro vs us i w v _ hG
    exact hG
end
section
variable {P : Program} {o : Oper} {a : Act} {K : Act → World → Prop} {Q : Exit → Act → World → Prop} {w : World}
theorem wp_nilP {x : Operand} {p : Addr} (ho : o.op = .nilCheck x) (hx : a.eval x = .pointer (some p)) (h : K (a.put o.dst (.pointer (some p))) w) : o.wp P a w K Q := by
  refine wp_run ?_ h
  simp only [execOp, ho, hx]
  simp [go_sem]
/-- 'max(m, n)' of two whole numbers. -/
theorem wp_maxI {x y : Operand} {ts : Array TypeId} {m n k : Int} (ho : o.op = .call { callee := .builtin .max, args := #[x, y], argTypes := ts }) (hx : a.eval x = .int .i64 m) (hy : a.eval y = .int .i64 n) (hk : k = max m n)
    (h : K (a.put o.dst (.int .i64 k)) w) : o.wp P a w K Q := by
  have hrun : (Builtin.max_ ts o.type #[.int .i64 m, .int .i64 n]).run P w = .ok (.int .i64 k) w := by
    subst hk
    simp [Builtin.max_, Builtin.max2]
    omega
  refine wp_run ?_ h
  simp only [execOp, ho, resolve, invoke, builtin, Sem.run_bind, Sem.run_pure, Result.andThen_ok, List.map_toArray, List.map_cons, List.map_nil, hx, hy, hrun]
theorem wp_subI {t t2 : TypeId} {x y : Operand} {m n : Int} (ho : o.op = .binOp .sub t x y t2) (hx : a.eval x = .int .i64 m) (hy : a.eval y = .int .i64 n) (h0 : -9223372036854775808 ≤ m - n) (h1 : m - n ≤ 9223372036854775807) (h : K (a.put o.dst (.int .i64 (m - n))) w) : o.wp P a w K Q := by
  refine wp_run (v := .int .i64 (m - n)) ?_ h
  simp only [execOp, ho, hx, hy]
  simp [binOp, go_sem, IntWalk.i64_in _ ⟨h0, h1⟩]
end
section
variable {P : Program} {T E : TypeId} {o : Oper} {a : Act} {K : Act → World → Prop} {Q : Exit → Act → World → Prop} {w : World}
/-- 'x[:hi]' of whatever slice: the same block, fewer elements. -/
theorem wp_sliceHi {x hi : Operand} (hT : P.underlying T = some (.slice E)) (hsz : (P.info? E).isSome = true) (ho : o.op = .slice T x none (some hi) none) {ad : Option Addr} {n c k : Nat} {i : Int} (hx : a.eval x = .slice ad n c) (hh : a.eval hi = .int .i64 i)
    (h : K (a.put o.dst (.slice ad k c)) w) (hi' : i = (k : Int)) (hk : k ≤ c) : o.wp P a w K Q := by
  subst hi'
  obtain ⟨inf, hinf⟩ := Option.isSome_iff_exists.1 hsz
  have hrun : (Instr.sliceAt T (.slice ad n c) none (some (.int .i64 k)) none).run P w = .ok (.slice ad k c) w := by
    cases ad with
    | none => simp [Instr.sliceAt, Instr.slice, Instr.sliceBounds, Instr.sliceBound, asIntOf, run_underlying hT, sizeOf, typeInfo, hinf, hk]
    | some p => simp [Instr.sliceAt, Instr.slice, Instr.sliceBounds, Instr.sliceBound, asIntOf, run_underlying hT, sizeOf, typeInfo, hinf, hk, Addr.add]
  unfold Oper.wp execOp
  simp only [ho, hx, hh, Option.map_none, Option.map_some, Sem.run_bind, Sem.run_pure, Result.andThen_ok, hrun]
  exact h
end
/-- Nothing but one block, of what lay, has turned. -/
def GrK (g : Nat) (A B : World) : Prop := A.grownBy B (some g)
theorem grown_trans {A B C : World} {r : Option Nat} (h : A.grownBy B r) (k : B.grownBy C r) : A.grownBy C r :=
  ⟨k.os.trans h.os, k.tape.trans h.tape, k.output.trans h.output, Nat.le_trans h.size k.size, fun i hi hn => (k.block i (Nat.lt_of_lt_of_le hi h.size) hn).trans (h.block i hi hn)⟩
theorem grown_refl (A : World) (r : Option Nat) : A.grownBy A r := ⟨rfl, rfl, rfl, Nat.le_refl _, fun _ _ _ => rfl⟩
theorem grown_below' {A B : World} (h : Below A.heap.size A B) (r : Option Nat) : A.grownBy B r := ⟨h.os, h.tape, h.output, h.size, fun k hk _ => h.block k hk⟩
theorem grown_below2 {A B : World} {n : Nat} (h : Below n A B) (hn : n = A.heap.size) (r : Option Nat) : A.grownBy B r := by subst hn; exact grown_below' h r
/-- A variable of one cell, that is no byte. -/
theorem rd_core1 {B : Nat} {t : TypeId} {w w' : World} {v : Value} {xs : List UInt8} {g : Nat} {x : Value} (h : Rd B w v xs) (hB : B ≤ w.heap.size) (hg : w.grownBy w' (some g)) (hx : Boxed w g t x) (h1 : NotU8 x) : Rd B w' v xs := by
  rcases h with h | ⟨b, off, cap, hv, hb, h3, h4, hc⟩
  · exact .inl h
  by_cases h0 : xs = []
  · subst h0
    exact .inl ⟨_, _, hv, h4, rfl⟩
  have hpos : 0 < xs.length := List.length_pos_iff.2 h0
  have hne : some b ≠ some g := by
    intro e
    injection e with e
    subst e
    have hc0 := hc 0 (.int .u8 (xs[0].toNat : Int)) (by simp [bv, hpos])
    rw [World.cell?] at hc0
    simp only [show w.heap[b]? = _ from hx] at hc0
    rcases Nat.lt_or_ge (off + 0) 1 with ho | ho
    · rw [show off + 0 = 0 by omega] at hc0
      simp at hc0
      exact h1 _ hc0
    · rw [Array.getElem?_eq_none (by simpa using ho)] at hc0; cases hc0
  exact .inr ⟨b, off, cap, hv, hb, h3, h4, fun j u hj => by rw [← hc j u hj]; simp [World.cell?, hg.block b (by omega) hne]⟩
end Go.Proofs.Ytemdcpajcaaphaa
