/-
  TEXTS OF ONE PROOF, merged: Setr, Tab, Push, LkC, ModA, ModB.
-/
import Derived.ChangeArms
import Derived.LaidLaws
import Derived.MakeChecks
import Derived.Test.YtccoklhmbikfmaaDoorKb3
namespace Go.Proofs.YtccoklhmbikfmaaDoor
open Go.RowKit
section
variable {P : Program} {Q : Exit → Act → World → Prop}
def don (D : Nat → Bool) (i : Nat) : Nat → Bool := fun j => if j = i then true else D j
def told (S : List Nat) (D : Nat → Bool) (vs : Nat → Value) : List (Option Value) := S.map fun j => if D j then some (vs j) else none
def SetOp (P : Program) (Q : Exit → Act → World → Prop) (ops : Array Oper) (a : Act) (S : List Nat) (G : Nat → World → Value → Prop) (E : List (Option Value) → World → Prop) (K : World → World → Prop) (i : Nat) (o : Oper) : Prop :=
  ∀ (A : Act) (va : Nat → Value) (D : Nat → Bool) (w' : World), (∀ t, slotIx ops.toList 0 t = none → A.eval (.tmp t) = a.eval (.tmp t)) → (∀ t j, t < a.tmps.size → slotIx ops.toList 0 t = some j → A.eval (.tmp t) = va j) → D i = false → E (told S D va) w' →
    (∀ e ∈ o.after, Region.binds .any e = true → D e.on = true) → (∀ j d, D j = false → (ops[j]?).bind (·.dst) = some d → va j = a.eval (.tmp d)) → (∀ e ∈ o.after, Region.binds .any e = true → S.contains e.on = false → G e.on w' (va e.on)) →
    o.wp P A w' (fun a2 w2 => ∃ v, a2 = A.put o.dst v ∧ E (told S (don D i) (upd va i v)) w2 ∧ K w' w2) Q
def FreeOp (P : Program) (Q : Exit → Act → World → Prop) (ops : Array Oper) (a : Act) (S : List Nat) (G : Nat → World → Value → Prop) (E : List (Option Value) → World → Prop) (i : Nat) (o : Oper) : Prop :=
  ∀ (A : Act) (va : Nat → Value) (D : Nat → Bool) (w' : World), (∀ t, slotIx ops.toList 0 t = none → A.eval (.tmp t) = a.eval (.tmp t)) → (∀ t j, t < a.tmps.size → slotIx ops.toList 0 t = some j → A.eval (.tmp t) = va j) → D i = false → E (told S D va) w' →
    (∀ e ∈ o.after, Region.binds .any e = true → D e.on = true) → (∀ j d, D j = false → (ops[j]?).bind (·.dst) = some d → va j = a.eval (.tmp d)) → (∀ e ∈ o.after, Region.binds .any e = true → S.contains e.on = false → G e.on w' (va e.on)) →
    o.wp P A w' (fun a2 w2 => ∃ v, a2 = A.put o.dst v ∧ G i w2 v ∧ Below w'.heap.size w' w2) Q
def StOp (P : Program) (Q : Exit → Act → World → Prop) (ops : Array Oper) (a : Act) (S : List Nat) (G : Nat → World → Value → Prop) (E : List (Option Value) → World → Prop) (K : World → World → Prop) (i : Nat) (o : Oper) : Prop :=
  o.guard = none ∧ ((S.contains i = true ∧ SetOp P Q ops a S G E K i o) ∨ (S.contains i = false ∧ FreeOp P Q ops a S G E i o))
theorem StOp.set {ops : Array Oper} {a : Act} {S : List Nat} {G : Nat → World → Value → Prop} {E : List (Option Value) → World → Prop} {K : World → World → Prop} {i : Nat} {o : Oper} (hg : o.guard = none) (hp : S.contains i = true) (h : SetOp P Q ops a S G E K i o) : StOp P Q ops a S G E K i o := ⟨hg, .inl ⟨hp, h⟩⟩
theorem StOp.free {ops : Array Oper} {a : Act} {S : List Nat} {G : Nat → World → Value → Prop} {E : List (Option Value) → World → Prop} {K : World → World → Prop} {i : Nat} {o : Oper} (hg : o.guard = none) (hp : S.contains i = false) (h : FreeOp P Q ops a S G E i o) : StOp P Q ops a S G E K i o := ⟨hg, .inr ⟨hp, h⟩⟩
def StAll (P : Program) (Q : Exit → Act → World → Prop) (ops : Array Oper) (a : Act) (S : List Nat) (G : Nat → World → Value → Prop) (E : List (Option Value) → World → Prop) (K : World → World → Prop) : Nat → List Oper → Prop
  | _, [] => True
  | i, o :: rest => StOp P Q ops a S G E K i o ∧ StAll P Q ops a S G E K (i + 1) rest
theorem StAll.get {ops : Array Oper} {a : Act} {S : List Nat} {G : Nat → World → Value → Prop} {E : List (Option Value) → World → Prop} {K : World → World → Prop} : ∀ (l : List Oper) (k j : Nat) (o : Oper), StAll P Q ops a S G E K k l → l[j]? = some o → StOp P Q ops a S G E K (k + j) o
  | [], _, _, _, _, h => by simp at h
  | o' :: rest, k, 0, o, h, hj => by obtain rfl : o' = o := by simpa using hj
                                     exact h.1
  | o' :: rest, k, j + 1, o, h, hj => by rw [show k + (j + 1) = k + 1 + j by omega]; exact StAll.get rest (k + 1) j o h.2 (by simpa using hj)
theorem told_out {S : List Nat} {D : Nat → Bool} {vs : Nat → Value} {i : Nat} {v : Value} (h : i ∉ S) : told S (don D i) (upd vs i v) = told S D vs := by
  refine List.map_congr_left fun j hj => ?_
  have : j ≠ i := fun e => h (by rw [← e]; exact hj)
  simp [upd, don, this]
theorem anyS_set {ops : Array Oper} {a : Act} {w : World} (hs : gdB ops = true) (S : List Nat) (hS : (S.all fun c => decide (c < ops.size)) = true) (G : Nat → World → Value → Prop) (E : List (Option Value) → World → Prop) (K : World → World → Prop)
    (hG : ∀ i w v w', G i w v → Below w.heap.size w w' → G i w' v) (hK : ∀ i w v w', G i w v → K w w' → G i w' v) (hE : ∀ l w w', E l w → Below w.heap.size w w' → E l w') (h0 : E (S.map fun _ => none) w)
    (hop : StAll P Q ops a S G E K 0 ops.toList)
    (hend : ∀ (vs : Nat → Value) (w' : World), E (S.map fun j => some (vs j)) w' → (∀ i, i < ops.size → S.contains i = false → G i w' (vs i)) → Q .normal (putAll a ops.toList vs 0) w') : wpAnyS P ops Q ops.size (Array.replicate ops.size false) a { w with drawn := w.drawn + 1 } := by
  have hnd : (ops.toList.filterMap (·.dst)).Nodup := by simp only [gdB, slotsB, Bool.and_eq_true, decide_eq_true_eq] at hs; exact hs.2
  have hSl : ∀ c ∈ S, c < ops.size := fun c hc => by simpa using List.all_eq_true.1 hS c hc
  have main : ∀ (fuel : Nat) (listed : Array Bool) (vs : Nat → Value) (w' : World), listed.size = ops.size → (unlisted ops.size listed).length ≤ fuel → E (told S (fun j => listed.getD j true) vs) w' →
      (∀ i, i < ops.size → listed.getD i true = true → S.contains i = false → G i w' (vs i)) → (∀ j, j < ops.size → listed.getD j true = false → ∀ d, (ops[j]?).bind (·.dst) = some d → vs j = a.eval (.tmp d)) → wpAnyS P ops Q fuel listed (putAll a ops.toList vs 0) w' := by
    intro fuel
    have fin : ∀ (listed : Array Bool) (vs : Nat → Value) (w' : World), E (told S (fun j => listed.getD j true) vs) w' →
        (∀ i, i < ops.size → listed.getD i true = true → S.contains i = false → G i w' (vs i)) → (∀ i, i < ops.size → listed.getD i true = true) → Q .normal (putAll a ops.toList vs 0) w' := by
      intro listed vs w' hE' hG' hall
      refine hend vs w' ?_ fun i hi hc => hG' i hi (hall i hi) hc
      have : told S (fun j => listed.getD j true) vs = S.map fun j => some (vs j) := List.map_congr_left fun j hj => by simp [hall j (hSl j hj)]
      rw [← this]; exact hE'
    induction fuel with
    | zero =>
      intro listed vs w' hsz hu hE' hG' hun
      have hall : ∀ i, i < ops.size → listed.getD i true = true := by
        intro i hi
        cases hl : listed.getD i true with
        | true => rfl
        | false =>
          have : i ∈ unlisted ops.size listed := List.mem_filter.2 ⟨List.mem_range.2 hi, by simp [hl]⟩
          rw [List.eq_nil_of_length_eq_zero (Nat.le_zero.1 hu)] at this
          cases this
      refine ⟨?_, fin listed vs w' hE' hG' hall⟩
      unfold Region.ready
      rw [List.filter_eq_nil_iff]
      intro i hi
      simp [hall i (List.mem_range.1 hi)]
    | succ fuel ih =>
      intro listed vs w' hsz hu hE' hG' hun
      refine ⟨fun hr => fin listed vs w' hE' hG' (fun i hi => all_listed_gd hs hr i hi), fun i hi => ?_⟩
      unfold Region.ready at hi
      obtain ⟨hi1, hi2⟩ := List.mem_filter.1 hi
      have hlt := List.mem_range.1 hi1
      rw [Bool.and_eq_true] at hi2
      obtain ⟨hl, hdep⟩ := hi2
      have hl' : listed.getD i true = false := by simpa using hl
      obtain ⟨o, ho⟩ : ∃ o, ops[i]? = some o := ⟨_, Array.getElem?_eq_getElem hlt⟩
      rw [ho] at hdep
      simp only [Option.map_some, Option.getD_some] at hdep
      rw [Array.all_eq_true'] at hdep
      have hgop := StAll.get ops.toList 0 i o hop (by rw [Array.getElem?_toList]; exact ho)
      rw [Nat.zero_add] at hgop
      have hdepG : ∀ e ∈ o.after, Region.binds .any e = true → e.on < ops.size ∧ listed.getD e.on true = true := by
        intro e he hbn
        have h := hdep e he
        rw [hbn] at h
        simp only [Bool.not_true, Bool.false_or] at h
        have hin : e.on < listed.size := by
          rcases Nat.lt_or_ge e.on listed.size with h' | h'
          · exact h'
          · simp [Array.getD_eq_getD_getElem?, Array.getElem?_eq_none_iff.2 h'] at h
        have hl2 : listed.getD e.on true = true := by
          simp only [Array.getD_eq_getD_getElem?, Array.getElem?_eq_getElem hin, Option.getD_some] at h ⊢
          exact h
        exact ⟨by omega, hl2⟩
      have hdepS : ∀ e ∈ o.after, Region.binds .any e = true → S.contains e.on = false → G e.on w' (vs e.on) := fun e he hbn hc => hG' e.on (hdepG e he hbn).1 (hdepG e he hbn).2 hc
      have hdepD : ∀ e ∈ o.after, Region.binds .any e = true → (fun j => listed.getD j true) e.on = true := fun e he hbn => (hdepG e he hbn).2
      have hlate : ∀ j d, (fun j => listed.getD j true) j = false → (ops[j]?).bind (·.dst) = some d → vs j = a.eval (.tmp d) := by
        intro j d hj hd
        refine hun j ?_ hj d hd
        rcases Nat.lt_or_ge j ops.size with h | h
        · exact h
        · rw [Array.getElem?_eq_none h] at hd; simp at hd
      have hset : ∀ j, (listed.setIfInBounds i true).getD j true = don (fun j => listed.getD j true) i j := fun j => by
        by_cases hji : j = i
        · subst hji
          simp [don, Array.getD_eq_getD_getElem?, Array.getElem?_setIfInBounds_self_of_lt (by omega : j < listed.size)]
        · simp [don, hji, Array.getD_eq_getD_getElem?, Array.getElem?_setIfInBounds_ne (Ne.symm hji)]
      have step : ∀ (v : Value) (w2 : World), E (told S (don (fun j => listed.getD j true) i) (upd vs i v)) w2 → (S.contains i = false → G i w2 v) → (∀ j u, S.contains j = false → G j w' u → G j w2 u) → wpAnyS P ops Q fuel (listed.setIfInBounds i true) ((putAll a ops.toList vs 0).put o.dst v) w2 := by
        intro v w2 hE2 hGi hGs
        rw [putAll_put ops.toList a vs 0 i o v hnd (by rw [Array.getElem?_toList]; exact ho), Nat.zero_add]
        refine ih _ _ _ (by simp [hsz]) (by have := unlisted_set hsz hlt hl'; omega) ?_ (fun j hj hlj hc => ?_) (fun j hj hlj d hd => ?_)
        · rw [show (fun j => (listed.setIfInBounds i true).getD j true) = don (fun j => listed.getD j true) i from funext hset]
          exact hE2
        · by_cases hji : j = i
          · subst hji
            simpa [upd] using hGi hc
          · have hlj' : listed.getD j true = true := by rw [hset] at hlj; simpa [don, hji] using hlj
            have hv : upd vs i v j = vs j := by simp [upd, hji]
            rw [hv]
            exact hGs j _ hc (hG' j hj hlj' hc)
        · have hji : j ≠ i := fun e => by
            rw [hset, e] at hlj
            simp [don] at hlj
          have hv : upd vs i v j = vs j := by simp [upd, hji]
          rw [hv]
          rw [hset] at hlj
          exact hun j hj (by simpa [don, hji] using hlj) d hd
      unfold wpOpS
      simp only [ho, Region.wanted, hgop.1, if_true]
      rcases hgop.2 with ⟨hc, hln⟩ | ⟨hc, hsd⟩
      · have hwp := hln (putAll a ops.toList vs 0) vs (fun j => listed.getD j true) w' (fun t h => eval_putAll_out _ _ _ _ _ h) (fun t j ht h => eval_putAll_in _ _ _ _ _ _ hnd ht h) hl' hE' hdepD hlate hdepS
        refine Oper.wp_mono ?_ hwp
        rintro a2 w2 ⟨v, rfl, hE2, hK2⟩
        exact step v w2 hE2 (fun h => by rw [hc] at h; cases h) (fun j u _ hg => hK j w' u w2 hg hK2)
      · have hci : i ∉ S := fun h => by rw [List.contains_iff_mem.2 h] at hc; cases hc
        have hwp := hsd (putAll a ops.toList vs 0) vs (fun j => listed.getD j true) w' (fun t h => eval_putAll_out _ _ _ _ _ h) (fun t j ht h => eval_putAll_in _ _ _ _ _ _ hnd ht h) hl' hE' hdepD hlate hdepS
        refine Oper.wp_mono ?_ hwp
        rintro a2 w2 ⟨v, rfl, hg, hb2⟩
        refine step v w2 ?_ (fun _ => hg) (fun j u _ hgj => hG j w' u w2 hgj hb2)
        rw [told_out hci]
        exact hE _ _ _ hE' hb2
  have hbz : Below w.heap.size w { w with drawn := w.drawn + 1 } := ⟨rfl, rfl, rfl, Nat.le_refl _, fun _ _ => rfl⟩
  have hno : ∀ j, j < ops.size → (Array.replicate ops.size false).getD j true = false := fun j hj => by simp [Array.getD_eq_getD_getElem?, hj]
  have h1 := main ops.size (Array.replicate ops.size false) (fun i => ((ops[i]?).bind (·.dst)).elim undef (fun d => a.tmps.getD d undef)) { w with drawn := w.drawn + 1 } (by simp)
    (by have := List.length_filter_le (fun i => !(Array.replicate ops.size false).getD i true) (List.range ops.size); simpa [unlisted] using this)
    (by
      have : told S (fun j => (Array.replicate ops.size false).getD j true) (fun i => ((ops[i]?).bind (·.dst)).elim undef (fun d => a.tmps.getD d undef)) = S.map fun _ => none := List.map_congr_left fun j hj => by simp [hno j (hSl j hj)]
      rw [this]
      exact hE _ _ _ h0 hbz)
    (fun i hi h => by rw [hno i hi] at h; cases h)
    (fun j hj _ d hd => by simp only [hd, Option.elim]; rfl)
  rw [putAll_orig ops.toList a _ 0 (fun j o d hj hd => by
    rw [Array.getElem?_toList] at hj
    simp [hj, hd])] at h1
  exact h1
theorem wp_region_set {id : Nat} {ops : Array Oper} {a : Act} {w : World} (hm : P.follows .mixedOrders = true) (hs : gdB ops = true) (S : List Nat) (hS : (S.all fun c => decide (c < ops.size)) = true) (G : Nat → World → Value → Prop) (E : List (Option Value) → World → Prop) (K : World → World → Prop)
    (hG : ∀ i w v w', G i w v → Below w.heap.size w w' → G i w' v) (hK : ∀ i w v w', G i w v → K w w' → G i w' v) (hE : ∀ l w w', E l w → Below w.heap.size w w' → E l w') (h0 : E (S.map fun _ => none) w)
    (hop : StAll P Q ops a S G E K 0 ops.toList)
    (hend : ∀ (vs : Nat → Value) (w' : World), E (S.map fun j => some (vs j)) w' → (∀ i, i < ops.size → S.contains i = false → G i w' (vs i)) → Q .normal (putAll a ops.toList vs 0) w') : (Code.region id ops true).wp P Q a w := wp_region_S hm (anyS_set hs S hS G E K hG hK hE h0 hop hend)
end
section
variable {P : Program} {Q : Exit → Act → World → Prop} {K : World → World → Prop}
theorem wp_region_setl {id : Nat} {ops : Array Oper} {a : Act} {w : World} (hm : P.follows .mixedOrders = true) (hs : gdB ops = true) (S : List Nat) (hS : (S.all fun c => decide (c < ops.size)) = true) (Gs : List (SGn K)) (E : List (Option Value) → World → Prop)
    (hE : ∀ l w w', E l w → Below w.heap.size w w' → E l w') (h0 : E (S.map fun _ => none) w)
    (hop : StAll P Q ops a S (fun i => (Gs.getD i lAny).1) E K 0 ops.toList)
    (hend : ∀ (vs : Nat → Value) (w' : World), E (S.map fun j => some (vs j)) w' → (∀ i, i < ops.size → S.contains i = false → (Gs.getD i lAny).1 w' (vs i)) → Q .normal (putAll a ops.toList vs 0) w') : (Code.region id ops true).wp P Q a w :=
  wp_region_set hm hs S hS (fun i => (Gs.getD i lAny).1) E K (fun i => (Gs.getD i lAny).2.1) (fun i => (Gs.getD i lAny).2.2) hE h0 hop hend
end
end Go.Proofs.YtccoklhmbikfmaaDoor
namespace Go.Proofs.YtccoklhmbikfmaaDoor
section
variable {H : Type} {enc : TypeId × Value → H} {P : Program} {w : World} {base : Nat} {sp : Nat → Bool} {held : Bool} {fuel : Nat}
def matB {H : Type} (rows : List (List Bool)) : DataW H := .agg (rows.map fun r => .agg (r.map fun b => .lit (.bool b)))
theorem cells_mat {t e b : TypeId} {n m : Nat} {cs : List Value} {rows : List (List Bool)} {p : List MemPlace} (ht : P.underlying t = some (.array n e)) (he : P.underlying e = some (.array m b)) (hb : P.underlying b = some .bool)
    (cb : P.cellsOf b = 1) (ce : P.cellsOf e = m) (h : DataW.trod enc P w base sp held fuel t cs = some (matB rows, p)) {i : Nat} {r : List Bool} (hi : rows[i]? = some r) {j : Nat} {v : Bool} (hj : r[j]? = some v) : cs[i * m + j]? = some (.bool v) := by
  obtain ⟨xs, f1, rfl, hx, _, hn, hel⟩ := DataW.trod_array ht h
  have hxs : rows.map (fun r => (.agg (r.map fun b => .lit (.bool b)) : DataW H)) = xs.map (·.1) := by
    have := congrArg Prod.fst hx
    simpa [matB] using this
  have h1 : (xs.map (·.1))[i]? = some (.agg (r.map fun b => .lit (.bool b)) : DataW H) := by rw [← hxs]; simp [hi]
  simp only [List.getElem?_map, Option.map_eq_some_iff] at h1
  obtain ⟨x, hxi, hx1⟩ := h1
  have hin : i < n := by have := (List.getElem?_eq_some_iff.1 hxi).1; omega
  have h2 := hel i hin
  rw [hxi, ce] at h2
  obtain ⟨ys, f2, rfl, hy, _, hm, hel2⟩ := DataW.trod_array he h2
  have hys : r.map (fun b => (.lit (.bool b) : DataW H)) = ys.map (·.1) := by
    rw [hy] at hx1
    simpa using hx1.symm
  have h3 : (ys.map (·.1))[j]? = some (.lit (.bool v) : DataW H) := by rw [← hys]; simp [hj]
  simp only [List.getElem?_map, Option.map_eq_some_iff] at h3
  obtain ⟨y, hyj, hy1⟩ := h3
  have hjm : j < m := by have := (List.getElem?_eq_some_iff.1 hyj).1; omega
  have h4 := hel2 j hjm
  rw [hyj, cb] at h4
  obtain ⟨b2, hc, rfl⟩ := DataW.trod_bool hb h4
  obtain rfl : b2 = v := by simpa using hy1
  have := congrArg (·[0]?) hc
  simpa [List.getElem?_take, List.getElem?_drop, hjm, Nat.add_comm] using this
end
theorem mat_of_laid {P : Program} {W : World} {name : String} {rows : List (List Bool)} {rest : List (String × DataW Unit)} {g : Nat} {t e b : TypeId} {n m : Nat} (hg : P.globalNamed name = some g) (hty : (P.globals[g]?).map (·.type) = some t)
    (ht : P.underlying t = some (.array n e)) (he : P.underlying e = some (.array m b)) (hb : P.underlying b = some .bool) (cb : P.cellsOf b = 1) (ce : P.cellsOf e = m) (h : laidMet P ((name, matB rows) :: rest) W)
    {i : Nat} {r : List Bool} (hi : rows[i]? = some r) {j : Nat} {v : Bool} (hj : r[j]? = some v) : W.cell? ⟨g, i * m + j, none⟩ = some (.bool v) := by
  obtain ⟨ps, ⟨g', t', cs, fuel, p, q, hg', ht', hvar, hd, _, _⟩, _⟩ := h
  obtain rfl := Option.some.inj (hg.symm.trans hg')
  obtain rfl := Option.some.inj (hty.symm.trans ht')
  have := World.var?_cell hg hvar (i * m + j)
  have hc := cells_mat ht he hb cb ce hd hi hj
  rw [this]
  simpa using hc
end Go.Proofs.YtccoklhmbikfmaaDoor
namespace Go.Proofs.YtccoklhmbikfmaaDoor
open Go.RowKit
structure Twb (w A : World) (r : Option Nat) (b : Nat) : Prop where
  os : A.os = w.os
  tape : A.tape = w.tape
  output : A.output = w.output
  size : w.heap.size ≤ A.heap.size
  block : ∀ k, k < w.heap.size → some k ≠ r → k ≠ b → A.heap[k]? = w.heap[k]?
section
variable {w0 w A B : World} {r : Option Nat} {b : Nat}
theorem Twb.of_below (h : Below w.heap.size w A) : Twb w A r b := ⟨h.os, h.tape, h.output, h.size, fun k hk _ _ => h.block k hk⟩
theorem Twb.below (h : Twb w A r b) (k : Below A.heap.size A B) : Twb w B r b :=
  ⟨k.os.trans h.os, k.tape.trans h.tape, k.output.trans h.output, Nat.le_trans h.size k.size, fun j h1 h2 h3 => (k.block j (Nat.lt_of_lt_of_le h1 h.size)).trans (h.block j h1 h2 h3)⟩
theorem Twb.row (h : Twb w A r b) (k : A.grownBy B r) : Twb w B r b :=
  ⟨k.os.trans h.os, k.tape.trans h.tape, k.output.trans h.output, Nat.le_trans h.size k.size, fun j h1 h2 h3 => (k.block j (Nat.lt_of_lt_of_le h1 h.size) h2).trans (h.block j h1 h2 h3)⟩
theorem Twb.box (h : Twb w A r b) (k : A.grownBy B (some b)) : Twb w B r b :=
  ⟨k.os.trans h.os, k.tape.trans h.tape, k.output.trans h.output, Nat.le_trans h.size k.size, fun j h1 h2 h3 => (k.block j (Nat.lt_of_lt_of_le h1 h.size) (fun e => h3 (by injection e))).trans (h.block j h1 h2 h3)⟩
theorem Twb.refl : Twb w w r b := ⟨rfl, rfl, rfl, Nat.le_refl _, fun _ _ _ _ => rfl⟩
theorem Twb.belowB (h : Twb w A r b) (q : Below w0.heap.size w0 w) (hr : ∀ k, r = some k → w0.heap.size ≤ k) (hb : w0.heap.size ≤ b) : Below w0.heap.size w0 A :=
  ⟨h.os.trans q.os, h.tape.trans q.tape, h.output.trans q.output, Nat.le_trans q.size h.size, fun k hk => (h.block k (Nat.lt_of_lt_of_le hk q.size) (fun e => by have := hr k e.symm; omega) (by omega)).trans (q.block k hk)⟩
theorem Twb.boxN {g : Nat} {t : TypeId} {vs : List Value} (h : Twb w A r b) (hT : BoxN w g t vs) (hr : some g ≠ r) (hb : g ≠ b) : BoxN A g t vs := (h.block g hT.lt hr hb).trans hT
end
def Elt.but {α : Type} (E : Elt α) (b : Nat) : Elt α where
  size := E.size
  pos := E.pos
  R S w x vs := E.R (fun k => S k ∧ k ≠ b) w x vs
  len h := E.len h
  keep h hk := E.keep h fun k h2 => hk k h2.1
  weak h hs := E.weak h fun k h2 => ⟨hs k h2.1, h2.2⟩
  fit h := E.weak (E.fit h) fun _ h2 => ⟨⟨h2.1.1, h2.2⟩, h2.1.2⟩
  one h := E.one h
section
variable {α : Type} {E : Elt α} {Te : TypeId} {base lo : Nat} {b : Nat} {w w' : World} {v : Value} {xs : List α}
theorem Flat.but {S : Nat → Prop} (h : ∀ k, S k → k ≠ b) : ∀ {xs : List α} {vs : List Value}, Flat E S w xs vs → Flat (Elt.but E b) S w xs vs
  | [], _, hf => hf
  | _ :: _, _, ⟨us, ws, e, h1, h2⟩ => ⟨us, ws, e, E.weak h1 fun k hk => ⟨hk, h k hk⟩, Flat.but h h2⟩
theorem Flat.unbut {S : Nat → Prop} : ∀ {xs : List α} {vs : List Value}, Flat (Elt.but E b) S w xs vs → Flat E S w xs vs
  | [], _, hf => hf
  | _ :: _, _, ⟨us, ws, e, h1, h2⟩ => ⟨us, ws, e, E.weak h1 fun _ hk => hk.1, Flat.unbut h2⟩
theorem OwnL.but (h : OwnL E Te base lo w v xs) (hb : ∀ k, lo ≤ k → k < w.heap.size → k ≠ b) : OwnL (Elt.but E b) Te base lo w v xs := by
  obtain ⟨vs, h1, h2⟩ := h
  exact ⟨vs, h1, Flat.but (fun k hk => hb k hk.1 hk.2.1) h2⟩
theorem OwnL.unbut (h : OwnL (Elt.but E b) Te base lo w v xs) : OwnL E Te base lo w v xs := by
  obtain ⟨vs, h1, h2⟩ := h
  exact ⟨vs, h1, Flat.unbut h2⟩
theorem Flat.butKeep {S : Nat → Prop} (hk : ∀ k, S k → k ≠ b → w'.heap[k]? = w.heap[k]?) : ∀ {xs : List α} {vs : List Value}, Flat (Elt.but E b) S w xs vs → Flat (Elt.but E b) S w' xs vs
  | [], _, hf => hf
  | _ :: _, _, ⟨us, ws, e, h1, h2⟩ => ⟨us, ws, e, E.keep h1 fun k h3 => hk k h3.1 h3.2, Flat.butKeep hk h2⟩
theorem OwnL.butOther (h : OwnL (Elt.but E b) Te base lo w v xs) (hg : w.grownBy w' (some b)) (hv : v.ownBlock ≠ some b) : OwnL (Elt.but E b) Te base lo w' v xs := by
  obtain ⟨vs, h1, h2⟩ := h
  refine ⟨vs, h1.kept hg (.inr fun e => hv e), ?_⟩
  exact (Flat.butKeep (fun k hk hb => hg.block k hk.2.1 fun e => by injection e with e; exact hb e) h2).weak fun k hk => ⟨hk.1, Nat.lt_of_lt_of_le hk.2.1 hg.size, hk.2.2⟩
end
def PshJ {α : Type} (E : Elt α) (Te : TypeId) (base lo : Nat) (r : Option Nat) (b : Nat) (t : TypeId) (vs : List Value) (f : Nat) (W : World) (xs : List α) (x : α) : List Value → World → Prop
  | [], V => Below W.heap.size W V
  | [v], V => Below W.heap.size W V ∧ ∃ us : List Value, v.cells = us.toArray ∧ E.R (fun k => W.heap.size ≤ k ∧ k < V.heap.size) V x us
  | [_, s], V => Twb W V r b ∧ ∃ ad c, s = .slice ad (xs ++ [x]).length c ∧ OwnL (Elt.but E b) Te base lo V (.slice ad (xs ++ [x]).length c) (xs ++ [x]) ∧ BoxN V b t vs ∧ Value.ownBlock (.slice ad (xs ++ [x]).length c) ≠ some b
  | _, V => Twb W V r b ∧ ∃ ad c, OwnL (Elt.but E b) Te base lo V (.slice ad (xs ++ [x]).length c) (xs ++ [x]) ∧ BoxN V b t (vs.set f (.slice ad (xs ++ [x]).length c)) ∧ Value.ownBlock (.slice ad (xs ++ [x]).length c) ≠ some b
section
variable {α : Type} {E : Elt α} {Te : TypeId} {base lo : Nat} {r : Option Nat} {b : Nat} {t : TypeId} {vs : List Value} {f : Nat} {W : World} {xs : List α} {x : α}
theorem PshJ.below : ∀ (l : List Value) (V V' : World), PshJ E Te base lo r b t vs f W xs x l V → Below V.heap.size V V' → PshJ E Te base lo r b t vs f W xs x l V'
  | [], _, _, h, hb => Below.trans h (hb.mono (Below.size h))
  | [_], _, _, ⟨h, us, e, h1⟩, hb => ⟨h.trans (hb.mono h.size), us, e, E.weak (Elt.below h1 hb) fun _ hk => ⟨hk.1, Nat.lt_of_lt_of_le hk.2 hb.size⟩⟩
  | [_, _], _, _, ⟨h, ad, c, e, h1, h2, h3⟩, hb => ⟨h.below hb, ad, c, e, h1.below hb, h2.below hb h2.lt, h3⟩
  | _ :: _ :: _ :: _, _, _, ⟨h, ad, c, h1, h2, h3⟩, hb => ⟨h.below hb, ad, c, h1.below hb, h2.below hb h2.lt, h3⟩
theorem PshJ.two : ∀ {l : List Value} {V : World}, PshJ E Te base lo r b t vs f W xs x l V → Twb W V r b
  | [], _, h => Twb.of_below h
  | [_], _, ⟨h, _⟩ => Twb.of_below h
  | [_, _], _, ⟨h, _⟩ => h
  | _ :: _ :: _ :: _, _, ⟨h, _⟩ => h
theorem PshJ.early {V : World} {vl : List Value} (h : PshJ E Te base lo r b t vs f W xs x vl V) (hk : vl.length ≤ 1) : Below W.heap.size W V := by
  match vl, h with
  | [], h => exact h
  | [_], h => exact h.1
  | _ :: _ :: _, _ => simp at hk
def pRow {α : Type} (E : Elt α) (Te : TypeId) (W : World) (r : Option Nat) (b : Nat) (x : α) (hr : ∀ k, r = some k → k < W.heap.size) (hb : b < W.heap.size) : SGn (fun A B => Twb A B r b) :=
  ⟨fun w v => ∃ g, ∃ us : List Value, v = .slice (some ⟨g, 0, none⟩) 1 1 ∧ W.heap.size ≤ g ∧ w.heap[g]? = some (.cells us.toArray Te (0, 0)) ∧ E.R (fun k => W.heap.size ≤ k ∧ k < w.heap.size) w x us,
  fun _ _ _ ⟨g, us, h, h0, hc, hR⟩ hb => ⟨g, us, h, h0, (hb.block g (Array.getElem?_eq_some_iff.1 hc).1).trans hc, E.weak (Elt.below hR hb) fun _ hk => ⟨hk.1, Nat.lt_of_lt_of_le hk.2 hb.size⟩⟩,
  fun _ _ _ ⟨g, us, h, h0, hc, hR⟩ hk => ⟨g, us, h, h0, (hk.block g (Array.getElem?_eq_some_iff.1 hc).1 (fun e => by have := hr g e.symm; omega) (fun e => by omega)).trans hc, E.weak (E.keep hR fun k hh => hk.block k hh.2 (fun e => by have := hr k e.symm; omega) (fun e => by omega)) fun _ hh => ⟨hh.1, Nat.lt_of_lt_of_le hh.2 hk.size⟩⟩⟩
theorem PshJ.app {V V' : World} {v : Value} {v0 : Value} {ad : Option Addr} {c : Nat} (h : PshJ E Te base lo r b t vs f W xs x [v] V) (hB : BoxN W b t vs) (hO : OwnL (Elt.but E b) Te base lo V' (.slice ad (xs ++ [x]).length c) (xs ++ [x])) (hg : V.grownBy V' r) (hbr : r ≠ some b) (ho : Value.ownBlock (.slice ad (xs ++ [x]).length c) = r ∨ Value.ownBlock (.slice ad (xs ++ [x]).length c) = some V.heap.size) :
    PshJ E Te base lo r b t vs f W xs x [v0, .slice ad (xs ++ [x]).length c] V' :=
  ⟨(Twb.of_below h.1).row hg, ad, c, rfl, hO, (hB.below h.1 hB.lt).other hg hbr, by
    rcases ho with e | e
    · rw [e]; exact hbr
    · rw [e]; intro e2; injection e2 with e2; have := hB.lt; have := h.1.size; omega⟩
theorem PshJ.sto {V V' : World} {v s u v0 s0 : Value} {ad : Option Addr} {c : Nat} (h : PshJ E Te base lo r b t vs f W xs x [v, s] V) (hO : OwnL (Elt.but E b) Te base lo V (.slice ad (xs ++ [x]).length c) (xs ++ [x])) (hn : Value.ownBlock (.slice ad (xs ++ [x]).length c) ≠ some b) (hg : V.grownBy V' (some b)) (hB : BoxN V' b t (vs.set f (.slice ad (xs ++ [x]).length c))) :
    PshJ E Te base lo r b t vs f W xs x [v0, s0, u] V' :=
  ⟨h.1.box hg, ad, c, hO.butOther hg hn, hB, hn⟩
end
end Go.Proofs.YtccoklhmbikfmaaDoor
namespace Go.Proofs.YtccoklhmbikfmaaDoor
open Go.RowKit Go.Shelf
def smK (l : List Lk) : Prop := l.length ≤ 1000000 ∧ ∀ x ∈ l, x.span.lo.length ≤ 1000000 ∧ x.span.hi.length ≤ 1000000
def OwnKs (B : Nat) (w : World) (a a2 : Option Addr) (c c2 : Nat) (H Q : List Lk) : Prop := ∃ D : Nat → Prop, OwnF Elt.lk 29 D w (.slice a H.length c) H ∧ OwnF Elt.lk 29 D w (.slice a2 Q.length c2) Q ∧
  (∀ k, D k → B ≤ k ∧ k < w.heap.size ∧ Value.ownBlock (.slice a H.length c) ≠ some k ∧ Value.ownBlock (.slice a2 Q.length c2) ≠ some k) ∧ (∀ k, Value.ownBlock (.slice a H.length c) = some k → B ≤ k ∧ Value.ownBlock (.slice a2 Q.length c2) ≠ some k) ∧ ∀ k, Value.ownBlock (.slice a2 Q.length c2) = some k → B ≤ k
theorem OwnKs.rd {B : Nat} {w : World} {a a2 : Option Addr} {c c2 : Nat} {H Q : List Lk} (h : OwnKs B w a a2 c c2 H Q) : RdLs (fun k => B ≤ k ∧ k < w.heap.size) w (.agg #[.slice a H.length c, .slice a2 Q.length c2]) H Q := by
  obtain ⟨D, h1, h2, h3, h4, h5⟩ := h
  exact ⟨a, c, a2, c2, rfl, h1.rdL.weak fun k hk => hk.elim (fun h => ⟨(h3 k h).1, (h3 k h).2.1⟩) fun h => ⟨(h4 k h).1, h1.lt h⟩, h2.rdL.weak fun k hk => hk.elim (fun h => ⟨(h3 k h).1, (h3 k h).2.1⟩) fun h => ⟨h5 k h, h2.lt h⟩⟩
theorem OwnKs.below {B : Nat} {w w' : World} {a a2 : Option Addr} {c c2 : Nat} {H Q : List Lk} (h : OwnKs B w a a2 c c2 H Q) (hb : Below w.heap.size w w') : OwnKs B w' a a2 c c2 H Q := by
  obtain ⟨D, h1, h2, h3, h4, h5⟩ := h
  exact ⟨D, h1.below hb fun k hk => (h3 k hk).2.1, h2.below hb fun k hk => (h3 k hk).2.1, fun k hk => ⟨(h3 k hk).1, Nat.lt_of_lt_of_le (h3 k hk).2.1 hb.size, (h3 k hk).2.2⟩, h4, h5⟩
theorem OwnKs.grown {B : Nat} {w w' : World} {a a2 : Option Addr} {c c2 : Nat} {H Q : List Lk} {b : Nat} (h : OwnKs B w a a2 c c2 H Q) (hg : w.grownBy w' (some b)) (hb : b < B) : OwnKs B w' a a2 c c2 H Q := by
  obtain ⟨D, h1, h2, h3, h4, h5⟩ := h
  have hD : ∀ k, D k → w'.heap[k]? = w.heap[k]? := fun k hk => hg.block k (h3 k hk).2.1 fun e => by injection e with e; have := (h3 k hk).1; omega
  exact ⟨D, h1.kept (fun k hk => hg.block k (h1.lt hk) fun e => by injection e with e; have := (h4 k hk).1; omega) hD, h2.kept (fun k hk => hg.block k (h2.lt hk) fun e => by injection e with e; have := h5 k hk; omega) hD, fun k hk => ⟨(h3 k hk).1, Nat.lt_of_lt_of_le (h3 k hk).2.1 hg.size, (h3 k hk).2.2⟩, h4, h5⟩
set_option maxRecDepth 100000 in
set_option maxHeartbeats 4000000 in
theorem lCopied_any (w : World) {S : Nat → Prop} {v : Value} {H Q : List Lk} (h : RdLs S w v H Q) (hH : smK H) (hQ : smK Q) :
    Calls Tryd.prog 39 #[v] w fun e w' => ∃ a c a2 c2, e = .returned (.agg #[.slice a H.length c, .slice a2 Q.length c2]) ∧ OwnKs w.heap.size w' a a2 c c2 H Q ∧ Below w.heap.size w w' := by
  obtain ⟨hlH, hsH⟩ := hH
  obtain ⟨hlQ, hsQ⟩ := hQ
  obtain ⟨a, c, a2, c2, rfl, hH, hQ⟩ := h
  obtain ⟨W0, hW, q, bn, bz, hsz⟩ := boxes2 w 24 24 [.slice a H.length c, .slice a2 Q.length c2] [.slice none 0 0, .slice none 0 0]
  have eA : ∀ args w, (callFunc 43 args).run Tryd.prog w = .ok (.enter 43 args) w := enters_of Tryd.func43 (by kernel_rfl) rfl
  go_enter Tryd.func39, Tryd.ntmps39
  go_upto_region 1 with (fail)
  rw [show (w.alloc (.cells #[.slice a H.length c, .slice a2 Q.length c2] 24)).alloc (.cells #[.slice none 0 0, .slice none 0 0] 24) = W0 from hW.symm]
  clear hW hsz
  have zW := bz.lt
  go_upto_region 2 with (first | (refine wpList_boxNew (vs := [.slice none 0 0, .slice none 0 0]) (by kernel_rfl) rfl rfl ?_; intro w1 hb1 hB1) | fail)
  have q1 := q.trans (hb1.mono q.size)
  have z1 := hB1.lt
  have b0 := (bn.below hb1 bn.lt).cell (i := 0) rfl
  go_upto_region 3 with (fail)
  clear b0
  go_loopw [11] (fun iv wr => ∃ (k : Nat) (ad : Option Addr) (ko : Nat), iv = .int .i64 k ∧ k ≤ H.length ∧ OwnL Elt.lk 29 (W0.heap.size + 1) (W0.heap.size + 1) wr (.slice ad (H.take k).length ko) (H.take k) ∧ BoxN wr W0.heap.size 24 [.slice ad (H.take k).length ko, .slice none 0 0] ∧ Below W0.heap.size W0 wr)
    (fun i _ => H.length - (intOf i).toNat)
  case atStart => exact ⟨0, none, 0, rfl, Nat.zero_le _, OwnL.nil _ _ _ _ _, hB1, hb1⟩
  case round =>
    clear hB1 hb1 q1
    obtain ⟨k, ad, ko, rfl, hkl, hO, hB, qr⟩ := hrel
    have q1 := q.trans (qr.mono q.size)
    have zr := qr.size
    have q0 := q
    replace q := q1
    clear q1
    rcases Nat.lt_or_ge k H.length with hlt | hge
    · obtain ⟨b, off, KA, KC, VA, VC, rfl, hb, c0, c1, c2, c3, c4, c5, c6, hk1, hk2, hw64⟩ := (hH.below q).lk k hlt
      obtain ⟨hx1, hx2⟩ := hsH _ (List.getElem_mem hlt)
      have hsn := Lib.hid (show H.take (k + 1) = H.take k ++ [H[k]] from List.take_succ_eq_append_getElem hlt)
      obtain ⟨x, ex⟩ : ∃ x, x = H[k] := ⟨_, rfl⟩
      obtain ⟨xs, exs⟩ : ∃ xs, xs = H.take k := ⟨_, rfl⟩
      have hxl : xs.length ≤ 1000000 := by rw [exs, List.length_take]; omega
      rw [← ex] at c0 c1 c2 c3 c4 c5 c6 hk1 hk2 hw64 hx1 hx2 hsn
      rw [← exs] at hO hB hsn
      clear ex exs
      have hx : RdLk S wr (.agg #[.int .i64 x.owner, .bool x.whole, .int .i64 x.span.table, .slice KA x.span.lo.length KC, .slice VA x.span.hi.length VC, .bool x.span.isOpen, .int .i64 x.mode]) x := ⟨KA, KC, VA, VC, rfl, hk1, hk2, hw64⟩
      go_upto_region 5 with (first | (refine wpList_boxNew (vs := [.int .i64 0, .bool false, .int .i64 0, .slice none 0 0, .slice none 0 0, .bool false, .int .i64 0]) (by kernel_rfl) rfl rfl ?_; intro wa hba hBa) | (refine wpList_boxStore (us := [.int .i64 x.owner, .bool x.whole, .int .i64 x.span.table, .slice KA x.span.lo.length KC, .slice VA x.span.hi.length VC, .bool x.span.isOpen, .int .i64 x.mode]) (by kernel_rfl) rfl rfl rfl rfl rfl rfl hBa rfl ?_; intro W hgw hXW) | fail)
      go_simp
      have hbw : Below wr.heap.size wr W := hba.grown hgw hba.size fun k hk => by injection hk with hk; omega
      have qW := qr.trans (hbw.mono qr.size)
      have hsW := hXW.lt
      have hBlt := hB.lt
      have hBW := hB.below hbw hB.lt
      have hrr : ∀ k, Value.ownBlock (.slice ad xs.length ko) = some k → (W0.heap.size + 1) ≤ k ∧ k < wr.heap.size := fun k hk => hO.block_lt k hk
      have hrW : ∀ k, Value.ownBlock (.slice ad xs.length ko) = some k → k < W.heap.size := fun k hk => by have := hrr k hk; omega
      replace hO := (hO.below hbw).but (b := W0.heap.size) (fun k hk _ => by omega)
      replace hx := hx.below hbw
      have hlo : (W0.heap.size + 1) ≤ W.heap.size := by omega
      have hxr : some wr.heap.size ≠ Value.ownBlock (.slice ad xs.length ko) := fun e => by have := hrr _ e.symm; omega
      have hxb : wr.heap.size ≠ W0.heap.size := by omega
      have hbr : Value.ownBlock (.slice ad xs.length ko) ≠ some W0.heap.size := fun e => by have := hrr _ e; omega
      have hb1 : W0.heap.size < (W0.heap.size + 1) := by omega
      clear c0 c1 c2 c3 c4 c5 c6 hk1 hk2 hba hBa hgw hbw hB q
      refine wp_region_lnl (K := fun A B => Twb A B (Value.ownBlock (.slice ad xs.length ko)) (W0.heap.size)) (by kernel_rfl) (by kernel_rfl) [3, 5, 7] (by kernel_rfl) [lEq (.pointer (some ⟨W0.heap.size, 0 + 0, none⟩)), lEq (.slice ad xs.length ko), lEq (.agg #[.int .i64 x.owner, .bool x.whole, .int .i64 x.span.table, .slice KA x.span.lo.length KC, .slice VA x.span.hi.length VC, .bool x.span.isOpen, .int .i64 x.mode]), lAny, pRow Elt.lk 29 (W) (Value.ownBlock (.slice ad xs.length ko)) (W0.heap.size) x hrW hBW.lt, lAny, lEq (.pointer (some ⟨W0.heap.size, 0 + 0, none⟩)), lAny] (PshJ Elt.lk 29 ((W0.heap.size + 1)) ((W0.heap.size + 1)) (Value.ownBlock (.slice ad xs.length ko)) (W0.heap.size) 24 [.slice ad xs.length ko, .slice none 0 0] 0 (W) (xs) x) PshJ.below (show Below (W).heap.size (W) (W) from Below.refl _ _)
        ⟨?o0, ?o1, ?o2, ?o3, ?o4, ?o5, ?o6, ?o7, trivial⟩ ?fin
      case o0 =>
        refine LnOp.side rfl (by kernel_rfl) (fun A va w' k hF hT hk hJ hb hu hp hd => ?_)
        have e1 : A.eval (.tmp 3) = .pointer (some ⟨W0.heap.size, 0, none⟩) := hF 3 rfl
        exact wp_fieldN lsS rfl (e1) (by omega) ⟨_, rfl, rfl, Below.refl _ _⟩
      case o1 =>
        refine LnOp.side rfl (by kernel_rfl) (fun A va w' k hF hT hk hJ hb hu hp hd => ?_)
        have e1 : A.eval (.tmp 15) = .pointer (some ⟨W0.heap.size, 0 + 0, none⟩) := (hT 15 0 (by simp) rfl).trans (hd ⟨0, .data⟩ (by simp) rfl rfl)
        have hk1 : k ≤ 1 := hb 1 5 rfl (by kernel_rfl)
        have hJ0 := PshJ.early hJ (by simp only [List.length_map, List.length_take]; omega)
        exact wp_ld_slice (e := 29) rfl e1 (by kernel_rfl) ((hBW.below hJ0 hBW.lt).cell (i := 0) rfl) ⟨_, rfl, rfl, Below.refl _ _⟩
      case o2 =>
        refine LnOp.side rfl (by kernel_rfl) (fun A va w' k hF hT hk hJ hb hu hp hd => ?_)
        have e1 : A.eval (.tmp 5) = .pointer (some ⟨wr.heap.size, 0, none⟩) := hF 5 rfl
        have hX2 := (PshJ.two hJ).boxN hXW hxr hxb
        exact wp_loadU (us := [.int .i64 x.owner, .bool x.whole, .int .i64 x.span.table, .slice KA x.span.lo.length KC, .slice VA x.span.hi.length VC, .bool x.span.isOpen, .int .i64 x.mode]) lkS rfl e1 (fun j u hj => by rw [Nat.zero_add]; exact hX2.cell hj) ⟨_, rfl, rfl, Below.refl _ _⟩
      case o3 =>
        refine LnOp.line 0 rfl rfl (fun A va w' hF hT hJ hu hd => ?_)
        have e1 : A.eval (.tmp 17) = .agg #[.int .i64 x.owner, .bool x.whole, .int .i64 x.span.table, .slice KA x.span.lo.length KC, .slice VA x.span.hi.length VC, .bool x.span.isOpen, .int .i64 x.mode] := (hT 17 2 (by simp) rfl).trans (hd ⟨2, .data⟩ (by simp) rfl rfl)
        have hJ0 : Below (W).heap.size (W) w' := hJ
        refine wp_callFn rfl eA (by simp only [List.map_toArray, List.map_cons, List.map_nil, e1]) ((lAlone_any w' (hx.below hJ0) hx1 hx2).mono ?_)
        rintro e w2 ⟨v2, rfl, ⟨ka, kc, va2, vc, rfl, hk2, hv2, ht2⟩, hb2⟩
        have hR : Elt.lk.R (fun k => W.heap.size ≤ k ∧ k < w2.heap.size) w2 x (lkC x (.slice ka x.span.lo.length kc) (.slice va2 x.span.hi.length vc)) := ⟨_, _, rfl, hk2.weak fun k hk => ⟨Nat.le_trans hJ0.size hk.1, hk.2⟩, hv2.weak fun k hk => ⟨Nat.le_trans hJ0.size hk.1, hk.2⟩, ht2⟩
        exact ⟨_, rfl, _, rfl, ⟨hJ0.trans (hb2.mono hJ0.size), _, rfl, hR⟩, (Twb.refl (r := Value.ownBlock (.slice ad xs.length ko)) (b := W0.heap.size)).below hb2⟩
      case o4 =>
        refine LnOp.side rfl (by kernel_rfl) (fun A va w' k hF hT hk hJ hb hu hp hd => ?_)
        have x1 : A.eval (.tmp 18) = va 3 := hT 18 3 (by simp) rfl
        obtain rfl : k = 1 := by
          have h1 := hp ⟨3, .data⟩ (by simp) rfl 0 rfl
          have h2 := hb 1 5 rfl (by kernel_rfl)
          omega
        obtain ⟨hJ0, us, eus, hR⟩ := hJ
        have hb1 : Below w'.heap.size w' (w'.alloc (.cells us.toArray 29)) := (Below.refl _ _).alloc (Nat.le_refl _) _
        exact wp_buildOne lkP rfl x1 eus (Elt.len _ hR) (by decide) (by decide) ⟨_, rfl, ⟨_, us, rfl, hJ0.size, by simp only [World.alloc, Array.getElem?_push_size], Elt.weak _ (Elt.below hR hb1) fun k hk => ⟨hk.1, Nat.lt_of_lt_of_le hk.2 hb1.size⟩⟩, hb1⟩
      case o5 =>
        refine LnOp.line 1 rfl rfl (fun A va w' hF hT hJ hu hd => ?_)
        have e1 : A.eval (.tmp 16) = .slice ad xs.length ko := (hT 16 1 (by simp) rfl).trans (hd ⟨1, .data⟩ (by simp) rfl rfl)
        have x2 : A.eval (.tmp 19) = va 4 := hT 19 4 (by simp) rfl
        have y2 := hd ⟨4, .data⟩ (by simp) rfl rfl
        have hJ' := hJ
        obtain ⟨hJ0, _⟩ := hJ
        obtain ⟨g, us, eg, hg0, hgc, hgR⟩ : ∃ g, ∃ us : List Value, va 4 = .slice (some ⟨g, 0, none⟩) 1 1 ∧ (W).heap.size ≤ g ∧ w'.heap[g]? = some (.cells us.toArray 29 (0, 0)) ∧ Elt.R Elt.lk (fun k => (W).heap.size ≤ k ∧ k < w'.heap.size) w' x us := y2
        refine wp_appendL (E := Elt.but Elt.lk (W0.heap.size)) (ys := [x]) lkP rfl e1 (hO.below hJ0) (x2.trans eg) (fun j u hj => by rw [Addr.add_lit, World.cell?, hgc]; simpa using hj) (Flat.single (Elt.weak Elt.lk hgR fun k hk => ⟨hk, fun e => by have := hk.1; have := hBW.lt; omega⟩)) (fun k hk => ⟨Nat.le_trans hlo hk.1, hk.2, fun e => by have := hrW k e.symm; omega⟩) (Nat.le_trans hlo hJ0.size) (fun ad7 k7 cap7 w2 h2 hg h3 => ?_) (by simp; omega)
        obtain rfl : k7 = (xs ++ [x]).length := h2.len
        exact ⟨_, rfl, PshJ.app hJ' hBW h2 hg hbr h3, (Twb.refl (b := W0.heap.size)).row hg⟩
      case o6 =>
        refine LnOp.side rfl (by kernel_rfl) (fun A va w' k hF hT hk hJ hb hu hp hd => ?_)
        have e1 : A.eval (.tmp 3) = .pointer (some ⟨W0.heap.size, 0, none⟩) := hF 3 rfl
        exact wp_fieldN lsS rfl (e1) (by omega) ⟨_, rfl, rfl, Below.refl _ _⟩
      case o7 =>
        refine LnOp.line 2 rfl rfl (fun A va w' hF hT hJ hu hd => ?_)
        have e1 : A.eval (.tmp 21) = .pointer (some ⟨W0.heap.size, 0 + 0, none⟩) := (hT 21 6 (by simp) rfl).trans (hd ⟨6, .data⟩ (by simp) rfl rfl)
        have x2 : A.eval (.tmp 20) = va 5 := hT 20 5 (by simp) rfl
        have hJ' := hJ
        obtain ⟨hJ0, ad7, c7, es, hOs, hBs, hn7⟩ := hJ
        refine wp_boxSet (j := 0) rfl (by kernel_rfl) e1 (x2.trans es) rfl rfl hBs (by simp) (fun w2 hg hB2 => ?_)
        exact ⟨_, rfl, PshJ.sto hJ' hOs hn7 hg hB2, (Twb.refl (r := Value.ownBlock (.slice ad xs.length ko))).box hg⟩
      case fin =>
        intro vs1 W9 hJ hG
        obtain ⟨htw, ad9, c9, hO9, hB9, hn9⟩ := hJ
        have g0 : vs1 0 = .pointer (some ⟨W0.heap.size, 0 + 0, none⟩) := hG 0 (by decide) rfl
        have g1 : vs1 1 = .slice ad xs.length ko := hG 1 (by decide) rfl
        have g2 : vs1 2 = .agg #[.int .i64 x.owner, .bool x.whole, .int .i64 x.span.table, .slice KA x.span.lo.length KC, .slice VA x.span.hi.length VC, .bool x.span.isOpen, .int .i64 x.mode] := hG 2 (by decide) rfl
        have g6 : vs1 6 = .pointer (some ⟨W0.heap.size, 0 + 0, none⟩) := hG 6 (by decide) rfl
        clear hG
        simp only [putAll, g0, g1, g2, g6]
        clear g0 g1 g2 g6
        go_simp
        have q9 := htw.belowB (w0 := W0) qW (fun k hk => by have := hrr k hk; omega) (Nat.le_refl _)
        replace hO9 := hO9.unbut
        rw [← hsn.out] at hO9 hB9
        clear hBW hXW hO hx hsn htw hn9
        go_wp2_with fail
        go_roundw
        case rel => exact ⟨k + 1, ad9, c9, by go_num, by omega, hO9, hB9, q9⟩
        case measure => simp [intOf]; omega
    · obtain rfl : k = H.length := by omega
      rw [List.take_length] at hO hB
      obtain ⟨aH, eaH⟩ : ∃ aH, aH = ad := ⟨_, rfl⟩
      obtain ⟨cH, ecH⟩ : ∃ cH, cH = ko := ⟨_, rfl⟩
      obtain ⟨w2, ew2⟩ : ∃ w2, w2 = wr := ⟨_, rfl⟩
      rw [← eaH, ← ecH, ← ew2] at hO hB
      rw [← ew2] at qr q zr ⊢
      clear eaH ecH ew2
      have hOH := hO
      have bn1 := bn.below qr bn.lt
      have bz1 := bz.below qr bz.lt
      have zB := hB.lt
      clear hO bn bz
      have b1 := bn1.cell (i := 1) rfl
      go_upto_region 8 with (fail)
      clear b1
      go_loopw [26] (fun iv wr => ∃ (k : Nat) (ad : Option Addr) (ko : Nat), iv = .int .i64 k ∧ k ≤ Q.length ∧ OwnL Elt.lk 29 (w2.heap.size) (w2.heap.size) wr (.slice ad (Q.take k).length ko) (Q.take k) ∧ BoxN wr W0.heap.size 24 [.slice aH H.length cH, .slice ad (Q.take k).length ko] ∧ w2.grownBy wr (some W0.heap.size))
        (fun i _ => Q.length - (intOf i).toNat)
      case atStart => exact ⟨0, none, 0, rfl, Nat.zero_le _, OwnL.nil _ _ _ _ _, hB, grownB (Below.refl _ _) _⟩
      case round =>
        clear hB
        obtain ⟨k, ad, ko, rfl, hkl, hO, hB, qr2⟩ := hrel
        have hbs : Below w.heap.size w wr := q.grown qr2 q.size fun k e => by injection e with e; have := q0.size; omega
        have qq := q
        replace q := hbs
        replace qr := qr2
        have zr2 := qr.size
        clear hbs qr2
        rcases Nat.lt_or_ge k Q.length with hlt | hge
        · obtain ⟨b, off, KA, KC, VA, VC, rfl, hb, c0, c1, c2, c3, c4, c5, c6, hk1, hk2, hw64⟩ := (hQ.below q).lk k hlt
          obtain ⟨hx1, hx2⟩ := hsQ _ (List.getElem_mem hlt)
          have hsn := Lib.hid (show Q.take (k + 1) = Q.take k ++ [Q[k]] from List.take_succ_eq_append_getElem hlt)
          obtain ⟨x, ex⟩ : ∃ x, x = Q[k] := ⟨_, rfl⟩
          obtain ⟨xs, exs⟩ : ∃ xs, xs = Q.take k := ⟨_, rfl⟩
          have hxl : xs.length ≤ 1000000 := by rw [exs, List.length_take]; omega
          rw [← ex] at c0 c1 c2 c3 c4 c5 c6 hk1 hk2 hw64 hx1 hx2 hsn
          rw [← exs] at hO hB hsn
          clear ex exs
          have hx : RdLk S wr (.agg #[.int .i64 x.owner, .bool x.whole, .int .i64 x.span.table, .slice KA x.span.lo.length KC, .slice VA x.span.hi.length VC, .bool x.span.isOpen, .int .i64 x.mode]) x := ⟨KA, KC, VA, VC, rfl, hk1, hk2, hw64⟩
          go_upto_region 10 with (first | (refine wpList_boxNew (vs := [.int .i64 0, .bool false, .int .i64 0, .slice none 0 0, .slice none 0 0, .bool false, .int .i64 0]) (by kernel_rfl) rfl rfl ?_; intro wa hba hBa) | (refine wpList_boxStore (us := [.int .i64 x.owner, .bool x.whole, .int .i64 x.span.table, .slice KA x.span.lo.length KC, .slice VA x.span.hi.length VC, .bool x.span.isOpen, .int .i64 x.mode]) (by kernel_rfl) rfl rfl rfl rfl rfl rfl hBa rfl ?_; intro W hgw hXW) | fail)
          go_simp
          have hbw : Below wr.heap.size wr W := hba.grown hgw hba.size fun k hk => by injection hk with hk; omega
          have qW : w2.grownBy W (some W0.heap.size) := grownT qr (grownB hbw _)
          have zqW := qW.size
          have hsW := hXW.lt
          have hBlt := hB.lt
          have hBW := hB.below hbw hB.lt
          have hrr : ∀ k, Value.ownBlock (.slice ad xs.length ko) = some k → (w2.heap.size) ≤ k ∧ k < wr.heap.size := fun k hk => hO.block_lt k hk
          have hrW : ∀ k, Value.ownBlock (.slice ad xs.length ko) = some k → k < W.heap.size := fun k hk => by have := hrr k hk; omega
          replace hO := (hO.below hbw).but (b := W0.heap.size) (fun k hk _ => by omega)
          replace hx := hx.below hbw
          have hlo : (w2.heap.size) ≤ W.heap.size := by omega
          have hxr : some wr.heap.size ≠ Value.ownBlock (.slice ad xs.length ko) := fun e => by have := hrr _ e.symm; omega
          have hxb : wr.heap.size ≠ W0.heap.size := by omega
          have hbr : Value.ownBlock (.slice ad xs.length ko) ≠ some W0.heap.size := fun e => by have := hrr _ e; omega
          have hb1 : W0.heap.size < (w2.heap.size) := by omega
          clear c0 c1 c2 c3 c4 c5 c6 hk1 hk2 hba hBa hgw hbw hB q
          refine wp_region_lnl (K := fun A B => Twb A B (Value.ownBlock (.slice ad xs.length ko)) (W0.heap.size)) (by kernel_rfl) (by kernel_rfl) [3, 5, 7] (by kernel_rfl) [lEq (.pointer (some ⟨W0.heap.size, 0 + 1, none⟩)), lEq (.slice ad xs.length ko), lEq (.agg #[.int .i64 x.owner, .bool x.whole, .int .i64 x.span.table, .slice KA x.span.lo.length KC, .slice VA x.span.hi.length VC, .bool x.span.isOpen, .int .i64 x.mode]), lAny, pRow Elt.lk 29 (W) (Value.ownBlock (.slice ad xs.length ko)) (W0.heap.size) x hrW hBW.lt, lAny, lEq (.pointer (some ⟨W0.heap.size, 0 + 1, none⟩)), lAny] (PshJ Elt.lk 29 ((w2.heap.size)) ((w2.heap.size)) (Value.ownBlock (.slice ad xs.length ko)) (W0.heap.size) 24 [.slice aH H.length cH, .slice ad xs.length ko] 1 (W) (xs) x) PshJ.below (show Below (W).heap.size (W) (W) from Below.refl _ _)
            ⟨?o0, ?o1, ?o2, ?o3, ?o4, ?o5, ?o6, ?o7, trivial⟩ ?fin
          case o0 =>
            refine LnOp.side rfl (by kernel_rfl) (fun A va w' k hF hT hk hJ hb hu hp hd => ?_)
            have e1 : A.eval (.tmp 3) = .pointer (some ⟨W0.heap.size, 0, none⟩) := hF 3 rfl
            exact wp_fieldN lsS rfl (e1) (by omega) ⟨_, rfl, rfl, Below.refl _ _⟩
          case o1 =>
            refine LnOp.side rfl (by kernel_rfl) (fun A va w' k hF hT hk hJ hb hu hp hd => ?_)
            have e1 : A.eval (.tmp 30) = .pointer (some ⟨W0.heap.size, 0 + 1, none⟩) := (hT 30 0 (by simp) rfl).trans (hd ⟨0, .data⟩ (by simp) rfl rfl)
            have hk1 : k ≤ 1 := hb 1 5 rfl (by kernel_rfl)
            have hJ0 := PshJ.early hJ (by simp only [List.length_map, List.length_take]; omega)
            exact wp_ld_slice (e := 29) rfl e1 (by kernel_rfl) ((hBW.below hJ0 hBW.lt).cell (i := 1) rfl) ⟨_, rfl, rfl, Below.refl _ _⟩
          case o2 =>
            refine LnOp.side rfl (by kernel_rfl) (fun A va w' k hF hT hk hJ hb hu hp hd => ?_)
            have e1 : A.eval (.tmp 7) = .pointer (some ⟨wr.heap.size, 0, none⟩) := hF 7 rfl
            have hX2 := (PshJ.two hJ).boxN hXW hxr hxb
            exact wp_loadU (us := [.int .i64 x.owner, .bool x.whole, .int .i64 x.span.table, .slice KA x.span.lo.length KC, .slice VA x.span.hi.length VC, .bool x.span.isOpen, .int .i64 x.mode]) lkS rfl e1 (fun j u hj => by rw [Nat.zero_add]; exact hX2.cell hj) ⟨_, rfl, rfl, Below.refl _ _⟩
          case o3 =>
            refine LnOp.line 0 rfl rfl (fun A va w' hF hT hJ hu hd => ?_)
            have e1 : A.eval (.tmp 32) = .agg #[.int .i64 x.owner, .bool x.whole, .int .i64 x.span.table, .slice KA x.span.lo.length KC, .slice VA x.span.hi.length VC, .bool x.span.isOpen, .int .i64 x.mode] := (hT 32 2 (by simp) rfl).trans (hd ⟨2, .data⟩ (by simp) rfl rfl)
            have hJ0 : Below (W).heap.size (W) w' := hJ
            refine wp_callFn rfl eA (by simp only [List.map_toArray, List.map_cons, List.map_nil, e1]) ((lAlone_any w' (hx.below hJ0) hx1 hx2).mono ?_)
            rintro e w2 ⟨v2, rfl, ⟨ka, kc, va2, vc, rfl, hk2, hv2, ht2⟩, hb2⟩
            have hR : Elt.lk.R (fun k => W.heap.size ≤ k ∧ k < w2.heap.size) w2 x (lkC x (.slice ka x.span.lo.length kc) (.slice va2 x.span.hi.length vc)) := ⟨_, _, rfl, hk2.weak fun k hk => ⟨Nat.le_trans hJ0.size hk.1, hk.2⟩, hv2.weak fun k hk => ⟨Nat.le_trans hJ0.size hk.1, hk.2⟩, ht2⟩
            exact ⟨_, rfl, _, rfl, ⟨hJ0.trans (hb2.mono hJ0.size), _, rfl, hR⟩, (Twb.refl (r := Value.ownBlock (.slice ad xs.length ko)) (b := W0.heap.size)).below hb2⟩
          case o4 =>
            refine LnOp.side rfl (by kernel_rfl) (fun A va w' k hF hT hk hJ hb hu hp hd => ?_)
            have x1 : A.eval (.tmp 33) = va 3 := hT 33 3 (by simp) rfl
            obtain rfl : k = 1 := by
              have h1 := hp ⟨3, .data⟩ (by simp) rfl 0 rfl
              have h2 := hb 1 5 rfl (by kernel_rfl)
              omega
            obtain ⟨hJ0, us, eus, hR⟩ := hJ
            have hb1 : Below w'.heap.size w' (w'.alloc (.cells us.toArray 29)) := (Below.refl _ _).alloc (Nat.le_refl _) _
            exact wp_buildOne lkP rfl x1 eus (Elt.len _ hR) (by decide) (by decide) ⟨_, rfl, ⟨_, us, rfl, hJ0.size, by simp only [World.alloc, Array.getElem?_push_size], Elt.weak _ (Elt.below hR hb1) fun k hk => ⟨hk.1, Nat.lt_of_lt_of_le hk.2 hb1.size⟩⟩, hb1⟩
          case o5 =>
            refine LnOp.line 1 rfl rfl (fun A va w' hF hT hJ hu hd => ?_)
            have e1 : A.eval (.tmp 31) = .slice ad xs.length ko := (hT 31 1 (by simp) rfl).trans (hd ⟨1, .data⟩ (by simp) rfl rfl)
            have x2 : A.eval (.tmp 34) = va 4 := hT 34 4 (by simp) rfl
            have y2 := hd ⟨4, .data⟩ (by simp) rfl rfl
            have hJ' := hJ
            obtain ⟨hJ0, _⟩ := hJ
            obtain ⟨g, us, eg, hg0, hgc, hgR⟩ : ∃ g, ∃ us : List Value, va 4 = .slice (some ⟨g, 0, none⟩) 1 1 ∧ (W).heap.size ≤ g ∧ w'.heap[g]? = some (.cells us.toArray 29 (0, 0)) ∧ Elt.R Elt.lk (fun k => (W).heap.size ≤ k ∧ k < w'.heap.size) w' x us := y2
            refine wp_appendL (E := Elt.but Elt.lk (W0.heap.size)) (ys := [x]) lkP rfl e1 (hO.below hJ0) (x2.trans eg) (fun j u hj => by rw [Addr.add_lit, World.cell?, hgc]; simpa using hj) (Flat.single (Elt.weak Elt.lk hgR fun k hk => ⟨hk, fun e => by have := hk.1; have := hBW.lt; omega⟩)) (fun k hk => ⟨Nat.le_trans hlo hk.1, hk.2, fun e => by have := hrW k e.symm; omega⟩) (Nat.le_trans hlo hJ0.size) (fun ad7 k7 cap7 w2 h2 hg h3 => ?_) (by simp; omega)
            obtain rfl : k7 = (xs ++ [x]).length := h2.len
            exact ⟨_, rfl, PshJ.app hJ' hBW h2 hg hbr h3, (Twb.refl (b := W0.heap.size)).row hg⟩
          case o6 =>
            refine LnOp.side rfl (by kernel_rfl) (fun A va w' k hF hT hk hJ hb hu hp hd => ?_)
            have e1 : A.eval (.tmp 3) = .pointer (some ⟨W0.heap.size, 0, none⟩) := hF 3 rfl
            exact wp_fieldN lsS rfl (e1) (by omega) ⟨_, rfl, rfl, Below.refl _ _⟩
          case o7 =>
            refine LnOp.line 2 rfl rfl (fun A va w' hF hT hJ hu hd => ?_)
            have e1 : A.eval (.tmp 36) = .pointer (some ⟨W0.heap.size, 0 + 1, none⟩) := (hT 36 6 (by simp) rfl).trans (hd ⟨6, .data⟩ (by simp) rfl rfl)
            have x2 : A.eval (.tmp 35) = va 5 := hT 35 5 (by simp) rfl
            have hJ' := hJ
            obtain ⟨hJ0, ad7, c7, es, hOs, hBs, hn7⟩ := hJ
            refine wp_boxSet (j := 1) rfl (by kernel_rfl) e1 (x2.trans es) rfl rfl hBs (by simp) (fun w2 hg hB2 => ?_)
            exact ⟨_, rfl, PshJ.sto hJ' hOs hn7 hg hB2, (Twb.refl (r := Value.ownBlock (.slice ad xs.length ko))).box hg⟩
          case fin =>
            intro vs1 W9 hJ hG
            obtain ⟨htw, ad9, c9, hO9, hB9, hn9⟩ := hJ
            have g0 : vs1 0 = .pointer (some ⟨W0.heap.size, 0 + 1, none⟩) := hG 0 (by decide) rfl
            have g1 : vs1 1 = .slice ad xs.length ko := hG 1 (by decide) rfl
            have g2 : vs1 2 = .agg #[.int .i64 x.owner, .bool x.whole, .int .i64 x.span.table, .slice KA x.span.lo.length KC, .slice VA x.span.hi.length VC, .bool x.span.isOpen, .int .i64 x.mode] := hG 2 (by decide) rfl
            have g6 : vs1 6 = .pointer (some ⟨W0.heap.size, 0 + 1, none⟩) := hG 6 (by decide) rfl
            clear hG
            simp only [putAll, g0, g1, g2, g6]
            clear g0 g1 g2 g6
            go_simp
            have q9 : w2.grownBy W9 (some W0.heap.size) := ⟨htw.os.trans qW.os, htw.tape.trans qW.tape, htw.output.trans qW.output, Nat.le_trans qW.size htw.size, fun k hk hn => (htw.block k (by omega) (fun e => by have := hrr k e.symm; omega) (fun e => hn (by rw [e]))).trans (qW.block k hk hn)⟩
            replace hO9 := hO9.unbut
            rw [← hsn.out] at hO9 hB9
            clear hBW hXW hO hx hsn htw hn9
            go_wp2_with fail
            go_roundw
            case rel => exact ⟨k + 1, ad9, c9, by go_num, by omega, hO9, hB9, q9⟩
            case measure => simp [intOf]; omega
        · obtain rfl : k = Q.length := by omega
          rw [List.take_length] at hO hB
          have b0 := hB.cell (i := 0) rfl
          have b1 := hB.cell (i := 1) rfl
          have bz2 := bz1.other qr (fun e => by injection e with e; have := bz1.lt; omega)
          go_wp2_with (first | (refine wpList_boxStore (us := [.slice aH H.length cH, .slice ad Q.length ko]) (by kernel_rfl) rfl rfl rfl rfl rfl rfl bz2 rfl ?_; intro wd hgd hBd) | fail)
          have d0 := hBd.cell (i := 0) rfl
          have d1 := hBd.cell (i := 1) rfl
          obtain ⟨fs, hu, _⟩ := lsS.hu
          refine bodyPost_ret (v := .agg #[.slice aH H.length cH, .slice ad Q.length ko]) (by simp [results, Tryd.results39, go_sem, loadVar, isAgg, run_underlying hu, run_sizeOf' lsS.hs, loadCellsFrom, Addr.add, d0, d1]) rfl ?_
          have zd := hgd.size
          have z0 := q0.size
          have hH9 := (hOH.other qr (by omega) (by omega)).other hgd (by omega) (by omega)
          have hQ9 := hO.other hgd (by omega) (by omega)
          have hHl := fun k hk => hOH.block_lt k hk
          have hQl := fun k hk => hQ9.block_lt k hk
          have hQe := hQ9.ownF
          have hHe : OwnF Elt.lk 29 (fun k => W0.heap.size + 1 ≤ k ∧ k < w2.heap.size ∧ some k ≠ Value.ownBlock (.slice aH H.length cH)) wd (.slice aH H.length cH) H := by
            refine hOH.ownF.kept (fun k hk => ?_) fun k hk => ?_
            · have h9 := hHl k hk
              exact (hgd.block k (by omega) fun e => by injection e with e; omega).trans (qr.block k h9.2 fun e => by injection e with e; omega)
            · exact (hgd.block k (by omega) fun e => by injection e with e; omega).trans (qr.block k hk.2.1 fun e => by injection e with e; omega)
          refine ⟨_, _, _, _, rfl, ⟨fun k => w.heap.size ≤ k ∧ k < wd.heap.size ∧ Value.ownBlock (.slice aH H.length cH) ≠ some k ∧ Value.ownBlock (.slice ad Q.length ko) ≠ some k, hHe.weak fun k hk => ⟨by omega, by omega, fun e => hk.2.2 e.symm, fun e => by have := hQl k e; omega⟩, hQe.weak fun k hk => ⟨by omega, hk.2.1, fun e => by have := hHl k e; omega, fun e => hk.2.2 e.symm⟩, fun k hk => hk, fun k hk => ⟨by have := hHl k hk; omega, fun e => by have := hHl k hk; have := hQl k e; omega⟩, fun k hk => by have := hQl k hk; omega⟩, q.grown hgd q.size fun k e => by injection e with e; omega⟩
end Go.Proofs.YtccoklhmbikfmaaDoor
namespace Go.Proofs.YtccoklhmbikfmaaDoor
open Go.RowKit
theorem wrap_i64m {x : Int} (h0 : -9223372036854775808 ≤ x) (h1 : x ≤ 9223372036854775807) : IntKind.i64.wrap x = x := by
  rw [IntKind.wrap_i64]; omega
set_option maxRecDepth 100000 in
theorem known_any (w : World) (a : Int) : Calls Tryd.prog 58 #[.int .i64 a] w fun e w' => e = .returned (.bool (kn a)) ∧ w' = w := by
  by_cases h : 1 ≤ a
  · have h1 : decide (1 ≤ a) = true := by simpa using h
    go_enter Tryd.func58, Tryd.ntmps58
    go_wp2_with fail
    go_ret
    exact ⟨by simp [kn, h], rfl⟩
  · have h1 : decide (1 ≤ a) = false := by simpa using h
    go_enter Tryd.func58, Tryd.ntmps58
    go_wp2_with fail
    go_ret
    exact ⟨by simp [kn]; omega, rfl⟩
set_option maxRecDepth 100000 in
theorem covers_any (w : World) (a b : Int) : Calls Tryd.prog 65 #[.int .i64 a, .int .i64 b] w fun e w' => e = .returned (.bool (covM a b)) ∧ w' = w := by
  by_cases ha : kn a = true
  case neg =>
    have ha' : kn a = false := by simpa using ha
    rw [cov_none _ ha']
    go_enter Tryd.func65, Tryd.ntmps65
    go_wp2_with fail
    refine (known_any w a).mono ?_
    rintro e w1 ⟨rfl, rfl⟩
    rw [ha']
    go_wp2_with fail
    go_ret
    exact ⟨rfl, rfl⟩
  case pos =>
  by_cases hb : kn b = true
  case neg =>
    have hb' : kn b = false := by simpa using hb
    rw [cov_none2 _ hb']
    go_enter Tryd.func65, Tryd.ntmps65
    go_wp2_with fail
    refine (known_any w a).mono ?_
    rintro e w1 ⟨rfl, rfl⟩
    rw [ha]
    go_wp2_with fail
    refine (known_any w1 b).mono ?_
    rintro e w2 ⟨rfl, rfl⟩
    rw [hb']
    go_wp2_with fail
    go_ret
    exact ⟨rfl, rfl⟩
  case pos =>
  rcases md_cases a with rfl | rfl | rfl | rfl | rfl | h <;> rcases md_cases b with rfl | rfl | rfl | rfl | rfl | h
  all_goals first
    | (exfalso; rw [h] at ha; cases ha)
    | (exfalso; rw [h] at hb; cases hb)
    | skip
  all_goals
    clear ha hb
    go_enter Tryd.func65, Tryd.ntmps65
    go_wp2_with fail
    refine (known_any w _).mono ?_
    rintro e w1 ⟨rfl, rfl⟩
    go_wp2_with fail
    refine (known_any w1 _).mono ?_
    rintro e w2 ⟨rfl, rfl⟩
    go_wp2_with fail
    go_ret
    exact ⟨rfl, rfl⟩
def TabAt (w : World) : Prop := ∀ a b : Int, kn a = true → kn b = true → w.cell? ⟨0, ((a - 1) * 5 + (b - 1)).toNat, none⟩ = some (.bool (fitM a b))
set_option maxRecDepth 100000 in
theorem fits_any (w : World) (hT : TabAt w) (a b : Int) : Calls Tryd.prog 35 #[.int .i64 a, .int .i64 b] w fun e w' => e = .returned (.bool (fitM a b)) ∧ w' = w := by
  by_cases ha : kn a = true
  case neg =>
    have ha' : kn a = false := by simpa using ha
    rw [fit_none _ ha']
    go_enter Tryd.func35, Tryd.ntmps35
    go_wp2_with fail
    refine (known_any w a).mono ?_
    rintro e w1 ⟨rfl, rfl⟩
    rw [ha']
    go_wp2_with fail
    go_ret
    exact ⟨rfl, rfl⟩
  case pos =>
  by_cases hb : kn b = true
  case neg =>
    have hb' : kn b = false := by simpa using hb
    rw [fit_none2 _ hb']
    go_enter Tryd.func35, Tryd.ntmps35
    go_wp2_with fail
    refine (known_any w a).mono ?_
    rintro e w1 ⟨rfl, rfl⟩
    rw [ha]
    go_wp2_with fail
    refine (known_any w1 b).mono ?_
    rintro e w2 ⟨rfl, rfl⟩
    rw [hb']
    go_wp2_with fail
    go_ret
    exact ⟨rfl, rfl⟩
  case pos =>
  have hc := hT a b ha hb
  clear hT
  rcases md_cases a with rfl | rfl | rfl | rfl | rfl | h <;> rcases md_cases b with rfl | rfl | rfl | rfl | rfl | h
  all_goals first
    | (exfalso; rw [h] at ha; cases ha)
    | (exfalso; rw [h] at hb; cases hb)
    | skip
  all_goals
    clear ha hb
    go_enter Tryd.func35, Tryd.ntmps35
    go_wp2_with fail
    refine (known_any w _).mono ?_
    rintro e w1 ⟨rfl, rfl⟩
    go_wp2_with fail
    refine (known_any w1 _).mono ?_
    rintro e w2 ⟨rfl, rfl⟩
    simp only [Int.reduceSub, Int.reduceMul, Int.reduceAdd, Int.reduceToNat] at hc
    go_wp2_with fail
    go_ret
    exact ⟨rfl, rfl⟩
end Go.Proofs.YtccoklhmbikfmaaDoor
namespace Go.Proofs.YtccoklhmbikfmaaDoor
open Go.RowKit
set_option maxRecDepth 100000 in
theorem join_any (w : World) (a b : Int) : Calls Tryd.prog 46 #[.int .i64 a, .int .i64 b] w fun e w' => e = .returned (.int .i64 (joinM a b)) ∧ w' = w := by
  go_enter Tryd.func46, Tryd.ntmps46
  go_upto_region 2 with (fail)
  go_loopw [7] (fun iv wr => ∃ i : Nat, iv = .int .i64 i ∧ i ≤ 5 ∧ RowKit.Hid (∀ j : Nat, j < i → (covM ((j : Int) + 1) a && covM ((j : Int) + 1) b) = false) ∧ wr = w) (fun i _ => 5 - (intOf i).toNat)
  case atStart => exact ⟨0, rfl, by omega, Lib.hid (fun j h => absurd h (by omega)), rfl⟩
  case round =>
    obtain ⟨i, rfl, hil, hno, rfl⟩ := hrel
    rcases Nat.lt_or_ge i 5 with hlt | hge
    · have d1 : decide ((i : Int) < 5) = true := by simp; omega
      have d0 : ((i : Int) < 5) = True := by simp; omega
      have w0 : IntKind.i64.wrap (1 + (i : Int)) = (i : Int) + 1 := by rw [wrap_i64m (by omega) (by omega)]; omega
      cases ha : covM ((i : Int) + 1) a
      · have H := Lib.hid (show ∀ j : Nat, j < i + 1 → (covM ((j : Int) + 1) a && covM ((j : Int) + 1) b) = false from fun j hj => by
          rcases Nat.lt_or_ge j i with h | h
          · exact hno.out j h
          · obtain rfl : j = i := by omega
            simp [ha])
        go_wp2_with fail
        refine (covers_any wr _ a).mono ?_
        rintro e w1 ⟨rfl, rfl⟩
        rw [ha]
        clear ha
        go_wp2_with fail
        go_roundw
        case rel => exact ⟨i + 1, by go_num, by omega, H, trivial⟩
        case measure => simp [intOf]; omega
      · cases hb : covM ((i : Int) + 1) b
        · have H := Lib.hid (show ∀ j : Nat, j < i + 1 → (covM ((j : Int) + 1) a && covM ((j : Int) + 1) b) = false from fun j hj => by
            rcases Nat.lt_or_ge j i with h | h
            · exact hno.out j h
            · obtain rfl : j = i := by omega
              simp [hb])
          go_wp2_with fail
          refine (covers_any wr _ a).mono ?_
          rintro e w1 ⟨rfl, rfl⟩
          rw [ha]
          go_wp2_with fail
          refine (covers_any w1 _ b).mono ?_
          rintro e w2 ⟨rfl, rfl⟩
          rw [hb]
          clear ha hb
          go_wp2_with fail
          go_roundw
          case rel => exact ⟨i + 1, by go_num, by omega, H, trivial⟩
          case measure => simp [intOf]; omega
        · have H := Lib.hid (show joinM a b = (i : Int) + 1 from join_at i hlt hno.out ha hb)
          go_wp2_with fail
          refine (covers_any wr _ a).mono ?_
          rintro e w1 ⟨rfl, rfl⟩
          rw [ha]
          go_wp2_with fail
          refine (covers_any w1 _ b).mono ?_
          rintro e w2 ⟨rfl, rfl⟩
          rw [hb]
          clear ha hb
          go_wp2_with fail
          go_ret
          exact ⟨by rw [H.out]; rfl, rfl⟩
    · obtain h5 : i = 5 := by omega
      have H := Lib.hid (show joinM a b = 0 from join_no (h5 ▸ hno.out))
      have d1 : decide ((i : Int) < 5) = false := by simp; omega
      have d0 : ((i : Int) < 5) = False := by simp; omega
      clear h5 hge
      go_wp2_with fail
      go_ret
      exact ⟨by rw [H.out]; rfl, rfl⟩
end Go.Proofs.YtccoklhmbikfmaaDoor
