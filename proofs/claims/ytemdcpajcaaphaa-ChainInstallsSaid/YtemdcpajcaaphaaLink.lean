/-
  AS IN XKept, BUT WHAT AN OPERATION LEFT MAY SPEAK OF WHAT THE OPERATIONS THAT IT HANGS ON LEFT (a store into a variable that was made on the way). Over whatever program; no condition beyond each theorem's own.
-/
import Derived.Test.YtemdcpajcaaphaaKept
import Derived.Test.YtemdcpajcaaphaaMat
namespace Go.Proofs.Ytemdcpajcaaphaa
open Go.RowKit
section
variable {P : Program} {Q : Exit → Act → World → Prop}
/-- One operation, whatever order was drawn. -/
def SoftOpL (P : Program) (Q : Exit → Act → World → Prop) (ops : Array Oper) (a : Act) (K : Nat → World → World → Prop) (R : World → Prop) (G : (Nat → Value) → Nat → World → Value → Prop) (i : Nat) (o : Oper) : Prop :=
  ∀ (A : Act) (vs : Nat → Value) (w' : World), (∀ t, slotIx ops.toList 0 t = none → A.eval (.tmp t) = a.eval (.tmp t)) → (∀ t j, t < a.tmps.size → slotIx ops.toList 0 t = some j → A.eval (.tmp t) = vs j) → R w' →
    (∀ e ∈ o.after, Region.binds .any e = true → G vs e.on w' (vs e.on)) → o.wp P A w' (fun a2 w2 => ∃ v, a2 = A.put o.dst v ∧ G vs i w2 v ∧ K i w' w2) Q
/-- One operation: carried out, or left out, for sure. -/
def GdOpL (P : Program) (Q : Exit → Act → World → Prop) (ops : Array Oper) (a : Act) (K : Nat → World → World → Prop) (R : World → Prop) (G : (Nat → Value) → Nat → World → Value → Prop) (i : Nat) (o : Oper) : Prop :=
  match o.guard with
  | none => SoftOpL P Q ops a K R G i o
  | some (j, b) => (∃ oj d, ops[j]? = some oj ∧ oj.dst = some d ∧ d < a.tmps.size) ∧ (o.after.any fun e => e.on == j && Region.binds .any e) = true ∧
      (((∀ vs w v, G vs j w v → v = .bool b) ∧ SoftOpL P Q ops a K R G i o) ∨ ((∀ vs w v, G vs j w v → v = .bool (!b) ∨ v = undef) ∧ ∀ vs w, G vs i w undef))

theorem GdOpL.plain {ops : Array Oper} {a : Act} {K : Nat → World → World → Prop} {R : World → Prop} {G : (Nat → Value) → Nat → World → Value → Prop} {i : Nat} {o : Oper} (h : o.guard = none) (h2 : SoftOpL P Q ops a K R G i o) : GdOpL P Q ops a K R G i o := by
  unfold GdOpL; rw [h]; exact h2
theorem GdOpL.taken {ops : Array Oper} {a : Act} {K : Nat → World → World → Prop} {R : World → Prop} {G : (Nat → Value) → Nat → World → Value → Prop} {i : Nat} {o : Oper} {j : Nat} {b : Bool} (h : o.guard = some (j, b)) (h1 : ∃ oj d, ops[j]? = some oj ∧ oj.dst = some d ∧ d < a.tmps.size)
    (h2 : (o.after.any fun e => e.on == j && Region.binds .any e) = true) (h3 : ∀ vs w v, G vs j w v → v = .bool b) (h4 : SoftOpL P Q ops a K R G i o) : GdOpL P Q ops a K R G i o := by
  unfold GdOpL; rw [h]; exact ⟨h1, h2, .inl ⟨h3, h4⟩⟩
theorem GdOpL.left {ops : Array Oper} {a : Act} {K : Nat → World → World → Prop} {R : World → Prop} {G : (Nat → Value) → Nat → World → Value → Prop} {i : Nat} {o : Oper} {j : Nat} {b : Bool} (h : o.guard = some (j, b)) (h1 : ∃ oj d, ops[j]? = some oj ∧ oj.dst = some d ∧ d < a.tmps.size)
    (h2 : (o.after.any fun e => e.on == j && Region.binds .any e) = true) (h3 : ∀ vs w v, G vs j w v → v = .bool (!b) ∨ v = undef) (h4 : ∀ vs w, G vs i w undef) : GdOpL P Q ops a K R G i o := by
  unfold GdOpL; rw [h]; exact ⟨h1, h2, .inr ⟨h3, h4⟩⟩

def GdAllL (P : Program) (Q : Exit → Act → World → Prop) (ops : Array Oper) (a : Act) (K : Nat → World → World → Prop) (R : World → Prop) (G : (Nat → Value) → Nat → World → Value → Prop) : Nat → List Oper → Prop
  | _, [] => True
  | i, o :: rest => GdOpL P Q ops a K R G i o ∧ GdAllL P Q ops a K R G (i + 1) rest

theorem GdAllL.get {ops : Array Oper} {a : Act} {K : Nat → World → World → Prop} {R : World → Prop} {G : (Nat → Value) → Nat → World → Value → Prop} : ∀ (l : List Oper) (k j : Nat) (o : Oper), GdAllL P Q ops a K R G k l → l[j]? = some o → GdOpL P Q ops a K R G (k + j) o
  | [], _, _, _, _, h => by simp at h
  | o' :: rest, k, 0, o, h, hj => by obtain rfl : o' = o := by simpa using hj
                                     exact h.1
  | o' :: rest, k, j + 1, o, h, hj => by rw [show k + (j + 1) = k + 1 + j by omega]; exact GdAllL.get rest (k + 1) j o h.2 (by simpa using hj)

theorem wp_region_l {id : Nat} {ops : Array Oper} {a : Act} {w : World} (hm : P.follows .mixedOrders = true) (hs : gdB ops = true) (K : Nat → World → World → Prop) (R : World → Prop) (G : (Nat → Value) → Nat → World → Value → Prop)
    (hKr : ∀ i w, K i w w) (hR0 : R { w with drawn := w.drawn + 1 }) (hRs : ∀ i A B, R A → K i A B → R B) (hst : ∀ vs i j w v w', i ≠ j → G vs i w v → K j w w' → G vs i w' v)
    (hlnk : ∀ (vs us : Nat → Value) i w v, (∀ o, ops[i]? = some o → ∀ e ∈ o.after, Region.binds .any e = true → vs e.on = us e.on) → G vs i w v → G us i w v) (hop : GdAllL P Q ops a K R G 0 ops.toList)
    (hend : ∀ (vs : Nat → Value) (w' : World), R w' → (∀ i, i < ops.size → G vs i w' (vs i)) → Q .normal (putAll a ops.toList vs 0) w') : (Code.region id ops true).wp P Q a w := by
  refine wp_region_any hm ?_
  have hnd : (ops.toList.filterMap (·.dst)).Nodup := by simp only [gdB, slotsB, Bool.and_eq_true, decide_eq_true_eq] at hs; exact hs.2
  have main : ∀ (fuel : Nat) (listed : Array Bool) (vs : Nat → Value) (w' : World), listed.size = ops.size → (unlisted ops.size listed).length ≤ fuel → R w' →
      (∀ i, i < ops.size → listed.getD i true = true → G vs i w' (vs i)) → (∀ i o, ops[i]? = some o → listed.getD i true = true → ∀ e ∈ o.after, Region.binds .any e = true → e.on < ops.size ∧ listed.getD e.on true = true) → wpAny P .any ops Q fuel listed (putAll a ops.toList vs 0) w' := by
    intro fuel
    induction fuel with
    | zero =>
      intro listed vs w' hsz hu hb hG hcl
      have hall : ∀ i, i < ops.size → listed.getD i true = true := by
        intro i hi
        cases hl : listed.getD i true with
        | true => rfl
        | false =>
          have : i ∈ unlisted ops.size listed := List.mem_filter.2 ⟨List.mem_range.2 hi, by simp [hl]⟩
          rw [List.eq_nil_of_length_eq_zero (Nat.le_zero.1 hu)] at this
          cases this
      refine ⟨?_, hend vs w' hb (fun i hi => hG i hi (hall i hi))⟩
      unfold Region.ready
      rw [List.filter_eq_nil_iff]
      intro i hi
      simp [hall i (List.mem_range.1 hi)]
    | succ fuel ih =>
      intro listed vs w' hsz hu hb hG hcl
      refine ⟨fun hr => hend vs w' hb (fun i hi => hG i hi (all_listed_gd hs hr i hi)), fun i hi => ?_⟩
      unfold Region.ready at hi
      obtain ⟨hi1, hi2⟩ := List.mem_filter.1 hi
      have hlt := List.mem_range.1 hi1
      rw [Bool.and_eq_true] at hi2
      obtain ⟨hl, hdep⟩ := hi2
      have hl' : listed.getD i true = false := by simpa using hl
      obtain ⟨o, ho⟩ : ∃ o, ops[i]? = some o := ⟨_, Array.getElem?_eq_getElem hlt⟩
      rw [ho] at hdep
      simp only [Option.map_some, Option.getD_some] at hdep
      rw [Array.all_eq_true'] at hdep
      have hgop := GdAllL.get ops.toList 0 i o hop (by rw [Array.getElem?_toList]; exact ho)
      rw [Nat.zero_add] at hgop
      have hdepG : ∀ e ∈ o.after, Region.binds .any e = true → e.on < ops.size ∧ listed.getD e.on true = true ∧ G vs e.on w' (vs e.on) := by
        intro e he hbn
        have h := hdep e he
        rw [hbn] at h
        simp only [Bool.not_true, Bool.false_or] at h
        have hin : e.on < listed.size := by
          rcases Nat.lt_or_ge e.on listed.size with h' | h'
          · exact h'
          · simp [Array.getD_eq_getD_getElem?, Array.getElem?_eq_none_iff.2 h'] at h
        have hl2 : listed.getD e.on true = true := by
          simp only [Array.getD_eq_getD_getElem?, Array.getElem?_eq_getElem hin, Option.getD_some] at h ⊢
          exact h
        exact ⟨by omega, hl2, hG e.on (by omega) hl2⟩
      have step : ∀ (v : Value) (w2 : World), K i w' w2 → G vs i w2 v → wpAny P .any ops Q fuel (listed.setIfInBounds i true) ((putAll a ops.toList vs 0).put o.dst v) w2 := by
        intro v w2 hb2 hg
        rw [putAll_put ops.toList a vs 0 i o v hnd (by rw [Array.getElem?_toList]; exact ho), Nat.zero_add]
        have hne : ∀ e : Edge, listed.getD e.on true = true → e.on ≠ i := fun e h e2 => by rw [e2, hl'] at h; cases h
        have hkeep : ∀ j, listed.getD j true = true → (listed.setIfInBounds i true).getD j true = true := fun j h => by
          by_cases hji : j = i
          · subst hji; rw [hl'] at h; cases h
          · simp only [Array.getD_eq_getD_getElem?, Array.getElem?_setIfInBounds_ne (Ne.symm hji)] at h ⊢; exact h
        have hback : ∀ j, j ≠ i → (listed.setIfInBounds i true).getD j true = true → listed.getD j true = true := fun j hji h => by
          simp only [Array.getD_eq_getD_getElem?, Array.getElem?_setIfInBounds_ne (Ne.symm hji)] at h ⊢; exact h
        refine ih _ _ _ (by simp [hsz]) (by have := unlisted_set hsz hlt hl'; omega) (hRs i _ _ hb hb2) (fun j hj hlj => ?_) (fun j oj hoj hlj e he hbn => ?_)
        · by_cases hji : j = i
          · subst hji
            refine hlnk vs _ j w2 _ (fun o2 ho2 e he hbn => ?_) (by simpa [upd] using hg)
            obtain rfl : o = o2 := by rw [ho] at ho2; injection ho2
            have := hne e (hdepG e he hbn).2.1
            simp [upd, this]
          · have hlj' := hback j hji hlj
            have hv : upd vs i v j = vs j := by simp [upd, hji]
            rw [hv]
            refine hlnk vs _ j w2 _ (fun o2 ho2 e he hbn => ?_) (hst vs j i w' _ w2 hji (hG j hj hlj') hb2)
            have := hne e (hcl j o2 ho2 hlj' e he hbn).2
            simp [upd, this]
        · by_cases hji : j = i
          · subst hji
            obtain rfl : o = oj := by rw [ho] at hoj; injection hoj
            exact ⟨(hdepG e he hbn).1, hkeep _ (hdepG e he hbn).2.1⟩
          · have := hcl j oj hoj (hback j hji hlj) e he hbn
            exact ⟨this.1, hkeep _ this.2⟩
      have run : SoftOpL P Q ops a K R G i o → o.wp P (putAll a ops.toList vs 0) w' (wpAny P .any ops Q fuel (listed.setIfInBounds i true)) Q := by
        intro hsoft
        have hwp := hsoft (putAll a ops.toList vs 0) vs w' (fun t h => eval_putAll_out _ _ _ _ _ h) (fun t j ht h => eval_putAll_in _ _ _ _ _ _ hnd ht h) hb (fun e he hbn => (hdepG e he hbn).2.2)
        refine Oper.wp_mono ?_ hwp
        rintro a2 w2 ⟨v, rfl, hg, hb2⟩
        exact step v w2 hb2 hg
      unfold wpOp
      simp only [ho]
      unfold GdOpL at hgop
      cases hgd : o.guard with
      | none =>
        rw [hgd] at hgop
        simp only [Region.wanted, hgd, if_true]
        exact .inl (run hgop)
      | some p =>
        obtain ⟨j, b⟩ := p
        rw [hgd] at hgop
        obtain ⟨⟨oj, d, hoj, hd, hdlt⟩, hany, hcase⟩ := hgop
        rw [Array.any_eq_true'] at hany
        obtain ⟨e, he, hej⟩ := hany
        rw [Bool.and_eq_true, beq_iff_eq] at hej
        obtain ⟨rfl, hbn⟩ := hej
        have hgj := (hdepG e he hbn).2.2
        have hix : slotIx ops.toList 0 d = some e.on := by
          have := slotIx_at ops.toList 0 e.on oj d hnd (by rw [Array.getElem?_toList]; exact hoj) hd
          simpa using this
        have hev := eval_putAll_in ops.toList a vs 0 d e.on hnd hdlt hix
        have hy : ∀ c, vs e.on = .bool c → yielded ops (putAll a ops.toList vs 0).tmps e.on = some c := by
          intro c hc
          have h1 : (putAll a ops.toList vs 0).tmps.getD d undef = .bool c := by
            have h2 : (putAll a ops.toList vs 0).eval (.tmp d) = (putAll a ops.toList vs 0).tmps.getD d undef := rfl
            rw [← h2, hev]; exact hc
          rw [Array.getD_eq_getD_getElem?] at h1
          cases hx : (putAll a ops.toList vs 0).tmps[d]? with
          | none => rw [hx] at h1; exact absurd h1 (by simp [undef])
          | some u =>
            rw [hx] at h1
            simp only [Option.getD_some] at h1
            simp [yielded, hoj, hd, hx, h1]
        rcases hcase with ⟨hv, hsoft⟩ | ⟨hv, hun⟩
        · have hyes := hy b (hv _ _ _ hgj)
          simp only [Region.wanted, hgd, hyes, beq_self_eq_true, if_true]
          exact .inl (run hsoft)
        · have hw0 : Region.wanted o (yielded ops (putAll a ops.toList vs 0).tmps) = false := by
            rcases hv _ _ _ hgj with hv | hv
            · simp only [Region.wanted, hgd, hy (!b) hv]; cases b <;> rfl
            · have h1 : (putAll a ops.toList vs 0).tmps.getD d undef = undef := by
                have h2 : (putAll a ops.toList vs 0).eval (.tmp d) = (putAll a ops.toList vs 0).tmps.getD d undef := rfl
                rw [← h2, hev]; exact hv
              have h3 : yielded ops (putAll a ops.toList vs 0).tmps e.on = none := by
                rw [Array.getD_eq_getD_getElem?] at h1
                cases hx : (putAll a ops.toList vs 0).tmps[d]? with
                | none => simp [yielded, hoj, hd, hx]
                | some u =>
                  rw [hx] at h1
                  simp only [Option.getD_some] at h1
                  subst h1
                  simp [yielded, hoj, hd, hx, undef]
              simp only [Region.wanted, hgd, h3]; cases b <;> rfl
          simp only [hw0]
          exact step undef w' (hKr i w') (hun vs w')
  have h0 := main ops.size (Array.replicate ops.size false) (fun i => ((ops[i]?).bind (·.dst)).elim undef (fun d => a.tmps.getD d undef)) { w with drawn := w.drawn + 1 } (by simp)
    (by have := List.length_filter_le (fun i => !(Array.replicate ops.size false).getD i true) (List.range ops.size); simpa [unlisted] using this) hR0
    (fun i hi h => by simp [Array.getD_eq_getD_getElem?, hi] at h)
    (fun i o ho h => by
      have hi : i < ops.size := (Array.getElem?_eq_some_iff.1 ho).1
      simp [Array.getD_eq_getD_getElem?, hi] at h)
  rw [putAll_orig ops.toList a _ 0 (fun j o d hj hd => by
    rw [Array.getElem?_toList] at hj
    simp [hj, hd])] at h0
  exact h0

end

section
variable {P : Program} {Q : Exit → Act → World → Prop}
def gl {ok : Nat → Prop} {t : TypeId} (Gs : List (SGk ok t)) (m j : Nat) (Gm : Value → SG) (vs : Nat → Value) (i : Nat) : World → Value → Prop := if i = m then (Gm (vs j)).1 else (Gs.getD i kAny).1
/-- A region that draws its order, of whose operations one, the m-th, stores into a variable of two cells that the j-th made, or told. -/
theorem wp_region_new {id : Nat} {ops : Array Oper} {a : Act} {w : World} (hm : P.follows .mixedOrders = true) (hs : gdB ops = true) (n₀ : Nat) (ok : Nat → Prop) (t : TypeId) (m j : Nat) (hn : n₀ ≤ w.heap.size) (hok : ∀ b, ok b → n₀ ≤ b) (Gs : List (SGk ok t)) (Gm : Value → SG)
    (hj : (ops[m]?.any fun o => o.after.any fun e => e.on == j && Region.binds .any e) = true)
    (hop : GdAllL P Q ops a (kk ok t m) (RK n₀ ok t w) (gl Gs m j Gm) 0 ops.toList)
    (hend : ∀ (vs : Nat → Value) (w' : World), RK n₀ ok t w w' → (∀ i, i < ops.size → gl Gs m j Gm vs i w' (vs i)) → Q .normal (putAll a ops.toList vs 0) w') : (Code.region id ops true).wp P Q a w := by
  refine wp_region_l hm hs (kk ok t m) (RK n₀ ok t w) (gl Gs m j Gm) ?_ ⟨⟨rfl, rfl, rfl, Nat.le_refl _, fun _ _ => rfl⟩, fun _ h => h, fun _ _ _ => rfl⟩ ?_ ?_ ?_ hop hend
  · intro i w
    unfold kk
    split
    · exact .inl rfl
    · exact Below.refl _ _
  · intro i A B hR hK
    unfold kk at hK
    split at hK
    · refine ⟨BoxK.below hR.below hK hok hn, fun b h => (hR.box b h).box hK, fun k h1 h2 => ?_⟩
      rcases hK with rfl | ⟨b, hb, hg, _⟩
      · exact hR.same k h1 h2
      · exact (hg.block k (Nat.lt_of_lt_of_le h1 hR.below.size) (fun e => h2 (by injection e with e; subst e; exact hb))).trans (hR.same k h1 h2)
    · exact ⟨hR.below.trans (hK.mono (Nat.le_trans hn hR.below.size)), fun b h => (hR.box b h).below hK, fun k h1 h2 => (hK.block k (Nat.lt_of_lt_of_le h1 hR.below.size)).trans (hR.same k h1 h2)⟩
  · intro vs i j' w v w' hij hG hK
    unfold kk at hK
    unfold gl at hG ⊢
    split at hK
    · rename_i hj
      rw [if_neg (by omega)] at hG ⊢
      exact (Gs.getD i kAny).2.2 w v w' hG hK
    · split
      · rename_i hi
        rw [if_pos hi] at hG
        exact (Gm _).2 w v w' hG hK
      · rename_i hi
        rw [if_neg hi] at hG
        exact (Gs.getD i kAny).2.1 w v w' hG hK
  · intro vs us i w v he hG
    unfold gl at hG ⊢
    split
    · rename_i hi
      subst hi
      rw [if_pos rfl] at hG
      cases ho : ops[i]? with
      | none => rw [ho] at hj; simp at hj
      | some o =>
        rw [ho] at hj
        simp only [Option.any_some, Array.any_eq_true', Bool.and_eq_true, beq_iff_eq] at hj
        obtain ⟨e, he1, rfl, he2⟩ := hj
        rw [← he o ho e he1 he2]
        exact hG
    · rename_i hi
      rw [if_neg hi] at hG
      exact hG
end
section
variable {ok : Nat → Prop} {t : TypeId}
/-- '[][]byte' of one row, that was made on the way. -/
def kRow (T : TypeId) (ys : List UInt8) : SGk ok t := ⟨fun w v => ∃ b A L C, v = .slice (some ⟨b, 0, none⟩) 1 1 ∧ w.heap[b]? = some (.cells #[.slice A L C] T (0, 0)) ∧ Rd w.heap.size w (.slice A L C) ys,
  fun _ _ _ ⟨b, A, L, C, h, hc, hr⟩ hb => ⟨b, A, L, C, h, (hb.block b (Array.getElem?_eq_some_iff.1 hc).1).trans hc, (hr.below hb).mono hb.size⟩,
  fun _ _ _ ⟨b, A, L, C, h, hc, hr⟩ hk => ⟨b, A, L, C, h, by
    rcases hk with rfl | ⟨g, _, hg, ⟨x, y, hx, _⟩, _⟩
    · exact hc
    · refine (hg.block b (Array.getElem?_eq_some_iff.1 hc).1 (fun e => ?_)).trans hc
      injection e with e
      subst e
      rw [hx] at hc
      injection hc with hc
      injection hc with hc
      simp at hc, rd_box_up hr hk⟩⟩
theorem rows_one {T : TypeId} {w : World} {b : Nat} {A : Option Addr} {L C : Nat} {ys : List UInt8} (hc : w.heap[b]? = some (.cells #[.slice A L C] T (0, 0))) (hr : Rd w.heap.size w (.slice A L C) ys) : RdRows w (.slice (some ⟨b, 0, none⟩) 1 1) [ys] := by
  refine ⟨some ⟨b, 0, none⟩, 1, rfl, Nat.le_refl _, by unfold maxLen; omega, .inr ⟨b, 0, rfl, (Array.getElem?_eq_some_iff.1 hc).1, fun r h => ?_⟩⟩
  obtain rfl : r = 0 := by simpa using h
  exact ⟨A, L, C, by simp [World.cell?, hc], hr⟩
/-- An append's answer. -/
def kApp (zs : List UInt8) (s : Int) (er : Nat) : SGk ok t := ⟨fun w v => ∃ ad k c, v = .tuple #[.agg #[.slice ad k c, .int .i64 s], .int .i64 er] ∧ Rd w.heap.size w (.slice ad k c) zs, fun _ _ _ ⟨ad, k, c, h, hr⟩ hb => ⟨ad, k, c, h, (hr.below hb).mono hb.size⟩, fun _ _ _ ⟨ad, k, c, h, hr⟩ hk => ⟨ad, k, c, h, rd_box_up hr hk⟩⟩
end
section
variable {P : Program} {T2 T : TypeId} {o : Oper} {a : Act} {K : Act → World → Prop} {Q : Exit → Act → World → Prop} {w : World}
/-- '[][]byte{x}'. -/
theorem wp_oneRow (hP : RyP P T2 T) {y : Operand} {A : Option Addr} {L C : Nat} (ho : o.op = .buildSlice T2 1 #[(0, y)]) (hy : a.eval y = .slice A L C)
    (h : K (a.put o.dst (.slice (some ⟨w.heap.size, 0, none⟩) 1 1)) (w.alloc (.cells #[.slice A L C] T))) : o.wp P a w K Q := by
  obtain ⟨i, hi, hz, hsz, hby⟩ := hP.info
  have hrun : (Instr.buildSlice T2 1 #[(0, .slice A L C)]).run P w = .ok (.slice (some ⟨w.heap.size, 0, none⟩) 1 1) (w.alloc (.cells #[.slice A L C] T)) := by
    simp [Instr.buildSlice, run_underlying hP.hT, sizeOf, typeInfo, zeroValue, hi, hz, hsz, newRow, Value.cells, Instr.fill]
    rw [show Array.range 1 = #[0] by decide]
    simp
  unfold Oper.wp execOp
  simp only [ho, hy, Sem.run_bind, Sem.run_pure, Result.andThen_ok, List.map_toArray, List.map_cons, List.map_nil, hrun]
  exact h
theorem heap_alloc_self (w : World) (o : Obj) : (w.alloc o).heap[w.heap.size]? = some o := by simp only [World.alloc, Array.getElem?_push_size]
end
end Go.Proofs.Ytemdcpajcaaphaa
