/-
  A REGION THAT DRAWS ITS ORDER, WHOSE OPERATIONS MAY WRITE: what each operation does to the world is a relation of its own (K), what holds of the world throughout is R; what an operation left stays so over each other one's. Over whatever program; no condition beyond each theorem's own.
-/
import Derived.Test.YtemdcpajcaaphaaGuard
import Derived.Test.YtemdcpajcaaphaaOps
import Derived.Test.YtemdcpajcaaphaaRyo
import Derived.Test.YtemdcpajcaaphaaSumA
namespace Go.Proofs.Ytemdcpajcaaphaa
open Go.RowKit
section
variable {P : Program} {Q : Exit → Act → World → Prop}
/-- One operation, whatever order was drawn. -/
def SoftOpK (P : Program) (Q : Exit → Act → World → Prop) (ops : Array Oper) (a : Act) (K : Nat → World → World → Prop) (R : World → Prop) (G : Nat → World → Value → Prop) (i : Nat) (o : Oper) : Prop :=
  ∀ (A : Act) (vs : Nat → Value) (w' : World), (∀ t, slotIx ops.toList 0 t = none → A.eval (.tmp t) = a.eval (.tmp t)) → (∀ t j, t < a.tmps.size → slotIx ops.toList 0 t = some j → A.eval (.tmp t) = vs j) → R w' →
    (∀ e ∈ o.after, Region.binds .any e = true → G e.on w' (vs e.on)) → o.wp P A w' (fun a2 w2 => ∃ v, a2 = A.put o.dst v ∧ G i w2 v ∧ K i w' w2) Q
/-- One operation: carried out, or left out, for sure. -/
def GdOpK (P : Program) (Q : Exit → Act → World → Prop) (ops : Array Oper) (a : Act) (K : Nat → World → World → Prop) (R : World → Prop) (G : Nat → World → Value → Prop) (i : Nat) (o : Oper) : Prop :=
  match o.guard with
  | none => SoftOpK P Q ops a K R G i o
  | some (j, b) => (∃ oj d, ops[j]? = some oj ∧ oj.dst = some d ∧ d < a.tmps.size) ∧ (o.after.any fun e => e.on == j && Region.binds .any e) = true ∧
      (((∀ w v, G j w v → v = .bool b) ∧ SoftOpK P Q ops a K R G i o) ∨ ((∀ w v, G j w v → v = .bool (!b) ∨ v = undef) ∧ ∀ w, G i w undef))

theorem GdOpK.plain {ops : Array Oper} {a : Act} {K : Nat → World → World → Prop} {R : World → Prop} {G : Nat → World → Value → Prop} {i : Nat} {o : Oper} (h : o.guard = none) (h2 : SoftOpK P Q ops a K R G i o) : GdOpK P Q ops a K R G i o := by
  unfold GdOpK; rw [h]; exact h2
theorem GdOpK.taken {ops : Array Oper} {a : Act} {K : Nat → World → World → Prop} {R : World → Prop} {G : Nat → World → Value → Prop} {i : Nat} {o : Oper} {j : Nat} {b : Bool} (h : o.guard = some (j, b)) (h1 : ∃ oj d, ops[j]? = some oj ∧ oj.dst = some d ∧ d < a.tmps.size)
    (h2 : (o.after.any fun e => e.on == j && Region.binds .any e) = true) (h3 : ∀ w v, G j w v → v = .bool b) (h4 : SoftOpK P Q ops a K R G i o) : GdOpK P Q ops a K R G i o := by
  unfold GdOpK; rw [h]; exact ⟨h1, h2, .inl ⟨h3, h4⟩⟩
theorem GdOpK.left {ops : Array Oper} {a : Act} {K : Nat → World → World → Prop} {R : World → Prop} {G : Nat → World → Value → Prop} {i : Nat} {o : Oper} {j : Nat} {b : Bool} (h : o.guard = some (j, b)) (h1 : ∃ oj d, ops[j]? = some oj ∧ oj.dst = some d ∧ d < a.tmps.size)
    (h2 : (o.after.any fun e => e.on == j && Region.binds .any e) = true) (h3 : ∀ w v, G j w v → v = .bool (!b) ∨ v = undef) (h4 : ∀ w, G i w undef) : GdOpK P Q ops a K R G i o := by
  unfold GdOpK; rw [h]; exact ⟨h1, h2, .inr ⟨h3, h4⟩⟩

def GdAllK (P : Program) (Q : Exit → Act → World → Prop) (ops : Array Oper) (a : Act) (K : Nat → World → World → Prop) (R : World → Prop) (G : Nat → World → Value → Prop) : Nat → List Oper → Prop
  | _, [] => True
  | i, o :: rest => GdOpK P Q ops a K R G i o ∧ GdAllK P Q ops a K R G (i + 1) rest

theorem GdAllK.get {ops : Array Oper} {a : Act} {K : Nat → World → World → Prop} {R : World → Prop} {G : Nat → World → Value → Prop} : ∀ (l : List Oper) (k j : Nat) (o : Oper), GdAllK P Q ops a K R G k l → l[j]? = some o → GdOpK P Q ops a K R G (k + j) o
  | [], _, _, _, _, h => by simp at h
  | o' :: rest, k, 0, o, h, hj => by obtain rfl : o' = o := by simpa using hj
                                     exact h.1
  | o' :: rest, k, j + 1, o, h, hj => by rw [show k + (j + 1) = k + 1 + j by omega]; exact GdAllK.get rest (k + 1) j o h.2 (by simpa using hj)

theorem wp_region_k {id : Nat} {ops : Array Oper} {a : Act} {w : World} (hm : P.follows .mixedOrders = true) (hs : gdB ops = true) (K : Nat → World → World → Prop) (R : World → Prop) (G : Nat → World → Value → Prop)
    (hKr : ∀ i w, K i w w) (hR0 : R { w with drawn := w.drawn + 1 }) (hRs : ∀ i A B, R A → K i A B → R B) (hst : ∀ i j w v w', i ≠ j → G i w v → K j w w' → G i w' v) (hop : GdAllK P Q ops a K R G 0 ops.toList)
    (hend : ∀ (vs : Nat → Value) (w' : World), R w' → (∀ i, i < ops.size → G i w' (vs i)) → Q .normal (putAll a ops.toList vs 0) w') : (Code.region id ops true).wp P Q a w := by
  refine wp_region_any hm ?_
  have hnd : (ops.toList.filterMap (·.dst)).Nodup := by simp only [gdB, slotsB, Bool.and_eq_true, decide_eq_true_eq] at hs; exact hs.2
  have main : ∀ (fuel : Nat) (listed : Array Bool) (vs : Nat → Value) (w' : World), listed.size = ops.size → (unlisted ops.size listed).length ≤ fuel → R w' →
      (∀ i, i < ops.size → listed.getD i true = true → G i w' (vs i)) → wpAny P .any ops Q fuel listed (putAll a ops.toList vs 0) w' := by
    intro fuel
    induction fuel with
    | zero =>
      intro listed vs w' hsz hu hb hG
      have hall : ∀ i, i < ops.size → listed.getD i true = true := by
        intro i hi
        cases hl : listed.getD i true with
        | true => rfl
        | false =>
          have : i ∈ unlisted ops.size listed := List.mem_filter.2 ⟨List.mem_range.2 hi, by simp [hl]⟩
          rw [List.eq_nil_of_length_eq_zero (Nat.le_zero.1 hu)] at this
          cases this
      refine ⟨?_, hend vs w' hb (fun i hi => hG i hi (hall i hi))⟩
      unfold Region.ready
      rw [List.filter_eq_nil_iff]
      intro i hi
      simp [hall i (List.mem_range.1 hi)]
    | succ fuel ih =>
      intro listed vs w' hsz hu hb hG
      refine ⟨fun hr => hend vs w' hb (fun i hi => hG i hi (all_listed_gd hs hr i hi)), fun i hi => ?_⟩
      unfold Region.ready at hi
      obtain ⟨hi1, hi2⟩ := List.mem_filter.1 hi
      have hlt := List.mem_range.1 hi1
      rw [Bool.and_eq_true] at hi2
      obtain ⟨hl, hdep⟩ := hi2
      have hl' : listed.getD i true = false := by simpa using hl
      obtain ⟨o, ho⟩ : ∃ o, ops[i]? = some o := ⟨_, Array.getElem?_eq_getElem hlt⟩
      rw [ho] at hdep
      simp only [Option.map_some, Option.getD_some] at hdep
      rw [Array.all_eq_true'] at hdep
      have hgop := GdAllK.get ops.toList 0 i o hop (by rw [Array.getElem?_toList]; exact ho)
      rw [Nat.zero_add] at hgop
      have hdepG : ∀ e ∈ o.after, Region.binds .any e = true → e.on < ops.size ∧ G e.on w' (vs e.on) := by
        intro e he hbn
        have h := hdep e he
        rw [hbn] at h
        simp only [Bool.not_true, Bool.false_or] at h
        have hin : e.on < listed.size := by
          rcases Nat.lt_or_ge e.on listed.size with h' | h'
          · exact h'
          · simp [Array.getD_eq_getD_getElem?, Array.getElem?_eq_none_iff.2 h'] at h
        refine ⟨by omega, hG e.on (by omega) ?_⟩
        simp only [Array.getD_eq_getD_getElem?, Array.getElem?_eq_getElem hin, Option.getD_some] at h ⊢
        exact h
      have step : ∀ (v : Value) (w2 : World), K i w' w2 → G i w2 v → wpAny P .any ops Q fuel (listed.setIfInBounds i true) ((putAll a ops.toList vs 0).put o.dst v) w2 := by
        intro v w2 hb2 hg
        rw [putAll_put ops.toList a vs 0 i o v hnd (by rw [Array.getElem?_toList]; exact ho), Nat.zero_add]
        refine ih _ _ _ (by simp [hsz]) (by have := unlisted_set hsz hlt hl'; omega) (hRs i _ _ hb hb2) (fun j hj hlj => ?_)
        by_cases hji : j = i
        · subst hji; simpa [upd] using hg
        · have : upd vs i v j = vs j := by simp [upd, hji]
          rw [this]
          refine hst j i w' _ w2 hji (hG j hj ?_) hb2
          simp only [Array.getD_eq_getD_getElem?, Array.getElem?_setIfInBounds_ne (Ne.symm hji)] at hlj ⊢
          exact hlj
      have run : SoftOpK P Q ops a K R G i o → o.wp P (putAll a ops.toList vs 0) w' (wpAny P .any ops Q fuel (listed.setIfInBounds i true)) Q := by
        intro hsoft
        have hwp := hsoft (putAll a ops.toList vs 0) vs w' (fun t h => eval_putAll_out _ _ _ _ _ h) (fun t j ht h => eval_putAll_in _ _ _ _ _ _ hnd ht h) hb (fun e he hbn => (hdepG e he hbn).2)
        refine Oper.wp_mono ?_ hwp
        rintro a2 w2 ⟨v, rfl, hg, hb2⟩
        exact step v w2 hb2 hg
      unfold wpOp
      simp only [ho]
      unfold GdOpK at hgop
      cases hgd : o.guard with
      | none =>
        rw [hgd] at hgop
        simp only [Region.wanted, hgd, if_true]
        exact .inl (run hgop)
      | some p =>
        obtain ⟨j, b⟩ := p
        rw [hgd] at hgop
        obtain ⟨⟨oj, d, hoj, hd, hdlt⟩, hany, hcase⟩ := hgop
        rw [Array.any_eq_true'] at hany
        obtain ⟨e, he, hej⟩ := hany
        rw [Bool.and_eq_true, beq_iff_eq] at hej
        obtain ⟨rfl, hbn⟩ := hej
        have hgj := (hdepG e he hbn).2
        have hix : slotIx ops.toList 0 d = some e.on := by
          have := slotIx_at ops.toList 0 e.on oj d hnd (by rw [Array.getElem?_toList]; exact hoj) hd
          simpa using this
        have hev := eval_putAll_in ops.toList a vs 0 d e.on hnd hdlt hix
        have hy : ∀ c, vs e.on = .bool c → yielded ops (putAll a ops.toList vs 0).tmps e.on = some c := by
          intro c hc
          have h1 : (putAll a ops.toList vs 0).tmps.getD d undef = .bool c := by
            have h2 : (putAll a ops.toList vs 0).eval (.tmp d) = (putAll a ops.toList vs 0).tmps.getD d undef := rfl
            rw [← h2, hev]; exact hc
          rw [Array.getD_eq_getD_getElem?] at h1
          cases hx : (putAll a ops.toList vs 0).tmps[d]? with
          | none => rw [hx] at h1; exact absurd h1 (by simp [undef])
          | some u =>
            rw [hx] at h1
            simp only [Option.getD_some] at h1
            simp [yielded, hoj, hd, hx, h1]
        rcases hcase with ⟨hv, hsoft⟩ | ⟨hv, hun⟩
        · have hyes := hy b (hv _ _ hgj)
          simp only [Region.wanted, hgd, hyes, beq_self_eq_true, if_true]
          exact .inl (run hsoft)
        · have hw0 : Region.wanted o (yielded ops (putAll a ops.toList vs 0).tmps) = false := by
            rcases hv _ _ hgj with hv | hv
            · simp only [Region.wanted, hgd, hy (!b) hv]; cases b <;> rfl
            · have h1 : (putAll a ops.toList vs 0).tmps.getD d undef = undef := by
                have h2 : (putAll a ops.toList vs 0).eval (.tmp d) = (putAll a ops.toList vs 0).tmps.getD d undef := rfl
                rw [← h2, hev]; exact hv
              have h3 : yielded ops (putAll a ops.toList vs 0).tmps e.on = none := by
                rw [Array.getD_eq_getD_getElem?] at h1
                cases hx : (putAll a ops.toList vs 0).tmps[d]? with
                | none => simp [yielded, hoj, hd, hx]
                | some u =>
                  rw [hx] at h1
                  simp only [Option.getD_some] at h1
                  subst h1
                  simp [yielded, hoj, hd, hx, undef]
              simp only [Region.wanted, hgd, h3]; cases b <;> rfl
          simp only [hw0]
          exact step undef w' (hKr i w') (hun w')
  have h0 := main ops.size (Array.replicate ops.size false) (fun i => ((ops[i]?).bind (·.dst)).elim undef (fun d => a.tmps.getD d undef)) { w with drawn := w.drawn + 1 } (by simp)
    (by have := List.length_filter_le (fun i => !(Array.replicate ops.size false).getD i true) (List.range ops.size); simpa [unlisted] using this) hR0
    (fun i hi h => by simp [Array.getD_eq_getD_getElem?, hi] at h)
  rw [putAll_orig ops.toList a _ 0 (fun j o d hj hd => by
    rw [Array.getElem?_toList] at hj
    simp [hj, hd])] at h0
  exact h0

end

/-- No byte. -/
def NotU8 (v : Value) : Prop := ∀ i, v ≠ .int .u8 i
theorem notU8_slice (a : Option Addr) (n c : Nat) : NotU8 (.slice a n c) := fun i h => by cases h
theorem notU8_int (n : Int) : NotU8 (.int .i64 n) := fun i h => by cases h
/-- A variable of two cells, none of them a byte. -/
def IsBox (w : World) (t : TypeId) (b : Nat) : Prop := ∃ x y, w.heap[b]? = some (.cells #[x, y] t (0, 0)) ∧ NotU8 x ∧ NotU8 y
/-- A store into such a variable, that is one of these. -/
def BoxK (ok : Nat → Prop) (t : TypeId) (A B : World) : Prop := A = B ∨ ∃ b, ok b ∧ A.grownBy B (some b) ∧ IsBox A t b ∧ IsBox B t b
theorem BoxK.below {n₀ : Nat} {ok : Nat → Prop} {t : TypeId} {W A B : World} (h : Below n₀ W A) (k : BoxK ok t A B) (hok : ∀ b, ok b → n₀ ≤ b) (hn : n₀ ≤ W.heap.size) : Below n₀ W B := by
  rcases k with rfl | ⟨b, hb, hg, _⟩
  · exact h
  · exact h.grown hg (Nat.le_trans hn h.size) (fun k e => by cases e; exact hok _ hb)
theorem rd_core {B : Nat} {t : TypeId} {w w' : World} {v : Value} {xs : List UInt8} {g : Nat} {x y : Value} (h : Rd B w v xs) (hB : B ≤ w.heap.size) (hg : w.grownBy w' (some g)) (hx : w.heap[g]? = some (.cells #[x, y] t (0, 0))) (h1 : NotU8 x) (h2 : NotU8 y) : Rd B w' v xs := by
  rcases h with h | ⟨b, off, cap, hv, hb, h3, h4, hc⟩
  · exact .inl h
  by_cases h0 : xs = []
  · subst h0
    exact .inl ⟨_, _, hv, h4, rfl⟩
  have hpos : 0 < xs.length := List.length_pos_iff.2 h0
  have hne : some b ≠ some g := by
    intro e
    injection e with e
    subst e
    have hc0 := hc 0 (.int .u8 (xs[0].toNat : Int)) (by simp [bv, hpos])
    rw [World.cell?] at hc0
    simp only [hx] at hc0
    rcases Nat.lt_or_ge (off + 0) 2 with ho | ho
    · rcases (show off + 0 = 0 ∨ off + 0 = 1 by omega) with ho | ho
      · rw [ho] at hc0; simp at hc0; exact h1 _ hc0
      · rw [ho] at hc0; simp at hc0; exact h2 _ hc0
    · rw [Array.getElem?_eq_none (by simpa using ho)] at hc0; cases hc0
  exact .inr ⟨b, off, cap, hv, hb, h3, h4, fun j u hj => by rw [← hc j u hj]; simp [World.cell?, hg.block b (by omega) hne]⟩
theorem Rd.box {ok : Nat → Prop} {B : Nat} {t : TypeId} {w w' : World} {v : Value} {xs : List UInt8} (h : Rd B w v xs) (hB : B ≤ w.heap.size) (k : BoxK ok t w w') : Rd B w' v xs := by
  rcases k with rfl | ⟨g, _, hg, ⟨x, y, hx, h1, h2⟩, _⟩
  · exact h
  · exact rd_core h hB hg hx h1 h2
theorem grown_set (w : World) (g i : Nat) (z : Value) : w.grownBy (w.setCell ⟨g, i, none⟩ z) (some g) :=
  ⟨rfl, rfl, rfl, by simp [World.setCell], fun k _ hne => heap_setCell_other w ⟨g, i, none⟩ k z (fun e => hne (by simp [e]))⟩

/-- What stays so over new memory, and over a store into a variable of two cells. -/
abbrev SGk (ok : Nat → Prop) (t : TypeId) := { G : World → Value → Prop // (∀ w v w', G w v → Below w.heap.size w w' → G w' v) ∧ (∀ w v w', G w v → BoxK ok t w w' → G w' v) }
section
variable {ok : Nat → Prop} {t : TypeId}
def kEq (u : Value) : SGk ok t := ⟨fun _ v => v = u, fun _ _ _ h _ => h, fun _ _ _ h _ => h⟩
def kAny : SGk ok t := ⟨fun _ _ => True, fun _ _ _ h _ => h, fun _ _ _ h _ => h⟩
theorem rd_box_up {w w' : World} {v : Value} {xs : List UInt8} (h : Rd w.heap.size w v xs) (k : BoxK ok t w w') : Rd w'.heap.size w' v xs := by
  refine (h.box (Nat.le_refl _) k).mono ?_
  rcases k with rfl | ⟨_, _, hg, _⟩
  · exact Nat.le_refl _
  · exact hg.size
def kRd (xs : List UInt8) : SGk ok t := ⟨fun w v => ∃ ad k c, v = .slice ad k c ∧ Rd w.heap.size w (.slice ad k c) xs, fun _ _ _ ⟨ad, k, c, h, hr⟩ hb => ⟨ad, k, c, h, (hr.below hb).mono hb.size⟩, fun _ _ _ ⟨ad, k, c, h, hr⟩ hk => ⟨ad, k, c, h, rd_box_up hr hk⟩⟩
theorem own_box {E : TypeId} {base : Nat} {w w' : World} {v : Value} {xs : List UInt8} (hE : E ≠ t) (h : Own E base w v xs) (k : BoxK ok t w w') : Own E base w' v xs := by
  rcases k with rfl | ⟨g, _, hg, ⟨x, y, hx, _, _⟩, _⟩
  · exact h
  · obtain ⟨n, h⟩ := h
    refine ⟨n, World.ownsRow.kept h hg ?_⟩
    rcases h.2 with ⟨rfl, _⟩ | ⟨g2, cap, cur, rfl, _, hg2, _⟩
    · exact .inl rfl
    · right
      intro e
      obtain rfl : g2 = g := by simpa [Value.ownBlock] using e
      rw [hx] at hg2
      injection hg2 with h1
      injection h1 with _ h2
      exact hE h2.symm
def kOwn (E : TypeId) (hE : E ≠ t) (base : Nat) (xs : List UInt8) : SGk ok t := ⟨fun w v => ∃ ad k c, v = .slice ad k c ∧ Own E base w (.slice ad k c) xs, fun _ _ _ ⟨ad, k, c, h, hr⟩ hb => ⟨ad, k, c, h, hr.below hb⟩, fun _ _ _ ⟨ad, k, c, h, hr⟩ hk => ⟨ad, k, c, h, own_box hE hr hk⟩⟩
def kZero (E : TypeId) (hE : E ≠ t) (base : Nat) : SGk ok t := ⟨fun w v => ∃ g, v = .slice (some g) 0 0 ∧ Own E base w (.slice (some g) 0 0) [], fun _ _ _ ⟨g, h, hr⟩ hb => ⟨g, h, hr.below hb⟩, fun _ _ _ ⟨g, h, hr⟩ hk => ⟨g, h, own_box hE hr hk⟩⟩
/-- A log's value, its bytes the call's own. -/
def kLogO (E : TypeId) (hE : E ≠ t) (base : Nat) (xs : List UInt8) (s : Int) : SGk ok t := ⟨fun w v => ∃ ad k c, v = .agg #[.slice ad k c, .int .i64 s] ∧ Own E base w (.slice ad k c) xs, fun _ _ _ ⟨ad, k, c, h, hr⟩ hb => ⟨ad, k, c, h, hr.below hb⟩, fun _ _ _ ⟨ad, k, c, h, hr⟩ hk => ⟨ad, k, c, h, own_box hE hr hk⟩⟩
/-- A log's value. -/
def kLog (xs : List UInt8) (s : Int) : SGk ok t := ⟨fun w v => ∃ ad k c, v = .agg #[.slice ad k c, .int .i64 s] ∧ Rd w.heap.size w (.slice ad k c) xs, fun _ _ _ ⟨ad, k, c, h, hr⟩ hb => ⟨ad, k, c, h, (hr.below hb).mono hb.size⟩, fun _ _ _ ⟨ad, k, c, h, hr⟩ hk => ⟨ad, k, c, h, rd_box_up hr hk⟩⟩
end
section
variable {P : Program} {Q : Exit → Act → World → Prop}
def kk (ok : Nat → Prop) (t : TypeId) (m : Nat) (i : Nat) (A B : World) : Prop := if i = m then BoxK ok t A B else Below A.heap.size A B
def gk {ok : Nat → Prop} {t : TypeId} (Gs : List (SGk ok t)) (m : Nat) (Gm : SG) (i : Nat) : World → Value → Prop := if i = m then Gm.1 else (Gs.getD i kAny).1
/-- What holds of the world throughout. -/
structure RK (n₀ : Nat) (ok : Nat → Prop) (t : TypeId) (w w' : World) : Prop where
  below : Below n₀ w w'
  box : ∀ b, IsBox w t b → IsBox w' t b
  same : ∀ k, k < w.heap.size → ¬ ok k → w'.heap[k]? = w.heap[k]?
theorem RK.pair {n₀ : Nat} {ok : Nat → Prop} {t u : TypeId} {w w' : World} (h : RK n₀ ok t w w') {b : Nat} {x y : Value} (hp : PairV w b u x y) (hb : ¬ ok b) : PairV w' b u x y := (h.same b hp.lt hb).trans hp
theorem IsBox.below {t : TypeId} {b : Nat} {A B : World} (h : IsBox A t b) (hb : Below A.heap.size A B) : IsBox B t b := by
  obtain ⟨x, y, hx, h1, h2⟩ := h
  exact ⟨x, y, (hb.block b (Array.getElem?_eq_some_iff.1 hx).1).trans hx, h1, h2⟩
theorem IsBox.box {ok : Nat → Prop} {t : TypeId} {b : Nat} {A B : World} (h : IsBox A t b) (k : BoxK ok t A B) : IsBox B t b := by
  rcases k with rfl | ⟨g, _, hg, _, hB⟩
  · exact h
  · by_cases e : b = g
    · subst e; exact hB
    · obtain ⟨x, y, hx, h1, h2⟩ := h
      exact ⟨x, y, (hg.block b (Array.getElem?_eq_some_iff.1 hx).1 (fun e' => e (by injection e'))).trans hx, h1, h2⟩
/-- A variable of two cells that was made on the way. -/
def kBox {ok : Nat → Prop} {t : TypeId} : SGk ok t := ⟨fun w v => ∃ b, v = .pointer (some ⟨b, 0, none⟩) ∧ ok b ∧ IsBox w t b, fun _ _ _ ⟨b, h, h0, hx⟩ hb => ⟨b, h, h0, hx.below hb⟩, fun _ _ _ ⟨b, h, h0, hx⟩ hk => ⟨b, h, h0, hx.box hk⟩⟩
/-- A region that draws its order, of whose operations one, the m-th, stores into a variable of two cells. -/
theorem wp_region_box {id : Nat} {ops : Array Oper} {a : Act} {w : World} (hm : P.follows .mixedOrders = true) (hs : gdB ops = true) (n₀ : Nat) (ok : Nat → Prop) (t : TypeId) (m : Nat) (hn : n₀ ≤ w.heap.size) (hok : ∀ b, ok b → n₀ ≤ b) (Gs : List (SGk ok t)) (Gm : SG)
    (hop : GdAllK P Q ops a (kk ok t m) (RK n₀ ok t w) (gk Gs m Gm) 0 ops.toList)
    (hend : ∀ (vs : Nat → Value) (w' : World), RK n₀ ok t w w' → (∀ i, i < ops.size → gk Gs m Gm i w' (vs i)) → Q .normal (putAll a ops.toList vs 0) w') : (Code.region id ops true).wp P Q a w := by
  refine wp_region_k hm hs (kk ok t m) (RK n₀ ok t w) (gk Gs m Gm) ?_ ⟨⟨rfl, rfl, rfl, Nat.le_refl _, fun _ _ => rfl⟩, fun _ h => h, fun _ _ _ => rfl⟩ ?_ ?_ hop hend
  · intro i w
    unfold kk
    split
    · exact .inl rfl
    · exact Below.refl _ _
  · intro i A B hR hK
    unfold kk at hK
    split at hK
    · refine ⟨BoxK.below hR.below hK hok hn, fun b h => (hR.box b h).box hK, fun k h1 h2 => ?_⟩
      rcases hK with rfl | ⟨b, hb, hg, _⟩
      · exact hR.same k h1 h2
      · exact (hg.block k (Nat.lt_of_lt_of_le h1 hR.below.size) (fun e => h2 (by injection e with e; subst e; exact hb))).trans (hR.same k h1 h2)
    · exact ⟨hR.below.trans (hK.mono (Nat.le_trans hn hR.below.size)), fun b h => (hR.box b h).below hK, fun k h1 h2 => (hK.block k (Nat.lt_of_lt_of_le h1 hR.below.size)).trans (hR.same k h1 h2)⟩
  · intro i j w v w' hij hG hK
    unfold kk at hK
    unfold gk at hG ⊢
    split at hK
    · rename_i hj
      rw [if_neg (by omega)] at hG ⊢
      exact (Gs.getD i kAny).2.2 w v w' hG hK
    · split
      · rename_i hi
        rw [if_pos hi] at hG
        exact Gm.2 w v w' hG hK
      · rename_i hi
        rw [if_neg hi] at hG
        exact (Gs.getD i kAny).2.1 w v w' hG hK
end

/-- What a program must have: a struct of two fields, a cell each. -/
structure PrP (P : Program) (t : TypeId) (x0 y0 : Value) : Prop where
  hu : ∃ f0 f1, P.underlying t = some (.struct #[f0, f1]) ∧ f0.offset = 0 ∧ f1.offset = 1 ∧ (P.info? f0.type).map (·.size) = some 1 ∧ (P.info? f1.type).map (·.size) = some 1
  hi : (P.info? t).map (fun i => (i.zero, i.size)) = some (some (.agg #[x0, y0]), 2)
section
variable {P : Program} {t : TypeId} {x0 y0 : Value} {o : Oper} {a : Act} {K : Act → World → Prop} {Q : Exit → Act → World → Prop} {w : World}
theorem run_sizeOf {ty : TypeId} {n : Nat} (h : (P.info? ty).map (·.size) = some n) (w : World) : (sizeOf ty).run P w = .ok n w := by
  cases hi : P.info? ty with
  | none => simp [hi] at h
  | some i => simp [hi] at h; simp [sizeOf, typeInfo, hi, h]
theorem PrP.size (hP : PrP P t x0 y0) : (P.info? t).map (·.size) = some 2 := by
  have h := hP.hi
  cases hi : P.info? t with
  | none => simp [hi] at h
  | some i => simp [hi] at h; simp [h.2]
theorem PrP.zero (hP : PrP P t x0 y0) (w : World) : (zeroValue t).run P w = .ok (.agg #[x0, y0]) w := by
  have h := hP.hi
  cases hi : P.info? t with
  | none => simp [hi] at h
  | some i => simp [hi] at h; simp [zeroValue, typeInfo, hi, h.1]
theorem wp_fieldA (hP : PrP P t x0 y0) {x : Operand} {b i : Nat} (ho : o.op = .fieldAddr t x i) (hx : a.eval x = .pointer (some ⟨b, 0, none⟩)) (hi : i < 2) (h : K (a.put o.dst (.pointer (some ⟨b, i, none⟩))) w) : o.wp P a w K Q := by
  obtain ⟨f0, f1, hu, e0, e1, s0, s1⟩ := hP.hu
  refine wp_run ?_ h
  simp only [execOp, ho, hx]
  rcases (show i = 0 ∨ i = 1 by omega) with rfl | rfl
  · simp [Instr.fieldAt, run_underlying hu, fieldPlace, e0, run_sizeOf s0, go_sem]
  · simp [Instr.fieldAt, run_underlying hu, fieldPlace, e1, run_sizeOf s1, go_sem]
theorem wp_loadP (hP : PrP P t x0 y0) {x : Operand} {b : Nat} {u v : Value} (ho : o.op = .load t x) (hx : a.eval x = .pointer (some ⟨b, 0, none⟩)) (h0 : w.cell? ⟨b, 0, none⟩ = some u) (h1 : w.cell? ⟨b, 1, none⟩ = some v) (h : K (a.put o.dst (.agg #[u, v])) w) : o.wp P a w K Q := by
  obtain ⟨f0, f1, hu, e0, e1, s0, s1⟩ := hP.hu
  refine wp_run ?_ h
  simp only [execOp, ho, hx]
  simp [Instr.loadAt, loadVar, isAgg, run_underlying hu, run_sizeOf hP.size, loadCellsFrom, Addr.add, h0, h1, go_sem]
theorem wp_buildP (hP : PrP P t x0 y0) {x y : Operand} {u v : Value} (ho : o.op = .build t #[(0, x), (1, y)]) (hx : a.eval x = u) (hy : a.eval y = v) (hu1 : u.cells = #[u]) (hv1 : v.cells = #[v]) (h : K (a.put o.dst (.agg #[u, v])) w) : o.wp P a w K Q := by
  obtain ⟨f0, f1, hu, e0, e1, s0, s1⟩ := hP.hu
  refine wp_run ?_ h
  simp only [execOp, ho, List.map_toArray, List.map_cons, List.map_nil, hx, hy]
  simp [Instr.build, run_underlying hu, hP.zero, run_sizeOf s0, run_sizeOf s1, Instr.fill, hu1, hv1, e0, e1, show (Value.agg #[x0, y0]).cells = #[x0, y0] from rfl]
theorem wp_skip {w2 : World} (hrun : (execOp a.eval o).run P w = .ok .skip w2) (h : K (a.put o.dst undef) w2) : o.wp P a w K Q := by
  unfold Oper.wp
  rw [hrun]
  exact h
theorem wp_storeP (hP : PrP P t x0 y0) {x y : Operand} {b : Nat} {u v u0 v0 : Value} (ho : o.op = .store t x y) (hx : a.eval x = .pointer (some ⟨b, 0, none⟩)) (hy : a.eval y = .agg #[u, v]) (hu1 : u.oneCell' = true) (hv1 : v.oneCell' = true) (ty : TypeId) (hb : w.heap[b]? = some (.cells #[u0, v0] ty (0, 0)))
    (h : ∀ w2, w.grownBy w2 (some b) → w2.heap[b]? = some (.cells #[u, v] ty (0, 0)) → K (a.put o.dst undef) w2) : o.wp P a w K Q := by
  refine wp_skip (w2 := (w.setCell ⟨b, 0, none⟩ u).setCell ⟨b, 1, none⟩ v) ?_ ?_
  · have hc0 : w.cell? ⟨b, 0, none⟩ = some u0 := by simp [World.cell?, hb]
    have hf0 : w.frozen? ⟨b, 0, none⟩ = false := by simp [World.frozen?, hb]
    have hb1 : (w.setCell ⟨b, 0, none⟩ u).heap[b]? = some (.cells #[u, v0] ty (0, 0)) := by simp [World.setCell, Array.getElem?_modify, hb]
    have hc1 : (w.setCell ⟨b, 0, none⟩ u).cell? ⟨b, 1, none⟩ = some v0 := by simp [World.cell?, hb1]
    have hf1 : (w.setCell ⟨b, 0, none⟩ u).frozen? ⟨b, 1, none⟩ = false := by simp [World.frozen?, hb1]
    simp only [execOp, ho, hx, hy]
    simp [Instr.storeAt, storeVar, run_sizeOf hP.size, storeCells, Value.cells, Addr.add, run_store _ _ _ _ _ hu1, run_store _ _ _ _ _ hv1, hc0, hf0, hc1, hf1, go_sem]
  · refine h _ ?_ ?_
    · refine ⟨rfl, rfl, rfl, by simp [World.setCell], fun k hk hne => ?_⟩
      rw [heap_setCell_other _ ⟨b, 1, none⟩ k _ (fun e => hne (by simp [e])), heap_setCell_other _ ⟨b, 0, none⟩ k _ (fun e => hne (by simp [e]))]
    · simp [World.setCell, Array.getElem?_modify, hb]
theorem wp_allocP (hP : PrP P t x0 y0) (ho : o.op = .alloc t) (h : K (a.put o.dst (.pointer (some ⟨w.heap.size, 0, none⟩))) (w.alloc (.cells #[x0, y0] t))) : o.wp P a w K Q := by
  have hrun : (execOp a.eval o).run P w = .ok (.value (.pointer (some ⟨w.heap.size, 0, none⟩))) (w.alloc (.cells #[x0, y0] t)) := by
    simp only [execOp, ho]
    simp [Instr.alloc, hP.zero, newVar, newRow, Value.cells, go_sem]
  unfold Oper.wp
  rw [hrun]
  exact h
end

/-- A variable of two cells: what a store of one of them, of both, leaves. -/
theorem PairV.put0 {W : World} {g : Nat} {t : TypeId} {x y : Value} (h : PairV W g t x y) (u : Value) : PairV (W.setCell ⟨g, 0, none⟩ u) g t u y := by
  unfold PairV at h ⊢
  simp [World.setCell, Array.getElem?_modify, h]
theorem PairV.put1 {W : World} {g : Nat} {t : TypeId} {x y : Value} (h : PairV W g t x y) (u : Value) : PairV (W.setCell ⟨g, 1, none⟩ u) g t x u := by
  unfold PairV at h ⊢
  simp [World.setCell, Array.getElem?_modify, h]
theorem PairV.keep {W : World} {b g : Nat} {t : TypeId} {x y : Value} (h : PairV W b t x y) (hne : b ≠ g) (i : Nat) (z : Value) : PairV (W.setCell ⟨g, i, none⟩ z) b t x y :=
  (heap_setCell_other W ⟨g, i, none⟩ b z (fun e => hne (by simp at e; exact e))).trans h
theorem rd_set {B : Nat} {W : World} {g : Nat} {t : TypeId} {x y v : Value} {xs : List UInt8} (h : Rd B W v xs) (hB : B ≤ W.heap.size) (hp : PairV W g t x y) (hx : NotU8 x) (hy : NotU8 y) (i : Nat) (z : Value) : Rd B (W.setCell ⟨g, i, none⟩ z) v xs :=
  rd_core h hB (grown_set W g i z) hp hx hy
theorem size_set (W : World) (p : Addr) (z : Value) : (W.setCell p z).heap.size = W.heap.size := by simp [World.setCell]

/-- 'min(m, n)' of two whole numbers. -/
theorem wp_minI {P : Program} {o : Oper} {a : Act} {K : Act → World → Prop} {Q : Exit → Act → World → Prop} {w : World} {x y : Operand} {ts : Array TypeId} {m n k : Int} (ho : o.op = .call { callee := .builtin .min, args := #[x, y], argTypes := ts }) (hx : a.eval x = .int .i64 m) (hy : a.eval y = .int .i64 n) (hk : k = min m n)
    (h : K (a.put o.dst (.int .i64 k)) w) : o.wp P a w K Q := by
  have hrun : (Builtin.min_ ts o.type #[.int .i64 m, .int .i64 n]).run P w = .ok (.int .i64 k) w := by
    subst hk
    simp [Builtin.min_, Builtin.min2]
    omega
  refine wp_run ?_ h
  simp only [execOp, ho, resolve, invoke, builtin, Sem.run_bind, Sem.run_pure, Result.andThen_ok, List.map_toArray, List.map_cons, List.map_nil, hx, hy, hrun]

/-- What reads as bytes ahead of the region reads so throughout: one variable is stored. -/
theorem RK.rd {n₀ g : Nat} {t : TypeId} {w w' : World} (h : RK n₀ (· = g) t w w') {v : Value} {xs : List UInt8} (hr : Rd w.heap.size w v xs) {x y : Value} (hp : PairV w g t x y) (hx : NotU8 x) (hy : NotU8 y) : Rd w'.heap.size w' v xs := by
  have hg : w.grownBy w' (some g) := ⟨h.below.os, h.below.tape, h.below.output, h.below.size, fun k hk hne => h.same k hk (fun e => hne (by rw [e]))⟩
  exact (rd_core hr (Nat.le_refl _) hg hp hx hy).mono h.below.size
theorem own_core {E t : TypeId} {base : Nat} {w w' : World} {v : Value} {xs : List UInt8} {g : Nat} {x y : Value} (hE : E ≠ t) (h : Own E base w v xs) (hg : w.grownBy w' (some g)) (hx : w.heap[g]? = some (.cells #[x, y] t (0, 0))) : Own E base w' v xs := by
  obtain ⟨n, h⟩ := h
  refine ⟨n, World.ownsRow.kept h hg ?_⟩
  rcases h.2 with ⟨rfl, _⟩ | ⟨g2, cap, cur, rfl, _, hg2, _⟩
  · exact .inl rfl
  · right
    intro e
    obtain rfl : g2 = g := by simpa [Value.ownBlock] using e
    rw [hx] at hg2
    injection hg2 with h1
    injection h1 with _ h2
    exact hE h2.symm
end Go.Proofs.Ytemdcpajcaaphaa
