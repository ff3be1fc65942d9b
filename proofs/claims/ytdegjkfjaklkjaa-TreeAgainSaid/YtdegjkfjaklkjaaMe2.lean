/-
  TEXTS OF ONE PROOF, merged: Make, Aux, VerD, Guard, Row, Mat, Ryo, SumA, Kept.
-/
import Derived.BigQuiet
import Derived.ChangeAlike
import Derived.Deep.Cut
import Derived.Deep.Matrix
import Derived.Deep.QuietTactic
import Derived.Laws.MakeOwn
import Derived.Laws.OwnMore
import Derived.Lib.Hide
import Derived.Maps.AppendAt
import Derived.OpenShut
import Derived.RegionTactic
import Derived.Test.YtdegjkfjaklkjaaProg
import Derived.WalkKit
import Derived.WalkLawsBesides
import Derived.WalkSpells
import Derived.Test.YtdegjkfjaklkjaaMe1
namespace Go.Proofs.Ytdegjkfjaklkjaa
open Go.RowKit
section
variable {P : Program} {T E S : TypeId} {ops : Array Oper} {rest : List Oper} {o : Oper} {a : Act} {Q : Exit → Act → World → Prop} {w : World}
theorem bv_replicate (n : Nat) : bv (List.replicate n 0) = List.replicate n (.int .u8 0) := by simp [bv]
end
section
variable {E : TypeId} {base : Nat} {w : World} {v : Value} {xs : List UInt8}
theorem Own.some (h : Own E base w v xs) (hne : 0 < xs.length) : ∃ g cap, v = .slice (some ⟨g, 0, none⟩) xs.length cap ∧ base ≤ g ∧ g < w.heap.size ∧ xs.length ≤ cap ∧ cap ≤ maxLen ∧
    (∀ k, w.frozen? ⟨g, k, none⟩ = false) ∧ (∀ k (hk : k < xs.length), w.cell? ⟨g, k, none⟩ = some (.int .u8 (xs[k].toNat : Int))) ∧
    ∀ (k : Nat) (b : UInt8), k < xs.length → Own E base (w.setCell ⟨g, k, none⟩ (.int .u8 (b.toNat : Int))) (.slice (some ⟨g, 0, none⟩) xs.length cap) (xs.set k b) := by
  obtain ⟨n, h⟩ := h
  obtain rfl := own_n h
  have hx := h
  rcases h.2 with ⟨rfl, h0⟩ | ⟨g, cap, cur, rfl, hb, hg, hn, hc, hcs, ht⟩
  · omega
  · refine ⟨g, cap, rfl, hb, (Array.getElem?_eq_some_iff.1 hg).1, hn, hc, fun k => by simp [World.frozen?, hg], fun k hk => ?_, fun k b hk => ⟨xs.length, by simp [bv], .inr ⟨g, cap, cur.setIfInBounds k (.int .u8 (b.toNat : Int)), rfl, hb, ?_, hn, hc, by simp [hcs], ?_⟩⟩⟩
    · have := hx.cells (g := g) rfl k (.int .u8 (xs[k].toNat : Int)) (by simp [bv, hk])
      simpa [Addr.add_lit] using this
    · simp [World.setCell, Array.getElem?_modify, hg]
    · simp only [Array.toList_setIfInBounds]
      rw [List.take_set, ht]
      simp [bv, List.map_set]
end
end Go.Proofs.Ytdegjkfjaklkjaa
namespace Go.Proofs.Ytdegjkfjaklkjaa
open Go.RowKit
theorem byP : ByP Try.prog 27 5 9 := ⟨by kernel_rfl, by kernel_rfl, by kernel_rfl, by kernel_rfl⟩
theorem Rd.cellAt {B : Nat} {w : World} {ad : Option Addr} {n c : Nat} {xs : List UInt8} (h : Rd B w (.slice ad n c) xs) (k : Nat) (hk : k < xs.length) :
    ∃ b off, ad = some ⟨b, off, none⟩ ∧ b < B ∧ ∀ j (hj : j < xs.length), w.cell? ⟨b, off + j, none⟩ = some (.int .u8 (xs[j].toNat : Int)) := by
  rcases h with ⟨a, c', h, _, rfl⟩ | ⟨b, off, cap, h, hBb, h1, h2, hc⟩
  · exact absurd hk (Nat.not_lt_zero _)
  · cases h
    exact ⟨b, off, rfl, hBb, fun j hj => hc j _ (bv_get xs j hj)⟩
end Go.Proofs.Ytdegjkfjaklkjaa
namespace Go.Proofs.Ytdegjkfjaklkjaa
open Go.RowKit
def ReadVEnd (w : World) (l : List Ver) (s : Int) (e : Ending) (w' : World) : Prop :=
  ∃ a c, e = .returned (.tuple #[.slice a ((readV l s).getD []).length c, .bool (readV l s).isSome]) ∧ RdS (fun k => w.heap.size ≤ k ∧ k < w'.heap.size) w' (.slice a ((readV l s).getD []).length c) ((readV l s).getD []) ∧ Below w.heap.size w w'
theorem ReadVEnd.no {w w' : World} {l : List Ver} {s : Int} (h : readV l s = none) (hb : Below w.heap.size w w') : ReadVEnd w l s (.returned (.tuple #[.slice none 0 0, .bool false])) w' := by
  unfold ReadVEnd
  rw [h]
  exact ⟨none, 0, rfl, RdS.nil _ _, hb⟩
theorem ReadVEnd.yes {w w' : World} {l : List Ver} {s : Int} {xs : List UInt8} {a : Option Addr} {c : Nat} (h : readV l s = some xs) (hr : RdS (fun k => w.heap.size ≤ k ∧ k < w'.heap.size) w' (.slice a xs.length c) xs) (hb : Below w.heap.size w w') : ReadVEnd w l s (.returned (.tuple #[.slice a xs.length c, .bool true])) w' := by
  unfold ReadVEnd
  rw [h]
  exact ⟨a, c, rfl, hr, hb⟩
end Go.Proofs.Ytdegjkfjaklkjaa
namespace Go.Proofs.Ytdegjkfjaklkjaa
open Go.RowKit
theorem slotIx_at : ∀ (l : List Oper) (k j : Nat) (o : Oper) (d : Tmp), (l.filterMap (·.dst)).Nodup → l[j]? = some o → o.dst = some d → slotIx l k d = some (k + j)
  | [], _, _, _, _, _, h, _ => by simp at h
  | o2 :: r, k, 0, o, d, _, hj, hd => by
    obtain rfl : o2 = o := by simpa using hj
    simp [slotIx, hd]
  | o2 :: r, k, j + 1, o, d, hn, hj, hd => by
    have hmem : d ∈ r.filterMap (·.dst) := List.mem_filterMap.2 ⟨o, List.mem_of_getElem? (by simpa using hj), hd⟩
    have hne : o2.dst ≠ some d := by
      intro e
      rw [List.filterMap_cons_some e, List.nodup_cons] at hn
      exact hn.1 hmem
    have hn' : (r.filterMap (·.dst)).Nodup := by
      cases hd2 : o2.dst with
      | none => rwa [List.filterMap_cons_none hd2] at hn
      | some d2 => rw [List.filterMap_cons_some hd2, List.nodup_cons] at hn; exact hn.2
    simp only [slotIx, if_neg hne]
    rw [slotIx_at r (k + 1) j o d hn' (by simpa using hj) hd]
    congr 1; omega
def gdB (ops : Array Oper) : Bool := (ops.toList.zipIdx.all fun p => p.1.after.all fun e => !Region.binds .any e || decide (e.on < p.2)) && slotsB ops.toList
theorem all_listed_gd {ops : Array Oper} {listed : Array Bool} (hs : gdB ops = true) (hr : Region.ready .any ops listed = []) : ∀ i, i < ops.size → listed.getD i true = true := by
  intro i
  induction i using Nat.strongRecOn with
  | ind i ih =>
    intro hi
    cases hl : listed.getD i true with
    | true => rfl
    | false =>
      exfalso
      have hm : i ∈ Region.ready .any ops listed := by
        unfold Region.ready
        refine List.mem_filter.2 ⟨List.mem_range.2 hi, ?_⟩
        have hdep : ∀ e ∈ (ops[i]'hi).after, Region.binds .any e = true → e.on < i := by
          intro e he hb
          simp only [gdB, Bool.and_eq_true, List.all_eq_true] at hs
          have := hs.1 ((ops[i]'hi), i) (by
            rw [List.mem_zipIdx_iff_getElem?]; simp [hi])
          rw [Array.all_eq_true'] at this
          have := this e he
          simpa [hb] using this
        simp only [hl, Array.getElem?_eq_getElem hi, Option.map_some, Option.getD_some, Bool.not_false, Bool.true_and]
        rw [Array.all_eq_true']
        intro e he
        cases hb : Region.binds .any e with
        | false => simp
        | true =>
          have hlt := hdep e he hb
          have := ih e.on hlt (by omega)
          simp only [Bool.not_true, Bool.false_or]
          revert this
          simp only [Array.getD_eq_getD_getElem?]
          cases hg : listed[e.on]? with
          | some b => simp
          | none =>
            exfalso
            rw [Array.getElem?_eq_none_iff] at hg
            simp only [Array.getD_eq_getD_getElem?, Array.getElem?_eq_none_iff.2 (show listed.size ≤ i by omega)] at hl
            cases hl
      rw [hr] at hm
      cases hm
section
variable {P : Program} {Q : Exit → Act → World → Prop}
def GdOp (P : Program) (Q : Exit → Act → World → Prop) (ops : Array Oper) (a : Act) (w : World) (G : Nat → World → Value → Prop) (i : Nat) (o : Oper) : Prop :=
  match o.guard with
  | none => SoftOp P Q ops a w G i o
  | some (j, b) => (∃ oj d, ops[j]? = some oj ∧ oj.dst = some d ∧ d < a.tmps.size) ∧ (o.after.any fun e => e.on == j && Region.binds .any e) = true ∧
      (((∀ w v, G j w v → v = .bool b) ∧ SoftOp P Q ops a w G i o) ∨ ((∀ w v, G j w v → v = .bool (!b) ∨ v = undef) ∧ ∀ w, G i w undef))
theorem GdOp.plain {ops : Array Oper} {a : Act} {w : World} {G : Nat → World → Value → Prop} {i : Nat} {o : Oper} (h : o.guard = none) (h2 : SoftOp P Q ops a w G i o) : GdOp P Q ops a w G i o := by
  unfold GdOp; rw [h]; exact h2
theorem GdOp.taken {ops : Array Oper} {a : Act} {w : World} {G : Nat → World → Value → Prop} {i : Nat} {o : Oper} {j : Nat} {b : Bool} (h : o.guard = some (j, b)) (h1 : ∃ oj d, ops[j]? = some oj ∧ oj.dst = some d ∧ d < a.tmps.size)
    (h2 : (o.after.any fun e => e.on == j && Region.binds .any e) = true) (h3 : ∀ w v, G j w v → v = .bool b) (h4 : SoftOp P Q ops a w G i o) : GdOp P Q ops a w G i o := by
  unfold GdOp; rw [h]; exact ⟨h1, h2, .inl ⟨h3, h4⟩⟩
theorem GdOp.left {ops : Array Oper} {a : Act} {w : World} {G : Nat → World → Value → Prop} {i : Nat} {o : Oper} {j : Nat} {b : Bool} (h : o.guard = some (j, b)) (h1 : ∃ oj d, ops[j]? = some oj ∧ oj.dst = some d ∧ d < a.tmps.size)
    (h2 : (o.after.any fun e => e.on == j && Region.binds .any e) = true) (h3 : ∀ w v, G j w v → v = .bool (!b) ∨ v = undef) (h4 : ∀ w, G i w undef) : GdOp P Q ops a w G i o := by
  unfold GdOp; rw [h]; exact ⟨h1, h2, .inr ⟨h3, h4⟩⟩
def GdAll (P : Program) (Q : Exit → Act → World → Prop) (ops : Array Oper) (a : Act) (w : World) (G : Nat → World → Value → Prop) : Nat → List Oper → Prop
  | _, [] => True
  | i, o :: rest => GdOp P Q ops a w G i o ∧ GdAll P Q ops a w G (i + 1) rest
theorem GdAll.get {ops : Array Oper} {a : Act} {w : World} {G : Nat → World → Value → Prop} : ∀ (l : List Oper) (k j : Nat) (o : Oper), GdAll P Q ops a w G k l → l[j]? = some o → GdOp P Q ops a w G (k + j) o
  | [], _, _, _, _, h => by simp at h
  | o' :: rest, k, 0, o, h, hj => by obtain rfl : o' = o := by simpa using hj
                                     exact h.1
  | o' :: rest, k, j + 1, o, h, hj => by rw [show k + (j + 1) = k + 1 + j by omega]; exact GdAll.get rest (k + 1) j o h.2 (by simpa using hj)
theorem wp_region_gd {id : Nat} {ops : Array Oper} {a : Act} {w : World} (hm : P.follows .mixedOrders = true) (hs : gdB ops = true) (G : Nat → World → Value → Prop)
    (hst : ∀ i w v w', G i w v → Below w.heap.size w w' → G i w' v) (hop : GdAll P Q ops a w G 0 ops.toList)
    (hend : ∀ (vs : Nat → Value) (w' : World), Below w.heap.size w w' → (∀ i, i < ops.size → G i w' (vs i)) → Q .normal (putAll a ops.toList vs 0) w') : (Code.region id ops true).wp P Q a w := by
  refine wp_region_any hm ?_
  have hnd : (ops.toList.filterMap (·.dst)).Nodup := by simp only [gdB, slotsB, Bool.and_eq_true, decide_eq_true_eq] at hs; exact hs.2
  have main : ∀ (fuel : Nat) (listed : Array Bool) (vs : Nat → Value) (w' : World), listed.size = ops.size → (unlisted ops.size listed).length ≤ fuel → Below w.heap.size w w' →
      (∀ i, i < ops.size → listed.getD i true = true → G i w' (vs i)) → wpAny P .any ops Q fuel listed (putAll a ops.toList vs 0) w' := by
    intro fuel
    induction fuel with
    | zero =>
      intro listed vs w' hsz hu hb hG
      have hall : ∀ i, i < ops.size → listed.getD i true = true := by
        intro i hi
        cases hl : listed.getD i true with
        | true => rfl
        | false =>
          have : i ∈ unlisted ops.size listed := List.mem_filter.2 ⟨List.mem_range.2 hi, by simp [hl]⟩
          rw [List.eq_nil_of_length_eq_zero (Nat.le_zero.1 hu)] at this
          cases this
      refine ⟨?_, hend vs w' hb (fun i hi => hG i hi (hall i hi))⟩
      unfold Region.ready
      rw [List.filter_eq_nil_iff]
      intro i hi
      simp [hall i (List.mem_range.1 hi)]
    | succ fuel ih =>
      intro listed vs w' hsz hu hb hG
      refine ⟨fun hr => hend vs w' hb (fun i hi => hG i hi (all_listed_gd hs hr i hi)), fun i hi => ?_⟩
      unfold Region.ready at hi
      obtain ⟨hi1, hi2⟩ := List.mem_filter.1 hi
      have hlt := List.mem_range.1 hi1
      rw [Bool.and_eq_true] at hi2
      obtain ⟨hl, hdep⟩ := hi2
      have hl' : listed.getD i true = false := by simpa using hl
      obtain ⟨o, ho⟩ : ∃ o, ops[i]? = some o := ⟨_, Array.getElem?_eq_getElem hlt⟩
      rw [ho] at hdep
      simp only [Option.map_some, Option.getD_some] at hdep
      rw [Array.all_eq_true'] at hdep
      have hgop := GdAll.get ops.toList 0 i o hop (by rw [Array.getElem?_toList]; exact ho)
      rw [Nat.zero_add] at hgop
      have hdepG : ∀ e ∈ o.after, Region.binds .any e = true → e.on < ops.size ∧ G e.on w' (vs e.on) := by
        intro e he hbn
        have h := hdep e he
        rw [hbn] at h
        simp only [Bool.not_true, Bool.false_or] at h
        have hin : e.on < listed.size := by
          rcases Nat.lt_or_ge e.on listed.size with h' | h'
          · exact h'
          · simp [Array.getD_eq_getD_getElem?, Array.getElem?_eq_none_iff.2 h'] at h
        refine ⟨by omega, hG e.on (by omega) ?_⟩
        simp only [Array.getD_eq_getD_getElem?, Array.getElem?_eq_getElem hin, Option.getD_some] at h ⊢
        exact h
      have step : ∀ (v : Value) (w2 : World), Below w'.heap.size w' w2 → G i w2 v → wpAny P .any ops Q fuel (listed.setIfInBounds i true) ((putAll a ops.toList vs 0).put o.dst v) w2 := by
        intro v w2 hb2 hg
        rw [putAll_put ops.toList a vs 0 i o v hnd (by rw [Array.getElem?_toList]; exact ho), Nat.zero_add]
        refine ih _ _ _ (by simp [hsz]) (by have := unlisted_set hsz hlt hl'; omega) (hb.trans (hb2.mono hb.size)) (fun j hj hlj => ?_)
        by_cases hji : j = i
        · subst hji; simpa [upd] using hg
        · have : upd vs i v j = vs j := by simp [upd, hji]
          rw [this]
          refine hst j w' _ w2 (hG j hj ?_) hb2
          simp only [Array.getD_eq_getD_getElem?, Array.getElem?_setIfInBounds_ne (Ne.symm hji)] at hlj ⊢
          exact hlj
      have run : SoftOp P Q ops a w G i o → o.wp P (putAll a ops.toList vs 0) w' (wpAny P .any ops Q fuel (listed.setIfInBounds i true)) Q := by
        intro hsoft
        have hwp := hsoft (putAll a ops.toList vs 0) vs w' (fun t h => eval_putAll_out _ _ _ _ _ h) (fun t j ht h => eval_putAll_in _ _ _ _ _ _ hnd ht h) hb (fun e he hbn => (hdepG e he hbn).2)
        refine Oper.wp_mono ?_ hwp
        rintro a2 w2 ⟨v, rfl, hg, hb2⟩
        exact step v w2 hb2 hg
      unfold wpOp
      simp only [ho]
      unfold GdOp at hgop
      cases hgd : o.guard with
      | none =>
        rw [hgd] at hgop
        simp only [Region.wanted, hgd, if_true]
        exact .inl (run hgop)
      | some p =>
        obtain ⟨j, b⟩ := p
        rw [hgd] at hgop
        obtain ⟨⟨oj, d, hoj, hd, hdlt⟩, hany, hcase⟩ := hgop
        rw [Array.any_eq_true'] at hany
        obtain ⟨e, he, hej⟩ := hany
        rw [Bool.and_eq_true, beq_iff_eq] at hej
        obtain ⟨rfl, hbn⟩ := hej
        have hgj := (hdepG e he hbn).2
        have hix : slotIx ops.toList 0 d = some e.on := by
          have := slotIx_at ops.toList 0 e.on oj d hnd (by rw [Array.getElem?_toList]; exact hoj) hd
          simpa using this
        have hev := eval_putAll_in ops.toList a vs 0 d e.on hnd hdlt hix
        have hy : ∀ c, vs e.on = .bool c → yielded ops (putAll a ops.toList vs 0).tmps e.on = some c := by
          intro c hc
          have h1 : (putAll a ops.toList vs 0).tmps.getD d undef = .bool c := by
            have h2 : (putAll a ops.toList vs 0).eval (.tmp d) = (putAll a ops.toList vs 0).tmps.getD d undef := rfl
            rw [← h2, hev]; exact hc
          rw [Array.getD_eq_getD_getElem?] at h1
          cases hx : (putAll a ops.toList vs 0).tmps[d]? with
          | none => rw [hx] at h1; exact absurd h1 (by simp [undef])
          | some u =>
            rw [hx] at h1
            simp only [Option.getD_some] at h1
            simp [yielded, hoj, hd, hx, h1]
        rcases hcase with ⟨hv, hsoft⟩ | ⟨hv, hun⟩
        · have hyes := hy b (hv _ _ hgj)
          simp only [Region.wanted, hgd, hyes, beq_self_eq_true, if_true]
          exact .inl (run hsoft)
        · have hw0 : Region.wanted o (yielded ops (putAll a ops.toList vs 0).tmps) = false := by
            rcases hv _ _ hgj with hv | hv
            · simp only [Region.wanted, hgd, hy (!b) hv]; cases b <;> rfl
            · have h1 : (putAll a ops.toList vs 0).tmps.getD d undef = undef := by
                have h2 : (putAll a ops.toList vs 0).eval (.tmp d) = (putAll a ops.toList vs 0).tmps.getD d undef := rfl
                rw [← h2, hev]; exact hv
              have h3 : yielded ops (putAll a ops.toList vs 0).tmps e.on = none := by
                rw [Array.getD_eq_getD_getElem?] at h1
                cases hx : (putAll a ops.toList vs 0).tmps[d]? with
                | none => simp [yielded, hoj, hd, hx]
                | some u =>
                  rw [hx] at h1
                  simp only [Option.getD_some] at h1
                  subst h1
                  simp [yielded, hoj, hd, hx, undef]
              simp only [Region.wanted, hgd, h3]; cases b <;> rfl
          simp only [hw0]
          exact step undef w' (Below.refl _ _) (hun w')
  have h0 := main ops.size (Array.replicate ops.size false) (fun i => ((ops[i]?).bind (·.dst)).elim undef (fun d => a.tmps.getD d undef)) { w with drawn := w.drawn + 1 } (by simp)
    (by have := List.length_filter_le (fun i => !(Array.replicate ops.size false).getD i true) (List.range ops.size); simpa [unlisted] using this) ⟨rfl, rfl, rfl, Nat.le_refl _, fun _ _ => rfl⟩
    (fun i hi h => by simp [Array.getD_eq_getD_getElem?, hi] at h)
  rw [putAll_orig ops.toList a _ 0 (fun j o d hj hd => by
    rw [Array.getElem?_toList] at hj
    simp [hj, hd])] at h0
  exact h0
theorem wp_region_gsg {id : Nat} {ops : Array Oper} {a : Act} {w : World} (hm : P.follows .mixedOrders = true) (hs : gdB ops = true) (Gs : List SG)
    (hop : GdAll P Q ops a w (fun i => (Gs.getD i sgAny).1) 0 ops.toList)
    (hend : ∀ (vs : Nat → Value) (w' : World), Below w.heap.size w w' → (∀ i, i < ops.size → (Gs.getD i sgAny).1 w' (vs i)) → Q .normal (putAll a ops.toList vs 0) w') : (Code.region id ops true).wp P Q a w :=
  wp_region_gd hm hs (fun i => (Gs.getD i sgAny).1) (fun i => (Gs.getD i sgAny).2) hop hend
theorem putAll_size : ∀ (l : List Oper) (a : Act) (vs : Nat → Value) (k : Nat), (putAll a l vs k).tmps.size = a.tmps.size
  | [], _, _, _ => rfl
  | o :: rest, a, vs, k => by simp only [putAll]; rw [putAll_size rest, size_put]
theorem defers_put (a : Act) (d : Option Tmp) (v : Value) : (a.put d v).defers = a.defers := by cases d <;> rfl
theorem putAll_defers : ∀ (l : List Oper) (a : Act) (vs : Nat → Value) (k : Nat), (putAll a l vs k).defers = a.defers
  | [], _, _, _ => rfl
  | o :: rest, a, vs, k => by simp only [putAll]; rw [putAll_defers rest, defers_put]
def Behind (ops : List Oper) (a : Act) (vs : Nat → Value) (A : Act) : Prop :=
  A.defers = a.defers ∧ A.tmps.size = a.tmps.size ∧ (∀ t, slotIx ops 0 t = none → A.eval (.tmp t) = a.eval (.tmp t)) ∧ (∀ t j, t < a.tmps.size → slotIx ops 0 t = some j → A.eval (.tmp t) = vs j)
theorem wp_region_gsa {id : Nat} {ops : Array Oper} {a : Act} {w : World} (hm : P.follows .mixedOrders = true) (hs : gdB ops = true) (Gs : List SG)
    (hop : GdAll P Q ops a w (fun i => (Gs.getD i sgAny).1) 0 ops.toList)
    (hend : ∀ (A : Act) (vs : Nat → Value) (w' : World), Behind ops.toList a vs A → Below w.heap.size w w' → (∀ i, i < ops.size → (Gs.getD i sgAny).1 w' (vs i)) → Q .normal A w') : (Code.region id ops true).wp P Q a w := by
  have hnd : (ops.toList.filterMap (·.dst)).Nodup := by simp only [gdB, slotsB, Bool.and_eq_true, decide_eq_true_eq] at hs; exact hs.2
  exact wp_region_gsg hm hs Gs hop fun vs w' hb hG => hend _ vs w' ⟨putAll_defers _ _ _ _, putAll_size _ _ _ _, fun t h => eval_putAll_out _ _ _ _ _ h, fun t j ht h => eval_putAll_in _ _ _ _ _ _ hnd ht h⟩ hb hG
end
end Go.Proofs.Ytdegjkfjaklkjaa
namespace Go.Proofs.Ytdegjkfjaklkjaa
open Go.RowKit
theorem Rd.of_row {w : World} {a : Option Addr} {len cap : Nat} {zs : List Int} (h : (a = none ∧ len = 0 ∧ cap = 0 ∧ zs = []) ∨
    ∃ x, a = some x ∧ len ≤ cap ∧ cap ≤ maxLen ∧ zs.length = cap ∧ (∀ i, i < zs.length → w.cell? (x.add i) = some (.int .u8 (zs.getD i 0))) ∧ ∀ n ∈ zs, (Lit.int .u8 n).wf = true) :
    Rd w.heap.size w (.slice a len cap) ((zs.take len).map fun n => UInt8.ofNat n.toNat) := by
  rcases h with ⟨rfl, rfl, rfl, rfl⟩ | ⟨x, rfl, hl, hm, hz, hc, hw⟩
  · exact Rd.nil _ _
  · by_cases h0 : len = 0
    · subst h0
      exact .inl ⟨_, cap, rfl, hm, by simp⟩
    · have hlen : ((zs.take len).map fun n => UInt8.ofNat n.toNat).length = len := by simp; omega
      obtain ⟨b, off, spot⟩ := x
      have h1 := hc 0 (by omega)
      have hspot : spot = none := by simpa [Addr.add] using World.cell?_spot h1
      subst hspot
      have hb := World.block_lt_of_cell? w _ h1
      refine .inr ⟨b, off, cap, by rw [hlen], by simpa [Addr.add] using hb, by rw [hlen]; exact hl, hm, fun j u hj => ?_⟩
      have hjl : j < len := by
        rcases Nat.lt_or_ge j len with h | h
        · exact h
        · rw [List.getElem?_eq_none (by rw [bv_length, hlen]; exact h)] at hj; cases hj
      have hcj := hc j (by omega)
      rw [Addr.add_lit] at hcj
      rw [hcj]
      have hjz : j < zs.length := by omega
      have hwf := hw zs[j] (List.getElem_mem hjz)
      have hr : 0 ≤ zs[j] ∧ zs[j] ≤ 255 := by
        simp [Lit.wf, IntKind.min, IntKind.max, IntKind.signed, IntKind.bits] at hwf; omega
      simp [bv, hjl, hjz] at hj
      rw [← hj]
      simp [List.getD, hjz]
      omega
theorem wf_u8 {n : Int} (h : (Lit.int .u8 n).wf = true) : 0 ≤ n ∧ n < 256 := by
  simp [Lit.wf, IntKind.min, IntKind.max, IntKind.signed, IntKind.bits] at h; omega
end Go.Proofs.Ytdegjkfjaklkjaa
namespace Go.Proofs.Ytdegjkfjaklkjaa
open Go.RowKit Go.Deep Go.ChangeShapes Go.WideShapes
def RdRows (w : World) (v : Value) (xss : List (List UInt8)) : Prop :=
  ∃ a cap, v = .slice a xss.length cap ∧ xss.length ≤ cap ∧ cap ≤ maxLen ∧ (xss = [] ∨ ∃ b off, a = some ⟨b, off, none⟩ ∧ b < w.heap.size ∧
    ∀ r (h : r < xss.length), ∃ A L C, w.cell? ⟨b, off + r, none⟩ = some (.slice A L C) ∧ Rd w.heap.size w (.slice A L C) xss[r])
theorem RdRows.len {w : World} {a : Option Addr} {n c : Nat} {xss : List (List UInt8)} (h : RdRows w (.slice a n c) xss) : n = xss.length ∧ n ≤ c ∧ c ≤ maxLen := by
  obtain ⟨a', cap, hv, h1, h2, _⟩ := h
  cases hv
  exact ⟨rfl, h1, h2⟩
theorem RdRows.at {w w' : World} {a : Option Addr} {n c : Nat} {xss : List (List UInt8)} (h : RdRows w (.slice a n c) xss) (hb : Below w.heap.size w w') (r : Nat) (hr : r < xss.length) :
    ∃ b off A L C, a = some ⟨b, off, none⟩ ∧ b < w.heap.size ∧ w'.cell? ⟨b, off + r, none⟩ = some (.slice A L C) ∧ Rd w.heap.size w' (.slice A L C) xss[r] := by
  obtain ⟨a', cap, hv, _, _, hx⟩ := h
  cases hv
  rcases hx with rfl | ⟨b, off, rfl, hB, hx⟩
  · exact absurd hr (Nat.not_lt_zero _)
  · obtain ⟨A, L, C, h1, h2⟩ := hx r hr
    exact ⟨b, off, A, L, C, rfl, hB, (hb.cell (p := ⟨b, off + r, none⟩) hB).trans h1, h2.below hb⟩
end Go.Proofs.Ytdegjkfjaklkjaa
namespace Go.Proofs.Ytdegjkfjaklkjaa
open Go.RowKit
structure RyP (P : Program) (T2 T : TypeId) : Prop where
  hT : P.underlying T2 = some (.slice T)
  hi : (P.info? T).map (fun i => (i.zero, i.size, i.bytes)) = some (some (.slice none 0 0), 1, 24)
theorem RyP.info {P : Program} {T2 T : TypeId} (h : RyP P T2 T) : ∃ i, P.info? T = some i ∧ i.zero = some (.slice none 0 0) ∧ i.size = 1 ∧ i.bytes = 24 := by
  have := h.hi
  cases hi : P.info? T with
  | none => simp [hi] at this
  | some i => simp [hi] at this; exact ⟨i, rfl, this⟩
def RdNo (g : Option Nat) (B : Nat) (w : World) (v : Value) (xs : List UInt8) : Prop :=
  (∃ a c, v = .slice a 0 c ∧ c ≤ maxLen ∧ xs = []) ∨
  ∃ b off cap, v = .slice (some ⟨b, off, none⟩) xs.length cap ∧ some b ≠ g ∧ b < B ∧ xs.length ≤ cap ∧ cap ≤ maxLen ∧ ∀ j u, (bv xs)[j]? = some u → w.cell? ⟨b, off + j, none⟩ = some u
theorem RdNo.rd {g : Option Nat} {B : Nat} {w : World} {v : Value} {xs : List UInt8} (h : RdNo g B w v xs) : Rd B w v xs := by
  rcases h with h | ⟨b, off, cap, h1, _, h2⟩
  · exact .inl h
  · exact .inr ⟨b, off, cap, h1, h2⟩
theorem Rd.no {g : Option Nat} {B : Nat} {w : World} {v : Value} {xs : List UInt8} (h : Rd B w v xs) (hg : ∀ k, g = some k → B ≤ k) : RdNo g B w v xs := by
  rcases h with h | ⟨b, off, cap, h1, hB, h2⟩
  · exact .inl h
  · exact .inr ⟨b, off, cap, h1, fun e => by have := hg b e.symm; omega, hB, h2⟩
theorem RdNo.grown {g g' : Option Nat} {B : Nat} {w w' : World} {v : Value} {xs : List UInt8} (h : RdNo g B w v xs) (hg : w.grownBy w' g) (hB : B ≤ w.heap.size) (hg' : g' = g ∨ ∀ k, g' = some k → B ≤ k) : RdNo g' B w' v xs := by
  rcases h with h | ⟨b, off, cap, h1, hne, hb, h2, h3, h4⟩
  · exact .inl h
  · refine .inr ⟨b, off, cap, h1, ?_, hb, h2, h3, fun j u hj => ?_⟩
    · rcases hg' with rfl | hg'
      · exact hne
      · exact fun e => by have := hg' b e.symm; omega
    · rw [← h4 j u hj]; simp [World.cell?, hg.block b (by omega) hne]
theorem RdNo.mono {g : Option Nat} {B B' : Nat} {w : World} {v : Value} {xs : List UInt8} (h : RdNo g B w v xs) (hB : B ≤ B') : RdNo g B' w v xs := by
  rcases h with h | ⟨b, off, cap, h1, hne, hb, h2⟩
  · exact .inl h
  · exact .inr ⟨b, off, cap, h1, hne, by omega, h2⟩
def RowsNo (g : Option Nat) (B : Nat) (w : World) (vs : List Value) (xss : List (List UInt8)) : Prop :=
  vs.length = xss.length ∧ ∀ r (h : r < xss.length), ∃ A L C, vs[r]? = some (.slice A L C) ∧ RdNo g B w (.slice A L C) xss[r]
theorem RdNo.slice {g : Option Nat} {B : Nat} {w : World} {v : Value} {xs : List UInt8} (h : RdNo g B w v xs) : ∃ A L C, v = .slice A L C := by
  rcases h with ⟨a, c, h, _⟩ | ⟨b, off, cap, h, _⟩ <;> exact ⟨_, _, _, h⟩
theorem RowsNo.nil (g : Option Nat) (B : Nat) (w : World) : RowsNo g B w [] [] := ⟨rfl, fun r h => by simp at h⟩
theorem RowsNo.append {g : Option Nat} {B : Nat} {w : World} {vs us : List Value} {xss yss : List (List UInt8)} (h : RowsNo g B w vs xss) (k : RowsNo g B w us yss) : RowsNo g B w (vs ++ us) (xss ++ yss) := by
  refine ⟨by simp [h.1, k.1], fun r hr => ?_⟩
  rcases Nat.lt_or_ge r xss.length with hlt | hge
  · obtain ⟨A, L, C, e, hr2⟩ := h.2 r hlt
    refine ⟨A, L, C, by rw [List.getElem?_append_left (by rw [h.1]; exact hlt)]; exact e, ?_⟩
    rw [List.getElem_append_left hlt]; exact hr2
  · obtain ⟨A, L, C, e, hr2⟩ := k.2 (r - xss.length) (by simp at hr; omega)
    refine ⟨A, L, C, by rw [List.getElem?_append_right (by rw [h.1]; exact hge), h.1]; exact e, ?_⟩
    rw [List.getElem_append_right hge]; exact hr2
theorem RowsNo.one {g : Option Nat} {B : Nat} {w : World} {v : Value} {xs : List UInt8} (h : RdNo g B w v xs) : RowsNo g B w [v] [xs] := by
  obtain ⟨A, L, C, rfl⟩ := h.slice
  refine ⟨rfl, fun r hr => ?_⟩
  obtain rfl : r = 0 := by simpa using hr
  exact ⟨A, L, C, rfl, h⟩
theorem RowsNo.grown {g g' : Option Nat} {B : Nat} {w w' : World} {vs : List Value} {xss : List (List UInt8)} (h : RowsNo g B w vs xss) (hg : w.grownBy w' g) (hB : B ≤ w.heap.size) (hg' : g' = g ∨ ∀ k, g' = some k → B ≤ k) : RowsNo g' B w' vs xss :=
  ⟨h.1, fun r hr => let ⟨A, L, C, e, h2⟩ := h.2 r hr; ⟨A, L, C, e, h2.grown hg hB hg'⟩⟩
theorem RowsNo.mono {g : Option Nat} {B B' : Nat} {w : World} {vs : List Value} {xss : List (List UInt8)} (h : RowsNo g B w vs xss) (hB : B ≤ B') : RowsNo g B' w vs xss :=
  ⟨h.1, fun r hr => let ⟨A, L, C, e, h2⟩ := h.2 r hr; ⟨A, L, C, e, h2.mono hB⟩⟩
def OwnR (T : TypeId) (base : Nat) (w : World) (v : Value) (xss : List (List UInt8)) : Prop :=
  ∃ vs, w.ownsRow base T 1 v xss.length vs ∧ RowsNo v.ownBlock w.heap.size w vs xss
section
variable {T : TypeId} {base : Nat} {w w' : World} {v : Value} {xss : List (List UInt8)}
theorem OwnR.nil (T : TypeId) (base : Nat) (w : World) : OwnR T base w (.slice none 0 0) [] := ⟨[], World.ownsRow_nil _ _ _ _, RowsNo.nil _ _ _⟩
theorem OwnR.shape (h : OwnR T base w v xss) : ∃ a cap, v = .slice a xss.length cap := by
  obtain ⟨vs, h, _⟩ := h
  rcases h.2 with ⟨rfl, h0⟩ | ⟨g, cap, cur, rfl, _⟩
  · rw [h0]; exact ⟨none, 0, rfl⟩
  · exact ⟨_, _, rfl⟩
theorem OwnR.len {a : Option Addr} {k c : Nat} (h : OwnR T base w (.slice a k c) xss) : k = xss.length := by
  obtain ⟨_, _, e⟩ := h.shape
  cases e; rfl
theorem OwnR.to {base' : Nat} (h : OwnR T base w v xss) (hb : base' ≤ base) : OwnR T base' w v xss := by
  obtain ⟨vs, h1, h2⟩ := h
  exact ⟨vs, ⟨h1.1, h1.2.imp id fun ⟨g, cap, cur, a, b, c⟩ => ⟨g, cap, cur, a, Nat.le_trans hb b, c⟩⟩, h2⟩
theorem OwnR.block_lt (h : OwnR T base w v xss) : ∀ k, v.ownBlock = some k → base ≤ k ∧ k < w.heap.size := by
  obtain ⟨vs, h1, _⟩ := h
  exact fun k hk => h1.lt k hk
theorem OwnR.below (h : OwnR T base w v xss) (hb : Below w.heap.size w w') : OwnR T base w' v xss := by
  have hlt := h.block_lt
  obtain ⟨vs, h1, h2⟩ := h
  refine ⟨vs, row_below h1 hb, RowsNo.mono ?_ hb.size⟩
  refine ⟨h2.1, fun r hr => ?_⟩
  obtain ⟨A, L, C, e, h3⟩ := h2.2 r hr
  refine ⟨A, L, C, e, ?_⟩
  rcases h3 with h | ⟨b, off, cap, h1, hne, hb', h2, h3, h4⟩
  · exact .inl h
  · exact .inr ⟨b, off, cap, h1, hne, hb', h2, h3, fun j u hj => (hb.cell (p := ⟨b, off + j, none⟩) hb').trans (h4 j u hj)⟩
theorem OwnR.drewN (h : OwnR T base w v xss) (q : Nat) : OwnR T base (w.drewN q) v xss := by
  obtain ⟨vs, h1, h2, h3⟩ := h
  refine ⟨vs, h1, h2, fun r hr => ?_⟩
  obtain ⟨A, L, C, e, h4⟩ := h3 r hr
  refine ⟨A, L, C, e, ?_⟩
  rcases h4 with h | ⟨b, off, cap, h1, hne, hb', h2, h3, h4⟩
  · exact .inl h
  · exact .inr ⟨b, off, cap, h1, hne, hb', h2, h3, fun j u hj => h4 j u hj⟩
end
end Go.Proofs.Ytdegjkfjaklkjaa
namespace Go.Proofs.Ytdegjkfjaklkjaa
open Go.RowKit
def Pair (W : World) (B : Nat) (t : TypeId) (x y : Nat) : Prop := W.heap[B]? = some (.cells #[.int .u64 x, .int .u64 y] t (0, 0))
theorem Pair.new (W : World) (t : TypeId) (x y : Nat) : Pair (W.alloc (.cells #[.int .u64 x, .int .u64 y] t)) W.heap.size t x y := by unfold Pair; simp only [World.alloc, Array.getElem?_push_size]
theorem Pair.lt {W : World} {B : Nat} {t : TypeId} {x y : Nat} (h : Pair W B t x y) : B < W.heap.size := (Array.getElem?_eq_some_iff.1 h).1
theorem Pair.cell0 {W : World} {B : Nat} {t : TypeId} {x y : Nat} (h : Pair W B t x y) : W.cell? ⟨B, 0, none⟩ = some (.int .u64 x) := by simp [World.cell?, show W.heap[B]? = _ from h]
theorem Pair.cell1 {W : World} {B : Nat} {t : TypeId} {x y : Nat} (h : Pair W B t x y) : W.cell? ⟨B, 1, none⟩ = some (.int .u64 y) := by simp [World.cell?, show W.heap[B]? = _ from h]
theorem Pair.set {W W' : World} {B : Nat} {t : TypeId} {x y : Nat} (h : Pair W B t x y) (x' y' : Nat) (ha : W'.Alike ((W.setCell ⟨B, 0, none⟩ (.int .u64 x')).setCell ⟨B, 1, none⟩ (.int .u64 y'))) : Pair W' B t x' y' := by
  unfold Pair at h ⊢
  rw [ha.1]
  simp [World.setCell, Array.getElem?_modify, h]
def PairV (W : World) (B : Nat) (t : TypeId) (u v : Value) : Prop := W.heap[B]? = some (.cells #[u, v] t (0, 0))
section
variable {W W' : World} {B : Nat} {t : TypeId} {u v : Value}
theorem PairV.new (W : World) (t : TypeId) (u v : Value) : PairV (W.alloc (.cells #[u, v] t)) W.heap.size t u v := by unfold PairV; simp only [World.alloc, Array.getElem?_push_size]
theorem PairV.lt (h : PairV W B t u v) : B < W.heap.size := (Array.getElem?_eq_some_iff.1 h).1
theorem PairV.cell0 (h : PairV W B t u v) : W.cell? ⟨B, 0, none⟩ = some u := by simp [World.cell?, show W.heap[B]? = _ from h]
theorem PairV.cell1 (h : PairV W B t u v) : W.cell? ⟨B, 1, none⟩ = some v := by simp [World.cell?, show W.heap[B]? = _ from h]
theorem PairV.alloc (h : PairV W B t u v) (o : Obj) : PairV (W.alloc o) B t u v := (Below.heap_alloc W o B h.lt).trans h
theorem PairV.below {n : Nat} (h : PairV W B t u v) (hb : Below n W W') (hn : B < n) : PairV W' B t u v := (hb.block B hn).trans h
end
end Go.Proofs.Ytdegjkfjaklkjaa
namespace Go.Proofs.Ytdegjkfjaklkjaa
open Go.RowKit
section
variable {P : Program} {Q : Exit → Act → World → Prop}
def SoftOpK (P : Program) (Q : Exit → Act → World → Prop) (ops : Array Oper) (a : Act) (K : Nat → World → World → Prop) (R : World → Prop) (G : Nat → World → Value → Prop) (i : Nat) (o : Oper) : Prop :=
  ∀ (A : Act) (vs : Nat → Value) (w' : World), (∀ t, slotIx ops.toList 0 t = none → A.eval (.tmp t) = a.eval (.tmp t)) → (∀ t j, t < a.tmps.size → slotIx ops.toList 0 t = some j → A.eval (.tmp t) = vs j) → R w' →
    (∀ e ∈ o.after, Region.binds .any e = true → G e.on w' (vs e.on)) → o.wp P A w' (fun a2 w2 => ∃ v, a2 = A.put o.dst v ∧ G i w2 v ∧ K i w' w2) Q
def GdOpK (P : Program) (Q : Exit → Act → World → Prop) (ops : Array Oper) (a : Act) (K : Nat → World → World → Prop) (R : World → Prop) (G : Nat → World → Value → Prop) (i : Nat) (o : Oper) : Prop :=
  match o.guard with
  | none => SoftOpK P Q ops a K R G i o
  | some (j, b) => (∃ oj d, ops[j]? = some oj ∧ oj.dst = some d ∧ d < a.tmps.size) ∧ (o.after.any fun e => e.on == j && Region.binds .any e) = true ∧
      (((∀ w v, G j w v → v = .bool b) ∧ SoftOpK P Q ops a K R G i o) ∨ ((∀ w v, G j w v → v = .bool (!b) ∨ v = undef) ∧ ∀ w, G i w undef))
theorem GdOpK.plain {ops : Array Oper} {a : Act} {K : Nat → World → World → Prop} {R : World → Prop} {G : Nat → World → Value → Prop} {i : Nat} {o : Oper} (h : o.guard = none) (h2 : SoftOpK P Q ops a K R G i o) : GdOpK P Q ops a K R G i o := by
  unfold GdOpK; rw [h]; exact h2
theorem GdOpK.taken {ops : Array Oper} {a : Act} {K : Nat → World → World → Prop} {R : World → Prop} {G : Nat → World → Value → Prop} {i : Nat} {o : Oper} {j : Nat} {b : Bool} (h : o.guard = some (j, b)) (h1 : ∃ oj d, ops[j]? = some oj ∧ oj.dst = some d ∧ d < a.tmps.size)
    (h2 : (o.after.any fun e => e.on == j && Region.binds .any e) = true) (h3 : ∀ w v, G j w v → v = .bool b) (h4 : SoftOpK P Q ops a K R G i o) : GdOpK P Q ops a K R G i o := by
  unfold GdOpK; rw [h]; exact ⟨h1, h2, .inl ⟨h3, h4⟩⟩
theorem GdOpK.left {ops : Array Oper} {a : Act} {K : Nat → World → World → Prop} {R : World → Prop} {G : Nat → World → Value → Prop} {i : Nat} {o : Oper} {j : Nat} {b : Bool} (h : o.guard = some (j, b)) (h1 : ∃ oj d, ops[j]? = some oj ∧ oj.dst = some d ∧ d < a.tmps.size)
    (h2 : (o.after.any fun e => e.on == j && Region.binds .any e) = true) (h3 : ∀ w v, G j w v → v = .bool (!b) ∨ v = undef) (h4 : ∀ w, G i w undef) : GdOpK P Q ops a K R G i o := by
  unfold GdOpK; rw [h]; exact ⟨h1, h2, .inr ⟨h3, h4⟩⟩
def GdAllK (P : Program) (Q : Exit → Act → World → Prop) (ops : Array Oper) (a : Act) (K : Nat → World → World → Prop) (R : World → Prop) (G : Nat → World → Value → Prop) : Nat → List Oper → Prop
  | _, [] => True
  | i, o :: rest => GdOpK P Q ops a K R G i o ∧ GdAllK P Q ops a K R G (i + 1) rest
theorem GdAllK.get {ops : Array Oper} {a : Act} {K : Nat → World → World → Prop} {R : World → Prop} {G : Nat → World → Value → Prop} : ∀ (l : List Oper) (k j : Nat) (o : Oper), GdAllK P Q ops a K R G k l → l[j]? = some o → GdOpK P Q ops a K R G (k + j) o
  | [], _, _, _, _, h => by simp at h
  | o' :: rest, k, 0, o, h, hj => by obtain rfl : o' = o := by simpa using hj
                                     exact h.1
  | o' :: rest, k, j + 1, o, h, hj => by rw [show k + (j + 1) = k + 1 + j by omega]; exact GdAllK.get rest (k + 1) j o h.2 (by simpa using hj)
end
def NotU8 (v : Value) : Prop := ∀ i, v ≠ .int .u8 i
def IsBox (w : World) (t : TypeId) (b : Nat) : Prop := ∃ x y, w.heap[b]? = some (.cells #[x, y] t (0, 0)) ∧ NotU8 x ∧ NotU8 y
def BoxK (ok : Nat → Prop) (t : TypeId) (A B : World) : Prop := A = B ∨ ∃ b, ok b ∧ A.grownBy B (some b) ∧ IsBox A t b ∧ IsBox B t b
theorem BoxK.below {n₀ : Nat} {ok : Nat → Prop} {t : TypeId} {W A B : World} (h : Below n₀ W A) (k : BoxK ok t A B) (hok : ∀ b, ok b → n₀ ≤ b) (hn : n₀ ≤ W.heap.size) : Below n₀ W B := by
  rcases k with rfl | ⟨b, hb, hg, _⟩
  · exact h
  · exact h.grown hg (Nat.le_trans hn h.size) (fun k e => by cases e; exact hok _ hb)
theorem rd_core {B : Nat} {t : TypeId} {w w' : World} {v : Value} {xs : List UInt8} {g : Nat} {x y : Value} (h : Rd B w v xs) (hB : B ≤ w.heap.size) (hg : w.grownBy w' (some g)) (hx : w.heap[g]? = some (.cells #[x, y] t (0, 0))) (h1 : NotU8 x) (h2 : NotU8 y) : Rd B w' v xs := by
  rcases h with h | ⟨b, off, cap, hv, hb, h3, h4, hc⟩
  · exact .inl h
  by_cases h0 : xs = []
  · subst h0
    exact .inl ⟨_, _, hv, h4, rfl⟩
  have hpos : 0 < xs.length := List.length_pos_iff.2 h0
  have hne : some b ≠ some g := by
    intro e
    injection e with e
    subst e
    have hc0 := hc 0 (.int .u8 (xs[0].toNat : Int)) (by simp [bv, hpos])
    rw [World.cell?] at hc0
    simp only [hx] at hc0
    rcases Nat.lt_or_ge (off + 0) 2 with ho | ho
    · rcases (show off + 0 = 0 ∨ off + 0 = 1 by omega) with ho | ho
      · rw [ho] at hc0; simp at hc0; exact h1 _ hc0
      · rw [ho] at hc0; simp at hc0; exact h2 _ hc0
    · rw [Array.getElem?_eq_none (by simpa using ho)] at hc0; cases hc0
  exact .inr ⟨b, off, cap, hv, hb, h3, h4, fun j u hj => by rw [← hc j u hj]; simp [World.cell?, hg.block b (by omega) hne]⟩
theorem Rd.box {ok : Nat → Prop} {B : Nat} {t : TypeId} {w w' : World} {v : Value} {xs : List UInt8} (h : Rd B w v xs) (hB : B ≤ w.heap.size) (k : BoxK ok t w w') : Rd B w' v xs := by
  rcases k with rfl | ⟨g, _, hg, ⟨x, y, hx, h1, h2⟩, _⟩
  · exact h
  · exact rd_core h hB hg hx h1 h2
abbrev SGk (ok : Nat → Prop) (t : TypeId) := { G : World → Value → Prop // (∀ w v w', G w v → Below w.heap.size w w' → G w' v) ∧ (∀ w v w', G w v → BoxK ok t w w' → G w' v) }
section
variable {ok : Nat → Prop} {t : TypeId}
def kAny : SGk ok t := ⟨fun _ _ => True, fun _ _ _ h _ => h, fun _ _ _ h _ => h⟩
end
section
variable {P : Program} {Q : Exit → Act → World → Prop}
def kk (ok : Nat → Prop) (t : TypeId) (m : Nat) (i : Nat) (A B : World) : Prop := if i = m then BoxK ok t A B else Below A.heap.size A B
def gk {ok : Nat → Prop} {t : TypeId} (Gs : List (SGk ok t)) (m : Nat) (Gm : SG) (i : Nat) : World → Value → Prop := if i = m then Gm.1 else (Gs.getD i kAny).1
structure RK (n₀ : Nat) (ok : Nat → Prop) (t : TypeId) (w w' : World) : Prop where
  below : Below n₀ w w'
  box : ∀ b, IsBox w t b → IsBox w' t b
  same : ∀ k, k < w.heap.size → ¬ ok k → w'.heap[k]? = w.heap[k]?
theorem RK.pair {n₀ : Nat} {ok : Nat → Prop} {t u : TypeId} {w w' : World} (h : RK n₀ ok t w w') {b : Nat} {x y : Value} (hp : PairV w b u x y) (hb : ¬ ok b) : PairV w' b u x y := (h.same b hp.lt hb).trans hp
theorem IsBox.below {t : TypeId} {b : Nat} {A B : World} (h : IsBox A t b) (hb : Below A.heap.size A B) : IsBox B t b := by
  obtain ⟨x, y, hx, h1, h2⟩ := h
  exact ⟨x, y, (hb.block b (Array.getElem?_eq_some_iff.1 hx).1).trans hx, h1, h2⟩
theorem IsBox.box {ok : Nat → Prop} {t : TypeId} {b : Nat} {A B : World} (h : IsBox A t b) (k : BoxK ok t A B) : IsBox B t b := by
  rcases k with rfl | ⟨g, _, hg, _, hB⟩
  · exact h
  · by_cases e : b = g
    · subst e; exact hB
    · obtain ⟨x, y, hx, h1, h2⟩ := h
      exact ⟨x, y, (hg.block b (Array.getElem?_eq_some_iff.1 hx).1 (fun e' => e (by injection e'))).trans hx, h1, h2⟩
end
structure PrP (P : Program) (t : TypeId) (x0 y0 : Value) : Prop where
  hu : ∃ f0 f1, P.underlying t = some (.struct #[f0, f1]) ∧ f0.offset = 0 ∧ f1.offset = 1 ∧ (P.info? f0.type).map (·.size) = some 1 ∧ (P.info? f1.type).map (·.size) = some 1
  hi : (P.info? t).map (fun i => (i.zero, i.size)) = some (some (.agg #[x0, y0]), 2)
section
variable {P : Program} {t : TypeId} {x0 y0 : Value} {o : Oper} {a : Act} {K : Act → World → Prop} {Q : Exit → Act → World → Prop} {w : World}
theorem run_sizeOf {ty : TypeId} {n : Nat} (h : (P.info? ty).map (·.size) = some n) (w : World) : (sizeOf ty).run P w = .ok n w := by
  cases hi : P.info? ty with
  | none => simp [hi] at h
  | some i => simp [hi] at h; simp [sizeOf, typeInfo, hi, h]
theorem PrP.size (hP : PrP P t x0 y0) : (P.info? t).map (·.size) = some 2 := by
  have h := hP.hi
  cases hi : P.info? t with
  | none => simp [hi] at h
  | some i => simp [hi] at h; simp [h.2]
theorem PrP.zero (hP : PrP P t x0 y0) (w : World) : (zeroValue t).run P w = .ok (.agg #[x0, y0]) w := by
  have h := hP.hi
  cases hi : P.info? t with
  | none => simp [hi] at h
  | some i => simp [hi] at h; simp [zeroValue, typeInfo, hi, h.1]
theorem wp_skip {w2 : World} (hrun : (execOp a.eval o).run P w = .ok .skip w2) (h : K (a.put o.dst undef) w2) : o.wp P a w K Q := by
  unfold Oper.wp
  rw [hrun]
  exact h
end
theorem PairV.put1 {W : World} {g : Nat} {t : TypeId} {x y : Value} (h : PairV W g t x y) (u : Value) : PairV (W.setCell ⟨g, 1, none⟩ u) g t x u := by
  unfold PairV at h ⊢
  simp [World.setCell, Array.getElem?_modify, h]
theorem PairV.keep {W : World} {b g : Nat} {t : TypeId} {x y : Value} (h : PairV W b t x y) (hne : b ≠ g) (i : Nat) (z : Value) : PairV (W.setCell ⟨g, i, none⟩ z) b t x y :=
  (heap_setCell_other W ⟨g, i, none⟩ b z (fun e => hne (by simp at e; exact e))).trans h
theorem size_set (W : World) (p : Addr) (z : Value) : (W.setCell p z).heap.size = W.heap.size := by simp [World.setCell]
theorem RK.rd {n₀ g : Nat} {t : TypeId} {w w' : World} (h : RK n₀ (· = g) t w w') {v : Value} {xs : List UInt8} (hr : Rd w.heap.size w v xs) {x y : Value} (hp : PairV w g t x y) (hx : NotU8 x) (hy : NotU8 y) : Rd w'.heap.size w' v xs := by
  have hg : w.grownBy w' (some g) := ⟨h.below.os, h.below.tape, h.below.output, h.below.size, fun k hk hne => h.same k hk (fun e => hne (by rw [e]))⟩
  exact (rd_core hr (Nat.le_refl _) hg hp hx hy).mono h.below.size
end Go.Proofs.Ytdegjkfjaklkjaa
