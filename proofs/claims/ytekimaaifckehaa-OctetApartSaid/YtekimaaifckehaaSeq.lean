/-
  A REGION IN THE ORDER OF THE TEXT, WALKED OPERATION BY OPERATION OVER A FRAME THAT IS A VARIABLE: for long chains of guards ('a && b && ..', each of which is carried out). Over whatever program; no condition beyond each theorem's own.
-/
import Derived.Test.YtekimaaifckehaaSoft
namespace Go.Proofs.Ytekimaaifckehaa
open Go.RowKit

section
variable {P : Program} {Q : Exit → Act → World → Prop}

/-- The guard of operation i says yes, where the operations ahead have left what they should. -/
def GuardOk (ops : Array Oper) (G : Nat → World → Value → Prop) (i : Nat) : Option (Nat × Bool) → Prop
  | none => True
  | some (j, b) => j < i ∧ (∃ d o, ops[j]? = some o ∧ o.dst = some d) ∧ ∀ w v, G j w v → v = .bool b

/-- One operation, in whatever world, those ahead having left what they should. -/
def SeqOp (P : Program) (Q : Exit → Act → World → Prop) (ops : Array Oper) (a : Act) (w : World) (G : Nat → World → Value → Prop) (i : Nat) (o : Oper) : Prop :=
  GuardOk ops G i o.guard ∧ ∀ (A : Act) (vs : Nat → Value) (w' : World), (∀ t, slotIx ops.toList 0 t = none → A.eval (.tmp t) = a.eval (.tmp t)) → (∀ t j, t < a.tmps.size → slotIx ops.toList 0 t = some j → A.eval (.tmp t) = vs j) →
    Below w.heap.size w w' → (∀ j, j < i → G j w' (vs j)) →
    o.wp P A w' (fun a2 w2 => ∃ v, a2 = A.put o.dst v ∧ G i w2 v ∧ Below w'.heap.size w' w2) Q

def SeqAll (P : Program) (Q : Exit → Act → World → Prop) (ops : Array Oper) (a : Act) (w : World) (G : Nat → World → Value → Prop) : Nat → List Oper → Prop
  | _, [] => True
  | i, o :: rest => SeqOp P Q ops a w G i o ∧ SeqAll P Q ops a w G (i + 1) rest

theorem wp_region_seq {id : Nat} {ops : Array Oper} {a : Act} {w : World} (hs : slotsB ops.toList = true) (hsz : ops.toList.all (fun o => (o.dst.map (fun d => decide (d < a.tmps.size))).getD true) = true) (Gs : List SG)
    (hop : SeqAll P Q ops a w (fun i => (Gs.getD i sgAny).1) 0 ops.toList)
    (hend : ∀ (vs : Nat → Value) (w' : World), Below w.heap.size w w' → (∀ i, i < ops.size → (Gs.getD i sgAny).1 w' (vs i)) → Q .normal (putAll a ops.toList vs 0) w') : (Code.region id ops false).wp P Q a w := by
  have hnd : (ops.toList.filterMap (·.dst)).Nodup := by simpa [slotsB] using hs
  have main : ∀ (l : List Oper) (k : Nat) (vs : Nat → Value) (w' : World), (∀ j, l[j]? = ops[k + j]?) → Below w.heap.size w w' → (∀ j, j < k → (Gs.getD j sgAny).1 w' (vs j)) →
      SeqAll P Q ops a w (fun i => (Gs.getD i sgAny).1) k l → wpList P ops Q l (putAll a ops.toList vs 0) w' := by
    intro l
    induction l with
    | nil =>
      intro k vs w' hl hb hG _
      refine hend vs w' hb (fun i hi => hG i ?_)
      rcases Nat.lt_or_ge i k with h | h
      · exact h
      · have := hl (i - k)
        rw [show k + (i - k) = i by omega] at this
        simp [Array.getElem?_eq_getElem hi] at this
    | cons o rest ih =>
      intro k vs w' hl hb hG hall
      obtain ⟨⟨hgd, hwp⟩, hrest⟩ := hall
      have ho : ops[k]? = some o := by simpa using (hl 0).symm
      have hw : Region.wanted o (yielded ops (putAll a ops.toList vs 0).tmps) = true := by
        unfold Region.wanted
        revert hgd
        cases hg : o.guard with
        | none => intro _; rfl
        | some p =>
          obtain ⟨j, b⟩ := p
          rintro ⟨hj, ⟨d, oj, hoj, hd⟩, hb'⟩
          have hv := hb' _ _ (hG j hj)
          have hlt : d < a.tmps.size := by
            have := (List.all_eq_true.1 hsz) oj (by rw [← Array.getElem?_toList] at hoj; exact List.mem_of_getElem? hoj)
            simpa [hd] using this
          have hix : slotIx ops.toList 0 d = some j := by
            have key : ∀ (l : List Oper) (k j : Nat) (o : Oper), (l.filterMap (·.dst)).Nodup → l[j]? = some o → o.dst = some d → slotIx l k d = some (k + j) := by
              intro l
              induction l with
              | nil => intro _ _ _ _ h _; simp at h
              | cons o2 r ih2 =>
                intro k j o3 hn hj3 hd3
                cases j with
                | zero =>
                  obtain rfl : o2 = o3 := by simpa using hj3
                  simp [slotIx, hd3]
                | succ j =>
                  have hmem : d ∈ r.filterMap (·.dst) := List.mem_filterMap.2 ⟨o3, List.mem_of_getElem? (by simpa using hj3), hd3⟩
                  have hne : o2.dst ≠ some d := by
                    intro e
                    rw [List.filterMap_cons_some e, List.nodup_cons] at hn
                    exact hn.1 hmem
                  have hn' : (r.filterMap (·.dst)).Nodup := by
                    cases hd2 : o2.dst with
                    | none => rwa [List.filterMap_cons_none hd2] at hn
                    | some d2 => rw [List.filterMap_cons_some hd2, List.nodup_cons] at hn; exact hn.2
                  simp only [slotIx, if_neg hne]
                  rw [ih2 (k + 1) j o3 hn' (by simpa using hj3) hd3]
                  congr 1; omega
            have := key ops.toList 0 j oj hnd (by rw [Array.getElem?_toList]; exact hoj) hd
            simpa using this
          have he := eval_putAll_in ops.toList a vs 0 d j hnd hlt hix
          have : (putAll a ops.toList vs 0).tmps.getD d undef = .bool b := by
            have h2 : (putAll a ops.toList vs 0).eval (.tmp d) = (putAll a ops.toList vs 0).tmps.getD d undef := rfl
            rw [← h2, he]; exact hv
          rw [Array.getD_eq_getD_getElem?] at this
          cases hx : (putAll a ops.toList vs 0).tmps[d]? with
          | none => rw [hx] at this; exact absurd this (by simp [undef])
          | some u =>
            rw [hx] at this
            simp only [Option.getD_some] at this
            simp [yielded, hoj, hd, hx, this]
      refine BigFrame.wpList_want hw fun K hK => ?_
      refine Oper.wp_mono ?_ (hwp (putAll a ops.toList vs 0) vs w' (fun t h => eval_putAll_out _ _ _ _ _ h) (fun t j ht h => eval_putAll_in _ _ _ _ _ _ hnd ht h) hb hG)
      rintro a2 w2 ⟨v, rfl, hg, hb2⟩
      refine hK _ _ ?_
      rw [putAll_put ops.toList a vs 0 k o v hnd (by rw [Array.getElem?_toList]; exact ho), Nat.zero_add]
      refine ih (k + 1) _ w2 (fun j => by have := hl (j + 1); rw [show k + 1 + j = k + (j + 1) by omega]; simpa using this) (hb.trans (hb2.mono hb.size)) (fun j hj => ?_) hrest
      by_cases hjk : j = k
      · subst hjk; simpa [upd] using hg
      · have : upd vs k v j = vs j := by simp [upd, hjk]
        rw [this]
        exact (Gs.getD j sgAny).2 w' _ w2 (hG j (by omega)) hb2
  have h0 := main ops.toList 0 (fun i => ((ops[i]?).bind (·.dst)).elim undef (fun d => a.tmps.getD d undef)) w (fun j => by simp) (Below.refl _ _) (fun j hj => by omega) hop
  rw [putAll_orig ops.toList a _ 0 (fun j o d hj hd => by
    rw [Array.getElem?_toList] at hj
    simp [hj, hd])] at h0
  refine wp_region ?_
  rw [show List.range ops.size = List.range' 0 ops.toList.length by simp [List.range_eq_range'], wpOps_eq_wpList ops.toList 0 (fun j => by simp)]
  exact h0
end
end Go.Proofs.Ytekimaaifckehaa
