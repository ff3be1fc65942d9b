/-
  TEXTS OF ONE PROOF, merged: TreT, TraS, TraT, TraU, TraV, Bri, Setr.
-/
import Derived.OrdersIn
import Derived.RangeFuncCalls
import Derived.TacticsIn
import Derived.Test.YticngbgjfdcnhaaMg8
namespace Go.Proofs.Yticngbgjfdcnhaa
def Ris (l : List (List UInt8)) : Prop := l.Pairwise fun a b => ltB a b = true
instance (l : List (List UInt8)) : Decidable (Ris l) := by unfold Ris; infer_instance
theorem ris_mid {A B : List (List UInt8)} {k : List UInt8} : Ris (A ++ k :: B) ↔ Ris (A ++ [k]) ∧ Ris (k :: B) := by
  unfold Ris
  constructor
  · intro h
    refine ⟨?_, (List.pairwise_append.1 h).2.1⟩
    have e : A ++ k :: B = (A ++ [k]) ++ B := by simp
    rw [e] at h
    exact (List.pairwise_append.1 h).1
  · rintro ⟨h1, h2⟩
    rw [List.pairwise_append] at h1 ⊢
    refine ⟨h1.1, h2, fun a ha b hb => ?_⟩
    have hak := h1.2.2 a ha k (by simp)
    rcases List.mem_cons.1 hb with rfl | hb
    · exact hak
    · exact ltB_trans hak ((List.pairwise_cons.1 h2).1 b hb)
theorem ris_sub {a b : List (List UInt8)} (h : Ris b) (hs : a.Sublist b) : Ris a := List.Pairwise.sublist hs h
def kyP (l : List Pr) : List (List UInt8) := l.map (·.key)
def loK (ks : List (List UInt8)) (low : List (List UInt8)) (i : Nat) : List (List UInt8) := if i = 0 then low else (ks[i - 1]?).toList
def hiK (ks : List (List UInt8)) (high : List (List UInt8)) (i : Nat) : List (List UInt8) := if i < ks.length then (ks[i]?).toList else high
theorem ris_inter : ∀ (K : List Pr) (x : List Pr) (B : List (List Pr)) (low high : List (List UInt8)), B.length = K.length →
    (Ris (low ++ kyP (x ++ suf K B) ++ high) ↔ Ris (low ++ kyP K ++ high) ∧ ∀ i (h : i < (x :: B).length), Ris (loK (kyP K) low i ++ kyP (x :: B)[i] ++ hiK (kyP K) high i))
  | [], x, [], low, high, _ => by
    constructor
    · intro h
      have h' : Ris (low ++ kyP x ++ high) := by simpa [suf] using h
      refine ⟨ris_sub h' ?_, fun i hi => ?_⟩
      · simp only [kyP, List.map_nil, List.append_nil]
        exact List.Sublist.append (List.sublist_append_left _ _) (List.Sublist.refl _)
      · obtain rfl : i = 0 := by simp at hi; exact hi
        simpa [loK, hiK, kyP] using h'
    · rintro ⟨_, h⟩
      have := h 0 (by simp)
      simpa [loK, hiK, kyP, suf] using this
  | p :: K, x, y :: B, low, high, hl => by
    have ih := ris_inter K y B [p.key] high (by simpa using hl)
    have e0 : suf (p :: K) (y :: B) = p :: (y ++ suf K B) := by rw [suf, inter_cons]
    have e1 : low ++ kyP (x ++ suf (p :: K) (y :: B)) ++ high = (low ++ kyP x) ++ p.key :: (kyP (y ++ suf K B) ++ high) := by rw [e0]; simp [kyP]
    have e2 : low ++ kyP (p :: K) ++ high = low ++ p.key :: (kyP K ++ high) := by simp [kyP]
    have e3 : ∀ l : List (List UInt8), p.key :: (l ++ high) = [p.key] ++ l ++ high := fun l => by simp
    rw [e1, e2, ris_mid (A := low ++ kyP x) (k := p.key) (B := kyP (y ++ suf K B) ++ high), ris_mid (A := low) (k := p.key) (B := kyP K ++ high), e3 (kyP (y ++ suf K B)), e3 (kyP K), ih]
    have e4 : ∀ j, loK (kyP (p :: K)) low (j + 1) = loK (kyP K) [p.key] j := fun j => by
      unfold loK
      cases j with
      | zero => simp [kyP]
      | succ j => simp [kyP]
    have e5 : ∀ j, hiK (kyP (p :: K)) high (j + 1) = hiK (kyP K) high j := fun j => by
      unfold hiK
      simp [kyP]
    constructor
    · rintro ⟨h1, h2, h3⟩
      refine ⟨⟨ris_sub h1 ?_, h2⟩, fun i hi => ?_⟩
      · exact List.Sublist.append (List.sublist_append_left _ _) (List.Sublist.refl _)
      · cases i with
        | zero => simpa [loK, hiK, kyP] using h1
        | succ j =>
          have := h3 j (by simpa using hi)
          rw [e4, e5]
          simpa using this
    · rintro ⟨⟨_, h2⟩, h3⟩
      refine ⟨?_, h2, fun j hj => ?_⟩
      · have := h3 0 (by simp)
        simpa [loK, hiK, kyP] using this
      · have := h3 (j + 1) (by simpa using hj)
        rw [e4, e5] at this
        simpa using this
instance (p : Pr) : Decidable (goodP p) := by unfold goodP; infer_instance
def depF (n : Nd) (low high : List (List UInt8)) : Nat := if 0 ≤ formI n false ∧ (∀ p ∈ pairsN n, goodP p) ∧ Ris (low ++ kyP (pairsN n) ++ high) then (formI n false).toNat else 0
def aloF (n : Nd) : Prop := 1 ≤ n.keys.length ∧ n.keys.length ≤ 3 ∧ n.chains.length = n.keys.length ∧ (∀ p ∈ kpN n, goodP p) ∧ (n.kids = [] ∨ n.kids.length = n.keys.length + 1)
instance (n : Nd) : Decidable (aloF n) := by unfold aloF; infer_instance
theorem kp_keys {n : Nd} (hc : n.chains.length = n.keys.length) : kyP (kpN n) = n.keys := by
  unfold kyP kpN
  apply List.ext_getElem
  · rw [List.length_map, List.length_zipWith]; omega
  · intro i h1 h2
    simp
theorem form_one (n : Nd) (h : 1 ≤ n.keys.length) : formI n true = formI n false := by
  rw [formI_def, formI_def]
  have : ¬ n.keys.length < 1 := by omega
  simp [this]
theorem form_leaf {n : Nd} (hc : n.chains.length = n.keys.length) (h1 : 1 ≤ n.keys.length) (h3 : n.keys.length ≤ 3) (h0 : n.kids = []) : formI n false = 1 := by
  rw [formI_def, if_neg (by omega), if_pos (by rw [h0]; rfl)]
theorem form_up {n : Nd} {b : Int} (hc : n.chains.length = n.keys.length) (h1 : 1 ≤ n.keys.length) (h3 : n.keys.length ≤ 3) (hk : n.kids.length = n.keys.length + 1) (hb : 0 ≤ b) (ha : ∀ m ∈ n.kids, formI m false = b) : formI n false = b + 1 := by
  rw [formI_def, if_neg (by omega), if_neg (by omega), if_neg (by omega)]
  cases hm : n.kids with
  | nil => rw [hm] at hk; simp at hk
  | cons m r =>
    rw [List.map_cons]
    have e := ha m (by rw [hm]; simp)
    rw [e]
    exact allD_yes (fun x hx => by
      obtain ⟨m', hm', rfl⟩ := List.mem_map.1 hx
      exact ha m' (by rw [hm]; simp [hm'])) hb
theorem pairs_all {n : Nd} {Q : Pr → Prop} (hc : n.chains.length = n.keys.length) (hk : n.kids = [] ∨ n.kids.length = n.keys.length + 1) : (∀ p ∈ pairsN n, Q p) ↔ (∀ p ∈ kpN n, Q p) ∧ ∀ m ∈ n.kids, ∀ p ∈ pairsN m, Q p := by
  have hsuf : ∀ (K : List Pr) (B : List (List Pr)), B.length = K.length → ((∀ p ∈ suf K B, Q p) ↔ (∀ p ∈ K, Q p) ∧ ∀ x ∈ B, ∀ p ∈ x, Q p) := by
    intro K
    induction K with
    | nil => intro B hB; have : B = [] := List.eq_nil_of_length_eq_zero hB; subst this; simp [suf]
    | cons k K ih =>
      intro B hB
      cases B with
      | nil => simp at hB
      | cons y B =>
        have e : suf (k :: K) (y :: B) = k :: (y ++ suf K B) := by rw [suf, inter_cons]
        rw [e, List.forall_mem_cons, List.forall_mem_append, ih B (by simpa using hB), List.forall_mem_cons, List.forall_mem_cons]
        constructor
        · rintro ⟨h1, h2, h3, h4⟩
          exact ⟨⟨h1, h3⟩, h2, h4⟩
        · rintro ⟨⟨h1, h3⟩, h2, h4⟩
          exact ⟨h1, h2, h3, h4⟩
  rw [pairs_inter hc hk]
  rcases hk with hk | hk
  · have : psN n = [] := by unfold psN; rw [hk]; rfl
    rw [this, hk]
    simp [inter]
  · have hl : (psN n).length = (kpN n).length + 1 := by unfold psN; rw [List.length_map, kp_len hc, hk]
    have hmem : (∀ m ∈ n.kids, ∀ p ∈ pairsN m, Q p) ↔ ∀ x ∈ psN n, ∀ p ∈ x, Q p := by unfold psN; simp
    rw [hmem]
    cases hps : psN n with
    | nil => rw [hps] at hl; simp at hl
    | cons x B =>
      rw [hps] at hl
      rw [inter_cons, List.forall_mem_append, hsuf (kpN n) B (by simpa using hl), List.forall_mem_cons]
      constructor
      · rintro ⟨h1, h2, h3⟩
        exact ⟨h2, h1, h3⟩
      · rintro ⟨h2, h1, h3⟩
        exact ⟨h1, h2, h3⟩
theorem ris_kids {n : Nd} (hc : n.chains.length = n.keys.length) (hk : n.kids.length = n.keys.length + 1) (low high : List (List UInt8)) :
    Ris (low ++ kyP (pairsN n) ++ high) ↔ Ris (low ++ n.keys ++ high) ∧ ∀ i (h : i < n.kids.length), Ris (loK n.keys low i ++ kyP (pairsN n.kids[i]) ++ hiK n.keys high i) := by
  rw [pairs_inter hc (.inr hk)]
  have hl : (psN n).length = (kpN n).length + 1 := by unfold psN; rw [List.length_map, kp_len hc, hk]
  obtain ⟨x, B, hps⟩ : ∃ x B, psN n = x :: B := by
    cases hps : psN n with
    | nil => rw [hps] at hl; simp at hl
    | cons x B => exact ⟨x, B, rfl⟩
  have hlB : B.length = (kpN n).length := by rw [hps] at hl; simpa using hl
  rw [hps, inter_cons, ris_inter (kpN n) x B low high hlB, kp_keys hc]
  have hlen : (x :: B).length = n.kids.length := by rw [← hps]; unfold psN; rw [List.length_map]
  have hget : ∀ i (h1 : i < (x :: B).length) (h2 : i < n.kids.length), (x :: B)[i] = pairsN n.kids[i] := fun i h1 h2 => by
    have : (psN n)[i]? = some (pairsN n.kids[i]) := by unfold psN; rw [List.getElem?_map, List.getElem?_eq_getElem h2]; rfl
    rw [hps, List.getElem?_eq_getElem h1] at this
    exact Option.some.inj this
  constructor
  · rintro ⟨h1, h2⟩
    exact ⟨h1, fun i hi => by have := h2 i (by omega); rwa [hget i (by omega) hi] at this⟩
  · rintro ⟨h1, h2⟩
    exact ⟨h1, fun i hi => by have := h2 i (by omega); rwa [hget i hi (by omega)]⟩
theorem depF_alone {n : Nd} {low high : List (List UInt8)} (h : ¬ aloF n) : depF n low high = 0 := by
  unfold depF
  rw [if_neg]
  rintro ⟨h1, h2, _⟩
  obtain ⟨h4, h5, h6, h7⟩ := form_inv rfl h1
  refine h ⟨h6 rfl, h5, h4, ?_, h7.imp (fun h => h.1) fun h => h.1⟩
  exact ((pairs_all h4 (h7.imp (fun h => h.1) fun h => h.1)).1 h2).1
theorem depF_rise {n : Nd} {low high : List (List UInt8)} (ha : aloF n) (h : ¬ Ris (low ++ n.keys ++ high)) : depF n low high = 0 := by
  obtain ⟨_, _, hc, _, hk⟩ := ha
  unfold depF
  rw [if_neg]
  rintro ⟨_, _, h3⟩
  rcases hk with hk | hk
  · rw [pairs_inter hc (.inl hk)] at h3
    have : psN n = [] := by unfold psN; rw [hk]; rfl
    rw [this] at h3
    exact h (by simpa [inter, kp_keys hc] using h3)
  · exact h ((ris_kids hc hk low high).1 h3).1
theorem depF_leaf {n : Nd} {low high : List (List UInt8)} (ha : aloF n) (h : Ris (low ++ n.keys ++ high)) (h0 : n.kids = []) : depF n low high = 1 := by
  obtain ⟨h1, h3, hc, hg, _⟩ := ha
  unfold depF
  have hp : psN n = [] := by unfold psN; rw [h0]; rfl
  rw [form_leaf hc h1 h3 h0, if_pos]
  · rfl
  · refine ⟨by omega, (pairs_all hc (.inl h0)).2 ⟨hg, fun m hm => by rw [h0] at hm; cases hm⟩, ?_⟩
    rw [pairs_inter hc (.inl h0), hp]
    simpa [inter, kp_keys hc] using h
theorem depF_pos {n : Nd} {low high : List (List UInt8)} (h : depF n low high ≠ 0) : formI n false = (depF n low high : Int) ∧ (∀ p ∈ pairsN n, goodP p) ∧ Ris (low ++ kyP (pairsN n) ++ high) := by
  unfold depF at h ⊢
  split at h
  · next hc => rw [if_pos hc]; exact ⟨by omega, hc.2⟩
  · exact absurd rfl h
theorem depF_kid {n : Nd} {low high : List (List UInt8)} (ha : aloF n) (hd : depF n low high ≠ 0) (i : Nat) (hi : i < n.kids.length) : (depF n.kids[i] (loK n.keys low i) (hiK n.keys high i) : Int) = (depF n low high : Int) - 1 ∧ depF n.kids[i] (loK n.keys low i) (hiK n.keys high i) ≠ 0 := by
  obtain ⟨_, _, hc, hg, hk⟩ := ha
  obtain ⟨h1, h2, h3⟩ := depF_pos hd
  have hk' : n.kids.length = n.keys.length + 1 := by
    rcases hk with hk | hk
    · rw [hk] at hi; cases hi
    · exact hk
  obtain ⟨_, _, _, h7⟩ := form_inv h1 (by omega)
  rcases h7 with ⟨h7, _⟩ | ⟨_, _, h8, h9⟩
  · rw [h7] at hi; cases hi
  · have e := h9 _ (List.getElem_mem hi)
    have hcond : 0 ≤ formI n.kids[i] false ∧ (∀ p ∈ pairsN n.kids[i], goodP p) ∧ Ris (loK n.keys low i ++ kyP (pairsN n.kids[i]) ++ hiK n.keys high i) :=
      ⟨by rw [e]; omega, ((pairs_all hc (.inr hk')).1 h2).2 _ (List.getElem_mem hi), ((ris_kids hc hk' low high).1 h3).2 i hi⟩
    have : depF n.kids[i] (loK n.keys low i) (hiK n.keys high i) = (formI n.kids[i] false).toNat := if_pos hcond
    rw [this, e]
    omega
theorem depF_all {n : Nd} {low high : List (List UInt8)} {b : Nat} (ha : aloF n) (h : Ris (low ++ n.keys ++ high)) (hk : 0 < n.kids.length) (hb : 0 < b) (hd : ∀ i (hi : i < n.kids.length), depF n.kids[i] (loK n.keys low i) (hiK n.keys high i) = b) : depF n low high = b + 1 := by
  obtain ⟨h1, h3, hc, hg, hk2⟩ := ha
  have hk' : n.kids.length = n.keys.length + 1 := by
    rcases hk2 with hk2 | hk2
    · rw [hk2] at hk; cases hk
    · exact hk2
  have hp := fun i (hi : i < n.kids.length) => depF_pos (n := n.kids[i]) (low := loK n.keys low i) (high := hiK n.keys high i) (by rw [hd i hi]; omega)
  have hf : formI n false = (b : Int) + 1 := form_up hc h1 h3 hk' (by omega) fun m hm => by
    obtain ⟨i, hi, rfl⟩ := List.mem_iff_getElem.1 hm
    rw [(hp i hi).1, hd i hi]
  unfold depF
  rw [hf, if_pos]
  · omega
  · refine ⟨by omega, (pairs_all hc (.inr hk')).2 ⟨hg, fun m hm => ?_⟩, (ris_kids hc hk' low high).2 ⟨h, fun i hi => (hp i hi).2.2⟩⟩
    obtain ⟨i, hi, rfl⟩ := List.mem_iff_getElem.1 hm
    exact (hp i hi).2.1
theorem depN_root (n : Nd) : depN n = if n.keys.length + n.chains.length + n.kids.length = 0 then 1 else (depF n [] [] : Int) := by
  unfold depN
  have hsr : ∀ l : List Pr, Srt l ↔ Ris ([] ++ kyP l ++ []) := fun l => by
    unfold Srt Ris kyP
    rw [List.nil_append, List.append_nil, List.pairwise_map]
  by_cases h0 : n.keys.length + n.chains.length + n.kids.length = 0
  · rw [if_pos h0]
    have e1 : n.keys.length = 0 := by omega
    have e2 : n.kids = [] := List.eq_nil_of_length_eq_zero (by omega)
    have hf : formI n true = 1 := by
      rw [formI_def, if_neg (by simp; omega), if_pos (by rw [e2]; rfl)]
    have hp : pairsN n = [] := List.eq_nil_of_length_eq_zero (by rw [pairs_leaf n e2]; exact e1)
    have hok : okN n := ⟨by rw [hf]; omega, by rw [hp]; intro i h; simp at h⟩
    rw [if_pos hok, hf]
  · rw [if_neg h0]
    by_cases h1 : 1 ≤ n.keys.length
    · have hiff : okN n ↔ (0 ≤ formI n false ∧ (∀ p ∈ pairsN n, goodP p) ∧ Ris ([] ++ kyP (pairsN n) ++ [])) := by
        unfold okN
        rw [form_one n h1, okP_iff, hsr]
      unfold depF
      by_cases h2 : okN n
      · rw [if_pos h2, if_pos (hiff.1 h2), form_one n h1]
        have := (hiff.1 h2).1
        omega
      · rw [if_neg h2, if_neg fun h => h2 (hiff.2 h)]
        rfl
    · have hf : formI n false = -1 := by
        rw [formI_def, if_pos (.inr (.inr ⟨rfl, by omega⟩))]
      have hft : ¬ 0 ≤ formI n true := fun h => by
        obtain ⟨h4, _, _, h7⟩ := form_inv rfl h
        rcases h7 with ⟨h7, _⟩ | ⟨_, h8, _⟩
        · have e : n.kids.length = 0 := by rw [h7]; rfl
          exact h0 (by omega)
        · omega
      rw [if_neg (fun h : okN n => hft h.1)]
      unfold depF
      rw [if_neg (fun h => by rw [hf] at h; omega)]
      rfl
end Go.Proofs.Yticngbgjfdcnhaa
namespace Go.Proofs.Yticngbgjfdcnhaa
open Go.RowKit
def gdP (n : Nd) (r : Nat) : Prop := (n.keys.getD r []).length ≤ 16 ∧ n.chains.getD r [] ≠ [] ∧ okV (n.chains.getD r [])
instance (n : Nd) (r : Nat) : Decidable (gdP n r) := by unfold gdP; infer_instance
theorem kp_good {n : Nd} (hc : n.chains.length = n.keys.length) : (∀ p ∈ kpN n, goodP p) ↔ ∀ r, r < n.keys.length → gdP n r := by
  have e1 : ∀ r (hr : r < n.keys.length), n.keys.getD r [] = n.keys[r] ∧ n.chains.getD r [] = n.chains[r]'(by omega) := fun r hr => by
    rw [List.getD_eq_getElem?_getD, List.getD_eq_getElem?_getD, List.getElem?_eq_getElem hr, List.getElem?_eq_getElem (by omega : r < n.chains.length)]
    exact ⟨rfl, rfl⟩
  constructor
  · intro h r hr
    have hm : (⟨n.keys[r], n.chains[r]'(by omega)⟩ : Pr) ∈ kpN n := List.mem_of_getElem? (kp_get hc hr)
    obtain ⟨h1, h2, h3⟩ := h _ hm
    unfold gdP
    rw [(e1 r hr).1, (e1 r hr).2]
    exact ⟨h3, h2, h1⟩
  · intro h p hp
    obtain ⟨r, hr, rfl⟩ := List.mem_iff_getElem.1 hp
    have hr' : r < n.keys.length := by rw [kp_len hc] at hr; exact hr
    have e := kp_get hc hr'
    rw [List.getElem?_eq_getElem hr] at e
    rw [Option.some.inj e]
    have hg := h r hr'
    unfold gdP at hg
    rw [(e1 r hr').1, (e1 r hr').2] at hg
    exact ⟨hg.2.2, hg.2.1, hg.1⟩
set_option maxRecDepth 100000 in
set_option maxHeartbeats 4000000 in
theorem tAlone_any (w : World) {S : Nat → Prop} {v : Value} {n : Nd} (hr : RdN S w v n) : Calls Try.prog 43 #[v] w fun e w' => e = .returned (.bool (decide (aloF n))) ∧ Below w.heap.size w w' := by
  obtain ⟨a1, c1, a2, c2, a3, c3, rfl, rk, rc, rn⟩ := hr
  have q : Below w.heap.size w (w.alloc (.cells #[.slice a1 n.keys.length c1, .slice a2 n.chains.length c2, .slice a3 n.kids.length c3] 28)) := (Below.refl _ _).alloc (Nat.le_refl _) _
  have bn := TriV.new w 28 (.slice a1 n.keys.length c1) (.slice a2 n.chains.length c2) (.slice a3 n.kids.length c3)
  obtain ⟨W, hW⟩ : ∃ W, W = w.alloc (.cells #[.slice a1 n.keys.length c1, .slice a2 n.chains.length c2, .slice a3 n.kids.length c3] 28) := ⟨_, rfl⟩
  rw [← hW] at q bn
  obtain ⟨out, hout⟩ : ∃ out, out = decide (aloF n) := ⟨_, rfl⟩
  rw [← hout]
  replace hout := Lib.hid hout
  have tn0 := bn.cell0
  have tn1 := bn.cell1
  have tn2 := bn.cell2
  obtain ⟨hk1, hk2, hk3⟩ : n.keys.length ≤ 9223372036854775807 ∧ n.chains.length ≤ 9223372036854775807 ∧ n.kids.length ≤ 9223372036854775807 := RdN.lens (S := S) (w := w) (v := .agg #[.slice a1 n.keys.length c1, .slice a2 n.chains.length c2, .slice a3 n.kids.length c3]) ⟨a1, c1, a2, c2, a3, c3, rfl, rk, rc, rn⟩
  by_cases hlen : 1 ≤ n.keys.length ∧ n.keys.length ≤ 3 ∧ n.chains.length = n.keys.length
  · obtain ⟨h1, h3, hc⟩ := hlen
    have d1 : decide ((n.keys.length : Int) < 1) = false := decide_eq_false (by omega)
    have d2 : decide ((3 : Int) < (n.keys.length : Int)) = false := decide_eq_false (by omega)
    have d3 : ((n.chains.length : Int) != (n.keys.length : Int)) = false := lenEq hc
    have hgood := kp_good hc
    have hc1 := Nat.le_of_eq hc
    have hc2 := Nat.le_of_eq hc.symm
    have HC := Lib.hid hc
    clear hc
    replace hgood := Lib.hid hgood
    go_enter Try.func43, Try.ntmps43
    go_wp2_with fail
    rw [← hW]
    clear hW
    go_loopw [3, 4, 27] (fun _ _ iv wr => ∃ j : Nat, j ≤ n.keys.length ∧ iv = .int .i64 j ∧ (∀ r, r < j → gdP n r) ∧ Below W.heap.size W wr) (fun _ _ iv _ => n.keys.length - (intOf iv).toNat)
    case atStart => exact ⟨0, Nat.zero_le _, rfl, fun _ h => absurd h (Nat.not_lt_zero _), Below.refl _ _⟩
    case round =>
      obtain ⟨j, hj, rfl, hg, hb⟩ := hrel
      have hbw := q.trans (hb.mono q.size)
      clear tn0 tn1 tn2
      rcases Nat.lt_or_ge j n.keys.length with hlt | hge
      · have hjc : j < n.chains.length := by omega
        obtain ⟨b1, o1, A, C, rfl, hk0, hkr⟩ := (rk.below hbw).byt j hlt
        obtain ⟨b2, o2, A2, C2, rfl, hc0, hcr⟩ := (rc.below hbw).lst j hjc
        have hfit := fits_any wr (a := A) (n := n.keys[j].length) (c := C) hcr
        have hgd : decide (n.keys[j].length ≤ 16 ∧ n.chains[j] ≠ [] ∧ okV n.chains[j]) = decide (gdP n j) := decide_eq_decide.2 (by
          unfold gdP
          rw [List.getD_eq_getElem?_getD, List.getD_eq_getElem?_getD, List.getElem?_eq_getElem hlt, List.getElem?_eq_getElem hjc]
          exact Iff.rfl)
        rw [hgd] at hfit
        clear hgd
        have bn2 := bn.below hb bn.lt
        have tn1 := bn2.cell1
        by_cases hg2 : gdP n j
        · rw [decide_eq_true hg2] at hfit
          go_wp2_with fail
          refine hfit.mono ?_
          rintro e w2 ⟨rfl, hb2⟩
          go_wp2_with fail
          go_roundw
          case rel => exact ⟨j + 1, by omega, by go_num, fun r hr => (Nat.lt_or_ge r j).elim (fun h => hg r h) (fun h => (show r = j by omega) ▸ hg2), hb.trans (hb2.mono hb.size)⟩
          case measure => simp [intOf]; omega
        · rw [decide_eq_false hg2] at hfit
          have ho : out = false := by
            rw [hout.out]
            exact decide_eq_false fun ha => hg2 (hgood.out.1 ha.2.2.2.1 j hlt)
          replace ho := Lib.hid ho
          go_wp2_with fail
          refine hfit.mono ?_
          rintro e w2 ⟨rfl, hb2⟩
          go_wp2_with fail
          go_ret
          exact ⟨by rw [ho.out] <;> rfl, hbw.trans (hb2.mono hbw.size)⟩
      · obtain rfl : j = n.keys.length := by omega
        have bn2 := bn.below hb bn.lt
        have hle := leaf_any wr (x := .slice a1 n.keys.length c1) (y := .slice a2 n.chains.length c2) (a := a3) (n := n.kids.length) (c := c3)
        have tn0 := bn2.cell0
        have tn1 := bn2.cell1
        have tn2 := bn2.cell2
        have hall := hgood.out.2 hg
        replace hg := Lib.hid hg
        rcases Nat.eq_zero_or_pos n.kids.length with hk0 | hk0
        · have hdk : decide (n.kids.length = 0) = true := decide_eq_true hk0
          rw [hdk] at hle
          have ho : out = true := by
            rw [hout.out]
            exact decide_eq_true ⟨h1, h3, HC.out, hall, .inl (List.length_eq_zero_iff.1 hk0)⟩
          replace ho := Lib.hid ho
          replace hdk := Lib.hid hdk
          replace hk0 := Lib.hid hk0
          go_wp2_with fail
          refine hle.mono ?_
          rintro e w2 ⟨rfl, hb2⟩
          go_wp2_with fail
          go_ret
          exact ⟨by rw [ho.out] <;> rfl, hbw.trans (hb2.mono hbw.size)⟩
        · have hdk : decide (n.kids.length = 0) = false := decide_eq_false (by omega)
          rw [hdk] at hle
          obtain ⟨yes, hyes⟩ : ∃ yes, yes = decide (n.kids.length = n.keys.length + 1) := ⟨_, rfl⟩
          have d4 : ((n.kids.length : Int) == (n.keys.length : Int) + 1) = yes := by
            rw [hyes]
            by_cases h : n.kids.length = n.keys.length + 1
            · rw [decide_eq_true h, beq_iff_eq]; omega
            · rw [decide_eq_false h, beq_eq_false_iff_ne]; omega
          have ho : out = yes := by
            rw [hout.out, hyes]
            refine decide_eq_decide.2 ⟨fun ha => ?_, fun h => ⟨h1, h3, HC.out, hall, .inr h⟩⟩
            rcases ha.2.2.2.2 with h | h
            · rw [h] at hk0; cases hk0
            · exact h
          replace ho := Lib.hid ho
          replace hdk := Lib.hid hdk
          replace hyes := Lib.hid hyes
          go_wp2_with fail
          refine hle.mono ?_
          rintro e w2 ⟨rfl, hb2⟩
          have bn3 := bn2.below hb2 bn2.lt
          clear tn0 tn1 tn2
          have tn0 := bn3.cell0
          have tn2 := bn3.cell2
          go_wp2_with fail
          go_ret
          exact ⟨by rw [ho.out] <;> rfl, hbw.trans (hb2.mono hbw.size)⟩
  · have ho : out = false := by
      rw [hout.out]
      exact decide_eq_false fun ha => hlen ⟨ha.1, ha.2.1, ha.2.2.1⟩
    replace ho := Lib.hid ho
    have fin : ∀ W', W' = W → (Ending.returned (.bool false) = Ending.returned (.bool out) ∧ Below w.heap.size w W') := fun W' e => ⟨by rw [ho.out], by rw [e]; exact q⟩
    rcases Nat.lt_or_ge n.keys.length 1 with h1 | h1
    · have d1 : decide ((n.keys.length : Int) < 1) = true := decide_eq_true (by omega)
      go_enter Try.func43, Try.ntmps43
      go_wp2_with fail
      rw [← hW]
      go_ret
      exact fin _ rfl
    · have d1 : decide ((n.keys.length : Int) < 1) = false := decide_eq_false (by omega)
      rcases Nat.lt_or_ge 3 n.keys.length with h3 | h3
      · have d2 : decide ((3 : Int) < (n.keys.length : Int)) = true := decide_eq_true (by omega)
        go_enter Try.func43, Try.ntmps43
        go_wp2_with fail
        rw [← hW]
        go_ret
        exact fin _ rfl
      · have d2 : decide ((3 : Int) < (n.keys.length : Int)) = false := decide_eq_false (by omega)
        have hne : ¬ n.chains.length = n.keys.length := fun h => hlen ⟨h1, h3, h⟩
        have d3 : ((n.chains.length : Int) != (n.keys.length : Int)) = true := lenNe hne
        go_enter Try.func43, Try.ntmps43
        go_wp2_with fail
        rw [← hW]
        go_ret
        exact fin _ rfl
end Go.Proofs.Yticngbgjfdcnhaa
namespace Go.Proofs.Yticngbgjfdcnhaa
open Go.RowKit
def LastR (S : Nat → Prop) (w : World) (v : Value) (P : List (List UInt8)) : Prop :=
  (P = [] ∧ v = .slice none 0 0) ∨ ∃ Q x b off C A L, P = Q ++ [x] ∧ v = .slice (some ⟨b, off, none⟩) 1 C ∧ w.cell? ⟨b, off, none⟩ = some (.slice A x.length L) ∧ RdS S w (.slice A x.length L) x
theorem ris_snoc {Q : List (List UInt8)} {x k : List UInt8} : Ris (Q ++ [x] ++ [k]) ↔ Ris (Q ++ [x]) ∧ ltB x k = true := by
  rw [List.append_assoc, List.singleton_append, ris_mid]
  unfold Ris
  simp
theorem ris_pre {A B : List (List UInt8)} (h : Ris (A ++ B)) : Ris A := ris_sub h (List.sublist_append_left _ _)
set_option maxRecDepth 100000 in
set_option maxHeartbeats 4000000 in
theorem tRise_any (w : World) {S : Nat → Prop} {a : Option Addr} {m c : Nat} {ls : List (List (List UInt8))} (hl : RdL (Elt.list Elt.bytes) S w (.slice a m c) ls) (hn : ls.length ≤ 1000000) (hn2 : ∀ l ∈ ls, l.length ≤ 1000000) :
    Calls Try.prog 44 #[.slice a m c] w fun e w' => e = .returned (.bool (decide (Ris ls.flatten))) ∧ Below w.heap.size w w' := by
  obtain ⟨rfl, hmc, hcm⟩ := hl.len
  obtain ⟨out, hout⟩ : ∃ out, out = decide (Ris ls.flatten) := ⟨_, rfl⟩
  rw [← hout]
  replace hout := Lib.hid hout
  go_enter Try.func44, Try.ntmps44
  go_wp2_with fail
  go_loopw [3, 5, 6, 7, 10] (fun lv _ _ _ iv wr => ∃ r : Nat, r ≤ ls.length ∧ iv = .int .i64 r ∧ LastR S w lv (ls.take r).flatten ∧ Ris (ls.take r).flatten ∧ Below w.heap.size w wr) (fun _ _ _ _ iv _ => ls.length - (intOf iv).toNat)
  case atStart => exact ⟨0, Nat.zero_le _, rfl, .inl ⟨rfl, rfl⟩, List.Pairwise.nil, Below.refl _ _⟩
  case round =>
    obtain ⟨r, hr, rfl, hlast, hris, hb⟩ := hrel
    rcases Nat.lt_or_ge r ls.length with hlt | hge
    · obtain ⟨b1, o1, A1, C1, rfl, hc0, hlr⟩ := hl.lst r hlt
      replace hc0 := (cell_keep (hb.block b1 (cell_lt hc0)) _).trans hc0
      have hl0 : RdL Elt.bytes S w (.slice A1 ls[r].length C1) ls[r] := hlr
      have hcap := hl0.len.2
      have hln := hn2 _ (List.getElem_mem hlt)
      obtain ⟨l, hll⟩ : ∃ l, l = ls[r] := ⟨_, rfl⟩
      rw [← hll] at hc0 hl0 hcap hln
      replace hll := Lib.hid hll
      clear hlr
      obtain ⟨P, hP⟩ : ∃ P, P = (ls.take r).flatten := ⟨_, rfl⟩
      rw [← hP] at hlast hris
      replace hP := Lib.hid hP
      go_upto_region 5 with (fail)
      go_wp2_with fail
      go_loopw [3, 6, 7, 16] (fun lv _ _ iv w2 => ∃ i : Nat, i ≤ l.length ∧ iv = .int .i64 i ∧ LastR S w lv (P ++ l.take i) ∧ Ris (P ++ l.take i) ∧ Below wr.heap.size wr w2) (fun _ _ _ iv _ => l.length - (intOf iv).toNat)
      case atStart => exact ⟨0, Nat.zero_le _, rfl, by simpa using hlast, by simpa using hris, Below.refl _ _⟩
      case round =>
        clear hlast hris
        obtain ⟨i, hi, rfl, hlast, hris, hb2⟩ := hrel
        have hbw := hb.trans (hb2.mono hb.size)
        rcases Nat.lt_or_ge i l.length with hil | hil
        · obtain ⟨b2, o2, A2, C2, rfl, hk0, hkr⟩ := hl0.byt i hil
          obtain ⟨y, hy⟩ : ∃ y, y = l[i] := ⟨_, rfl⟩
          rw [← hy] at hk0 hkr
          have htk : P ++ l.take (i + 1) = P ++ l.take i ++ [y] := by rw [List.take_add_one, List.getElem?_eq_getElem hil, hy, List.append_assoc]; rfl
          replace hy := Lib.hid hy
          have nlast : LastR S w (.slice (some ⟨b2, o2 + i, none⟩) 1 (C1 - i)) (P ++ l.take i ++ [y]) := .inr ⟨_, y, b2, o2 + i, C1 - i, A2, C2, rfl, rfl, hk0, hkr⟩
          replace htk := Lib.hid htk
          have hk1 := (cell_keep (hbw.block b2 (cell_lt hk0)) _).trans hk0
          have hkr1 := hkr.below hbw
          clear hk0 hkr
          rcases hlast with ⟨hP0, rfl⟩ | ⟨Q, x, b4, o4, C4, A4, L4, hQ, rfl, hc4, hr4⟩
          · have hris2 : Ris (P ++ l.take i ++ [y]) := by rw [hP0]; unfold Ris; simp
            replace hP0 := Lib.hid hP0
            go_wp2_with (first | (refine wpList_sliceFrom kysP.toLsP rfl rfl rfl (l := i) (r := i + 1) (run_bounds_lh' _ rfl (by omega) (by omega) (by omega)) (by omega) ?_) | fail)
            go_roundw
            case rel => exact ⟨i + 1, by omega, by go_num, by rw [htk.out]; exact nlast, by rw [htk.out]; exact hris2, hb2⟩
            case measure => simp [intOf]; omega
          · have hc5 := (cell_keep (hbw.block b4 (cell_lt hc4)) _).trans hc4
            have hcmp := compare_any wr (hr4.below hbw) hkr1
            have hge := cmp_ge x y
            obtain ⟨cb, hcb⟩ : ∃ cb, cb = Lib.compareBytes x y := ⟨_, rfl⟩
            rw [← hcb] at hcmp hge
            replace hcb := Lib.hid hcb
            clear hc4 hr4
            cases hxy : ltB x y with
            | true =>
              rw [hxy] at hge
              have hge2 : decide (0 ≤ cb) = false := hge
              have hris2 : Ris (P ++ l.take i ++ [y]) := by rw [hQ] at hris ⊢; exact ris_snoc.2 ⟨hris, hxy⟩
              replace hQ := Lib.hid hQ
              replace hxy := Lib.hid hxy
              clear hge
              go_wp2_with fail
              refine hcmp.mono ?_
              rintro e w3 ⟨rfl, rfl⟩
              go_wp2_with (first | (refine wpList_sliceFrom kysP.toLsP rfl rfl rfl (l := i) (r := i + 1) (run_bounds_lh' _ rfl (by omega) (by omega) (by omega)) (by omega) ?_) | fail)
              go_roundw
              case rel => exact ⟨i + 1, by omega, by go_num, by rw [htk.out]; exact nlast, by rw [htk.out]; exact hris2, hb2⟩
              case measure => simp [intOf]; omega
            | false =>
              rw [hxy] at hge
              have hge2 : decide (0 ≤ cb) = true := hge
              have ho : out = false := by
                rw [hout.out]
                refine decide_eq_false fun h => ?_
                have e1 : ls.flatten = P ++ l.take i ++ [y] ++ (l.drop (i + 1) ++ (ls.drop (r + 1)).flatten) := by
                  have e2 : ls = ls.take r ++ [l] ++ ls.drop (r + 1) := by
                    rw [hll.out, List.append_assoc, List.singleton_append, ← List.drop_eq_getElem_cons hlt, List.take_append_drop]
                  have e3 : P ++ l.take i ++ [y] ++ l.drop (i + 1) = P ++ l := by rw [← htk.out, List.append_assoc, List.take_append_drop]
                  rw [← List.append_assoc, e3, hP.out]
                  conv => lhs; rw [e2]
                  simp
                rw [e1] at h
                have h2 := ris_pre h
                rw [hQ] at h2
                have := (ris_snoc.1 h2).2
                rw [hxy] at this
                cases this
              replace hQ := Lib.hid hQ
              replace hxy := Lib.hid hxy
              replace ho := Lib.hid ho
              clear hge
              go_wp2_with fail
              refine hcmp.mono ?_
              rintro e w3 ⟨rfl, rfl⟩
              go_wp2_with fail
              go_ret
              exact ⟨by rw [ho.out] <;> rfl, hbw⟩
        · obtain rfl : i = l.length := by omega
          rw [List.take_length] at hlast hris
          have e1 : (ls.take (r + 1)).flatten = P ++ l := by
            rw [List.take_add_one, List.getElem?_eq_getElem hlt, Option.toList_some, List.flatten_append, ← hP.out, ← hll.out]
            simp
          replace e1 := Lib.hid e1
          go_wp2_with fail
          go_roundw
          case rel => exact ⟨r + 1, by omega, by go_num, by rw [e1.out]; exact hlast, by rw [e1.out]; exact hris, hbw⟩
          case measure => simp [intOf]; omega
    · obtain rfl : r = ls.length := by omega
      rw [List.take_length] at hris
      have ho : out = true := by rw [hout.out]; exact decide_eq_true hris
      replace ho := Lib.hid ho
      go_wp2_with fail
      go_ret
      exact ⟨by rw [ho.out] <;> rfl, hb⟩
end Go.Proofs.Yticngbgjfdcnhaa
namespace Go.Proofs.Yticngbgjfdcnhaa
open Go.RowKit
theorem RdL.oneAt {S : Nat → Prop} {w : World} {b off m c : Nat} {ks : List (List UInt8)} (h : RdL Elt.bytes S w (.slice (Option.some ⟨b, off, none⟩) m c) ks) {r : Nat} (hr : r < ks.length) : RdL Elt.bytes S w (.slice (Option.some ⟨b, off + r, none⟩) 1 (c - r)) [ks[r]] := by
  obtain ⟨a', cap, e, h2, h3, h4⟩ := h
  cases e
  rcases h4 with rfl | ⟨b', off', e, hb, hq⟩
  · cases hr
  · cases e
    obtain ⟨vs, hR, hc⟩ := hq r hr
    refine ⟨_, _, rfl, by show 1 ≤ c - r; omega, by omega, .inr ⟨b, off + r, rfl, hb, fun r' h' => ?_⟩⟩
    obtain rfl : r' = 0 := by simp at h'; exact h'
    refine ⟨vs, hR, fun j u hj => ?_⟩
    have := hc j u hj
    simpa [show Elt.bytes.size = 1 from rfl] using this
def DepAt (N : Nat) : Prop := ∀ (w : World) (S : Nat → Prop) (v : Value) (n : Nd) (la : Option Addr) (lm lc : Nat) (low : List (List UInt8)) (ha : Option Addr) (hm hc : Nat) (high : List (List UInt8)), wN n ≤ N → N ≤ 1000000 → RdN S w v n → RdL Elt.bytes S w (.slice la lm lc) low → RdL Elt.bytes S w (.slice ha hm hc) high → low.length ≤ 1 → high.length ≤ 1 →
  Calls Try.prog 23 #[v, .slice la lm lc, .slice ha hm hc] w fun e w' => e = .returned (.int .i64 (depF n low high : Nat)) ∧ Below w.heap.size w w'
set_option maxRecDepth 100000 in
set_option maxHeartbeats 8000000 in
theorem dep_step (N : Nat) (ih : ∀ M, M < N → DepAt M) : DepAt N := by
  intro w S v n la lm lc low ha hm hc high hN hN2 hr hlo hhi hl1 hh1
  have hw3 := wN_parts n
  have hkid := fun m (h : m ∈ n.kids) => wN_kid h
  have hr0 := hr
  obtain ⟨a1, c1, a2, c2, a3, c3, rfl, rk, rc, rn⟩ := hr
  obtain ⟨rfl, hlc, hlm⟩ := hlo.len
  obtain ⟨rfl, hhc, hhm⟩ := hhi.len
  have q : Below w.heap.size w (w.alloc (.cells #[.slice a1 n.keys.length c1, .slice a2 n.chains.length c2, .slice a3 n.kids.length c3] 28)) := (Below.refl _ _).alloc (Nat.le_refl _) _
  have bn := TriV.new w 28 (.slice a1 n.keys.length c1) (.slice a2 n.chains.length c2) (.slice a3 n.kids.length c3)
  obtain ⟨W, hW⟩ : ∃ W, W = w.alloc (.cells #[.slice a1 n.keys.length c1, .slice a2 n.chains.length c2, .slice a3 n.kids.length c3] 28) := ⟨_, rfl⟩
  rw [← hW] at q bn
  obtain ⟨out, hout⟩ : ∃ out, out = depF n low high := ⟨_, rfl⟩
  rw [← hout]
  replace hout := Lib.hid hout
  have hal := tAlone_any W (hr0.below q)
  have tn0 := bn.cell0
  have tn1 := bn.cell1
  have tn2 := bn.cell2
  clear hr0
  by_cases hA : aloF n
  · rw [decide_eq_true hA] at hal
    obtain ⟨bk0, ok0, _, _, rfl, _, _⟩ := rk.byt 0 (by have := hA.1; omega)
    have hk3 := hA.2.1
    have hkk : n.kids.length ≤ 4 := by rcases hA.2.2.2.2 with h | h; rw [h]; simp; omega
    go_enter Try.func23, Try.ntmps23
    go_upto_region 1 with (fail)
    rw [← hW]
    clear hW
    go_wp2_with fail
    refine hal.mono ?_
    rintro e w1 ⟨rfl, hb1⟩
    have bn1 := bn.below hb1 bn.lt
    have q1 := q.trans (hb1.mono q.size)
    clear tn0 tn1 tn2 hal bn
    have tn0 := bn1.cell0
    have tn2 := bn1.cell2
    go_wp2_with fail
    have qn : Below w1.heap.size w1 (w1.alloc (.cells #[.slice la low.length lc, .slice (Option.some ⟨bk0, ok0, none⟩) n.keys.length c1, .slice ha high.length hc] 24)) := (Below.refl _ _).alloc (Nat.le_refl _) _
    have hblk : (w1.alloc (.cells #[.slice la low.length lc, .slice (Option.some ⟨bk0, ok0, none⟩) n.keys.length c1, .slice ha high.length hc] 24)).heap[w1.heap.size]? = Option.some (.cells #[.slice la low.length lc, .slice (Option.some ⟨bk0, ok0, none⟩) n.keys.length c1, .slice ha high.length hc] 24 (0, 0)) := by simp only [World.alloc, Array.getElem?_push_size]
    generalize w1.alloc (.cells #[.slice la low.length lc, .slice (Option.some ⟨bk0, ok0, none⟩) n.keys.length c1, .slice ha high.length hc] 24) = w2 at *
    have q2 := q1.trans (qn.mono q1.size)
    have bn2 := bn1.below qn bn1.lt
    have hrl : RdL (Elt.list Elt.bytes) (fun _ => True) w2 (.slice (Option.some ⟨w1.heap.size, 0, none⟩) 3 3) [low, n.keys, high] := by
      refine ⟨_, 3, rfl, Nat.le_refl _, by unfold maxLen; omega, .inr ⟨w1.heap.size, 0, rfl, trivial, fun r hr => ?_⟩⟩
      have hcell : ∀ k u, #[Value.slice la low.length lc, Value.slice (Option.some ⟨bk0, ok0, none⟩) n.keys.length c1, .slice ha high.length hc][k]? = Option.some u → ∀ j u', [u][j]? = Option.some u' → w2.cell? ⟨w1.heap.size, 0 + k * 1 + j, none⟩ = Option.some u' := fun k u h j u' hj => by
        rcases j with _ | j
        · have e : u = u' := by simpa using hj
          subst e
          simp [World.cell?, hblk, h]
        · simp at hj
      rcases r with _ | _ | _ | r
      · exact ⟨_, ⟨_, rfl, (hlo.below q2).weak fun _ _ => trivial⟩, hcell 0 _ rfl⟩
      · exact ⟨_, ⟨_, rfl, (rk.below q2).weak fun _ _ => trivial⟩, hcell 1 _ rfl⟩
      · exact ⟨_, ⟨_, rfl, (hhi.below q2).weak fun _ _ => trivial⟩, hcell 2 _ rfl⟩
      · exact absurd hr (by simp only [List.length_cons, List.length_nil]; omega)
    have hris := tRise_any w2 hrl (by simp) (fun l hl => by
      simp only [List.mem_cons, List.not_mem_nil, or_false] at hl
      rcases hl with rfl | rfl | rfl <;> omega)
    have hfl : [low, n.keys, high].flatten = low ++ n.keys ++ high := by simp
    rw [hfl] at hris
    replace hfl := Lib.hid hfl
    clear hblk hrl tn0 tn2 bn1
    by_cases hR : Ris (low ++ n.keys ++ high)
    · rw [decide_eq_true hR] at hris
      refine hris.mono ?_
      rintro e w3 ⟨rfl, hb3⟩
      have q3 := q2.trans (hb3.mono q2.size)
      have bn3 := bn2.below hb3 bn2.lt
      clear hris bn2
      have tn0 := bn3.cell0
      have tn2 := bn3.cell2
      replace hR := Lib.hid hR
      replace hA := Lib.hid hA
      go_wp2_with fail
      go_loopw [7, 8, 9, 10, 11, 12, 28] (fun bv _ _ _ _ _ iv wr => ∃ j b : Nat, j ≤ n.kids.length ∧ iv = .int .i64 j ∧ bv = .int .i64 b ∧ (j = 0 → b = 0) ∧ (0 < j → 0 < b) ∧ b ≤ 1000000 ∧ (∀ i (hi : i < n.kids.length), i < j → depF n.kids[i] (loK n.keys low i) (hiK n.keys high i) = b) ∧ Below w3.heap.size w3 wr) (fun _ _ _ _ _ _ iv _ => n.kids.length - (intOf iv).toNat)
      case atStart => exact ⟨0, 0, Nat.zero_le _, rfl, rfl, fun _ => rfl, fun h => absurd h (Nat.lt_irrefl _), Nat.zero_le _, fun i _ h => absurd h (Nat.not_lt_zero _), Below.refl _ _⟩
      case round =>
        obtain ⟨j, b, hj, rfl, rfl, hb0, hb1', hbm, hall, hbw⟩ := hrel
        have qw := q3.trans (hbw.mono q3.size)
        rcases Nat.lt_or_ge j n.kids.length with hlt | hge
        · have hkl : n.kids.length = n.keys.length + 1 := by
            rcases hA.out.2.2.2.2 with h | h
            · rw [h] at hlt; cases hlt
            · exact h
          have hk1 := Nat.le_of_eq hkl
          have hk2 := Nat.le_of_eq hkl.symm
          clear hkl
          obtain ⟨gb, off, xa, xc, ya, yc, za, zc, rfl, k0, k1, k2, hrk⟩ := rn.kid j hlt
          replace k0 := (cell_keep (qw.block gb (cell_lt k0)) _).trans k0
          replace k1 := (cell_keep (qw.block gb (cell_lt k1)) _).trans k1
          replace k2 := (cell_keep (qw.block gb (cell_lt k2)) _).trans k2
          have hwk := hkid _ (List.getElem_mem hlt)
          have bn4 := bn3.below hbw bn3.lt
          clear tn0 tn2
          go_upto_region 7 with (go_big_may; first
            | (refine wpList_allocT rfl rfl ?_; intro w4 hb4 ht4)
            | (refine wpList_storeT rfl rfl rfl rfl rfl rfl rfl rfl ht4 ?_; intro w5 hg5 bk5)
            | fail)
          have qW : Below wr.heap.size wr w5 := hb4.grown hg5 hb4.size fun k hk => by injection hk with hk; omega
          have q5 := qw.trans (qW.mono qw.size)
          have bn5 := bn4.below qW bn4.lt
          clear hb4 hg5 ht4 k0 k1 k2 bn4
          have tn0 := bn5.cell0
          have tk0 := bk5.cell0
          have tk1 := bk5.cell1
          have tk2 := bk5.cell2
          have hcap := rk.len.2
          have hdw : ∀ (la' : Option Addr) (lm' lc' : Nat) (ha' : Option Addr) (hm' hc' : Nat), RdL Elt.bytes S w (.slice la' lm' lc') (loK n.keys low j) → RdL Elt.bytes S w (.slice ha' hm' hc') (hiK n.keys high j) → Calls Try.prog 23 #[.agg #[.slice xa n.kids[j].keys.length xc, .slice ya n.kids[j].chains.length yc, .slice za n.kids[j].kids.length zc], .slice la' lm' lc', .slice ha' hm' hc'] w5 fun e w' => e = .returned (.int .i64 (depF n.kids[j] (loK n.keys low j) (hiK n.keys high j) : Nat)) ∧ Below w5.heap.size w5 w' := fun la' lm' lc' ha' hm' hc' h1 h2 =>
            ih (wN n.kids[j]) (by omega) w5 S _ _ la' lm' lc' _ ha' hm' hc' _ (Nat.le_refl _) (by omega) (hrk.below q5) (h1.below q5) (h2.below q5) (by unfold loK; split; exact hl1; cases n.keys[j - 1]? <;> simp) (by unfold hiK; split; cases n.keys[j]? <;> simp; exact hh1)
          have hstop : depF n.kids[j] (loK n.keys low j) (hiK n.keys high j) = 0 → out = 0 := fun h0 => by
            rw [hout.out]
            exact Decidable.byContradiction fun hd => (depF_kid hA.out hd j hlt).2 h0
          have hdiff : 0 < j → depF n.kids[j] (loK n.keys low j) (hiK n.keys high j) ≠ b → out = 0 := fun h0 hne => by
            rw [hout.out]
            refine Decidable.byContradiction fun hd => hne ?_
            have e1 := (depF_kid hA.out hd j hlt).1
            have e2 := (depF_kid hA.out hd 0 (by omega)).1
            have e3 := hall 0 (by omega) h0
            omega
          have hnext : depF n.kids[j] (loK n.keys low j) (hiK n.keys high j) ≠ 0 → (0 < j → depF n.kids[j] (loK n.keys low j) (hiK n.keys high j) = b) → ∀ i (hi : i < n.kids.length), i < j + 1 → depF n.kids[i] (loK n.keys low i) (hiK n.keys high i) = depF n.kids[j] (loK n.keys low j) (hiK n.keys high j) := fun _ h2 i hi hij => by
            rcases Nat.lt_or_ge i j with h3 | h3
            · rw [hall i hi h3, h2 (by omega)]
            · obtain rfl : i = j := by omega
              rfl
          have hdm : depF n.kids[j] (loK n.keys low j) (hiK n.keys high j) ≤ 1000000 := by
            have h1 := (form_range (wN n.kids[j]) (n := n.kids[j]) (root := false) (Nat.le_refl _)).2
            unfold depF
            split
            · omega
            · omega
          generalize hdj : depF n.kids[j] (loK n.keys low j) (hiK n.keys high j) = dj at hdw hstop hdiff hnext hdm
          replace hdj := Lib.hid hdj
          replace hall := Lib.hid hall
          clear hrk hwk hkid ih
          rcases Nat.eq_zero_or_pos j with hj0 | hj0
          · have d5 : decide ((0 : Int) < (j : Int)) = false := decide_eq_false (by omega)
            have hlow : RdL Elt.bytes S w (.slice la low.length lc) (loK n.keys low j) := by unfold loK; rw [if_pos hj0]; exact hlo
            have hj0a := Nat.le_of_eq hj0
            replace hj0 := Lib.hid hj0
            rcases Nat.lt_or_ge (j) n.keys.length with hjk | hjk
            · have d6 : decide ((j : Int) < (n.keys.length : Int)) = true := decide_eq_true (by omega)
              have hhigh : RdL Elt.bytes S w (.slice (Option.some ⟨bk0, ok0 + (j), none⟩) 1 (c1 - (j))) (hiK n.keys high (j)) := by
                unfold hiK
                rw [if_pos hjk, List.getElem?_eq_getElem hjk]
                exact rk.oneAt hjk
              go_wp2_with (first | (refine wpList_sliceFrom kysP.toLsP rfl rfl rfl (l := j) (r := j + 1) (run_bounds_lh' _ (by omega) (by omega) (by omega) (by omega)) (by omega) ?_) | fail)
              refine (hdw _ _ _ _ _ _ hlow hhigh).mono ?_
              rintro e w6 ⟨rfl, hb6⟩
              clear hdw hlow hhigh tn0 tk0 tk1 tk2
              rcases Nat.eq_zero_or_pos dj with hd0 | hd0
              · have ho := hstop hd0
                have d7 : ((dj : Int) == 0) = true := by rw [hd0]; rfl
                replace hd0 := Lib.hid hd0
                clear hstop hdiff hnext
                replace ho := Lib.hid ho
                go_wp2_with fail
                go_ret
                exact ⟨by rw [ho.out] <;> rfl, q5.trans (hb6.mono q5.size)⟩
              · have d7 : ((dj : Int) == 0) = false := beq_eq_false_iff_ne.2 (by omega)
                have hnx := hnext (by omega) (fun h => absurd h (by omega))
                replace hnx := Lib.hid hnx
                clear hstop hdiff hnext
                go_wp2_with fail
                go_roundw
                case rel => exact ⟨j + 1, dj, by omega, by go_num, by go_num, fun h => absurd h (by omega), fun _ => hd0, hdm, hnx.out, hbw.trans ((qW.trans (hb6.mono qW.size)).mono hbw.size)⟩
                case measure => simp [intOf]; omega
            · have d6 : decide ((j : Int) < (n.keys.length : Int)) = false := decide_eq_false (by omega)
              have hhigh : RdL Elt.bytes S w (.slice ha high.length hc) (hiK n.keys high (j)) := by unfold hiK; rw [if_neg (by omega)]; exact hhi
              go_wp2_with fail
              refine (hdw _ _ _ _ _ _ hlow hhigh).mono ?_
              rintro e w6 ⟨rfl, hb6⟩
              clear hdw hlow hhigh tn0 tk0 tk1 tk2
              rcases Nat.eq_zero_or_pos dj with hd0 | hd0
              · have ho := hstop hd0
                have d7 : ((dj : Int) == 0) = true := by rw [hd0]; rfl
                replace hd0 := Lib.hid hd0
                clear hstop hdiff hnext
                replace ho := Lib.hid ho
                go_wp2_with fail
                go_ret
                exact ⟨by rw [ho.out] <;> rfl, q5.trans (hb6.mono q5.size)⟩
              · have d7 : ((dj : Int) == 0) = false := beq_eq_false_iff_ne.2 (by omega)
                have hnx := hnext (by omega) (fun h => absurd h (by omega))
                replace hnx := Lib.hid hnx
                clear hstop hdiff hnext
                go_wp2_with fail
                go_roundw
                case rel => exact ⟨j + 1, dj, by omega, by go_num, by go_num, fun h => absurd h (by omega), fun _ => hd0, hdm, hnx.out, hbw.trans ((qW.trans (hb6.mono qW.size)).mono hbw.size)⟩
                case measure => simp [intOf]; omega
          · obtain ⟨j', rfl⟩ : ∃ j', j = j' + 1 := ⟨j - 1, by omega⟩
            have d5 : decide ((0 : Int) < ((j' : Int) + 1)) = true := decide_eq_true (by omega)
            have hlow : RdL Elt.bytes S w (.slice (Option.some ⟨bk0, ok0 + j', none⟩) 1 (c1 - j')) (loK n.keys low (j' + 1)) := by
              unfold loK
              rw [if_neg (by omega), Nat.add_sub_cancel, List.getElem?_eq_getElem (by omega : j' < n.keys.length)]
              exact rk.oneAt (by omega)
            rcases Nat.lt_or_ge (j' + 1) n.keys.length with hjk | hjk
            · have d6 : decide (((j' : Int) + 1) < (n.keys.length : Int)) = true := decide_eq_true (by omega)
              have hhigh : RdL Elt.bytes S w (.slice (Option.some ⟨bk0, ok0 + (j' + 1), none⟩) 1 (c1 - (j' + 1))) (hiK n.keys high (j' + 1)) := by
                unfold hiK
                rw [if_pos hjk, List.getElem?_eq_getElem hjk]
                exact rk.oneAt hjk
              go_wp2_with (first | (refine wpList_sliceFrom kysP.toLsP rfl rfl rfl (l := j') (r := j' + 1) (run_bounds_lh' _ (by omega) (by omega) (by omega) (by omega)) (by omega) ?_) | (refine wpList_sliceFrom kysP.toLsP rfl rfl rfl (l := j' + 1) (r := j' + 1 + 1) (run_bounds_lh' _ (by omega) (by omega) (by omega) (by omega)) (by omega) ?_) | fail)
              refine (hdw _ _ _ _ _ _ hlow hhigh).mono ?_
              rintro e w6 ⟨rfl, hb6⟩
              clear hdw hlow hhigh tn0 tk0 tk1 tk2
              rcases Nat.eq_zero_or_pos dj with hd0 | hd0
              · have ho := hstop hd0
                have d7 : ((dj : Int) == 0) = true := by rw [hd0]; rfl
                replace hd0 := Lib.hid hd0
                clear hstop hdiff hnext
                replace ho := Lib.hid ho
                go_wp2_with fail
                go_ret
                exact ⟨by rw [ho.out] <;> rfl, q5.trans (hb6.mono q5.size)⟩
              · have d7 : ((dj : Int) == 0) = false := beq_eq_false_iff_ne.2 (by omega)
                by_cases hdb : dj = b
                · have d8 : ((dj : Int) != (b : Int)) = false := lenEq hdb
                  have hnx := hnext (by omega) (fun _ => hdb)
                  replace hnx := Lib.hid hnx
                  replace hdb := Lib.hid hdb
                  clear hstop hdiff hnext
                  go_wp2_with fail
                  go_roundw
                  case rel => exact ⟨j' + 1 + 1, dj, by omega, by go_num, by go_num, fun h => absurd h (by omega), fun _ => hd0, hdm, hnx.out, hbw.trans ((qW.trans (hb6.mono qW.size)).mono hbw.size)⟩
                  case measure => simp [intOf]; omega
                · have ho := hdiff (by omega) hdb
                  have d8 : ((dj : Int) != (b : Int)) = true := lenNe hdb
                  clear hstop hdiff hnext
                  replace ho := Lib.hid ho
                  go_wp2_with fail
                  go_ret
                  exact ⟨by rw [ho.out] <;> rfl, q5.trans (hb6.mono q5.size)⟩
            · have d6 : decide (((j' : Int) + 1) < (n.keys.length : Int)) = false := decide_eq_false (by omega)
              have hhigh : RdL Elt.bytes S w (.slice ha high.length hc) (hiK n.keys high (j' + 1)) := by unfold hiK; rw [if_neg (by omega)]; exact hhi
              go_wp2_with (first | (refine wpList_sliceFrom kysP.toLsP rfl rfl rfl (l := j') (r := j' + 1) (run_bounds_lh' _ (by omega) (by omega) (by omega) (by omega)) (by omega) ?_) | fail)
              refine (hdw _ _ _ _ _ _ hlow hhigh).mono ?_
              rintro e w6 ⟨rfl, hb6⟩
              clear hdw hlow hhigh tn0 tk0 tk1 tk2
              rcases Nat.eq_zero_or_pos dj with hd0 | hd0
              · have ho := hstop hd0
                have d7 : ((dj : Int) == 0) = true := by rw [hd0]; rfl
                replace hd0 := Lib.hid hd0
                clear hstop hdiff hnext
                replace ho := Lib.hid ho
                go_wp2_with fail
                go_ret
                exact ⟨by rw [ho.out] <;> rfl, q5.trans (hb6.mono q5.size)⟩
              · have d7 : ((dj : Int) == 0) = false := beq_eq_false_iff_ne.2 (by omega)
                by_cases hdb : dj = b
                · have d8 : ((dj : Int) != (b : Int)) = false := lenEq hdb
                  have hnx := hnext (by omega) (fun _ => hdb)
                  replace hnx := Lib.hid hnx
                  replace hdb := Lib.hid hdb
                  clear hstop hdiff hnext
                  go_wp2_with fail
                  go_roundw
                  case rel => exact ⟨j' + 1 + 1, dj, by omega, by go_num, by go_num, fun h => absurd h (by omega), fun _ => hd0, hdm, hnx.out, hbw.trans ((qW.trans (hb6.mono qW.size)).mono hbw.size)⟩
                  case measure => simp [intOf]; omega
                · have ho := hdiff (by omega) hdb
                  have d8 : ((dj : Int) != (b : Int)) = true := lenNe hdb
                  clear hstop hdiff hnext
                  replace ho := Lib.hid ho
                  go_wp2_with fail
                  go_ret
                  exact ⟨by rw [ho.out] <;> rfl, q5.trans (hb6.mono q5.size)⟩
        · obtain rfl : j = n.kids.length := by omega
          have ho : out = b + 1 := by
            rw [hout.out]
            rcases Nat.eq_zero_or_pos n.kids.length with hk0 | hk0
            · rw [hb0 hk0]; exact depF_leaf hA.out hR.out (List.length_eq_zero_iff.1 hk0)
            · exact depF_all hA.out hR.out hk0 (hb1' hk0) fun i hi => hall i hi hi
          replace ho := Lib.hid ho
          replace hall := Lib.hid hall
          replace hb0 := Lib.hid hb0
          clear hkid ih
          go_wp2_with fail
          go_ret
          exact ⟨by rw [ho.out] <;> simp, qw⟩
    · rw [decide_eq_false hR] at hris
      have ho : out = 0 := by rw [hout.out]; exact depF_rise hA hR
      replace ho := Lib.hid ho
      refine hris.mono ?_
      rintro e w3 ⟨rfl, hb3⟩
      go_wp2_with fail
      go_ret
      exact ⟨by rw [ho.out] <;> rfl, q2.trans (hb3.mono q2.size)⟩
  · rw [decide_eq_false hA] at hal
    have ho : out = 0 := by rw [hout.out]; exact depF_alone hA
    replace ho := Lib.hid ho
    go_enter Try.func23, Try.ntmps23
    go_upto_region 1 with (fail)
    rw [← hW]
    clear hW
    go_wp2_with fail
    refine hal.mono ?_
    rintro e w1 ⟨rfl, hb1⟩
    go_wp2_with fail
    go_ret
    exact ⟨by rw [ho.out] <;> rfl, q.trans (hb1.mono q.size)⟩
end Go.Proofs.Yticngbgjfdcnhaa
namespace Go.Proofs.Yticngbgjfdcnhaa
open Go.RowKit
theorem dep_any (N : Nat) : DepAt N := by
  induction N using Nat.strongRecOn with
  | _ N ih => exact dep_step N ih
theorem form_pos {n : Nd} {root : Bool} (h : 0 ≤ formI n root) : 1 ≤ formI n root := by
  obtain ⟨_, _, _, h1 | h1⟩ := form_inv rfl h
  · omega
  · omega
theorem dep_ok (n : Nd) : decide ((0 : Int) < depN n) = decide (okN n) := by
  unfold depN
  by_cases h : okN n
  · rw [if_pos h, decide_eq_true h]
    have := form_pos h.1
    exact decide_eq_true (by omega)
  · rw [if_neg h, decide_eq_false h]
    rfl
set_option maxRecDepth 100000 in
set_option maxHeartbeats 2000000 in
theorem tDepth_any (w : World) {S : Nat → Prop} {v : Value} {n : Nd} (hr : RdN S w v n) (hf : wN n ≤ 1000000) : Calls Try.prog 8 #[v] w fun e w' => e = .returned (.int .i64 (depN n)) ∧ Below w.heap.size w w' := by
  have hw3 := wN_parts n
  have hr0 := hr
  obtain ⟨a1, c1, a2, c2, a3, c3, rfl, _, _, _⟩ := hr
  have q : Below w.heap.size w (w.alloc (.cells #[.slice a1 n.keys.length c1, .slice a2 n.chains.length c2, .slice a3 n.kids.length c3] 28)) := (Below.refl _ _).alloc (Nat.le_refl _) _
  have bn := TriV.new w 28 (.slice a1 n.keys.length c1) (.slice a2 n.chains.length c2) (.slice a3 n.kids.length c3)
  obtain ⟨W, hW⟩ : ∃ W, W = w.alloc (.cells #[.slice a1 n.keys.length c1, .slice a2 n.chains.length c2, .slice a3 n.kids.length c3] 28) := ⟨_, rfl⟩
  rw [← hW] at q bn
  have hdep := dep_any (wN n) W S _ n none 0 0 [] none 0 0 [] (Nat.le_refl _) hf (hr0.below q) (RdL.nil _ _ _) (RdL.nil _ _ _) (Nat.zero_le _) (Nat.zero_le _)
  have hroot := depN_root n
  obtain ⟨out, hout⟩ : ∃ out, out = depN n := ⟨_, rfl⟩
  rw [← hout] at hroot ⊢
  replace hout := Lib.hid hout
  generalize depF n [] [] = dd at hdep hroot
  have tn0 := bn.cell0
  have tn1 := bn.cell1
  have tn2 := bn.cell2
  by_cases h0 : n.keys.length + n.chains.length + n.kids.length = 0
  · rw [if_pos h0] at hroot
    have d : ((n.keys.length : Int) + (n.chains.length : Int) + (n.kids.length : Int) == 0) = true := by rw [beq_iff_eq]; omega
    replace hroot := Lib.hid hroot
    replace h0 := Lib.hid h0
    go_enter Try.func8, Try.ntmps8
    go_upto_region 1 with (fail)
    rw [← hW]
    clear hW
    go_wp2_with fail
    go_ret
    exact ⟨by rw [hroot.out] <;> rfl, q⟩
  · rw [if_neg h0] at hroot
    have d : ((n.keys.length : Int) + (n.chains.length : Int) + (n.kids.length : Int) == 0) = false := beq_eq_false_iff_ne.2 (by omega)
    replace hroot := Lib.hid hroot
    replace h0 := Lib.hid h0
    go_enter Try.func8, Try.ntmps8
    go_upto_region 1 with (fail)
    rw [← hW]
    clear hW
    go_wp2_with fail
    refine hdep.mono ?_
    rintro e w2 ⟨rfl, hb2⟩
    go_wp2_with fail
    go_ret
    exact ⟨by rw [hroot.out] <;> rfl, q.trans (hb2.mono q.size)⟩
set_option maxRecDepth 100000 in
set_option maxHeartbeats 2000000 in
theorem tCheck_any (w : World) {S : Nat → Prop} {v : Value} {n : Nd} (hr : RdN S w v n) (hf : wN n ≤ 1000000) : Calls Try.prog 14 #[v] w fun e w' => e = .returned (.bool (decide (okN n))) ∧ Below w.heap.size w w' := by
  have hr0 := hr
  obtain ⟨a1, c1, a2, c2, a3, c3, rfl, _, _, _⟩ := hr
  have q : Below w.heap.size w (w.alloc (.cells #[.slice a1 n.keys.length c1, .slice a2 n.chains.length c2, .slice a3 n.kids.length c3] 28)) := (Below.refl _ _).alloc (Nat.le_refl _) _
  have bn := TriV.new w 28 (.slice a1 n.keys.length c1) (.slice a2 n.chains.length c2) (.slice a3 n.kids.length c3)
  obtain ⟨W, hW⟩ : ∃ W, W = w.alloc (.cells #[.slice a1 n.keys.length c1, .slice a2 n.chains.length c2, .slice a3 n.kids.length c3] 28) := ⟨_, rfl⟩
  rw [← hW] at q bn
  have hdep := tDepth_any W (hr0.below q) hf
  have hok := dep_ok n
  generalize depN n = dd at hdep hok
  generalize decide (okN n) = out at hok ⊢
  have tn0 := bn.cell0
  have tn1 := bn.cell1
  have tn2 := bn.cell2
  go_enter Try.func14, Try.ntmps14
  go_upto_region 1 with (fail)
  rw [← hW]
  clear hW
  go_wp2_with fail
  refine hdep.mono ?_
  rintro e w2 ⟨rfl, hb2⟩
  go_wp2_with fail
  go_ret
  exact ⟨rfl, q.trans (hb2.mono q.size)⟩
theorem ok_wf : ∀ (d : Nat) {n : Nd} {root : Bool}, formI n root = (d : Int) → Wf d (if root then 0 else 1) 3 n ∧ (root = true → d = 1 ∨ 1 ≤ n.keys.length)
  | 0, n, root, h => by have := form_pos (n := n) (root := root) (by omega); omega
  | d + 1, n, root, h => by
    obtain ⟨h1, h2, h3, h4⟩ := form_inv h (by omega)
    refine ⟨⟨h1, ?_, h2, ?_⟩, fun _ => ?_⟩
    · cases root with
      | true => exact Nat.zero_le _
      | false => exact h3 rfl
    · rcases h4 with ⟨h5, h6⟩ | ⟨h5, _, h7, h8⟩
      · exact .inl ⟨by omega, h5⟩
      · refine .inr ⟨by omega, h5, fun m hm => ?_⟩
        have := (ok_wf d (n := m) (root := false) (by rw [h8 m hm]; omega)).1
        simpa using this
    · rcases h4 with ⟨_, h6⟩ | ⟨_, h6, _⟩
      · exact .inl (by omega)
      · exact .inr h6
theorem wf_form : ∀ (d : Nat) {n : Nd}, Wf d 1 3 n → formI n false = (d : Int)
  | 0, n, h => h.elim
  | d + 1, n, h => by
    obtain ⟨h1, h2, h3, h4⟩ := h
    rcases h4 with ⟨h5, h6⟩ | ⟨h5, h6, h7⟩
    · rw [form_leaf h1 h2 h3 h6, h5]; rfl
    · rw [form_up (b := (d : Int)) h1 h2 h3 h6 (by omega) fun m hm => wf_form d (h7 m hm)]; rfl
theorem ok_pn {n : Nd} (h : okN n) : ∃ d, Pn d n := by
  obtain ⟨h1, h2⟩ := h
  obtain ⟨d, hd⟩ : ∃ d : Nat, formI n true = (d : Int) := ⟨(formI n true).toNat, by omega⟩
  obtain ⟨h3, h4⟩ := ok_wf d hd
  exact ⟨d, by simpa using h3, h4 rfl, ((okP_iff _).1 h2).2⟩
theorem pn_ok {d : Nat} {n : Nd} (h : Pn d n) (hg : ∀ p ∈ pairsN n, goodP p) : okN n := by
  refine ⟨?_, (okP_iff _).2 ⟨hg, h.srt⟩⟩
  by_cases h1 : 1 ≤ n.keys.length
  · rw [form_one n h1, wf_form d (h.wf.mono h1 h.wf.keys.2)]; omega
  · have hd : d = 1 := h.ne.resolve_right h1
    subst hd
    obtain ⟨hc, _, _, hs⟩ := h.wf
    rcases hs with ⟨_, h0⟩ | ⟨h0, _⟩
    · rw [formI_def, if_neg (by simp; omega), if_pos (by rw [h0]; rfl)]; omega
    · exact absurd h0 (Nat.lt_irrefl 0)
end Go.Proofs.Yticngbgjfdcnhaa
namespace Go.Proofs.Yticngbgjfdcnhaa
open Go.RowKit
section
variable {P : Program} {Q : Exit → Act → World → Prop}
def wpOpS (P : Program) (ops : Array Oper) (Q : Exit → Act → World → Prop) (i : Nat) (K : Act → World → Prop) (a : Act) (w : World) : Prop :=
  match ops[i]? with
  | none => K a w
  | some o => if Region.wanted o (yielded ops a.tmps) then o.wp P a w K Q else K (a.put o.dst undef) w
def wpAnyS (P : Program) (ops : Array Oper) (Q : Exit → Act → World → Prop) : Nat → Array Bool → Act → World → Prop
  | 0, listed, a, w => Region.ready .any ops listed = [] ∧ Q .normal a w
  | fuel + 1, listed, a, w =>
    (Region.ready .any ops listed = [] → Q .normal a w) ∧
    ∀ i ∈ Region.ready .any ops listed, wpOpS P ops Q i (wpAnyS P ops Q fuel (listed.setIfInBounds i true)) a w
theorem wp_opIn {o : Oper} {l n : Nat} {a : Act} {w : World} {K K' : Act → World → Prop} (hd : ∀ c, o.op ≠ .defer c) (hK : ∀ a w, K a w → K' a w) (h : o.wp P a w K Q) : o.wpIn (Fence.wide.inRound l) n P a w K' Q := by
  replace h := Oper.wp_mono hK h
  unfold Oper.wp at h
  unfold Oper.wpIn
  refine ⟨fun _ _ => trivial, ?_⟩
  rw [show (Fence.wide.inRound l).round = some l from rfl, Oper.semAt_some l _ _ hd]
  generalize (execOp a.eval o).run P w = r at *
  cases r with
  | ok x w' =>
    cases x <;> simp only [Oper.upon, Oper.uponIn] at h ⊢ <;> first
      | exact h
      | exact h.elim
      | exact ⟨(fun h => by cases h), CallsIn.inRound l ((callsIn_wide (n := n - 1)).2 h)⟩
      | exact ⟨(fun h => by cases h), fun c cs _ => let ⟨v, w', r, s⟩ := h c cs; ⟨v, w', r, stepsIn_wide.2 s⟩⟩
  | halt x w' => cases x <;> simp only [Oper.upon, Oper.uponIn] at h ⊢ <;> first | exact h | exact h.elim
theorem anyS_any {ops : Array Oper} : ∀ (fuel : Nat) (listed : Array Bool) (a : Act) (w : World), wpAnyS P ops Q fuel listed a w → wpAny P .any ops Q fuel listed a w
  | 0, _, _, _, h => h
  | fuel + 1, listed, a, w, ⟨h1, h2⟩ => ⟨h1, fun i hi => by
    have h := h2 i hi
    unfold wpOpS at h
    unfold wpOp
    split
    · rename_i ho
      rw [ho] at h
      exact anyS_any fuel _ _ _ h
    · rename_i o ho
      rw [ho] at h
      dsimp only at h
      split
      · rename_i hw
        rw [if_pos hw] at h
        exact .inl (Oper.wp_mono (fun a w => anyS_any fuel _ a w) h)
      · rename_i hw
        rw [if_neg hw] at h
        exact anyS_any fuel _ _ _ h⟩
theorem anyS_in {ops : Array Oper} {l n : Nat} (hd : ∀ (i : Nat) (o : Oper), ops[i]? = some o → ∀ c, o.op ≠ .defer c) : ∀ (fuel : Nat) (listed : Array Bool) (a : Act) (w : World), wpAnyS P ops Q fuel listed a w → wpAnyIn (Fence.wide.inRound l) n P .any ops Q fuel listed a w
  | 0, _, _, _, h => h
  | fuel + 1, listed, a, w, ⟨h1, h2⟩ => ⟨h1, fun i hi => by
    have h := h2 i hi
    unfold wpOpS at h
    unfold wpOpIn
    split
    · rename_i ho
      rw [ho] at h
      exact anyS_in hd fuel _ _ _ h
    · rename_i o ho
      rw [ho] at h
      dsimp only at h
      split
      · rename_i hw
        rw [if_pos hw] at h
        exact wp_opIn (hd i o ho) (fun a w => anyS_in hd fuel _ a w) h
      · rename_i hw
        rw [if_neg hw] at h
        exact ⟨fun _ _ => trivial, anyS_in hd fuel _ _ _ h⟩⟩
def noDefer (ops : Array Oper) : Bool := ops.toList.all fun o => match o.op with | .defer _ => false | _ => true
theorem noDefer_spec {ops : Array Oper} (h : noDefer ops = true) : ∀ (i : Nat) (o : Oper), ops[i]? = some o → ∀ c, o.op ≠ .defer c := fun i o ho c e => by
  have := List.all_eq_true.1 h o (by rw [← Array.getElem?_toList] at ho; exact List.mem_of_getElem? ho)
  rw [e] at this
  cases this
theorem wp_region_S {id : Nat} {ops : Array Oper} {a : Act} {w : World} (hm : P.follows .mixedOrders = true) (h : wpAnyS P ops Q ops.size (Array.replicate ops.size false) a { w with drawn := w.drawn + 1 }) : (Code.region id ops true).wp P Q a w :=
  wp_region_any hm (anyS_any _ _ _ _ h)
theorem wpIn_region_S {id l n : Nat} {ops : Array Oper} {a : Act} {w : World} (hm : P.follows .mixedOrders = true) (hd : noDefer ops = true) (h : wpAnyS P ops Q ops.size (Array.replicate ops.size false) a { w with drawn := w.drawn + 1 }) : (Code.region id ops true).wpIn (Fence.wide.inRound l) n P Q a w :=
  wpIn_region_any hm (anyS_in (noDefer_spec hd) _ _ _ _ h)
end
end Go.Proofs.Yticngbgjfdcnhaa
namespace Go.Proofs.Yticngbgjfdcnhaa
open Go.RowKit
section
variable {P : Program} {Q : Exit → Act → World → Prop}
def don (D : Nat → Bool) (i : Nat) : Nat → Bool := fun j => if j = i then true else D j
def told (S : List Nat) (D : Nat → Bool) (vs : Nat → Value) : List (Option Value) := S.map fun j => if D j then some (vs j) else none
def SetOp (P : Program) (Q : Exit → Act → World → Prop) (ops : Array Oper) (a : Act) (S : List Nat) (G : Nat → World → Value → Prop) (E : List (Option Value) → World → Prop) (K : World → World → Prop) (i : Nat) (o : Oper) : Prop :=
  ∀ (A : Act) (va : Nat → Value) (D : Nat → Bool) (w' : World), (∀ t, slotIx ops.toList 0 t = none → A.eval (.tmp t) = a.eval (.tmp t)) → (∀ t j, t < a.tmps.size → slotIx ops.toList 0 t = some j → A.eval (.tmp t) = va j) → D i = false → E (told S D va) w' →
    (∀ e ∈ o.after, Region.binds .any e = true → D e.on = true) → (∀ j d, D j = false → (ops[j]?).bind (·.dst) = some d → va j = a.eval (.tmp d)) → (∀ e ∈ o.after, Region.binds .any e = true → S.contains e.on = false → G e.on w' (va e.on)) →
    o.wp P A w' (fun a2 w2 => ∃ v, a2 = A.put o.dst v ∧ E (told S (don D i) (upd va i v)) w2 ∧ K w' w2) Q
def FreeOp (P : Program) (Q : Exit → Act → World → Prop) (ops : Array Oper) (a : Act) (S : List Nat) (G : Nat → World → Value → Prop) (E : List (Option Value) → World → Prop) (i : Nat) (o : Oper) : Prop :=
  ∀ (A : Act) (va : Nat → Value) (D : Nat → Bool) (w' : World), (∀ t, slotIx ops.toList 0 t = none → A.eval (.tmp t) = a.eval (.tmp t)) → (∀ t j, t < a.tmps.size → slotIx ops.toList 0 t = some j → A.eval (.tmp t) = va j) → D i = false → E (told S D va) w' →
    (∀ e ∈ o.after, Region.binds .any e = true → D e.on = true) → (∀ j d, D j = false → (ops[j]?).bind (·.dst) = some d → va j = a.eval (.tmp d)) → (∀ e ∈ o.after, Region.binds .any e = true → S.contains e.on = false → G e.on w' (va e.on)) →
    o.wp P A w' (fun a2 w2 => ∃ v, a2 = A.put o.dst v ∧ G i w2 v ∧ Below w'.heap.size w' w2) Q
def StOp (P : Program) (Q : Exit → Act → World → Prop) (ops : Array Oper) (a : Act) (S : List Nat) (G : Nat → World → Value → Prop) (E : List (Option Value) → World → Prop) (K : World → World → Prop) (i : Nat) (o : Oper) : Prop :=
  o.guard = none ∧ ((S.contains i = true ∧ SetOp P Q ops a S G E K i o) ∨ (S.contains i = false ∧ FreeOp P Q ops a S G E i o))
theorem StOp.set {ops : Array Oper} {a : Act} {S : List Nat} {G : Nat → World → Value → Prop} {E : List (Option Value) → World → Prop} {K : World → World → Prop} {i : Nat} {o : Oper} (hg : o.guard = none) (hp : S.contains i = true) (h : SetOp P Q ops a S G E K i o) : StOp P Q ops a S G E K i o := ⟨hg, .inl ⟨hp, h⟩⟩
theorem StOp.free {ops : Array Oper} {a : Act} {S : List Nat} {G : Nat → World → Value → Prop} {E : List (Option Value) → World → Prop} {K : World → World → Prop} {i : Nat} {o : Oper} (hg : o.guard = none) (hp : S.contains i = false) (h : FreeOp P Q ops a S G E i o) : StOp P Q ops a S G E K i o := ⟨hg, .inr ⟨hp, h⟩⟩
def StAll (P : Program) (Q : Exit → Act → World → Prop) (ops : Array Oper) (a : Act) (S : List Nat) (G : Nat → World → Value → Prop) (E : List (Option Value) → World → Prop) (K : World → World → Prop) : Nat → List Oper → Prop
  | _, [] => True
  | i, o :: rest => StOp P Q ops a S G E K i o ∧ StAll P Q ops a S G E K (i + 1) rest
theorem StAll.get {ops : Array Oper} {a : Act} {S : List Nat} {G : Nat → World → Value → Prop} {E : List (Option Value) → World → Prop} {K : World → World → Prop} : ∀ (l : List Oper) (k j : Nat) (o : Oper), StAll P Q ops a S G E K k l → l[j]? = some o → StOp P Q ops a S G E K (k + j) o
  | [], _, _, _, _, h => by simp at h
  | o' :: rest, k, 0, o, h, hj => by obtain rfl : o' = o := by simpa using hj
                                     exact h.1
  | o' :: rest, k, j + 1, o, h, hj => by rw [show k + (j + 1) = k + 1 + j by omega]; exact StAll.get rest (k + 1) j o h.2 (by simpa using hj)
theorem told_out {S : List Nat} {D : Nat → Bool} {vs : Nat → Value} {i : Nat} {v : Value} (h : i ∉ S) : told S (don D i) (upd vs i v) = told S D vs := by
  refine List.map_congr_left fun j hj => ?_
  have : j ≠ i := fun e => h (by rw [← e]; exact hj)
  simp [upd, don, this]
theorem anyS_set {ops : Array Oper} {a : Act} {w : World} (hs : gdB ops = true) (S : List Nat) (hS : (S.all fun c => decide (c < ops.size)) = true) (G : Nat → World → Value → Prop) (E : List (Option Value) → World → Prop) (K : World → World → Prop)
    (hG : ∀ i w v w', G i w v → Below w.heap.size w w' → G i w' v) (hK : ∀ i w v w', G i w v → K w w' → G i w' v) (hE : ∀ l w w', E l w → Below w.heap.size w w' → E l w') (h0 : E (S.map fun _ => none) w)
    (hop : StAll P Q ops a S G E K 0 ops.toList)
    (hend : ∀ (vs : Nat → Value) (w' : World), E (S.map fun j => some (vs j)) w' → (∀ i, i < ops.size → S.contains i = false → G i w' (vs i)) → Q .normal (putAll a ops.toList vs 0) w') : wpAnyS P ops Q ops.size (Array.replicate ops.size false) a { w with drawn := w.drawn + 1 } := by
  have hnd : (ops.toList.filterMap (·.dst)).Nodup := by simp only [gdB, slotsB, Bool.and_eq_true, decide_eq_true_eq] at hs; exact hs.2
  have hSl : ∀ c ∈ S, c < ops.size := fun c hc => by simpa using List.all_eq_true.1 hS c hc
  have main : ∀ (fuel : Nat) (listed : Array Bool) (vs : Nat → Value) (w' : World), listed.size = ops.size → (unlisted ops.size listed).length ≤ fuel → E (told S (fun j => listed.getD j true) vs) w' →
      (∀ i, i < ops.size → listed.getD i true = true → S.contains i = false → G i w' (vs i)) → (∀ j, j < ops.size → listed.getD j true = false → ∀ d, (ops[j]?).bind (·.dst) = some d → vs j = a.eval (.tmp d)) → wpAnyS P ops Q fuel listed (putAll a ops.toList vs 0) w' := by
    intro fuel
    have fin : ∀ (listed : Array Bool) (vs : Nat → Value) (w' : World), E (told S (fun j => listed.getD j true) vs) w' →
        (∀ i, i < ops.size → listed.getD i true = true → S.contains i = false → G i w' (vs i)) → (∀ i, i < ops.size → listed.getD i true = true) → Q .normal (putAll a ops.toList vs 0) w' := by
      intro listed vs w' hE' hG' hall
      refine hend vs w' ?_ fun i hi hc => hG' i hi (hall i hi) hc
      have : told S (fun j => listed.getD j true) vs = S.map fun j => some (vs j) := List.map_congr_left fun j hj => by simp [hall j (hSl j hj)]
      rw [← this]; exact hE'
    induction fuel with
    | zero =>
      intro listed vs w' hsz hu hE' hG' hun
      have hall : ∀ i, i < ops.size → listed.getD i true = true := by
        intro i hi
        cases hl : listed.getD i true with
        | true => rfl
        | false =>
          have : i ∈ unlisted ops.size listed := List.mem_filter.2 ⟨List.mem_range.2 hi, by simp [hl]⟩
          rw [List.eq_nil_of_length_eq_zero (Nat.le_zero.1 hu)] at this
          cases this
      refine ⟨?_, fin listed vs w' hE' hG' hall⟩
      unfold Region.ready
      rw [List.filter_eq_nil_iff]
      intro i hi
      simp [hall i (List.mem_range.1 hi)]
    | succ fuel ih =>
      intro listed vs w' hsz hu hE' hG' hun
      refine ⟨fun hr => fin listed vs w' hE' hG' (fun i hi => all_listed_gd hs hr i hi), fun i hi => ?_⟩
      unfold Region.ready at hi
      obtain ⟨hi1, hi2⟩ := List.mem_filter.1 hi
      have hlt := List.mem_range.1 hi1
      rw [Bool.and_eq_true] at hi2
      obtain ⟨hl, hdep⟩ := hi2
      have hl' : listed.getD i true = false := by simpa using hl
      obtain ⟨o, ho⟩ : ∃ o, ops[i]? = some o := ⟨_, Array.getElem?_eq_getElem hlt⟩
      rw [ho] at hdep
      simp only [Option.map_some, Option.getD_some] at hdep
      rw [Array.all_eq_true'] at hdep
      have hgop := StAll.get ops.toList 0 i o hop (by rw [Array.getElem?_toList]; exact ho)
      rw [Nat.zero_add] at hgop
      have hdepG : ∀ e ∈ o.after, Region.binds .any e = true → e.on < ops.size ∧ listed.getD e.on true = true := by
        intro e he hbn
        have h := hdep e he
        rw [hbn] at h
        simp only [Bool.not_true, Bool.false_or] at h
        have hin : e.on < listed.size := by
          rcases Nat.lt_or_ge e.on listed.size with h' | h'
          · exact h'
          · simp [Array.getD_eq_getD_getElem?, Array.getElem?_eq_none_iff.2 h'] at h
        have hl2 : listed.getD e.on true = true := by
          simp only [Array.getD_eq_getD_getElem?, Array.getElem?_eq_getElem hin, Option.getD_some] at h ⊢
          exact h
        exact ⟨by omega, hl2⟩
      have hdepS : ∀ e ∈ o.after, Region.binds .any e = true → S.contains e.on = false → G e.on w' (vs e.on) := fun e he hbn hc => hG' e.on (hdepG e he hbn).1 (hdepG e he hbn).2 hc
      have hdepD : ∀ e ∈ o.after, Region.binds .any e = true → (fun j => listed.getD j true) e.on = true := fun e he hbn => (hdepG e he hbn).2
      have hlate : ∀ j d, (fun j => listed.getD j true) j = false → (ops[j]?).bind (·.dst) = some d → vs j = a.eval (.tmp d) := by
        intro j d hj hd
        refine hun j ?_ hj d hd
        rcases Nat.lt_or_ge j ops.size with h | h
        · exact h
        · rw [Array.getElem?_eq_none h] at hd; simp at hd
      have hset : ∀ j, (listed.setIfInBounds i true).getD j true = don (fun j => listed.getD j true) i j := fun j => by
        by_cases hji : j = i
        · subst hji
          simp [don, Array.getD_eq_getD_getElem?, Array.getElem?_setIfInBounds_self_of_lt (by omega : j < listed.size)]
        · simp [don, hji, Array.getD_eq_getD_getElem?, Array.getElem?_setIfInBounds_ne (Ne.symm hji)]
      have step : ∀ (v : Value) (w2 : World), E (told S (don (fun j => listed.getD j true) i) (upd vs i v)) w2 → (S.contains i = false → G i w2 v) → (∀ j u, S.contains j = false → G j w' u → G j w2 u) → wpAnyS P ops Q fuel (listed.setIfInBounds i true) ((putAll a ops.toList vs 0).put o.dst v) w2 := by
        intro v w2 hE2 hGi hGs
        rw [putAll_put ops.toList a vs 0 i o v hnd (by rw [Array.getElem?_toList]; exact ho), Nat.zero_add]
        refine ih _ _ _ (by simp [hsz]) (by have := unlisted_set hsz hlt hl'; omega) ?_ (fun j hj hlj hc => ?_) (fun j hj hlj d hd => ?_)
        · rw [show (fun j => (listed.setIfInBounds i true).getD j true) = don (fun j => listed.getD j true) i from funext hset]
          exact hE2
        · by_cases hji : j = i
          · subst hji
            simpa [upd] using hGi hc
          · have hlj' : listed.getD j true = true := by rw [hset] at hlj; simpa [don, hji] using hlj
            have hv : upd vs i v j = vs j := by simp [upd, hji]
            rw [hv]
            exact hGs j _ hc (hG' j hj hlj' hc)
        · have hji : j ≠ i := fun e => by
            rw [hset, e] at hlj
            simp [don] at hlj
          have hv : upd vs i v j = vs j := by simp [upd, hji]
          rw [hv]
          rw [hset] at hlj
          exact hun j hj (by simpa [don, hji] using hlj) d hd
      unfold wpOpS
      simp only [ho, Region.wanted, hgop.1, if_true]
      rcases hgop.2 with ⟨hc, hln⟩ | ⟨hc, hsd⟩
      · have hwp := hln (putAll a ops.toList vs 0) vs (fun j => listed.getD j true) w' (fun t h => eval_putAll_out _ _ _ _ _ h) (fun t j ht h => eval_putAll_in _ _ _ _ _ _ hnd ht h) hl' hE' hdepD hlate hdepS
        refine Oper.wp_mono ?_ hwp
        rintro a2 w2 ⟨v, rfl, hE2, hK2⟩
        exact step v w2 hE2 (fun h => by rw [hc] at h; cases h) (fun j u _ hg => hK j w' u w2 hg hK2)
      · have hci : i ∉ S := fun h => by rw [List.contains_iff_mem.2 h] at hc; cases hc
        have hwp := hsd (putAll a ops.toList vs 0) vs (fun j => listed.getD j true) w' (fun t h => eval_putAll_out _ _ _ _ _ h) (fun t j ht h => eval_putAll_in _ _ _ _ _ _ hnd ht h) hl' hE' hdepD hlate hdepS
        refine Oper.wp_mono ?_ hwp
        rintro a2 w2 ⟨v, rfl, hg, hb2⟩
        refine step v w2 ?_ (fun _ => hg) (fun j u _ hgj => hG j w' u w2 hgj hb2)
        rw [told_out hci]
        exact hE _ _ _ hE' hb2
  have hbz : Below w.heap.size w { w with drawn := w.drawn + 1 } := ⟨rfl, rfl, rfl, Nat.le_refl _, fun _ _ => rfl⟩
  have hno : ∀ j, j < ops.size → (Array.replicate ops.size false).getD j true = false := fun j hj => by simp [Array.getD_eq_getD_getElem?, hj]
  have h1 := main ops.size (Array.replicate ops.size false) (fun i => ((ops[i]?).bind (·.dst)).elim undef (fun d => a.tmps.getD d undef)) { w with drawn := w.drawn + 1 } (by simp)
    (by have := List.length_filter_le (fun i => !(Array.replicate ops.size false).getD i true) (List.range ops.size); simpa [unlisted] using this)
    (by
      have : told S (fun j => (Array.replicate ops.size false).getD j true) (fun i => ((ops[i]?).bind (·.dst)).elim undef (fun d => a.tmps.getD d undef)) = S.map fun _ => none := List.map_congr_left fun j hj => by simp [hno j (hSl j hj)]
      rw [this]
      exact hE _ _ _ h0 hbz)
    (fun i hi h => by rw [hno i hi] at h; cases h)
    (fun j hj _ d hd => by simp only [hd, Option.elim]; rfl)
  rw [putAll_orig ops.toList a _ 0 (fun j o d hj hd => by
    rw [Array.getElem?_toList] at hj
    simp [hj, hd])] at h1
  exact h1
theorem wp_region_set {id : Nat} {ops : Array Oper} {a : Act} {w : World} (hm : P.follows .mixedOrders = true) (hs : gdB ops = true) (S : List Nat) (hS : (S.all fun c => decide (c < ops.size)) = true) (G : Nat → World → Value → Prop) (E : List (Option Value) → World → Prop) (K : World → World → Prop)
    (hG : ∀ i w v w', G i w v → Below w.heap.size w w' → G i w' v) (hK : ∀ i w v w', G i w v → K w w' → G i w' v) (hE : ∀ l w w', E l w → Below w.heap.size w w' → E l w') (h0 : E (S.map fun _ => none) w)
    (hop : StAll P Q ops a S G E K 0 ops.toList)
    (hend : ∀ (vs : Nat → Value) (w' : World), E (S.map fun j => some (vs j)) w' → (∀ i, i < ops.size → S.contains i = false → G i w' (vs i)) → Q .normal (putAll a ops.toList vs 0) w') : (Code.region id ops true).wp P Q a w := wp_region_S hm (anyS_set hs S hS G E K hG hK hE h0 hop hend)
theorem wpIn_region_set {l n : Nat} {id : Nat} {ops : Array Oper} {a : Act} {w : World} (hm : P.follows .mixedOrders = true) (hd : noDefer ops = true) (hs : gdB ops = true) (S : List Nat) (hS : (S.all fun c => decide (c < ops.size)) = true) (G : Nat → World → Value → Prop) (E : List (Option Value) → World → Prop) (K : World → World → Prop)
    (hG : ∀ i w v w', G i w v → Below w.heap.size w w' → G i w' v) (hK : ∀ i w v w', G i w v → K w w' → G i w' v) (hE : ∀ l w w', E l w → Below w.heap.size w w' → E l w') (h0 : E (S.map fun _ => none) w)
    (hop : StAll P Q ops a S G E K 0 ops.toList)
    (hend : ∀ (vs : Nat → Value) (w' : World), E (S.map fun j => some (vs j)) w' → (∀ i, i < ops.size → S.contains i = false → G i w' (vs i)) → Q .normal (putAll a ops.toList vs 0) w') : (Code.region id ops true).wpIn (Fence.wide.inRound l) n P Q a w := wpIn_region_S hm hd (anyS_set hs S hS G E K hG hK hE h0 hop hend)
end
section
variable {P : Program} {Q : Exit → Act → World → Prop} {K : World → World → Prop}
theorem wp_region_setl {id : Nat} {ops : Array Oper} {a : Act} {w : World} (hm : P.follows .mixedOrders = true) (hs : gdB ops = true) (S : List Nat) (hS : (S.all fun c => decide (c < ops.size)) = true) (Gs : List (SGn K)) (E : List (Option Value) → World → Prop)
    (hE : ∀ l w w', E l w → Below w.heap.size w w' → E l w') (h0 : E (S.map fun _ => none) w)
    (hop : StAll P Q ops a S (fun i => (Gs.getD i lAny).1) E K 0 ops.toList)
    (hend : ∀ (vs : Nat → Value) (w' : World), E (S.map fun j => some (vs j)) w' → (∀ i, i < ops.size → S.contains i = false → (Gs.getD i lAny).1 w' (vs i)) → Q .normal (putAll a ops.toList vs 0) w') : (Code.region id ops true).wp P Q a w :=
  wp_region_set hm hs S hS (fun i => (Gs.getD i lAny).1) E K (fun i => (Gs.getD i lAny).2.1) (fun i => (Gs.getD i lAny).2.2) hE h0 hop hend
theorem wpIn_region_setl {l n : Nat} {id : Nat} {ops : Array Oper} {a : Act} {w : World} (hm : P.follows .mixedOrders = true) (hd : noDefer ops = true) (hs : gdB ops = true) (S : List Nat) (hS : (S.all fun c => decide (c < ops.size)) = true) (Gs : List (SGn K)) (E : List (Option Value) → World → Prop)
    (hE : ∀ l w w', E l w → Below w.heap.size w w' → E l w') (h0 : E (S.map fun _ => none) w)
    (hop : StAll P Q ops a S (fun i => (Gs.getD i lAny).1) E K 0 ops.toList)
    (hend : ∀ (vs : Nat → Value) (w' : World), E (S.map fun j => some (vs j)) w' → (∀ i, i < ops.size → S.contains i = false → (Gs.getD i lAny).1 w' (vs i)) → Q .normal (putAll a ops.toList vs 0) w') : (Code.region id ops true).wpIn (Fence.wide.inRound l) n P Q a w :=
  wpIn_region_set hm hd hs S hS (fun i => (Gs.getD i lAny).1) E K (fun i => (Gs.getD i lAny).2.1) (fun i => (Gs.getD i lAny).2.2) hE h0 hop hend
end
end Go.Proofs.Yticngbgjfdcnhaa
