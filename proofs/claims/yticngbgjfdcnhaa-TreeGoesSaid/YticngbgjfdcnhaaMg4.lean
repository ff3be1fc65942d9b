/-
  TEXTS OF ONE PROOF, merged: TreQ, Cut, Cpy, Line, Quo.
-/
import Derived.Laws.CopyRow
import Derived.Lib.AppendZerosOnto
import Derived.Lib.Overlaps
import Derived.Test.YticngbgjfdcnhaaMg3
namespace Go.Proofs.Yticngbgjfdcnhaa
def inter : List (List Pr) → List Pr → List Pr
  | [], ks => ks
  | p :: _, [] => p
  | p :: ps, k :: ks => p ++ k :: inter ps ks
def pre : List (List Pr) → List Pr → List Pr
  | p :: ps, k :: ks => p ++ k :: pre ps ks
  | _, _ => []
def suf : List Pr → List (List Pr) → List Pr
  | [], _ => []
  | k :: ks, B => k :: inter B ks
theorem inter_cons (x : List Pr) (B : List (List Pr)) : ∀ K : List Pr, inter (x :: B) K = x ++ suf K B
  | [] => by simp [inter, suf]
  | k :: ks => by simp [inter, suf]
theorem inter_mid : ∀ {A : List (List Pr)} {K1 : List Pr}, A.length = K1.length → ∀ (x : List Pr) (B : List (List Pr)) (K2 : List Pr), inter (A ++ x :: B) (K1 ++ K2) = pre A K1 ++ x ++ suf K2 B
  | [], [], _, x, B, K2 => by rw [List.nil_append, List.nil_append, inter_cons]; simp [pre]
  | p :: ps, k :: ks, h, x, B, K2 => by
    have ih := inter_mid (A := ps) (K1 := ks) (by simpa using h) x B K2
    simp only [List.cons_append, inter, pre, ih, List.append_assoc]
theorem inter_split : ∀ {P1 : List (List Pr)} {k1 : List Pr}, P1.length = k1.length + 1 → ∀ (P2 : List (List Pr)) (s : Pr) (k2 : List Pr), inter (P1 ++ P2) (k1 ++ s :: k2) = inter P1 k1 ++ s :: inter P2 k2
  | [p], [], _, P2, s, k2 => by simp [inter]
  | _ :: _ :: _, [], h, _, _, _ => by simp at h
  | p :: ps, k :: ks, h, P2, s, k2 => by
    have ih := inter_split (P1 := ps) (k1 := ks) (by simpa using h) P2 s k2
    simp only [List.cons_append, inter, ih, List.append_assoc]
def kpN (n : Nd) : List Pr := List.zipWith Pr.mk n.keys n.chains
def psN (n : Nd) : List (List Pr) := n.kids.map pairsN
theorem kp_len {n : Nd} (h : n.chains.length = n.keys.length) : (kpN n).length = n.keys.length := by
  unfold kpN
  rw [List.length_zipWith, h, Nat.min_self]
theorem kp_get {n : Nd} (h : n.chains.length = n.keys.length) {i : Nat} (hi : i < n.keys.length) : (kpN n)[i]? = some ⟨n.keys[i], n.chains[i]'(by omega)⟩ := by
  unfold kpN
  rw [List.getElem?_zipWith, List.getElem?_eq_getElem hi, List.getElem?_eq_getElem (by omega : i < n.chains.length)]
theorem wv_inter {ks : List (List UInt8)} {cs : List (List Ver)} (hc : cs.length = ks.length) : ∀ (ps : List (List Pr)), ps.length = ks.length + 1 → ∀ i, i ≤ ks.length → wv ps ks cs i = pre (ps.take i) ((List.zipWith Pr.mk ks cs).take i) := by
  intro ps hp i
  induction i with
  | zero => intro _; simp [wv, pre]
  | succ i ih =>
    intro hi
    have hl1 : i < ps.length := by omega
    have hl2 : i < (List.zipWith Pr.mk ks cs).length := by rw [List.length_zipWith]; omega
    have e1 : ps.getD i [] = ps[i] := by rw [List.getD_eq_getElem?_getD, List.getElem?_eq_getElem hl1]; rfl
    have e2 : (⟨ks.getD i [], cs.getD i []⟩ : Pr) = (List.zipWith Pr.mk ks cs)[i] := by
      rw [List.getElem_zipWith, List.getD_eq_getElem?_getD, List.getD_eq_getElem?_getD, List.getElem?_eq_getElem (by omega : i < ks.length), List.getElem?_eq_getElem (by omega : i < cs.length)]
      rfl
    rw [wv, ih (by omega), e1, e2, List.take_add_one, List.take_add_one, List.getElem?_eq_getElem hl1, List.getElem?_eq_getElem hl2, Option.toList_some, Option.toList_some]
    have : ∀ {A : List (List Pr)} {K : List Pr}, A.length = K.length → ∀ p k, pre (A ++ [p]) (K ++ [k]) = pre A K ++ p ++ [k] := by
      intro A
      induction A with
      | nil => intro K h p k; obtain rfl : K = [] := List.eq_nil_of_length_eq_zero (by simpa using h.symm); simp [pre]
      | cons a A ih2 =>
        intro K h p k
        cases K with
        | nil => simp at h
        | cons b K => simp only [List.cons_append, pre, ih2 (by simpa using h), List.append_assoc]
    rw [this (by rw [List.length_take, List.length_take, List.length_zipWith]; omega)]
theorem pairs_inter {n : Nd} (hc : n.chains.length = n.keys.length) (hk : n.kids = [] ∨ n.kids.length = n.keys.length + 1) : pairsN n = inter (psN n) (kpN n) := by
  rw [pairsN_def]
  unfold psN
  rcases hk with hk | hk
  · rw [hk]
    have : ∀ i, i ≤ n.keys.length → wv [] n.keys n.chains i = (kpN n).take i := by
      intro i
      induction i with
      | zero => intro _; simp [wv]
      | succ i ih =>
        intro hi
        rw [wv, ih (by omega), List.take_add_one, kp_get hc (by omega)]
        simp [List.getD_eq_getElem?_getD, List.getElem?_eq_getElem (by omega : i < n.keys.length), List.getElem?_eq_getElem (by omega : i < n.chains.length)]
    simp only [List.map_nil, inter, List.length_nil]
    rw [this _ (Nat.le_refl _), List.take_of_length_le (by rw [kp_len hc]; exact Nat.le_refl _)]
    simp
  · have hp : (n.kids.map pairsN).length = n.keys.length + 1 := by rw [List.length_map, hk]
    rw [wv_inter hc _ hp _ (Nat.le_refl _), hk, Nat.add_sub_cancel]
    have hl : n.keys.length < (n.kids.map pairsN).length := by omega
    have e : n.kids.map pairsN = (n.kids.map pairsN).take n.keys.length ++ (n.kids.map pairsN)[n.keys.length] :: [] := by
      have := List.drop_eq_getElem_cons hl
      rw [List.drop_of_length_le (i := n.keys.length + 1) (by omega)] at this
      rw [← this, List.take_append_drop]
    have e2 : kpN n = (kpN n) ++ [] := by simp
    have e3 : List.zipWith Pr.mk n.keys n.chains = kpN n := rfl
    rw [e3, List.take_of_length_le (l := kpN n) (by rw [kp_len hc]; exact Nat.le_refl _)]
    conv => rhs; rw [e, e2]
    rw [inter_mid (by rw [List.length_take, kp_len hc]; omega)]
    simp [suf, List.getD_eq_getElem?_getD, List.getElem?_eq_getElem hl]
def Wf : Nat → Nat → Nat → Nd → Prop
  | 0, _, _, _ => False
  | d + 1, lo, hi, n => n.chains.length = n.keys.length ∧ lo ≤ n.keys.length ∧ n.keys.length ≤ hi ∧ ((d = 0 ∧ n.kids = []) ∨ (0 < d ∧ n.kids.length = n.keys.length + 1 ∧ ∀ m ∈ n.kids, Wf d 1 3 m))
theorem Wf.shape {d lo hi : Nat} {n : Nd} (h : Wf d lo hi n) : n.chains.length = n.keys.length ∧ (n.kids = [] ∨ n.kids.length = n.keys.length + 1) := by
  cases d with
  | zero => exact h.elim
  | succ d => exact ⟨h.1, h.2.2.2.imp (fun h => h.2) fun h => h.2.1⟩
theorem Wf.pairs {d lo hi : Nat} {n : Nd} (h : Wf d lo hi n) : pairsN n = inter (psN n) (kpN n) := pairs_inter h.shape.1 h.shape.2
theorem Wf.mono {d lo hi lo' hi' : Nat} {n : Nd} (h : Wf d lo hi n) (h1 : lo' ≤ n.keys.length) (h2 : n.keys.length ≤ hi') : Wf d lo' hi' n := by
  cases d with
  | zero => exact h.elim
  | succ d => exact ⟨h.1, h1, h2, h.2.2.2⟩
theorem Wf.keys {d lo hi : Nat} {n : Nd} (h : Wf d lo hi n) : lo ≤ n.keys.length ∧ n.keys.length ≤ hi := by
  cases d with
  | zero => exact h.elim
  | succ d => exact ⟨h.2.1, h.2.2.1⟩
theorem Wf.pos {d lo hi : Nat} {n : Nd} (h : Wf d lo hi n) : 0 < d := by
  cases d with
  | zero => exact h.elim
  | succ d => omega
theorem pairs_kid {n : Nd} (hc : n.chains.length = n.keys.length) (hk : n.kids.length = n.keys.length + 1) {i : Nat} (hi : i < n.kids.length) :
    pairsN n = pre ((psN n).take i) ((kpN n).take i) ++ pairsN n.kids[i] ++ suf ((kpN n).drop i) ((psN n).drop (i + 1)) := by
  rw [pairs_inter hc (.inr hk)]
  have hl : i < (psN n).length := by unfold psN; rw [List.length_map]; exact hi
  have e : psN n = (psN n).take i ++ (psN n)[i] :: (psN n).drop (i + 1) := by rw [← List.drop_eq_getElem_cons hl, List.take_append_drop]
  have e2 : kpN n = (kpN n).take i ++ (kpN n).drop i := (List.take_append_drop _ _).symm
  have hx : (psN n)[i] = pairsN n.kids[i] := List.getElem_map (l := n.kids) pairsN
  conv => lhs; rw [e, e2]
  rw [inter_mid (by rw [List.length_take, List.length_take, kp_len hc]; omega), hx]
def setKid (n : Nd) (i : Nat) (m : Nd) : Nd := .mk n.keys n.chains (n.kids.set i m)
theorem pairs_set {n : Nd} (hc : n.chains.length = n.keys.length) (hk : n.kids.length = n.keys.length + 1) {i : Nat} (hi : i < n.kids.length) (m : Nd) :
    pairsN (setKid n i m) = pre ((psN n).take i) ((kpN n).take i) ++ pairsN m ++ suf ((kpN n).drop i) ((psN n).drop (i + 1)) := by
  rw [pairs_kid (n := setKid n i m) hc (by show (n.kids.set i m).length = _; rw [List.length_set]; exact hk) (i := i) (by show i < (n.kids.set i m).length; rw [List.length_set]; exact hi)]
  have e1 : (psN (setKid n i m)).take i = (psN n).take i := by
    show ((n.kids.set i m).map pairsN).take i = (n.kids.map pairsN).take i
    rw [← List.map_take, ← List.map_take, List.take_set_of_le (Nat.le_refl _)]
  have e2 : (psN (setKid n i m)).drop (i + 1) = (psN n).drop (i + 1) := by
    show ((n.kids.set i m).map pairsN).drop (i + 1) = (n.kids.map pairsN).drop (i + 1)
    rw [← List.map_drop, ← List.map_drop, List.drop_set_of_lt (Nat.lt_succ_self _)]
  have e3 : (setKid n i m).kids[i]'(by show i < (n.kids.set i m).length; rw [List.length_set]; exact hi) = m := List.getElem_set_self _
  rw [e1, e2, e3]
  rfl
def noNd : Nd := .mk [] [] []
def kidN (n : Nd) (i : Nat) : Nd := n.kids.getD i noNd
theorem kid_get {n : Nd} {i : Nat} (hi : i < n.kids.length) : kidN n i = n.kids[i] := by
  unfold kidN
  rw [List.getD_eq_getElem?_getD, List.getElem?_eq_getElem hi]; rfl
def partF (n : Nd) (f t : Nat) : Nd :=
  .mk ((n.keys.take (min t n.keys.length)).drop (min f n.keys.length)) ((n.chains.take (min t n.chains.length)).drop (min f n.chains.length)) ((n.kids.take (min (t + 1) n.kids.length)).drop (min f n.kids.length))
def splitF (n : Nd) (i : Nat) : Nd :=
  .mk (n.keys.take i ++ [(kidN n i).keys.getD ((kidN n i).keys.length / 2) []] ++ n.keys.drop i) (n.chains.take i ++ [(kidN n i).chains.getD ((kidN n i).keys.length / 2) []] ++ n.chains.drop i)
    (n.kids.take i ++ [partF (kidN n i) 0 ((kidN n i).keys.length / 2), partF (kidN n i) ((kidN n i).keys.length / 2 + 1) (kidN n i).keys.length] ++ n.kids.drop (i + 1))
def oneF (n : Nd) (i : Nat) : Nd :=
  .mk ((kidN n i).keys ++ (n.keys.take (i + 1)).drop i ++ (kidN n (i + 1)).keys) ((kidN n i).chains ++ (n.chains.take (i + 1)).drop i ++ (kidN n (i + 1)).chains) ((kidN n i).kids ++ (kidN n (i + 1)).kids)
def joinedF (n : Nd) (i : Nat) : Nd :=
  .mk (n.keys.take i ++ n.keys.drop (i + 1)) (n.chains.take i ++ n.chains.drop (i + 1)) (n.kids.take i ++ [oneF n i] ++ n.kids.drop (i + 2))
def settledF (n : Nd) (i : Nat) : Nd :=
  let n1 := if (kidN n i).keys.length < 1 then joinedF n (i - 1) else n
  let i1 := if (kidN n i).keys.length < 1 then i - 1 else i
  if 3 < (kidN n1 i1).keys.length then splitF n1 i1 else n1
structure Wk (d : Nat) (n : Nd) (i lo hi : Nat) : Prop where
  ch : n.chains.length = n.keys.length
  kd : n.kids.length = n.keys.length + 1
  lt : i < n.kids.length
  at' : Wf d lo hi (kidN n i)
  off : ∀ j (h : j < n.kids.length), j ≠ i → Wf d 1 3 n.kids[j]
theorem mem_take_ix {α : Type} {l : List α} {i : Nat} {x : α} (h : x ∈ l.take i) : ∃ j, ∃ hj : j < l.length, j < i ∧ l[j] = x := by
  obtain ⟨j, hj, e⟩ := List.mem_iff_getElem.1 h
  rw [List.length_take] at hj
  rw [List.getElem_take] at e
  exact ⟨j, by omega, by omega, e⟩
theorem mem_drop_ix {α : Type} {l : List α} {i : Nat} {x : α} (h : x ∈ l.drop i) : ∃ j, ∃ hj : j < l.length, i ≤ j ∧ l[j] = x := by
  obtain ⟨j, hj, e⟩ := List.mem_iff_getElem.1 h
  rw [List.length_drop] at hj
  rw [List.getElem_drop] at e
  exact ⟨i + j, by omega, by omega, e⟩
theorem kp_split {n : Nd} (hc : n.chains.length = n.keys.length) (i : Nat) (k : List UInt8) (c : List Ver) : List.zipWith Pr.mk (n.keys.take i ++ [k] ++ n.keys.drop i) (n.chains.take i ++ [c] ++ n.chains.drop i) = (kpN n).take i ++ ⟨k, c⟩ :: (kpN n).drop i := by
  unfold kpN
  rw [List.append_assoc, List.append_assoc, List.zipWith_append (by rw [List.length_take, List.length_take, hc]), List.take_zipWith, List.drop_zipWith]
  rfl
theorem part_kp {n : Nd} (hc : n.chains.length = n.keys.length) (f t : Nat) : kpN (partF n f t) = ((kpN n).take (min t n.keys.length)).drop (min f n.keys.length) := by
  unfold kpN partF
  simp only [Nd.keys, Nd.chains]
  rw [List.take_zipWith, List.drop_zipWith]
  have : n.chains.length = n.keys.length := hc
  simp only [Nd.keys, Nd.chains] at this ⊢
  rw [this]
theorem split_pairs {d i hi : Nat} {n : Nd} (h : Wk d n i 1 hi) : pairsN (splitF n i) = pairsN n := by
  have hk := h.at'.pairs
  have hs := h.at'.shape
  have hkl := h.at'.keys.1
  obtain ⟨k, hk0⟩ : ∃ k, k = kidN n i := ⟨_, rfl⟩
  have hkid : n.kids[i]'h.lt = k := by rw [hk0, kid_get h.lt]
  rw [← hk0] at hk hs hkl
  obtain ⟨m, hm⟩ : ∃ m, m = k.keys.length / 2 := ⟨_, rfl⟩
  have hmk : m < k.keys.length := by omega
  have hcm : m < k.chains.length := by omega
  have hch := h.ch
  have hkd := h.kd
  have hlt := h.lt
  have e0 : splitF n i = .mk (n.keys.take i ++ [k.keys.getD m []] ++ n.keys.drop i) (n.chains.take i ++ [k.chains.getD m []] ++ n.chains.drop i) (n.kids.take i ++ [partF k 0 m, partF k (m + 1) k.keys.length] ++ n.kids.drop (i + 1)) := by
    unfold splitF; rw [← hk0, ← hm]
  have hA : ((psN n).take i).length = ((kpN n).take i).length := by
    unfold psN
    rw [List.length_take, List.length_take, List.length_map, kp_len hch]; omega
  have hkp : kpN k = (kpN k).take m ++ (⟨k.keys.getD m [], k.chains.getD m []⟩ : Pr) :: (kpN k).drop (m + 1) := by
    have h1 := kp_get hs.1 hmk
    have h2 : m < (kpN k).length := by rw [kp_len hs.1]; exact hmk
    have h3 : (kpN k)[m] = ⟨k.keys.getD m [], k.chains.getD m []⟩ := by
      rw [List.getElem?_eq_getElem h2] at h1
      rw [Option.some.inj h1, List.getD_eq_getElem?_getD, List.getD_eq_getElem?_getD, List.getElem?_eq_getElem hmk, List.getElem?_eq_getElem hcm]
      rfl
    rw [← h3, ← List.drop_eq_getElem_cons h2, List.take_append_drop]
  have hl : kpN (partF k 0 m) = (kpN k).take m := by
    rw [part_kp hs.1, Nat.zero_min, List.drop_zero, Nat.min_eq_left (Nat.le_of_lt hmk)]
  have hr : kpN (partF k (m + 1) k.keys.length) = (kpN k).drop (m + 1) := by
    rw [part_kp hs.1, Nat.min_self, List.take_of_length_le (by rw [kp_len hs.1]; exact Nat.le_refl _), Nat.min_eq_left hmk]
  have lens : ∀ f t, (partF k f t).chains.length = (partF k f t).keys.length := fun f t => by
    show ((k.chains.take (min t k.chains.length)).drop (min f k.chains.length)).length = ((k.keys.take (min t k.keys.length)).drop (min f k.keys.length)).length
    rw [hs.1]
    simp only [List.length_drop, List.length_take, hs.1]
  have hkid2 : pairsN k = pairsN (partF k 0 m) ++ (⟨k.keys.getD m [], k.chains.getD m []⟩ : Pr) :: pairsN (partF k (m + 1) k.keys.length) := by
    rcases hs.2 with h0 | h0
    · have ep : ∀ f t, (partF k f t).kids = [] := fun f t => by
        show (k.kids.take _).drop _ = []
        rw [h0, List.take_nil, List.drop_nil]
      have e1 := ep 0 m
      have e2 := ep (m + 1) k.keys.length
      rw [hk, pairs_inter (lens _ _) (.inl e1), pairs_inter (lens _ _) (.inl e2), hl, hr]
      unfold psN
      rw [h0, e1, e2]
      simp only [List.map_nil, inter]
      exact hkp
    · have f1 : (partF k 0 m).kids = k.kids.take (m + 1) := by
        show (k.kids.take (min (m + 1) k.kids.length)).drop (min 0 k.kids.length) = _
        rw [Nat.min_eq_left (show m + 1 ≤ k.kids.length by omega), Nat.zero_min, List.drop_zero]
      have f2 : (partF k (m + 1) k.keys.length).kids = k.kids.drop (m + 1) := by
        show (k.kids.take (min (k.keys.length + 1) k.kids.length)).drop (min (m + 1) k.kids.length) = _
        rw [h0, Nat.min_self, List.take_of_length_le (by omega), Nat.min_eq_left (by omega)]
      have g1 : (partF k 0 m).kids.length = (partF k 0 m).keys.length + 1 := by
        rw [f1]
        show _ = ((k.keys.take (min m k.keys.length)).drop (min 0 k.keys.length)).length + 1
        simp only [List.length_drop, List.length_take]; omega
      have g2 : (partF k (m + 1) k.keys.length).kids.length = (partF k (m + 1) k.keys.length).keys.length + 1 := by
        rw [f2]
        show _ = ((k.keys.take (min k.keys.length k.keys.length)).drop (min (m + 1) k.keys.length)).length + 1
        simp only [List.length_drop, List.length_take]; omega
      rw [hk, pairs_inter (lens _ _) (.inr g1), pairs_inter (lens _ _) (.inr g2), hl, hr]
      unfold psN
      rw [f1, f2, List.map_take, List.map_drop]
      conv => lhs; rw [← List.take_append_drop (m + 1) (k.kids.map pairsN), hkp]
      rw [inter_split]
      rw [List.length_take, List.length_map, List.length_take, kp_len hs.1]; omega
  rw [pairs_kid hch hkd h.lt, hkid, hkid2]
  have e1 : (splitF n i).chains.length = (splitF n i).keys.length := by
    rw [e0]
    show (n.chains.take i ++ [k.chains.getD m []] ++ n.chains.drop i).length = (n.keys.take i ++ [k.keys.getD m []] ++ n.keys.drop i).length
    simp only [List.length_append, List.length_take, List.length_drop, hch, List.length_cons, List.length_nil]
  have e2 : (splitF n i).kids.length = (splitF n i).keys.length + 1 := by
    rw [e0]
    show (n.kids.take i ++ [partF k 0 m, partF k (m + 1) k.keys.length] ++ n.kids.drop (i + 1)).length = (n.keys.take i ++ [k.keys.getD m []] ++ n.keys.drop i).length + 1
    simp only [List.length_append, List.length_take, List.length_drop, List.length_cons, List.length_nil]
    omega
  rw [pairs_inter e1 (.inr e2)]
  have e3 : kpN (splitF n i) = (kpN n).take i ++ (⟨k.keys.getD m [], k.chains.getD m []⟩ : Pr) :: (kpN n).drop i := by
    rw [e0]
    exact kp_split hch i _ _
  have e4 : psN (splitF n i) = (psN n).take i ++ pairsN (partF k 0 m) :: (pairsN (partF k (m + 1) k.keys.length) :: (psN n).drop (i + 1)) := by
    rw [e0]
    show (n.kids.take i ++ [partF k 0 m, partF k (m + 1) k.keys.length] ++ n.kids.drop (i + 1)).map pairsN = _
    unfold psN
    simp only [List.map_append, List.map_take, List.map_drop, List.map_cons, List.append_assoc, List.cons_append, List.nil_append]
  rw [e3, e4, inter_mid hA]
  simp only [suf, inter_cons, List.append_assoc, List.cons_append]
theorem part_wf {d lo hi f t : Nat} {k : Nd} (h : Wf d lo hi k) (hft : f < t) (ht : t ≤ k.keys.length) (h3 : t - f ≤ 3) : Wf d 1 3 (partF k f t) := by
  cases d with
  | zero => exact h.elim
  | succ d =>
    obtain ⟨hc, _, _, hs⟩ := h
    have hkeys : (partF k f t).keys.length = t - f := by
      show ((k.keys.take (min t k.keys.length)).drop (min f k.keys.length)).length = _
      simp only [List.length_drop, List.length_take]; omega
    have hch : (partF k f t).chains.length = t - f := by
      show ((k.chains.take (min t k.chains.length)).drop (min f k.chains.length)).length = _
      simp only [List.length_drop, List.length_take]; omega
    refine ⟨by rw [hkeys, hch], by omega, by omega, ?_⟩
    rcases hs with ⟨h0, h1⟩ | ⟨h0, h1, h2⟩
    · refine .inl ⟨h0, ?_⟩
      show (k.kids.take _).drop _ = []
      rw [h1, List.take_nil, List.drop_nil]
    · refine .inr ⟨h0, ?_, fun m hm => h2 m ?_⟩
      · rw [hkeys]
        show ((k.kids.take (min (t + 1) k.kids.length)).drop (min f k.kids.length)).length = _
        simp only [List.length_drop, List.length_take]; omega
      · exact List.mem_of_mem_take (List.mem_of_mem_drop (show m ∈ (k.kids.take _).drop _ from hm))
theorem split_form {d i : Nat} {n : Nd} (h : Wk d n i 3 7) :
    (splitF n i).chains.length = (splitF n i).keys.length ∧ (splitF n i).keys.length = n.keys.length + 1 ∧ (splitF n i).kids.length = (splitF n i).keys.length + 1 ∧ ∀ m ∈ (splitF n i).kids, Wf d 1 3 m := by
  have hch := h.ch
  have hkd := h.kd
  have hlt := h.lt
  have hk := h.at'.keys
  have hkeys : (splitF n i).keys.length = n.keys.length + 1 := by
    show (n.keys.take i ++ [_] ++ n.keys.drop i).length = _
    simp only [List.length_append, List.length_take, List.length_drop, List.length_cons, List.length_nil]; omega
  refine ⟨?_, hkeys, ?_, fun m hm => ?_⟩
  · rw [hkeys]
    show (n.chains.take i ++ [_] ++ n.chains.drop i).length = _
    simp only [List.length_append, List.length_take, List.length_drop, List.length_cons, List.length_nil]; omega
  · rw [hkeys]
    show (n.kids.take i ++ [_, _] ++ n.kids.drop (i + 1)).length = _
    simp only [List.length_append, List.length_take, List.length_drop, List.length_cons, List.length_nil]; omega
  · have hm' : m ∈ n.kids.take i ++ [partF (kidN n i) 0 ((kidN n i).keys.length / 2), partF (kidN n i) ((kidN n i).keys.length / 2 + 1) (kidN n i).keys.length] ++ n.kids.drop (i + 1) := hm
    simp only [List.mem_append, List.mem_cons, List.not_mem_nil, or_false] at hm'
    rcases hm' with (hm' | rfl | rfl) | hm'
    · obtain ⟨j, hj, hji, rfl⟩ := mem_take_ix hm'
      exact h.off j hj (by omega)
    · exact part_wf h.at' (by omega) (by omega) (by omega)
    · exact part_wf h.at' (by omega) (by omega) (by omega)
    · obtain ⟨j, hj, hji, rfl⟩ := mem_drop_ix hm'
      exact h.off j hj (by omega)
theorem one_pairs {n : Nd} {i d : Nat} (hc : n.chains.length = n.keys.length) (hi : i < n.keys.length) (ha : Wf d 0 3 (kidN n i)) (hb : Wf d 0 3 (kidN n (i + 1))) :
    Wf d 1 7 (oneF n i) ∧ (oneF n i).keys.length = (kidN n i).keys.length + 1 + (kidN n (i + 1)).keys.length ∧ pairsN (oneF n i) = pairsN (kidN n i) ++ (⟨n.keys[i], n.chains[i]'(by omega)⟩ : Pr) :: pairsN (kidN n (i + 1)) := by
  obtain ⟨a, hae⟩ : ∃ a, a = kidN n i := ⟨_, rfl⟩
  obtain ⟨b, hbe⟩ : ∃ b, b = kidN n (i + 1) := ⟨_, rfl⟩
  have e0 : oneF n i = .mk (a.keys ++ (n.keys.take (i + 1)).drop i ++ b.keys) (a.chains ++ (n.chains.take (i + 1)).drop i ++ b.chains) (a.kids ++ b.kids) := by unfold oneF; rw [← hae, ← hbe]
  rw [← hae] at ha ⊢
  rw [← hbe] at hb ⊢
  have hci : i < n.chains.length := by omega
  have m1 : (n.keys.take (i + 1)).drop i = [n.keys[i]] := by
    rw [List.take_add_one, List.getElem?_eq_getElem hi, List.drop_append_of_le_length (by rw [List.length_take]; omega), List.drop_of_length_le (by rw [List.length_take]; omega)]; rfl
  have m2 : (n.chains.take (i + 1)).drop i = [n.chains[i]] := by
    rw [List.take_add_one, List.getElem?_eq_getElem hci, List.drop_append_of_le_length (by rw [List.length_take]; omega), List.drop_of_length_le (by rw [List.length_take]; omega)]; rfl
  rw [m1, m2] at e0
  have sa := ha.shape
  have sb := hb.shape
  have ka := ha.keys
  have kb := hb.keys
  have hkeys : (oneF n i).keys.length = a.keys.length + 1 + b.keys.length := by
    rw [e0]
    show (a.keys ++ [_] ++ b.keys).length = _
    simp only [List.length_append, List.length_cons, List.length_nil]
  have hchs : (oneF n i).chains.length = (oneF n i).keys.length := by
    rw [hkeys, e0]
    show (a.chains ++ [_] ++ b.chains).length = _
    simp only [List.length_append, List.length_cons, List.length_nil]; omega
  have hkids : (oneF n i).kids = a.kids ++ b.kids := by rw [e0]; rfl
  have hwf : Wf d 1 7 (oneF n i) := by
    cases d with
    | zero => exact ha.elim
    | succ d =>
      refine ⟨hchs, by omega, by omega, ?_⟩
      rcases ha.2.2.2 with ⟨h0, h1⟩ | ⟨h0, h1, h2⟩
      · refine .inl ⟨h0, ?_⟩
        rcases hb.2.2.2 with ⟨_, h3⟩ | ⟨h3, _⟩
        · rw [hkids, h1, h3]; rfl
        · omega
      · rcases hb.2.2.2 with ⟨h3, _⟩ | ⟨_, h3, h4⟩
        · omega
        · refine .inr ⟨h0, ?_, fun m hm => ?_⟩
          · rw [hkids, List.length_append, hkeys]; omega
          · rw [hkids] at hm
            exact (List.mem_append.1 hm).elim (h2 m) (h4 m)
  refine ⟨hwf, hkeys, ?_⟩
  rw [hwf.pairs, ha.pairs, hb.pairs]
  have hkp : kpN (oneF n i) = kpN a ++ (⟨n.keys[i], n.chains[i]⟩ : Pr) :: kpN b := by
    rw [e0]
    show List.zipWith Pr.mk (a.keys ++ [_] ++ b.keys) (a.chains ++ [_] ++ b.chains) = _
    unfold kpN
    rw [List.append_assoc, List.append_assoc, List.zipWith_append sa.1.symm]
    rfl
  unfold psN
  rw [hkp, hkids, List.map_append]
  cases d with
  | zero => exact ha.elim
  | succ d =>
    rcases ha.2.2.2 with ⟨h0, h1⟩ | ⟨h0, h1, h2⟩
    · have h3 : b.kids = [] := by
        rcases hb.2.2.2 with ⟨_, h3⟩ | ⟨h3, _⟩
        · exact h3
        · omega
      rw [h1, h3]
      simp [inter]
    · rw [inter_split (by rw [List.length_map, kp_len sa.1]; exact h1)]
theorem drop_two {α : Type} {l : List α} {i : Nat} (h : i + 1 < l.length) : l.drop i = l[i] :: l[i + 1] :: l.drop (i + 2) := by
  rw [List.drop_eq_getElem_cons (by omega), List.drop_eq_getElem_cons h]
theorem joined_spec {d i : Nat} {n : Nd} (hc : n.chains.length = n.keys.length) (hk : n.kids.length = n.keys.length + 1) (hi : i < n.keys.length) (ha : Wf d 0 3 (kidN n i)) (hb : Wf d 0 3 (kidN n (i + 1)))
    (ho : ∀ j (h : j < n.kids.length), j ≠ i → j ≠ i + 1 → Wf d 1 3 n.kids[j]) :
    Wk d (joinedF n i) i 1 7 ∧ kidN (joinedF n i) i = oneF n i ∧ (joinedF n i).keys.length + 1 = n.keys.length ∧ pairsN (joinedF n i) = pairsN n := by
  obtain ⟨h1, _, h2⟩ := one_pairs hc hi ha hb
  have hci : i < n.chains.length := by omega
  have hkeys : (joinedF n i).keys.length + 1 = n.keys.length := by
    show (n.keys.take i ++ n.keys.drop (i + 1)).length + 1 = _
    simp only [List.length_append, List.length_take, List.length_drop]; omega
  have hchs : (joinedF n i).chains.length = (joinedF n i).keys.length := by
    show (n.chains.take i ++ n.chains.drop (i + 1)).length = (n.keys.take i ++ n.keys.drop (i + 1)).length
    simp only [List.length_append, List.length_take, List.length_drop]; omega
  have hkids : (joinedF n i).kids.length = (joinedF n i).keys.length + 1 := by
    show (n.kids.take i ++ [oneF n i] ++ n.kids.drop (i + 2)).length = (n.keys.take i ++ n.keys.drop (i + 1)).length + 1
    simp only [List.length_append, List.length_take, List.length_drop, List.length_cons, List.length_nil]; omega
  have hlt : i < (joinedF n i).kids.length := by omega
  have htk : (n.kids.take i).length = i := by rw [List.length_take]; omega
  have hget : ∀ j (h : j < (joinedF n i).kids.length), (joinedF n i).kids[j] = if h1 : j < i then n.kids[j]'(by omega) else if h2 : j = i then oneF n i else n.kids[j + 1]'(by omega) := fun j h => by
    have e : (joinedF n i).kids = n.kids.take i ++ [oneF n i] ++ n.kids.drop (i + 2) := rfl
    have h' : j < (n.kids.take i ++ [oneF n i] ++ n.kids.drop (i + 2)).length := h
    show (n.kids.take i ++ [oneF n i] ++ n.kids.drop (i + 2))[j] = _
    rcases Nat.lt_trichotomy j i with h3 | h3 | h3
    · rw [dif_pos h3, List.getElem_append_left (by simp only [List.length_append, htk, List.length_cons, List.length_nil]; omega), List.getElem_append_left (by omega), List.getElem_take]
    · rw [dif_neg (by omega), dif_pos h3]
      subst h3
      rw [List.getElem_append_left (by simp only [List.length_append, htk, List.length_cons, List.length_nil]; omega), List.getElem_append_right (by omega)]
      simp [htk]
    · rw [dif_neg (by omega), dif_neg (by omega), List.getElem_append_right (by simp only [List.length_append, htk, List.length_cons, List.length_nil]; omega), List.getElem_drop]
      congr 1
      simp only [List.length_append, htk, List.length_cons, List.length_nil]; omega
  have hkid : kidN (joinedF n i) i = oneF n i := by rw [kid_get hlt, hget i hlt]; simp
  refine ⟨⟨hchs, hkids, hlt, by rw [hkid]; exact h1, fun j h hji => ?_⟩, hkid, hkeys, ?_⟩
  · rw [hget j h]
    split
    · exact ho j (by omega) (by omega) (by omega)
    · exact ho (j + 1) (by omega) (by omega) (by omega)
  · rw [pairs_inter hchs (.inr hkids), pairs_inter hc (.inr hk)]
    have e3 : kpN (joinedF n i) = (kpN n).take i ++ (kpN n).drop (i + 1) := by
      show List.zipWith Pr.mk (n.keys.take i ++ n.keys.drop (i + 1)) (n.chains.take i ++ n.chains.drop (i + 1)) = _
      unfold kpN
      rw [List.zipWith_append (by rw [List.length_take, List.length_take, hc]), List.take_zipWith, List.drop_zipWith]
    have e4 : psN (joinedF n i) = (psN n).take i ++ pairsN (oneF n i) :: (psN n).drop (i + 2) := by
      show (n.kids.take i ++ [oneF n i] ++ n.kids.drop (i + 2)).map pairsN = _
      unfold psN
      simp only [List.map_append, List.map_take, List.map_drop, List.map_cons, List.append_assoc, List.cons_append, List.nil_append]
    have hA : ((psN n).take i).length = ((kpN n).take i).length := by
      unfold psN
      rw [List.length_take, List.length_take, List.length_map, kp_len hc]; omega
    have hpl : i + 1 < (psN n).length := by unfold psN; rw [List.length_map]; omega
    have hkl : i < (kpN n).length := by rw [kp_len hc]; exact hi
    have e5 : psN n = (psN n).take i ++ pairsN (kidN n i) :: (pairsN (kidN n (i + 1)) :: (psN n).drop (i + 2)) := by
      have h5 := drop_two hpl
      have h6 : (psN n)[i]'(by omega) = pairsN (kidN n i) := by
        rw [kid_get (by omega)]
        exact List.getElem_map (l := n.kids) pairsN
      have h7 : (psN n)[i + 1] = pairsN (kidN n (i + 1)) := by
        rw [kid_get (by omega)]
        exact List.getElem_map (l := n.kids) pairsN
      rw [h6, h7] at h5
      rw [← h5, List.take_append_drop]
    have e6 : kpN n = (kpN n).take i ++ (⟨n.keys[i], n.chains[i]⟩ : Pr) :: (kpN n).drop (i + 1) := by
      have h5 := kp_get hc hi
      rw [List.getElem?_eq_getElem hkl] at h5
      rw [← Option.some.inj h5, ← List.drop_eq_getElem_cons hkl, List.take_append_drop]
    rw [e3, e4]
    conv => rhs; rw [e5, e6]
    rw [inter_mid hA, inter_mid hA, h2]
    simp only [suf, inter_cons, List.append_assoc, List.cons_append]
theorem settled_spec {d i : Nat} {n : Nd} (h : Wk d n i 0 4) (h1 : 1 ≤ n.keys.length) :
    (settledF n i).chains.length = (settledF n i).keys.length ∧ (settledF n i).kids.length = (settledF n i).keys.length + 1 ∧ (∀ m ∈ (settledF n i).kids, Wf d 1 3 m) ∧ pairsN (settledF n i) = pairsN n ∧
      (1 ≤ (kidN n i).keys.length → n.keys.length ≤ (settledF n i).keys.length) ∧ ((kidN n i).keys.length ≤ 3 → (settledF n i).keys.length ≤ n.keys.length) ∧ n.keys.length ≤ (settledF n i).keys.length + 1 ∧ (settledF n i).keys.length ≤ n.keys.length + 1 := by
  have hk := h.at'.keys
  rcases Nat.lt_or_ge (kidN n i).keys.length 1 with h0 | h0
  · have hkd := h.kd
    have hlt := h.lt
    have hwf : ∀ j (hj : j < n.kids.length), Wf d 0 3 (kidN n j) := fun j hj => by
      rw [kid_get hj]
      by_cases hji : j = i
      · subst hji
        have := h.at'
        rw [kid_get hj] at this
        exact this.mono (Nat.zero_le _) (by rw [kid_get hj] at h0; omega)
      · have := h.off j hj hji
        exact this.mono (Nat.zero_le _) this.keys.2
    have hj1 : i - 1 < n.keys.length := by omega
    have hJ := joined_spec h.ch h.kd hj1 (hwf _ (by omega)) (hwf _ (by omega)) (fun j hj h2 h3 => h.off j hj (by omega))
    obtain ⟨w1, w2, w3, w4⟩ := hJ
    obtain ⟨_, w5, _⟩ := one_pairs h.ch hj1 (hwf (i - 1) (by omega)) (hwf (i - 1 + 1) (by omega))
    have hk7 := w1.at'.keys
    have e : settledF n i = if 3 < (kidN (joinedF n (i - 1)) (i - 1)).keys.length then splitF (joinedF n (i - 1)) (i - 1) else joinedF n (i - 1) := by
      unfold settledF
      simp only [h0, if_true]
    rw [e]
    split
    · rename_i h4
      have w1' : Wk d (joinedF n (i - 1)) (i - 1) 3 7 := ⟨w1.ch, w1.kd, w1.lt, w1.at'.mono (by omega) (by omega), w1.off⟩
      obtain ⟨s1, s2, s3, s4⟩ := split_form w1'
      exact ⟨s1, s3, s4, (split_pairs w1).trans w4, by omega, by omega, by omega, by omega⟩
    · rename_i h4
      refine ⟨w1.ch, w1.kd, fun m hm => ?_, w4, by omega, by omega, by omega, by omega⟩
      obtain ⟨j, hj, rfl⟩ := List.mem_iff_getElem.1 hm
      by_cases hji : j = i - 1
      · subst hji
        have := w1.at'
        rw [kid_get hj] at this h4
        exact this.mono this.keys.1 (by omega)
      · exact w1.off j hj hji
  · have e : settledF n i = if 3 < (kidN n i).keys.length then splitF n i else n := by
      unfold settledF
      have : ¬ (kidN n i).keys.length < 1 := by omega
      simp only [this, if_false]
    rw [e]
    split
    · rename_i h4
      have w1 : Wk d n i 1 7 := ⟨h.ch, h.kd, h.lt, h.at'.mono (by omega) (by omega), h.off⟩
      have w1' : Wk d n i 3 7 := ⟨h.ch, h.kd, h.lt, h.at'.mono (by omega) (by omega), h.off⟩
      obtain ⟨s1, s2, s3, s4⟩ := split_form w1'
      exact ⟨s1, s3, s4, split_pairs w1, by omega, by omega, by omega, by omega⟩
    · rename_i h4
      refine ⟨h.ch, h.kd, fun m hm => ?_, rfl, by omega, by omega, by omega, by omega⟩
      obtain ⟨j, hj, rfl⟩ := List.mem_iff_getElem.1 hm
      by_cases hji : j = i
      · subst hji
        have := h.at'
        rw [kid_get hj] at this h4 h0
        exact this.mono (by omega) (by omega)
      · exact h.off j hj hji
end Go.Proofs.Yticngbgjfdcnhaa
namespace Go.Proofs.Yticngbgjfdcnhaa
open Go.RowKit
section
variable {P : Program} {T E S : TypeId} {ops : Array Oper} {rest : List Oper} {o : Oper} {a : Act} {Q : Exit → Act → World → Prop} {w : World}
theorem run_bounds3 (w : World) {n c l h m : Nat} {i j k : Int} (hi : i = (l : Int)) (hj : j = (h : Int)) (hk : k = (m : Int)) (hl : l ≤ h) (hh : h ≤ m) (hm : m ≤ c) :
    (Instr.sliceBounds true n c (some (.int .i64 i)) (some (.int .i64 j)) (some (.int .i64 k))).run P w = .ok (l, h, m) w := by
  subst hi; subst hj; subst hk
  simp [Instr.sliceBounds, Instr.sliceBound, asIntOf, hl, hh, hm]
theorem wpList_min {x y : Operand} {ts : Array TypeId} (ho : o.op = .call { callee := .builtin .min, args := #[x, y], argTypes := ts }) (hgd : Region.wanted o (yielded ops a.tmps) = true) {m n k : Int} (hx : a.eval x = .int .i64 m) (hy : a.eval y = .int .i64 n)
    (h : wpList P ops Q rest (a.put o.dst (.int .i64 k)) w) (hk : k = min m n) : wpList P ops Q (o :: rest) a w := by
  refine BigFrame.wpList_want hgd fun K hK => ?_
  have hrun : (Builtin.min_ ts o.type #[.int .i64 m, .int .i64 n]).run P w = .ok (.int .i64 k) w := by
    subst hk
    simp [Builtin.min_, Builtin.min2]
    omega
  unfold Oper.wp execOp
  simp only [ho, resolve, invoke, builtin, Sem.run_bind, Sem.run_pure, Result.andThen_ok, List.map_toArray, List.map_cons, List.map_nil, hx, hy, hrun]
  exact hK _ _ h
end
end Go.Proofs.Yticngbgjfdcnhaa
namespace Go.Proofs.Yticngbgjfdcnhaa
open Go.RowKit
theorem grown_setRow (w : World) (g : Nat) (cs : Array Value) : w.grownBy (w.setRow g cs) (some g) :=
  ⟨rfl, rfl, rfl, by unfold World.setRow; simp, fun k _ hk => setRow_other w g k cs (fun e => hk (by rw [e]))⟩
section
variable {α : Type} {E : Elt α} {P : Program} {T Te : TypeId} {ops : Array Oper} {rest : List Oper} {o : Oper} {a : Act} {Q : Exit → Act → World → Prop} {w : World} {S : Nat → Prop}
theorem run_copy_rows (hP : LsP P T Te E.size) (w : World) (ty : TypeId) {ax : Option Addr} {nx cx : Nat} {l : List α} (hx : RdL E S w (.slice ax nx cx) l) {g off dl dc : Nat} {cur : Array Value} {t : TypeId}
    (hg : w.heap[g]? = some (.cells cur t (0, 0))) (hdl : l.length ≤ dl) (hfit : off + l.length * E.size ≤ cur.size) :
    ∃ cs, Flat E S w l cs ∧ (Builtin.copy_ #[T, T] ty #[.slice (some ⟨g, off, none⟩) dl dc, .slice ax nx cx]).run P w = .ok (.int .i64 (l.length : Nat)) (w.setRow g (cur.toList.take off ++ cs ++ cur.toList.drop (off + cs.length)).toArray) := by
  obtain ⟨rfl, _, _⟩ := hx.len
  obtain ⟨i, hi, hsz⟩ := hP.info
  have hn : Nat.min l.length dl = l.length := Nat.min_eq_left hdl
  have key : ∀ cs : List Value, cs.length = l.length * E.size → (∀ u ∈ cs, u.oneCell' = true) → (Builtin.firstCells E.size l.length (.slice ax l.length cx)).run P w = .ok cs.toArray w →
      (Builtin.copy_ #[T, T] ty #[.slice (some ⟨g, off, none⟩) dl dc, .slice ax l.length cx]).run P w = .ok (.int .i64 (l.length : Nat)) (w.setRow g (cur.toList.take off ++ cs ++ cur.toList.drop (off + cs.length)).toArray) := by
    intro cs hcl h1 hfc
    have hst := run_storeCells_at P g off t cs 0 cur w hg (by rw [hcl]; omega) h1
    simp only [Nat.add_zero] at hst
    simp [Builtin.copy_, run_underlying hP.hT, Builtin.lenOf, sizeOf, typeInfo, hi, hsz, hn, hfc, hst, goInt]
  by_cases h0 : l = []
  · subst h0
    refine ⟨[], rfl, key [] (by simp) (by simp) ?_⟩
    cases ax with
    | none => simp [Builtin.firstCells]
    | some p =>
      have := run_loadCells_list (P := P) w p [] (by simp)
      simpa [Builtin.firstCells] using this
  · obtain ⟨b, o2, _, rfl, _⟩ := hx.at 0 (List.length_pos_iff.2 h0)
    obtain ⟨cs, hf, hc⟩ := hx.flat
    have hcl := hf.len
    refine ⟨cs, hf, key cs hcl hf.one ?_⟩
    have := run_loadCells_list (P := P) w ⟨b, o2, none⟩ cs (fun j u hj => by rw [Addr.add_lit]; exact hc j u hj)
    rw [hcl] at this
    simpa [Builtin.firstCells] using this
theorem wpList_copy_rows (hP : LsP P T Te E.size) {d s : Operand} (ho : o.op = .call { callee := .builtin .copy, args := #[d, s], argTypes := #[T, T] }) (hgd : Region.wanted o (yielded ops a.tmps) = true)
    {ax : Option Addr} {nx cx : Nat} {l : List α} {g off dl dc : Nat} {cur : Array Value} {t : TypeId} (hd : a.eval d = .slice (some ⟨g, off, none⟩) dl dc) (hs : a.eval s = .slice ax nx cx) (hx : RdL E S w (.slice ax nx cx) l) (hg : w.heap[g]? = some (.cells cur t (0, 0)))
    (h : ∀ cs w', Flat E S w l cs → w'.heap[g]? = some (.cells (cur.toList.take off ++ cs ++ cur.toList.drop (off + cs.length)).toArray t (0, 0)) → w.grownBy w' (some g) → wpList P ops Q rest (a.put o.dst (.int .i64 (l.length : Nat))) w')
    (hdl : l.length ≤ dl) (hfit : off + l.length * E.size ≤ cur.size) : wpList P ops Q (o :: rest) a w := by
  obtain ⟨cs, hf, hr⟩ := run_copy_rows hP w o.type hx hg hdl hfit (dc := dc)
  refine BigFrame.wpList_want hgd fun K hK => ?_
  unfold Oper.wp execOp
  simp only [ho, resolve, invoke, builtin, Sem.run_bind, Sem.run_pure, Result.andThen_ok, List.map_toArray, List.map_cons, List.map_nil, hd, hs, hr]
  exact hK _ _ (h cs _ hf (setRow_heap _ _ _ _ _ _ hg) (grown_setRow _ _ _))
theorem wpList_sliceRaw {n : Nat} (hP : LsP P T Te n) {x : Operand} {lo hi : Option Operand} (ho : o.op = .slice T x lo hi none) (hgd : Region.wanted o (yielded ops a.tmps) = true) {ad : Option Addr} {k c : Nat} (hx : a.eval x = .slice ad k c)
    {l r : Nat} (hb : (Instr.sliceBounds true k c (lo.map a.eval) (hi.map a.eval) none).run P w = .ok (l, r, c) w)
    (h : wpList P ops Q rest (a.put o.dst (.slice (if c = l then ad else ad.map (·.add (l * n))) (r - l) (c - l))) w) : wpList P ops Q (o :: rest) a w := by
  refine BigFrame.wpList_want hgd fun K hK => ?_
  unfold Oper.wp execOp
  simp only [ho, hx, Option.map_none, Sem.run_bind, Sem.run_pure, Result.andThen_ok, run_sliceL hP hb]
  exact hK _ _ h
theorem wpList_makeL (hP : LoP P T Te E.size) {x y : Operand} (ho : o.op = .makeSlice T x y) (hgd : Region.wanted o (yielded ops a.tmps) = true) {k : Nat} {i : Int} {kl kc : IntKind} (hx : a.eval x = .int kl i) (hy : a.eval y = .int kc i)
    (h : ∀ cur : Array Value, cur.size = k * E.size → wpList P ops Q rest (a.put o.dst (.slice (some ⟨w.heap.size, 0, none⟩) k k)) (w.alloc (.cells cur Te))) (hik : i = (k : Int)) (hk : k ≤ 1073741824) : wpList P ops Q (o :: rest) a w := by
  subst hik
  refine BigFrame.wpList_want hgd fun K hK => ?_
  obtain ⟨i, z, hi, hz, hsz, hby, hzs⟩ := hP.all
  have hbytes : i.bytes * k ≤ 4096 * 1073741824 := Nat.mul_le_mul hby hk
  have hr := run_make (P := P) w T Te i z hP.hT hi hz kl kc (k : Int) (k : Int) (by omega) (Int.le_refl _) (by
    have : ((i.bytes * k : Nat) : Int) ≤ 281474976710656 := by omega
    rwa [Int.natCast_mul] at this) (by omega)
  simp only [Int.toNat_natCast] at hr
  unfold Oper.wp execOp
  simp only [ho, hx, hy, Sem.run_bind, Sem.run_pure, Result.andThen_ok, hr]
  exact hK _ _ (h _ (by rw [size_madeCells, hsz]))
end
end Go.Proofs.Yticngbgjfdcnhaa
namespace Go.Proofs.Yticngbgjfdcnhaa
open Go.RowKit
def hangs (ops : Array Oper) (j i : Nat) : Bool := (ops[j]?).any fun o => o.after.any fun e => e.on == i && Region.binds .any e
theorem hangs_get {ops : Array Oper} {j i : Nat} (h : hangs ops j i = true) : ∃ o, ops[j]? = some o ∧ ∃ e ∈ o.after, e.on = i ∧ Region.binds .any e = true := by
  unfold hangs at h
  cases ho : ops[j]? with
  | none => rw [ho] at h; simp at h
  | some o =>
    rw [ho] at h
    simp only [Option.any_some, Array.any_eq_true', Bool.and_eq_true, beq_iff_eq] at h
    exact ⟨o, rfl, h⟩
def incB : List Nat → Bool
  | [] => true
  | [_] => true
  | c :: d :: r => decide (c < d) && incB (d :: r)
theorem inc_head : ∀ {r : List Nat} {c q d : Nat}, incB (c :: r) = true → r[q]? = some d → c < d
  | [], _, _, _, _, h => by simp at h
  | x :: r, c, 0, d, h, h2 => by
    simp only [incB, Bool.and_eq_true, decide_eq_true_eq] at h
    obtain rfl : x = d := by simpa using h2
    exact h.1
  | x :: r, c, q + 1, d, h, h2 => by
    simp only [incB, Bool.and_eq_true, decide_eq_true_eq] at h
    exact Nat.lt_trans h.1 (inc_head h.2 (by simpa using h2))
theorem inc_lt : ∀ {l : List Nat} {p q c d : Nat}, incB l = true → l[p]? = some c → l[q]? = some d → p < q → c < d
  | [], _, _, _, _, _, h, _, _ => by simp at h
  | x :: r, 0, q + 1, c, d, h, h1, h2, _ => by
    obtain rfl : x = c := by simpa using h1
    exact inc_head h (by simpa using h2)
  | x :: r, p + 1, q + 1, c, d, h, h1, h2, h3 => by
    have h' : incB r = true := by
      cases r with
      | nil => rfl
      | cons y r => simp only [incB, Bool.and_eq_true] at h; exact h.2
    exact inc_lt h' (by simpa using h1) (by simpa using h2) (by omega)
  | _, _, 0, _, _, _, _, _, h => absurd h (Nat.not_lt_zero _)
theorem inc_ix {l : List Nat} {p q c : Nat} (h : incB l = true) (h1 : l[p]? = some c) (h2 : l[q]? = some c) : p = q := by
  rcases Nat.lt_trichotomy p q with h3 | h3 | h3
  · exact absurd (inc_lt h h1 h2 h3) (Nat.lt_irrefl _)
  · exact h3
  · exact absurd (inc_lt h h2 h1 h3) (Nat.lt_irrefl _)
def lineB (ops : Array Oper) (ch : List Nat) : Bool :=
  (ch.all fun c => decide (c < ops.size)) && incB ch && (List.range ch.length).all fun p => p == 0 || hangs ops (ch.getD p 0) (ch.getD (p - 1) 0)
theorem line_lt {ops : Array Oper} {ch : List Nat} (h : lineB ops ch = true) {p c : Nat} (hp : ch[p]? = some c) : c < ops.size := by
  simp only [lineB, Bool.and_eq_true, List.all_eq_true, decide_eq_true_eq] at h
  exact h.1.1 c (List.mem_of_getElem? hp)
theorem line_hangs {ops : Array Oper} {ch : List Nat} (h : lineB ops ch = true) {p c d : Nat} (hp : ch[p + 1]? = some d) (hc : ch[p]? = some c) : hangs ops d c = true := by
  simp only [lineB, Bool.and_eq_true, List.all_eq_true, List.mem_range, Bool.or_eq_true, beq_iff_eq] at h
  have := (h.2 (p + 1) (List.getElem?_eq_some_iff.1 hp).1).resolve_left (by omega)
  rwa [List.getD_eq_getElem?_getD, hp, List.getD_eq_getElem?_getD, Nat.add_sub_cancel, hc] at this
section
variable {P : Program} {Q : Exit → Act → World → Prop}
def LineOp (P : Program) (Q : Exit → Act → World → Prop) (ops : Array Oper) (a : Act) (ch : List Nat) (G : Nat → World → Value → Prop) (J : List Value → World → Prop) (K : World → World → Prop) (p : Nat) (o : Oper) : Prop :=
  ∀ (A : Act) (vs : Nat → Value) (w' : World), (∀ t, slotIx ops.toList 0 t = none → A.eval (.tmp t) = a.eval (.tmp t)) → (∀ t j, t < a.tmps.size → slotIx ops.toList 0 t = some j → A.eval (.tmp t) = vs j) → J ((ch.take p).map vs) w' →
    (∀ q j d, p ≤ q → ch[q]? = some j → (ops[j]?).bind (·.dst) = some d → vs j = a.eval (.tmp d)) → (∀ e ∈ o.after, Region.binds .any e = true → ch.contains e.on = false → G e.on w' (vs e.on)) →
    o.wp P A w' (fun a2 w2 => ∃ v, a2 = A.put o.dst v ∧ J ((ch.take p).map vs ++ [v]) w2 ∧ K w' w2) Q
def SideOp (P : Program) (Q : Exit → Act → World → Prop) (ops : Array Oper) (a : Act) (ch : List Nat) (G : Nat → World → Value → Prop) (J : List Value → World → Prop) (i : Nat) (o : Oper) : Prop :=
  ∀ (A : Act) (vs : Nat → Value) (w' : World) (k : Nat), (∀ t, slotIx ops.toList 0 t = none → A.eval (.tmp t) = a.eval (.tmp t)) → (∀ t j, t < a.tmps.size → slotIx ops.toList 0 t = some j → A.eval (.tmp t) = vs j) → k ≤ ch.length → J ((ch.take k).map vs) w' →
    (∀ p c, ch[p]? = some c → hangs ops c i = true → k ≤ p) → (∀ q j d, k ≤ q → ch[q]? = some j → (ops[j]?).bind (·.dst) = some d → vs j = a.eval (.tmp d)) →
    (∀ e ∈ o.after, Region.binds .any e = true → ∀ p, ch[p]? = some e.on → p < k) → (∀ e ∈ o.after, Region.binds .any e = true → ch.contains e.on = false → G e.on w' (vs e.on)) →
    o.wp P A w' (fun a2 w2 => ∃ v, a2 = A.put o.dst v ∧ G i w2 v ∧ Below w'.heap.size w' w2) Q
def LnOp (P : Program) (Q : Exit → Act → World → Prop) (ops : Array Oper) (a : Act) (ch : List Nat) (G : Nat → World → Value → Prop) (J : List Value → World → Prop) (K : World → World → Prop) (i : Nat) (o : Oper) : Prop :=
  o.guard = none ∧ ((∃ p, ch[p]? = some i ∧ LineOp P Q ops a ch G J K p o) ∨ (ch.contains i = false ∧ SideOp P Q ops a ch G J i o))
theorem LnOp.line {ops : Array Oper} {a : Act} {ch : List Nat} {G : Nat → World → Value → Prop} {J : List Value → World → Prop} {K : World → World → Prop} {i : Nat} {o : Oper} (p : Nat) (hg : o.guard = none) (hp : ch[p]? = some i) (h : LineOp P Q ops a ch G J K p o) : LnOp P Q ops a ch G J K i o := ⟨hg, .inl ⟨p, hp, h⟩⟩
theorem LnOp.side {ops : Array Oper} {a : Act} {ch : List Nat} {G : Nat → World → Value → Prop} {J : List Value → World → Prop} {K : World → World → Prop} {i : Nat} {o : Oper} (hg : o.guard = none) (hp : ch.contains i = false) (h : SideOp P Q ops a ch G J i o) : LnOp P Q ops a ch G J K i o := ⟨hg, .inr ⟨hp, h⟩⟩
def LnAll (P : Program) (Q : Exit → Act → World → Prop) (ops : Array Oper) (a : Act) (ch : List Nat) (G : Nat → World → Value → Prop) (J : List Value → World → Prop) (K : World → World → Prop) : Nat → List Oper → Prop
  | _, [] => True
  | i, o :: rest => LnOp P Q ops a ch G J K i o ∧ LnAll P Q ops a ch G J K (i + 1) rest
theorem LnAll.get {ops : Array Oper} {a : Act} {ch : List Nat} {G : Nat → World → Value → Prop} {J : List Value → World → Prop} {K : World → World → Prop} : ∀ (l : List Oper) (k j : Nat) (o : Oper), LnAll P Q ops a ch G J K k l → l[j]? = some o → LnOp P Q ops a ch G J K (k + j) o
  | [], _, _, _, _, h => by simp at h
  | o' :: rest, k, 0, o, h, hj => by obtain rfl : o' = o := by simpa using hj
                                     exact h.1
  | o' :: rest, k, j + 1, o, h, hj => by rw [show k + (j + 1) = k + 1 + j by omega]; exact LnAll.get rest (k + 1) j o h.2 (by simpa using hj)
theorem map_upd_out {l : List Nat} {vs : Nat → Value} {i : Nat} {v : Value} (h : i ∉ l) : l.map (upd vs i v) = l.map vs := by
  refine List.map_congr_left fun j hj => ?_
  have : j ≠ i := fun e => h (by rw [← e]; exact hj)
  simp [upd, this]
theorem wp_region_line {id : Nat} {ops : Array Oper} {a : Act} {w : World} (hm : P.follows .mixedOrders = true) (hs : gdB ops = true) (ch : List Nat) (hch : lineB ops ch = true) (G : Nat → World → Value → Prop) (J : List Value → World → Prop) (K : World → World → Prop)
    (hG : ∀ i w v w', G i w v → Below w.heap.size w w' → G i w' v) (hK : ∀ i w v w', G i w v → K w w' → G i w' v) (hJ : ∀ l w w', J l w → Below w.heap.size w w' → J l w') (h0 : J [] w)
    (hop : LnAll P Q ops a ch G J K 0 ops.toList)
    (hend : ∀ (vs : Nat → Value) (w' : World), J (ch.map vs) w' → (∀ i, i < ops.size → ch.contains i = false → G i w' (vs i)) → Q .normal (putAll a ops.toList vs 0) w') : (Code.region id ops true).wp P Q a w := by
  refine wp_region_any hm ?_
  have hnd : (ops.toList.filterMap (·.dst)).Nodup := by simp only [gdB, slotsB, Bool.and_eq_true, decide_eq_true_eq] at hs; exact hs.2
  have hinc : incB ch = true := by simp only [lineB, Bool.and_eq_true] at hch; exact hch.1.2
  have main : ∀ (fuel : Nat) (listed : Array Bool) (vs : Nat → Value) (w' : World) (k : Nat), listed.size = ops.size → (unlisted ops.size listed).length ≤ fuel → k ≤ ch.length → (∀ p c, ch[p]? = some c → (listed.getD c true = true ↔ p < k)) → J ((ch.take k).map vs) w' →
      (∀ i, i < ops.size → listed.getD i true = true → ch.contains i = false → G i w' (vs i)) → (∀ i o, ops[i]? = some o → listed.getD i true = true → ∀ e ∈ o.after, Region.binds .any e = true → e.on < ops.size ∧ listed.getD e.on true = true) → (∀ j, j < ops.size → listed.getD j true = false → ∀ d, (ops[j]?).bind (·.dst) = some d → vs j = a.eval (.tmp d)) → wpAny P .any ops Q fuel listed (putAll a ops.toList vs 0) w' := by
    intro fuel
    have fin : ∀ (listed : Array Bool) (vs : Nat → Value) (w' : World) (k : Nat), k ≤ ch.length → (∀ p c, ch[p]? = some c → (listed.getD c true = true ↔ p < k)) → J ((ch.take k).map vs) w' →
        (∀ i, i < ops.size → listed.getD i true = true → ch.contains i = false → G i w' (vs i)) → (∀ i, i < ops.size → listed.getD i true = true) → Q .normal (putAll a ops.toList vs 0) w' := by
      intro listed vs w' k hk hlk hJ' hG' hall
      have : k = ch.length := by
        rcases Nat.lt_or_ge k ch.length with h | h
        · have h1 := List.getElem?_eq_getElem h
          have h2 := (hlk k _ h1).1 (hall _ (line_lt hch h1))
          omega
        · omega
      subst this
      rw [List.take_length] at hJ'
      exact hend vs w' hJ' fun i hi hc => hG' i hi (hall i hi) hc
    induction fuel with
    | zero =>
      intro listed vs w' k hsz hu hk hlk hJ' hG' hcl hun
      have hall : ∀ i, i < ops.size → listed.getD i true = true := by
        intro i hi
        cases hl : listed.getD i true with
        | true => rfl
        | false =>
          have : i ∈ unlisted ops.size listed := List.mem_filter.2 ⟨List.mem_range.2 hi, by simp [hl]⟩
          rw [List.eq_nil_of_length_eq_zero (Nat.le_zero.1 hu)] at this
          cases this
      refine ⟨?_, fin listed vs w' k hk hlk hJ' hG' hall⟩
      unfold Region.ready
      rw [List.filter_eq_nil_iff]
      intro i hi
      simp [hall i (List.mem_range.1 hi)]
    | succ fuel ih =>
      intro listed vs w' k hsz hu hk hlk hJ' hG' hcl hun
      refine ⟨fun hr => fin listed vs w' k hk hlk hJ' hG' (fun i hi => all_listed_gd hs hr i hi), fun i hi => ?_⟩
      unfold Region.ready at hi
      obtain ⟨hi1, hi2⟩ := List.mem_filter.1 hi
      have hlt := List.mem_range.1 hi1
      rw [Bool.and_eq_true] at hi2
      obtain ⟨hl, hdep⟩ := hi2
      have hl' : listed.getD i true = false := by simpa using hl
      obtain ⟨o, ho⟩ : ∃ o, ops[i]? = some o := ⟨_, Array.getElem?_eq_getElem hlt⟩
      rw [ho] at hdep
      simp only [Option.map_some, Option.getD_some] at hdep
      rw [Array.all_eq_true'] at hdep
      have hgop := LnAll.get ops.toList 0 i o hop (by rw [Array.getElem?_toList]; exact ho)
      rw [Nat.zero_add] at hgop
      have hdepG : ∀ e ∈ o.after, Region.binds .any e = true → e.on < ops.size ∧ listed.getD e.on true = true := by
        intro e he hbn
        have h := hdep e he
        rw [hbn] at h
        simp only [Bool.not_true, Bool.false_or] at h
        have hin : e.on < listed.size := by
          rcases Nat.lt_or_ge e.on listed.size with h' | h'
          · exact h'
          · simp [Array.getD_eq_getD_getElem?, Array.getElem?_eq_none_iff.2 h'] at h
        have hl2 : listed.getD e.on true = true := by
          simp only [Array.getD_eq_getD_getElem?, Array.getElem?_eq_getElem hin, Option.getD_some] at h ⊢
          exact h
        exact ⟨by omega, hl2⟩
      have hdepS : ∀ e ∈ o.after, Region.binds .any e = true → ch.contains e.on = false → G e.on w' (vs e.on) := fun e he hbn hc => hG' e.on (hdepG e he hbn).1 (hdepG e he hbn).2 hc
      have hlate : ∀ q j d, k ≤ q → ch[q]? = some j → (ops[j]?).bind (·.dst) = some d → vs j = a.eval (.tmp d) := by
        intro q j d hq hj hd
        refine hun j (line_lt hch hj) ?_ d hd
        cases hlj : listed.getD j true with
        | false => rfl
        | true => have := (hlk q j hj).1 hlj; omega
      have step : ∀ (v : Value) (w2 : World) (k2 : Nat), k2 ≤ ch.length → (∀ p c, ch[p]? = some c → ((c = i ∨ p < k) ↔ p < k2)) → J ((ch.take k2).map (upd vs i v)) w2 → (ch.contains i = false → G i w2 v) → (∀ j u, ch.contains j = false → G j w' u → G j w2 u) → wpAny P .any ops Q fuel (listed.setIfInBounds i true) ((putAll a ops.toList vs 0).put o.dst v) w2 := by
        intro v w2 k2 hk2 hlk2 hJ2 hGi hGs
        rw [putAll_put ops.toList a vs 0 i o v hnd (by rw [Array.getElem?_toList]; exact ho), Nat.zero_add]
        have hset : ∀ j, (listed.setIfInBounds i true).getD j true = true ↔ j = i ∨ listed.getD j true = true := fun j => by
          by_cases hji : j = i
          · subst hji
            simp [Array.getD_eq_getD_getElem?, Array.getElem?_setIfInBounds_self_of_lt (by omega : j < listed.size)]
          · simp [Array.getD_eq_getD_getElem?, Array.getElem?_setIfInBounds_ne (Ne.symm hji), hji]
        refine ih _ _ _ k2 (by simp [hsz]) (by have := unlisted_set hsz hlt hl'; omega) hk2 (fun p c hp => ?_) hJ2 (fun j hj hlj hc => ?_) (fun j oj hoj hlj e he hbn => ?_) (fun j hj hlj d hd => ?_)
        · rw [hset, ← hlk2 p c hp, hlk p c hp]
        · by_cases hji : j = i
          · subst hji
            simpa [upd] using hGi hc
          · have hlj' := ((hset j).1 hlj).resolve_left hji
            have hv : upd vs i v j = vs j := by simp [upd, hji]
            rw [hv]
            exact hGs j _ hc (hG' j hj hlj' hc)
        · by_cases hji : j = i
          · subst hji
            obtain rfl : o = oj := by rw [ho] at hoj; injection hoj
            have := hdepG e he hbn
            exact ⟨this.1, (hset _).2 (.inr this.2)⟩
          · have hlj' := ((hset j).1 hlj).resolve_left hji
            have := hcl j oj hoj hlj' e he hbn
            exact ⟨this.1, (hset _).2 (.inr this.2)⟩
        · have hji : j ≠ i := fun e => by
            have := (hset j).2 (.inl e)
            rw [hlj] at this; cases this
          have hv : upd vs i v j = vs j := by simp [upd, hji]
          rw [hv]
          refine hun j hj ?_ d hd
          cases h : listed.getD j true with
          | false => rfl
          | true => have := (hset j).2 (.inr h); rw [hlj] at this; cases this
      unfold wpOp
      simp only [ho, Region.wanted, hgop.1, if_true]
      left
      rcases hgop.2 with ⟨p, hp, hln⟩ | ⟨hc, hsd⟩
      · have hkp : k = p := by
          have h1 : ¬ p < k := fun h => by have := (hlk p i hp).2 h; rw [hl'] at this; cases this
          cases p with
          | zero => omega
          | succ p =>
            obtain ⟨c, hcp⟩ : ∃ c, ch[p]? = some c := ⟨_, List.getElem?_eq_getElem (by have := (List.getElem?_eq_some_iff.1 hp).1; omega)⟩
            obtain ⟨o2, ho2, e, he, rfl, hbn⟩ := hangs_get (line_hangs hch hp hcp)
            obtain rfl : o = o2 := by rw [ho] at ho2; injection ho2
            have := (hlk p _ hcp).1 (hdepG e he hbn).2
            omega
        subst hkp
        have hkl := (List.getElem?_eq_some_iff.1 hp).1
        have hwp := hln (putAll a ops.toList vs 0) vs w' (fun t h => eval_putAll_out _ _ _ _ _ h) (fun t j ht h => eval_putAll_in _ _ _ _ _ _ hnd ht h) hJ' hlate hdepS
        refine Oper.wp_mono ?_ hwp
        rintro a2 w2 ⟨v, rfl, hJ2, hK2⟩
        refine step v w2 (k + 1) hkl (fun p c hpc => ?_) ?_ (fun hc => ?_) (fun j u _ hg => hK j w' u w2 hg hK2)
        · constructor
          · rintro (rfl | h)
            · have := inc_ix hinc hpc hp; omega
            · omega
          · intro h
            by_cases h3 : p = k
            · subst h3
              rw [hp] at hpc
              injection hpc with hpc
              exact .inl hpc.symm
            · exact .inr (by omega)
        · have e1 : ch.take (k + 1) = ch.take k ++ [i] := by
            rw [List.take_add_one, hp]; rfl
          have e2 : i ∉ ch.take k := fun hmem => by
            obtain ⟨q, hq⟩ := List.mem_iff_getElem?.1 hmem
            rw [List.getElem?_take] at hq
            split at hq
            · have := inc_ix hinc hq hp; omega
            · cases hq
          rw [e1, List.map_append, map_upd_out e2]
          simpa [upd] using hJ2
        · rw [List.contains_iff_mem.2 (List.mem_of_getElem? hp)] at hc
          cases hc
      · have hci : i ∉ ch := fun h => by rw [List.contains_iff_mem.2 h] at hc; cases hc
        have hwp := hsd (putAll a ops.toList vs 0) vs w' k (fun t h => eval_putAll_out _ _ _ _ _ h) (fun t j ht h => eval_putAll_in _ _ _ _ _ _ hnd ht h) hk hJ' (fun p c hpc hh => ?_) hlate (fun e he hbn p hp => (hlk p e.on hp).1 (hdepG e he hbn).2) hdepS
        · refine Oper.wp_mono ?_ hwp
          rintro a2 w2 ⟨v, rfl, hg, hb2⟩
          refine step v w2 k hk (fun p c hpc => ⟨fun h => ?_, .inr⟩) ?_ (fun _ => hg) (fun j u _ hgj => hG j w' u w2 hgj hb2)
          · rcases h with rfl | h
            · exact absurd (List.mem_of_getElem? hpc) hci
            · exact h
          · rw [map_upd_out (fun hmem => hci (List.mem_of_mem_take hmem))]
            exact hJ _ _ _ hJ' hb2
        · rcases Nat.lt_or_ge p k with h | h
          · exfalso
            obtain ⟨o2, ho2, e, he, hei, hbn⟩ := hangs_get hh
            have := (hcl c o2 ho2 ((hlk p c hpc).2 h) e he hbn).2
            rw [hei, hl'] at this
            cases this
          · exact h
  have hbz : Below w.heap.size w { w with drawn := w.drawn + 1 } := ⟨rfl, rfl, rfl, Nat.le_refl _, fun _ _ => rfl⟩
  have h1 := main ops.size (Array.replicate ops.size false) (fun i => ((ops[i]?).bind (·.dst)).elim undef (fun d => a.tmps.getD d undef)) { w with drawn := w.drawn + 1 } 0 (by simp)
    (by have := List.length_filter_le (fun i => !(Array.replicate ops.size false).getD i true) (List.range ops.size); simpa [unlisted] using this) (Nat.zero_le _)
    (fun p c hp => by have := line_lt hch hp; simp [Array.getD_eq_getD_getElem?, this]) (hJ _ _ _ h0 hbz)
    (fun i hi h => by simp [Array.getD_eq_getD_getElem?, hi] at h) (fun i o ho h => by
      have : i < ops.size := (Array.getElem?_eq_some_iff.1 ho).1
      simp [Array.getD_eq_getD_getElem?, this] at h)
    (fun j hj _ d hd => by simp only [hd, Option.elim]; rfl)
  rw [putAll_orig ops.toList a _ 0 (fun j o d hj hd => by
    rw [Array.getElem?_toList] at hj
    simp [hj, hd])] at h1
  exact h1
end
abbrev SGn (K : World → World → Prop) := { G : World → Value → Prop // (∀ w v w', G w v → Below w.heap.size w w' → G w' v) ∧ (∀ w v w', G w v → K w w' → G w' v) }
section
variable {K : World → World → Prop}
def lEq (u : Value) : SGn K := ⟨fun _ v => v = u, fun _ _ _ h _ => h, fun _ _ _ h _ => h⟩
def lAny : SGn K := ⟨fun _ _ => True, fun _ _ _ h _ => h, fun _ _ _ h _ => h⟩
variable {P : Program} {Q : Exit → Act → World → Prop}
theorem wp_region_lnl {id : Nat} {ops : Array Oper} {a : Act} {w : World} (hm : P.follows .mixedOrders = true) (hs : gdB ops = true) (ch : List Nat) (hch : lineB ops ch = true) (Gs : List (SGn K)) (J : List Value → World → Prop)
    (hJ : ∀ l w w', J l w → Below w.heap.size w w' → J l w') (h0 : J [] w)
    (hop : LnAll P Q ops a ch (fun i => (Gs.getD i lAny).1) J K 0 ops.toList)
    (hend : ∀ (vs : Nat → Value) (w' : World), J (ch.map vs) w' → (∀ i, i < ops.size → ch.contains i = false → (Gs.getD i lAny).1 w' (vs i)) → Q .normal (putAll a ops.toList vs 0) w') : (Code.region id ops true).wp P Q a w :=
  wp_region_line hm hs ch hch (fun i => (Gs.getD i lAny).1) J K (fun i => (Gs.getD i lAny).2.1) (fun i => (Gs.getD i lAny).2.2) hJ h0 hop hend
end
end Go.Proofs.Yticngbgjfdcnhaa
namespace Go.Proofs.Yticngbgjfdcnhaa
open Go.RowKit
structure Trd (F : Nat → Prop) (w w' : World) : Prop where
  os : w'.os = w.os
  tape : w'.tape = w.tape
  output : w'.output = w.output
  size : w.heap.size ≤ w'.heap.size
  block : ∀ k, k < w.heap.size → ¬ F k → w'.heap[k]? = w.heap[k]?
section
variable {F F' : Nat → Prop} {a b c w w' : World}
theorem Trd.refl (F : Nat → Prop) (w : World) : Trd F w w := ⟨rfl, rfl, rfl, Nat.le_refl _, fun _ _ _ => rfl⟩
theorem Trd.mono (h : Trd F w w') (hf : ∀ k, k < w.heap.size → F k → F' k) : Trd F' w w' := ⟨h.os, h.tape, h.output, h.size, fun k hk hn => h.block k hk fun hF => hn (hf k hk hF)⟩
theorem Trd.trans (h : Trd F a b) (k : Trd F' b c) (hf : ∀ k, k < a.heap.size → F' k → F k) : Trd F a c :=
  ⟨k.os.trans h.os, k.tape.trans h.tape, k.output.trans h.output, Nat.le_trans h.size k.size, fun i hi hn => (k.block i (Nat.lt_of_lt_of_le hi h.size) fun hF => hn (hf i hi hF)).trans (h.block i hi hn)⟩
theorem Trd.of (h : Below w.heap.size w w') : Trd F w w' := ⟨h.os, h.tape, h.output, h.size, fun k hk _ => h.block k hk⟩
theorem Trd.ofGrown {r : Option Nat} (h : w.grownBy w' r) (hr : ∀ k, r = some k → F k) : Trd F w w' := ⟨h.os, h.tape, h.output, h.size, fun k hk hn => h.block k hk fun e => hn (hr k e.symm)⟩
theorem Trd.below {n : Nat} (h : Trd F w w') (hn : n ≤ w.heap.size) (hf : ∀ k, k < n → ¬ F k) : Below n w w' := ⟨h.os, h.tape, h.output, h.size, fun k hk => h.block k (Nat.lt_of_lt_of_le hk hn) (hf k hk)⟩
end
def RowQ (Te : TypeId) (sz : Nat) (w : World) (v : Value) (n : Nat) (vs : List Value) : Prop := w.ownsRow 0 Te sz v n vs ∧ ∀ u ∈ vs, u.oneCell' = true
section
variable {Te : TypeId} {sz n : Nat} {w w' : World} {v : Value} {vs : List Value}
theorem RowQ.len (h : RowQ Te sz w v n vs) : vs.length = n * sz := h.1.1
theorem RowQ.cases (h : RowQ Te sz w v n vs) : (v = .slice none 0 0 ∧ n = 0 ∧ vs = []) ∨ ∃ g cap cur, v = .slice (some ⟨g, 0, none⟩) n cap ∧ w.heap[g]? = some (.cells cur Te (0, 0)) ∧ n ≤ cap ∧ cap ≤ maxLen ∧ cur.size = cap * sz ∧ cur.toList.take (n * sz) = vs := by
  rcases h.1.2 with ⟨h1, h2⟩ | ⟨g, cap, cur, h1, _, h2, h3, h4, h5, h6⟩
  · refine .inl ⟨h1, h2, List.eq_nil_of_length_eq_zero ?_⟩
    rw [h.len, h2, Nat.zero_mul]
  · exact .inr ⟨g, cap, cur, h1, h2, h3, h4, h5, h6⟩
theorem RowQ.of {g cap : Nat} {cur : Array Value} (hg : w.heap[g]? = some (.cells cur Te (0, 0))) (h1 : n ≤ cap) (h2 : cap ≤ maxLen) (h3 : cur.size = cap * sz) (h4 : cur.toList.take (n * sz) = vs) (h5 : ∀ u ∈ vs, u.oneCell' = true) : RowQ Te sz w (.slice (some ⟨g, 0, none⟩) n cap) n vs := by
  refine ⟨⟨?_, .inr ⟨g, cap, cur, rfl, Nat.zero_le _, hg, h1, h2, h3, h4⟩⟩, h5⟩
  rw [← h4, List.length_take, Array.length_toList, h3]
  exact Nat.min_eq_left (Nat.mul_le_mul_right _ h1)
theorem RowQ.nil (Te : TypeId) (sz : Nat) (w : World) : RowQ Te sz w (.slice none 0 0) 0 [] := ⟨World.ownsRow_nil _ _ _ _, fun _ h => by cases h⟩
theorem RowQ.shape (h : RowQ Te sz w v n vs) : ∃ a c, v = .slice a n c ∧ n ≤ c ∧ c ≤ maxLen := by
  rcases h.cases with ⟨rfl, rfl, _⟩ | ⟨g, cap, cur, rfl, _, h1, h2, _⟩
  · exact ⟨none, 0, rfl, Nat.le_refl _, by unfold maxLen; omega⟩
  · exact ⟨_, _, rfl, h1, h2⟩
theorem RowQ.block (h : RowQ Te sz w v n vs) {k : Nat} (hk : v.ownBlock = some k) : ∃ cur, w.heap[k]? = some (.cells cur Te (0, 0)) := by
  rcases h.cases with ⟨rfl, _, _⟩ | ⟨g, cap, cur, rfl, hg, _⟩
  · simp [Value.ownBlock] at hk
  · simp [Value.ownBlock] at hk
    subst hk
    exact ⟨_, hg⟩
theorem RowQ.lt (h : RowQ Te sz w v n vs) {k : Nat} (hk : v.ownBlock = some k) : k < w.heap.size := by
  obtain ⟨_, hg⟩ := h.block hk
  exact (Array.getElem?_eq_some_iff.1 hg).1
theorem RowQ.kept (h : RowQ Te sz w v n vs) (hk : ∀ k, v.ownBlock = some k → w'.heap[k]? = w.heap[k]?) : RowQ Te sz w' v n vs := by
  refine ⟨⟨h.1.1, ?_⟩, h.2⟩
  rcases h.1.2 with h | ⟨g, cap, cur, rfl, h1, h2, h3⟩
  · exact .inl h
  · exact .inr ⟨g, cap, cur, rfl, h1, (hk g rfl).trans h2, h3⟩
theorem RowQ.trd {F : Nat → Prop} (h : RowQ Te sz w v n vs) (hb : Trd F w w') (hk : ∀ k, v.ownBlock = some k → ¬ F k) : RowQ Te sz w' v n vs := h.kept fun k e => hb.block k (h.lt e) (hk k e)
theorem RowQ.below (h : RowQ Te sz w v n vs) (hb : Below w.heap.size w w') : RowQ Te sz w' v n vs := h.kept fun k e => hb.block k (h.lt e)
theorem RowQ.cell (h : RowQ Te sz w v n vs) {g : Nat} (hg : v.ownBlock = some g) {j : Nat} {u : Value} (hj : vs[j]? = some u) : w.cell? ⟨g, j, none⟩ = some u := by
  rcases h.cases with ⟨rfl, _, _⟩ | ⟨g', cap, cur, rfl, hb, _, _, _, ht⟩
  · simp [Value.ownBlock] at hg
  · simp [Value.ownBlock] at hg
    subst hg
    subst ht
    rw [List.getElem?_take] at hj
    split at hj
    · simp [World.cell?, hb, ← Array.getElem?_toList, hj]
    · cases hj
end
section
variable {P : Program} {T Te : TypeId} {n : Nat} {ops : Array Oper} {rest : List Oper} {o : Oper} {a : Act} {Q : Exit → Act → World → Prop} {w : World} {K : Act → World → Prop}
theorem wp_sliceRaw (hP : LsP P T Te n) {x : Operand} {lo hi : Option Operand} (ho : o.op = .slice T x lo hi none) {ad : Option Addr} {k c : Nat} (hx : a.eval x = .slice ad k c) {lov hiv : Option Value} (hlo : lo.map a.eval = lov) (hhi : hi.map a.eval = hiv)
    {l r : Nat} (hb : (Instr.sliceBounds true k c lov hiv none).run P w = .ok (l, r, c) w)
    (h : K (a.put o.dst (.slice (if c = l then ad else ad.map (·.add (l * n))) (r - l) (c - l))) w) : o.wp P a w K Q := by
  subst hlo; subst hhi
  unfold Oper.wp execOp
  simp only [ho, hx, Option.map_none, Sem.run_bind, Sem.run_pure, Result.andThen_ok, run_sliceL hP hb]
  exact h
theorem wp_sliceAny (hP : LsP P T Te n) {x : Operand} {lo hi : Option Operand} (ho : o.op = .slice T x lo hi none) {ad : Option Addr} {k c : Nat} (hx : a.eval x = .slice ad k c) {lov hiv : Option Value} (hlo : lo.map a.eval = lov) (hhi : hi.map a.eval = hiv)
    {l r : Nat} (hb : (Instr.sliceBounds true k c lov hiv none).run P w = .ok (l, r, c) w)
    (h : ∀ ad', K (a.put o.dst (.slice ad' (r - l) (c - l))) w) : o.wp P a w K Q := wp_sliceRaw hP ho hx hlo hhi hb (h _)
theorem wp_sliceFrom (hP : LsP P T Te n) {x : Operand} {lo hi : Option Operand} (ho : o.op = .slice T x lo hi none) {g off k c : Nat} (hx : a.eval x = .slice (some ⟨g, off, none⟩) k c) {lov hiv : Option Value} (hlo : lo.map a.eval = lov) (hhi : hi.map a.eval = hiv)
    {l r : Nat} (hb : (Instr.sliceBounds true k c lov hiv none).run P w = .ok (l, r, c) w) (hne : c ≠ l)
    (h : K (a.put o.dst (.slice (some ⟨g, off + l * n, none⟩) (r - l) (c - l))) w) : o.wp P a w K Q := by
  refine wp_sliceRaw hP ho hx hlo hhi hb ?_
  rw [if_neg hne]
  simpa [Addr.add_lit] using h
theorem wp_sliceTo (hP : LsP P T Te n) {x : Operand} {hi : Option Operand} (ho : o.op = .slice T x none hi none) {g off k c : Nat} (hx : a.eval x = .slice (some ⟨g, off, none⟩) k c) {hiv : Option Value} (hhi : hi.map a.eval = hiv)
    {r : Nat} (hb : (Instr.sliceBounds true k c none hiv none).run P w = .ok (0, r, c) w)
    (h : K (a.put o.dst (.slice (some ⟨g, off, none⟩) r c)) w) : o.wp P a w K Q := by
  refine wp_sliceRaw hP ho hx rfl hhi hb ?_
  simp only [Nat.sub_zero, Nat.zero_mul, Option.map_some, Addr.add_lit, Nat.add_zero]
  split <;> exact h
theorem wpList_sliceAny (hP : LsP P T Te n) {x : Operand} {lo hi : Option Operand} (ho : o.op = .slice T x lo hi none) (hgd : Region.wanted o (yielded ops a.tmps) = true) {ad : Option Addr} {k c : Nat} (hx : a.eval x = .slice ad k c)
    {l r : Nat} (hb : (Instr.sliceBounds true k c (lo.map a.eval) (hi.map a.eval) none).run P w = .ok (l, r, c) w)
    (h : ∀ ad', wpList P ops Q rest (a.put o.dst (.slice ad' (r - l) (c - l))) w) : wpList P ops Q (o :: rest) a w :=
  BigFrame.wpList_want hgd fun _ hK => wp_sliceAny hP ho hx rfl rfl hb fun ad' => hK _ _ (h ad')
theorem wpList_sliceFrom (hP : LsP P T Te n) {x : Operand} {lo hi : Option Operand} (ho : o.op = .slice T x lo hi none) (hgd : Region.wanted o (yielded ops a.tmps) = true) {g off k c : Nat} (hx : a.eval x = .slice (some ⟨g, off, none⟩) k c)
    {l r : Nat} (hb : (Instr.sliceBounds true k c (lo.map a.eval) (hi.map a.eval) none).run P w = .ok (l, r, c) w) (hne : c ≠ l)
    (h : wpList P ops Q rest (a.put o.dst (.slice (some ⟨g, off + l * n, none⟩) (r - l) (c - l))) w) : wpList P ops Q (o :: rest) a w :=
  BigFrame.wpList_want hgd fun _ hK => wp_sliceFrom hP ho hx rfl rfl hb hne (hK _ _ h)
theorem wpList_sliceTo (hP : LsP P T Te n) {x : Operand} {hi : Option Operand} (ho : o.op = .slice T x none hi none) (hgd : Region.wanted o (yielded ops a.tmps) = true) {g off k c : Nat} (hx : a.eval x = .slice (some ⟨g, off, none⟩) k c)
    {r : Nat} (hb : (Instr.sliceBounds true k c none (hi.map a.eval) none).run P w = .ok (0, r, c) w)
    (h : wpList P ops Q rest (a.put o.dst (.slice (some ⟨g, off, none⟩) r c)) w) : wpList P ops Q (o :: rest) a w :=
  BigFrame.wpList_want hgd fun _ hK => wp_sliceTo hP ho hx rfl hb (hK _ _ h)
theorem run_copyRaw (hP : LsP P T Te n) (w : World) (ty : TypeId) {sa : Addr} {nx cx : Nat} {cs : List Value} {g off dl dc : Nat} {cur : Array Value} {t : TypeId}
    (hg : w.heap[g]? = some (.cells cur t (0, 0))) (hl : cs.length = min nx dl * n) (hc : ∀ j u, cs[j]? = some u → w.cell? (sa.add j) = some u) (h1 : ∀ u ∈ cs, u.oneCell' = true) (hfit : off + cs.length ≤ cur.size) :
    (Builtin.copy_ #[T, T] ty #[.slice (some ⟨g, off, none⟩) dl dc, .slice (some sa) nx cx]).run P w = .ok (.int .i64 (min nx dl : Nat)) (w.setRow g (cur.toList.take off ++ cs ++ cur.toList.drop (off + cs.length)).toArray) := by
  obtain ⟨i, hi, hsz⟩ := hP.info
  have hst := run_storeCells_at P g off t cs 0 cur w hg (by simpa using hfit) h1
  simp only [Nat.add_zero] at hst
  have hfc : (Builtin.firstCells n (Nat.min nx dl) (.slice (some sa) nx cx)).run P w = .ok cs.toArray w := by
    have := run_loadCells_list (P := P) w sa cs hc
    rw [hl] at this
    simpa [Builtin.firstCells] using this
  simp [Builtin.copy_, run_underlying hP.hT, Builtin.lenOf, sizeOf, typeInfo, hi, hsz, hfc, hst, goInt]
theorem wp_copyRaw (hP : LsP P T Te n) {d s : Operand} (ho : o.op = .call { callee := .builtin .copy, args := #[d, s], argTypes := #[T, T] }) {sa : Addr} {nx cx : Nat} {cs : List Value} {g off dl dc : Nat} {cur : Array Value} {t : TypeId} (hd : a.eval d = .slice (some ⟨g, off, none⟩) dl dc) (hs : a.eval s = .slice (some sa) nx cx)
    (hg : w.heap[g]? = some (.cells cur t (0, 0))) (hl : cs.length = min nx dl * n) (hc : ∀ j u, cs[j]? = some u → w.cell? (sa.add j) = some u) (h1 : ∀ u ∈ cs, u.oneCell' = true) (hfit : off + cs.length ≤ cur.size)
    (h : ∀ w', w'.heap[g]? = some (.cells (cur.toList.take off ++ cs ++ cur.toList.drop (off + cs.length)).toArray t (0, 0)) → w.grownBy w' (some g) → K (a.put o.dst (.int .i64 (min nx dl : Nat))) w') : o.wp P a w K Q := by
  have hr := run_copyRaw hP w o.type hg hl hc h1 hfit (dc := dc) (cx := cx)
  unfold Oper.wp execOp
  simp only [ho, resolve, invoke, builtin, Sem.run_bind, Sem.run_pure, Result.andThen_ok, List.map_toArray, List.map_cons, List.map_nil, hd, hs, hr]
  exact h _ (setRow_heap _ _ _ _ _ _ hg) (grown_setRow _ _ _)
theorem wpList_copyRaw (hP : LsP P T Te n) {d s : Operand} (ho : o.op = .call { callee := .builtin .copy, args := #[d, s], argTypes := #[T, T] }) (hgd : Region.wanted o (yielded ops a.tmps) = true) {sa : Addr} {nx cx : Nat} {cs : List Value} {g off dl dc : Nat} {cur : Array Value} {t : TypeId} (hd : a.eval d = .slice (some ⟨g, off, none⟩) dl dc) (hs : a.eval s = .slice (some sa) nx cx)
    (hg : w.heap[g]? = some (.cells cur t (0, 0))) (hl : cs.length = min nx dl * n) (hc : ∀ j u, cs[j]? = some u → w.cell? (sa.add j) = some u) (h1 : ∀ u ∈ cs, u.oneCell' = true) (hfit : off + cs.length ≤ cur.size)
    (h : ∀ w', w'.heap[g]? = some (.cells (cur.toList.take off ++ cs ++ cur.toList.drop (off + cs.length)).toArray t (0, 0)) → w.grownBy w' (some g) → wpList P ops Q rest (a.put o.dst (.int .i64 (min nx dl : Nat))) w') : wpList P ops Q (o :: rest) a w :=
  BigFrame.wpList_want hgd fun _ hK => wp_copyRaw hP ho hd hs hg hl hc h1 hfit fun w' h2 h3 => hK _ _ (h w' h2 h3)
theorem run_appFit (hP : LsP P T Te n) (w : World) (ty : TypeId) {g k cap : Nat} {cur : Array Value} {t : TypeId} {sa : Addr} {m c : Nat} {cs : List Value} (hg : w.heap[g]? = some (.cells cur t (0, 0))) (hl : cs.length = m * n) (hc : ∀ j u, cs[j]? = some u → w.cell? (sa.add j) = some u)
    (h1 : ∀ u ∈ cs, u.oneCell' = true) (hroom : k + m ≤ cap) (hfit : k * n + cs.length ≤ cur.size) :
    (Builtin.append_ #[T, T] ty #[.slice (some ⟨g, 0, none⟩) k cap, .slice (some sa) m c]).run P w = .ok (.slice (some ⟨g, 0, none⟩) (k + m) cap) (w.setRow g (cur.toList.take (k * n) ++ cs ++ cur.toList.drop (k * n + cs.length)).toArray) := by
  obtain ⟨i, hi, hsz⟩ := hP.info
  have hst := run_storeCells_at P g (k * n) t cs 0 cur w hg (by simpa using hfit) h1
  simp only [Nat.add_zero] at hst
  have hfc : (Builtin.firstCells n m (.slice (some sa) m c)).run P w = .ok cs.toArray w := by
    have := run_loadCells_list (P := P) w sa cs hc
    rw [hl] at this
    simpa [Builtin.firstCells] using this
  simp [Builtin.append_, run_underlying hP.hT, sizeOf, typeInfo, hi, hsz, Builtin.lenOf, hroom, hfc, Addr.add_lit, hst]
theorem wp_appFit (hP : LsP P T Te n) {s x : Operand} (ho : o.op = .call { callee := .builtin .append, args := #[s, x], argTypes := #[T, T] }) {g k cap : Nat} {cur : Array Value} {t : TypeId} {sa : Addr} {m c : Nat} {cs : List Value} (hs : a.eval s = .slice (some ⟨g, 0, none⟩) k cap) (hx : a.eval x = .slice (some sa) m c)
    (hg : w.heap[g]? = some (.cells cur t (0, 0))) (hl : cs.length = m * n) (hc : ∀ j u, cs[j]? = some u → w.cell? (sa.add j) = some u)
    (h1 : ∀ u ∈ cs, u.oneCell' = true) (hroom : k + m ≤ cap) (hfit : k * n + cs.length ≤ cur.size)
    (h : ∀ w', w'.heap[g]? = some (.cells (cur.toList.take (k * n) ++ cs ++ cur.toList.drop (k * n + cs.length)).toArray t (0, 0)) → w.grownBy w' (some g) → K (a.put o.dst (.slice (some ⟨g, 0, none⟩) (k + m) cap)) w') : o.wp P a w K Q := by
  have hr := run_appFit hP w o.type hg hl hc h1 hroom hfit (c := c)
  unfold Oper.wp execOp
  simp only [ho, resolve, invoke, builtin, Sem.run_bind, Sem.run_pure, Result.andThen_ok, List.map_toArray, List.map_cons, List.map_nil, hs, hx, hr]
  exact h _ (setRow_heap _ _ _ _ _ _ hg) (grown_setRow _ _ _)
def RowTo (Te : TypeId) (sz : Nat) (w : World) (v : Value) (n' : Nat) (vs' : List Value) (v' : Value) (w' : World) : Prop :=
  RowQ Te sz w' v' n' vs' ∧ w.grownBy w' v.ownBlock ∧ (v'.ownBlock = v.ownBlock ∨ ∃ k, v'.ownBlock = some k ∧ w.heap.size ≤ k)
theorem run_appQ (hP : LoP P T Te n) (h0 : 0 < n) (w : World) (ty : TypeId) {v : Value} {k : Nat} {vs : List Value} (hv : RowQ Te n w v k vs) {p : Addr} {m c : Nat} {cs : List Value} (hl : cs.length = m * n) (hc : ∀ j u, cs[j]? = some u → w.cell? (p.add j) = some u) (h1 : ∀ u ∈ cs, u.oneCell' = true) (hlen : k + m ≤ 1073741824) :
    ∃ v' w', (Builtin.append_ #[T, T] ty #[v, .slice (some p) m c]).run P w = .ok v' w' ∧ RowTo Te n w v (k + m) (vs ++ cs) v' w' := by
  obtain ⟨i, z, hi, hz, hsz, hby, hzs⟩ := hP.all
  obtain ⟨v', w', hr, ho, hg, _, hb⟩ := run_append_own_at (P := P) (w := w) 0 T ty Te i z n i.bytes hP.hT hi hz hsz rfl hzs h0 v k vs hv.1 p m c cs hl hc h1 (by unfold maxLen; omega)
    (by have := Nat.mul_le_mul hlen hby; omega) (Nat.zero_le _)
  exact ⟨v', w', hr, ⟨ho, fun u hu => (List.mem_append.1 hu).elim (hv.2 u) (h1 u)⟩, hg, hb.imp id fun e => ⟨_, e, Nat.le_refl _⟩⟩
theorem wp_appQ (hP : LoP P T Te n) (h0 : 0 < n) {s x : Operand} (ho : o.op = .call { callee := .builtin .append, args := #[s, x], argTypes := #[T, T] }) {v : Value} {k : Nat} {vs : List Value} (hs : a.eval s = v) (hv : RowQ Te n w v k vs) {p : Addr} {m c : Nat} {cs : List Value} (hx : a.eval x = .slice (some p) m c)
    (hl : cs.length = m * n) (hc : ∀ j u, cs[j]? = some u → w.cell? (p.add j) = some u) (h1 : ∀ u ∈ cs, u.oneCell' = true) (hlen : k + m ≤ 1073741824)
    (h : ∀ ad cap w', RowTo Te n w v (k + m) (vs ++ cs) (.slice ad (k + m) cap) w' → K (a.put o.dst (.slice ad (k + m) cap)) w') : o.wp P a w K Q := by
  obtain ⟨v', w', hrun, h2⟩ := run_appQ hP h0 w o.type hv hl hc h1 hlen (c := c)
  obtain ⟨ad, cap, rfl, _⟩ := h2.1.shape
  unfold Oper.wp execOp
  simp only [ho, resolve, invoke, builtin, Sem.run_bind, Sem.run_pure, Result.andThen_ok, List.map_toArray, List.map_cons, List.map_nil, hs, hx, hrun]
  exact h _ _ _ h2
theorem wpList_appQ (hP : LoP P T Te n) (h0 : 0 < n) {s x : Operand} (ho : o.op = .call { callee := .builtin .append, args := #[s, x], argTypes := #[T, T] }) (hgd : Region.wanted o (yielded ops a.tmps) = true) {v : Value} {k : Nat} {vs : List Value} (hs : a.eval s = v) (hv : RowQ Te n w v k vs) {p : Addr} {m c : Nat} {cs : List Value} (hx : a.eval x = .slice (some p) m c)
    (hl : cs.length = m * n) (hc : ∀ j u, cs[j]? = some u → w.cell? (p.add j) = some u) (h1 : ∀ u ∈ cs, u.oneCell' = true) (hlen : k + m ≤ 1073741824)
    (h : ∀ ad cap w', RowTo Te n w v (k + m) (vs ++ cs) (.slice ad (k + m) cap) w' → wpList P ops Q rest (a.put o.dst (.slice ad (k + m) cap)) w') : wpList P ops Q (o :: rest) a w :=
  BigFrame.wpList_want hgd fun _ hK => wp_appQ hP h0 ho hs hv hx hl hc h1 hlen fun ad cap w' h2 => hK _ _ (h ad cap w' h2)
theorem run_appZ (hP : LoP P T Te n) (h0 : 0 < n) {Ti : TypeId} (hTi : P.underlying Ti = some (.int .i64)) (w : World) (ty : TypeId) {p : Option Addr} {k cap : Nat} {cs : List Value} (hl : cs.length = k * n) (hc : ∀ q, p = some q → ∀ j u, cs[j]? = some u → w.cell? (q.add j) = some u) (hm : p = none → k = 0) {m : Nat} (hm0 : 0 < m) (hg : cap < k + m) (hlen : k + m ≤ 1073741824) :
    ∃ (G : Nat) (cur : Array Value), k + m ≤ G ∧ G ≤ maxLen ∧ cur.size = G * n ∧ cur.toList.take (k * n) = cs ∧
      (Builtin.append_ #[T, Ti] ty #[.slice p k cap, .int .i64 m]).run P w = .ok (.slice (some ⟨w.heap.size, 0, none⟩) (k + m) G) (w.drew.alloc (.cells cur Te)) := by
  obtain ⟨i, z, hi, hz, hsz, hby, hzs⟩ := hP.all
  have hold : (Builtin.firstCells i.size k (.slice p k cap)).run P w.drew = .ok cs.toArray w.drew := by
    rw [hsz]
    cases p with
    | none =>
      obtain rfl := hm rfl
      obtain rfl : cs = [] := List.eq_nil_of_length_eq_zero (by omega)
      simp [Builtin.firstCells]
    | some q => exact run_firstCells_some w.drew n k q k cap cs hl (hc q rfl)
  have hbytes : (k + m) * i.bytes ≤ 1073741824 * 4096 := Nat.mul_le_mul hlen hby
  have hmb : m * i.bytes ≤ 1073741824 * 4096 := Nat.mul_le_mul (by omega) hby
  have hr := Lib.run_append_grow_zeros w T Ti ty Te i z .i64 .i64 hP.hT hTi hi hz p k cap cs hold m hm0 (by omega) hg (by omega) (by omega) (growslice_fits hg (by omega))
  refine ⟨_, _, grownCap_ge w (k + m) cap Te, grownCap_le_maxLen w _ _ _ (by unfold maxLen; omega), ?_, ?_, hr⟩
  · have hge := grownCap_ge w (k + m) cap Te
    simp only [Array.size_append, List.size_toArray, size_zeroCells, hzs, hl, ← Nat.add_mul]
    congr 1
    omega
  · simp only [Array.toList_append, List.append_assoc]
    rw [← hl]
    exact List.take_left
theorem wpList_appZ (hP : LoP P T Te n) (h0 : 0 < n) {Ti : TypeId} (hTi : P.underlying Ti = some (.int .i64)) {s x : Operand} (ho : o.op = .call { callee := .builtin .append, args := #[s, x], argTypes := #[T, Ti] }) (hgd : Region.wanted o (yielded ops a.tmps) = true) {p : Option Addr} {k cap m : Nat} {i : Int} (hs : a.eval s = .slice p k cap) (hx : a.eval x = .int .i64 i) (him : i = (m : Int))
    {cs : List Value} (hl : cs.length = k * n) (hc : ∀ q, p = some q → ∀ j u, cs[j]? = some u → w.cell? (q.add j) = some u) (hm : p = none → k = 0) (hm0 : 0 < m) (hg : cap < k + m) (hlen : k + m ≤ 1073741824)
    (h : ∀ (G : Nat) (cur : Array Value), k + m ≤ G → G ≤ maxLen → cur.size = G * n → cur.toList.take (k * n) = cs → wpList P ops Q rest (a.put o.dst (.slice (some ⟨w.heap.size, 0, none⟩) (k + m) G)) (w.drew.alloc (.cells cur Te))) : wpList P ops Q (o :: rest) a w := by
  subst him
  refine BigFrame.wpList_want hgd fun K hK => ?_
  obtain ⟨G, cur, h1, h2, h3, h4, hr⟩ := run_appZ hP h0 hTi w o.type hl hc hm hm0 hg hlen
  unfold Oper.wp execOp
  simp only [ho, resolve, invoke, builtin, Sem.run_bind, Sem.run_pure, Result.andThen_ok, List.map_toArray, List.map_cons, List.map_nil, hs, hx, hr]
  exact hK _ _ (h G cur h1 h2 h3 h4)
theorem run_clearQ (hP : LoP P T Te n) (hz1 : ∀ i z, P.info? Te = some i → i.zero = some z → ∀ u ∈ z.cells.toList, u.oneCell' = true) (w : World) (ty : TypeId) {ad : Option Addr} {m c : Nat} {g off : Nat} {cur : Array Value} {t : TypeId} (hg : w.heap[g]? = some (.cells cur t (0, 0))) (had : m = 0 ∨ ad = some ⟨g, off, none⟩) (hfit : m = 0 ∨ off + m * n ≤ cur.size) :
    ∃ w' cur', (Builtin.clear_ #[T] ty #[.slice ad m c]).run P w = .ok (.tuple #[]) w' ∧ w'.heap[g]? = some (.cells cur' t (0, 0)) ∧ cur'.size = cur.size ∧ (m ≠ 0 → cur'.toList.take off = cur.toList.take off) ∧ (m = 0 → cur' = cur) ∧ w.grownBy w' (some g) := by
  obtain ⟨i, z, hi, hz, hsz, hby, hzs⟩ := hP.all
  by_cases h0 : m = 0
  · subst h0
    refine ⟨w, cur, ?_, hg, rfl, fun _ => rfl, fun _ => rfl, ⟨rfl, rfl, rfl, Nat.le_refl _, fun _ _ _ => rfl⟩⟩
    cases ad <;> simp [Builtin.clear_, run_underlying hP.hT]
  · obtain rfl := had.resolve_left h0
    have hfit := hfit.resolve_left h0
    have hzl : (Builtin.zeroCells z.cells m).toList.length = m * n := by rw [Array.length_toList, size_zeroCells, hzs]
    have h1 : ∀ u ∈ (Builtin.zeroCells z.cells m).toList, u.oneCell' = true := by
      intro u hu
      simp only [Builtin.zeroCells, Array.toList_map, List.mem_map] at hu
      obtain ⟨j, hj, rfl⟩ := hu
      simp only [Array.toList_range, List.mem_range] at hj
      have h2 : 0 < z.cells.size := by
        rcases Nat.eq_zero_or_pos z.cells.size with h | h
        · rw [h, Nat.mul_zero] at hj; omega
        · exact h
      have h3 := Nat.mod_lt j h2
      rw [getElem!_pos z.cells _ h3]
      exact hz1 i z hi hz _ (by simp)
    have hst := run_storeCells_at P g off t _ 0 cur w hg (by rw [hzl]; simpa using hfit) h1
    simp only [Nat.add_zero] at hst
    refine ⟨_, (cur.toList.take off ++ (Builtin.zeroCells z.cells m).toList ++ cur.toList.drop (off + (Builtin.zeroCells z.cells m).toList.length)).toArray, ?_, setRow_heap w g cur _ t _ hg, ?_, ?_, fun h => absurd h h0, grown_setRow _ _ _⟩
    rotate_left
    · simp only [List.size_toArray, List.length_append, List.length_take, List.length_drop, hzl, Array.length_toList]
      omega
    · intro _
      simp only [List.append_assoc]
      rw [List.take_append_of_le_length (by rw [List.length_take, Array.length_toList]; omega), List.take_take, Nat.min_self]
    · obtain ⟨m', rfl⟩ : ∃ m', m = m' + 1 := ⟨m - 1, by omega⟩
      have hzv : (zeroValue Te).run P w = .ok z w := by simp [zeroValue, typeInfo, hi, hz]
      simp only [Builtin.clear_, List.getElem?_toArray, List.getElem?_cons_zero, Sem.run_bind, run_underlying hP.hT, Result.andThen_ok, hzv, hst, Sem.run_pure]
end
end Go.Proofs.Yticngbgjfdcnhaa
