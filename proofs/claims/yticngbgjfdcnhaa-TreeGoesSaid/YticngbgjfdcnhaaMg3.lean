/-
  TEXTS OF ONE PROOF, merged: VerX, Ltb, TreM, TreN, TreO, Tre, TreF, TreP, TreX.
-/
import Derived.Test.YticngbgjfdcnhaaMg2
namespace Go.Proofs.Yticngbgjfdcnhaa
open Go.RowKit
def smallV (l : List Ver) : Prop := l.length ≤ 1000 ∧ ∀ x ∈ l, x.value.length ≤ 1000
def VersNew (w : World) (l : List Ver) (e : Ending) (w' : World) : Prop :=
  ∃ a c, e = .returned (.slice a l.length c) ∧ RdL Elt.ver (fun k => w.heap.size ≤ k ∧ k < w'.heap.size) w' (.slice a l.length c) l ∧ Below w.heap.size w w'
end Go.Proofs.Yticngbgjfdcnhaa
namespace Go.Proofs.Yticngbgjfdcnhaa
def ltB (a b : List UInt8) : Bool := Op.bytesLess a b
theorem ltB_irrefl : ∀ a, ltB a a = false
  | [] => rfl
  | x :: a => by
    have h := ltB_irrefl a
    unfold ltB at h ⊢
    simp [Op.bytesLess, h]
theorem ltB_trans : ∀ {a b c}, ltB a b = true → ltB b c = true → ltB a c = true
  | _, [], _, h, _ => by cases ‹List UInt8› <;> simp [ltB, Op.bytesLess] at h
  | _, _ :: _, [], _, h => by simp [ltB, Op.bytesLess] at h
  | [], _ :: _, _ :: _, _, _ => rfl
  | x :: a, y :: b, z :: c, h, k => by
    simp only [ltB, Op.bytesLess, Bool.or_eq_true, decide_eq_true_eq, Bool.and_eq_true, beq_iff_eq] at h k ⊢
    rcases h with h | ⟨rfl, h⟩
    · rcases k with k | ⟨rfl, k⟩
      · exact .inl (UInt8.lt_trans h k)
      · exact .inl h
    · rcases k with k | ⟨rfl, k⟩
      · exact .inl k
      · exact .inr ⟨rfl, ltB_trans (a := a) (b := b) (c := c) h k⟩
theorem ltB_total : ∀ {a b}, a ≠ b → ltB a b = false → ltB b a = true
  | [], [], h, _ => absurd rfl h
  | [], _ :: _, _, h => by simp [ltB, Op.bytesLess] at h
  | _ :: _, [], _, _ => rfl
  | x :: a, y :: b, hne, h => by
    simp only [ltB, Op.bytesLess, Bool.or_eq_false_iff, Bool.and_eq_false_iff, decide_eq_false_iff_not, beq_eq_false_iff_ne, Bool.or_eq_true, decide_eq_true_eq, Bool.and_eq_true, beq_iff_eq] at h ⊢
    obtain ⟨h1, h2⟩ := h
    by_cases hxy : x = y
    · subst hxy
      rcases h2 with h2 | h2
      · exact absurd rfl h2
      · exact .inr ⟨rfl, ltB_total (a := a) (b := b) (fun e => hne (by rw [e])) h2⟩
    · refine .inl ?_
      rcases UInt8.lt_or_lt_of_ne (a := x) (b := y) hxy with h3 | h3
      · exact absurd h3 h1
      · exact h3
theorem ltB_asymm {a b : List UInt8} (h : ltB a b = true) : ltB b a = false := by
  cases hb : ltB b a with
  | false => rfl
  | true => rw [← ltB_irrefl a]; exact (ltB_trans h hb).symm
theorem ltB_ne {a b : List UInt8} (h : ltB a b = true) : a ≠ b := fun e => by subst e; rw [ltB_irrefl] at h; cases h
end Go.Proofs.Yticngbgjfdcnhaa
namespace Go.Proofs.Yticngbgjfdcnhaa
structure Pr where
  key : List UInt8
  chain : List Ver
deriving DecidableEq
inductive Nd where
  | mk : List (List UInt8) → List (List Ver) → List Nd → Nd
def Nd.keys : Nd → List (List UInt8) | .mk a _ _ => a
def Nd.chains : Nd → List (List Ver) | .mk _ b _ => b
def Nd.kids : Nd → List Nd | .mk _ _ c => c
def allD : List Int → Int
  | [] => -1
  | d :: r => if (∀ x ∈ r, x = d) ∧ 0 ≤ d then d + 1 else -1
mutual
def formI : Nd → Bool → Int
  | .mk ks cs ns, root => if cs.length ≠ ks.length ∨ 3 < ks.length ∨ (root = false ∧ ks.length < 1) then -1 else if ns.length = 0 then 1 else if ns.length ≠ ks.length + 1 ∨ ks.length < 1 then -1 else allD (formL ns)
def formL : List Nd → List Int
  | [] => []
  | n :: ns => formI n false :: formL ns
end
def wv (ps : List (List Pr)) (ks : List (List UInt8)) (cs : List (List Ver)) : Nat → List Pr
  | 0 => []
  | i + 1 => wv ps ks cs i ++ ps.getD i [] ++ [⟨ks.getD i [], cs.getD i []⟩]
mutual
def pairsN : Nd → List Pr
  | .mk ks cs ns => wv (pairsL ns) ks cs ks.length ++ (pairsL ns).getD (ns.length - 1) []
def pairsL : List Nd → List (List Pr)
  | [] => []
  | n :: ns => pairsN n :: pairsL ns
end
theorem formL_map : ∀ ns, formL ns = ns.map (formI · false)
  | [] => by simp [formL]
  | n :: ns => by simp [formL, formL_map ns]
theorem pairsL_map : ∀ ns, pairsL ns = ns.map pairsN
  | [] => by simp [pairsL]
  | n :: ns => by simp [pairsL, pairsL_map ns]
def okP (l : List Pr) : Prop := ∀ i (h : i < l.length), okV l[i].chain ∧ l[i].chain ≠ [] ∧ l[i].key.length ≤ 16 ∧ (0 < i → ltB l[i - 1].key l[i].key = true)
instance (l : List Pr) : Decidable (okP l) := by unfold okP; infer_instance
def okN (n : Nd) : Prop := 0 ≤ formI n true ∧ okP (pairsN n)
instance (n : Nd) : Decidable (okN n) := by unfold okN; infer_instance
def prN (n : Nd) : List Pr := if okN n then pairsN n else []
def depN (n : Nd) : Int := if okN n then formI n true else 0
def putGo (k : List UInt8) (c : List Ver) : Bool → List Pr → List Pr
  | true, [] => []
  | false, [] => [⟨k, c⟩]
  | true, p :: l => (if k = p.key then [] else [p]) ++ putGo k c true l
  | false, p :: l => if ltB k p.key || decide (k = p.key) then ⟨k, c⟩ :: ((if k = p.key then [] else [p]) ++ putGo k c true l) else p :: putGo k c false l
def putP (l : List Pr) (k : List UInt8) (c : List Ver) : List Pr := putGo k c false l
def delP (l : List Pr) (k : List UInt8) : List Pr := l.filter (fun p => !decide (p.key = k))
def findP (l : List Pr) (k : List UInt8) : Option (List Ver) := (l.find? fun p => decide (p.key = k)).map (·.chain)
def nextP (l : List Pr) (k : List UInt8) : Option (List UInt8) := (l.find? fun p => !ltB p.key k).map (·.key)
end Go.Proofs.Yticngbgjfdcnhaa
namespace Go.Proofs.Yticngbgjfdcnhaa
def Srt (l : List Pr) : Prop := l.Pairwise fun a b => ltB a.key b.key = true
def goodP (p : Pr) : Prop := okV p.chain ∧ p.chain ≠ [] ∧ p.key.length ≤ 16
theorem srt_get {l : List Pr} (h : Srt l) {i j : Nat} (hij : i < j) (hj : j < l.length) : ltB (l[i]'(by omega)).key l[j].key = true := List.pairwise_iff_getElem.1 h i j (by omega) hj hij
theorem okP_iff (l : List Pr) : okP l ↔ (∀ p ∈ l, goodP p) ∧ Srt l := by
  constructor
  · intro h
    refine ⟨fun p hp => ?_, List.pairwise_iff_getElem.2 ?_⟩
    · obtain ⟨i, hi, rfl⟩ := List.mem_iff_getElem.1 hp
      have := h i hi
      exact ⟨this.1, this.2.1, this.2.2.1⟩
    · have key : ∀ d i (h2 : i + d + 1 < l.length), ltB (l[i]'(by omega)).key l[i + d + 1].key = true := by
        intro d
        induction d with
        | zero => intro i h2; exact (h (i + 1) h2).2.2.2 (by omega)
        | succ d ih => intro i h2; exact ltB_trans (ih i (by omega)) ((h (i + (d + 1) + 1) h2).2.2.2 (by omega))
      intro i j hi hj hij
      have := key (j - i - 1) i (by omega)
      simpa [show i + (j - i - 1) + 1 = j by omega] using this
  · rintro ⟨h1, h2⟩ i hi
    have := h1 _ (List.getElem_mem hi)
    exact ⟨this.1, this.2.1, this.2.2, fun h0 => srt_get h2 (by omega) hi⟩
theorem findP_nil (k : List UInt8) : findP [] k = none := rfl
theorem findP_cons (p : Pr) (l : List Pr) (k : List UInt8) : findP (p :: l) k = if p.key = k then some p.chain else findP l k := by
  unfold findP
  by_cases h : p.key = k <;> simp [h]
theorem findP_lt {l : List Pr} {k : List UInt8} (h : ∀ p ∈ l, ltB k p.key = true) : findP l k = none := by
  induction l with
  | nil => rfl
  | cons p l ih =>
    rw [findP_cons, if_neg (fun e => ltB_ne (h p (by simp)) e.symm)]
    exact ih fun q hq => h q (by simp [hq])
theorem findP_some {l : List Pr} {k : List UInt8} {c : List Ver} (h : findP l k = some c) : ∃ p ∈ l, p.key = k ∧ p.chain = c := by
  induction l with
  | nil => cases h
  | cons p l ih =>
    rw [findP_cons] at h
    by_cases e : p.key = k
    · rw [if_pos e] at h; injection h with h; exact ⟨p, by simp, e, h⟩
    · rw [if_neg e] at h
      obtain ⟨q, hq, h2⟩ := ih h
      exact ⟨q, by simp [hq], h2⟩
theorem findP_mem {l : List Pr} (hs : Srt l) {p : Pr} (hp : p ∈ l) : findP l p.key = some p.chain := by
  induction l with
  | nil => cases hp
  | cons q l ih =>
    have hs' := List.pairwise_cons.1 hs
    rw [findP_cons]
    rcases List.mem_cons.1 hp with rfl | h
    · rw [if_pos rfl]
    · rw [if_neg (ltB_ne (hs'.1 p h)), ih hs'.2 h]
def insP (k : List UInt8) (c : List Ver) : List Pr → List Pr
  | [] => [⟨k, c⟩]
  | p :: l => if k = p.key then ⟨k, c⟩ :: l else if ltB k p.key then ⟨k, c⟩ :: p :: l else p :: insP k c l
theorem putGo_true {k : List UInt8} {c : List Ver} : ∀ {l : List Pr}, (∀ p ∈ l, k ≠ p.key) → putGo k c true l = l
  | [], _ => by simp [putGo]
  | p :: l, h => by
    rw [putGo, if_neg (h p (by simp)), putGo_true fun q hq => h q (by simp [hq])]
    rfl
theorem putP_ins {k : List UInt8} {c : List Ver} : ∀ {l : List Pr}, Srt l → putP l k c = insP k c l
  | [], _ => by simp [putP, putGo, insP]
  | p :: l, hs => by
    have hs' := List.pairwise_cons.1 hs
    have ih := putP_ins (k := k) (c := c) hs'.2
    unfold putP at ih ⊢
    rw [putGo, insP]
    by_cases h : k = p.key
    · subst h
      rw [if_pos (by simp), if_pos rfl, if_pos rfl, putGo_true fun q hq => ltB_ne (hs'.1 q hq)]
      rfl
    · rw [if_neg h, if_neg h]
      by_cases h2 : ltB k p.key = true
      · rw [if_pos (by simp [h2]), if_pos h2, putGo_true fun q hq => ltB_ne (ltB_trans h2 (hs'.1 q hq))]
        rfl
      · rw [if_neg (by simp [h2, h]), if_neg h2, ih]
theorem ins_find {k k' : List UInt8} {c : List Ver} : ∀ (l : List Pr), findP (insP k c l) k' = if k = k' then some c else findP l k'
  | [] => by rw [insP, findP_cons]
  | p :: l => by
    have ih := ins_find (k := k) (k' := k') (c := c) l
    rw [insP]
    by_cases h : k = p.key
    · rw [if_pos h, findP_cons, findP_cons]
      by_cases h2 : k = k'
      · simp [h2]
      · rw [if_neg h2, if_neg h2, if_neg (by rw [← h]; exact h2)]
    · rw [if_neg h]
      by_cases h2 : ltB k p.key = true
      · rw [if_pos h2, findP_cons]
      · rw [if_neg h2, findP_cons, ih, findP_cons]
        by_cases h3 : p.key = k'
        · rw [if_pos h3, if_pos h3, if_neg (fun e => h (by rw [e, h3]))]
        · rw [if_neg h3, if_neg h3]
theorem ins_mem {k : List UInt8} {c : List Ver} : ∀ {l : List Pr} {q : Pr}, q ∈ insP k c l → q = ⟨k, c⟩ ∨ q ∈ l
  | [], q, h => by simp [insP] at h; exact .inl h
  | p :: l, q, h => by
    rw [insP] at h
    by_cases h1 : k = p.key
    · rw [if_pos h1] at h
      rcases List.mem_cons.1 h with h | h
      · exact .inl h
      · exact .inr (by simp [h])
    · rw [if_neg h1] at h
      by_cases h2 : ltB k p.key = true
      · rw [if_pos h2] at h
        rcases List.mem_cons.1 h with h | h
        · exact .inl h
        · exact .inr h
      · rw [if_neg h2] at h
        rcases List.mem_cons.1 h with h | h
        · exact .inr (by simp [h])
        · rcases ins_mem h with h | h
          · exact .inl h
          · exact .inr (by simp [h])
theorem ins_srt {k : List UInt8} {c : List Ver} : ∀ {l : List Pr}, Srt l → Srt (insP k c l)
  | [], _ => by simp [insP, Srt]
  | p :: l, hs => by
    have hs' := List.pairwise_cons.1 hs
    rw [insP]
    by_cases h : k = p.key
    · rw [if_pos h]
      exact List.pairwise_cons.2 ⟨fun q hq => by rw [show (Pr.mk k c).key = p.key from h]; exact hs'.1 q hq, hs'.2⟩
    · rw [if_neg h]
      by_cases h2 : ltB k p.key = true
      · rw [if_pos h2]
        refine List.pairwise_cons.2 ⟨fun q hq => ?_, hs⟩
        rcases List.mem_cons.1 hq with rfl | hq
        · exact h2
        · exact ltB_trans h2 (hs'.1 q hq)
      · rw [if_neg h2]
        refine List.pairwise_cons.2 ⟨fun q hq => ?_, ins_srt hs'.2⟩
        rcases ins_mem hq with rfl | hq
        · exact ltB_total h (by simpa using h2)
        · exact hs'.1 q hq
theorem ins_len {k : List UInt8} {c : List Ver} : ∀ {l : List Pr}, Srt l → (insP k c l).length = if (findP l k).isSome then l.length else l.length + 1
  | [], _ => by simp [insP, findP_nil]
  | p :: l, hs => by
    have hs' := List.pairwise_cons.1 hs
    have ih := ins_len (k := k) (c := c) hs'.2
    rw [insP, findP_cons]
    by_cases h : k = p.key
    · rw [if_pos h, if_pos h.symm]; simp
    · have h' : ¬ p.key = k := fun e => h e.symm
      rw [if_neg h, if_neg h']
      by_cases h2 : ltB k p.key = true
      · rw [if_pos h2, findP_lt fun q hq => ltB_trans h2 (hs'.1 q hq)]; simp
      · rw [if_neg h2, List.length_cons, ih, List.length_cons]; split <;> omega
theorem del_find {k k' : List UInt8} : ∀ (l : List Pr), findP (delP l k) k' = if k = k' then none else findP l k'
  | [] => by simp [delP, findP_nil]
  | p :: l => by
    have ih := del_find (k := k) (k' := k') l
    unfold delP at ih ⊢
    rw [List.filter_cons]
    by_cases h : p.key = k
    · simp only [h, decide_true, Bool.not_true, Bool.false_eq_true, if_false]
      rw [ih, findP_cons]
      by_cases h2 : k = k'
      · rw [if_pos h2, if_pos h2]
      · rw [if_neg h2, if_neg h2, if_neg (by rw [h]; exact h2)]
    · simp only [h, decide_false, Bool.not_false, if_true]
      rw [findP_cons, findP_cons, ih]
      by_cases h2 : k = k'
      · rw [if_pos h2, if_pos h2, if_neg (by rw [← h2]; exact h)]
      · rw [if_neg h2, if_neg h2]
theorem del_srt {k : List UInt8} {l : List Pr} (h : Srt l) : Srt (delP l k) := List.Pairwise.filter _ h
theorem del_mem {k : List UInt8} {l : List Pr} {q : Pr} (h : q ∈ delP l k) : q ∈ l := (List.mem_filter.1 h).1
theorem del_len {k : List UInt8} : ∀ {l : List Pr}, Srt l → (delP l k).length + (if (findP l k).isSome then 1 else 0) = l.length
  | [], _ => by simp [delP, findP_nil]
  | p :: l, hs => by
    have hs' := List.pairwise_cons.1 hs
    have ih := del_len (k := k) hs'.2
    rw [findP_cons]
    unfold delP at ih ⊢
    rw [List.filter_cons]
    by_cases h : p.key = k
    · subst h
      have hn : findP l p.key = none := findP_lt fun q hq => hs'.1 q hq
      rw [hn] at ih
      simp at ih ⊢
      exact ih
    · simp only [h, decide_false, Bool.not_false, if_true, if_false, List.length_cons]
      omega
theorem srt_ext : ∀ {a b : List Pr}, Srt a → Srt b → (∀ k, findP a k = findP b k) → a = b
  | [], [], _, _, _ => rfl
  | [], q :: b, _, _, h => by have := h q.key; rw [findP_nil, findP_cons, if_pos rfl] at this; cases this
  | p :: a, [], _, _, h => by have := h p.key; rw [findP_nil, findP_cons, if_pos rfl] at this; cases this
  | p :: a, q :: b, ha, hb, h => by
    have ha' := List.pairwise_cons.1 ha
    have hb' := List.pairwise_cons.1 hb
    have hk : p.key = q.key := by
      have h1 := h p.key
      have h2 := h q.key
      rw [findP_cons, if_pos rfl] at h1
      rw [findP_cons q b q.key, if_pos rfl] at h2
      obtain ⟨x, hx, hx2, _⟩ := findP_some h1.symm
      obtain ⟨y, hy, hy2, _⟩ := findP_some h2
      rcases List.mem_cons.1 hx with rfl | hx
      · exact hx2.symm
      · rcases List.mem_cons.1 hy with rfl | hy
        · exact hy2
        · have e1 := hb'.1 x hx
          have e2 := ha'.1 y hy
          rw [hx2] at e1
          rw [hy2] at e2
          rw [ltB_asymm e1] at e2
          cases e2
    have hc : p.chain = q.chain := by
      have := h p.key
      rw [findP_cons, if_pos rfl, findP_cons, if_pos hk.symm] at this
      injection this
    have ht : a = b := srt_ext ha'.2 hb'.2 fun k => by
      by_cases e : p.key = k
      · rw [findP_lt fun x hx => by rw [← e]; exact ha'.1 x hx, findP_lt fun x hx => by rw [← e, hk]; exact hb'.1 x hx]
      · have := h k
        rw [findP_cons, if_neg e, findP_cons, if_neg (by rw [← hk]; exact e)] at this
        exact this
    subst ht
    cases p; cases q
    simp only at hk hc
    subst hk; subst hc
    rfl
theorem put_okP {l : List Pr} (h : okP l) {k : List UInt8} {c : List Ver} (hk : k.length ≤ 16) (hc : okV c) (hc0 : c ≠ []) : okP (putP l k c) := by
  obtain ⟨h1, h2⟩ := (okP_iff l).1 h
  rw [putP_ins h2]
  refine (okP_iff _).2 ⟨fun p hp => ?_, ins_srt h2⟩
  rcases ins_mem hp with rfl | hp
  · exact ⟨hc, hc0, hk⟩
  · exact h1 p hp
theorem put_find {l : List Pr} (h : Srt l) {k k' : List UInt8} {c : List Ver} : findP (putP l k c) k' = if k = k' then some c else findP l k' := by rw [putP_ins h, ins_find]
theorem put_len {l : List Pr} (h : Srt l) {k : List UInt8} {c : List Ver} : (putP l k c).length = if (findP l k).isSome then l.length else l.length + 1 := by rw [putP_ins h, ins_len h]
theorem put_srt {l : List Pr} (h : Srt l) {k : List UInt8} {c : List Ver} : Srt (putP l k c) := by rw [putP_ins h]; exact ins_srt h
theorem nextP_cons (p : Pr) (l : List Pr) (k : List UInt8) : nextP (p :: l) k = if ltB p.key k then nextP l k else some p.key := by
  unfold nextP
  cases h : ltB p.key k <;> simp [h]
theorem ltB_nil (a : List UInt8) : ltB a [] = false := by cases a <;> rfl
theorem okN_srt {n : Nd} (h : okN n) : Srt (pairsN n) := ((okP_iff _).1 h.2).2
end Go.Proofs.Yticngbgjfdcnhaa
namespace Go.Proofs.Yticngbgjfdcnhaa
mutual
def wN : Nd → Nat
  | .mk ks cs ns => 1 + ks.length + cs.length + ns.length + wL ns
def wL : List Nd → Nat
  | [] => 0
  | n :: ns => wN n + wL ns
end
theorem wL_get : ∀ {ns : List Nd} {n : Nd}, n ∈ ns → wN n ≤ wL ns
  | m :: ns, n, h => by
    rw [wL]
    rcases List.mem_cons.1 h with rfl | h
    · omega
    · have := wL_get h; omega
theorem wN_kid {n m : Nd} (h : m ∈ n.kids) : wN m < wN n := by
  cases n with
  | mk ks cs ns =>
    have := wL_get (show m ∈ ns from h)
    rw [wN]; omega
theorem wN_pos (n : Nd) : 0 < wN n := by cases n; rw [wN]; omega
theorem wN_parts (n : Nd) : n.keys.length ≤ wN n ∧ n.chains.length ≤ wN n ∧ n.kids.length ≤ wN n := by
  cases n with
  | mk ks cs ns => simp only [wN, Nd.keys, Nd.chains, Nd.kids]; omega
theorem formI_def (n : Nd) (root : Bool) : formI n root = if n.chains.length ≠ n.keys.length ∨ 3 < n.keys.length ∨ (root = false ∧ n.keys.length < 1) then -1 else if n.kids.length = 0 then 1 else if n.kids.length ≠ n.keys.length + 1 ∨ n.keys.length < 1 then -1 else allD (n.kids.map (formI · false)) := by
  cases n with
  | mk ks cs ns => rw [formI, formL_map]; rfl
theorem pairsN_def (n : Nd) : pairsN n = wv (n.kids.map pairsN) n.keys n.chains n.keys.length ++ (n.kids.map pairsN).getD (n.kids.length - 1) [] := by
  cases n with
  | mk ks cs ns => rw [pairsN, pairsL_map]; rfl
theorem allD_spec {l : List Int} {d : Int} (h : allD l = d) (hd : 0 ≤ d) : l ≠ [] ∧ 1 ≤ d ∧ ∀ x ∈ l, x = d - 1 := by
  cases l with
  | nil => simp [allD] at h; omega
  | cons y r =>
    simp only [allD] at h
    by_cases hc : (∀ x ∈ r, x = y) ∧ 0 ≤ y
    · rw [if_pos hc] at h
      refine ⟨by simp, by omega, fun x hx => ?_⟩
      rcases List.mem_cons.1 hx with rfl | hx
      · omega
      · have := hc.1 x hx; omega
    · rw [if_neg hc] at h; omega
theorem form_inv {n : Nd} {root : Bool} {d : Int} (h : formI n root = d) (hd : 0 ≤ d) : n.chains.length = n.keys.length ∧ n.keys.length ≤ 3 ∧ (root = false → 1 ≤ n.keys.length) ∧ ((n.kids = [] ∧ d = 1) ∨ (n.kids.length = n.keys.length + 1 ∧ 1 ≤ n.keys.length ∧ 2 ≤ d ∧ ∀ m ∈ n.kids, formI m false = d - 1)) := by
  rw [formI_def] at h
  by_cases h1 : n.chains.length ≠ n.keys.length ∨ 3 < n.keys.length ∨ (root = false ∧ n.keys.length < 1)
  · rw [if_pos h1] at h; omega
  · rw [if_neg h1] at h
    have h1' : n.chains.length = n.keys.length ∧ n.keys.length ≤ 3 ∧ (root = false → 1 ≤ n.keys.length) := by
      refine ⟨?_, ?_, fun hr => ?_⟩
      · exact Decidable.byContradiction fun h => h1 (.inl h)
      · exact Decidable.byContradiction fun h => h1 (.inr (.inl (by omega)))
      · exact Decidable.byContradiction fun h => h1 (.inr (.inr ⟨hr, by omega⟩))
    refine ⟨h1'.1, h1'.2.1, h1'.2.2, ?_⟩
    by_cases h2 : n.kids.length = 0
    · rw [if_pos h2] at h
      exact .inl ⟨List.eq_nil_of_length_eq_zero h2, h.symm⟩
    · rw [if_neg h2] at h
      by_cases h3 : n.kids.length ≠ n.keys.length + 1 ∨ n.keys.length < 1
      · rw [if_pos h3] at h; omega
      · rw [if_neg h3] at h
        obtain ⟨_, h4, h5⟩ := allD_spec h hd
        have h6 : ∀ m ∈ n.kids, formI m false = d - 1 := fun m hm => h5 _ (List.mem_map.2 ⟨m, hm, rfl⟩)
        have h7 : 2 ≤ d := by
          cases hk : n.kids with
          | nil => rw [hk] at h2; exact absurd rfl h2
          | cons m r =>
            have h8 := h6 m (by rw [hk]; simp)
            rcases Int.lt_or_le d 2 with h9 | h9
            · exfalso
              have e : d - 1 = 0 := by omega
              rw [e] at h8
              rw [formI_def] at h8
              split at h8
              · omega
              · split at h8
                · omega
                · split at h8
                  · omega
                  · obtain ⟨_, h10, _⟩ := allD_spec h8 (Int.le_refl _)
                    omega
            · exact h9
        exact .inr ⟨by omega, by omega, h7, h6⟩
theorem wv_len (ps : List (List Pr)) (ks : List (List UInt8)) (cs : List (List Ver)) : ∀ i, (wv ps ks cs i).length = i + ((List.range i).map fun j => (ps.getD j []).length).sum
  | 0 => rfl
  | i + 1 => by
    rw [wv, List.length_append, List.length_append, wv_len ps ks cs i, List.range_succ, List.map_append, List.sum_append]
    simp
    omega
theorem sum_between {a b : Nat} : ∀ {l : List Nat}, (∀ x ∈ l, a ≤ x ∧ x ≤ b) → l.length * a ≤ l.sum ∧ l.sum ≤ l.length * b
  | [], _ => by simp
  | x :: l, h => by
    have h1 := h x (by simp)
    have h2 := sum_between (a := a) (b := b) (l := l) fun y hy => h y (by simp [hy])
    rw [List.length_cons, List.sum_cons, Nat.add_mul, Nat.add_mul]
    omega
theorem pairs_len (n : Nd) (h : n.kids.length = n.keys.length + 1) : (pairsN n).length = n.keys.length + (n.kids.map fun m => (pairsN m).length).sum := by
  rw [pairsN_def, List.length_append, wv_len, h, Nat.add_sub_cancel]
  have e : ((n.kids.map fun m => (pairsN m).length)) = (List.range (n.keys.length + 1)).map fun j => ((n.kids.map pairsN).getD j []).length := by
    apply List.ext_getElem
    · simp [h]
    · intro i h1 h2
      simp at h1
      simp [List.getElem?_eq_getElem h1]
  rw [e, List.range_succ, List.map_append, List.sum_append]
  simp
  omega
theorem pairs_leaf (n : Nd) (h : n.kids = []) : (pairsN n).length = n.keys.length := by
  rw [pairsN_def, h, List.length_append, wv_len]
  have : ∀ i, ((List.range i).map fun j => ((([] : List Nd).map pairsN).getD j []).length).sum = 0 := by
    intro i
    induction i with
    | zero => rfl
    | succ i ih => rw [List.range_succ, List.map_append, List.sum_append, ih]; simp
  rw [this]
  simp
theorem pairs_bounds : ∀ (d : Nat) {n : Nd} {root : Bool}, formI n root = (d : Int) → 1 ≤ d ∧ (pairsN n).length ≤ 4 ^ d - 1 ∧ (2 ^ d - 1 ≤ (pairsN n).length ∨ (root = true ∧ d = 1 ∧ (pairsN n).length = 0))
  | 0, n, root, h => by
    obtain ⟨_, _, _, h1 | h1⟩ := form_inv h (Int.le_refl _)
    · omega
    · omega
  | d + 1, n, root, h => by
    obtain ⟨hc, hk, hr, h1 | h1⟩ := form_inv h (by omega)
    · obtain ⟨h2, h3⟩ := h1
      have hd : d = 0 := by omega
      subst hd
      rw [pairs_leaf n h2]
      refine ⟨Nat.le_refl _, by simpa using hk, ?_⟩
      cases root with
      | false => have := hr rfl; left; simpa using this
      | true =>
        rcases Nat.eq_zero_or_pos n.keys.length with h4 | h4
        · exact .inr ⟨rfl, rfl, h4⟩
        · left; simp only [Nat.zero_add, Nat.pow_one]; omega
    · obtain ⟨h2, h3, h4, h5⟩ := h1
      rw [pairs_len n h2]
      have hb := sum_between (a := 2 ^ d - 1) (b := 4 ^ d - 1) (l := n.kids.map fun m => (pairsN m).length) (fun x hx => by
        obtain ⟨m, hm, rfl⟩ := List.mem_map.1 hx
        have h6 := h5 m hm
        obtain ⟨h7, h8, h9⟩ := pairs_bounds d (root := false) (h6.trans (by omega))
        refine ⟨?_, h8⟩
        rcases h9 with h9 | ⟨h9, _⟩
        · exact h9
        · cases h9)
      rw [List.length_map, h2] at hb
      have p2 : 0 < 2 ^ d := Nat.pow_pos (by omega)
      have p4 : 0 < 4 ^ d := Nat.pow_pos (by omega)
      have e2 : 2 ^ (d + 1) = 2 * 2 ^ d := by rw [Nat.pow_succ]; omega
      have e4 : 4 ^ (d + 1) = 4 * 4 ^ d := by rw [Nat.pow_succ]; omega
      refine ⟨by omega, ?_, .inl ?_⟩
      · have := Nat.mul_le_mul_right (4 ^ d - 1) (show n.keys.length + 1 ≤ 4 by omega)
        omega
      · have := Nat.mul_le_mul_right (2 ^ d - 1) (show 2 ≤ n.keys.length + 1 by omega)
        omega
theorem weight_pairs : ∀ (N : Nat) {n : Nd} {root : Bool}, wN n ≤ N → 0 ≤ formI n root → wN n ≤ 5 * (pairsN n).length + 1 ∧ (root = false → wN n + 2 ≤ 5 * (pairsN n).length)
  | 0, n, _, h, _ => by have := wN_pos n; omega
  | N + 1, n, root, hN, hd => by
    obtain ⟨hc, hk, hr, h1 | h1⟩ := form_inv rfl hd
    · rw [pairs_leaf n h1.1]
      have hw : wN n = 1 + n.keys.length + n.chains.length := by
        cases n with
        | mk ks cs ns =>
          have : ns = [] := h1.1
          subst this
          simp [wN, wL, Nd.keys, Nd.chains]
      rw [hw, hc]
      refine ⟨by omega, fun h => ?_⟩
      have := hr h
      omega
    · obtain ⟨h2, h3, h4, h5⟩ := h1
      rw [pairs_len n h2]
      have hw : wN n = 1 + n.keys.length + n.chains.length + n.kids.length + wL n.kids := by cases n; rw [wN]; rfl
      have hs : ∀ ns : List Nd, (∀ m ∈ ns, m ∈ n.kids) → wL ns + 2 * ns.length ≤ 5 * (ns.map fun m => (pairsN m).length).sum := by
        intro ns
        induction ns with
        | nil => intro _; simp [wL]
        | cons m r ih =>
          intro hm
          have h6 := ih fun x hx => hm x (by simp [hx])
          have h7 := hm m (by simp)
          have h8 := wN_kid h7
          have h9 := (weight_pairs N (n := m) (root := false) (by omega) (by rw [h5 m h7]; omega)).2 rfl
          rw [wL, List.map_cons, List.sum_cons, List.length_cons]
          omega
      have h6 := hs n.kids fun _ h => h
      rw [hw, hc]
      refine ⟨by omega, fun _ => by omega⟩
end Go.Proofs.Yticngbgjfdcnhaa
namespace Go.Proofs.Yticngbgjfdcnhaa
open Go.RowKit
theorem RdL.imp {α : Type} {E F : Elt α} {S : Nat → Prop} {w : World} {v : Value} {xs : List α} (h : RdL E S w v xs) (hs : F.size = E.size) (hi : ∀ x ∈ xs, ∀ vs, E.R S w x vs → F.R S w x vs) : RdL F S w v xs := by
  obtain ⟨a, cap, h1, h2, h3, h4⟩ := h
  refine ⟨a, cap, h1, h2, h3, h4.imp id fun ⟨b, off, e, hb, hr⟩ => ⟨b, off, e, hb, fun r h => ?_⟩⟩
  obtain ⟨vs, hR, hc⟩ := hr r h
  exact ⟨vs, hi _ (List.getElem_mem h) vs hR, by rw [hs]; exact hc⟩
def Elt.pair : Elt Pr where
  size := 2
  pos := by omega
  R S w x vs := ∃ u v, vs = [u, v] ∧ RdS S w u x.key ∧ RdL Elt.ver S w v x.chain
  len := by rintro _ _ _ _ ⟨_, _, rfl, _⟩; rfl
  keep := by rintro _ _ _ _ _ ⟨u, v, rfl, h, h2⟩ hk; exact ⟨u, v, rfl, h.keep hk, h2.keep hk⟩
  weak := by rintro _ _ _ _ _ ⟨u, v, rfl, h, h2⟩ hk; exact ⟨u, v, rfl, h.weak hk, h2.weak hk⟩
  fit := by rintro _ _ _ _ ⟨u, v, rfl, h, h2⟩; exact ⟨u, v, rfl, h.fit, h2.fit⟩
  one := by
    rintro _ _ _ _ ⟨u, v, rfl, h, h2⟩ x hx
    have h1 := h.one
    obtain ⟨_, _, rfl, _⟩ := h2.shape
    simp only [List.mem_cons, List.not_mem_nil, or_false] at hx
    rcases hx with rfl | rfl
    · exact h1
    · rfl
def Elt.node (E : Elt Nd) : Elt Nd where
  size := 3
  pos := by omega
  R S w n vs := ∃ v1 v2 v3, vs = [v1, v2, v3] ∧ RdL Elt.bytes S w v1 n.keys ∧ RdL (Elt.list Elt.ver) S w v2 n.chains ∧ RdL E S w v3 n.kids
  len := by rintro _ _ _ _ ⟨_, _, _, rfl, _⟩; rfl
  keep := by rintro _ _ _ _ _ ⟨v1, v2, v3, rfl, h1, h2, h3⟩ hk; exact ⟨v1, v2, v3, rfl, h1.keep hk, h2.keep hk, h3.keep hk⟩
  weak := by rintro _ _ _ _ _ ⟨v1, v2, v3, rfl, h1, h2, h3⟩ hk; exact ⟨v1, v2, v3, rfl, h1.weak hk, h2.weak hk, h3.weak hk⟩
  fit := by rintro _ _ _ _ ⟨v1, v2, v3, rfl, h1, h2, h3⟩; exact ⟨v1, v2, v3, rfl, h1.fit, h2.fit, h3.fit⟩
  one := by
    rintro _ _ _ _ ⟨v1, v2, v3, rfl, h1, h2, h3⟩ u hu
    obtain ⟨_, _, rfl, _⟩ := h1.shape
    obtain ⟨_, _, rfl, _⟩ := h2.shape
    obtain ⟨_, _, rfl, _⟩ := h3.shape
    simp only [List.mem_cons, List.not_mem_nil, or_false] at hu
    rcases hu with rfl | rfl | rfl <;> rfl
def eltN : Nat → Elt Nd
  | 0 => { size := 3, pos := by omega, R := fun _ _ _ _ => False, len := fun h => h.elim, keep := fun h _ => h, weak := fun h _ => h, fit := fun h => h, one := fun h => h.elim }
  | d + 1 => Elt.node (eltN d)
theorem eltN_size : ∀ d, (eltN d).size = 3
  | 0 => rfl
  | _ + 1 => rfl
theorem eltN_succ {S : Nat → Prop} {w : World} : ∀ {d : Nat} {n : Nd} {vs : List Value}, (eltN d).R S w n vs → (eltN (d + 1)).R S w n vs
  | 0, _, _, h => h.elim
  | d + 1, n, vs, ⟨v1, v2, v3, e, h1, h2, h3⟩ => ⟨v1, v2, v3, e, h1, h2, h3.imp (by rw [eltN_size, eltN_size]) fun _ _ _ h => eltN_succ h⟩
theorem eltN_le {S : Nat → Prop} {w : World} {d d' : Nat} (hd : d ≤ d') {n : Nd} {vs : List Value} (h : (eltN d).R S w n vs) : (eltN d').R S w n vs := by
  induction hd with
  | refl => exact h
  | step _ ih => exact eltN_succ ih
def Elt.nd : Elt Nd where
  size := 3
  pos := by omega
  R S w n vs := ∃ d, (eltN d).R S w n vs
  len := by rintro _ _ _ _ ⟨d, h⟩; exact ((eltN d).len h).trans (eltN_size d)
  keep := by rintro _ _ _ _ _ ⟨d, h⟩ hk; exact ⟨d, (eltN d).keep h hk⟩
  weak := by rintro _ _ _ _ _ ⟨d, h⟩ hk; exact ⟨d, (eltN d).weak h hk⟩
  fit := by rintro _ _ _ _ ⟨d, h⟩; exact ⟨d, (eltN d).fit h⟩
  one := by rintro _ _ _ _ ⟨d, h⟩; exact (eltN d).one h
section
variable {S S' : Nat → Prop} {w w' : World} {n : Nd}
theorem nd_out {vs : List Value} (h : Elt.nd.R S w n vs) : ∃ v1 v2 v3, vs = [v1, v2, v3] ∧ RdL Elt.bytes S w v1 n.keys ∧ RdL (Elt.list Elt.ver) S w v2 n.chains ∧ RdL Elt.nd S w v3 n.kids := by
  obtain ⟨d, h⟩ := h
  cases d with
  | zero => exact h.elim
  | succ d =>
    obtain ⟨v1, v2, v3, e, h1, h2, h3⟩ := h
    exact ⟨v1, v2, v3, e, h1, h2, h3.imp (by rw [eltN_size]; rfl) fun _ _ _ h => ⟨d, h⟩⟩
theorem kids_deep {v : Value} {xs : List Nd} (h : RdL Elt.nd S w v xs) : ∃ d, RdL (eltN d) S w v xs := by
  obtain ⟨a, cap, h1, h2, h3, h4⟩ := h
  rcases h4 with rfl | ⟨b, off, e, hb, hr⟩
  · exact ⟨0, a, cap, h1, h2, h3, .inl rfl⟩
  · have : ∀ m, m ≤ xs.length → ∃ d, ∀ r (h : r < xs.length), r < m → ∃ vs, (eltN d).R S w xs[r] vs ∧ ∀ j u, vs[j]? = some u → w.cell? ⟨b, off + r * 3 + j, none⟩ = some u := by
      intro m
      induction m with
      | zero => exact fun _ => ⟨0, fun r _ h => absurd h (Nat.not_lt_zero _)⟩
      | succ m ih =>
        intro hm
        obtain ⟨d, hd⟩ := ih (by omega)
        obtain ⟨vs, ⟨d2, hR⟩, hc⟩ := hr m (by omega)
        refine ⟨max d d2, fun r hr1 hr2 => ?_⟩
        rcases Nat.lt_or_ge r m with h5 | h5
        · obtain ⟨vs', hR', hc'⟩ := hd r hr1 h5
          exact ⟨vs', eltN_le (Nat.le_max_left _ _) hR', hc'⟩
        · obtain rfl : r = m := by omega
          exact ⟨vs, eltN_le (Nat.le_max_right _ _) hR, hc⟩
    obtain ⟨d, hd⟩ := this xs.length (Nat.le_refl _)
    refine ⟨d, a, cap, h1, h2, h3, .inr ⟨b, off, e, hb, fun r hr => ?_⟩⟩
    obtain ⟨vs, hR, hc⟩ := hd r hr hr
    exact ⟨vs, hR, by rw [eltN_size]; exact hc⟩
theorem nd_in {v1 v2 v3 : Value} (h1 : RdL Elt.bytes S w v1 n.keys) (h2 : RdL (Elt.list Elt.ver) S w v2 n.chains) (h3 : RdL Elt.nd S w v3 n.kids) : Elt.nd.R S w n [v1, v2, v3] := by
  obtain ⟨d, h3⟩ := kids_deep h3
  exact ⟨d + 1, v1, v2, v3, rfl, h1, h2, h3⟩
end
def RdN (S : Nat → Prop) (w : World) (v : Value) (n : Nd) : Prop :=
  ∃ a1 c1 a2 c2 a3 c3, v = .agg #[.slice a1 n.keys.length c1, .slice a2 n.chains.length c2, .slice a3 n.kids.length c3] ∧ RdL Elt.bytes S w (.slice a1 n.keys.length c1) n.keys ∧ RdL (Elt.list Elt.ver) S w (.slice a2 n.chains.length c2) n.chains ∧ RdL Elt.nd S w (.slice a3 n.kids.length c3) n.kids
section
variable {S S' : Nat → Prop} {w w' : World} {n : Nd} {v : Value}
theorem RdN.below (h : RdN S w v n) (hb : Below w.heap.size w w') : RdN S w' v n := by
  obtain ⟨a1, c1, a2, c2, a3, c3, e, h1, h2, h3⟩ := h
  exact ⟨a1, c1, a2, c2, a3, c3, e, h1.below hb, h2.below hb, h3.below hb⟩
theorem RdN.keep (h : RdN S w v n) (hk : ∀ k, S k → w'.heap[k]? = w.heap[k]?) : RdN S w' v n := by
  obtain ⟨a1, c1, a2, c2, a3, c3, e, h1, h2, h3⟩ := h
  exact ⟨a1, c1, a2, c2, a3, c3, e, h1.keep hk, h2.keep hk, h3.keep hk⟩
theorem RdN.weak (h : RdN S w v n) (hk : ∀ k, S k → S' k) : RdN S' w v n := by
  obtain ⟨a1, c1, a2, c2, a3, c3, e, h1, h2, h3⟩ := h
  exact ⟨a1, c1, a2, c2, a3, c3, e, h1.weak hk, h2.weak hk, h3.weak hk⟩
theorem RdN.fit (h : RdN S w v n) : RdN (fun k => S k ∧ k < w.heap.size) w v n := by
  obtain ⟨a1, c1, a2, c2, a3, c3, e, h1, h2, h3⟩ := h
  exact ⟨a1, c1, a2, c2, a3, c3, e, h1.fit, h2.fit, h3.fit⟩
theorem RdN.of {vs : List Value} (h : Elt.nd.R S w n vs) : RdN S w (.agg vs.toArray) n := by
  obtain ⟨v1, v2, v3, rfl, h1, h2, h3⟩ := nd_out h
  obtain ⟨a1, c1, rfl, _, _⟩ := h1.shape
  obtain ⟨a2, c2, rfl, _, _⟩ := h2.shape
  obtain ⟨a3, c3, rfl, _, _⟩ := h3.shape
  exact ⟨a1, c1, a2, c2, a3, c3, rfl, h1, h2, h3⟩
theorem RdL.kid {a : Option Addr} {m c : Nat} {ns : List Nd} (h : RdL Elt.nd S w (.slice a m c) ns) (r : Nat) (hr : r < ns.length) :
    ∃ b off a1 c1 a2 c2 a3 c3, a = some ⟨b, off, none⟩ ∧ w.cell? ⟨b, off + r * 3, none⟩ = some (.slice a1 ns[r].keys.length c1) ∧ w.cell? ⟨b, off + r * 3 + 1, none⟩ = some (.slice a2 ns[r].chains.length c2) ∧ w.cell? ⟨b, off + r * 3 + 2, none⟩ = some (.slice a3 ns[r].kids.length c3) ∧
      RdN S w (.agg #[.slice a1 ns[r].keys.length c1, .slice a2 ns[r].chains.length c2, .slice a3 ns[r].kids.length c3]) ns[r] := by
  obtain ⟨b, off, vs, rfl, hb, hR, hc⟩ := h.at r hr
  obtain ⟨v1, v2, v3, rfl, h1, h2, h3⟩ := nd_out hR
  obtain ⟨a1, c1, rfl, _, _⟩ := h1.shape
  obtain ⟨a2, c2, rfl, _, _⟩ := h2.shape
  obtain ⟨a3, c3, rfl, _, _⟩ := h3.shape
  exact ⟨b, off, a1, c1, a2, c2, a3, c3, rfl, hc 0 _ rfl, hc 1 _ rfl, hc 2 _ rfl, a1, c1, a2, c2, a3, c3, rfl, h1, h2, h3⟩
theorem RdL.byt {a : Option Addr} {m c : Nat} {ks : List (List UInt8)} (h : RdL Elt.bytes S w (.slice a m c) ks) (r : Nat) (hr : r < ks.length) :
    ∃ b off A C, a = some ⟨b, off, none⟩ ∧ w.cell? ⟨b, off + r, none⟩ = some (.slice A ks[r].length C) ∧ RdS S w (.slice A ks[r].length C) ks[r] := by
  obtain ⟨b, off, vs, rfl, hb, ⟨v, rfl, hv⟩, hc⟩ := h.at r hr
  obtain ⟨A, C, rfl, _, _⟩ := hv.shape
  have := hc 0 _ rfl
  simp only [show Elt.bytes.size = 1 from rfl, Nat.mul_one, Nat.add_zero] at this
  exact ⟨b, off, A, C, rfl, this, hv⟩
theorem RdL.lst {α : Type} {E : Elt α} {a : Option Addr} {m c : Nat} {ks : List (List α)} (h : RdL (Elt.list E) S w (.slice a m c) ks) (r : Nat) (hr : r < ks.length) :
    ∃ b off A C, a = some ⟨b, off, none⟩ ∧ w.cell? ⟨b, off + r, none⟩ = some (.slice A ks[r].length C) ∧ RdL E S w (.slice A ks[r].length C) ks[r] := by
  obtain ⟨b, off, vs, rfl, hb, ⟨v, rfl, hv⟩, hc⟩ := h.at r hr
  obtain ⟨A, C, rfl, _, _⟩ := hv.shape
  have := hc 0 _ rfl
  simp only [show (Elt.list E).size = 1 from rfl, Nat.mul_one, Nat.add_zero] at this
  exact ⟨b, off, A, C, rfl, this, hv⟩
theorem RdL.pr {a : Option Addr} {m c : Nat} {l : List Pr} (h : RdL Elt.pair S w (.slice a m c) l) (r : Nat) (hr : r < l.length) :
    ∃ b off A C B D, a = some ⟨b, off, none⟩ ∧ w.cell? ⟨b, off + r * 2, none⟩ = some (.slice A l[r].key.length C) ∧ w.cell? ⟨b, off + r * 2 + 1, none⟩ = some (.slice B l[r].chain.length D) ∧ RdS S w (.slice A l[r].key.length C) l[r].key ∧ RdL Elt.ver S w (.slice B l[r].chain.length D) l[r].chain := by
  obtain ⟨b, off, vs, rfl, hb, ⟨u, v, rfl, hu, hv⟩, hc⟩ := h.at r hr
  obtain ⟨A, C, rfl, _, _⟩ := hu.shape
  obtain ⟨B, D, rfl, _, _⟩ := hv.shape
  exact ⟨b, off, A, C, B, D, rfl, hc 0 _ rfl, hc 1 _ rfl, hu, hv⟩
end
theorem prP : LoP Try.prog 57 61 2 := ⟨⟨by kernel_rfl, by kernel_rfl⟩, .agg #[.slice none 0 0, .slice none 0 0], 48, by kernel_rfl, rfl, by omega⟩
theorem ndP : LoP Try.prog 26 28 3 := ⟨⟨by kernel_rfl, by kernel_rfl⟩, .agg #[.slice none 0 0, .slice none 0 0, .slice none 0 0], 72, by kernel_rfl, rfl, by omega⟩
theorem ndS : StP Try.prog 28 3 := StP.of (by kernel_rfl)
theorem chsP : LoP Try.prog 25 37 1 := ⟨⟨by kernel_rfl, by kernel_rfl⟩, .slice none 0 0, 24, by kernel_rfl, rfl, by omega⟩
theorem kysP : LoP Try.prog 24 32 1 := ⟨⟨by kernel_rfl, by kernel_rfl⟩, .slice none 0 0, 24, by kernel_rfl, rfl, by omega⟩
end Go.Proofs.Yticngbgjfdcnhaa
namespace Go.Proofs.Yticngbgjfdcnhaa
open Go.RowKit
theorem RdN.lens {S : Nat → Prop} {w : World} {v : Value} {n : Nd} (h : RdN S w v n) : n.keys.length ≤ 9223372036854775807 ∧ n.chains.length ≤ 9223372036854775807 ∧ n.kids.length ≤ 9223372036854775807 := by
  obtain ⟨a1, c1, a2, c2, a3, c3, e, h1, h2, h3⟩ := h
  have e1 := h1.len
  have e2 := h2.len
  have e3 := h3.len
  unfold maxLen at e1 e2 e3
  omega
theorem lenEq {a b : Nat} (h : a = b) : ((a : Int) != (b : Int)) = false := by simp [h]
theorem lenNe {a b : Nat} (h : ¬ a = b) : ((a : Int) != (b : Int)) = true := by rw [bne_iff_ne]; omega
theorem lenEq1 {a b : Nat} (h : a = b + 1) : ((a : Int) != (b : Int) + 1) = false := by rw [h]; simp
theorem lenNe1 {a b : Nat} (h : ¬ a = b + 1) : ((a : Int) != (b : Int) + 1) = true := by rw [bne_iff_ne]; omega
theorem allD_ne {d : Int} {r : List Int} (h : ∃ x ∈ r, ¬ x = d) : allD (d :: r) = -1 := by
  simp only [allD]
  obtain ⟨x, hx, h⟩ := h
  exact if_neg fun hh => h (hh.1 x hx)
theorem allD_neg {d : Int} {r : List Int} (h : d < 0) : allD (d :: r) = -1 := by
  simp only [allD]
  exact if_neg fun hh => by omega
theorem allD_yes {d : Int} {r : List Int} (h : ∀ x ∈ r, x = d) (hd : 0 ≤ d) : allD (d :: r) = d + 1 := by
  simp only [allD]
  exact if_pos ⟨h, hd⟩
theorem form_range : ∀ (N : Nat) {n : Nd} {root : Bool}, wN n ≤ N → -1 ≤ formI n root ∧ formI n root ≤ (wN n : Int)
  | 0, n, _, h => by have := wN_pos n; omega
  | N + 1, n, root, h => by
    rcases Int.lt_or_le (formI n root) 0 with h0 | h0
    · refine ⟨?_, by omega⟩
      rw [formI_def] at h0 ⊢
      split
      · omega
      · split
        · omega
        · split
          · omega
          · cases hm : n.kids.map (formI · false) with
            | nil => simp [allD]
            | cons d r =>
              simp only [allD]
              split <;> omega
    · obtain ⟨_, _, _, h1 | h1⟩ := form_inv rfl h0
      · have := wN_pos n; omega
      · obtain ⟨h2, h3, h4, h5⟩ := h1
        cases hk : n.kids with
        | nil => rw [hk] at h2; simp at h2
        | cons m r =>
          have hm : m ∈ n.kids := by rw [hk]; simp
          have h6 := h5 m hm
          have h7 := wN_kid hm
          have h8 := (form_range N (n := m) (root := false) (by omega)).2
          omega
def FormAt (N : Nat) : Prop := ∀ (n : Nd) (root : Bool) (w : World) (S : Nat → Prop) (v : Value), wN n ≤ N → N ≤ 1000000000 → RdN S w v n →
    Calls Try.prog 24 #[v, .bool root] w fun e w' => e = .returned (.int .i64 (formI n root)) ∧ Below w.heap.size w w'
set_option maxRecDepth 100000 in
set_option maxHeartbeats 2000000 in
theorem refForm_step (N : Nat) (ih : FormAt N) : FormAt (N + 1) := by
    intro n root w S v hN hbig hr
    unfold FormAt at ih
    obtain ⟨l1, l2, l3⟩ := hr.lens
    obtain ⟨a1, c1, a2, c2, a3, c3, rfl, r1, r2, r3⟩ := hr
    have hfd := Lib.hid (formI_def n root)
    have hT := TriV.new w 28 (.slice a1 n.keys.length c1) (.slice a2 n.chains.length c2) (.slice a3 n.kids.length c3)
    have q : Below w.heap.size w (w.alloc (.cells #[.slice a1 n.keys.length c1, .slice a2 n.chains.length c2, .slice a3 n.kids.length c3] 28)) := (Below.refl _ _).alloc (Nat.le_refl _) _
    go_enter Try.func24, Try.ntmps24
    go_upto_region 1 with (fail)
    generalize hW : w.alloc (.cells #[.slice a1 n.keys.length c1, .slice a2 n.chains.length c2, .slice a3 n.kids.length c3] 28) = W at *
    clear hW
    have t0 := hT.cell0
    have t1 := hT.cell1
    have t2 := hT.cell2
    by_cases h1 : n.chains.length = n.keys.length
    · by_cases h2 : 3 < n.keys.length
      · have hv := Lib.hid (show formI n root = -1 from hfd.out.trans (if_pos (.inr (.inl h2))))
        have d1 := lenEq h1
        clear h1
        go_wp2_with fail
        go_ret
        exact ⟨by rw [hv.out]; rfl, q⟩
      · by_cases h3 : root = false ∧ n.keys.length < 1
        · obtain ⟨rfl, h3⟩ := h3
          have hv := Lib.hid (show formI n false = -1 from hfd.out.trans (if_pos (.inr (.inr ⟨rfl, h3⟩))))
          have d1 := lenEq h1
          clear h1
          go_wp2_with fail
          go_ret
          exact ⟨by rw [hv.out]; rfl, q⟩
        · have hc : ¬ (n.chains.length ≠ n.keys.length ∨ 3 < n.keys.length ∨ (root = false ∧ n.keys.length < 1)) := fun h => by
            rcases h with h | h | h
            · exact h h1
            · exact h2 h
            · exact h3 h
          have hfd2 := Lib.hid (hfd.out.trans (if_neg hc))
          clear hc
          have d1 := lenEq h1
          have hroot : root = true ∨ ¬ n.keys.length < 1 := by
            cases root with
            | true => exact .inl rfl
            | false => exact .inr fun h => h3 ⟨rfl, h⟩
          have HR := Lib.hid hroot
          have hm0 := Lib.hid h1
          clear h1 hroot h3 hfd
          cases root with
          | true =>
            go_upto_region 3 with (fail)
            by_cases hz : n.kids.length = 0
            · have hv := Lib.hid (hfd2.out.trans (if_pos hz))
              have d2 : (((n.kids.length : Nat) : Int) == 0) = true := by rw [beq_iff_eq]; omega
              clear hz
              go_wp2_with fail
              go_ret
              exact ⟨by rw [hv.out]; rfl, q⟩
            · have hfd3 := Lib.hid (hfd2.out.trans (if_neg hz))
              have d2 : (((n.kids.length : Nat) : Int) == 0) = false := by rw [beq_eq_false_iff_ne]; omega
              by_cases h4 : n.kids.length = n.keys.length + 1
              · by_cases h5 : n.keys.length < 1
                · have hv := Lib.hid (hfd3.out.trans (if_pos (.inr h5)))
                  have d3 := lenEq1 h4
                  clear hz h4
                  go_wp2_with fail
                  go_ret
                  exact ⟨by rw [hv.out]; rfl, q⟩
                · have hfd4 := Lib.hid (hfd3.out.trans (if_neg (fun h => h.elim (fun h => h h4) h5)))
                  have d3 := lenEq1 h4
                  have HZ := Lib.hid hz
                  have H4 := Lib.hid h4
                  clear hz h4
                  go_upto_region 7 with (fail)
                  have hpos : 0 < n.kids.length := by have := HZ.out; omega
                  have hwk := fun (m : Nd) (hm : m ∈ n.kids) => wN_kid hm
                  generalize hns : n.kids = ns at *
                  have r3' := r3.below q
                  have hk0 := r3'.kid 0 hpos
                  obtain ⟨b, off, x1, y1, x2, y2, x3, y3, rfl, k0, k1, k2, hkr⟩ := hk0
                  simp only [Nat.zero_mul, Nat.add_zero] at k0 k1 k2
                  clear r3'
                  go_wp2_with fail
                  refine (ih ns[0] false W S _ (by have := hwk _ (List.getElem_mem hpos); omega) (by omega) hkr).mono ?_
                  rintro e w1 ⟨rfl, hb⟩
                  replace q := q.trans (hb.mono q.size)
                  replace hT := hT.below hb hT.lt
                  clear hb k0 k1 k2 hkr t0 t1 t2
                  have hfr := form_range N (n := ns[0]) (root := false) (by have := hwk _ (List.getElem_mem hpos); omega)
                  have hfw := hwk _ (List.getElem_mem hpos)
                  have HF := Lib.hid (hfd4.out.trans (show allD (ns.map (formI · false)) = allD (formI ns[0] false :: (ns.drop 1).map (formI · false)) by
                    congr 1
                    cases ns with
                    | nil => exact absurd hpos (Nat.lt_irrefl _)
                    | cons m r => rfl))
                  clear hfd2 hfd3 hfd4
                  generalize hD : formI ns[0] false = D at *
                  have hall0 : ∀ j (h : j < ns.length), j < 1 → formI ns[j] false = D := by
                    intro j h hj
                    obtain rfl : j = 0 := by omega
                    exact hD
                  go_upto_region 9 with (fail)
                  go_loopw [6] (fun iv wr => ∃ i : Nat, iv = .int .i64 i ∧ 1 ≤ i ∧ i ≤ ns.length ∧ (∀ j (h : j < ns.length), j < i → formI ns[j] false = D) ∧ TriV wr w.heap.size 28 (.slice a1 n.keys.length c1) (.slice a2 n.chains.length c2) (.slice (some ⟨b, off, none⟩) ns.length c3) ∧ Below w.heap.size w wr) (fun i _ => ns.length - (intOf i).toNat)
                  case atStart => exact ⟨1, rfl, Nat.le_refl _, hpos, hall0, hT, q⟩
                  case round =>
                    clear hT q hall0
                    obtain ⟨i, rfl, hi1, hil, hall, hT, q⟩ := hrel
                    have t0 := hT.cell0
                    have t1 := hT.cell1
                    have t2 := hT.cell2
                    rcases Nat.lt_or_ge i ns.length with hlt | hge
                    · have hki := (r3.below q).kid i hlt
                      obtain ⟨b', off', x1, y1, x2, y2, x3, y3, e', k0, k1, k2, hkr⟩ := hki
                      injection e' with e'; injection e' with e1 e2; subst e1; subst e2
                      go_wp2_with fail
                      refine (ih ns[i] false wr S _ (by have := hwk _ (List.getElem_mem hlt); omega) (by omega) hkr).mono ?_
                      rintro e w2 ⟨rfl, hb⟩
                      replace q := q.trans (hb.mono q.size)
                      replace hT := hT.below hb hT.lt
                      clear hb k0 k1 k2 hkr t0 t1 t2
                      by_cases hq : formI ns[i] false = D
                      · rw [hq]
                        have hall' : ∀ j (h : j < ns.length), j < i + 1 → formI ns[j] false = D := fun j h hj => by
                          rcases Nat.lt_or_ge j i with h6 | h6
                          · exact hall j h h6
                          · obtain rfl : j = i := by omega
                            exact hq
                        have HA := Lib.hid hall'
                        have dq : (D != D) = false := by simp
                        clear hall hall' hq hD
                        go_wp2_with fail
                        go_roundw
                        case rel => exact ⟨i + 1, by go_num, by omega, by omega, HA.out, hT, q⟩
                        case measure => simp [intOf]; omega
                      · have hv := Lib.hid (HF.out.trans (allD_ne ⟨formI ns[i] false, List.mem_map.2 ⟨ns[i], by
                          rw [show ns[i] = (ns.drop 1)[i - 1]'(by rw [List.length_drop]; omega) by rw [List.getElem_drop]; congr 1; omega]
                          exact List.getElem_mem _, rfl⟩, hq⟩))
                        have dq : (formI ns[i] false != D) = true := bne_iff_ne.2 hq
                        clear hall hq hD
                        go_wp2_with fail
                        go_ret
                        exact ⟨by rw [hv.out]; rfl, q⟩
                    · obtain rfl : i = ns.length := by omega
                      have hA := Lib.hid hall
                      clear hall
                      by_cases hneg : D < 0
                      · have hv := Lib.hid (HF.out.trans (allD_neg hneg))
                        have dn : decide (D < 0) = true := decide_eq_true hneg
                        clear hneg hD
                        go_wp2_with fail
                        go_ret
                        exact ⟨by rw [hv.out]; rfl, q⟩
                      · have hv := Lib.hid (HF.out.trans (allD_yes (fun x hx => by
                          obtain ⟨m, hm, rfl⟩ := List.mem_map.1 hx
                          obtain ⟨j, hj, rfl⟩ := List.mem_iff_getElem.1 (List.mem_of_mem_drop hm)
                          exact hA.out j hj hj) (by omega)))
                        have dn : decide (D < 0) = false := decide_eq_false hneg
                        clear hD
                        go_wp2_with fail
                        go_ret
                        exact ⟨by rw [hv.out]; rfl, q⟩
              · have hv := Lib.hid (hfd3.out.trans (if_pos (.inl h4)))
                have d3 := lenNe1 h4
                clear hz h4
                go_wp2_with fail
                go_ret
                exact ⟨by rw [hv.out]; rfl, q⟩
          | false =>
            have hk1 : ¬ n.keys.length < 1 := by
              rcases HR.out with h | h
              · cases h
              · exact h
            go_upto_region 3 with (fail)
            by_cases hz : n.kids.length = 0
            · have hv := Lib.hid (hfd2.out.trans (if_pos hz))
              have d2 : (((n.kids.length : Nat) : Int) == 0) = true := by rw [beq_iff_eq]; omega
              clear hz
              go_wp2_with fail
              go_ret
              exact ⟨by rw [hv.out]; rfl, q⟩
            · have hfd3 := Lib.hid (hfd2.out.trans (if_neg hz))
              have d2 : (((n.kids.length : Nat) : Int) == 0) = false := by rw [beq_eq_false_iff_ne]; omega
              by_cases h4 : n.kids.length = n.keys.length + 1
              · by_cases h5 : n.keys.length < 1
                · exact absurd h5 hk1
                · have hfd4 := Lib.hid (hfd3.out.trans (if_neg (fun h => h.elim (fun h => h h4) h5)))
                  have d3 := lenEq1 h4
                  have HZ := Lib.hid hz
                  have H4 := Lib.hid h4
                  clear hz h4
                  go_upto_region 7 with (fail)
                  have hpos : 0 < n.kids.length := by have := HZ.out; omega
                  have hwk := fun (m : Nd) (hm : m ∈ n.kids) => wN_kid hm
                  generalize hns : n.kids = ns at *
                  have r3' := r3.below q
                  have hk0 := r3'.kid 0 hpos
                  obtain ⟨b, off, x1, y1, x2, y2, x3, y3, rfl, k0, k1, k2, hkr⟩ := hk0
                  simp only [Nat.zero_mul, Nat.add_zero] at k0 k1 k2
                  clear r3'
                  go_wp2_with fail
                  refine (ih ns[0] false W S _ (by have := hwk _ (List.getElem_mem hpos); omega) (by omega) hkr).mono ?_
                  rintro e w1 ⟨rfl, hb⟩
                  replace q := q.trans (hb.mono q.size)
                  replace hT := hT.below hb hT.lt
                  clear hb k0 k1 k2 hkr t0 t1 t2
                  have hfr := form_range N (n := ns[0]) (root := false) (by have := hwk _ (List.getElem_mem hpos); omega)
                  have hfw := hwk _ (List.getElem_mem hpos)
                  have HF := Lib.hid (hfd4.out.trans (show allD (ns.map (formI · false)) = allD (formI ns[0] false :: (ns.drop 1).map (formI · false)) by
                    congr 1
                    cases ns with
                    | nil => exact absurd hpos (Nat.lt_irrefl _)
                    | cons m r => rfl))
                  clear hfd2 hfd3 hfd4
                  generalize hD : formI ns[0] false = D at *
                  have hall0 : ∀ j (h : j < ns.length), j < 1 → formI ns[j] false = D := by
                    intro j h hj
                    obtain rfl : j = 0 := by omega
                    exact hD
                  go_upto_region 9 with (fail)
                  go_loopw [6] (fun iv wr => ∃ i : Nat, iv = .int .i64 i ∧ 1 ≤ i ∧ i ≤ ns.length ∧ (∀ j (h : j < ns.length), j < i → formI ns[j] false = D) ∧ TriV wr w.heap.size 28 (.slice a1 n.keys.length c1) (.slice a2 n.chains.length c2) (.slice (some ⟨b, off, none⟩) ns.length c3) ∧ Below w.heap.size w wr) (fun i _ => ns.length - (intOf i).toNat)
                  case atStart => exact ⟨1, rfl, Nat.le_refl _, hpos, hall0, hT, q⟩
                  case round =>
                    clear hT q hall0
                    obtain ⟨i, rfl, hi1, hil, hall, hT, q⟩ := hrel
                    have t0 := hT.cell0
                    have t1 := hT.cell1
                    have t2 := hT.cell2
                    rcases Nat.lt_or_ge i ns.length with hlt | hge
                    · have hki := (r3.below q).kid i hlt
                      obtain ⟨b', off', x1, y1, x2, y2, x3, y3, e', k0, k1, k2, hkr⟩ := hki
                      injection e' with e'; injection e' with e1 e2; subst e1; subst e2
                      go_wp2_with fail
                      refine (ih ns[i] false wr S _ (by have := hwk _ (List.getElem_mem hlt); omega) (by omega) hkr).mono ?_
                      rintro e w2 ⟨rfl, hb⟩
                      replace q := q.trans (hb.mono q.size)
                      replace hT := hT.below hb hT.lt
                      clear hb k0 k1 k2 hkr t0 t1 t2
                      by_cases hq : formI ns[i] false = D
                      · rw [hq]
                        have hall' : ∀ j (h : j < ns.length), j < i + 1 → formI ns[j] false = D := fun j h hj => by
                          rcases Nat.lt_or_ge j i with h6 | h6
                          · exact hall j h h6
                          · obtain rfl : j = i := by omega
                            exact hq
                        have HA := Lib.hid hall'
                        have dq : (D != D) = false := by simp
                        clear hall hall' hq hD
                        go_wp2_with fail
                        go_roundw
                        case rel => exact ⟨i + 1, by go_num, by omega, by omega, HA.out, hT, q⟩
                        case measure => simp [intOf]; omega
                      · have hv := Lib.hid (HF.out.trans (allD_ne ⟨formI ns[i] false, List.mem_map.2 ⟨ns[i], by
                          rw [show ns[i] = (ns.drop 1)[i - 1]'(by rw [List.length_drop]; omega) by rw [List.getElem_drop]; congr 1; omega]
                          exact List.getElem_mem _, rfl⟩, hq⟩))
                        have dq : (formI ns[i] false != D) = true := bne_iff_ne.2 hq
                        clear hall hq hD
                        go_wp2_with fail
                        go_ret
                        exact ⟨by rw [hv.out]; rfl, q⟩
                    · obtain rfl : i = ns.length := by omega
                      have hA := Lib.hid hall
                      clear hall
                      by_cases hneg : D < 0
                      · have hv := Lib.hid (HF.out.trans (allD_neg hneg))
                        have dn : decide (D < 0) = true := decide_eq_true hneg
                        clear hneg hD
                        go_wp2_with fail
                        go_ret
                        exact ⟨by rw [hv.out]; rfl, q⟩
                      · have hv := Lib.hid (HF.out.trans (allD_yes (fun x hx => by
                          obtain ⟨m, hm, rfl⟩ := List.mem_map.1 hx
                          obtain ⟨j, hj, rfl⟩ := List.mem_iff_getElem.1 (List.mem_of_mem_drop hm)
                          exact hA.out j hj hj) (by omega)))
                        have dn : decide (D < 0) = false := decide_eq_false hneg
                        clear hD
                        go_wp2_with fail
                        go_ret
                        exact ⟨by rw [hv.out]; rfl, q⟩
              · have hv := Lib.hid (hfd3.out.trans (if_pos (.inl h4)))
                have d3 := lenNe1 h4
                clear hz h4
                go_wp2_with fail
                go_ret
                exact ⟨by rw [hv.out]; rfl, q⟩
    · have hv := Lib.hid (show formI n root = -1 from hfd.out.trans (if_pos (.inl h1)))
      have d1 := lenNe h1
      clear h1
      go_wp2_with fail
      go_ret
      exact ⟨by rw [hv.out]; rfl, q⟩
theorem refForm_any (N : Nat) : FormAt N := by
  induction N with
  | zero =>
    intro n root w S v h
    have := wN_pos n
    omega
  | succ N ih => exact refForm_step N ih
end Go.Proofs.Yticngbgjfdcnhaa
namespace Go.Proofs.Yticngbgjfdcnhaa
open Go.RowKit Go.Shelf
def Elt.pin {α : Type} (E : Elt α) (S0 : Nat → Prop) : Elt α where
  size := E.size
  pos := E.pos
  R S w x vs := E.R (fun k => S0 k ∧ S k) w x vs
  len h := E.len h
  keep h hk := E.keep h fun k hh => hk k hh.2
  weak h hk := E.weak h fun k hh => ⟨hh.1, hk k hh.2⟩
  fit h := E.weak (E.fit h) fun _ hh => ⟨hh.1.1, hh.1.2, hh.2⟩
  one h := E.one h
section
variable {α : Type} {E : Elt α} {S0 S : Nat → Prop} {w : World}
theorem pin_in {x : α} {vs : List Value} (h : E.R S0 w x vs) : (E.pin S0).R S0 w x vs := E.weak h fun _ hk => ⟨hk, hk⟩
theorem pin_fit {x : α} {vs : List Value} (h : (E.pin S0).R S w x vs) : (E.pin S0).R (fun k => S0 k ∧ k < w.heap.size) w x vs := E.weak (E.fit h) fun _ hk => ⟨hk.1.1, hk.1.1, hk.2⟩
theorem Flat.pin : ∀ {xs : List α} {vs : List Value}, Flat (E.pin S0) S w xs vs → Flat (E.pin S0) (fun k => S0 k ∧ k < w.heap.size) w xs vs
  | [], _, h => h
  | _ :: _, _, ⟨us, ws, e, h1, h2⟩ => ⟨us, ws, e, pin_fit h1, Flat.pin h2⟩
theorem RdL.unpin {v : Value} {xs : List α} (h : RdL (E.pin S0) S w v xs) : RdL E S w v xs := h.imp rfl fun _ _ _ h => E.weak h fun _ hk => hk.2
end
theorem prPP : PrP Try.prog 61 (.slice none 0 0) (.slice none 0 0) := ⟨⟨_, _, Try.underlying61, by kernel_rfl, by kernel_rfl, by kernel_rfl, by kernel_rfl⟩, by kernel_rfl⟩
def mRow1 (T : TypeId) (base : Nat) (r : Option Nat) (hr : ∀ k, r = some k → k < base) (us : List Value) : SGm (fun A B => A.grownBy B r) := ⟨fun w v => ∃ b, v = .slice (some ⟨b, 0, none⟩) 1 1 ∧ base ≤ b ∧ w.heap[b]? = some (.cells us.toArray T (0, 0)),
  fun _ _ _ ⟨b, h, h0, hc⟩ hb => ⟨b, h, h0, (hb.block b (Array.getElem?_eq_some_iff.1 hc).1).trans hc⟩,
  fun _ _ _ ⟨b, h, h0, hc⟩ hk => ⟨b, h, h0, (hk.block b (Array.getElem?_eq_some_iff.1 hc).1 (fun e => by have := hr b e.symm; omega)).trans hc⟩⟩
def PairsEnd (S : Nat → Prop) (w : World) (l : List Pr) (e : Ending) (w' : World) : Prop :=
  ∃ a k c, e = .returned (.slice a k c) ∧ OwnL (Elt.pin Elt.pair S) 61 w.heap.size 0 w' (.slice a k c) l ∧ Below w.heap.size w w'
theorem wv_lt {ps : List (List Pr)} {ks : List (List UInt8)} {cs : List (List Ver)} {i : Nat} (h1 : i < ks.length) (h2 : ks.length = cs.length) : wv ps ks cs (i + 1) = wv ps ks cs i ++ ps.getD i [] ++ [⟨ks[i], cs[i]'(by omega)⟩] := by
  rw [wv, List.getD_eq_getElem?_getD (l := ks), List.getD_eq_getElem?_getD (l := cs), List.getElem?_eq_getElem h1, List.getElem?_eq_getElem (by omega)]
  rfl
theorem wv_le (ps : List (List Pr)) (ks : List (List UInt8)) (cs : List (List Ver)) : ∀ {i j}, i ≤ j → (wv ps ks cs i).length ≤ (wv ps ks cs j).length := by
  intro i j h
  induction h with
  | refl => exact Nat.le_refl _
  | step _ ih => rw [wv, List.length_append, List.length_append]; omega
theorem pairs_le : ∀ (N : Nat) {n : Nd} {root : Bool}, wN n ≤ N → 0 ≤ formI n root → (pairsN n).length ≤ wN n
  | 0, n, _, h, _ => by have := wN_pos n; omega
  | N + 1, n, root, hN, hd => by
    obtain ⟨hc, hk, hr, h1 | h1⟩ := form_inv rfl hd
    · rw [pairs_leaf n h1.1]; exact (wN_parts n).1
    · obtain ⟨h2, h3, h4, h5⟩ := h1
      rw [pairs_len n h2]
      have hw : wN n = 1 + n.keys.length + n.chains.length + n.kids.length + wL n.kids := by cases n; rw [wN]; rfl
      have hs : ∀ ns : List Nd, (∀ m ∈ ns, m ∈ n.kids) → (ns.map fun m => (pairsN m).length).sum ≤ wL ns := by
        intro ns
        induction ns with
        | nil => intro _; simp
        | cons m r ih =>
          intro hm
          have h6 := ih fun x hx => hm x (by simp [hx])
          have h7 := hm m (by simp)
          have h8 := wN_kid h7
          have h9 := pairs_le N (n := m) (root := false) (by omega) (by rw [h5 m h7]; omega)
          rw [wL, List.map_cons, List.sum_cons]
          omega
      have h6 := hs n.kids fun _ h => h
      omega
theorem map_get {ns : List Nd} {i : Nat} (h : i < ns.length) : (ns.map pairsN).getD i [] = pairsN ns[i] := by
  rw [List.getD_eq_getElem?_getD, List.getElem?_map, List.getElem?_eq_getElem h]; rfl
theorem pairs_pos {n : Nd} {d : Int} (h : formI n false = d) (hd : 0 ≤ d) : 0 < (pairsN n).length := by
  obtain ⟨m, hm⟩ : ∃ m : Nat, d = m := ⟨d.toNat, by omega⟩
  subst hm
  obtain ⟨h1, _, h2 | ⟨h2, _⟩⟩ := pairs_bounds m h
  · have := Nat.pow_le_pow_right (show 0 < 2 by omega) h1
    omega
  · cases h2
theorem OwnL.someL {α : Type} {E : Elt α} {T : TypeId} {base lo : Nat} {w : World} {a : Option Addr} {k c : Nat} {xs : List α} (h : OwnL E T base lo w (.slice a k c) xs) (hp : 0 < xs.length) :
    ∃ g ns, a = .some ⟨g, 0, none⟩ ∧ k = xs.length ∧ Flat E (fun k => lo ≤ k ∧ k < w.heap.size ∧ Option.some k ≠ .some g) w xs ns ∧ ∀ j u, ns[j]? = .some u → w.cell? (Addr.add ⟨g, 0, none⟩ j) = .some u := by
  have hk := h.len
  obtain ⟨vs, h1, h2⟩ := h
  rcases h1.2 with ⟨h3, h4⟩ | ⟨g, cap, cur, h3, h4⟩
  · omega
  · injection h3 with e1 e2 e3
    subst e1
    refine ⟨g, vs, rfl, hk, h2, fun j u hj => ?_⟩
    obtain ⟨_, hg, _, _, _, ht⟩ := h4
    rw [Addr.add_lit, Nat.zero_add, World.cell?, hg]
    rw [← ht] at hj
    have : cur.toList[j]? = .some u := by
      rw [List.getElem?_take] at hj
      split at hj
      · exact hj
      · cases hj
    simpa using this
def PairsAt (N : Nat) : Prop := ∀ (n : Nd) (root : Bool) (w : World) (S : Nat → Prop) (v : Value), wN n ≤ N → N ≤ 1000000 → RdN S w v n → (∀ k, S k → k < w.heap.size) → 0 ≤ formI n root →
    Calls Try.prog 25 #[v] w (PairsEnd S w (pairsN n))
set_option maxRecDepth 100000 in
set_option maxHeartbeats 4000000 in
theorem refPairs_step (N : Nat) (ih : PairsAt N) : PairsAt (N + 1) := by
    intro n root w S v hN hbig hr hSb hd
    unfold PairsAt at ih
    have hlen := pairs_le (N + 1) hN hd
    have hdef := pairsN_def n
    obtain ⟨hc, hk3, _, hsh⟩ := form_inv rfl hd
    obtain ⟨a1, c1, a2, c2, a3, c3, rfl, r1, r2, r3⟩ := hr
    have hT := TriV.new w 28 (.slice a1 n.keys.length c1) (.slice a2 n.chains.length c2) (.slice a3 n.kids.length c3)
    have q : Below w.heap.size w (w.alloc (.cells #[.slice a1 n.keys.length c1, .slice a2 n.chains.length c2, .slice a3 n.kids.length c3] 28)) := (Below.refl _ _).alloc (Nat.le_refl _) _
    have hsz : w.heap.size + 1 ≤ (w.alloc (.cells #[.slice a1 n.keys.length c1, .slice a2 n.chains.length c2, .slice a3 n.kids.length c3] 28)).heap.size := Nat.le_of_eq (World.size_alloc _ _).symm
    have hks : n.kids.length ≤ 4 := by
      rcases hsh with h | h
      · rw [h.1]; simp
      · omega
    have hm : n.keys.length ≤ 3 := hk3
    have HC := Lib.hid hc
    have HD := Lib.hid hd
    have HSH := Lib.hid hsh
    have HDEF := Lib.hid hdef
    have HLEN := Lib.hid hlen
    clear hc hd hsh hdef hlen
    go_enter Try.func25, Try.ntmps25
    go_upto_region 3 with (fail)
    generalize w.alloc (.cells #[.slice a1 n.keys.length c1, .slice a2 n.chains.length c2, .slice a3 n.kids.length c3] 28) = W at *
    go_loopw [3, 4] (fun ov iv wr => ∃ (k : Nat) (ad : Option Addr) (ko co : Nat), iv = .int .i64 k ∧ k ≤ n.keys.length ∧ ov = .slice ad ko co ∧ OwnL (Elt.pin Elt.pair S) 61 (w.heap.size + 1) 0 wr (.slice ad ko co) (wv (n.kids.map pairsN) n.keys n.chains k) ∧ TriV wr w.heap.size 28 (.slice a1 n.keys.length c1) (.slice a2 n.chains.length c2) (.slice a3 n.kids.length c3) ∧ Below w.heap.size w wr ∧ w.heap.size + 1 ≤ wr.heap.size)
      (fun _ i _ => n.keys.length - (intOf i).toNat)
    case atStart => exact ⟨0, none, 0, 0, rfl, Nat.zero_le _, rfl, OwnL.nil _ _ _ _ _, hT, q, hsz⟩
    case round =>
      clear q hT hsz
      obtain ⟨k, ad, ko, co, rfl, hkl, rfl, hO, hT, q, hsz⟩ := hrel
      have t0 := hT.cell0
      have t1 := hT.cell1
      have t2 := hT.cell2
      rcases Nat.lt_or_ge k n.keys.length with hlt | hge
      · have hkc : k < n.chains.length := by have := HC.out; omega
        rcases Nat.eq_zero_or_pos n.kids.length with hz | hz
        · have hz' : ¬ 0 < n.kids.length := by omega
          have hky0 := (r1.below q).byt k hlt
          have hch0 := (r2.below q).lst k hkc
          obtain ⟨b, off, Ak, C, rfl, c0, hky⟩ := hky0
          obtain ⟨b2, off2, B, D, rfl, c1, hcc⟩ := hch0
          have HO := Lib.hid (wv_lt (ps := n.kids.map pairsN) hlt HC.out.symm)
          obtain ⟨ky, eky⟩ : ∃ ky, ky = n.keys[k] := ⟨_, rfl⟩
          obtain ⟨cc, ecc⟩ : ∃ cc, cc = n.chains[k]'hkc := ⟨_, rfl⟩
          rw [← eky] at c0 hky HO
          rw [← ecc] at c1 hcc HO
          clear eky ecc
          have hc2 := hcc.len
          have hkk := hky.len
          unfold maxLen at hc2 hkk
          have c0' : wr.cell? ⟨b, off + k * 1, none⟩ = some (.slice Ak ky.length C) := by rw [Nat.mul_one]; exact c0
          have c1' : wr.cell? ⟨b2, off2 + k * 1, none⟩ = some (.slice B cc.length D) := by rw [Nat.mul_one]; exact c1
          clear c0 c1
          have hout : wv (n.kids.map pairsN) n.keys n.chains (k + 1) = wv (n.kids.map pairsN) n.keys n.chains k ++ [⟨ky, cc⟩] := by
            rw [HO.out, List.eq_nil_of_length_eq_zero hz]; simp
          have HO2 := Lib.hid hout
          have hle : (wv (n.kids.map pairsN) n.keys n.chains k).length ≤ 1000000 := by
            have h1 := wv_le (n.kids.map pairsN) n.keys n.chains hkl
            have h2 := HLEN.out
            rw [HDEF.out, List.length_append] at h2
            omega
          clear hz hout HO
          go_upto_region 7 with (fail)
          have hob : ∀ k', Value.ownBlock (.slice ad ko co) = some k' → k' < wr.heap.size := fun k' hk' => (hO.block_lt k' hk').2
          refine wp_region_sink2 (by kernel_rfl) (by kernel_rfl) (fun A B => A.grownBy B (Value.ownBlock (.slice ad ko co))) 13 (fun i => decide (i < 13)) (by kernel_rfl) (fun i => decide (i = 14)) (by kernel_rfl) (fun _ => false) (fun A => wr.grownBy A (Value.ownBlock (.slice ad ko co))) (fun A h => grown_below' h _) (fun A => grown_refl A _) (fun A B h k => grown_trans h (grown_below' k _)) (fun A B h k => grown_trans h k)
            [mEq (.slice ad ko co), mEq (.pointer (some ⟨w.heap.size, 0, none⟩)), mEq (.slice (some ⟨b, off, none⟩) n.keys.length c1), mEq (.int .i64 k), mEq (.pointer (some ⟨b, off + k * 1, none⟩)), mEq (.slice Ak ky.length C), mEq (.pointer (some ⟨w.heap.size, 0 + 1, none⟩)), mEq (.slice (some ⟨b2, off2, none⟩) n.chains.length c2), mEq (.int .i64 k), mEq (.pointer (some ⟨b2, off2 + k * 1, none⟩)), mEq (.slice B cc.length D), mEq (.agg #[.slice Ak ky.length C, .slice B cc.length D]), mRow1 61 wr.heap.size _ hob [.slice Ak ky.length C, .slice B cc.length D]]
            ⟨fun w' v => ∃ ad k6 c, v = .slice ad k6 c ∧ OwnL (Elt.pin Elt.pair S) 61 (w.heap.size + 1) 0 w' (.slice ad k6 c) (wv (n.kids.map pairsN) n.keys n.chains k ++ [⟨ky, cc⟩]), fun _ _ _ ⟨ad, k, c, h, ho⟩ hb => ⟨ad, k, c, h, ho.below hb⟩⟩
            (fun _ => ⟨fun w' v => ∃ ad k6 c, v = .slice ad k6 c ∧ OwnL (Elt.pin Elt.pair S) 61 (w.heap.size + 1) 0 w' (.slice ad k6 c) (wv (n.kids.map pairsN) n.keys n.chains k ++ [⟨ky, cc⟩]), fun _ _ _ ⟨ad, k, c, h, ho⟩ hb => ⟨ad, k, c, h, ho.below hb⟩⟩)
            ⟨?o0, ?o1, ?o2, ?o3, ?o4, ?o5, ?o6, ?o7, ?o8, ?o9, ?o10, ?o11, ?o12, ?o13, ?o14, trivial⟩ ?fin
          case o0 =>
            refine GdOpM.plain rfl (fun A vs w' hF hT hR h0 hu hd => ?_)
            have e1 : A.eval (.tmp 3) = .slice ad ko co := (hT 3 14 (by simp) rfl).trans (hu (.inl rfl) 14 3 rfl rfl)
            exact BigFrame.wp_move _ rfl ⟨_, rfl, e1, Below.refl _ _⟩
          case o1 =>
            refine GdOpM.plain rfl (fun A vs w' hF hT hR h0 hu hd => ?_)
            have e1 : A.eval (.tmp 1) = .pointer (some ⟨w.heap.size, 0, none⟩) := hF 1 rfl
            exact wp_fieldN ndS rfl (e1) (by omega) ⟨_, rfl, rfl, Below.refl _ _⟩
          case o2 =>
            refine GdOpM.plain rfl (fun A vs w' hF hT hR h0 hu hd => ?_)
            have e1 : A.eval (.tmp 25) = .pointer (some ⟨w.heap.size, 0, none⟩) := (hT 25 1 (by simp) rfl).trans (hd ⟨1, .data⟩ (by simp) rfl)
            exact wp_ld_slice (e := 32) rfl (e1) (by kernel_rfl) (((h0 (.inl rfl)).cell (p := ⟨w.heap.size, 0, none⟩) (cell_lt t0)).trans t0) ⟨_, rfl, rfl, Below.refl _ _⟩
          case o3 =>
            refine GdOpM.plain rfl (fun A vs w' hF hT hR h0 hu hd => ?_)
            have e1 : A.eval (.tmp 4) = .int .i64 k := hF 4 rfl
            exact BigFrame.wp_move _ rfl ⟨_, rfl, e1, Below.refl _ _⟩
          case o4 =>
            refine GdOpM.plain rfl (fun A vs w' hF hT hR h0 hu hd => ?_)
            have e1 : A.eval (.tmp 26) = .slice (some ⟨b, off, none⟩) n.keys.length c1 := (hT 26 2 (by simp) rfl).trans (hd ⟨2, .data⟩ (by simp) rfl)
            have e2 : A.eval (.tmp 27) = .int .i64 k := (hT 27 3 (by simp) rfl).trans (hd ⟨3, .data⟩ (by simp) rfl)
            exact wp_ixN (e := 32) rfl (by kernel_rfl) (by kernel_rfl) (e1) (e2) rfl (by omega) ⟨_, rfl, rfl, Below.refl _ _⟩
          case o5 =>
            refine GdOpM.plain rfl (fun A vs w' hF hT hR h0 hu hd => ?_)
            have e1 : A.eval (.tmp 28) = .pointer (some ⟨b, off + k * 1, none⟩) := (hT 28 4 (by simp) rfl).trans (hd ⟨4, .data⟩ (by simp) rfl)
            exact wp_ld_slice (e := 5) rfl (e1) (by kernel_rfl) (((h0 (.inl rfl)).cell (p := ⟨b, off + k * 1, none⟩) (cell_lt c0')).trans c0') ⟨_, rfl, rfl, Below.refl _ _⟩
          case o6 =>
            refine GdOpM.plain rfl (fun A vs w' hF hT hR h0 hu hd => ?_)
            have e1 : A.eval (.tmp 1) = .pointer (some ⟨w.heap.size, 0, none⟩) := hF 1 rfl
            exact wp_fieldN ndS rfl (e1) (by omega) ⟨_, rfl, rfl, Below.refl _ _⟩
          case o7 =>
            refine GdOpM.plain rfl (fun A vs w' hF hT hR h0 hu hd => ?_)
            have e1 : A.eval (.tmp 30) = .pointer (some ⟨w.heap.size, 0 + 1, none⟩) := (hT 30 6 (by simp) rfl).trans (hd ⟨6, .data⟩ (by simp) rfl)
            exact wp_ld_slice (e := 37) rfl (e1) (by kernel_rfl) (((h0 (.inl rfl)).cell (p := ⟨w.heap.size, 0 + 1, none⟩) (cell_lt t1)).trans t1) ⟨_, rfl, rfl, Below.refl _ _⟩
          case o8 =>
            refine GdOpM.plain rfl (fun A vs w' hF hT hR h0 hu hd => ?_)
            have e1 : A.eval (.tmp 4) = .int .i64 k := hF 4 rfl
            exact BigFrame.wp_move _ rfl ⟨_, rfl, e1, Below.refl _ _⟩
          case o9 =>
            refine GdOpM.plain rfl (fun A vs w' hF hT hR h0 hu hd => ?_)
            have e1 : A.eval (.tmp 31) = .slice (some ⟨b2, off2, none⟩) n.chains.length c2 := (hT 31 7 (by simp) rfl).trans (hd ⟨7, .data⟩ (by simp) rfl)
            have e2 : A.eval (.tmp 32) = .int .i64 k := (hT 32 8 (by simp) rfl).trans (hd ⟨8, .data⟩ (by simp) rfl)
            exact wp_ixN (e := 37) rfl (by kernel_rfl) (by kernel_rfl) (e1) (e2) rfl (by omega) ⟨_, rfl, rfl, Below.refl _ _⟩
          case o10 =>
            refine GdOpM.plain rfl (fun A vs w' hF hT hR h0 hu hd => ?_)
            have e1 : A.eval (.tmp 33) = .pointer (some ⟨b2, off2 + k * 1, none⟩) := (hT 33 9 (by simp) rfl).trans (hd ⟨9, .data⟩ (by simp) rfl)
            exact wp_ld_slice (e := 44) rfl (e1) (by kernel_rfl) (((h0 (.inl rfl)).cell (p := ⟨b2, off2 + k * 1, none⟩) (cell_lt c1')).trans c1') ⟨_, rfl, rfl, Below.refl _ _⟩
          case o11 =>
            refine GdOpM.plain rfl (fun A vs w' hF hT hR h0 hu hd => ?_)
            have e1 : A.eval (.tmp 29) = .slice Ak ky.length C := (hT 29 5 (by simp) rfl).trans (hd ⟨5, .data⟩ (by simp) rfl)
            have e2 : A.eval (.tmp 34) = .slice B cc.length D := (hT 34 10 (by simp) rfl).trans (hd ⟨10, .data⟩ (by simp) rfl)
            exact wp_buildP prPP rfl e1 e2 rfl rfl ⟨_, rfl, rfl, Below.refl _ _⟩
          case o12 =>
            refine GdOpM.plain rfl (fun A vs w' hF hT hR h0 hu hd => ?_)
            have e1 : A.eval (.tmp 35) = .agg #[.slice Ak ky.length C, .slice B cc.length D] := (hT 35 11 (by simp) rfl).trans (hd ⟨11, .data⟩ (by simp) rfl)
            exact wp_buildOne prP rfl e1 rfl rfl (by omega) (by omega) ⟨_, rfl, ⟨_, rfl, (h0 (.inl rfl)).size, by simp only [World.alloc, Array.getElem?_push_size]⟩, (Below.refl _ _).alloc (Nat.le_refl _) _⟩
          case o13 =>
            refine GdOpM.plain rfl (fun A vs w' hF hT hR h0 hu hd => ?_)
            have e1 : A.eval (.tmp 24) = .slice ad ko co := (hT 24 0 (by simp) rfl).trans (hd ⟨0, .data⟩ (by simp) rfl)
            obtain ⟨b5, q0, hb5, hc5⟩ := hd ⟨12, .data⟩ (by simp) rfl
            have e4 : A.eval (.tmp 36) = .slice (some ⟨b5, 0, none⟩) 1 1 := (hT 36 12 (by simp) rfl).trans q0
            have hq := (h0 (.inr rfl))
            refine wp_appendL (E := Elt.pin Elt.pair S) (ys := [⟨ky, cc⟩]) prP rfl e1 (hO.below hq) e4 (cells_at hc5) (Flat.single (E := Elt.pin Elt.pair S) (S := S) (pin_in ⟨_, _, rfl, hky.below hq, hcc.below hq⟩)) (fun k hk => ⟨Nat.zero_le _, Nat.lt_of_lt_of_le (hSb k hk) (Nat.le_trans q.size hq.size), fun e => by have h5 := (hO.block_lt k e.symm).1; have h6 := hSb k hk; omega⟩) (Nat.le_trans hsz hq.size) (fun ad k cap w2 h2 hg h3 => ⟨_, rfl, ⟨_, _, _, rfl, h2⟩, hg⟩) (by simp; omega)
          case o14 =>
            refine GdOpM.plain rfl (fun A vs w' hF hT hR h0 hu hd => ?_)
            obtain ⟨ad5, k5, c5, q0, hZ⟩ := hd ⟨13, .data⟩ (by simp) rfl
            exact BigFrame.wp_assign _ rfl ⟨_, rfl, ⟨ad5, k5, c5, (hT 37 13 (by simp) rfl).trans q0, hZ⟩, Below.refl _ _⟩
          case fin =>
            intro vs w' hR hG
            obtain ⟨b12, e12, _⟩ := hG 12 (by decide) rfl
            obtain ⟨x13, y13, z13, e13, _⟩ := hG 13 (by decide) rfl
            obtain ⟨x14, y14, z14, e14, hO2⟩ := hG 14 (by decide) rfl
            have e0 : vs 0 = .slice ad ko co := hG 0 (by decide) rfl
            have e1 : vs 1 = .pointer (some ⟨w.heap.size, 0, none⟩) := hG 1 (by decide) rfl
            have e2 : vs 2 = .slice (some ⟨b, off, none⟩) n.keys.length c1 := hG 2 (by decide) rfl
            have e3 : vs 3 = .int .i64 k := hG 3 (by decide) rfl
            have e4 : vs 4 = .pointer (some ⟨b, off + k * 1, none⟩) := hG 4 (by decide) rfl
            have e5 : vs 5 = .slice Ak ky.length C := hG 5 (by decide) rfl
            have e6 : vs 6 = .pointer (some ⟨w.heap.size, 0 + 1, none⟩) := hG 6 (by decide) rfl
            have e7 : vs 7 = .slice (some ⟨b2, off2, none⟩) n.chains.length c2 := hG 7 (by decide) rfl
            have e8 : vs 8 = .int .i64 k := hG 8 (by decide) rfl
            have e9 : vs 9 = .pointer (some ⟨b2, off2 + k * 1, none⟩) := hG 9 (by decide) rfl
            have e10 : vs 10 = .slice B cc.length D := hG 10 (by decide) rfl
            have e11 : vs 11 = .agg #[.slice Ak ky.length C, .slice B cc.length D] := hG 11 (by decide) rfl
            simp only [putAll, e0, e1, e2, e3, e4, e5, e6, e7, e8, e9, e10, e11, e12, e13, e14]
            clear hG e0 e1 e2 e3 e4 e5 e6 e7 e8 e9 e10 e11 e12 e13 e14
            go_simp
            have q2 : Below w.heap.size w w' := q.grown hR q.size (fun k' e => by have := (hO.block_lt k' e).1; omega)
            have hT2 : TriV w' w.heap.size 28 (.slice (some ⟨b, off, none⟩) n.keys.length c1) (.slice (some ⟨b2, off2, none⟩) n.chains.length c2) (.slice a3 n.kids.length c3) := (hR.block _ hT.lt (fun e => by have := (hO.block_lt _ e.symm).1; omega)).trans hT
            have hsz2 := Nat.le_trans hsz hR.size
            rw [← HO2.out] at hO2
            clear hR hO q hT t0 t1 t2 hsz c0' c1'
            go_wp2_with fail
            go_roundw
            case rel => exact ⟨k + 1, _, _, _, by go_num, by omega, rfl, hO2, hT2, q2, hsz2⟩
            case measure => simp [intOf]; omega
        · have hin : n.kids.length = n.keys.length + 1 ∧ 2 ≤ formI n root ∧ ∀ m ∈ n.kids, formI m false = formI n root - 1 := by
            rcases HSH.out with h | h
            · rw [h.1] at hz; cases hz
            · exact ⟨h.1, h.2.2⟩
          have hkk3 : k < n.kids.length := by omega
          obtain ⟨b3, off3, x1, y1, x2, y2, x3, y3, rfl, k0, k1, k2, hkr⟩ := (r3.below q).kid k hkk3
          have hwk := wN_kid (List.getElem_mem hkk3)
          have hform := hin.2.2 _ (List.getElem_mem hkk3)
          have hmg := Lib.hid (map_get hkk3)
          have hf0 : 0 ≤ formI n.kids[k] false := by omega
          have hpp := pairs_pos rfl hf0
          have hplen := pairs_le N (n := n.kids[k]) (root := false) (by omega) hf0
          generalize hkd : n.kids[k] = kd at *
          clear hkd
          have HIN := Lib.hid hin
          have HFO := Lib.hid hform
          clear hin hform
          go_wp2_with fail
          refine (ih kd false wr S _ (by omega) (by omega) hkr (fun j hj => Nat.lt_of_lt_of_le (hSb j hj) q.size) hf0).mono ?_
          rintro e w1 ⟨ax, kx, cx, rfl, hX, hb⟩
          obtain ⟨g, us, rfl, rfl, hF, hcells⟩ := hX.someL hpp
          have hle0 : (wv (n.kids.map pairsN) n.keys n.chains (k + 1)).length ≤ 1000000 := by
            have h1 := wv_le (n.kids.map pairsN) n.keys n.chains (show k + 1 ≤ n.keys.length by omega)
            have h2 := HLEN.out
            rw [HDEF.out, List.length_append] at h2
            omega
          rw [wv_lt hlt HC.out.symm, hmg.out, List.length_append, List.length_append] at hle0
          clear hkr k0 k1 k2 t0 t1 t2
          go_wp2_with (first
            | (at_builtin; refine wpList_appendL (E := Elt.pin Elt.pair S) prP rfl rfl rfl (hO.below hb) rfl hcells hF.pin (fun j hj => ⟨Nat.zero_le _, hj.2, fun e => by have h5 := (hO.block_lt j e.symm).1; have h6 := hSb j hj.1; omega⟩) (Nat.le_trans hsz hb.size) ?_ (by omega); intro ad2 ko2 co2 w2 hO2 hg2 h32)
            | fail)
          replace hT : TriV w2 w.heap.size 28 (.slice a1 n.keys.length c1) (.slice a2 n.chains.length c2) (.slice (some ⟨b3, off3, none⟩) n.kids.length c3) := (hg2.block _ (hT.below hb hT.lt).lt (fun e => by have := (hO.block_lt _ e.symm).1; omega)).trans (hT.below hb hT.lt)
          replace q := (q.trans (hb.mono q.size)).grown hg2 (Nat.le_trans q.size hb.size) (fun j e => by have := (hO.block_lt j e).1; omega)
          replace hsz := Nat.le_trans (Nat.le_trans hsz hb.size) hg2.size
          clear hO hX hF hcells hb hg2 h32
          have hO := hO2
          clear hO2
          have hle : (wv (n.kids.map pairsN) n.keys n.chains k).length + (pairsN kd).length ≤ 1000000 := by omega
          clear hle0
          have t0 := TriV.cell0 hT
          have t1 := TriV.cell1 hT
          have t2 := TriV.cell2 hT
          have hky0 := (r1.below q).byt k hlt
          have hch0 := (r2.below q).lst k hkc
          obtain ⟨b, off, Ak, C, rfl, c0, hky⟩ := hky0
          obtain ⟨b2, off2, B, D, rfl, c1, hcc⟩ := hch0
          have HO := Lib.hid (wv_lt (ps := n.kids.map pairsN) hlt HC.out.symm)
          obtain ⟨ky, eky⟩ : ∃ ky, ky = n.keys[k] := ⟨_, rfl⟩
          obtain ⟨cc, ecc⟩ : ∃ cc, cc = n.chains[k]'hkc := ⟨_, rfl⟩
          rw [← eky] at c0 hky HO
          rw [← ecc] at c1 hcc HO
          clear eky ecc
          have hc2 := hcc.len
          have hkk := hky.len
          unfold maxLen at hc2 hkk
          have c0' : w2.cell? ⟨b, off + k * 1, none⟩ = some (.slice Ak ky.length C) := by rw [Nat.mul_one]; exact c0
          have c1' : w2.cell? ⟨b2, off2 + k * 1, none⟩ = some (.slice B cc.length D) := by rw [Nat.mul_one]; exact c1
          clear c0 c1
          have hout : wv (n.kids.map pairsN) n.keys n.chains (k + 1) = wv (n.kids.map pairsN) n.keys n.chains k ++ pairsN kd ++ [⟨ky, cc⟩] := by
            rw [HO.out, hmg.out]
          have HO2 := Lib.hid hout
          clear hout HO
          go_upto_region 7 with (fail)
          have hob : ∀ k', Value.ownBlock (.slice ad2 ko2 co2) = some k' → k' < w2.heap.size := fun k' hk' => (hO.block_lt k' hk').2
          refine wp_region_sink2 (by kernel_rfl) (by kernel_rfl) (fun A B => A.grownBy B (Value.ownBlock (.slice ad2 ko2 co2))) 13 (fun i => decide (i < 13)) (by kernel_rfl) (fun i => decide (i = 14)) (by kernel_rfl) (fun _ => false) (fun A => w2.grownBy A (Value.ownBlock (.slice ad2 ko2 co2))) (fun A h => grown_below' h _) (fun A => grown_refl A _) (fun A B h k => grown_trans h (grown_below' k _)) (fun A B h k => grown_trans h k)
            [mEq (.slice ad2 ko2 co2), mEq (.pointer (some ⟨w.heap.size, 0, none⟩)), mEq (.slice (some ⟨b, off, none⟩) n.keys.length c1), mEq (.int .i64 k), mEq (.pointer (some ⟨b, off + k * 1, none⟩)), mEq (.slice Ak ky.length C), mEq (.pointer (some ⟨w.heap.size, 0 + 1, none⟩)), mEq (.slice (some ⟨b2, off2, none⟩) n.chains.length c2), mEq (.int .i64 k), mEq (.pointer (some ⟨b2, off2 + k * 1, none⟩)), mEq (.slice B cc.length D), mEq (.agg #[.slice Ak ky.length C, .slice B cc.length D]), mRow1 61 w2.heap.size _ hob [.slice Ak ky.length C, .slice B cc.length D]]
            ⟨fun w' v => ∃ ad k6 c, v = .slice ad k6 c ∧ OwnL (Elt.pin Elt.pair S) 61 (w.heap.size + 1) 0 w' (.slice ad k6 c) (wv (n.kids.map pairsN) n.keys n.chains k ++ pairsN kd ++ [⟨ky, cc⟩]), fun _ _ _ ⟨ad, k, c, h, ho⟩ hb => ⟨ad, k, c, h, ho.below hb⟩⟩
            (fun _ => ⟨fun w' v => ∃ ad k6 c, v = .slice ad k6 c ∧ OwnL (Elt.pin Elt.pair S) 61 (w.heap.size + 1) 0 w' (.slice ad k6 c) (wv (n.kids.map pairsN) n.keys n.chains k ++ pairsN kd ++ [⟨ky, cc⟩]), fun _ _ _ ⟨ad, k, c, h, ho⟩ hb => ⟨ad, k, c, h, ho.below hb⟩⟩)
            ⟨?o0, ?o1, ?o2, ?o3, ?o4, ?o5, ?o6, ?o7, ?o8, ?o9, ?o10, ?o11, ?o12, ?o13, ?o14, trivial⟩ ?fin
          case o0 =>
            refine GdOpM.plain rfl (fun A vs w' hF hT hR h0 hu hd => ?_)
            have e1 : A.eval (.tmp 3) = .slice ad2 ko2 co2 := (hT 3 14 (by simp) rfl).trans (hu (.inl rfl) 14 3 rfl rfl)
            exact BigFrame.wp_move _ rfl ⟨_, rfl, e1, Below.refl _ _⟩
          case o1 =>
            refine GdOpM.plain rfl (fun A vs w' hF hT hR h0 hu hd => ?_)
            have e1 : A.eval (.tmp 1) = .pointer (some ⟨w.heap.size, 0, none⟩) := hF 1 rfl
            exact wp_fieldN ndS rfl (e1) (by omega) ⟨_, rfl, rfl, Below.refl _ _⟩
          case o2 =>
            refine GdOpM.plain rfl (fun A vs w' hF hT hR h0 hu hd => ?_)
            have e1 : A.eval (.tmp 25) = .pointer (some ⟨w.heap.size, 0, none⟩) := (hT 25 1 (by simp) rfl).trans (hd ⟨1, .data⟩ (by simp) rfl)
            exact wp_ld_slice (e := 32) rfl (e1) (by kernel_rfl) (((h0 (.inl rfl)).cell (p := ⟨w.heap.size, 0, none⟩) (cell_lt t0)).trans t0) ⟨_, rfl, rfl, Below.refl _ _⟩
          case o3 =>
            refine GdOpM.plain rfl (fun A vs w' hF hT hR h0 hu hd => ?_)
            have e1 : A.eval (.tmp 4) = .int .i64 k := hF 4 rfl
            exact BigFrame.wp_move _ rfl ⟨_, rfl, e1, Below.refl _ _⟩
          case o4 =>
            refine GdOpM.plain rfl (fun A vs w' hF hT hR h0 hu hd => ?_)
            have e1 : A.eval (.tmp 26) = .slice (some ⟨b, off, none⟩) n.keys.length c1 := (hT 26 2 (by simp) rfl).trans (hd ⟨2, .data⟩ (by simp) rfl)
            have e2 : A.eval (.tmp 27) = .int .i64 k := (hT 27 3 (by simp) rfl).trans (hd ⟨3, .data⟩ (by simp) rfl)
            exact wp_ixN (e := 32) rfl (by kernel_rfl) (by kernel_rfl) (e1) (e2) rfl (by omega) ⟨_, rfl, rfl, Below.refl _ _⟩
          case o5 =>
            refine GdOpM.plain rfl (fun A vs w' hF hT hR h0 hu hd => ?_)
            have e1 : A.eval (.tmp 28) = .pointer (some ⟨b, off + k * 1, none⟩) := (hT 28 4 (by simp) rfl).trans (hd ⟨4, .data⟩ (by simp) rfl)
            exact wp_ld_slice (e := 5) rfl (e1) (by kernel_rfl) (((h0 (.inl rfl)).cell (p := ⟨b, off + k * 1, none⟩) (cell_lt c0')).trans c0') ⟨_, rfl, rfl, Below.refl _ _⟩
          case o6 =>
            refine GdOpM.plain rfl (fun A vs w' hF hT hR h0 hu hd => ?_)
            have e1 : A.eval (.tmp 1) = .pointer (some ⟨w.heap.size, 0, none⟩) := hF 1 rfl
            exact wp_fieldN ndS rfl (e1) (by omega) ⟨_, rfl, rfl, Below.refl _ _⟩
          case o7 =>
            refine GdOpM.plain rfl (fun A vs w' hF hT hR h0 hu hd => ?_)
            have e1 : A.eval (.tmp 30) = .pointer (some ⟨w.heap.size, 0 + 1, none⟩) := (hT 30 6 (by simp) rfl).trans (hd ⟨6, .data⟩ (by simp) rfl)
            exact wp_ld_slice (e := 37) rfl (e1) (by kernel_rfl) (((h0 (.inl rfl)).cell (p := ⟨w.heap.size, 0 + 1, none⟩) (cell_lt t1)).trans t1) ⟨_, rfl, rfl, Below.refl _ _⟩
          case o8 =>
            refine GdOpM.plain rfl (fun A vs w' hF hT hR h0 hu hd => ?_)
            have e1 : A.eval (.tmp 4) = .int .i64 k := hF 4 rfl
            exact BigFrame.wp_move _ rfl ⟨_, rfl, e1, Below.refl _ _⟩
          case o9 =>
            refine GdOpM.plain rfl (fun A vs w' hF hT hR h0 hu hd => ?_)
            have e1 : A.eval (.tmp 31) = .slice (some ⟨b2, off2, none⟩) n.chains.length c2 := (hT 31 7 (by simp) rfl).trans (hd ⟨7, .data⟩ (by simp) rfl)
            have e2 : A.eval (.tmp 32) = .int .i64 k := (hT 32 8 (by simp) rfl).trans (hd ⟨8, .data⟩ (by simp) rfl)
            exact wp_ixN (e := 37) rfl (by kernel_rfl) (by kernel_rfl) (e1) (e2) rfl (by omega) ⟨_, rfl, rfl, Below.refl _ _⟩
          case o10 =>
            refine GdOpM.plain rfl (fun A vs w' hF hT hR h0 hu hd => ?_)
            have e1 : A.eval (.tmp 33) = .pointer (some ⟨b2, off2 + k * 1, none⟩) := (hT 33 9 (by simp) rfl).trans (hd ⟨9, .data⟩ (by simp) rfl)
            exact wp_ld_slice (e := 44) rfl (e1) (by kernel_rfl) (((h0 (.inl rfl)).cell (p := ⟨b2, off2 + k * 1, none⟩) (cell_lt c1')).trans c1') ⟨_, rfl, rfl, Below.refl _ _⟩
          case o11 =>
            refine GdOpM.plain rfl (fun A vs w' hF hT hR h0 hu hd => ?_)
            have e1 : A.eval (.tmp 29) = .slice Ak ky.length C := (hT 29 5 (by simp) rfl).trans (hd ⟨5, .data⟩ (by simp) rfl)
            have e2 : A.eval (.tmp 34) = .slice B cc.length D := (hT 34 10 (by simp) rfl).trans (hd ⟨10, .data⟩ (by simp) rfl)
            exact wp_buildP prPP rfl e1 e2 rfl rfl ⟨_, rfl, rfl, Below.refl _ _⟩
          case o12 =>
            refine GdOpM.plain rfl (fun A vs w' hF hT hR h0 hu hd => ?_)
            have e1 : A.eval (.tmp 35) = .agg #[.slice Ak ky.length C, .slice B cc.length D] := (hT 35 11 (by simp) rfl).trans (hd ⟨11, .data⟩ (by simp) rfl)
            exact wp_buildOne prP rfl e1 rfl rfl (by omega) (by omega) ⟨_, rfl, ⟨_, rfl, (h0 (.inl rfl)).size, by simp only [World.alloc, Array.getElem?_push_size]⟩, (Below.refl _ _).alloc (Nat.le_refl _) _⟩
          case o13 =>
            refine GdOpM.plain rfl (fun A vs w' hF hT hR h0 hu hd => ?_)
            have e1 : A.eval (.tmp 24) = .slice ad2 ko2 co2 := (hT 24 0 (by simp) rfl).trans (hd ⟨0, .data⟩ (by simp) rfl)
            obtain ⟨b5, q0, hb5, hc5⟩ := hd ⟨12, .data⟩ (by simp) rfl
            have e4 : A.eval (.tmp 36) = .slice (some ⟨b5, 0, none⟩) 1 1 := (hT 36 12 (by simp) rfl).trans q0
            have hq := (h0 (.inr rfl))
            refine wp_appendL (E := Elt.pin Elt.pair S) (ys := [⟨ky, cc⟩]) prP rfl e1 (hO.below hq) e4 (cells_at hc5) (Flat.single (E := Elt.pin Elt.pair S) (S := S) (pin_in ⟨_, _, rfl, hky.below hq, hcc.below hq⟩)) (fun k hk => ⟨Nat.zero_le _, Nat.lt_of_lt_of_le (hSb k hk) (Nat.le_trans q.size hq.size), fun e => by have h5 := (hO.block_lt k e.symm).1; have h6 := hSb k hk; omega⟩) (Nat.le_trans hsz hq.size) (fun ad k cap w2 h2 hg h3 => ⟨_, rfl, ⟨_, _, _, rfl, h2⟩, hg⟩) (by simp; omega)
          case o14 =>
            refine GdOpM.plain rfl (fun A vs w' hF hT hR h0 hu hd => ?_)
            obtain ⟨ad5, k5, c5, q0, hZ⟩ := hd ⟨13, .data⟩ (by simp) rfl
            exact BigFrame.wp_assign _ rfl ⟨_, rfl, ⟨ad5, k5, c5, (hT 37 13 (by simp) rfl).trans q0, hZ⟩, Below.refl _ _⟩
          case fin =>
            intro vs w' hR hG
            obtain ⟨b12, e12, _⟩ := hG 12 (by decide) rfl
            obtain ⟨x13, y13, z13, e13, _⟩ := hG 13 (by decide) rfl
            obtain ⟨x14, y14, z14, e14, hO2⟩ := hG 14 (by decide) rfl
            have e0 : vs 0 = .slice ad2 ko2 co2 := hG 0 (by decide) rfl
            have e1 : vs 1 = .pointer (some ⟨w.heap.size, 0, none⟩) := hG 1 (by decide) rfl
            have e2 : vs 2 = .slice (some ⟨b, off, none⟩) n.keys.length c1 := hG 2 (by decide) rfl
            have e3 : vs 3 = .int .i64 k := hG 3 (by decide) rfl
            have e4 : vs 4 = .pointer (some ⟨b, off + k * 1, none⟩) := hG 4 (by decide) rfl
            have e5 : vs 5 = .slice Ak ky.length C := hG 5 (by decide) rfl
            have e6 : vs 6 = .pointer (some ⟨w.heap.size, 0 + 1, none⟩) := hG 6 (by decide) rfl
            have e7 : vs 7 = .slice (some ⟨b2, off2, none⟩) n.chains.length c2 := hG 7 (by decide) rfl
            have e8 : vs 8 = .int .i64 k := hG 8 (by decide) rfl
            have e9 : vs 9 = .pointer (some ⟨b2, off2 + k * 1, none⟩) := hG 9 (by decide) rfl
            have e10 : vs 10 = .slice B cc.length D := hG 10 (by decide) rfl
            have e11 : vs 11 = .agg #[.slice Ak ky.length C, .slice B cc.length D] := hG 11 (by decide) rfl
            simp only [putAll, e0, e1, e2, e3, e4, e5, e6, e7, e8, e9, e10, e11, e12, e13, e14]
            clear hG e0 e1 e2 e3 e4 e5 e6 e7 e8 e9 e10 e11 e12 e13 e14
            go_simp
            have q2 : Below w.heap.size w w' := q.grown hR q.size (fun k' e => by have := (hO.block_lt k' e).1; omega)
            have hT2 : TriV w' w.heap.size 28 (.slice (some ⟨b, off, none⟩) n.keys.length c1) (.slice (some ⟨b2, off2, none⟩) n.chains.length c2) (.slice (some ⟨b3, off3, none⟩) n.kids.length c3) := (hR.block _ hT.lt (fun e => by have := (hO.block_lt _ e.symm).1; omega)).trans hT
            have hsz2 := Nat.le_trans hsz hR.size
            rw [← HO2.out] at hO2
            clear hR hO q hT t0 t1 t2 hsz c0' c1'
            go_wp2_with fail
            go_roundw
            case rel => exact ⟨k + 1, _, _, _, by go_num, by omega, rfl, hO2, hT2, q2, hsz2⟩
            case measure => simp [intOf]; omega
      · obtain rfl : k = n.keys.length := by omega
        rcases Nat.eq_zero_or_pos n.kids.length with hz | hz
        · have hz' : ¬ 0 < n.kids.length := by omega
          have hres : pairsN n = wv (n.kids.map pairsN) n.keys n.chains n.keys.length := by
            rw [HDEF.out, List.eq_nil_of_length_eq_zero hz]; simp
          have HR := Lib.hid hres
          clear hz hres
          go_wp2_with fail
          go_ret
          rw [HR.out]
          exact ⟨_, _, _, rfl, hO.to (Nat.le_succ _) (Nat.le_refl _), q⟩
        · have hin : n.kids.length = n.keys.length + 1 ∧ 2 ≤ formI n root ∧ ∀ m ∈ n.kids, formI m false = formI n root - 1 := by
            rcases HSH.out with h | h
            · rw [h.1] at hz; cases hz
            · exact ⟨h.1, h.2.2⟩
          have hkk3 : n.keys.length < n.kids.length := by omega
          have hl1 : (n.kids.length : Int) - 1 = (n.keys.length : Int) := by omega
          obtain ⟨b3, off3, x1, y1, x2, y2, x3, y3, rfl, k0, k1, k2, hkr⟩ := (r3.below q).kid n.keys.length hkk3
          have hwk := wN_kid (List.getElem_mem hkk3)
          have hform := hin.2.2 _ (List.getElem_mem hkk3)
          have hres : pairsN n = wv (n.kids.map pairsN) n.keys n.chains n.keys.length ++ pairsN n.kids[n.keys.length] := by
            rw [HDEF.out, show n.kids.length - 1 = n.keys.length by omega, map_get hkk3]
          have HR := Lib.hid hres
          clear hres
          have hf0 : 0 ≤ formI n.kids[n.keys.length] false := by omega
          have hpp := pairs_pos rfl hf0
          have hplen := pairs_le N (n := n.kids[n.keys.length]) (root := false) (by omega) hf0
          have hle0 := HLEN.out
          rw [HR.out, List.length_append] at hle0
          generalize hkd : n.kids[n.keys.length] = kd at *
          clear hkd
          have HIN := Lib.hid hin
          have HFO := Lib.hid hform
          clear hin hform
          go_wp2_with fail
          refine (ih kd false wr S _ (by omega) (by omega) hkr (fun j hj => Nat.lt_of_lt_of_le (hSb j hj) q.size) hf0).mono ?_
          rintro e w1 ⟨ax, kx, cx, rfl, hX, hb⟩
          obtain ⟨g, us, rfl, rfl, hF, hcells⟩ := hX.someL hpp
          clear hkr k0 k1 k2 t0 t1 t2
          go_wp2_with (first
            | (at_builtin; refine wpList_appendL (E := Elt.pin Elt.pair S) prP rfl rfl rfl (hO.below hb) rfl hcells hF.pin (fun j hj => ⟨Nat.zero_le _, hj.2, fun e => by have h5 := (hO.block_lt j e.symm).1; have h6 := hSb j hj.1; omega⟩) (Nat.le_trans hsz hb.size) ?_ (by omega); intro ad2 ko2 co2 w2 hO2 hg2 h32)
            | fail)
          replace q := (q.trans (hb.mono q.size)).grown hg2 (Nat.le_trans q.size hb.size) (fun j e => by have := (hO.block_lt j e).1; omega)
          go_ret
          rw [HR.out]
          exact ⟨_, _, _, rfl, hO2.to (Nat.le_succ _) (Nat.le_refl _), q⟩
theorem refPairs_any (N : Nat) : PairsAt N := by
  induction N with
  | zero =>
    intro n root w S v h
    have := wN_pos n
    omega
  | succ N ih => exact refPairs_step N ih
end Go.Proofs.Yticngbgjfdcnhaa
namespace Go.Proofs.Yticngbgjfdcnhaa
open Go.RowKit
mutual
def bndN : Nd → Prop
  | .mk ks cs ns => (∀ k ∈ ks, k.length ≤ 1000) ∧ (∀ c ∈ cs, smallV c) ∧ bndL ns
def bndL : List Nd → Prop
  | [] => True
  | n :: ns => bndN n ∧ bndL ns
end
theorem bndL_iff : ∀ (ns : List Nd), bndL ns ↔ ∀ m ∈ ns, bndN m
  | [] => by simp [bndL]
  | n :: ns => by simp [bndL, bndL_iff ns]
theorem bndN_def (n : Nd) : bndN n ↔ (∀ k ∈ n.keys, k.length ≤ 1000) ∧ (∀ c ∈ n.chains, smallV c) ∧ ∀ m ∈ n.kids, bndN m := by
  cases n with
  | mk ks cs ns => rw [bndN, bndL_iff]; rfl
def fitN (n : Nd) : Prop := wN n ≤ 100000 ∧ bndN n
theorem mem_wv {ps : List (List Pr)} {ks : List (List UInt8)} {cs : List (List Ver)} : ∀ {i j : Nat}, j < i → (⟨ks.getD j [], cs.getD j []⟩ : Pr) ∈ wv ps ks cs i ∧ ∀ p ∈ ps.getD j [], p ∈ wv ps ks cs i
  | 0, _, h => absurd h (Nat.not_lt_zero _)
  | i + 1, j, h => by
    rw [wv]
    rcases Nat.lt_or_ge j i with h1 | h1
    · obtain ⟨h2, h3⟩ := mem_wv (ps := ps) (ks := ks) (cs := cs) h1
      exact ⟨List.mem_append_left _ (List.mem_append_left _ h2), fun p hp => List.mem_append_left _ (List.mem_append_left _ (h3 p hp))⟩
    · obtain rfl : j = i := by omega
      exact ⟨List.mem_append_right _ (List.mem_singleton.2 rfl), fun p hp => List.mem_append_left _ (List.mem_append_right _ hp)⟩
theorem bnd_pairs : ∀ (N : Nat) {n : Nd} {root : Bool}, wN n ≤ N → 0 ≤ formI n root → (∀ p ∈ pairsN n, p.key.length ≤ 1000 ∧ smallV p.chain) → bndN n
  | 0, n, _, h, _, _ => by have := wN_pos n; omega
  | N + 1, n, root, hN, hd, hp => by
    obtain ⟨hc, _, _, hsh⟩ := form_inv rfl hd
    have hpd := pairsN_def n
    have hin : ∀ j, j < n.keys.length → (⟨n.keys.getD j [], n.chains.getD j []⟩ : Pr) ∈ pairsN n := fun j hj => by
      rw [hpd]; exact List.mem_append_left _ (mem_wv hj).1
    refine (bndN_def n).2 ⟨fun k hk => ?_, fun c hc2 => ?_, fun m hm => ?_⟩
    · obtain ⟨j, hj, rfl⟩ := List.mem_iff_getElem.1 hk
      have := (hp _ (hin j hj)).1
      rw [List.getD_eq_getElem?_getD, List.getElem?_eq_getElem hj] at this
      exact this
    · obtain ⟨j, hj, rfl⟩ := List.mem_iff_getElem.1 hc2
      have := (hp _ (hin j (by omega))).2
      simp only [List.getD_eq_getElem?_getD, List.getElem?_eq_getElem hj] at this
      exact this
    · rcases hsh with ⟨h1, _⟩ | ⟨h1, h2, h3, h4⟩
      · rw [h1] at hm; cases hm
      · have h5 := wN_kid hm
        have h6 := h4 m hm
        refine bnd_pairs N (n := m) (root := false) (by omega) (by omega) fun p hpm => hp p ?_
        obtain ⟨j, hj, rfl⟩ := List.mem_iff_getElem.1 hm
        rw [hpd]
        rcases Nat.lt_or_ge j n.keys.length with h7 | h7
        · exact List.mem_append_left _ ((mem_wv h7).2 p (by rw [map_get hj]; exact hpm))
        · obtain rfl : j = n.kids.length - 1 := by omega
          exact List.mem_append_right _ (by rw [map_get hj]; exact hpm)
def fewP (l : List Pr) : Prop := l.length ≤ 2000 ∧ ∀ p ∈ l, smallV p.chain
theorem ok_fit {n : Nd} (h : okN n) (hf : fewP (pairsN n)) : fitN n := by
  have h1 := (weight_pairs (wN n) (Nat.le_refl _) h.1).1
  have h2 := hf.1
  refine ⟨by omega, bnd_pairs (wN n) (Nat.le_refl _) h.1 fun p hp => ⟨?_, hf.2 p hp⟩⟩
  have := ((okP_iff _).1 h.2).1 p hp
  have := this.2.2
  omega
theorem few_put {l : List Pr} (hs : Srt l) (hf : ∀ p ∈ l, smallV p.chain) {k : List UInt8} {c : List Ver} (hc : smallV c) : ∀ p ∈ putP l k c, smallV p.chain := fun p hp => by
  rw [putP_ins hs] at hp
  rcases ins_mem hp with rfl | hp
  · exact hc
  · exact hf p hp
def KeysEnd (w : World) (l : List (List UInt8)) (e : Ending) (w' : World) : Prop :=
  ∃ a c, e = .returned (.slice a l.length c) ∧ RdL Elt.bytes (fun k => w.heap.size ≤ k ∧ k < w'.heap.size) w' (.slice a l.length c) l ∧ Below w.heap.size w w'
def FindEnd (w : World) (r : Option (List Ver)) (e : Ending) (w' : World) : Prop :=
  ∃ a c, e = .returned (.tuple #[.slice a (r.getD []).length c, .bool r.isSome]) ∧ RdL Elt.ver (fun k => w.heap.size ≤ k ∧ k < w'.heap.size) w' (.slice a (r.getD []).length c) (r.getD []) ∧ Below w.heap.size w w'
def NextEnd (w : World) (r : Option (List UInt8)) (e : Ending) (w' : World) : Prop :=
  ∃ a c, e = .returned (.tuple #[.slice a (r.getD []).length c, .bool r.isSome]) ∧ RdS (fun k => w.heap.size ≤ k ∧ k < w'.heap.size) w' (.slice a (r.getD []).length c) (r.getD []) ∧ Below w.heap.size w w'
def NodeEnd (w : World) (Q : Nd → Nat → Prop) (e : Ending) (w' : World) : Prop :=
  ∃ v n er, e = .returned (.tuple #[v, .int .i64 (er : Nat)]) ∧ Q n er ∧ RdN (fun k => w.heap.size ≤ k ∧ k < w'.heap.size) w' v n ∧ Below w.heap.size w w'
def zNode : Obj := .cells #[.slice none 0 0, .slice none 0 0, .slice none 0 0] 28 (0, 0)
def PutIs (n : Nd) (k : List UInt8) (c : List Ver) (m : Nd) (er : Nat) : Prop :=
  if okN n ∧ k.length ≤ 16 ∧ okV c ∧ c ≠ [] then er = 0 ∧ okN m ∧ pairsN m = putP (pairsN n) k c else er = 1 ∧ m = n
def DelIs (n : Nd) (k : List UInt8) (m : Nd) (er : Nat) : Prop :=
  if okN n then (if (findP (pairsN n) k).isSome then er = 0 ∧ okN m ∧ pairsN m = delP (pairsN n) k else er = 61 ∧ m = n) else er = 1 ∧ m = n
structure TreC0 : Prop where
  check : ∀ (w : World) {S : Nat → Prop} {v : Value} {n : Nd}, RdN S w v n → fitN n →
    Calls Try.prog 14 #[v] w fun e w' => e = .returned (.bool (decide (okN n))) ∧ Below w.heap.size w w'
  keys : ∀ (w : World) {S : Nat → Prop} {v : Value} {n : Nd}, RdN S w v n → fitN n →
    Calls Try.prog 12 #[v] w (KeysEnd w ((prN n).map (·.key)))
  many : ∀ (w : World) {S : Nat → Prop} {v : Value} {n : Nd}, RdN S w v n → fitN n →
    Calls Try.prog 10 #[v] w fun e w' => e = .returned (.int .i64 ((prN n).length : Nat)) ∧ Below w.heap.size w w'
  depth : ∀ (w : World) {S : Nat → Prop} {v : Value} {n : Nd}, RdN S w v n → fitN n →
    Calls Try.prog 8 #[v] w fun e w' => e = .returned (.int .i64 (depN n)) ∧ Below w.heap.size w w'
  find : ∀ (w : World) {S S2 : Nat → Prop} {v : Value} {n : Nd} {a : Option Addr} {m c : Nat} {k : List UInt8}, RdN S w v n → fitN n → RdS S2 w (.slice a m c) k → k.length ≤ 1000 →
    Calls Try.prog 11 #[v, .slice a m c] w (FindEnd w (findP (prN n) k))
  next : ∀ (w : World) {S S2 : Nat → Prop} {v : Value} {n : Nd} {a : Option Addr} {m c : Nat} {k : List UInt8}, RdN S w v n → fitN n → RdS S2 w (.slice a m c) k → k.length ≤ 1000 →
    Calls Try.prog 13 #[v, .slice a m c] w (NextEnd w (nextP (prN n) k))
  put : ∀ (w : World) {S S2 S3 : Nat → Prop} {v : Value} {n : Nd} {a : Option Addr} {m c : Nat} {k : List UInt8} {a2 : Option Addr} {m2 c2 : Nat} {x : List Ver}, RdN S w v n → fitN n → RdS S2 w (.slice a m c) k → k.length ≤ 1000 → RdL Elt.ver S3 w (.slice a2 m2 c2) x → smallV x →
    Calls Try.prog 6 #[v, .slice a m c, .slice a2 m2 c2] w (NodeEnd w (PutIs n k x))
  delete : ∀ (w : World) {S S2 : Nat → Prop} {v : Value} {n : Nd} {a : Option Addr} {m c : Nat} {k : List UInt8}, RdN S w v n → fitN n → RdS S2 w (.slice a m c) k → k.length ≤ 1000 →
    Calls Try.prog 5 #[v, .slice a m c] w (NodeEnd w (DelIs n k))
structure TreC : Prop extends TreC0 where
  awake : ∀ (w : World), Calls Try.prog 4 #[] w fun e w' => e = .returned (.bool true) ∧ Below w.heap.size w w'
end Go.Proofs.Yticngbgjfdcnhaa
