/-
  PLAIN MATHEMATICS: versions that may be: how many there are up to a stamp; of parts, of one more, behind a vacuum. No program is named here; no condition beyond each theorem's own.
-/
import Derived.Test.YtemdcpajcaaphaaVerM
import Derived.Test.YtemdcpajcaaphaaVerD
import Derived.Test.YtemdcpajcaaphaaVerE
namespace Go.Proofs.Ytemdcpajcaaphaa
theorem lastAt_spec (l : List Ver) (s : Int) : ∀ k, k ≤ l.length → (∀ i (h : i < l.length), lastAt l s k ≤ i → i < k → ¬ l[i].stamp ≤ s) ∧ (∀ m (h : m < l.length), lastAt l s k = m + 1 → l[m].stamp ≤ s)
  | 0, _ => ⟨fun i _ _ h => absurd h (Nat.not_lt_zero _), fun m _ h => by simp [lastAt] at h⟩
  | k + 1, hk => by
    obtain ⟨h1, h2⟩ := lastAt_spec l s k (by omega)
    by_cases hs : l[k].stamp ≤ s
    · rw [lastAt_yes (by omega) hs]
      exact ⟨fun i _ h3 h4 => by omega, fun m hm e => by obtain rfl : m = k := by omega
                                                         exact hs⟩
    · rw [lastAt_no (by omega) hs]
      refine ⟨fun i hi h3 h4 => ?_, h2⟩
      rcases Nat.lt_or_ge i k with h5 | h5
      · exact h1 i hi h3 h5
      · obtain rfl : i = k := by omega
        exact hs
theorem okV_lt {l : List Ver} (hk : okV l) : ∀ d i (h : i + d < l.length), 0 < d → l[i].stamp < l[i + d].stamp
  | 0, _, _, h => absurd h (Nat.lt_irrefl _)
  | d + 1, i, h, _ => by
    have h1 := (hk (i + d + 1) h).2 (by omega)
    simp only [Nat.add_sub_cancel] at h1
    rcases Nat.eq_zero_or_pos d with rfl | h2
    · exact h1
    · have := okV_lt hk d i (by omega) h2
      exact Int.lt_trans this h1
theorem okV_mono {l : List Ver} (hk : okV l) {i j : Nat} (hij : i < j) (hj : j < l.length) : (l[i]'(by omega)).stamp < l[j].stamp := by
  have := okV_lt hk (j - i) i (by omega) (by omega)
  simpa [show i + (j - i) = j by omega] using this
/-- Those up to a stamp are the first ones. -/
theorem cnt_iff {l : List Ver} (hk : okV l) (s : Int) {i : Nat} (h : i < l.length) : l[i].stamp ≤ s ↔ i < cntV l s := by
  obtain ⟨h1, h2⟩ := lastAt_spec l s l.length (Nat.le_refl _)
  constructor
  · intro hs
    rcases Nat.lt_or_ge i (cntV l s) with h3 | h3
    · exact h3
    · exact absurd hs (h1 i h h3 h)
  · intro hi
    have hle := cntV_le l s
    obtain ⟨m, hm⟩ : ∃ m, cntV l s = m + 1 := ⟨cntV l s - 1, by omega⟩
    have hms := h2 m (by omega) hm
    rcases Nat.lt_or_ge i m with h3 | h3
    · have := okV_mono hk h3 (by omega)
      omega
    · obtain rfl : i = m := by omega
      exact hms
theorem cnt_eq {l : List Ver} (hk : okV l) {s : Int} {c : Nat} (hc : c ≤ l.length) (h : ∀ i (h : i < l.length), l[i].stamp ≤ s ↔ i < c) : cntV l s = c := by
  have hle := cntV_le l s
  rcases Nat.lt_trichotomy (cntV l s) c with h1 | h1 | h1
  · have h2 := (h (cntV l s) (by omega)).2 h1
    have := (cnt_iff hk s (by omega)).1 h2
    omega
  · exact h1
  · have h2 := (cnt_iff hk s (i := c) (by omega)).2 h1
    have := (h c (by omega)).1 h2
    omega
theorem okV_take {l : List Ver} (hk : okV l) (k : Nat) : okV (l.take k) := fun i h => by
  have hl : i < l.length := by rw [List.length_take] at h; omega
  rw [List.getElem_take]
  refine ⟨(hk i hl).1, fun h0 => ?_⟩
  rw [List.getElem_take]
  exact (hk i hl).2 h0
theorem okV_drop {l : List Ver} (hk : okV l) (k : Nat) : okV (l.drop k) := fun i h => by
  have hl : k + i < l.length := by rw [List.length_drop] at h; omega
  rw [List.getElem_drop]
  refine ⟨(hk _ hl).1, fun h0 => ?_⟩
  rw [List.getElem_drop]
  exact okV_mono hk (by omega) hl
theorem okV_snoc {l : List Ver} (hk : okV l) {x : Ver} (hx : mayV x) (hs : ∀ y ∈ l, y.stamp < x.stamp) : okV (l ++ [x]) := fun i h => by
  rw [List.length_append] at h
  simp only [List.length_cons, List.length_nil] at h
  rcases Nat.lt_or_ge i l.length with h1 | h1
  · rw [List.getElem_append_left h1]
    refine ⟨(hk i h1).1, fun h0 => ?_⟩
    rw [List.getElem_append_left (by omega)]
    exact (hk i h1).2 h0
  · obtain rfl : i = l.length := by omega
    rw [List.getElem_append_right (Nat.le_refl _)]
    simp only [Nat.sub_self, List.getElem_cons_zero]
    refine ⟨hx, fun h0 => ?_⟩
    rw [List.getElem_append_left (by omega)]
    exact hs _ (List.getElem_mem _)
theorem cnt_take {l : List Ver} (hk : okV l) (k : Nat) (s : Int) : cntV (l.take k) s = min k (cntV l s) := by
  have hle := cntV_le l s
  refine cnt_eq (okV_take hk k) (by rw [List.length_take]; omega) (fun i h => ?_)
  rw [List.length_take] at h
  rw [List.getElem_take, cnt_iff hk s (by omega)]
  omega
theorem cnt_drop {l : List Ver} (hk : okV l) (k : Nat) (s : Int) : cntV (l.drop k) s = cntV l s - k := by
  have hle := cntV_le l s
  refine cnt_eq (okV_drop hk k) (by rw [List.length_drop]; omega) (fun i h => ?_)
  rw [List.length_drop] at h
  rw [List.getElem_drop, cnt_iff hk s (by omega)]
  omega
theorem cnt_snoc {l : List Ver} (hk : okV l) {x : Ver} (hx : mayV x) (hs : ∀ y ∈ l, y.stamp < x.stamp) (s : Int) : cntV (l ++ [x]) s = if x.stamp ≤ s then l.length + 1 else cntV l s := by
  have hle := cntV_le l s
  refine cnt_eq (okV_snoc hk hx hs) ?_ (fun i h => ?_)
  · rw [List.length_append]; simp; split <;> omega
  · rw [List.length_append] at h
    simp only [List.length_cons, List.length_nil] at h
    rcases Nat.lt_or_ge i l.length with h1 | h1
    · rw [List.getElem_append_left h1, cnt_iff hk s h1]
      split
      · rename_i hxs
        have h2 := hs _ (List.getElem_mem h1)
        have := (cnt_iff hk s h1).1 (by omega)
        omega
      · exact Iff.rfl
    · obtain rfl : i = l.length := by omega
      rw [List.getElem_append_right (Nat.le_refl _)]
      simp only [Nat.sub_self, List.getElem_cons_zero]
      split
      · rename_i hxs; exact ⟨fun _ => Nat.lt_succ_self _, fun _ => hxs⟩
      · rename_i hxs; exact ⟨fun h => absurd h hxs, fun h => by omega⟩
/-- What is read hangs on how many there are up to the stamp alone. -/
def readC (l : List Ver) (c : Nat) : Option (List UInt8) := match l[c - 1]? with
  | some x => if c = 0 then none else if x.gone then none else some x.value
  | none => none
theorem readV_cnt {l : List Ver} (hk : okV l) (s : Int) : readV l s = readC l (cntV l s) := by
  have hle := cntV_le l s
  unfold readC
  cases hc : cntV l s with
  | zero => rw [readV_zero hc]; simp; cases l[0]? <;> rfl
  | succ m =>
    have hm : m < l.length := by omega
    rw [Nat.add_sub_cancel, List.getElem?_eq_getElem hm]
    simp only [Nat.add_eq_zero_iff, Nat.one_ne_zero, and_false, if_false]
    cases hg : l[m].gone with
    | true => rw [readV_gone hc hm hg]; rfl
    | false => rw [readV_some hk hc hm hg]; rfl
/-- One is newer than a stamp just if not all are up to it. -/
theorem newer_cnt {l : List Ver} (hk : okV l) (s : Int) : newerV l s = decide (cntV l s < l.length) := by
  have hle := cntV_le l s
  rcases Nat.eq_zero_or_pos l.length with h0 | h0
  · obtain rfl : l = [] := List.eq_nil_of_length_eq_zero h0
    rw [newerV_nil]; rfl
  · obtain ⟨m, hm⟩ : ∃ m, l.length = m + 1 := ⟨l.length - 1, by omega⟩
    rw [newerV_last hm, decide_eq_true hk, Bool.true_and]
    have := cnt_iff hk s (i := m) (by omega)
    rw [decide_eq_decide]
    constructor
    · intro h; have := mt this.2 (by omega); omega
    · intro h; have := mt this.1 (by omega); omega
theorem vacV_ok {l : List Ver} (hk : okV l) (s : Int) : okV (vacV l s) ∧ ∀ y ∈ vacV l s, y ∈ l := by
  cases hc : cntV l s with
  | zero => rw [vacV_zero hc]; exact ⟨hk, fun _ h => h⟩
  | succ m =>
    have hm : m < l.length := by have := cntV_le l s; omega
    cases hg : l[m].gone with
    | true => rw [vacV_gone hk hc hm hg]; exact ⟨okV_drop hk _, fun _ h => List.mem_of_mem_drop h⟩
    | false => rw [vacV_some hk hc hm hg]; exact ⟨okV_drop hk _, fun _ h => List.mem_of_mem_drop h⟩
theorem vacV_len (l : List Ver) (s : Int) : (vacV l s).length ≤ l.length := by
  unfold vacV
  split
  · split
    · split <;> simp
    · exact Nat.le_refl _
  · exact Nat.le_refl _
theorem instV_yes {l : List Ver} {x : Ver} (hk : okV l) (hm : mayV x) (hs : ∀ y ∈ l, y.stamp < x.stamp) : instV l x = (l ++ [x], 0) := by
  rcases Nat.eq_zero_or_pos l.length with h0 | h0
  · exact instV_nil h0 hm
  · obtain ⟨m, hml⟩ : ∃ m, l.length = m + 1 := ⟨l.length - 1, by omega⟩
    have := hs (l[m]'(by omega)) (List.getElem_mem _)
    exact instV_new hk hm hml (by omega)
theorem vac_snoc {l : List Ver} {x : Ver} (hk : okV l) (hm : mayV x) (hs : ∀ y ∈ l, y.stamp < x.stamp) {o : Int} (ho : o < x.stamp) : vacV (l ++ [x]) o = vacV l o ++ [x] := by
  have hc := cnt_snoc hk hm hs o
  rw [if_neg (by omega)] at hc
  have hk2 := okV_snoc hk hm hs
  cases hl : cntV l o with
  | zero => rw [vacV_zero hl, vacV_zero (hc.trans hl)]
  | succ m =>
    have hml : m < l.length := by have := cntV_le l o; omega
    have hml2 : m < (l ++ [x]).length := by rw [List.length_append]; omega
    have he : (l ++ [x])[m] = l[m] := List.getElem_append_left hml
    cases hg : l[m].gone with
    | true => rw [vacV_gone hk hl hml hg, vacV_gone hk2 (hc.trans hl) hml2 (by rw [he]; exact hg), List.drop_append_of_le_length (by omega)]
    | false => rw [vacV_some hk hl hml hg, vacV_some hk2 (hc.trans hl) hml2 (by rw [he]; exact hg), List.drop_append_of_le_length (by omega)]
theorem instV_cases (l : List Ver) (x : Ver) : (∃ er, er ≠ 0 ∧ instV l x = (l, er)) ∨ (instV l x = (l ++ [x], 0) ∧ okV l ∧ mayV x ∧ ∀ y ∈ l, y.stamp < x.stamp) := by
  by_cases h : okV l ∧ mayV x
  · obtain ⟨hk, hm⟩ := h
    rcases Nat.eq_zero_or_pos l.length with h0 | h0
    · refine .inr ⟨instV_nil h0 hm, hk, hm, ?_⟩
      obtain rfl : l = [] := List.eq_nil_of_length_eq_zero h0
      simp
    · obtain ⟨m, hml⟩ : ∃ m, l.length = m + 1 := ⟨l.length - 1, by omega⟩
      by_cases hs : x.stamp ≤ (l[m]'(by omega)).stamp
      · exact .inl ⟨50, by omega, instV_old hk hm hml hs⟩
      · refine .inr ⟨instV_new hk hm hml hs, hk, hm, fun y hy => ?_⟩
        obtain ⟨r, hr, rfl⟩ := List.mem_iff_getElem.1 hy
        rcases Nat.lt_or_ge r m with h3 | h3
        · have := okV_mono hk h3 (by omega); omega
        · obtain rfl : r = m := by omega
          omega
  · exact .inl ⟨1, by omega, instV_arg h⟩
section
variable {l : List Ver} {x : Ver} (hk : okV l) (hx : mayV x) (hs : ∀ y ∈ l, y.stamp < x.stamp)
include hk hx hs
theorem read_snoc_gone {s : Int} (h : x.stamp ≤ s) (hg : x.gone = true) : readV (l ++ [x]) s = none := by
  have hc := cnt_snoc hk hx hs s
  rw [if_pos h] at hc
  exact readV_gone hc (by simp) (by simp [hg])
theorem read_snoc_some {s : Int} (h : x.stamp ≤ s) (hg : x.gone = false) : readV (l ++ [x]) s = some x.value := by
  have hc := cnt_snoc hk hx hs s
  rw [if_pos h] at hc
  rw [readV_some (okV_snoc hk hx hs) hc (by simp) (by simp [hg])]
  simp
theorem read_snoc_old {s : Int} (h : ¬ x.stamp ≤ s) : readV (l ++ [x]) s = readV l s := by
  have hc := cnt_snoc hk hx hs s
  rw [if_neg h] at hc
  rw [readV_cnt (okV_snoc hk hx hs), readV_cnt hk, hc]
  have hle := cntV_le l s
  unfold readC
  rcases Nat.lt_or_ge (cntV l s - 1) l.length with h1 | h1
  · rw [List.getElem?_append_left h1]
  · have h0 : cntV l s = 0 := by omega
    have hl0 : l = [] := List.eq_nil_of_length_eq_zero (by omega)
    subst hl0
    simp [h0]
theorem newer_snoc {s : Int} : newerV (l ++ [x]) s = decide (s < x.stamp) := by
  rw [newer_cnt (okV_snoc hk hx hs), cnt_snoc hk hx hs s, decide_eq_decide, List.length_append]
  have hle := cntV_le l s
  simp only [List.length_cons, List.length_nil]
  split <;> omega
end
theorem read_drop {l : List Ver} (hk : okV l) {k : Nat} {s : Int} (h : k < cntV l s) : readV (l.drop k) s = readV l s := by
  have hle := cntV_le l s
  rw [readV_cnt (okV_drop hk k), readV_cnt hk, cnt_drop hk]
  unfold readC
  rw [List.getElem?_drop, show k + (cntV l s - k - 1) = cntV l s - 1 by omega]
  rw [List.getElem?_eq_getElem (by omega)]
  simp only [show ¬ cntV l s - k = 0 by omega, show ¬ cntV l s = 0 by omega, if_false]
theorem read_drop_all {l : List Ver} (hk : okV l) {s : Int} : readV (l.drop (cntV l s)) s = none := by
  refine readV_zero ?_
  rw [cnt_drop hk]; omega
theorem newer_drop {l : List Ver} (hk : okV l) {k : Nat} {s : Int} (h : k ≤ cntV l s) : newerV (l.drop k) s = newerV l s := by
  have hle := cntV_le l s
  rw [newer_cnt (okV_drop hk k), newer_cnt hk, cnt_drop hk, List.length_drop, decide_eq_decide]
  omega
theorem cnt_mono {l : List Ver} (hk : okV l) {s t : Int} (h : s ≤ t) : cntV l s ≤ cntV l t := by
  have h1 := cntV_le l s
  rcases Nat.eq_zero_or_pos (cntV l s) with h0 | h0
  · omega
  · have h2 := (cnt_iff hk s (i := cntV l s - 1) (by omega)).2 (by omega)
    have := (cnt_iff hk t (i := cntV l s - 1) (by omega)).1 (by omega)
    omega
/-- Behind a vacuum: from its stamp on all is read as ahead; one is left at most that is not above it; a second one does nothing. -/
theorem vac_all {l : List Ver} (hk : okV l) (o : Int) : vacV (vacV l o) o = vacV l o ∧ (∀ h : 1 < (vacV l o).length, o < (vacV l o)[1].stamp) ∧ ∀ s, o ≤ s → readV (vacV l o) s = readV l s ∧ newerV (vacV l o) s = newerV l s := by
  have hkv := (vacV_ok hk o).1
  cases hc : cntV l o with
  | zero =>
    rw [vacV_zero hc]
    refine ⟨vacV_zero hc, fun h => ?_, fun s _ => ⟨rfl, rfl⟩⟩
    have := mt (cnt_iff hk o h).1 (by omega)
    omega
  | succ m =>
    have hml : m < l.length := by have := cntV_le l o; omega
    cases hg : l[m].gone with
    | true =>
      have e := vacV_gone hk hc hml hg
      have hz : cntV (l.drop (m + 1)) o = 0 := by rw [cnt_drop hk, hc]; omega
      simp only [e]
      refine ⟨vacV_zero hz, fun h => ?_, fun s hs => ?_⟩
      · rw [List.length_drop] at h
        rw [List.getElem_drop]
        have := mt (cnt_iff hk o (i := m + 1 + 1) (by omega)).1 (by omega)
        omega
      · have hm := cnt_mono hk hs
        refine ⟨?_, newer_drop hk (by omega)⟩
        rcases Nat.lt_or_ge (m + 1) (cntV l s) with h1 | h1
        · exact read_drop hk h1
        · have h2 : cntV l s = m + 1 := by omega
          rw [← h2, read_drop_all hk, readV_gone h2 hml hg]
    | false =>
      have e := vacV_some hk hc hml hg
      have hz : cntV (l.drop m) o = 0 + 1 := by rw [cnt_drop hk, hc]; omega
      simp only [e]
      refine ⟨?_, fun h => ?_, fun s hs => ?_⟩
      · rw [vacV_some (okV_drop hk m) hz (by rw [List.length_drop]; omega) (by rw [List.getElem_drop]; simpa using hg)]
        rfl
      · rw [List.length_drop] at h
        rw [List.getElem_drop]
        have := mt (cnt_iff hk o (i := m + 1) (by omega)).1 (by omega)
        omega
      · have hm := cnt_mono hk hs
        exact ⟨read_drop hk (by omega), newer_drop hk (by omega)⟩
theorem vac_snoc_gone {l : List Ver} {x : Ver} (hk : okV l) (hm : mayV x) (hs : ∀ y ∈ l, y.stamp < x.stamp) (hg : x.gone = true) : vacV (l ++ [x]) x.stamp = [] := by
  have hc := cnt_snoc hk hm hs x.stamp
  rw [if_pos (Int.le_refl _)] at hc
  rw [vacV_gone (okV_snoc hk hm hs) hc (by simp) (by simp [hg])]
  simp
end Go.Proofs.Ytemdcpajcaaphaa
