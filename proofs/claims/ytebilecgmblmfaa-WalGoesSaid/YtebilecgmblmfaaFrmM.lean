/-
  PLAIN MATHEMATICS: a text's frame, the text that bytes begin with, the texts that bytes are; what is written is read, and what is cut is not. No program is named here; no condition beyond each theorem's own.
-/
import Derived.Test.YtebilecgmblmfaaOctM
import Derived.Test.YtebilecgmblmfaaSumM
namespace Go.Proofs.Ytebilecgmblmfaa

/-- The four bytes of a text's sum, the lowest first. -/
def sumB (ts : List UInt8) : List UInt8 := [UInt8.ofNat (sumT ts % 256), UInt8.ofNat (sumT ts / 256 % 256), UInt8.ofNat (sumT ts / 65536 % 256), UInt8.ofNat (sumT ts / 16777216 % 256)]
theorem sumB_len (ts : List UInt8) : (sumB ts).length = 4 := rfl
theorem sumB_inj {a b : List UInt8} (h : sumB a = sumB b) : sumT a = sumT b := by
  have ha := (sumT_lt a).1
  have hb := (sumT_lt b).1
  have e : ∀ {m n : Nat}, m < 256 → n < 256 → UInt8.ofNat m = UInt8.ofNat n → m = n := fun hm hn h => by
    rw [← toNat_ofNat_lt hm, ← toNat_ofNat_lt hn, h]
  simp only [sumB, List.cons.injEq, and_true] at h
  obtain ⟨h1, h2, h3, h4⟩ := h
  have := e (by omega) (by omega) h1
  have := e (by omega) (by omega) h2
  have := e (by omega) (by omega) h3
  have := e (by omega) (by omega) h4
  omega
/-- A text's frame. -/
def frameB (ts : List UInt8) : List UInt8 := textB ts ++ sumB ts
theorem frameB_len (ts : List UInt8) : (frameB ts).length = (numB ts.length).length + ts.length + 4 := by simp [frameB, textB, sumB_len]; omega
theorem numB_len2 {n : Nat} (h : n ≤ 2000) : (numB n).length ≤ 2 := numB_len 1 n (by omega)
theorem frameB_le {ts : List UInt8} (h : ts.length ≤ 2000) : 5 ≤ (frameB ts).length ∧ (frameB ts).length ≤ ts.length + 6 := by
  have := numB_pos ts.length
  have := numB_len2 h
  rw [frameB_len]; omega

/-- The text that bytes begin with the frame of. -/
def readF (b : List UInt8) : Option (List UInt8) :=
  if (takeTextS b).1.length ≤ 2000 ∧ frameB (takeTextS b).1 = b.take (frameB (takeTextS b).1).length then some (takeTextS b).1 else none

theorem readF_frame {ts : List UInt8} (r : List UInt8) (h : ts.length ≤ 2000) : readF (frameB ts ++ r) = some ts := by
  have e : takeTextS (frameB ts ++ r) = (ts, sumB ts ++ r, 0) := by
    unfold frameB; rw [List.append_assoc]; exact takeTextS_textB _ _ (by omega)
  simp [readF, e, h]
theorem readF_some {b ts : List UInt8} (h : readF b = some ts) : ts.length ≤ 2000 ∧ b = frameB ts ++ b.drop (frameB ts).length := by
  unfold readF at h
  split at h
  · rename_i hc
    simp at h
    rw [h] at hc
    refine ⟨hc.1, ?_⟩
    conv => rhs; arg 1; rw [hc.2]
    exact (List.take_append_drop _ _).symm
  · simp at h
theorem readF_iff {b ts : List UInt8} : readF b = some ts ↔ ts.length ≤ 2000 ∧ ∃ r, b = frameB ts ++ r :=
  ⟨fun h => ⟨(readF_some h).1, _, (readF_some h).2⟩, fun ⟨h, r, e⟩ => by rw [e]; exact readF_frame r h⟩
theorem readF_none {b : List UInt8} : readF b = none ↔ ∀ ts r, ts.length ≤ 2000 → b ≠ frameB ts ++ r := by
  constructor
  · intro h ts r hl e
    rw [e, readF_frame r hl] at h; cases h
  · intro h
    cases hd : readF b with
    | none => rfl
    | some ts => exact absurd (readF_some hd).2 (h ts _ (readF_some hd).1)
theorem readF_nil : readF [] = none := by
  rw [readF_none]
  intro ts r hl e
  have := congrArg List.length e
  have := frameB_le hl
  rw [List.length_append] at *
  simp at *
  omega
theorem readF_len {b ts : List UInt8} (h : readF b = some ts) : (frameB ts).length ≤ b.length ∧ 5 ≤ (frameB ts).length ∧ (frameB ts).length ≤ 2006 ∧ ts.length ≤ 2000 := by
  have h1 := readF_some h
  have h2 := frameB_le h1.1
  have h3 := congrArg List.length h1.2
  rw [List.length_append] at h3
  omega
/-- Of a frame a beginning, but the whole, is none. -/
theorem readF_cut {ts : List UInt8} (m : Nat) (h : ts.length ≤ 2000) (hm : m < (frameB ts).length) : readF ((frameB ts).take m) = none := by
  cases hd : readF ((frameB ts).take m) with
  | none => rfl
  | some t =>
    exfalso
    have h1 := readF_some hd
    have h2 := (readF_len hd).1
    have e : frameB ts = frameB t ++ (((frameB ts).take m).drop (frameB t).length ++ (frameB ts).drop m) := by
      rw [← List.append_assoc, ← h1.2, List.take_append_drop]
    have h3 := readF_frame (((frameB ts).take m).drop (frameB t).length ++ (frameB ts).drop m) h1.1
    rw [← e] at h3
    have h4 := readF_frame [] h
    rw [List.append_nil, h3] at h4
    cases h4
    rw [List.length_take] at h2
    omega
/-- What is behind the longest frame is nothing to it. -/
theorem readF_max (b : List UInt8) (m : Nat) (hm : 2006 ≤ m) : readF (b.take m) = readF b := by
  cases hd : readF b with
  | none =>
    rw [readF_none] at hd ⊢
    intro ts r hl e
    refine hd ts (r ++ b.drop m) hl ?_
    rw [← List.append_assoc, ← e, List.take_append_drop]
  | some ts =>
    have h1 := readF_some hd
    have h2 := readF_len hd
    rw [readF_iff]
    refine ⟨h1.1, (b.take m).drop (frameB ts).length, ?_⟩
    have e : frameB ts = (b.take m).take (frameB ts).length := by
      rw [List.take_take, Nat.min_eq_left (by omega)]
      conv => rhs; rw [h1.2]
      simp
    conv => rhs; arg 1; rw [e]
    exact (List.take_append_drop _ _).symm

/-- How first goes about it: of the two bytes ahead. -/
theorem readF_head {b : List UInt8} (h : (takeS (b.take 2)).2.2 ≠ 0 ∨ 2000 < (takeS (b.take 2)).1) : readF b = none := by
  rw [readF_none]
  rintro ts r hl rfl
  have hn := numB_len2 hl
  have e : (frameB ts ++ r).take 2 = numB ts.length ++ (ts ++ sumB ts ++ r).take (2 - (numB ts.length).length) := by
    unfold frameB textB
    rw [List.append_assoc, List.append_assoc, List.take_append, List.take_of_length_le hn, List.append_assoc]
  rw [e, takeS_numB _ _ (by omega)] at h
  simp at h
  omega
theorem takeS_ok {b : List UInt8} (h : (takeS b).2.2 = 0) : (takeS b).1 ≤ 2147483647 ∧ b = numB (takeS b).1 ++ b.drop (numB (takeS b).1).length := by
  unfold takeS at h ⊢
  cases hd : takeN b with
  | none => rw [hd] at h; simp at h
  | some p =>
    obtain ⟨n, s⟩ := p
    have h1 := takeN_some hd
    have h2 := takeN_pre hd
    simp only
    rw [← h1.2.1]
    exact ⟨h1.1, h2⟩
theorem head_pre {b : List UInt8} (h : (takeS (b.take 2)).2.2 = 0) : b = numB (takeS (b.take 2)).1 ++ b.drop (numB (takeS (b.take 2)).1).length := by
  have h1 := (takeS_ok h).2
  generalize (takeS (b.take 2)).1 = n at h1 ⊢
  have h2 : numB n <+: b := List.IsPrefix.trans ⟨_, h1.symm⟩ (List.take_prefix 2 b)
  have e := List.prefix_iff_eq_take.1 h2
  conv => rhs; arg 1; rw [e]
  exact (List.take_append_drop _ _).symm
theorem readF_short {b : List UInt8} {n s : Nat} (h0 : (takeS (b.take 2)).2.2 = 0) (hn : (takeS (b.take 2)).1 = n) (hs : (numB n).length = s) (hl : b.length < s + n + 4) : readF b = none := by
  have h1 := head_pre h0
  have h2 := (takeS_ok h0).1
  rw [hn] at h1 h2
  rw [readF_none]
  intro ts r ht e
  have h3 : n = ts.length := by
    refine numB_inj (r := b.drop (numB n).length) (s := ts ++ sumB ts ++ r) h2 (by omega) ?_
    rw [← h1, e]
    simp [frameB, textB]
  have h4 := congrArg List.length e
  rw [List.length_append, frameB_len, ← h3] at h4
  omega
theorem readF_tail {b : List UInt8} {n s : Nat} (h0 : (takeS (b.take 2)).2.2 = 0) (hn : (takeS (b.take 2)).1 = n) (hs : (numB n).length = s) (h5 : n ≤ 2000) (hl : s + n + 4 ≤ b.length) :
    readF b = if (b.drop (s + n)).take 4 = sumB ((b.drop s).take n) then some ((b.drop s).take n) else none := by
  have h1 := head_pre h0
  have h2 := (takeS_ok h0).1
  rw [hn] at h1 h2
  rw [hs] at h1
  have hlen : ((b.drop s).take n).length = n := by rw [List.length_take, List.length_drop]; omega
  split
  · rename_i he
    rw [readF_iff]
    refine ⟨by omega, (b.drop (s + n)).drop 4, ?_⟩
    unfold frameB textB
    rw [← he, hlen, List.append_assoc, List.append_assoc, List.take_append_drop, ← List.drop_drop, List.take_append_drop, ← h1]
  · rename_i he
    rw [readF_none]
    intro ts r ht e
    have h3 : n = ts.length := by
      refine numB_inj (r := b.drop s) (s := ts ++ sumB ts ++ r) h2 (by omega) ?_
      rw [← h1, e]
      simp [frameB, textB]
    apply he
    subst h3
    have e1 : b.drop s = ts ++ sumB ts ++ r := by
      rw [e, ← hs]
      simp [frameB, textB, List.append_assoc]
    rw [← List.drop_drop, e1]
    have e2 : (sumB ts ++ r).take 4 = sumB ts := by simp [sumB]
    simpa using e2

/-- The texts that bytes are, as far as frames are whole. -/
def textsF (b : List UInt8) : List (List UInt8) :=
  match _h : readF b with
  | none => []
  | some ts => ts :: textsF (b.drop (frameB ts).length)
termination_by b.length
decreasing_by
  have := readF_len _h
  rw [List.length_drop]; omega
theorem textsF_none {b : List UInt8} (h : readF b = none) : textsF b = [] := by
  rw [textsF]
  split
  · rfl
  · rename_i h2; rw [h] at h2; cases h2
theorem textsF_some {b ts : List UInt8} (h : readF b = some ts) : textsF b = ts :: textsF (b.drop (frameB ts).length) := by
  rw [textsF]
  split
  · rename_i h2; rw [h] at h2; cases h2
  · rename_i t h2; rw [h] at h2; cases h2; rfl
theorem textsF_frame {ts : List UInt8} (r : List UInt8) (h : ts.length ≤ 2000) : textsF (frameB ts ++ r) = ts :: textsF r := by
  rw [textsF_some (readF_frame r h)]
  simp
/-- Frames, one behind the other. -/
def framesB (l : List (List UInt8)) : List UInt8 := (l.map frameB).flatten
theorem framesB_nil : framesB [] = [] := rfl
theorem framesB_cons (t : List UInt8) (l : List (List UInt8)) : framesB (t :: l) = frameB t ++ framesB l := rfl
theorem framesB_append (l k : List (List UInt8)) : framesB (l ++ k) = framesB l ++ framesB k := by simp [framesB]
theorem textsF_frames : ∀ (l : List (List UInt8)) (r : List UInt8), (∀ t ∈ l, t.length ≤ 2000) → textsF (framesB l ++ r) = l ++ textsF r := by
  intro l
  induction l with
  | nil => intro r _; rfl
  | cons t l ih =>
    intro r h
    rw [framesB_cons, List.append_assoc, textsF_frame _ (h t (by simp)), ih r (fun t ht => h t (by simp [ht]))]
    rfl
theorem textsF_pre : ∀ (m : Nat) (b : List UInt8), b.length ≤ m → (∀ t ∈ textsF b, t.length ≤ 2000) ∧ ∃ r, b = framesB (textsF b) ++ r ∧ readF r = none := by
  intro m
  induction m with
  | zero =>
    intro b hb
    obtain rfl : b = [] := List.eq_nil_of_length_eq_zero (by omega)
    rw [textsF_none readF_nil]
    exact ⟨by simp, [], rfl, readF_nil⟩
  | succ m ih =>
    intro b hb
    cases hd : readF b with
    | none => rw [textsF_none hd]; exact ⟨by simp, b, rfl, hd⟩
    | some ts =>
      have h1 := readF_some hd
      have h2 := readF_len hd
      obtain ⟨h3, r, h4, h5⟩ := ih (b.drop (frameB ts).length) (by rw [List.length_drop]; omega)
      rw [textsF_some hd]
      refine ⟨?_, r, ?_, h5⟩
      · intro t ht
        rcases List.mem_cons.1 ht with rfl | ht
        · exact h1.1
        · exact h3 t ht
      · rw [framesB_cons, List.append_assoc, ← h4]; exact h1.2
theorem textsF_le (b : List UInt8) : ∀ t ∈ textsF b, t.length ≤ 2000 := (textsF_pre b.length b (Nat.le_refl _)).1
theorem textsF_take (b : List UInt8) : framesB (textsF b) = b.take (framesB (textsF b)).length ∧ (framesB (textsF b)).length ≤ b.length := by
  obtain ⟨_, r, h, _⟩ := textsF_pre b.length b (Nat.le_refl _)
  constructor
  · conv => rhs; arg 2; rw [h]
    simp
  · have := congrArg List.length h
    rw [List.length_append] at this; omega
theorem framesB_len5 (l : List (List UInt8)) (h : ∀ t ∈ l, t.length ≤ 2000) : 5 * l.length ≤ (framesB l).length := by
  induction l with
  | nil => simp
  | cons t l ih =>
    rw [framesB_cons, List.length_append, List.length_cons]
    have := frameB_le (h t (by simp))
    have := ih (fun t ht => h t (by simp [ht]))
    omega
theorem textsF_count (b : List UInt8) : 5 * (textsF b).length ≤ b.length := Nat.le_trans (framesB_len5 _ (textsF_le b)) (textsF_take b).2
/-- Frames that are cut: those that are whole. -/
theorem textsF_cut (l : List (List UInt8)) (n k : Nat) (h : ∀ t ∈ l, t.length ≤ 2000) (h1 : (framesB (l.take k)).length ≤ n) (h2 : l.length ≤ k ∨ n < (framesB (l.take (k + 1))).length) :
    textsF ((framesB l).take n) = l.take k := by
  have hk : ∀ t ∈ l.take k, t.length ≤ 2000 := fun t ht => h t (List.mem_of_mem_take ht)
  have e : (framesB l).take n = framesB (l.take k) ++ (framesB (l.drop k)).take (n - (framesB (l.take k)).length) := by
    conv => lhs; arg 2; rw [← List.take_append_drop k l, framesB_append]
    rw [List.take_append, List.take_of_length_le h1]
  rw [e, textsF_frames _ _ hk]
  have hn : readF ((framesB (l.drop k)).take (n - (framesB (l.take k)).length)) = none := by
    rcases Nat.lt_or_ge k l.length with hlt | hge
    · have h3 : n < (framesB (l.take (k + 1))).length := by rcases h2 with h2 | h2 <;> omega
      rw [List.take_succ_eq_append_getElem hlt, framesB_append, List.length_append, show framesB [l[k]] = frameB l[k] by simp [framesB]] at h3
      rw [List.drop_eq_getElem_cons hlt, framesB_cons, List.take_append_of_le_length (by omega)]
      exact readF_cut _ (h _ (List.getElem_mem hlt)) (by omega)
    · rw [List.drop_eq_nil_of_le hge]
      simpa [framesB] using readF_nil
  rw [textsF_none hn, List.append_nil]

/-- A frame of which a byte behind the length is another one. -/
theorem readF_changed {ts : List UInt8} (h : ts.length ≤ 2000) (j : Nat) (hj : j < ts.length + 4) (x : UInt8) (hx : (frameB ts)[(numB ts.length).length + j]? ≠ some x) :
    readF ((frameB ts).set ((numB ts.length).length + j) x) = none := by
  rw [readF_none]
  intro t r ht e
  have e0 : frameB ts = numB ts.length ++ (ts ++ sumB ts) := by simp [frameB, textB]
  have e1 : (frameB ts).set ((numB ts.length).length + j) x = numB ts.length ++ (ts ++ sumB ts).set j x := by
    rw [e0, List.set_append_right _ _ (by omega)]
    simp
  have hx' : (ts ++ sumB ts)[j]? ≠ some x := by
    rw [e0, List.getElem?_append_right (by omega)] at hx
    simpa using hx
  rw [e1] at e
  have hl : ts.length = t.length := by
    refine numB_inj (r := (ts ++ sumB ts).set j x) (s := t ++ sumB t ++ r) (by omega) (by omega) ?_
    rw [e]; simp [frameB, textB]
  have e2 : (ts ++ sumB ts).set j x = t ++ (sumB t ++ r) := by
    have : numB ts.length ++ (ts ++ sumB ts).set j x = numB ts.length ++ (t ++ (sumB t ++ r)) := by rw [e, frameB, textB, ← hl]; simp
    exact List.append_cancel_left this
  have hr : r = [] := by
    have := congrArg List.length e2
    simp [sumB_len] at this
    exact List.eq_nil_of_length_eq_zero (by omega)
  subst hr
  rw [List.append_nil] at e2
  by_cases hjl : j < ts.length
  · rw [List.set_append_left _ _ hjl] at e2
    have e3 := List.append_inj e2 (by simpa using hl)
    have hs := sumB_inj e3.2
    rw [← e3.1] at hs
    have p1 : ts = ts.take j ++ ts[j] :: ts.drop (j + 1) := by simp
    have p2 : ts.set j x = ts.take j ++ x :: ts.drop (j + 1) := by
      rw [List.set_eq_take_append_cons_drop, if_pos hjl]
    rw [p2] at hs
    rw [p1] at hs
    have := (sum_byte (ts.take j) (ts.drop (j + 1)) ts[j] x).1 (by
      have e5 : (List.take j (List.take j ts ++ ts[j] :: List.drop (j + 1) ts)) = ts.take j := by rw [← p1]
      have e6 : (List.drop (j + 1) (List.take j ts ++ ts[j] :: List.drop (j + 1) ts)) = ts.drop (j + 1) := by rw [← p1]
      rw [e5, e6] at hs
      exact hs)
    apply hx'
    rw [List.getElem?_append_left hjl, List.getElem?_eq_getElem hjl, this]
  · rw [List.set_append_right _ _ (by omega)] at e2
    have e4 := (List.append_inj e2 hl).2
    rw [show j - ts.length = j - t.length by omega] at e4
    have hlt : j - t.length < (sumB t).length := by rw [sumB_len]; omega
    apply hx'
    rw [List.getElem?_append_right (by omega)]
    have e5 : ts = t := (List.append_inj e2 hl).1
    subst e5
    have : ((sumB ts).set (j - ts.length) x)[j - ts.length]? = some x := by simp [hlt]
    rw [e4] at this
    exact this
end Go.Proofs.Ytebilecgmblmfaa
