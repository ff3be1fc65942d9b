/-
  PLAIN MATHEMATICS: the bytes of a number, and the number that bytes begin with. No program is named here; no condition.
-/
namespace Go.Proofs.Ytemdcpajcaaphaa

/-- The bytes of a number. -/
def numB (n : Nat) : List UInt8 := if h : n < 128 then [UInt8.ofNat n] else UInt8.ofNat (n % 128 + 128) :: numB (n / 128)
termination_by n
decreasing_by omega

theorem numB_lt {n : Nat} (h : n < 128) : numB n = [UInt8.ofNat n] := by rw [numB, dif_pos h]
theorem numB_ge {n : Nat} (h : ¬ n < 128) : numB n = UInt8.ofNat (n % 128 + 128) :: numB (n / 128) := by rw [numB, dif_neg h]

theorem numB_pos (n : Nat) : 1 ≤ (numB n).length := by
  by_cases h : n < 128
  · rw [numB_lt h]; simp
  · rw [numB_ge h]; simp

theorem numB_len : ∀ (k n : Nat), n < 128 ^ (k + 1) → (numB n).length ≤ k + 1 := by
  intro k
  induction k with
  | zero => intro n h; rw [numB_lt (by simpa using h)]; simp
  | succ k ih =>
    intro n h
    by_cases h1 : n < 128
    · rw [numB_lt h1]; simp
    · rw [numB_ge h1]
      have : n / 128 < 128 ^ (k + 1) := by rw [Nat.div_lt_iff_lt_mul (by omega)]; rw [Nat.pow_succ] at h; exact h
      simp only [List.length_cons]; have := ih _ this; omega

theorem numB_len5 (n : Nat) (h : n ≤ 2147483647) : (numB n).length ≤ 5 := numB_len 4 n (by omega)

theorem numB_mono {a b : Nat} (h : a ≤ b) : (numB a).length ≤ (numB b).length := by
  induction b using Nat.strongRecOn generalizing a with
  | ind b ih =>
    by_cases ha : a < 128
    · rw [numB_lt ha]; simpa using numB_pos b
    · have hb : ¬ b < 128 := by omega
      rw [numB_ge ha, numB_ge hb]
      simp only [List.length_cons]
      have := ih (b / 128) (by omega) (a := a / 128) (Nat.div_le_div_right h)
      omega

/-- The raw number that bytes begin with, of at most f bytes, and how many they are. -/
def dec : Nat → List UInt8 → Option (Nat × Nat)
  | 0, _ => none
  | _ + 1, [] => none
  | f + 1, x :: r => if x.toNat < 128 then some (x.toNat, 1) else (dec f r).map fun p => (x.toNat - 128 + 128 * p.1, p.2 + 1)

/-- The number that bytes begin with, and how many bytes it takes. -/
def takeN (b : List UInt8) : Option (Nat × Nat) :=
  match dec 5 b with
  | none => none
  | some (n, s) => if n ≤ 2147483647 ∧ numB n = b.take s then some (n, s) else none

theorem dec_len : ∀ (f : Nat) (b : List UInt8) (n s : Nat), dec f b = some (n, s) → 1 ≤ s ∧ s ≤ b.length ∧ s ≤ f := by
  intro f
  induction f with
  | zero => intro b n s h; simp [dec] at h
  | succ f ih =>
    intro b n s h
    cases b with
    | nil => simp [dec] at h
    | cons x r =>
      simp only [dec] at h
      split at h
      · simp at h; obtain ⟨_, rfl⟩ := h; simp
      · cases hd : dec f r with
        | none => simp [hd] at h
        | some p =>
          obtain ⟨m, t⟩ := p
          simp [hd] at h
          obtain ⟨_, rfl⟩ := h
          have := ih r m t hd
          simp; omega

theorem toNat_ofNat_lt {n : Nat} (h : n < 256) : (UInt8.ofNat n).toNat = n := by
  simp; omega

theorem dec_numB : ∀ (f n : Nat) (r : List UInt8), (numB n).length ≤ f → dec f (numB n ++ r) = some (n, (numB n).length) := by
  intro f
  induction f with
  | zero => intro n r h; have := numB_pos n; omega
  | succ f ih =>
    intro n r h
    by_cases h1 : n < 128
    · rw [numB_lt h1]
      simp [dec, toNat_ofNat_lt (show n < 256 by omega), h1]
    · rw [numB_ge h1] at h ⊢
      have e : (UInt8.ofNat (n % 128 + 128)).toNat = n % 128 + 128 := toNat_ofNat_lt (by omega)
      simp only [List.cons_append, dec, e]
      rw [if_neg (by omega), ih (n / 128) r (by simpa using h)]
      simp
      omega

theorem takeN_numB (n : Nat) (r : List UInt8) (h : n ≤ 2147483647) : takeN (numB n ++ r) = some (n, (numB n).length) := by
  unfold takeN
  rw [dec_numB 5 n r (numB_len5 n h)]
  simp [h]

theorem takeN_some {b : List UInt8} {n s : Nat} (h : takeN b = some (n, s)) : n ≤ 2147483647 ∧ s = (numB n).length ∧ numB n = b.take s ∧ 1 ≤ s ∧ s ≤ b.length ∧ s ≤ 5 := by
  unfold takeN at h
  cases hd : dec 5 b with
  | none => simp [hd] at h
  | some p =>
    obtain ⟨m, t⟩ := p
    simp only [hd] at h
    split at h
    · rename_i hc
      simp at h
      obtain ⟨rfl, rfl⟩ := h
      have hl := dec_len 5 b m t hd
      refine ⟨hc.1, ?_, hc.2, hl⟩
      rw [hc.2, List.length_take]
      omega
    · simp at h

theorem takeN_pre {b : List UInt8} {n s : Nat} (h : takeN b = some (n, s)) : b = numB n ++ b.drop s := by
  rw [(takeN_some h).2.2.1, List.take_append_drop]

/-- Canonical: of the raw number's bytes the last one is not 0, but for one byte. -/
theorem numB_canon : ∀ (f : Nat) (b : List UInt8) (n s : Nat), dec f b = some (n, s) → (numB n = b.take s ↔ (s = 1 ∨ b.getD (s - 1) 0 ≠ 0)) := by
  intro f
  induction f with
  | zero => intro b n s h; simp [dec] at h
  | succ f ih =>
    intro b n s h
    cases b with
    | nil => simp [dec] at h
    | cons x r =>
      simp only [dec] at h
      split at h
      · rename_i hx
        simp at h
        obtain ⟨rfl, rfl⟩ := h
        rw [numB_lt hx]
        simp
      · rename_i hx
        cases hd : dec f r with
        | none => simp [hd] at h
        | some p =>
          obtain ⟨m, t⟩ := p
          simp [hd] at h
          obtain ⟨rfl, rfl⟩ := h
          have hl := dec_len f r m t hd
          have hi := ih r m t hd
          have hx2 : x.toNat < 256 := x.toNat_lt
          obtain ⟨t, rfl⟩ : ∃ t', t = t' + 1 := ⟨t - 1, by omega⟩
          by_cases hm : m = 0
          · -- the rest is 0: the last byte is 0
            subst hm
            have h0 : numB (x.toNat - 128 + 128 * 0) = [UInt8.ofNat (x.toNat - 128)] := by rw [numB_lt (by omega)]; simp
            rw [h0]
            have hz : numB 0 = [0] := by rw [numB_lt (by omega)]; rfl
            rw [hz] at hi
            constructor
            · intro he; have := congrArg List.length he; rw [List.length_take] at this; simp only [List.length_cons, List.length_nil] at this; omega
            · rintro (he | he)
              · omega
              · exfalso
                apply he
                have e1 : (x :: r).getD (t + 1 + 1 - 1) 0 = r.getD t 0 := by simp
                rw [e1]
                -- all bytes carry 0
                have key : ∀ (f : Nat) (r : List UInt8) (t : Nat), dec f r = some (0, t + 1) → r.getD t 0 = 0 := by
                  intro f
                  induction f with
                  | zero => intro r t h; simp [dec] at h
                  | succ f ih2 =>
                    intro r t h
                    cases r with
                    | nil => simp [dec] at h
                    | cons y r =>
                      simp only [dec] at h
                      split at h
                      · simp at h
                        obtain ⟨h1, h2⟩ := h
                        subst h2
                        simp
                        exact UInt8.toNat_inj.1 (by simpa using h1)
                      · cases hd2 : dec f r with
                        | none => simp [hd2] at h
                        | some p =>
                          obtain ⟨m2, t2⟩ := p
                          simp [hd2] at h
                          obtain ⟨h1, h2⟩ := h
                          have hm2 : m2 = 0 := by omega
                          subst hm2
                          have hl2 := dec_len f r _ _ hd2
                          obtain ⟨t, rfl⟩ : ∃ t', t = t' + 1 := ⟨t - 1, by omega⟩
                          have := ih2 r t (by rw [hd2]; simp; omega)
                          simpa using this
                exact key f r t hd
          · have h1 : ¬ (x.toNat - 128 + 128 * m < 128) := by omega
            rw [numB_ge h1]
            have e1 : (x.toNat - 128 + 128 * m) % 128 + 128 = x.toNat := by omega
            have e2 : (x.toNat - 128 + 128 * m) / 128 = m := by omega
            rw [e1, e2]
            have e3 : UInt8.ofNat x.toNat = x := by simp
            rw [e3]
            simp only [List.take_succ_cons, List.cons.injEq, true_and]
            rw [hi]
            have e4 : (x :: r).getD (t + 1 + 1 - 1) 0 = r.getD (t + 1 - 1) 0 := by simp
            rw [e4]
            constructor
            · rintro (he | he)
              · right
                have : t = 0 := by omega
                subst this
                -- one byte that tells m, not 0
                cases r with
                | nil => simp at hl
                | cons y r =>
                  cases f with
                  | zero => simp [dec] at hd
                  | succ f =>
                    simp only [dec] at hd
                    split at hd
                    · simp at hd
                      simp
                      intro hy
                      apply hm
                      rw [← hd, hy]; rfl
                    · cases hd2 : dec f r with
                      | none => simp [hd2] at hd
                      | some p => obtain ⟨m2, t2⟩ := p; simp [hd2] at hd; have := dec_len f r _ _ hd2; omega
              · exact .inr he
            · rintro (he | he)
              · omega
              · exact .inr he

theorem take_snoc {α : Type} (xs : List α) (k : Nat) (h : k < xs.length) : xs.take (k + 1) = xs.take k ++ [xs[k]] := by
  rw [List.take_succ_eq_append_getElem h]
end Go.Proofs.Ytemdcpajcaaphaa
