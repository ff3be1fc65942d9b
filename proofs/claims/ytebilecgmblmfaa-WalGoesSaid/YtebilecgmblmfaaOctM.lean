/-
  PLAIN MATHEMATICS OF octet: what is written is read. No program is walked here; no condition beyond each theorem's own.
-/
import Derived.Test.YtebilecgmblmfaaOctE
import Derived.Test.YtebilecgmblmfaaOctF
import Derived.Test.YtebilecgmblmfaaOctH
namespace Go.Proofs.Ytebilecgmblmfaa
theorem takeS_numB (n : Nat) (r : List UInt8) (h : n ≤ 2147483647) : takeS (numB n ++ r) = (n, r, 0) := by
  unfold takeS
  rw [takeN_numB n r h]
  simp
theorem takeTextS_textB (ts r : List UInt8) (h : ts.length ≤ 65535) : takeTextS (textB ts ++ r) = (ts, r, 0) := by
  unfold takeTextS textB
  rw [List.append_assoc, takeS_numB _ _ (by omega)]
  simp
  omega
theorem takeTextS_textB' (ts : List UInt8) (h : ts.length ≤ 65535) : takeTextS (textB ts) = (ts, [], 0) := by
  have := takeTextS_textB ts [] h
  rwa [List.append_nil] at this
theorem textB_len (ts : List UInt8) (h : ts.length ≤ 2147483647) : (textB ts).length ≤ ts.length + 5 ∧ ts.length < (textB ts).length := by
  have h1 := numB_len5 ts.length h
  have h2 := numB_pos ts.length
  unfold textB
  rw [List.length_append]
  omega
/-- Of the bytes of two numbers one begins with the other just if the numbers are the same. -/
theorem numB_inj {a b : Nat} {r s : List UInt8} (ha : a ≤ 2147483647) (hb : b ≤ 2147483647) (h : numB a ++ r = numB b ++ s) : a = b := by
  have h1 := takeN_numB a r ha
  have h2 := takeN_numB b s hb
  rw [h, h2] at h1
  simp at h1
  exact h1.1.symm
theorem numB_apart (a b : Nat) (ha : a ≤ 2147483647) (hb : b ≤ 2147483647) : (numB a).take (min (numB a).length (numB b).length) = (numB b).take (min (numB a).length (numB b).length) ↔ a = b := by
  constructor
  · intro h
    rcases Nat.le_total (numB a).length (numB b).length with hl | hl
    · rw [Nat.min_eq_left hl, List.take_length] at h
      refine numB_inj (r := (numB b).drop (numB a).length) (s := []) ha hb ?_
      rw [List.append_nil]
      conv => lhs; arg 1; rw [h]
      exact List.take_append_drop _ _
    · rw [Nat.min_eq_right hl, List.take_length] at h
      refine numB_inj (r := []) (s := (numB a).drop (numB b).length) ha hb ?_
      rw [List.append_nil]
      conv => rhs; arg 1; rw [← h]
      exact (List.take_append_drop _ _).symm
  · rintro rfl; rfl
/-- Fewer of a number's bytes are no number. -/
theorem takeS_fewer (n k : Nat) (h : n ≤ 2147483647) (hk : k < (numB n).length) : takeS ((numB n).take k) = (0, [], 10) := by
  unfold takeS
  cases hd : takeN ((numB n).take k) with
  | none => rfl
  | some p =>
    exfalso
    obtain ⟨m, s⟩ := p
    have h1 := takeN_some hd
    have h2 := takeN_pre hd
    have e : numB n = numB m ++ (((numB n).take k).drop s ++ (numB n).drop k) := by
      rw [← List.append_assoc, ← h2, List.take_append_drop]
    have h3 : n = m := by
      refine numB_inj (r := []) (s := ((numB n).take k).drop s ++ (numB n).drop k) h h1.1 ?_
      rw [List.append_nil]; exact e
    subst h3
    have h4 : s ≤ k := by have := h1.2.2.2.2.1; rw [List.length_take] at this; omega
    have h5 := h1.2.1
    omega
end Go.Proofs.Ytebilecgmblmfaa
