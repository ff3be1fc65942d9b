/-
  TEXTS OF ONE PROOF, merged: TrbK.
-/
import Derived.Test.YtdegjkfjaklkjaaMe4
import Derived.Test.YtdegjkfjaklkjaaMe13
import Derived.Test.YtdegjkfjaklkjaaMe14
import Derived.Test.YtdegjkfjaklkjaaMe18
namespace Go.Proofs.Ytdegjkfjaklkjaa
def valK (c : UInt8) : List Ver := oneV (1 + (c.toNat : Int))
def valL : List UInt8 → List Ver
  | [c] => valK c
  | _ => []
theorem valK_ok (c : UInt8) : okV (valK c) := by
  have := c.toNat_lt
  exact (one_okV _).2 ⟨by omega, by omega⟩
theorem valK_ne (c : UInt8) : valK c ≠ [] := by simp [valK, oneV]
theorem valK_small (c : UInt8) : smallV (valK c) := oneV_small _
structure FPk (n : Nd) (f : Nat → UInt8) (i : Nat) : Prop where
  ok : okN n
  fp : ∀ k, findP (pairsN n) k = if ∃ j, j < i ∧ k = [f j] then some (valL k) else none
  len : (pairsN n).length ≤ i
  sm : ∀ p ∈ pairsN n, smallV p.chain
theorem FPk.start (f : Nat → UInt8) : FPk noNd f 0 := ⟨hasE.ok, fun k => by rw [if_neg (fun ⟨j, h, _⟩ => absurd h (Nat.not_lt_zero j))]; rfl, Nat.le_refl _, fun p h => by cases h⟩
theorem FPk.fit {n : Nd} {f : Nat → UInt8} {i : Nat} (h : FPk n f i) (hi : i ≤ 100) : fitN n := ok_fit h.ok ⟨by have := h.len; omega, h.sm⟩
theorem FPk.step {n m : Nd} {f : Nat → UInt8} {i er : Nat} (h : FPk n f i) (hp : PutIs n [f i] (valK (f i)) m er) : er = 0 ∧ FPk m f (i + 1) := by
  unfold PutIs at hp
  rw [if_pos ⟨h.ok, by simp, valK_ok _, valK_ne _⟩] at hp
  obtain ⟨rfl, hm, hmp⟩ := hp
  have hs := okN_srt h.ok
  refine ⟨rfl, hm, fun k => ?_, ?_, ?_⟩
  · rw [hmp, put_find hs, h.fp]
    by_cases hk : [f i] = k
    · rw [if_pos hk, if_pos ⟨i, Nat.lt_succ_self i, hk.symm⟩, ← hk]
      rfl
    · rw [if_neg hk]
      have : (∃ j, j < i ∧ k = [f j]) ↔ ∃ j, j < i + 1 ∧ k = [f j] := by
        constructor
        · rintro ⟨j, hj, e⟩
          exact ⟨j, by omega, e⟩
        · rintro ⟨j, hj, e⟩
          rcases Nat.lt_or_ge j i with h1 | h1
          · exact ⟨j, h1, e⟩
          · obtain rfl : j = i := by omega
            exact absurd e.symm hk
      by_cases h1 : ∃ j, j < i ∧ k = [f j]
      · rw [if_pos h1, if_pos (this.1 h1)]
      · rw [if_neg h1, if_neg (fun h2 => h1 (this.2 h2))]
  · rw [hmp, put_len hs]
    have := h.len
    split <;> omega
  · rw [hmp]
    exact few_put hs h.sm (valK_small _)
theorem FPk.same {n m : Nd} {f g : Nat → UInt8} {N : Nat} (ha : FPk n f N) (hb : FPk m g N) (h1 : ∀ j, j < N → ∃ i, i < N ∧ g i = f j) (h2 : ∀ j, j < N → ∃ i, i < N ∧ f i = g j) : pairsN n = pairsN m := by
  refine srt_ext (okN_srt ha.ok) (okN_srt hb.ok) fun k => ?_
  rw [ha.fp, hb.fp]
  have : (∃ j, j < N ∧ k = [f j]) ↔ ∃ j, j < N ∧ k = [g j] := by
    constructor
    · rintro ⟨j, hj, e⟩
      obtain ⟨i, hi, e2⟩ := h1 j hj
      exact ⟨i, hi, by rw [e2]; exact e⟩
    · rintro ⟨j, hj, e⟩
      obtain ⟨i, hi, e2⟩ := h2 j hj
      exact ⟨i, hi, by rw [e2]; exact e⟩
  by_cases h : ∃ j, j < N ∧ k = [f j]
  · rw [if_pos h, if_pos (this.1 h)]
  · rw [if_neg h, if_neg (fun h2 => h (this.2 h2))]
theorem rot_back {N t j : Nat} (hj : j < N) : ((j + (N - t % N)) % N + t) % N = j := by
  have h1 : t % N < N := Nat.mod_lt _ (by omega)
  have h2 := Nat.div_add_mod t N
  rw [Nat.mod_add_mod, show j + (N - t % N) + t = j + N * (t / N + 1) by rw [Nat.mul_add]; omega, Nat.add_mul_mod_self_left, Nat.mod_eq_of_lt hj]
theorem FPk.found {n : Nd} {f : Nat → UInt8} {N : Nat} (h : FPk n f N) (h0 : 0 < N) : findP (pairsN n) [f 0] = some (valK (f 0)) := by
  rw [h.fp, if_pos ⟨0, h0, rfl⟩]
  rfl
end Go.Proofs.Ytdegjkfjaklkjaa
