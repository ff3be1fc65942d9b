/-
  TEXTS OF ONE PROOF, merged: TrbT.
-/
import Derived.Test.YticngbgjfdcnhaaMg14
import Derived.Test.YticngbgjfdcnhaaMg16
import Derived.Test.YticngbgjfdcnhaaMg17
namespace Go.Proofs.Yticngbgjfdcnhaa
def kB (k : Nat) : List UInt8 := [UInt8.ofNat (k / 16), UInt8.ofNat (k % 16)]
theorem kB_inj {a b : Nat} (ha : a < 256) (hb : b < 256) (h : kB a = kB b) : a = b := by
  simp only [kB, List.cons.injEq, and_true] at h
  have h1 := congrArg UInt8.toNat h.1
  have h2 := congrArg UInt8.toNat h.2
  rw [UInt8.toNat_ofNat_of_lt' (by show a / 16 < 256; omega), UInt8.toNat_ofNat_of_lt' (by show b / 16 < 256; omega)] at h1
  rw [UInt8.toNat_ofNat_of_lt' (by show a % 16 < 256; omega), UInt8.toNat_ofNat_of_lt' (by show b % 16 < 256; omega)] at h2
  omega
theorem bv_kB {k : Nat} (hk : k < 256) : bv (kB k) = [.int .u8 ((k : Int) / 16), .int .u8 ((k : Int) % 16)] := by
  simp only [bv, kB, List.map_cons, List.map_nil]
  rw [UInt8.toNat_ofNat_of_lt' (by show k / 16 < 256; omega), UInt8.toNat_ofNat_of_lt' (by show k % 16 < 256; omega)]
  rfl
theorem kB_len (k : Nat) : (kB k).length ≤ 16 := by simp [kB]
structure GoI (n : Nd) (st : List Nat) (m i : Nat) : Prop where
  ok : okN n
  len : st.length = 256
  fp : ∀ k, k < 256 → findP (pairsN n) (kB k) = if st.getD k 0 = 0 then none else some (oneV (st.getD k 0 : Nat))
  many : (pairsN n).length = m
  few : m ≤ i
  sm : ∀ p ∈ pairsN n, smallV p.chain
  bd : ∀ k, st.getD k 0 ≤ 256
theorem GoI.start : GoI noNd (zrs 256) 0 0 :=
  ⟨hasE.ok, zrs_len _, fun k _ => by rw [zrs_get]; rfl, rfl, Nat.le_refl _, (fun p h => by cases h), fun k => by rw [zrs_get]; exact Nat.zero_le _⟩
theorem getD_set {st : List Nat} {s a k : Nat} (h : s < st.length) : (st.set s a).getD k 0 = if s = k then a else st.getD k 0 := by
  rw [List.getD_eq_getElem?_getD, List.getElem?_set, List.getD_eq_getElem?_getD]
  split
  · rename_i e; subst e; rfl
  · rfl
theorem GoI.fit {n : Nd} {st : List Nat} {m i : Nat} (h : GoI n st m i) (hi : i ≤ 100) : fitN n := ok_fit h.ok ⟨by have := h.few; have := h.many; omega, h.sm⟩
theorem GoI.put {n n' : Nd} {st : List Nat} {m i s a er : Nat} (h : GoI n st m i) (hs : s < 256) (ha0 : 0 < a) (ha : a ≤ 256) (hp : PutIs n (kB s) (oneV (a : Nat)) n' er) :
    er = 0 ∧ GoI n' (st.set s a) (if st.getD s 0 = 0 then m + 1 else m) (i + 1) := by
  unfold PutIs at hp
  rw [if_pos ⟨h.ok, kB_len s, (one_okV _).2 ⟨by omega, by omega⟩, by simp [oneV]⟩] at hp
  obtain ⟨rfl, hm, hmp⟩ := hp
  have hsr := okN_srt h.ok
  have hl := h.len
  refine ⟨rfl, hm, by rw [List.length_set]; exact hl, fun k hk => ?_, ?_, ?_, ?_, fun k => ?_⟩
  · rw [hmp, put_find hsr, getD_set (by omega)]
    by_cases e : s = k
    · rw [if_pos (by rw [e]), if_pos e, if_neg (by omega)]
    · rw [if_neg (fun h2 => e (kB_inj hs hk h2)), if_neg e, h.fp k hk]
  · rw [hmp, put_len hsr, h.fp s hs, h.many]
    split <;> rfl
  · have := h.few
    split <;> omega
  · rw [hmp]
    exact few_put hsr h.sm (oneV_small _)
  · rw [getD_set (by omega)]
    have := h.bd k
    split <;> omega
theorem GoI.del {n n' : Nd} {st : List Nat} {m i s er : Nat} (h : GoI n st m i) (hs : s < 256) (hp : DelIs n (kB s) n' er) :
    (st.getD s 0 = 0 → er = 61 ∧ GoI n' (st.set s 0) m (i + 1)) ∧ (0 < st.getD s 0 → er = 0 ∧ 1 ≤ m ∧ GoI n' (st.set s 0) (m - 1) (i + 1)) := by
  unfold DelIs at hp
  rw [if_pos h.ok, h.fp s hs] at hp
  have hsr := okN_srt h.ok
  have hl := h.len
  have hf := h.few
  constructor
  · intro h0
    rw [if_pos h0, if_neg (by simp)] at hp
    obtain ⟨rfl, rfl⟩ := hp
    refine ⟨rfl, h.ok, by rw [List.length_set]; exact hl, fun k hk => ?_, h.many, by omega, h.sm, fun k => ?_⟩
    · rw [h.fp k hk, getD_set (by omega)]
      by_cases e : s = k
      · subst e
        rw [if_pos h0, if_pos rfl, if_pos rfl]
      · rw [if_neg e]
    · rw [getD_set (by omega)]
      have := h.bd k
      split <;> omega
  · intro h0
    have hne : ¬ st.getD s 0 = 0 := Nat.pos_iff_ne_zero.1 h0
    rw [if_neg hne] at hp
    rw [if_pos (by rfl)] at hp
    obtain ⟨rfl, hm, hmp⟩ := hp
    have hlen := del_len (k := kB s) hsr
    rw [h.fp s hs, if_neg hne, if_pos (by rfl), h.many] at hlen
    refine ⟨rfl, by omega, hm, by rw [List.length_set]; exact hl, fun k hk => ?_, by rw [hmp]; omega, by omega, fun p hpp => h.sm p (del_mem (hmp ▸ hpp)), fun k => ?_⟩
    · rw [hmp, del_find, getD_set (by omega)]
      by_cases e : s = k
      · rw [if_pos (by rw [e]), if_pos e, if_pos rfl]
      · rw [if_neg (fun h2 => e (kB_inj hs hk h2)), if_neg e, h.fp k hk]
    · rw [getD_set (by omega)]
      have := h.bd k
      split <;> omega
theorem GoI.deep {n : Nd} {st : List Nat} {m i d : Nat} (h : GoI n st m i) (hd : formI n true = (d : Int)) : 1 ≤ d ∧ (1 < d → 2 ^ d - 1 ≤ m) := by
  obtain ⟨h1, _, h2⟩ := pairs_bounds d hd
  have := h.many
  refine ⟨h1, fun h3 => ?_⟩
  rcases h2 with h2 | ⟨_, h2, _⟩
  · omega
  · omega
theorem least_step (d : Nat) : 2 * (2 ^ d - 1) + 1 = 2 ^ (d + 1) - 1 := by
  have := Nat.one_le_two_pow (n := d)
  rw [Nat.pow_succ]
  omega
theorem least_le {d e : Nat} (h : d ≤ e) : 2 ^ d - 1 ≤ 2 ^ e - 1 := by
  have := Nat.pow_le_pow_right (n := 2) (by omega) h
  omega
end Go.Proofs.Yticngbgjfdcnhaa
