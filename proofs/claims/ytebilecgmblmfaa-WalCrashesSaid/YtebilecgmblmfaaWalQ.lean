/-
  PLAIN MATHEMATICS: texts that are appended one by one. No program is named here; no condition beyond each theorem's own.
-/
import Derived.Test.YtebilecgmblmfaaWalM
namespace Go.Proofs.Ytebilecgmblmfaa
theorem appS_len (bs : List UInt8) (s : Int) (ts : List (List UInt8)) : (appS bs s ts).1.length ≤ max bs.length 20000 := by
  by_cases h : okL bs s
  · by_cases h2 : longT ts
    · rw [appS_long h h2]; simp only; omega
    · by_cases h3 : 20000 < (bs ++ framesB ts).length
      · rw [appS_full h h2 h3]; simp only; omega
      · rw [appS_ok h h2 h3]; simp only; omega
  · rw [appS_arg h]; simp only; omega
/-- Where one stands behind k texts that were appended one by one: the error, the bytes. -/
def Parts (bs : List UInt8) (s : Int) (tss : List (List UInt8)) (k f : Nat) (zs : List UInt8) : Prop :=
  (f = 0 ∧ zs = bs ++ framesB (tss.take k) ∧ (k = 0 ∨ (okL bs s ∧ ¬ longT (tss.take k) ∧ zs.length ≤ 20000))) ∨ (f ≠ 0 ∧ k ≠ 0 ∧ (appS bs s tss).2 ≠ 0)
theorem Parts.zero (bs : List UInt8) (s : Int) (tss : List (List UInt8)) : Parts bs s tss 0 0 bs := .inl ⟨rfl, by simp [framesB], .inl rfl⟩
theorem framesB_take_mono (tss : List (List UInt8)) (k : Nat) : (framesB (tss.take k)).length ≤ (framesB tss).length := by
  conv => rhs; rw [← List.take_append_drop k tss]
  rw [framesB_append, List.length_append]; omega
theorem app_long_no {bs : List UInt8} {s : Int} {tss : List (List UInt8)} (h : longT tss) : (appS bs s tss).2 ≠ 0 := by
  by_cases hk : okL bs s
  · rw [appS_long hk h]; simp
  · rw [appS_arg hk]; simp
theorem app_full_no {bs : List UInt8} {s : Int} {tss : List (List UInt8)} (h : 20000 < (bs ++ framesB tss).length) : (appS bs s tss).2 ≠ 0 := by
  by_cases hk : okL bs s
  · by_cases h2 : longT tss
    · rw [appS_long hk h2]; simp
    · rw [appS_full hk h2 h]; simp
  · rw [appS_arg hk]; simp
theorem framesB_snoc1 (xss : List (List UInt8)) (k : Nat) (h : k < xss.length) : framesB (xss.take (k + 1)) = framesB (xss.take k) ++ framesB [xss[k]] := by
  rw [List.take_succ_eq_append_getElem h, framesB_append]
theorem Parts.step {bs : List UInt8} {s : Int} {tss : List (List UInt8)} {k : Nat} {zs : List UInt8} (h : Parts bs s tss k 0 zs) (hk : k < tss.length) : Parts bs s tss (k + 1) (appS zs s [tss[k]]).2 (appS zs s [tss[k]]).1 := by
  rcases h with ⟨_, rfl, h⟩ | ⟨h, _⟩
  · by_cases hok : okL bs s
    · have h0 : k = 0 ∨ ¬ longT (tss.take k) := h.imp id (·.2.1)
      have h1 : ¬ longT (tss.take k) := by
        rcases h0 with rfl | h0
        · rintro ⟨t, ht, _⟩; simp at ht
        · exact h0
      have h2 : (bs ++ framesB (tss.take k)).length ≤ 20000 := by
        rcases h with rfl | h
        · have := hok.1; simpa [framesB] using this
        · exact h.2.2
      have hokk : okL (bs ++ framesB (tss.take k)) s := ⟨h2, hok.2.1, by have := hok.2.2; rw [List.length_append]; omega⟩
      by_cases hl : longT [tss[k]]
      · rw [appS_long hokk hl]
        refine .inr ⟨by simp, by omega, app_long_no ?_⟩
        obtain ⟨t, ht, h3⟩ := hl
        obtain rfl : t = tss[k] := by simpa using ht
        exact ⟨_, List.getElem_mem hk, h3⟩
      · have hsn := framesB_snoc1 tss k hk
        by_cases hf : 20000 < (bs ++ framesB (tss.take k) ++ framesB [tss[k]]).length
        · rw [appS_full hokk hl hf]
          refine .inr ⟨by simp, by omega, app_full_no ?_⟩
          have h3 := framesB_take_mono tss (k + 1)
          rw [hsn] at h3
          rw [List.length_append] at h3
          simp only [List.length_append] at hf ⊢
          omega
        · rw [appS_ok hokk hl hf]
          refine .inl ⟨rfl, by rw [hsn, List.append_assoc], .inr ⟨hok, ?_, Nat.le_of_not_lt hf⟩⟩
          rw [List.take_succ_eq_append_getElem hk]
          rintro ⟨t, ht, h3⟩
          rcases List.mem_append.1 ht with ht | ht
          · exact h1 ⟨t, ht, h3⟩
          · exact hl ⟨t, ht, h3⟩
    · obtain rfl : k = 0 := by
        rcases h with h | h
        · exact h
        · exact absurd h.1 hok
      rw [show bs ++ framesB (tss.take 0) = bs by simp [framesB], appS_arg hok]
      exact .inr ⟨by simp, by omega, by rw [appS_arg hok]; simp⟩
  · exact absurd rfl h
theorem Parts.done {bs : List UInt8} {s : Int} {tss : List (List UInt8)} {k f : Nat} {zs : List UInt8} (h : Parts bs s tss k f zs) (hk : f ≠ 0 ∨ k = tss.length) : (tss.length = 0 ∨ ((appS bs s tss).2 = 0 ↔ f = 0)) ∧ ((appS bs s tss).2 ≠ 0 ∨ (appS bs s tss).1 = zs) := by
  rcases h with ⟨rfl, rfl, h⟩ | ⟨h1, _, h2⟩
  · obtain rfl : k = tss.length := hk.resolve_left (fun h => h rfl)
    rw [List.take_length] at h ⊢
    rcases h with h | ⟨h1, h2, h3⟩
    · obtain rfl : tss = [] := List.eq_nil_of_length_eq_zero h
      refine ⟨.inl rfl, .inr ?_⟩
      by_cases hk : okL bs s
      · rw [appS_ok hk (by rintro ⟨t, ht, _⟩; simp at ht) (by have := hk.1; simp [framesB]; omega)]
      · rw [appS_arg hk]; simp [framesB]
    · rw [appS_ok h1 h2 (by omega)]
      exact ⟨.inr (by simp), .inr rfl⟩
  · exact ⟨.inr ⟨fun h => absurd h h2, fun h => absurd h h1⟩, .inl h2⟩
end Go.Proofs.Ytebilecgmblmfaa
