/-
  PLAIN MATHEMATICS: modes: which are known, which fit, cover, and join one another, and what they need above. No program is named here; no condition.
-/
namespace Go.Proofs.YtdjnpnbobedgoaaDoor
def kn (a : Int) : Bool := decide (1 ≤ a) && decide (a ≤ 5)
def covM (a b : Int) : Bool := kn a && kn b && (a == b || a == 5 || b == 1 || (a == 4 && (b == 2 || b == 3)))
def fitM (a b : Int) : Bool := kn a && kn b && ((a == 1 && b != 5) || (b == 1 && a != 5) || (a == 2 && b == 2) || (a == 3 && b == 3))
def aboM (a : Int) : Int := if a == 1 || a == 3 then 1 else if a == 2 || a == 4 || a == 5 then 2 else 0
def joinM (a b : Int) : Int :=
  if covM 1 a && covM 1 b then 1 else if covM 2 a && covM 2 b then 2 else if covM 3 a && covM 3 b then 3 else if covM 4 a && covM 4 b then 4 else if covM 5 a && covM 5 b then 5 else 0
theorem md_cases (a : Int) : a = 1 ∨ a = 2 ∨ a = 3 ∨ a = 4 ∨ a = 5 ∨ kn a = false := by
  by_cases h1 : 1 ≤ a
  · by_cases h2 : a ≤ 5
    · omega
    · simp [kn, h2]
  · simp [kn, h1]
theorem cov_none {a : Int} (b : Int) (h : kn a = false) : covM a b = false := by simp [covM, h]
theorem cov_none2 {a : Int} (b : Int) (h : kn a = false) : covM b a = false := by simp [covM, h]
theorem fit_none {a : Int} (b : Int) (h : kn a = false) : fitM a b = false := by simp [fitM, h]
theorem fit_none2 {a : Int} (b : Int) (h : kn a = false) : fitM b a = false := by simp [fitM, h]
theorem join_none {a : Int} (b : Int) (h : kn a = false) : joinM a b = 0 := by simp [joinM, cov_none2 _ h]
theorem join_none2 {a : Int} (b : Int) (h : kn a = false) : joinM b a = 0 := by simp [joinM, cov_none2 _ h]
theorem abo_none {a : Int} (h : kn a = false) : aboM a = 0 := by
  have : a ≠ 1 ∧ a ≠ 2 ∧ a ≠ 3 ∧ a ≠ 4 ∧ a ≠ 5 := by
    simp only [kn, Bool.and_eq_false_iff, decide_eq_false_iff_not] at h
    omega
  simp [aboM, this]
theorem kn_ne {a : Int} (h : kn a = false) : a ≠ 1 ∧ a ≠ 2 ∧ a ≠ 3 ∧ a ≠ 4 ∧ a ≠ 5 := by
  simp only [kn, Bool.and_eq_false_iff, decide_eq_false_iff_not] at h
  omega
theorem kn_iff {a : Int} : kn a = true ↔ 1 ≤ a ∧ a ≤ 5 := by simp [kn]
theorem join_at {a b : Int} (i : Nat) (hi : i < 5) (h : ∀ j : Nat, j < i → (covM ((j : Int) + 1) a && covM ((j : Int) + 1) b) = false) (h1 : covM ((i : Int) + 1) a = true) (h2 : covM ((i : Int) + 1) b = true) : joinM a b = (i : Int) + 1 := by
  match i, hi with
  | 0, _ =>  have b1 : covM 1 a = true := h1; have b2 : covM 1 b = true := h2; simp [joinM, b1, b2]
  | 1, _ => have a0 : (covM 1 a && covM 1 b) = false := h 0 (by omega); have b1 : covM 2 a = true := h1; have b2 : covM 2 b = true := h2; simp only [joinM, a0]; simp [b1, b2]
  | 2, _ => have a0 : (covM 1 a && covM 1 b) = false := h 0 (by omega); have a1 : (covM 2 a && covM 2 b) = false := h 1 (by omega); have b1 : covM 3 a = true := h1; have b2 : covM 3 b = true := h2; simp only [joinM, a0, a1]; simp [b1, b2]
  | 3, _ => have a0 : (covM 1 a && covM 1 b) = false := h 0 (by omega); have a1 : (covM 2 a && covM 2 b) = false := h 1 (by omega); have a2 : (covM 3 a && covM 3 b) = false := h 2 (by omega); have b1 : covM 4 a = true := h1; have b2 : covM 4 b = true := h2; simp only [joinM, a0, a1, a2]; simp [b1, b2]
  | 4, _ => have a0 : (covM 1 a && covM 1 b) = false := h 0 (by omega); have a1 : (covM 2 a && covM 2 b) = false := h 1 (by omega); have a2 : (covM 3 a && covM 3 b) = false := h 2 (by omega); have a3 : (covM 4 a && covM 4 b) = false := h 3 (by omega); have b1 : covM 5 a = true := h1; have b2 : covM 5 b = true := h2; simp only [joinM, a0, a1, a2, a3]; simp [b1, b2]
theorem join_no {a b : Int} (h : ∀ j : Nat, j < 5 → (covM ((j : Int) + 1) a && covM ((j : Int) + 1) b) = false) : joinM a b = 0 := by
  have a0 : (covM 1 a && covM 1 b) = false := h 0 (by omega)
  have a1 : (covM 2 a && covM 2 b) = false := h 1 (by omega)
  have a2 : (covM 3 a && covM 3 b) = false := h 2 (by omega)
  have a3 : (covM 4 a && covM 4 b) = false := h 3 (by omega)
  have a4 : (covM 5 a && covM 5 b) = false := h 4 (by omega)
  simp only [joinM, a0, a1, a2, a3, a4]; simp
/-- What a mode lets, as bits. -/
def mayM (a : Int) : Int := if a == 1 then 1 else if a == 2 then 5 else if a == 3 then 3 else if a == 4 then 7 else if a == 5 then 15 else 0
theorem may_none {a : Int} (h : kn a = false) : mayM a = 0 := by
  obtain ⟨h1, h2, h3, h4, h5⟩ := kn_ne h
  simp [mayM, h1, h2, h3, h4, h5]
theorem abo_iff (a : Int) : covM a a = decide (0 < aboM a) := by
  rcases md_cases a with rfl | rfl | rfl | rfl | rfl | h
  case inr.inr.inr.inr.inr => rw [cov_none _ h, abo_none h]; rfl
  all_goals rfl
theorem join_comm (a b : Int) : joinM b a = joinM a b := by
  rcases md_cases a with rfl | rfl | rfl | rfl | rfl | h
  case inr.inr.inr.inr.inr => rw [join_none2 _ h, join_none _ h]
  all_goals rcases md_cases b with rfl | rfl | rfl | rfl | rfl | h
  all_goals first | rfl | rw [join_none _ h, join_none2 _ h]
theorem fit_comm (a b : Int) : fitM b a = fitM a b := by
  rcases md_cases a with rfl | rfl | rfl | rfl | rfl | h
  case inr.inr.inr.inr.inr => rw [fit_none2 _ h, fit_none _ h]
  all_goals rcases md_cases b with rfl | rfl | rfl | rfl | rfl | h
  all_goals first | rfl | rw [fit_none _ h, fit_none2 _ h]
theorem join_zero (a b : Int) (h0 : joinM a b = 0) : aboM a = 0 ∨ aboM b = 0 := by
  rcases md_cases a with rfl | rfl | rfl | rfl | rfl | h
  case inr.inr.inr.inr.inr => exact .inl (abo_none h)
  all_goals rcases md_cases b with rfl | rfl | rfl | rfl | rfl | h
  all_goals first | exact .inr (abo_none h) | exact absurd h0 (by decide)
theorem join_cov (a b : Int) (h0 : joinM a b ≠ 0) : covM (joinM a b) a = true ∧ covM (joinM a b) b = true ∧ joinM a a = a := by
  rcases md_cases a with rfl | rfl | rfl | rfl | rfl | h
  case inr.inr.inr.inr.inr => exact absurd (join_none _ h) h0
  all_goals rcases md_cases b with rfl | rfl | rfl | rfl | rfl | h
  all_goals first | exact ⟨rfl, rfl, rfl⟩ | exact absurd (join_none2 _ h) h0
theorem join_assoc (a b c : Int) (h0 : joinM a b ≠ 0) : joinM (joinM a b) c = joinM a (joinM b c) := by
  rcases md_cases a with rfl | rfl | rfl | rfl | rfl | h
  case inr.inr.inr.inr.inr => exact absurd (join_none _ h) h0
  all_goals rcases md_cases b with rfl | rfl | rfl | rfl | rfl | h
  all_goals first
    | exact absurd (join_none2 _ h) h0
    | (rcases md_cases c with rfl | rfl | rfl | rfl | rfl | h
       all_goals first | rfl | (rw [join_none2 _ h, join_none2 _ h]; rfl))
theorem join_least (a b c : Int) (h0 : joinM a b ≠ 0) (h1 : covM c a = true) (h2 : covM c b = true) : covM c (joinM a b) = true := by
  rcases md_cases c with rfl | rfl | rfl | rfl | rfl | h
  case inr.inr.inr.inr.inr => rw [cov_none _ h] at h1; cases h1
  all_goals rcases md_cases a with rfl | rfl | rfl | rfl | rfl | h
  all_goals first
    | (exfalso; rw [cov_none2 _ h] at h1; cases h1)
    | (rcases md_cases b with rfl | rfl | rfl | rfl | rfl | h
       all_goals first
         | (exfalso; rw [cov_none2 _ h] at h2; cases h2)
         | (revert h0 h1 h2; decide))
theorem fit_less (a b c : Int) (h1 : covM c a = true) (h2 : fitM c b = true) : fitM a b = true := by
  rcases md_cases c with rfl | rfl | rfl | rfl | rfl | h
  case inr.inr.inr.inr.inr => rw [cov_none _ h] at h1; cases h1
  all_goals rcases md_cases a with rfl | rfl | rfl | rfl | rfl | h
  all_goals first
    | (exfalso; rw [cov_none2 _ h] at h1; cases h1)
    | (rcases md_cases b with rfl | rfl | rfl | rfl | rfl | h
       all_goals first
         | (exfalso; rw [fit_none2 _ h] at h2; cases h2)
         | (revert h1 h2; decide))
theorem fit_both (a b c : Int) (h1 : fitM a c = true) (h2 : fitM b c = true) : fitM (joinM a b) c = true := by
  rcases md_cases c with rfl | rfl | rfl | rfl | rfl | h
  case inr.inr.inr.inr.inr => rw [fit_none2 _ h] at h1; cases h1
  all_goals rcases md_cases a with rfl | rfl | rfl | rfl | rfl | h
  all_goals first
    | (exfalso; rw [fit_none _ h] at h1; cases h1)
    | (rcases md_cases b with rfl | rfl | rfl | rfl | rfl | h
       all_goals first
         | (exfalso; rw [fit_none _ h] at h2; cases h2)
         | (revert h1 h2; decide))
theorem abo_up (a b : Int) (h1 : covM a b = true) : covM (aboM a) (aboM b) = true := by
  rcases md_cases a with rfl | rfl | rfl | rfl | rfl | h
  case inr.inr.inr.inr.inr => rw [cov_none _ h] at h1; cases h1
  all_goals rcases md_cases b with rfl | rfl | rfl | rfl | rfl | h
  all_goals first
    | (exfalso; rw [cov_none2 _ h] at h1; cases h1)
    | (revert h1; decide)
theorem cov_trans (a b c : Int) (h1 : covM a b = true) (h2 : covM b c = true) : covM a c = true := by
  rcases md_cases a with rfl | rfl | rfl | rfl | rfl | h
  case inr.inr.inr.inr.inr => rw [cov_none _ h] at h1; cases h1
  all_goals rcases md_cases b with rfl | rfl | rfl | rfl | rfl | h
  all_goals first
    | (exfalso; rw [cov_none2 _ h] at h1; cases h1)
    | (rcases md_cases c with rfl | rfl | rfl | rfl | rfl | h
       all_goals first
         | (exfalso; rw [cov_none2 _ h] at h2; cases h2)
         | (revert h1 h2; decide))
theorem cov_anti (a b : Int) (h1 : covM a b = true) (h2 : covM b a = true) : a = b := by
  rcases md_cases a with rfl | rfl | rfl | rfl | rfl | h
  case inr.inr.inr.inr.inr => rw [cov_none _ h] at h1; cases h1
  all_goals rcases md_cases b with rfl | rfl | rfl | rfl | rfl | h
  all_goals first
    | (exfalso; rw [cov_none2 _ h] at h1; cases h1)
    | rfl
    | (revert h1 h2; decide)
end Go.Proofs.YtdjnpnbobedgoaaDoor
