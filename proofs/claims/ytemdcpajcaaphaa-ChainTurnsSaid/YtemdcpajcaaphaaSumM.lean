/-
  PLAIN MATHEMATICS: Fletcher's sum of bytes as the fold of a step; what it is of bytes that are joined, changed, swapped, or 0. No program is named here; no condition beyond each theorem's own.
-/
import Derived.Test.YtemdcpajcaaphaaNum
namespace Go.Proofs.Ytemdcpajcaaphaa

def stepS (p : Nat × Nat) (c : UInt8) : Nat × Nat := ((p.1 + c.toNat) % 65535, (p.2 + (p.1 + c.toNat)) % 65535)
def sumP (xs : List UInt8) (p : Nat × Nat) : Nat × Nat := xs.foldl stepS p
/-- A sum as one number. -/
def sumN (p : Nat × Nat) : Nat := p.1 + 65536 * p.2
theorem stepS_lt (p : Nat × Nat) (c : UInt8) : (stepS p c).1 < 65535 ∧ (stepS p c).2 < 65535 := ⟨Nat.mod_lt _ (by omega), Nat.mod_lt _ (by omega)⟩
theorem sumP_lt (xs : List UInt8) : ∀ (p : Nat × Nat), p.1 < 65535 → p.2 < 65535 → (sumP xs p).1 < 65535 ∧ (sumP xs p).2 < 65535 := by
  induction xs with
  | nil => intro p h1 h2; exact ⟨h1, h2⟩
  | cons c r ih => intro p _ _; exact ih (stepS p c) (stepS_lt p c).1 (stepS_lt p c).2
theorem sumP_snoc (xs : List UInt8) (k : Nat) (h : k < xs.length) (p : Nat × Nat) : sumP (xs.take (k + 1)) p = stepS (sumP (xs.take k) p) xs[k] := by
  unfold sumP; rw [take_snoc xs k h, List.foldl_append]; rfl
theorem sumP_append (xs ys : List UInt8) (p : Nat × Nat) : sumP (xs ++ ys) p = sumP ys (sumP xs p) := by unfold sumP; rw [List.foldl_append]

/-- The bytes, added; and each as often as it stands ahead of an end. -/
def sX : List UInt8 → Nat
  | [] => 0
  | c :: r => c.toNat + sX r
def sY : List UInt8 → Nat
  | [] => 0
  | c :: r => (r.length + 1) * c.toNat + sY r
theorem sX_append (a b : List UInt8) : sX (a ++ b) = sX a + sX b := by
  induction a with
  | nil => simp [sX]
  | cons c r ih => simp only [List.cons_append, sX, ih]; omega
theorem sY_append (a b : List UInt8) : sY (a ++ b) = sY a + b.length * sX a + sY b := by
  induction a with
  | nil => simp [sX, sY]
  | cons c r ih =>
    simp only [List.cons_append, sX, sY, ih, List.length_append, Nat.mul_add, Nat.add_mul, Nat.one_mul]
    omega
theorem sumP_eq (xs : List UInt8) : ∀ (x y : Nat), x < 65535 → y < 65535 → sumP xs (x, y) = ((x + sX xs) % 65535, (y + xs.length * x + sY xs) % 65535) := by
  induction xs with
  | nil => intro x y hx hy; simp [sumP, sX, sY, Nat.mod_eq_of_lt hx, Nat.mod_eq_of_lt hy]
  | cons c r ih =>
    intro x y _ _
    have h := ih ((x + c.toNat) % 65535) ((y + (x + c.toNat)) % 65535) (Nat.mod_lt _ (by omega)) (Nat.mod_lt _ (by omega))
    show sumP r (stepS (x, y) c) = _
    rw [show stepS (x, y) c = ((x + c.toNat) % 65535, (y + (x + c.toNat)) % 65535) from rfl, h]
    simp only [sX, sY, List.length_cons]
    congr 1
    · omega
    · have e : (r.length * ((x + c.toNat) % 65535)) % 65535 = (r.length * (x + c.toNat)) % 65535 := by
        rw [Nat.mul_mod, Nat.mod_mod, ← Nat.mul_mod]
      have f : (r.length + 1) * x + (r.length + 1) * c.toNat = r.length * (x + c.toNat) + (x + c.toNat) := by
        rw [← Nat.mul_add, Nat.add_mul, Nat.one_mul]
      rw [show y + (r.length + 1) * x + ((r.length + 1) * c.toNat + sY r) = y + (r.length * (x + c.toNat) + (x + c.toNat)) + sY r by omega]
      omega
theorem sum0 (xs : List UInt8) : sumP xs (0, 0) = (sX xs % 65535, sY xs % 65535) := by rw [sumP_eq xs 0 0 (by omega) (by omega)]; simp
/-- Two sums, and how many bytes the second text has. -/
def joinP (p q : Nat × Nat) (n : Nat) : Nat × Nat := ((p.1 + q.1) % 65535, (p.2 + q.2 + n * p.1) % 65535)
theorem sum_join (xs ys : List UInt8) : joinP (sumP xs (0, 0)) (sumP ys (0, 0)) ys.length = sumP (xs ++ ys) (0, 0) := by
  simp only [sum0, joinP, sX_append, sY_append]
  congr 1
  · omega
  · have e : (ys.length * (sX xs % 65535)) % 65535 = (ys.length * sX xs) % 65535 := by rw [Nat.mul_mod, Nat.mod_mod, ← Nat.mul_mod]
    omega
theorem sumN_inj {p q : Nat × Nat} (hp : p.1 < 65535) (hq : q.1 < 65535) (h : sumN p = sumN q) : p = q := by
  obtain ⟨a, b⟩ := p; obtain ⟨c, d⟩ := q
  simp only [sumN] at h hp hq
  have : a = c := by omega
  subst this
  have : b = d := by omega
  subst this; rfl
/-- A sum of a text. -/
def sumT (xs : List UInt8) : Nat := sumN (sumP xs (0, 0))
theorem sumP0_lt (xs : List UInt8) : (sumP xs (0, 0)).1 < 65535 ∧ (sumP xs (0, 0)).2 < 65535 := sumP_lt xs (0, 0) (by decide) (by decide)
theorem sumT_lt (xs : List UInt8) : sumT xs < 4294967296 ∧ sumT xs % 65536 < 65535 ∧ sumT xs / 65536 < 65535 := by
  have := sumP0_lt xs
  unfold sumT sumN; omega
/-- The answer of Join. -/
def joinN (a b n : Nat) : Nat := (a % 65536 + b % 65536) % 65535 + 65536 * ((a / 65536 + b / 65536 + n * (a % 65536)) % 65535)
theorem joinN_sum (xs ys : List UInt8) : joinN (sumT xs) (sumT ys) ys.length = sumT (xs ++ ys) := by
  have h := sum_join xs ys
  have hx := sumP0_lt xs
  have hy := sumP0_lt ys
  unfold sumT
  rw [← h]
  unfold joinN sumN joinP
  rw [show ((sumP xs (0, 0)).1 + 65536 * (sumP xs (0, 0)).2) % 65536 = (sumP xs (0, 0)).1 by omega, show ((sumP ys (0, 0)).1 + 65536 * (sumP ys (0, 0)).2) % 65536 = (sumP ys (0, 0)).1 by omega,
    show ((sumP xs (0, 0)).1 + 65536 * (sumP xs (0, 0)).2) / 65536 = (sumP xs (0, 0)).2 by omega, show ((sumP ys (0, 0)).1 + 65536 * (sumP ys (0, 0)).2) / 65536 = (sumP ys (0, 0)).2 by omega]
theorem sumT_eq_iff (xs ys : List UInt8) : sumT xs = sumT ys ↔ sX xs % 65535 = sX ys % 65535 ∧ sY xs % 65535 = sY ys % 65535 := by
  unfold sumT
  constructor
  · intro h
    have := sumN_inj (sumP0_lt xs).1 (sumP0_lt ys).1 h
    rw [sum0, sum0] at this
    injection this with h1 h2
    exact ⟨h1, h2⟩
  · rintro ⟨h1, h2⟩; rw [sum0, sum0, h1, h2]

/-- One byte that is another one. -/
theorem sum_byte (pre post : List UInt8) (p q : UInt8) : sumT (pre ++ p :: post) = sumT (pre ++ q :: post) ↔ p = q := by
  constructor
  · intro h
    have h1 := ((sumT_eq_iff _ _).1 h).1
    simp only [sX_append, sX] at h1
    have hp := p.toNat_lt
    have hq := q.toNat_lt
    have : p.toNat = q.toNat := by omega
    exact UInt8.toNat_inj.1 this
  · rintro rfl; rfl
/-- Two neighbours the other way round. -/
theorem sum_swap (pre post : List UInt8) (p q : UInt8) : sumT (pre ++ q :: p :: post) = sumT (pre ++ p :: q :: post) ↔ p = q := by
  constructor
  · intro h
    have h2 := ((sumT_eq_iff _ _).1 h).2
    simp only [sY_append, sY, List.length_cons, Nat.add_mul, Nat.one_mul] at h2
    have hp := p.toNat_lt
    have hq := q.toNat_lt
    have e1 : (pre.length * 0) = 0 := by simp
    have : p.toNat = q.toNat := by omega
    exact UInt8.toNat_inj.1 this
  · rintro rfl; rfl
theorem sX_noughts (n : Nat) : sX (List.replicate n 0) = 0 := by
  induction n with
  | zero => rfl
  | succ n ih => simp [List.replicate_succ, sX, ih]
theorem sY_noughts (n : Nat) : sY (List.replicate n 0) = 0 := by
  induction n with
  | zero => rfl
  | succ n ih => simp [List.replicate_succ, sY, ih]
theorem sum_ahead (n : Nat) (b : List UInt8) : sumT (List.replicate n 0 ++ b) = sumT b := by
  rw [sumT_eq_iff, sX_append, sY_append, sX_noughts, sY_noughts]; simp
theorem sum_behind (n : Nat) (b : List UInt8) : sumT (b ++ List.replicate n 0) = sumT b % 65536 + 65536 * ((sumT b / 65536 + n * (sumT b % 65536) % 65535) % 65535) := by
  unfold sumT
  rw [sum0, sum0, sX_append, sY_append, sX_noughts, sY_noughts]
  have h1 : sX b % 65535 < 65535 := Nat.mod_lt _ (by omega)
  have h2 : sY b % 65535 < 65535 := Nat.mod_lt _ (by omega)
  simp only [sumN, List.length_replicate, Nat.add_zero]
  rw [show (sX b % 65535 + 65536 * (sY b % 65535)) % 65536 = sX b % 65535 by omega, show (sX b % 65535 + 65536 * (sY b % 65535)) / 65536 = sY b % 65535 by omega]
  have e : (n * (sX b % 65535)) % 65535 = (n * sX b) % 65535 := by rw [Nat.mul_mod, Nat.mod_mod, ← Nat.mul_mod]
  omega
end Go.Proofs.Ytemdcpajcaaphaa
