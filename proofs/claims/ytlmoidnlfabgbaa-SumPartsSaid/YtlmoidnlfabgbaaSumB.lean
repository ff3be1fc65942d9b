/-
  THE WALKS OF THE DOCUMENT's Sum AND Join, AND OF awake: the examples that every law of sum tries first: true, and nothing that lay has turned.
-/
import Derived.WalkKit
import Derived.WalkSpells
import Derived.WalkLawsBesides
import Derived.Lib.Hide
import Derived.Test.YtlmoidnlfabgbaaProg
import Derived.Test.YtlmoidnlfabgbaaByte
import Derived.Test.YtlmoidnlfabgbaaSumM
import Derived.Test.YtlmoidnlfabgbaaSumA
namespace Go.Proofs.Ytlmoidnlfabgbaa
open Go.RowKit
theorem modmul (c n p : Int) : (c + n % 65535 * p) % 65535 = (c + n * p) % 65535 := by
  rw [Int.add_emod, Int.mul_emod, Int.emod_emod, ← Int.mul_emod, ← Int.add_emod]
theorem ret2i {k k' : IntKind} {a b c : Int} (h : a = b) : Ending.returned (.tuple #[.int k a, .int k' c]) = .returned (.tuple #[.int k b, .int k' c]) := by rw [h]
set_option maxRecDepth 100000 in
set_option maxHeartbeats 1000000 in
theorem refJoin_yes (w : World) (a b n : Int) (a0 : 0 ≤ a) (a1 : a < 4294967296) (b0 : 0 ≤ b) (b1 : b < 4294967296) (n0 : 0 ≤ n) (n1 : n ≤ 2147483647)
    (h1 : a % 65536 < 65535) (h2 : a / 65536 < 65535) (h3 : b % 65536 < 65535) (h4 : b / 65536 < 65535) :
    Calls Try.prog 11 #[.int .u32 a, .int .u32 b, .int .i64 n] w fun e w' => e = .returned (.tuple #[.int .u32 ((a % 65536 + b % 65536) % 65535 + 65536 * ((a / 65536 + b / 65536 + n * (a % 65536)) % 65535)), .int .i64 0]) ∧ w = w' := by
  have p0 : 0 ≤ (n % 65535) * (a % 65536) := Int.mul_nonneg (by omega) (by omega)
  have p1 : (n % 65535) * (a % 65536) ≤ 65535 * 65535 := Int.le_trans (Int.mul_le_mul_of_nonneg_left (by omega) (by omega) (b := 65535)) (by omega)
  have n2 : decide (n < 0) = false := by simp; omega
  have n3 : decide (2147483648 ≤ n) = false := by simp; omega
  have d1 : decide (65535 ≤ a % 65536) = false := by simp; omega
  have d2 : decide (65535 ≤ a / 65536) = false := by simp; omega
  have d3 : decide (65535 ≤ b % 65536) = false := by simp; omega
  have d4 : decide (65535 ≤ b / 65536) = false := by simp; omega
  go_enter Try.func11, Try.ntmps11
  go_wp2
  go_ret2
  exact ⟨ret2i (by rw [modmul]), rfl⟩
set_option maxRecDepth 100000 in
set_option maxHeartbeats 1000000 in
theorem refJoin_no (w : World) (a b n : Int) (a0 : 0 ≤ a) (a1 : a < 4294967296) (b0 : 0 ≤ b) (b1 : b < 4294967296) (h : NoJoin a b n) :
    Calls Try.prog 11 #[.int .u32 a, .int .u32 b, .int .i64 n] w fun e w' => e = .returned (.tuple #[.int .u32 0, .int .i64 1]) ∧ w = w' := by
  have H : n < 0 ∨ 0 ≤ n ∧ 2147483648 ≤ n ∨ 0 ≤ n ∧ n < 2147483648 ∧ 65535 ≤ a % 65536 ∨ 0 ≤ n ∧ n < 2147483648 ∧ a % 65536 < 65535 ∧ 65535 ≤ a / 65536 ∨
    0 ≤ n ∧ n < 2147483648 ∧ a % 65536 < 65535 ∧ a / 65536 < 65535 ∧ 65535 ≤ b % 65536 ∨ 0 ≤ n ∧ n < 2147483648 ∧ a % 65536 < 65535 ∧ a / 65536 < 65535 ∧ b % 65536 < 65535 ∧ 65535 ≤ b / 65536 := by
    unfold NoJoin at h; omega
  clear h
  rcases H with h | ⟨h1, h2⟩ | ⟨h1, h2, h3⟩ | ⟨h1, h2, h3, h4⟩ | ⟨h1, h2, h3, h4, h5⟩ | ⟨h1, h2, h3, h4, h5, h6⟩
  · have d : decide (n < 0) = true := by simpa using h
    go_enter Try.func11, Try.ntmps11
    go_wp2
    go_ret2
    exact ⟨rfl, rfl⟩
  all_goals have d : decide (n < 0) = false := by simpa using h1
  · have d2 : decide (2147483648 ≤ n) = true := by simpa using h2
    go_enter Try.func11, Try.ntmps11
    go_wp2
    go_ret2
    exact ⟨rfl, rfl⟩
  all_goals have d2 : decide (2147483648 ≤ n) = false := by simpa using h2
  · have d3 : decide (65535 ≤ a % 65536) = true := by simpa using h3
    go_enter Try.func11, Try.ntmps11
    go_wp2
    go_ret2
    exact ⟨rfl, rfl⟩
  all_goals have d3 : decide (65535 ≤ a % 65536) = false := by simpa using h3
  · have d4 : decide (65535 ≤ a / 65536) = true := by simpa using h4
    go_enter Try.func11, Try.ntmps11
    go_wp2
    go_ret2
    exact ⟨rfl, rfl⟩
  all_goals have d4 : decide (65535 ≤ a / 65536) = false := by simpa using h4
  · have d5 : decide (65535 ≤ b % 65536) = true := by simpa using h5
    go_enter Try.func11, Try.ntmps11
    go_wp2
    go_ret2
    exact ⟨rfl, rfl⟩
  · have d5 : decide (65535 ≤ b % 65536) = false := by simpa using h5
    have d6 : decide (65535 ≤ b / 65536) = true := by simpa using h6
    go_enter Try.func11, Try.ntmps11
    go_wp2
    go_ret2
    exact ⟨rfl, rfl⟩

theorem ret_int {k : IntKind} {a b : Int} (h : a = b) : Ending.returned (.int k a) = .returned (.int k b) := by rw [h]
set_option maxRecDepth 100000 in
set_option maxHeartbeats 1000000 in
theorem refSum_any (w : World) (Br : Nat) {ad : Option Addr} {n c : Nat} {xs : List UInt8} (hr : Rd Br w (.slice ad n c) xs) :
    Calls Try.prog 13 #[.slice ad n c] w fun e w' => e = .returned (.int .u32 (sumT xs)) ∧ w = w' := by
  obtain rfl : n = xs.length := hr.len.1
  have hm : xs.length ≤ 9223372036854775807 := by have := hr.len.2; unfold maxLen at this; omega
  go_enter Try.func13, Try.ntmps13
  go_wp2
  go_loop [3, 4, 5] (fun x y i => ∃ k : Nat, k ≤ xs.length ∧ i = .int .i64 k ∧ x = .int .i64 (sumP (xs.take k) (0, 0)).1 ∧ y = .int .i64 (sumP (xs.take k) (0, 0)).2) (fun _ _ i => xs.length - (intOf i).toNat)
  case atStart => exact ⟨0, Nat.zero_le _, rfl, rfl, rfl⟩
  case round =>
    obtain ⟨k, hk, rfl, rfl, rfl⟩ := hrel
    have hk' : k ≤ xs.length := hk
    have hlt' := sumP0_lt (xs.take k)
    rcases Nat.lt_or_ge k xs.length with hlt | hlt
    · have hcell : ∃ b off, ad = some ⟨b, off, none⟩ ∧ w.cell? ⟨b, off + k, none⟩ = some (.int .u8 (xs[k]'hlt).toNat) := by
        rcases hr with ⟨a, c', h, _, rfl⟩ | ⟨b, off, cap, h, hBb, h1, h2, hc⟩
        · cases h; exact absurd hlt (Nat.not_lt_zero _)
        · cases h
          exact ⟨b, off, rfl, hc k _ (bv_get xs k hlt)⟩
      obtain ⟨b, off, rfl, hcell⟩ := hcell
      have hc8 := xs[k].toNat_lt
      have hs := Lib.hid (sumP_snoc xs k hlt (0, 0))
      go_wp2
      go_round
      case rel => exact ⟨k + 1, by omega, by go_num, by rw [hs.out]; simp [stepS], by rw [hs.out]; simp [stepS]⟩
      case measure => simp [intOf]; omega
    · go_wp2
      go_ret
      refine ⟨ret_int ?_, rfl⟩
      rw [List.take_of_length_le (by omega)]
      simp [sumT, sumN]

end Go.Proofs.Ytlmoidnlfabgbaa
