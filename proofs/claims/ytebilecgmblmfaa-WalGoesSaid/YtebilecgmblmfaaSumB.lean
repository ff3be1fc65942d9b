/-
  THE WALK OF THE DOCUMENT's Sum. No condition beyond each theorem's own.
-/
import Derived.WalkKit
import Derived.WalkSpells
import Derived.WalkLawsBesides
import Derived.Lib.Hide
import Derived.Test.YtebilecgmblmfaaProg
import Derived.Test.YtebilecgmblmfaaByte
import Derived.Test.YtebilecgmblmfaaSumM
import Derived.Test.YtebilecgmblmfaaSumA
namespace Go.Proofs.Ytebilecgmblmfaa
open Go.RowKit
set_option maxRecDepth 100000 in
set_option maxHeartbeats 1000000 in
theorem refSum_any (w : World) (Br : Nat) {ad : Option Addr} {n c : Nat} {xs : List UInt8} (hr : Rd Br w (.slice ad n c) xs) :
    Calls Try.prog 39 #[.slice ad n c] w fun e w' => e = .returned (.int .u32 (sumT xs)) ∧ w = w' := by
  obtain rfl : n = xs.length := hr.len.1
  have hm : xs.length ≤ 9223372036854775807 := by have := hr.len.2; unfold maxLen at this; omega
  go_enter Try.func39, Try.ntmps39
  go_wp2
  go_loop [3, 4, 5] (fun x y i => ∃ k : Nat, k ≤ xs.length ∧ i = .int .i64 k ∧ x = .int .i64 (sumP (xs.take k) (0, 0)).1 ∧ y = .int .i64 (sumP (xs.take k) (0, 0)).2) (fun _ _ i => xs.length - (intOf i).toNat)
  case atStart => exact ⟨0, Nat.zero_le _, rfl, rfl, rfl⟩
  case round =>
    obtain ⟨k, hk, rfl, rfl, rfl⟩ := hrel
    have hk' : k ≤ xs.length := hk
    have hlt' := sumP0_lt (xs.take k)
    rcases Nat.lt_or_ge k xs.length with hlt | hlt
    · have hcell : ∃ b off, ad = some ⟨b, off, none⟩ ∧ w.cell? ⟨b, off + k, none⟩ = some (.int .u8 (xs[k]'hlt).toNat) := by
        rcases hr with ⟨a, c', h, _, rfl⟩ | ⟨b, off, cap, h, hBb, h1, h2, hc⟩
        · cases h; exact absurd hlt (Nat.not_lt_zero _)
        · cases h
          exact ⟨b, off, rfl, hc k _ (bv_get xs k hlt)⟩
      obtain ⟨b, off, rfl, hcell⟩ := hcell
      have hc8 := xs[k].toNat_lt
      have hs := Lib.hid (sumP_snoc xs k hlt (0, 0))
      go_wp2
      go_round
      case rel => exact ⟨k + 1, by omega, by go_num, by rw [hs.out]; simp [stepS], by rw [hs.out]; simp [stepS]⟩
      case measure => simp [intOf]; omega
    · go_wp2
      go_ret
      refine ⟨ret_int ?_, rfl⟩
      rw [List.take_of_length_le (by omega)]
      simp [sumT, sumN]

end Go.Proofs.Ytebilecgmblmfaa
