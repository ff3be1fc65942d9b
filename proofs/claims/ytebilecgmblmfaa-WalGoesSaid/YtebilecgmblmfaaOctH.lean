/-
  octet's CONTRACTS AT A WHOLE NUMBER OF THE LANGUAGE's OWN KIND, which is held to its range by premises. No condition beyond each theorem's own.
-/
import Derived.WalkKit
import Derived.Test.YtebilecgmblmfaaOctA
import Derived.Test.YtebilecgmblmfaaOctB
import Derived.Test.YtebilecgmblmfaaOctE
namespace Go.Proofs.Ytebilecgmblmfaa
open Go.RowKit
theorem size_nat (n : Int) (w : World) (h0 : 0 ≤ n) (h1 : n ≤ 2147483647) : Calls Try.prog 51 #[.int .i64 n] w fun e w' => e = .returned (.int .i64 (numB n.toNat).length) ∧ Below w.heap.size w w' := by
  have h := size_yes n.toNat w (by omega) (numB_len5 _ (by omega))
  rwa [Int.toNat_of_nonneg h0] at h
theorem size_eq (n : Int) (w : World) {xs : List UInt8} (hx : numB n.toNat = xs) (h0 : 0 ≤ n) (h1 : n ≤ 2147483647) : Calls Try.prog 51 #[.int .i64 n] w fun e w' => e = .returned (.int .i64 xs.length) ∧ Below w.heap.size w w' := by
  subst hx; exact size_nat n w h0 h1
theorem refNumber_nat (n : Int) (w : World) (h0 : 0 ≤ n) (h1 : n ≤ 2147483647) {B : Nat} {ad : Option Addr} {k c : Nat} {xs : List UInt8} (hr : Rd B w (.slice ad k c) xs) (hB : B ≤ w.heap.size) (hx : xs.length ≤ 1000000) :
    Calls Try.prog 44 #[.slice ad k c, .int .i64 n] w fun e w' => ∃ ad' k c', e = .returned (.tuple #[.slice ad' k c', .int .i64 0]) ∧ Fresh 5 w w' (.slice ad' k c') (xs ++ numB n.toNat) := by
  have h := refNumber_yes n.toNat (by omega) w hr hB hx
  rwa [Int.toNat_of_nonneg h0] at h
end Go.Proofs.Ytebilecgmblmfaa
