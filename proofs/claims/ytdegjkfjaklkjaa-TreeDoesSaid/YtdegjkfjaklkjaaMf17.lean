/-
  TEXTS OF ONE PROOF, merged: TreeOrderW.
-/
import Derived.Test.YtdegjkfjaklkjaaMf14
import Derived.Test.YtdegjkfjaklkjaaMf15
namespace Go.Proofs.Ytdegjkfjaklkjaa
open Go.RowKit
theorem prN_few {n : Nd} (h : fitN n) : (prN n).length ≤ 100000 := by
  unfold prN
  split
  · rename_i hk
    have := pairs_le (wN n) (Nat.le_refl _) hk.1
    have := h.1
    omega
  · simp
end Go.Proofs.Ytdegjkfjaklkjaa
