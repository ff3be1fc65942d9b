/-
  SMALL LAWS THAT EVERY STAGE USES: the program's types []byte, byte, string; what a call that makes memory leaves; a slice's cells; results. No condition beyond each theorem's own.
-/
import Derived.WalkKit
import Derived.Test.YtemdcpajcaaphaaProg
import Derived.Test.YtemdcpajcaaphaaNum
import Derived.Test.YtemdcpajcaaphaaByte
import Derived.Test.YtemdcpajcaaphaaMake
namespace Go.Proofs.Ytemdcpajcaaphaa
open Go.RowKit
theorem byP : ByP Try.prog 23 5 9 := ⟨by kernel_rfl, by kernel_rfl, by kernel_rfl, by kernel_rfl⟩
theorem bcell {W w1 : World} (hb : Below W.heap.size W w1) : (∀ b o, b < W.heap.size → w1.cell? ⟨b, o, none⟩ = W.cell? ⟨b, o, none⟩) ∧ (∀ b o, b < W.heap.size → w1.frozen? ⟨b, o, none⟩ = W.frozen? ⟨b, o, none⟩) :=
  ⟨fun b o h => hb.cell (p := ⟨b, o, none⟩) h, fun b o h => hb.frozen (p := ⟨b, o, none⟩) h⟩
theorem ret_int {k : IntKind} {a b : Int} (h : a = b) : Ending.returned (.int k a) = .returned (.int k b) := by rw [h]
theorem ret2i {k k' : IntKind} {a b c : Int} (h : a = b) : Ending.returned (.tuple #[.int k a, .int k' c]) = .returned (.tuple #[.int k b, .int k' c]) := by rw [h]
theorem u8_of {n : Int} (h0 : 0 ≤ n) (h1 : n < 256) : ∃ y : UInt8, n = (y.toNat : Int) := ⟨UInt8.ofNat n.toNat, by simp; omega⟩
theorem Rd.cellAt {B : Nat} {w : World} {ad : Option Addr} {n c : Nat} {xs : List UInt8} (h : Rd B w (.slice ad n c) xs) (k : Nat) (hk : k < xs.length) :
    ∃ b off, ad = some ⟨b, off, none⟩ ∧ b < B ∧ ∀ j (hj : j < xs.length), w.cell? ⟨b, off + j, none⟩ = some (.int .u8 (xs[j].toNat : Int)) := by
  rcases h with ⟨a, c', h, _, rfl⟩ | ⟨b, off, cap, h, hBb, h1, h2, hc⟩
  · exact absurd hk (Nat.not_lt_zero _)
  · cases h
    exact ⟨b, off, rfl, hBb, fun j hj => hc j _ (bv_get xs j hj)⟩
theorem own_set {E : TypeId} {base : Nat} {w : World} {g n cap : Nat} {xs : List UInt8} (h : Own E base w (.slice (some ⟨g, 0, none⟩) n cap) xs) (k : Nat) (b : UInt8) (hk : k < xs.length) : Own E base (w.setCell ⟨g, k, none⟩ (.int .u8 (b.toNat : Int))) (.slice (some ⟨g, 0, none⟩) n cap) (xs.set k b) := by
  obtain ⟨g', cp, hv, _, _, _, _, _, _, hst⟩ := h.some (by omega)
  cases hv
  exact hst k b hk
end Go.Proofs.Ytemdcpajcaaphaa
