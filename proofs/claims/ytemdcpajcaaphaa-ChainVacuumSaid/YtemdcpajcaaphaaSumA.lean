/-
  THE WALKS OF sum's Sum AND Join, AND OF WHAT THEY CALL: Sum is the fold of a step over the bytes; Join's answer by its parts. Any slice of bytes.
-/
import Derived.WalkKit
import Derived.RegionTactic
import Derived.ChangeAlike
import Derived.Lib.Hide
import Derived.Test.YtemdcpajcaaphaaProg
import Derived.Test.YtemdcpajcaaphaaByte
import Derived.Test.YtemdcpajcaaphaaAux
import Derived.Test.YtemdcpajcaaphaaSumM
namespace Go.Proofs.Ytemdcpajcaaphaa
open Go.RowKit
def Pair (W : World) (B : Nat) (t : TypeId) (x y : Nat) : Prop := W.heap[B]? = some (.cells #[.int .u64 x, .int .u64 y] t (0, 0))
theorem Pair.new (W : World) (t : TypeId) (x y : Nat) : Pair (W.alloc (.cells #[.int .u64 x, .int .u64 y] t)) W.heap.size t x y := by unfold Pair; simp only [World.alloc, Array.getElem?_push_size]
theorem Pair.lt {W : World} {B : Nat} {t : TypeId} {x y : Nat} (h : Pair W B t x y) : B < W.heap.size := (Array.getElem?_eq_some_iff.1 h).1
theorem Pair.cell0 {W : World} {B : Nat} {t : TypeId} {x y : Nat} (h : Pair W B t x y) : W.cell? ⟨B, 0, none⟩ = some (.int .u64 x) := by simp [World.cell?, show W.heap[B]? = _ from h]
theorem Pair.cell1 {W : World} {B : Nat} {t : TypeId} {x y : Nat} (h : Pair W B t x y) : W.cell? ⟨B, 1, none⟩ = some (.int .u64 y) := by simp [World.cell?, show W.heap[B]? = _ from h]
theorem Pair.frozen0 {W : World} {B : Nat} {t : TypeId} {x y : Nat} (h : Pair W B t x y) : W.frozen? ⟨B, 0, none⟩ = false := by simp [World.frozen?, show W.heap[B]? = _ from h]
theorem Pair.frozen1 {W : World} {B : Nat} {t : TypeId} {x y : Nat} (h : Pair W B t x y) : W.frozen? ⟨B, 1, none⟩ = false := by simp [World.frozen?, show W.heap[B]? = _ from h]
theorem Pair.set {W W' : World} {B : Nat} {t : TypeId} {x y : Nat} (h : Pair W B t x y) (x' y' : Nat) (ha : W'.Alike ((W.setCell ⟨B, 0, none⟩ (.int .u64 x')).setCell ⟨B, 1, none⟩ (.int .u64 y'))) : Pair W' B t x' y' := by
  unfold Pair at h ⊢
  rw [ha.1]
  simp [World.setCell, Array.getElem?_modify, h]
theorem below_set {W W' : World} {B base : Nat} {u v : Value} (hb : base ≤ B) (ha : W'.Alike ((W.setCell ⟨B, 0, none⟩ u).setCell ⟨B, 1, none⟩ v)) (ht : W'.tape = W.tape) : Below base W W' := by
  have h := ((Below.refl base W).setCell (p := ⟨B, 0, none⟩) hb u).setCell (p := ⟨B, 1, none⟩) hb v
  exact ⟨ha.2.1.trans h.os, ht, ha.2.2.trans h.output, by rw [ha.1]; exact h.size, fun k hk => by rw [ha.1]; exact h.block k hk⟩

def PairV (W : World) (B : Nat) (t : TypeId) (u v : Value) : Prop := W.heap[B]? = some (.cells #[u, v] t (0, 0))
section
variable {W W' : World} {B : Nat} {t : TypeId} {u v : Value}
theorem PairV.new (W : World) (t : TypeId) (u v : Value) : PairV (W.alloc (.cells #[u, v] t)) W.heap.size t u v := by unfold PairV; simp only [World.alloc, Array.getElem?_push_size]
theorem PairV.new' {n : Nat} (h : n = W.heap.size) : PairV (W.alloc (.cells #[u, v] t)) n t u v := by subst h; exact PairV.new W t u v
theorem PairV.lt (h : PairV W B t u v) : B < W.heap.size := (Array.getElem?_eq_some_iff.1 h).1
theorem PairV.cell0 (h : PairV W B t u v) : W.cell? ⟨B, 0, none⟩ = some u := by simp [World.cell?, show W.heap[B]? = _ from h]
theorem PairV.cell1 (h : PairV W B t u v) : W.cell? ⟨B, 1, none⟩ = some v := by simp [World.cell?, show W.heap[B]? = _ from h]
theorem PairV.alloc (h : PairV W B t u v) (o : Obj) : PairV (W.alloc o) B t u v := (Below.heap_alloc W o B h.lt).trans h
theorem PairV.below {n : Nat} (h : PairV W B t u v) (hb : Below n W W') (hn : B < n) : PairV W' B t u v := (hb.block B hn).trans h
theorem PairV.frozen0 (h : PairV W B t u v) : W.frozen? ⟨B, 0, none⟩ = false := by simp [World.frozen?, show W.heap[B]? = _ from h]
theorem PairV.frozen1 (h : PairV W B t u v) : W.frozen? ⟨B, 1, none⟩ = false := by simp [World.frozen?, show W.heap[B]? = _ from h]
theorem PairV.set0 (h : PairV W B t u v) (u' : Value) : PairV (W.setCell ⟨B, 0, none⟩ u').drew B t u' v := by
  unfold PairV at h ⊢
  simp [World.drew, World.setCell, Array.getElem?_modify, h]
theorem PairV.set1 (h : PairV W B t u v) (v' : Value) : PairV (W.setCell ⟨B, 1, none⟩ v').drew B t u v' := by
  unfold PairV at h ⊢
  simp [World.drew, World.setCell, Array.getElem?_modify, h]
end

end Go.Proofs.Ytemdcpajcaaphaa
