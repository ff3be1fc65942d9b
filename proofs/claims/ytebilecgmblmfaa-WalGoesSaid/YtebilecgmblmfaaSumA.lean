/-
  THE WALKS OF sum's Sum AND Join, AND OF WHAT THEY CALL: Sum is the fold of a step over the bytes; Join's answer by its parts. Any slice of bytes.
-/
import Derived.WalkKit
import Derived.RegionTactic
import Derived.ChangeAlike
import Derived.Lib.Hide
import Derived.Test.YtebilecgmblmfaaProg
import Derived.Test.YtebilecgmblmfaaByte
import Derived.Test.YtebilecgmblmfaaAux
import Derived.Test.YtebilecgmblmfaaSumM
namespace Go.Proofs.Ytebilecgmblmfaa
open Go.RowKit
set_option maxRecDepth 100000 in
set_option maxHeartbeats 1000000 in
theorem add_walk (w : World) (b : Nat) (x y : Int) (c : Int) (hx0 : 0 ≤ x) (hx1 : x < 65535) (hy0 : 0 ≤ y) (hy1 : y < 65535) (hc0 : 0 ≤ c) (hc1 : c < 256)
  (h0 : w.cell? ⟨b, 0, none⟩ = some (.int .u64 x)) (h1 : w.cell? ⟨b, 1, none⟩ = some (.int .u64 y)) (hf0 : w.frozen? ⟨b, 0, none⟩ = false) (hf1 : w.frozen? ⟨b, 1, none⟩ = false) :
    Calls Try.prog 56 #[.pointer (some ⟨b, 0, none⟩), .int .u8 c] w fun e w' => e = .returned (.tuple #[]) ∧ w'.Alike ((w.setCell ⟨b, 0, none⟩ (.int .u64 ((x + c) % 65535))).setCell ⟨b, 1, none⟩ (.int .u64 ((y + (x + c)) % 65535))) ∧ w'.tape = w.tape := by
  go_enter Try.func56, Try.ntmps56
  go_wp2
  go_region
  all_goals go_wp2
  all_goals go_region
  all_goals go_end0
  all_goals exact ⟨rfl, ⟨rfl, rfl, rfl⟩, rfl⟩

def Pair (W : World) (B : Nat) (t : TypeId) (x y : Nat) : Prop := W.heap[B]? = some (.cells #[.int .u64 x, .int .u64 y] t (0, 0))
theorem Pair.new (W : World) (t : TypeId) (x y : Nat) : Pair (W.alloc (.cells #[.int .u64 x, .int .u64 y] t)) W.heap.size t x y := by unfold Pair; simp only [World.alloc, Array.getElem?_push_size]
theorem Pair.lt {W : World} {B : Nat} {t : TypeId} {x y : Nat} (h : Pair W B t x y) : B < W.heap.size := (Array.getElem?_eq_some_iff.1 h).1
theorem Pair.cell0 {W : World} {B : Nat} {t : TypeId} {x y : Nat} (h : Pair W B t x y) : W.cell? ⟨B, 0, none⟩ = some (.int .u64 x) := by simp [World.cell?, show W.heap[B]? = _ from h]
theorem Pair.cell1 {W : World} {B : Nat} {t : TypeId} {x y : Nat} (h : Pair W B t x y) : W.cell? ⟨B, 1, none⟩ = some (.int .u64 y) := by simp [World.cell?, show W.heap[B]? = _ from h]
theorem Pair.frozen0 {W : World} {B : Nat} {t : TypeId} {x y : Nat} (h : Pair W B t x y) : W.frozen? ⟨B, 0, none⟩ = false := by simp [World.frozen?, show W.heap[B]? = _ from h]
theorem Pair.frozen1 {W : World} {B : Nat} {t : TypeId} {x y : Nat} (h : Pair W B t x y) : W.frozen? ⟨B, 1, none⟩ = false := by simp [World.frozen?, show W.heap[B]? = _ from h]
theorem Pair.set {W W' : World} {B : Nat} {t : TypeId} {x y : Nat} (h : Pair W B t x y) (x' y' : Nat) (ha : W'.Alike ((W.setCell ⟨B, 0, none⟩ (.int .u64 x')).setCell ⟨B, 1, none⟩ (.int .u64 y'))) : Pair W' B t x' y' := by
  unfold Pair at h ⊢
  rw [ha.1]
  simp [World.setCell, Array.getElem?_modify, h]
theorem below_set {W W' : World} {B base : Nat} {u v : Value} (hb : base ≤ B) (ha : W'.Alike ((W.setCell ⟨B, 0, none⟩ u).setCell ⟨B, 1, none⟩ v)) (ht : W'.tape = W.tape) : Below base W W' := by
  have h := ((Below.refl base W).setCell (p := ⟨B, 0, none⟩) hb u).setCell (p := ⟨B, 1, none⟩) hb v
  exact ⟨ha.2.1.trans h.os, ht, ha.2.2.trans h.output, by rw [ha.1]; exact h.size, fun k hk => by rw [ha.1]; exact h.block k hk⟩

def PairV (W : World) (B : Nat) (t : TypeId) (u v : Value) : Prop := W.heap[B]? = some (.cells #[u, v] t (0, 0))
section
variable {W W' : World} {B : Nat} {t : TypeId} {u v : Value}
theorem PairV.new (W : World) (t : TypeId) (u v : Value) : PairV (W.alloc (.cells #[u, v] t)) W.heap.size t u v := by unfold PairV; simp only [World.alloc, Array.getElem?_push_size]
theorem PairV.new' {n : Nat} (h : n = W.heap.size) : PairV (W.alloc (.cells #[u, v] t)) n t u v := by subst h; exact PairV.new W t u v
theorem PairV.lt (h : PairV W B t u v) : B < W.heap.size := (Array.getElem?_eq_some_iff.1 h).1
theorem PairV.cell0 (h : PairV W B t u v) : W.cell? ⟨B, 0, none⟩ = some u := by simp [World.cell?, show W.heap[B]? = _ from h]
theorem PairV.cell1 (h : PairV W B t u v) : W.cell? ⟨B, 1, none⟩ = some v := by simp [World.cell?, show W.heap[B]? = _ from h]
theorem PairV.alloc (h : PairV W B t u v) (o : Obj) : PairV (W.alloc o) B t u v := (Below.heap_alloc W o B h.lt).trans h
theorem PairV.below {n : Nat} (h : PairV W B t u v) (hb : Below n W W') (hn : B < n) : PairV W' B t u v := (hb.block B hn).trans h
theorem PairV.frozen0 (h : PairV W B t u v) : W.frozen? ⟨B, 0, none⟩ = false := by simp [World.frozen?, show W.heap[B]? = _ from h]
theorem PairV.frozen1 (h : PairV W B t u v) : W.frozen? ⟨B, 1, none⟩ = false := by simp [World.frozen?, show W.heap[B]? = _ from h]
theorem PairV.set0 (h : PairV W B t u v) (u' : Value) : PairV (W.setCell ⟨B, 0, none⟩ u').drew B t u' v := by
  unfold PairV at h ⊢
  simp [World.drew, World.setCell, Array.getElem?_modify, h]
theorem PairV.set1 (h : PairV W B t u v) (v' : Value) : PairV (W.setCell ⟨B, 1, none⟩ v').drew B t u v' := by
  unfold PairV at h ⊢
  simp [World.drew, World.setCell, Array.getElem?_modify, h]
end

theorem add_any (w : World) (B t : Nat) (x y : Nat) (c : UInt8) (hx1 : x < 65535) (hy1 : y < 65535) (h : Pair w B t x y) (base : Nat) (hB : base ≤ B) :
    Calls Try.prog 56 #[.pointer (some ⟨B, 0, none⟩), .int .u8 c.toNat] w fun e w' => e = .returned (.tuple #[]) ∧ Pair w' B t (stepS (x, y) c).1 (stepS (x, y) c).2 ∧ Below base w w' := by
  have hc := c.toNat_lt
  refine (add_walk w B x y c.toNat (by omega) (by omega) (by omega) (by omega) (by omega) (by omega) h.cell0 h.cell1 h.frozen0 h.frozen1).mono ?_
  rintro e w' ⟨he, ha, ht⟩
  exact ⟨he, h.set _ _ (by simpa [stepS] using ha), below_set hB ha ht⟩

set_option maxRecDepth 100000 in
set_option maxHeartbeats 1000000 in
theorem each_any (w : World) (B t : Nat) (base Br : Nat) (hB : base ≤ B) (hBr : Br ≤ base) {ad : Option Addr} {n c : Nat} {xs : List UInt8} (hr : Rd Br w (.slice ad n c) xs) (h : Pair w B t 0 0) :
    Calls Try.prog 55 #[.slice ad n c, .func (.func 56) #[.pointer (some ⟨B, 0, none⟩)] #[]] w fun e w' => e = .returned (.tuple #[]) ∧ Pair w' B t (sumP xs (0, 0)).1 (sumP xs (0, 0)).2 ∧ Below base w w' := by
  obtain rfl : n = xs.length := hr.len.1
  have hm : xs.length ≤ 9223372036854775807 := by have := hr.len.2; unfold maxLen at this; omega
  go_enter Try.func55, Try.ntmps55
  go_wp2
  go_loopw [8] (fun i wr => ∃ k : Nat, k ≤ xs.length ∧ i = .int .i64 k ∧ Pair wr B t (sumP (xs.take k) (0, 0)).1 (sumP (xs.take k) (0, 0)).2 ∧ Below base w wr) (fun i _ => xs.length - (intOf i).toNat)
  case atStart => exact ⟨0, Nat.zero_le _, rfl, by simpa [sumP] using h, Below.refl _ _⟩
  case round =>
    obtain ⟨k, hk, rfl, hp, hb⟩ := hrel
    have hk' : k ≤ xs.length := hk
    rcases Nat.lt_or_ge k xs.length with hlt | hlt
    · have hcell : ∃ b off, ad = some ⟨b, off, none⟩ ∧ wr.cell? ⟨b, off + k, none⟩ = some (.int .u8 (xs[k]'hlt).toNat) := by
        rcases hr with ⟨a, c', h, _, rfl⟩ | ⟨b, off, cap, h, hBb, h1, h2, hc⟩
        · cases h; exact absurd hlt (Nat.not_lt_zero _)
        · cases h
          exact ⟨b, off, rfl, (hb.cell (p := ⟨b, off + k, none⟩) (by show b < base; omega)).trans (hc k _ (bv_get xs k hlt))⟩
      obtain ⟨b, off, rfl, hcell⟩ := hcell
      have hlt' := sumP_lt (xs.take k) (0, 0) (by decide) (by decide)
      have hs := Lib.hid (sumP_snoc xs k hlt (0, 0))
      go_wp2_with (refine (add_any _ B t _ _ _ hlt'.1 hlt'.2 hp base hB).mono ?_; rintro e w1 ⟨rfl, hp1, hb1⟩)
      go_roundw
      case rel => exact ⟨k + 1, by omega, by go_num, by rw [hs.out]; exact hp1, hb.trans hb1⟩
      case measure => simp [intOf]; omega
    · go_wp2
      go_end0
      refine ⟨rfl, ?_, hb⟩
      rw [List.take_of_length_le (by omega)] at hp
      exact hp

set_option maxRecDepth 100000 in
set_option maxHeartbeats 1000000 in
theorem psum_walk (w : World) (x y : Int) (hx0 : 0 ≤ x) (hy0 : 0 ≤ y) (hx1 : x < 65535) (hy1 : y < 65535) :
    Calls Try.prog 57 #[.agg #[.int .u64 x, .int .u64 y]] w fun e w' => e = .returned (.int .u32 (x + 65536 * y)) ∧ Below w.heap.size w w' := by
  go_enter Try.func57, Try.ntmps57
  go_wp2
  go_ret
  exact ⟨rfl, (Below.refl _ _).alloc (Nat.le_refl _) _⟩

set_option maxRecDepth 100000 in
set_option maxHeartbeats 1000000 in
theorem sum_any (w : World) (Br : Nat) (hB : Br ≤ w.heap.size) {ad : Option Addr} {n c : Nat} {xs : List UInt8} (hr : Rd Br w (.slice ad n c) xs) :
    Calls Try.prog 49 #[.slice ad n c] w fun e w' => e = .returned (.int .u32 (sumT xs)) ∧ Below w.heap.size w w' := by
  have hlt' := sumP_lt xs (0, 0) (by decide) (by decide)
  go_enter Try.func49, Try.ntmps49
  go_wp2_with fail
  refine (each_any _ w.heap.size 79 w.heap.size Br (Nat.le_refl _) hB (hr.below ((Below.refl _ _).alloc hB _)) (Pair.new w _ _ _)).mono ?_
  rintro e w1 ⟨rfl, hp, hb⟩
  have c0 := hp.cell0
  have c1 := hp.cell1
  go_wp2_with fail
  refine (psum_walk _ _ _ (by omega) (by omega) (by omega) (by omega)).mono ?_
  rintro e w2 ⟨rfl, hb2⟩
  go_wp2
  go_ret
  exact ⟨rfl, ((Below.refl _ _).alloc (Nat.le_refl _) _).trans (hb.trans (hb2.mono (Nat.le_of_lt hp.lt)))⟩
end Go.Proofs.Ytebilecgmblmfaa
