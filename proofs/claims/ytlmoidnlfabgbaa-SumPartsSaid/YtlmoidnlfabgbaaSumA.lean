/-
  THE WALKS OF sum's Sum AND Join, AND OF WHAT THEY CALL: Sum is the fold of a step over the bytes; Join's answer by its parts. Any slice of bytes.
-/
import Derived.WalkKit
import Derived.RegionTactic
import Derived.ChangeAlike
import Derived.Lib.Hide
import Derived.Test.YtlmoidnlfabgbaaProg
import Derived.Test.YtlmoidnlfabgbaaByte
import Derived.Test.YtlmoidnlfabgbaaSumM
namespace Go.Proofs.Ytlmoidnlfabgbaa
open Go.RowKit
set_option maxRecDepth 100000 in
set_option maxHeartbeats 1000000 in
theorem add_walk (w : World) (b : Nat) (x y : Int) (c : Int) (hx0 : 0 ≤ x) (hx1 : x < 65535) (hy0 : 0 ≤ y) (hy1 : y < 65535) (hc0 : 0 ≤ c) (hc1 : c < 256)
  (h0 : w.cell? ⟨b, 0, none⟩ = some (.int .u64 x)) (h1 : w.cell? ⟨b, 1, none⟩ = some (.int .u64 y)) (hf0 : w.frozen? ⟨b, 0, none⟩ = false) (hf1 : w.frozen? ⟨b, 1, none⟩ = false) :
    Calls Try.prog 19 #[.pointer (some ⟨b, 0, none⟩), .int .u8 c] w fun e w' => e = .returned (.tuple #[]) ∧ w'.Alike ((w.setCell ⟨b, 0, none⟩ (.int .u64 ((x + c) % 65535))).setCell ⟨b, 1, none⟩ (.int .u64 ((y + (x + c)) % 65535))) ∧ w'.tape = w.tape := by
  go_enter Try.func19, Try.ntmps19
  go_wp2
  go_region
  all_goals go_wp2
  all_goals go_region
  all_goals go_end0
  all_goals exact ⟨rfl, ⟨rfl, rfl, rfl⟩, rfl⟩

def Pair (W : World) (B : Nat) (t : TypeId) (x y : Nat) : Prop := W.heap[B]? = some (.cells #[.int .u64 x, .int .u64 y] t (0, 0))
theorem Pair.new (W : World) (t : TypeId) (x y : Nat) : Pair (W.alloc (.cells #[.int .u64 x, .int .u64 y] t)) W.heap.size t x y := by unfold Pair; simp only [World.alloc, Array.getElem?_push_size]
theorem Pair.lt {W : World} {B : Nat} {t : TypeId} {x y : Nat} (h : Pair W B t x y) : B < W.heap.size := (Array.getElem?_eq_some_iff.1 h).1
theorem Pair.cell0 {W : World} {B : Nat} {t : TypeId} {x y : Nat} (h : Pair W B t x y) : W.cell? ⟨B, 0, none⟩ = some (.int .u64 x) := by simp [World.cell?, show W.heap[B]? = _ from h]
theorem Pair.cell1 {W : World} {B : Nat} {t : TypeId} {x y : Nat} (h : Pair W B t x y) : W.cell? ⟨B, 1, none⟩ = some (.int .u64 y) := by simp [World.cell?, show W.heap[B]? = _ from h]
theorem Pair.frozen0 {W : World} {B : Nat} {t : TypeId} {x y : Nat} (h : Pair W B t x y) : W.frozen? ⟨B, 0, none⟩ = false := by simp [World.frozen?, show W.heap[B]? = _ from h]
theorem Pair.frozen1 {W : World} {B : Nat} {t : TypeId} {x y : Nat} (h : Pair W B t x y) : W.frozen? ⟨B, 1, none⟩ = false := by simp [World.frozen?, show W.heap[B]? = _ from h]
theorem Pair.set {W W' : World} {B : Nat} {t : TypeId} {x y : Nat} (h : Pair W B t x y) (x' y' : Nat) (ha : W'.Alike ((W.setCell ⟨B, 0, none⟩ (.int .u64 x')).setCell ⟨B, 1, none⟩ (.int .u64 y'))) : Pair W' B t x' y' := by
  unfold Pair at h ⊢
  rw [ha.1]
  simp [World.setCell, Array.getElem?_modify, h]
theorem below_set {W W' : World} {B base : Nat} {u v : Value} (hb : base ≤ B) (ha : W'.Alike ((W.setCell ⟨B, 0, none⟩ u).setCell ⟨B, 1, none⟩ v)) (ht : W'.tape = W.tape) : Below base W W' := by
  have h := ((Below.refl base W).setCell (p := ⟨B, 0, none⟩) hb u).setCell (p := ⟨B, 1, none⟩) hb v
  exact ⟨ha.2.1.trans h.os, ht, ha.2.2.trans h.output, by rw [ha.1]; exact h.size, fun k hk => by rw [ha.1]; exact h.block k hk⟩

def PairV (W : World) (B : Nat) (t : TypeId) (u v : Value) : Prop := W.heap[B]? = some (.cells #[u, v] t (0, 0))
section
variable {W W' : World} {B : Nat} {t : TypeId} {u v : Value}
theorem PairV.new (W : World) (t : TypeId) (u v : Value) : PairV (W.alloc (.cells #[u, v] t)) W.heap.size t u v := by unfold PairV; simp only [World.alloc, Array.getElem?_push_size]
theorem PairV.new' {n : Nat} (h : n = W.heap.size) : PairV (W.alloc (.cells #[u, v] t)) n t u v := by subst h; exact PairV.new W t u v
theorem PairV.lt (h : PairV W B t u v) : B < W.heap.size := (Array.getElem?_eq_some_iff.1 h).1
theorem PairV.cell0 (h : PairV W B t u v) : W.cell? ⟨B, 0, none⟩ = some u := by simp [World.cell?, show W.heap[B]? = _ from h]
theorem PairV.cell1 (h : PairV W B t u v) : W.cell? ⟨B, 1, none⟩ = some v := by simp [World.cell?, show W.heap[B]? = _ from h]
theorem PairV.alloc (h : PairV W B t u v) (o : Obj) : PairV (W.alloc o) B t u v := (Below.heap_alloc W o B h.lt).trans h
theorem PairV.below {n : Nat} (h : PairV W B t u v) (hb : Below n W W') (hn : B < n) : PairV W' B t u v := (hb.block B hn).trans h
theorem PairV.frozen0 (h : PairV W B t u v) : W.frozen? ⟨B, 0, none⟩ = false := by simp [World.frozen?, show W.heap[B]? = _ from h]
theorem PairV.frozen1 (h : PairV W B t u v) : W.frozen? ⟨B, 1, none⟩ = false := by simp [World.frozen?, show W.heap[B]? = _ from h]
theorem PairV.set0 (h : PairV W B t u v) (u' : Value) : PairV (W.setCell ⟨B, 0, none⟩ u').drew B t u' v := by
  unfold PairV at h ⊢
  simp [World.drew, World.setCell, Array.getElem?_modify, h]
theorem PairV.set1 (h : PairV W B t u v) (v' : Value) : PairV (W.setCell ⟨B, 1, none⟩ v').drew B t u v' := by
  unfold PairV at h ⊢
  simp [World.drew, World.setCell, Array.getElem?_modify, h]
end

theorem add_any (w : World) (B t : Nat) (x y : Nat) (c : UInt8) (hx1 : x < 65535) (hy1 : y < 65535) (h : Pair w B t x y) (base : Nat) (hB : base ≤ B) :
    Calls Try.prog 19 #[.pointer (some ⟨B, 0, none⟩), .int .u8 c.toNat] w fun e w' => e = .returned (.tuple #[]) ∧ Pair w' B t (stepS (x, y) c).1 (stepS (x, y) c).2 ∧ Below base w w' := by
  have hc := c.toNat_lt
  refine (add_walk w B x y c.toNat (by omega) (by omega) (by omega) (by omega) (by omega) (by omega) h.cell0 h.cell1 h.frozen0 h.frozen1).mono ?_
  rintro e w' ⟨he, ha, ht⟩
  exact ⟨he, h.set _ _ (by simpa [stepS] using ha), below_set hB ha ht⟩

theorem bv_get (xs : List UInt8) (k : Nat) (h : k < xs.length) : (bv xs)[k]? = some (.int .u8 xs[k].toNat) := by simp [bv, h]

set_option maxRecDepth 100000 in
set_option maxHeartbeats 1000000 in
theorem each_any (w : World) (B t : Nat) (base Br : Nat) (hB : base ≤ B) (hBr : Br ≤ base) {ad : Option Addr} {n c : Nat} {xs : List UInt8} (hr : Rd Br w (.slice ad n c) xs) (h : Pair w B t 0 0) :
    Calls Try.prog 18 #[.slice ad n c, .func (.func 19) #[.pointer (some ⟨B, 0, none⟩)] #[]] w fun e w' => e = .returned (.tuple #[]) ∧ Pair w' B t (sumP xs (0, 0)).1 (sumP xs (0, 0)).2 ∧ Below base w w' := by
  obtain rfl : n = xs.length := hr.len.1
  have hm : xs.length ≤ 9223372036854775807 := by have := hr.len.2; unfold maxLen at this; omega
  go_enter Try.func18, Try.ntmps18
  go_wp2
  go_loopw [8] (fun i wr => ∃ k : Nat, k ≤ xs.length ∧ i = .int .i64 k ∧ Pair wr B t (sumP (xs.take k) (0, 0)).1 (sumP (xs.take k) (0, 0)).2 ∧ Below base w wr) (fun i _ => xs.length - (intOf i).toNat)
  case atStart => exact ⟨0, Nat.zero_le _, rfl, by simpa [sumP] using h, Below.refl _ _⟩
  case round =>
    obtain ⟨k, hk, rfl, hp, hb⟩ := hrel
    have hk' : k ≤ xs.length := hk
    rcases Nat.lt_or_ge k xs.length with hlt | hlt
    · have hcell : ∃ b off, ad = some ⟨b, off, none⟩ ∧ wr.cell? ⟨b, off + k, none⟩ = some (.int .u8 (xs[k]'hlt).toNat) := by
        rcases hr with ⟨a, c', h, _, rfl⟩ | ⟨b, off, cap, h, hBb, h1, h2, hc⟩
        · cases h; exact absurd hlt (Nat.not_lt_zero _)
        · cases h
          exact ⟨b, off, rfl, (hb.cell (p := ⟨b, off + k, none⟩) (by show b < base; omega)).trans (hc k _ (bv_get xs k hlt))⟩
      obtain ⟨b, off, rfl, hcell⟩ := hcell
      have hlt' := sumP_lt (xs.take k) (0, 0) (by decide) (by decide)
      have hs := Lib.hid (sumP_snoc xs k hlt (0, 0))
      go_wp2_with (refine (add_any _ B t _ _ _ hlt'.1 hlt'.2 hp base hB).mono ?_; rintro e w1 ⟨rfl, hp1, hb1⟩)
      go_roundw
      case rel => exact ⟨k + 1, by omega, by go_num, by rw [hs.out]; exact hp1, hb.trans hb1⟩
      case measure => simp [intOf]; omega
    · go_wp2
      go_end0
      refine ⟨rfl, ?_, hb⟩
      rw [List.take_of_length_le (by omega)] at hp
      exact hp

set_option maxRecDepth 100000 in
set_option maxHeartbeats 1000000 in
theorem psum_walk (w : World) (x y : Int) (hx0 : 0 ≤ x) (hy0 : 0 ≤ y) (hx1 : x < 65535) (hy1 : y < 65535) :
    Calls Try.prog 17 #[.agg #[.int .u64 x, .int .u64 y]] w fun e w' => e = .returned (.int .u32 (x + 65536 * y)) ∧ Below w.heap.size w w' := by
  go_enter Try.func17, Try.ntmps17
  go_wp2
  go_ret
  exact ⟨rfl, (Below.refl _ _).alloc (Nat.le_refl _) _⟩

set_option maxRecDepth 100000 in
set_option maxHeartbeats 1000000 in
theorem sum_any (w : World) (Br : Nat) (hB : Br ≤ w.heap.size) {ad : Option Addr} {n c : Nat} {xs : List UInt8} (hr : Rd Br w (.slice ad n c) xs) :
    Calls Try.prog 12 #[.slice ad n c] w fun e w' => e = .returned (.int .u32 (sumT xs)) ∧ Below w.heap.size w w' := by
  have hlt' := sumP_lt xs (0, 0) (by decide) (by decide)
  go_enter Try.func12, Try.ntmps12
  go_wp2_with fail
  refine (each_any _ w.heap.size 39 w.heap.size Br (Nat.le_refl _) hB (hr.below ((Below.refl _ _).alloc hB _)) (Pair.new w _ _ _)).mono ?_
  rintro e w1 ⟨rfl, hp, hb⟩
  have c0 := hp.cell0
  have c1 := hp.cell1
  go_wp2_with fail
  refine (psum_walk _ _ _ (by omega) (by omega) (by omega) (by omega)).mono ?_
  rintro e w2 ⟨rfl, hb2⟩
  go_wp2
  go_ret
  exact ⟨rfl, ((Below.refl _ _).alloc (Nat.le_refl _) _).trans (hb.trans (hb2.mono (Nat.le_of_lt hp.lt)))⟩
theorem split_any (w : World) (s : Int) (h0 : 0 ≤ s) (h1 : s < 4294967296) :
    Calls Try.prog 14 #[.int .u32 s] w fun e w' => e = .returned (.agg #[.int .u64 (s % 65536), .int .u64 (s / 65536)]) ∧ Below w.heap.size w w' := by
  go_enter Try.func14, Try.ntmps14
  go_wp2
  exact bodyPost_ret (v := .agg #[.int .u64 (s % 65536), .int .u64 (s / 65536)]) (by simp [results, Try.results14, go_sem]) rfl ⟨rfl, (((Below.refl _ _).alloc (Nat.le_refl _) _))⟩
theorem fits_yes (w : World) (x y : Int) (hx : x < 65535) (hy : y < 65535) :
    Calls Try.prog 15 #[.agg #[.int .u64 x, .int .u64 y]] w fun e w' => e = .returned (.bool true) ∧ Below w.heap.size w w' := by
  go_enter Try.func15, Try.ntmps15
  go_wp2
  go_ret
  exact ⟨rfl, (Below.refl _ _).alloc (Nat.le_refl _) _⟩
theorem fits_no (w : World) (x y : Int) (h : ¬ (x < 65535 ∧ y < 65535)) :
    Calls Try.prog 15 #[.agg #[.int .u64 x, .int .u64 y]] w fun e w' => e = .returned (.bool false) ∧ Below w.heap.size w w' := by
  by_cases hx : x < 65535
  · have hy : ¬ y < 65535 := fun hy => h ⟨hx, hy⟩
    clear h
    go_enter Try.func15, Try.ntmps15
    go_wp2
    go_ret
    exact ⟨rfl, (Below.refl _ _).alloc (Nat.le_refl _) _⟩
  · clear h
    go_enter Try.func15, Try.ntmps15
    go_wp2
    go_ret
    exact ⟨rfl, (Below.refl _ _).alloc (Nat.le_refl _) _⟩
set_option maxRecDepth 100000 in
set_option maxHeartbeats 1000000 in
theorem reduce_walk (w : World) (b t : Nat) (x y : Int) (hx0 : 0 ≤ x) (hy0 : 0 ≤ y) (hx : x < 18446744073709551616) (hy : y < 18446744073709551616) (h : PairV w b t (.int .u64 x) (.int .u64 y)) :
    Calls Try.prog 16 #[.pointer (some ⟨b, 0, none⟩)] w fun e w' => e = .returned (.tuple #[]) ∧ PairV w' b t (.int .u64 (x % 65535)) (.int .u64 (y % 65535)) ∧ Below b w w' := by
  go_enter Try.func16, Try.ntmps16
  go_wp2
  go_loopw [3] (fun i wr => ∃ k : Nat, k ≤ 2 ∧ i = .int .i64 k ∧ PairV wr b t (.int .u64 (if 1 ≤ k then x % 65535 else x)) (.int .u64 (if 2 ≤ k then y % 65535 else y)) ∧ Below b w wr) (fun i _ => 2 - (intOf i).toNat)
  case atStart => exact ⟨0, by omega, rfl, h, Below.refl _ _⟩
  case round =>
    obtain ⟨k, hk, rfl, hp, hb⟩ := hrel
    have c0 := hp.cell0
    have c1 := hp.cell1
    have f0 := hp.frozen0
    have f1 := hp.frozen1
    obtain rfl | rfl | rfl : k = 0 ∨ k = 1 ∨ k = 2 := by omega
    · simp at c0 c1
      go_wp2
      go_region
      all_goals go_wp2
      all_goals exact ⟨⟨1, by omega, rfl, hp.set0 _, (hb.setCell (Nat.le_refl _) _).drew⟩, by simp [intOf]⟩
    · simp at c0 c1
      go_wp2
      go_region
      all_goals go_wp2
      all_goals exact ⟨⟨2, by omega, rfl, hp.set1 _, (hb.setCell (Nat.le_refl _) _).drew⟩, by simp [intOf]⟩
    · go_wp2
      go_end0
      exact ⟨rfl, hp, hb⟩

theorem bcell {W w1 : World} (hb : Below W.heap.size W w1) : (∀ b o, b < W.heap.size → w1.cell? ⟨b, o, none⟩ = W.cell? ⟨b, o, none⟩) ∧ (∀ b o, b < W.heap.size → w1.frozen? ⟨b, o, none⟩ = W.frozen? ⟨b, o, none⟩) :=
  ⟨fun b o h => hb.cell (p := ⟨b, o, none⟩) h, fun b o h => hb.frozen (p := ⟨b, o, none⟩) h⟩
set_option maxRecDepth 100000 in
set_option maxHeartbeats 1000000 in
theorem join_yes (w : World) (a b n : Int) (a0 : 0 ≤ a) (a1 : a < 4294967296) (b0 : 0 ≤ b) (b1 : b < 4294967296) (n0 : 0 ≤ n) (n1 : n ≤ 2147483647)
    (h1 : a % 65536 < 65535) (h2 : a / 65536 < 65535) (h3 : b % 65536 < 65535) (h4 : b / 65536 < 65535) :
    Calls Try.prog 10 #[.int .u32 a, .int .u32 b, .int .i64 n] w fun e w' => e = .returned (.tuple #[.int .u32 ((a % 65536 + b % 65536) % 65535 + 65536 * ((a / 65536 + b / 65536 + n * (a % 65536)) % 65535)), .int .i64 0]) ∧ Below w.heap.size w w' := by
  have p0 : 0 ≤ n * (a % 65536) := Int.mul_nonneg n0 (by omega)
  have p1 : n * (a % 65536) ≤ 2147483647 * 65535 := Int.le_trans (Int.mul_le_mul_of_nonneg_left (by omega) n0 (b := 65535)) (by omega)
  have n2 : decide (n < 0) = false := by simp; omega
  have n3 : decide (2147483647 < n) = false := by simp; omega
  go_enter Try.func10, Try.ntmps10
  go_wp2_with fail
  refine (split_any _ _ a0 a1).mono ?_
  rintro e w1 ⟨rfl, hb1⟩
  go_wp2_with fail
  refine (split_any _ _ b0 b1).mono ?_
  rintro e w2 ⟨rfl, hb2⟩
  go_wp2_with fail
  refine (fits_yes _ _ _ h1 h2).mono ?_
  rintro e w3 ⟨rfl, hb3⟩
  have pa3 : PairV w3 w2.heap.size 39 (.int .u64 (a % 65536)) (.int .u64 (a / 65536)) := (((PairV.new w2 39 _ _).alloc _).below hb3 (by simp; omega))
  have pb3 : PairV w3 (w2.heap.size + 1) 39 (.int .u64 (b % 65536)) (.int .u64 (b / 65536)) := ((PairV.new' (by simp)).below hb3 (by simp))
  have ca0 := pa3.cell0
  have ca1 := pa3.cell1
  have cb0 := pb3.cell0
  have cb1 := pb3.cell1
  go_wp2_with fail
  refine (fits_yes _ _ _ h3 h4).mono ?_
  rintro e w4 ⟨rfl, hb4⟩
  have pa4 := pa3.below hb4 pa3.lt
  have pb4 := pb3.below hb4 pb3.lt
  have z3 := hb3.size
  have z4 := hb4.size
  simp at z3
  clear ca0 ca1 cb0 cb1
  have ca0 := pa4.cell0
  have ca1 := pa4.cell1
  have cb0 := pb4.cell0
  have cb1 := pb4.cell1
  go_wp2_with fail
  clear ca0 ca1 cb0 cb1
  refine (reduce_walk _ w4.heap.size 39 _ _ (by omega) (by omega) (by omega) (by omega) (PairV.new _ _ _ _)).mono ?_
  rintro e w5 ⟨rfl, hp5, hb5⟩
  have c0 := hp5.cell0
  have c1 := hp5.cell1
  go_wp2_with fail
  refine (psum_walk _ _ _ (by omega) (by omega) (by omega) (by omega)).mono ?_
  rintro e w6 ⟨rfl, hb6⟩
  have z5 := hb5.size
  have z1 := hb1.size
  have z2 := hb2.size
  simp at z1 z5
  go_wp2
  go_ret2
  refine ⟨rfl, ?_⟩
  have q1 : Below w.heap.size w w2 := hb1.trans (hb2.mono hb1.size)
  have q2 := (q1.alloc q1.size (Obj.cells #[.int .u64 (a % 65536), .int .u64 (a / 65536)] 39)).alloc (by have := q1.size; simp; omega) (Obj.cells #[.int .u64 (b % 65536), .int .u64 (b / 65536)] 39)
  have q3 := q2.trans (hb3.mono q2.size)
  have q4 := q3.trans (hb4.mono q3.size)
  have q5 := (q4.alloc q4.size _).trans (hb5.mono q4.size)
  exact q5.trans (hb6.mono q5.size)

/-- Join's two splits, and its test, where it says no. -/
def NoJoin (a b n : Int) : Prop := n < 0 ∨ 2147483647 < n ∨ ¬ (a % 65536 < 65535 ∧ a / 65536 < 65535) ∨ ¬ (b % 65536 < 65535 ∧ b / 65536 < 65535)
set_option maxRecDepth 100000 in
set_option maxHeartbeats 1000000 in
theorem join_no (w : World) (a b n : Int) (a0 : 0 ≤ a) (a1 : a < 4294967296) (b0 : 0 ≤ b) (b1 : b < 4294967296) (h : NoJoin a b n) :
    Calls Try.prog 10 #[.int .u32 a, .int .u32 b, .int .i64 n] w fun e w' => e = .returned (.tuple #[.int .u32 0, .int .i64 1]) ∧ Below w.heap.size w w' := by
  have H := Lib.hid h
  clear h
  go_enter Try.func10, Try.ntmps10
  go_wp2_with fail
  refine (split_any _ _ a0 a1).mono ?_
  rintro e w1 ⟨rfl, hb1⟩
  go_wp2_with fail
  refine (split_any _ _ b0 b1).mono ?_
  rintro e w2 ⟨rfl, hb2⟩
  have q1 : Below w.heap.size w w2 := hb1.trans (hb2.mono hb1.size)
  have q2 := (q1.alloc q1.size (Obj.cells #[.int .u64 (a % 65536), .int .u64 (a / 65536)] 39)).alloc (by have := q1.size; simp; omega) (Obj.cells #[.int .u64 (b % 65536), .int .u64 (b / 65536)] 39)
  by_cases h1 : n < 0
  · have d1 : decide (n < 0) = true := by simpa using h1
    clear H
    go_wp2
    go_ret2
    exact ⟨rfl, q2⟩
  have d1 : decide (n < 0) = false := by simpa using h1
  by_cases h2 : 2147483647 < n
  · have d2 : decide (2147483647 < n) = true := by simpa using h2
    clear H h1
    go_wp2
    go_ret2
    exact ⟨rfl, q2⟩
  have d2 : decide (2147483647 < n) = false := by simpa using h2
  by_cases h3 : a % 65536 < 65535 ∧ a / 65536 < 65535
  · obtain ⟨h3, h4⟩ := h3
    have h5 : ¬ (b % 65536 < 65535 ∧ b / 65536 < 65535) := by
      rcases H.out with h | h | h | h
      · exact absurd h h1
      · exact absurd h h2
      · exact absurd ⟨h3, h4⟩ h
      · exact h
    clear H h1 h2
    go_wp2_with fail
    refine (fits_yes _ _ _ h3 h4).mono ?_
    rintro e w3 ⟨rfl, hb3⟩
    have pb3 : PairV w3 (w2.heap.size + 1) 39 (.int .u64 (b % 65536)) (.int .u64 (b / 65536)) := ((PairV.new' (by simp)).below hb3 (by simp))
    have cb0 := pb3.cell0
    have cb1 := pb3.cell1
    have q3 := q2.trans (hb3.mono q2.size)
    clear q2
    have h5' := Lib.hid h5
    clear h5
    go_wp2_with fail
    refine (fits_no _ _ _ h5'.out).mono ?_
    rintro e w4 ⟨rfl, hb4⟩
    go_wp2
    go_ret2
    exact ⟨rfl, q3.trans (hb4.mono q3.size)⟩
  · have h3' := Lib.hid h3
    clear H h1 h2 h3
    go_wp2_with fail
    refine (fits_no _ _ _ h3'.out).mono ?_
    rintro e w3 ⟨rfl, hb3⟩
    go_wp2
    go_ret2
    exact ⟨rfl, q2.trans (hb3.mono q2.size)⟩

end Go.Proofs.Ytlmoidnlfabgbaa
