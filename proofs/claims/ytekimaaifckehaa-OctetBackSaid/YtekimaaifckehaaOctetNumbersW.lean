/-
  THE WALK OF OctetNumbers: whatever the bytes and the number: true, and nothing that lay has turned.
-/
import Derived.WalkKit
import Derived.WalkSpells
import Derived.WalkLawsBesides
import Derived.Lib.Hide
import Derived.Shelf.Abstract
import Derived.Deep.Cut
import Derived.Test.YtekimaaifckehaaProg
import Derived.Test.YtekimaaifckehaaNum
import Derived.Test.YtekimaaifckehaaByte
import Derived.Test.YtekimaaifckehaaOctA
import Derived.Test.YtekimaaifckehaaOctE
import Derived.Test.YtekimaaifckehaaOctF
import Derived.Test.YtekimaaifckehaaOctG
import Derived.Test.YtekimaaifckehaaOctM
import Derived.Test.YtekimaaifckehaaOctetSizesW
import Derived.Test.YtekimaaifckehaaMake
import Derived.Test.YtekimaaifckehaaGuard
import Derived.Test.YtekimaaifckehaaOps
namespace Go.Proofs.Ytekimaaifckehaa
open Go.RowKit Go.Shelf
theorem refNumber_nat (n : Int) (w : World) (h0 : 0 ≤ n) (h1 : n ≤ 2147483647) {B : Nat} {ad : Option Addr} {k c : Nat} {xs : List UInt8} (hr : Rd B w (.slice ad k c) xs) (hB : B ≤ w.heap.size) (hx : xs.length ≤ 1000000) :
    Calls Try.prog 12 #[.slice ad k c, .int .i64 n] w fun e w' => ∃ ad' k c', e = .returned (.tuple #[.slice ad' k c', .int .i64 0]) ∧ Fresh 5 w w' (.slice ad' k c') (xs ++ numB n.toNat) := by
  have h := refNumber_yes n.toNat (by omega) w hr hB hx
  rwa [Int.toNat_of_nonneg h0] at h
theorem number_nat' (n : Int) (w : World) (h0 : 0 ≤ n) (h1 : n ≤ 2147483647) {B : Nat} {ad : Option Addr} {k c : Nat} {xs : List UInt8} (hr : Rd B w (.slice ad k c) xs) (hB : B ≤ w.heap.size) (hx : xs.length ≤ 1000000) :
    Calls Try.prog 11 #[.slice ad k c, .int .i64 n] w fun e w' => ∃ ad' k c', e = .returned (.tuple #[.slice ad' k c', .int .i64 0]) ∧ Fresh 5 w w' (.slice ad' k c') (xs ++ numB n.toNat) := by
  have h := number_yes n.toNat (by omega) w hr hB hx
  rwa [Int.toNat_of_nonneg h0] at h
theorem refSize_nat (n : Int) (w : World) (h0 : 0 ≤ n) (h1 : n ≤ 2147483647) : Calls Try.prog 16 #[.int .i64 n] w fun e w' => e = .returned (.int .i64 (numB n.toNat).length) ∧ Below w.heap.size w w' := by
  have h := refSize_yes n.toNat (by omega) w
  rwa [Int.toNat_of_nonneg h0] at h
set_option maxRecDepth 100000 in
set_option maxHeartbeats 2000000 in
theorem OctetNumbers_w (w : World) {a0 : Option Addr} {n0 c0 : Nat} {xs : List UInt8} (hx : Rd w.heap.size w (.slice a0 n0 c0) xs) {n : Int} (_ : (Lit.int .i64 n).wf = true) :
    Calls Try.prog 3 #[.slice a0 n0 c0, .int .i64 n] w fun e w' => e = .returned (.bool true) ∧ Below w.heap.size w w' := by
  obtain rfl : n0 = xs.length := hx.len.1
  by_cases h : 300 < xs.length
  · have d : decide ((300 : Int) < xs.length) = true := by simp; omega
    go_enter Try.func3, Try.ntmps3
    go_wp2_with fail
    refine (awake_any _).mono ?_
    rintro e w1 ⟨rfl, hb⟩
    go_wp2
    go_ret
    exact ⟨rfl, hb⟩
  have d1 : decide ((300 : Int) < xs.length) = false := by simp; omega
  have l0 : xs.length ≤ 1000000 := by omega
  clear h
  by_cases h : n < 0 ∨ 2147483647 < n
  · have H := Lib.hid h
    clear h
    go_enter Try.func3, Try.ntmps3
    go_wp2_with fail
    refine (awake_any _).mono ?_
    rintro e w1 ⟨rfl, q⟩
    go_wp2_with fail
    refine (number_no _ _ _ H.out).mono ?_
    rintro e w2 ⟨rfl, rfl⟩
    go_wp2_with fail
    refine (refNumber_no _ _ _ H.out).mono ?_
    rintro e w2 ⟨rfl, rfl⟩
    go_wp2_with fail
    refine (take_any _ (hx.below q) q.size l0).mono ?_
    rintro e w3 ⟨a3, k3, c3, rfl, hF3⟩
    replace q := q.trans (hF3.1.mono q.size)
    go_wp2_with fail
    refine (refTake_any _ (hx.below q) q.size l0).mono ?_
    rintro e w4 ⟨a4, k4, c4, rfl, hF4⟩
    replace q := q.trans (hF4.1.mono q.size)
    have r3 := hF3.rd.below hF4.1
    have r4 := hF4.rd
    clear hF3 hF4
    have rn : Rd w.heap.size w4 (.slice none 0 0) [] := Rd.nil _ _
    go_wp2_with (first | (refine wpList_conv byP rfl rfl rfl rn ?_) | (refine wpList_conv byP rfl rfl rfl r3 ?_) | (refine wpList_conv byP rfl rfl rfl r4 ?_))
    refine (size_no _ _ H.out).mono ?_
    rintro e w5 ⟨rfl, rfl⟩
    go_wp2_with fail
    refine (refSize_no _ _ H.out).mono ?_
    rintro e w5 ⟨rfl, rfl⟩
    go_wp2
    go_ret
    exact ⟨by simp, q⟩
  have a0 : 0 ≤ n := by omega
  have a1 : n ≤ 2147483647 := by omega
  clear h
  go_enter Try.func3, Try.ntmps3
  go_wp2_with fail
  refine (awake_any _).mono ?_
  rintro e w1 ⟨rfl, q⟩
  go_wp2_with fail
  refine (number_nat' _ _ a0 a1 (hx.below q) q.size l0).mono ?_
  rintro e w2 ⟨a2, k2, c2, rfl, hF2⟩
  replace q := q.trans (hF2.1.mono q.size)
  have r2 := hF2.rd
  go_wp2_with fail
  refine (refNumber_nat _ _ a0 a1 (hx.below q) q.size l0).mono ?_
  rintro e w3 ⟨a3, k3, c3, rfl, hF3⟩
  replace q := q.trans (hF3.1.mono q.size)
  replace r2 := r2.below hF3.1
  have r3 := hF3.rd
  clear hF2
  go_wp2_with fail
  refine (take_any _ (hx.below q) q.size l0).mono ?_
  rintro e w4 ⟨a4, k4, c4, rfl, hF4⟩
  replace q := q.trans (hF4.1.mono q.size)
  replace r2 := r2.below (hF4.1.mono hF3.1.size)
  replace r3 := r3.below hF4.1
  have r4 := hF4.rd
  go_wp2_with fail
  refine (refTake_any _ (hx.below q) q.size l0).mono ?_
  rintro e w5 ⟨a5, k5, c5, rfl, hF5⟩
  replace q := q.trans (hF5.1.mono q.size)
  replace r2 := r2.below (hF5.1.mono (Nat.le_trans hF3.1.size hF4.1.size))
  replace r3 := r3.below (hF5.1.mono hF4.1.size)
  replace r4 := r4.below hF5.1
  have r5 := hF5.rd
  clear hF3 hF4 hF5
  go_wp2_with (first | (refine wpList_conv byP rfl rfl rfl r2 ?_) | (refine wpList_conv byP rfl rfl rfl r3 ?_) | (refine wpList_conv byP rfl rfl rfl r4 ?_) | (refine wpList_conv byP rfl rfl rfl r5 ?_))
  refine (size_nat _ _ a0 a1).mono ?_
  rintro e w6 ⟨rfl, hb⟩
  replace q := q.trans (hb.mono q.size)
  go_wp2_with fail
  refine (refSize_nat _ _ a0 a1).mono ?_
  rintro e w7 ⟨rfl, hb⟩
  replace q := q.trans (hb.mono q.size)
  go_wp2
  go_ret
  exact ⟨by simp, q⟩
end Go.Proofs.Ytekimaaifckehaa
