/-
  THE WALK OF SumJoins: whatever the three texts: true, and nothing that lay has turned.
-/
import Derived.WalkKit
import Derived.WalkSpells
import Derived.WalkLawsBesides
import Derived.Lib.Hide
import Derived.Test.YtlmoidnlfabgbaaProg
import Derived.Test.YtlmoidnlfabgbaaByte
import Derived.Test.YtlmoidnlfabgbaaSumM
import Derived.Test.YtlmoidnlfabgbaaSumA
import Derived.Test.YtlmoidnlfabgbaaSumB
import Derived.Test.YtlmoidnlfabgbaaSumC
namespace Go.Proofs.Ytlmoidnlfabgbaa
open Go.RowKit
set_option maxRecDepth 100000 in
open Go.RowKit
theorem sumI_lt (xs : List UInt8) : (0 : Int) ≤ sumT xs ∧ (sumT xs : Int) < 4294967296 ∧ (sumT xs : Int) % 65536 < 65535 ∧ (sumT xs : Int) / 65536 < 65535 := by
  have := sumT_lt xs; omega
theorem join_sums (w : World) (xs ys : List UInt8) (h : ys.length ≤ 1000000) :
    Calls Try.prog 10 #[.int .u32 (sumT xs), .int .u32 (sumT ys), .int .i64 ys.length] w fun e w' => e = .returned (.tuple #[.int .u32 (sumT (xs ++ ys)), .int .i64 0]) ∧ Below w.heap.size w w' := by
  have hx := sumI_lt xs
  have hy := sumI_lt ys
  refine (join_yes w _ _ _ hx.1 hx.2.1 hy.1 hy.2.1 (by omega) (by omega) hx.2.2.1 hx.2.2.2 hy.2.2.1 hy.2.2.2).mono ?_
  rintro e w' ⟨rfl, hb⟩
  refine ⟨ret2i ?_, hb⟩
  have := joinN_sum xs ys
  rw [← this]
  simp [joinN]
set_option maxRecDepth 100000 in
set_option maxHeartbeats 1000000 in
theorem SumJoins_w (w : World) {a0 : Option Addr} {n0 c0 : Nat} {xs : List UInt8} (hx : Rd w.heap.size w (.slice a0 n0 c0) xs) {a1 : Option Addr} {n1 c1 : Nat} {ys : List UInt8} (hy : Rd w.heap.size w (.slice a1 n1 c1) ys)
    {a2 : Option Addr} {n2 c2 : Nat} {zs : List UInt8} (hz : Rd w.heap.size w (.slice a2 n2 c2) zs) :
    Calls Try.prog 4 #[.slice a0 n0 c0, .slice a1 n1 c1, .slice a2 n2 c2] w fun e w' => e = .returned (.bool true) ∧ Below w.heap.size w w' := by
  obtain rfl : n0 = xs.length := hx.len.1
  obtain rfl : n1 = ys.length := hy.len.1
  obtain rfl : n2 = zs.length := hz.len.1
  by_cases h : 300 < xs.length ∨ 300 < ys.length ∨ 300 < zs.length
  · have H : (300 < xs.length) ∨ (xs.length ≤ 300 ∧ 300 < ys.length) ∨ (xs.length ≤ 300 ∧ ys.length ≤ 300 ∧ 300 < zs.length) := by omega
    clear h
    rcases H with h1 | ⟨h1, h2⟩ | ⟨h1, h2, h3⟩
    · have d : decide ((300 : Int) < xs.length) = true := by simp; omega
      go_enter Try.func4, Try.ntmps4
      go_wp2_with fail
      refine (awake_any _).mono ?_
      rintro e w1 ⟨rfl, hb⟩
      go_wp2
      go_ret
      exact ⟨rfl, hb⟩
    · have d1 : decide ((300 : Int) < xs.length) = false := by simp; omega
      have d2 : decide ((300 : Int) < ys.length) = true := by simp; omega
      go_enter Try.func4, Try.ntmps4
      go_wp2_with fail
      refine (awake_any _).mono ?_
      rintro e w1 ⟨rfl, hb⟩
      go_wp2
      go_ret
      exact ⟨rfl, hb⟩
    · have d1 : decide ((300 : Int) < xs.length) = false := by simp; omega
      have d2 : decide ((300 : Int) < ys.length) = false := by simp; omega
      have d3 : decide ((300 : Int) < zs.length) = true := by simp; omega
      go_enter Try.func4, Try.ntmps4
      go_wp2_with fail
      refine (awake_any _).mono ?_
      rintro e w1 ⟨rfl, hb⟩
      go_wp2
      go_ret
      exact ⟨rfl, hb⟩
  have d1 : decide ((300 : Int) < xs.length) = false := by simp; omega
  have d2 : decide ((300 : Int) < ys.length) = false := by simp; omega
  have d3 : decide ((300 : Int) < zs.length) = false := by simp; omega
  have l1 : xs.length ≤ 300 := by omega
  have l2 : ys.length ≤ 300 := by omega
  have l3 : zs.length ≤ 300 := by omega
  clear h
  have A := Lib.hid (List.append_assoc xs ys zs)
  have L := Lib.hid (show ((ys.length : Int) + zs.length) = ((ys ++ zs).length : Nat) by simp)
  go_enter Try.func4, Try.ntmps4
  go_wp2_with fail
  refine (awake_any _).mono ?_
  rintro e w1 ⟨rfl, q⟩
  go_wp2_with fail
  refine (sum_any _ _ q.size (hx.below q)).mono ?_
  rintro e w2 ⟨rfl, hb⟩
  replace q := q.trans (hb.mono q.size); clear hb
  go_wp2_with fail
  refine (sum_any _ _ q.size (hy.below q)).mono ?_
  rintro e w3 ⟨rfl, hb⟩
  replace q := q.trans (hb.mono q.size); clear hb
  go_wp2_with fail
  refine (sum_any _ _ q.size (hz.below q)).mono ?_
  rintro e w4 ⟨rfl, hb⟩
  replace q := q.trans (hb.mono q.size); clear hb
  go_wp2_with fail
  refine (join_sums _ _ _ (by omega)).mono ?_
  rintro e w5 ⟨rfl, hb⟩
  replace q := q.trans (hb.mono q.size); clear hb
  go_wp2_with fail
  refine (join_sums _ _ _ (by omega)).mono ?_
  rintro e w6 ⟨rfl, hb⟩
  replace q := q.trans (hb.mono q.size); clear hb
  go_wp2_with fail
  refine (join_sums _ _ _ (by omega)).mono ?_
  rintro e w7 ⟨rfl, hb⟩
  replace q := q.trans (hb.mono q.size); clear hb
  go_wp2_with fail
  rw [L.out]
  refine (join_sums _ xs (ys ++ zs) (by simp; omega)).mono ?_
  rw [← A.out]
  rintro e w8 ⟨rfl, hb⟩
  replace q := q.trans (hb.mono q.size); clear hb
  have hx8 := hx.below q
  have hy8 := hy.below q
  have hz8 := hz.below q
  have q8 := q.size
  go_wp2_with (first
    | (refine wpList_lit byP rfl [] rfl rfl rfl ?_ (by simp); intro g1 k1 u1 hF; have hx9 := hx8.below (hF.1.mono q8))
    | (at_builtin; refine wpList_append byP rfl rfl rfl hF.2 rfl hx9 hF.1.size ?_ ?hl1; intro ad1 m1 e1 u2 hO1 hg1 hb1; have p2 := hF.1.trans hb1; have hy9 := hy8.below (p2.mono q8))
    | (at_builtin; refine wpList_append byP rfl rfl rfl hO1 rfl hy9 p2.size ?_ ?hl2; intro ad2 m2 e2 u3 hO2 hg2 hb2; have p3 := p2.trans hb2; have hz9 := hz8.below (p3.mono q8))
    | (at_builtin; refine wpList_append byP rfl rfl rfl hO2 rfl hz9 p3.size ?_ ?hl3; intro ad3 m3 e3 u4 hO3 hg3 hb3))
  case hl1 => simp; omega
  case hl2 => simp; omega
  case hl3 => simp; omega
  have p4 := p3.trans hb3
  replace q := q.trans (p4.mono q8)
  simp only [List.nil_append, List.append_assoc] at hO3
  have hr := hO3.rd
  clear hF hO1 hg1 hO2 hg2 hg3 hx8 hy8 hz8 hx9 hy9 hz9 p2 p3 p4 hb1 hb2 hb3 q8 hO3
  refine (sum_any _ _ (Nat.le_refl _) hr).mono ?_
  rintro e w9 ⟨rfl, hb⟩
  replace q := q.trans (hb.mono q.size)
  replace hr := hr.below hb
  have hl := hr.len
  simp only [List.length_append] at hl
  have hc : xs.length + ys.length ≤ e3 := by omega
  have hm := hl.2.2
  unfold maxLen at hm
  have hc2 : (xs.length : Int) + ys.length ≤ e3 := by omega
  have H := Lib.hid hr
  have hs9 := hb.size
  clear hl hr hb
  go_wp2_with fail
  have ht := H.out.take (xs.length + ys.length) (by simp)
  refine (sum_any _ _ hs9 ht).mono ?_
  rw [← List.append_assoc xs ys zs, List.take_append_of_le_length (by simp), List.take_of_length_le (by simp)]
  rintro e w10 ⟨rfl, hb⟩
  replace q := q.trans (hb.mono q.size)
  clear ht
  go_wp2
  go_ret
  exact ⟨rfl, q⟩
end Go.Proofs.Ytlmoidnlfabgbaa
