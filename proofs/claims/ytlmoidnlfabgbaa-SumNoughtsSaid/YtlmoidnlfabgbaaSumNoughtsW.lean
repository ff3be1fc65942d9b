/-
  THE WALK OF SumNoughts: whatever the text, and the noughts: true, and nothing that lay has turned.
-/
import Derived.WalkKit
import Derived.WalkSpells
import Derived.WalkLawsBesides
import Derived.Lib.Hide
import Derived.Test.YtlmoidnlfabgbaaProg
import Derived.Test.YtlmoidnlfabgbaaByte
import Derived.Test.YtlmoidnlfabgbaaSumM
import Derived.Test.YtlmoidnlfabgbaaSumA
import Derived.Test.YtlmoidnlfabgbaaSumB
import Derived.Test.YtlmoidnlfabgbaaSumC
import Derived.Test.YtlmoidnlfabgbaaMake
namespace Go.Proofs.Ytlmoidnlfabgbaa
open Go.RowKit
set_option maxRecDepth 100000 in
open Go.RowKit
theorem sum_litI (w : World) (Br : Nat) (hB : Br ≤ w.heap.size) {ad : Option Addr} {n c : Nat} {xs : List UInt8} (hr : Rd Br w (.slice ad n c) xs) {v : Int} (hv : (sumT xs : Int) = v) :
    Calls Try.prog 12 #[.slice ad n c] w fun e w' => e = .returned (.int .u32 v) ∧ Below w.heap.size w w' := by
  subst hv; exact sum_any w Br hB hr
set_option maxRecDepth 100000 in
set_option maxHeartbeats 1000000 in
theorem SumNoughts_w (w : World) {a0 : Option Addr} {n0 c0 : Nat} {xs : List UInt8} (hx : Rd w.heap.size w (.slice a0 n0 c0) xs) {n : Int} (z0 : 0 ≤ n) (z1 : n < 256) :
    Calls Try.prog 7 #[.slice a0 n0 c0, .int .u8 n] w fun e w' => e = .returned (.bool true) ∧ Below w.heap.size w w' := by
  obtain rfl : n0 = xs.length := hx.len.1
  by_cases h : 300 < xs.length
  · have d : decide ((300 : Int) < xs.length) = true := by simp; omega
    go_enter Try.func7, Try.ntmps7
    go_wp2_with fail
    refine (awake_any _).mono ?_
    rintro e w1 ⟨rfl, hb⟩
    go_wp2
    go_ret
    exact ⟨rfl, hb⟩
  have d1 : decide ((300 : Int) < xs.length) = false := by simp; omega
  have l1 : xs.length ≤ 300 := by omega
  clear h
  obtain ⟨k, rfl⟩ := Int.eq_ofNat_of_zero_le z0
  have S1 := Lib.hid (show (sumT (List.replicate k 0 ++ xs) : Int) = sumT xs by rw [sum_ahead])
  have S2 := Lib.hid (show (sumT (xs ++ List.replicate k 0) : Int) = (sumT xs : Int) % 65536 + 65536 * (((sumT xs : Int) / 65536 + (k : Int) * ((sumT xs : Int) % 65536) % 65535) % 65535) by
    have h := sum_behind k xs
    have e : ((k * (sumT xs % 65536) : Nat) : Int) = (k : Int) * ((sumT xs : Int) % 65536) := by simp
    omega)
  have hs := sumT_lt xs
  have m0 : 0 ≤ (k : Int) * ((sumT xs : Int) % 65536) := Int.mul_nonneg (by omega) (by omega)
  have m1 : (k : Int) * ((sumT xs : Int) % 65536) ≤ 255 * 65535 := Int.le_trans (Int.mul_le_mul_of_nonneg_left (by omega) (by omega) (b := 65535)) (by omega)
  go_enter Try.func7, Try.ntmps7
  go_wp2_with fail
  refine (awake_any _).mono ?_
  rintro e w1 ⟨rfl, q⟩
  have hx1 := hx.below q
  have q1 := q.size
  go_wp2_with (first
    | (refine wpList_makeN byP rfl rfl rfl rfl ?_ rfl (by omega); intro g0 w2 hZ; have p0 := hZ.1)
    | (refine wpList_lit byP rfl [] rfl rfl rfl ?_ (by simp); intro g1 k1 u1 hF; have hz1 := hZ.rd.below hF.1)
    | (at_builtin; refine wpList_append byP rfl rfl rfl hF.2 rfl hz1 hF.1.size ?_ ?hl1; intro ad1 m1 e1 u2 hO1 hg1 hb1; have p1 := p0.trans ((hF.1.trans hb1).mono p0.size); have hx2 := hx1.below (p1.mono q1))
    | (at_builtin; refine wpList_append byP rfl rfl rfl hO1 rfl hx2 (Nat.le_trans hF.1.size hb1.size) ?_ ?hl2; intro ad2 m2 e2 u3 hO2 hg2 hb2))
  case hl1 => simp; omega
  case hl2 => simp; omega
  simp only [List.nil_append] at hO2
  have r1 := hF.1.trans (hb1.trans hb2)
  have hz2 := hZ.rd.below r1
  have q2 := q.trans ((p0.trans (r1.mono p0.size)).mono q1)
  refine (sum_litI _ _ (Nat.le_refl _) hO2.rd S1.out).mono ?_
  rintro e w3 ⟨rfl, hb3⟩
  have q3 := q2.trans (hb3.mono q2.size)
  have hz3 := (hz2.below (hb3.mono r1.size))
  have hx3 := hx.below q3
  have sz3 : w2.heap.size ≤ w3.heap.size := Nat.le_trans r1.size hb3.size
  clear hZ hF hz1 hO1 hg1 hb1 p1 hx2 hO2 hg2 hb2 hx1 q1 p0 hb3 r1 hz2 q2 q
  go_wp2_with (first
    | (refine wpList_lit byP rfl [] rfl rfl rfl ?_ (by simp); intro g1 k1 u1 hF; have hx4 := hx3.below (hF.1.mono q3.size))
    | (at_builtin; refine wpList_append byP rfl rfl rfl hF.2 rfl hx4 hF.1.size ?_ ?hl3; intro ad1 m1 e1 u2 hO1 hg1 hb1; have p1 := hF.1.trans hb1; have hz4 := hz3.below (p1.mono sz3))
    | (at_builtin; refine wpList_append byP rfl rfl rfl hO1 rfl hz4 p1.size ?_ ?hl4; intro ad2 m2 e2 u3 hO2 hg2 hb2))
  case hl3 => simp; omega
  case hl4 => simp; omega
  simp only [List.nil_append] at hO2
  have q4 := q3.trans ((p1.trans hb2).mono q3.size)
  refine (sum_litI _ _ (Nat.le_refl _) hO2.rd S2.out).mono ?_
  rintro e w4 ⟨rfl, hb4⟩
  have q5 := q4.trans (hb4.mono q4.size)
  have hx5 := hx.below q5
  clear hF hx4 hO1 hg1 hb1 p1 hz4 hO2 hg2 hb2 hb4 q4 hz3 hx3
  go_wp2_with fail
  refine (sum_any _ _ q5.size hx5).mono ?_
  rintro e w5 ⟨rfl, hb⟩
  have q6 := q5.trans (hb.mono q5.size)
  go_wp2
  go_ret
  exact ⟨rfl, q6⟩
end Go.Proofs.Ytlmoidnlfabgbaa
