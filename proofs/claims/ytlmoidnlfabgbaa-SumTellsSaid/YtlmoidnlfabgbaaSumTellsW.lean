/-
  THE WALK OF SumTells: whatever the bytes, the two numbers and the count: true, and nothing that lay has turned.
-/
import Derived.WalkKit
import Derived.WalkSpells
import Derived.WalkLawsBesides
import Derived.Lib.Hide
import Derived.Test.YtlmoidnlfabgbaaProg
import Derived.Test.YtlmoidnlfabgbaaByte
import Derived.Test.YtlmoidnlfabgbaaSumM
import Derived.Test.YtlmoidnlfabgbaaSumA
import Derived.Test.YtlmoidnlfabgbaaSumB
import Derived.Test.YtlmoidnlfabgbaaSumC
namespace Go.Proofs.Ytlmoidnlfabgbaa
open Go.RowKit
set_option maxRecDepth 100000 in
set_option maxHeartbeats 1000000 in
theorem SumTells_w (w : World) {a0 : Option Addr} {n0 c0 : Nat} {xs : List UInt8} (hr : Rd w.heap.size w (.slice a0 n0 c0) xs) {x : Int} (x0 : 0 ≤ x) (x1 : x < 4294967296) {y : Int} (y0 : 0 ≤ y) (y1 : y < 4294967296) {n : Int} (_ : (Lit.int .i64 n).wf = true) :
    Calls Try.prog 3 #[.slice a0 n0 c0, .int .u32 x, .int .u32 y, .int .i64 n] w fun e w' => e = .returned (.bool true) ∧ Below w.heap.size w w' := by
  obtain rfl : n0 = xs.length := hr.len.1
  by_cases h : 3000 < xs.length
  · have d : decide ((3000 : Int) < xs.length) = true := by simp; omega
    go_enter Try.func3, Try.ntmps3
    go_wp2_with fail
    refine (awake_any _).mono ?_
    rintro e w1 ⟨rfl, hb⟩
    go_wp2
    go_ret
    exact ⟨rfl, hb⟩
  have d : decide ((3000 : Int) < xs.length) = false := by simp; omega
  clear h
  by_cases hj : NoJoin x y n
  · have J := Lib.hid hj
    clear hj
    go_enter Try.func3, Try.ntmps3
    go_wp2_with fail
    refine (awake_any _).mono ?_
    rintro e w1 ⟨rfl, q⟩
    go_wp2_with fail
    refine (join_no _ _ _ _ x0 x1 y0 y1 J.out).mono ?_
    rintro e w2 ⟨rfl, hb⟩
    replace q := q.trans (hb.mono q.size)
    go_wp2_with fail
    refine (refJoin_no _ _ _ _ x0 x1 y0 y1 J.out).mono ?_
    rintro e w3 ⟨rfl, rfl⟩
    go_wp2_with fail
    refine (sum_any _ _ q.size (hr.below q)).mono ?_
    rintro e w3 ⟨rfl, hb⟩
    replace q := q.trans (hb.mono q.size)
    go_wp2_with fail
    refine (refSum_any _ _ (hr.below q)).mono ?_
    rintro e w4 ⟨rfl, rfl⟩
    go_wp2
    go_ret
    exact ⟨rfl, q⟩
  · have J : 0 ≤ n ∧ n ≤ 2147483647 ∧ x % 65536 < 65535 ∧ x / 65536 < 65535 ∧ y % 65536 < 65535 ∧ y / 65536 < 65535 := by unfold NoJoin at hj; omega
    clear hj
    obtain ⟨n0, n1, j1, j2, j3, j4⟩ := J
    go_enter Try.func3, Try.ntmps3
    go_wp2_with fail
    refine (awake_any _).mono ?_
    rintro e w1 ⟨rfl, q⟩
    go_wp2_with fail
    refine (join_yes _ _ _ _ x0 x1 y0 y1 n0 n1 j1 j2 j3 j4).mono ?_
    rintro e w2 ⟨rfl, hb⟩
    replace q := q.trans (hb.mono q.size)
    go_wp2_with fail
    refine (refJoin_yes _ _ _ _ x0 x1 y0 y1 n0 n1 j1 j2 j3 j4).mono ?_
    rintro e w3 ⟨rfl, rfl⟩
    generalize (x % 65536 + y % 65536) % 65535 + 65536 * ((x / 65536 + y / 65536 + n * (x % 65536)) % 65535) = v
    go_wp2_with fail
    refine (sum_any _ _ q.size (hr.below q)).mono ?_
    rintro e w3 ⟨rfl, hb⟩
    replace q := q.trans (hb.mono q.size)
    go_wp2_with fail
    refine (refSum_any _ _ (hr.below q)).mono ?_
    rintro e w4 ⟨rfl, rfl⟩
    go_wp2
    go_ret
    exact ⟨rfl, q⟩
end Go.Proofs.Ytlmoidnlfabgbaa
