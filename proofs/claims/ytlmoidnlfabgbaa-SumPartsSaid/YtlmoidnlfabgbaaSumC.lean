/-
  THE WALK OF awake: the examples that every law of sum tries first: true, and nothing that lay has turned.
-/
import Derived.WalkKit
import Derived.WalkSpells
import Derived.WalkLawsBesides
import Derived.Lib.Hide
import Derived.Test.YtlmoidnlfabgbaaProg
import Derived.Test.YtlmoidnlfabgbaaByte
import Derived.Test.YtlmoidnlfabgbaaSumM
import Derived.Test.YtlmoidnlfabgbaaSumA
import Derived.Test.YtlmoidnlfabgbaaSumB
namespace Go.Proofs.Ytlmoidnlfabgbaa
open Go.RowKit
theorem byP : ByP Try.prog 22 5 9 := ⟨by kernel_rfl, by kernel_rfl, by kernel_rfl, by kernel_rfl⟩
theorem sum_lit (w : World) (Br : Nat) (hB : Br ≤ w.heap.size) {ad : Option Addr} {n c : Nat} {xs : List UInt8} (hr : Rd Br w (.slice ad n c) xs) {v : Nat} (hv : sumT xs = v) :
    Calls Try.prog 12 #[.slice ad n c] w fun e w' => e = .returned (.int .u32 v) ∧ Below w.heap.size w w' := by
  subst hv; exact sum_any w Br hB hr
theorem sum_nil (w : World) : Calls Try.prog 12 #[.slice none 0 0] w fun e w' => e = .returned (.int .u32 0) ∧ Below w.heap.size w w' :=
  sum_lit w w.heap.size (Nat.le_refl _) (Rd.nil _ _) (v := 0) (by decide)
theorem join_ex (w : World) : Calls Try.prog 10 #[.int .u32 65537, .int .u32 131074, .int .i64 1] w fun e w' => e = .returned (.tuple #[.int .u32 262147, .int .i64 0]) ∧ Below w.heap.size w w' :=
  join_yes w 65537 131074 1 (by decide) (by decide) (by decide) (by decide) (by decide) (by decide) (by decide) (by decide) (by decide) (by decide)
set_option maxRecDepth 100000 in
set_option maxHeartbeats 4000000 in
theorem awake_any (w : World) : Calls Try.prog 9 #[] w fun e w' => e = .returned (.bool true) ∧ Below w.heap.size w w' := by
  have s1 : sumT [1] = 65537 := by decide
  have s2 : sumT [2] = 131074 := by decide
  have s3 : sumT [1, 2] = 262147 := by decide
  have S1 := Lib.hid s1
  have S2 := Lib.hid s2
  have S3 := Lib.hid s3
  clear s1 s2 s3
  have q : Below w.heap.size w w := Below.refl _ _
  go_enter Try.func9, Try.ntmps9
  go_wp2_with (refine wpList_lit byP rfl [1] rfl rfl rfl ?_ (by simp); intro g1 k1 w1 hF; replace q := q.trans (hF.1.mono q.size))
  refine (sum_lit _ _ (Nat.le_refl _) hF.rd S1.out).mono ?_
  rintro e w2 ⟨rfl, hb⟩
  replace q := q.trans (hb.mono q.size)
  clear hF hb
  go_wp2_with (refine wpList_lit byP rfl [2] rfl rfl rfl ?_ (by simp); intro g1 k1 w1 hF; replace q := q.trans (hF.1.mono q.size))
  refine (sum_lit _ _ (Nat.le_refl _) hF.rd S2.out).mono ?_
  rintro e w3 ⟨rfl, hb⟩
  replace q := q.trans (hb.mono q.size)
  clear hF hb
  go_wp2_with fail
  refine (join_ex _).mono ?_
  rintro e w4 ⟨rfl, hb⟩
  replace q := q.trans (hb.mono q.size)
  clear hb
  go_wp2_with fail
  refine (join_no _ _ _ _ (by omega) (by omega) (by omega) (by omega) (by unfold NoJoin; omega)).mono ?_
  rintro e w5 ⟨rfl, hb⟩
  replace q := q.trans (hb.mono q.size)
  clear hb
  go_wp2_with fail
  refine (join_no _ _ _ _ (by omega) (by omega) (by omega) (by omega) (by unfold NoJoin; omega)).mono ?_
  rintro e w6 ⟨rfl, hb⟩
  replace q := q.trans (hb.mono q.size)
  clear hb
  go_wp2_with fail
  refine (sum_nil _).mono ?_
  rintro e w7 ⟨rfl, hb⟩
  replace q := q.trans (hb.mono q.size)
  clear hb
  go_wp2_with (refine wpList_lit byP rfl [1, 2] rfl rfl rfl ?_ (by simp); intro g1 k1 w1 hF; replace q := q.trans (hF.1.mono q.size))
  refine (sum_lit _ _ (Nat.le_refl _) hF.rd S3.out).mono ?_
  rintro e w8 ⟨rfl, hb⟩
  replace q := q.trans (hb.mono q.size)
  clear hF hb
  go_wp2_with (refine wpList_lit byP rfl [1, 2] rfl rfl rfl ?_ (by simp); intro g1 k1 w1 hF; replace q := q.trans (hF.1.mono q.size))
  refine (sum_lit _ _ (Nat.le_refl _) hF.rd S3.out).mono ?_
  rintro e w9 ⟨rfl, hb⟩
  replace q := q.trans (hb.mono q.size)
  clear hF hb
  go_wp2
  go_ret
  exact ⟨rfl, q⟩
end Go.Proofs.Ytlmoidnlfabgbaa
