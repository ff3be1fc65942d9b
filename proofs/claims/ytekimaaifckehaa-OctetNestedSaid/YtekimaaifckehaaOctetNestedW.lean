/-
  THE WALK OF OctetNested: whatever the text: true, and nothing that lay has turned.
-/
import Derived.WalkKit
import Derived.WalkSpells
import Derived.WalkLawsBesides
import Derived.Lib.Hide
import Derived.Shelf.Abstract
import Derived.Deep.Cut
import Derived.Test.YtekimaaifckehaaProg
import Derived.Test.YtekimaaifckehaaNum
import Derived.Test.YtekimaaifckehaaByte
import Derived.Test.YtekimaaifckehaaOctA
import Derived.Test.YtekimaaifckehaaOctE
import Derived.Test.YtekimaaifckehaaOctF
import Derived.Test.YtekimaaifckehaaOctG
import Derived.Test.YtekimaaifckehaaOctM
import Derived.Test.YtekimaaifckehaaMake
import Derived.Test.YtekimaaifckehaaGuard
import Derived.Test.YtekimaaifckehaaOps
namespace Go.Proofs.Ytekimaaifckehaa
open Go.RowKit Go.Shelf
set_option maxRecDepth 100000 in
set_option maxHeartbeats 2000000 in
theorem OctetNested_w (w : World) {a0 : Option Addr} {n0 c0 : Nat} {xs : List UInt8} (hx : Rd w.heap.size w (.slice a0 n0 c0) xs) :
    Calls Try.prog 9 #[.slice a0 n0 c0] w fun e w' => e = .returned (.bool true) ∧ Below w.heap.size w w' := by
  obtain rfl : n0 = xs.length := hx.len.1
  by_cases h : 1000 < xs.length
  · have d : decide ((1000 : Int) < xs.length) = true := by simp; omega
    go_enter Try.func9, Try.ntmps9
    go_wp2_with fail
    refine (awake_any _).mono ?_
    rintro e w1 ⟨rfl, hb⟩
    go_wp2
    go_ret
    exact ⟨rfl, hb⟩
  have d1 : decide ((1000 : Int) < xs.length) = false := by simp; omega
  have l0 : xs.length ≤ 1000 := by omega
  clear h
  have l1 := textB_len xs (by omega)
  have l2 := textB_len (textB xs) (by omega)
  have l3 := textB_len (textB (textB xs)) (by omega)
  have t1 := Lib.hid (takeTextS_textB' (textB (textB xs)) (by omega))
  have t2 := Lib.hid (takeTextS_textB' (textB xs) (by omega))
  have t3 := Lib.hid (takeTextS_textB' xs (by omega))
  go_enter Try.func9, Try.ntmps9
  go_wp2_with fail
  refine (awake_any _).mono ?_
  rintro e w1 ⟨rfl, q⟩
  go_wp2_with fail
  refine (text_yes _ (Rd.nil _ _) (hx.below q) q.size (by simp) (by omega)).mono ?_
  rintro e w2 ⟨a2, k2, c2, rfl, hF⟩
  rw [List.nil_append] at hF
  replace q := q.trans (hF.1.mono q.size)
  have r2 := hF.rd
  obtain rfl := hF.len
  clear hF
  go_wp2_with fail
  refine (text_yes _ (Rd.nil _ _) r2 (Nat.le_refl _) (by simp) (by omega)).mono ?_
  rintro e w3 ⟨a3, k3, c3, rfl, hF⟩
  rw [List.nil_append] at hF
  replace q := q.trans (hF.1.mono q.size)
  have r3 := hF.rd
  obtain rfl := hF.len
  clear hF r2
  go_wp2_with fail
  refine (text_yes _ (Rd.nil _ _) r3 (Nat.le_refl _) (by simp) (by omega)).mono ?_
  rintro e w4 ⟨a4, k4, c4, rfl, hF⟩
  rw [List.nil_append] at hF
  replace q := q.trans (hF.1.mono q.size)
  have r4 := hF.rd
  obtain rfl := hF.len
  clear hF r3
  go_wp2_with fail
  refine (takeText_any _ r4 (Nat.le_refl _) (by omega)).mono ?_
  rintro e w5 ⟨a5, k5, c5, b5, m5, d5, rfl, hF, hG⟩
  rw [t1.out] at hF hG
  simp only [t1.out]
  replace q := q.trans (hF.1.mono q.size)
  have r5 := hF.rd
  obtain rfl : m5 = 0 := hG.len
  clear hF hG r4
  go_wp2_with fail
  refine (takeText_any _ r5 (Nat.le_refl _) (by omega)).mono ?_
  rintro e w6 ⟨a6, k6, c6, b6, m6, d6, rfl, hF, hG⟩
  rw [t2.out] at hF hG
  simp only [t2.out]
  replace q := q.trans (hF.1.mono q.size)
  have r6 := hF.rd
  obtain rfl : m6 = 0 := hG.len
  clear hF hG r5
  go_wp2_with fail
  refine (takeText_any _ r6 (Nat.le_refl _) (by omega)).mono ?_
  rintro e w7 ⟨a7, k7, c7, b7, m7, d7, rfl, hF, hG⟩
  rw [t3.out] at hF hG
  simp only [t3.out]
  replace q := q.trans (hF.1.mono q.size)
  have r7 := hF.rd
  obtain rfl : m7 = 0 := hG.len
  clear hF hG r6
  have rx := hx.below q
  have D2 : decide (((textB (textB xs)).length : Int) < (textB (textB (textB xs))).length) = true := by simp; omega
  have D3 : decide (((textB xs).length : Int) < (textB (textB xs)).length) = true := by simp; omega
  go_wp2_with (first | (refine wpList_conv byP rfl rfl rfl r7 ?_) | (refine wpList_conv byP rfl rfl rfl rx ?_))
  go_ret
  exact ⟨by simp, q⟩
end Go.Proofs.Ytekimaaifckehaa
