/-
  THE WALK OF OctetSizes: whatever the numbers and the cut: true, and nothing that lay has turned.
-/
import Derived.WalkKit
import Derived.WalkSpells
import Derived.WalkLawsBesides
import Derived.Lib.Hide
import Derived.Shelf.Abstract
import Derived.Deep.Cut
import Derived.Test.YtekimaaifckehaaProg
import Derived.Test.YtekimaaifckehaaNum
import Derived.Test.YtekimaaifckehaaByte
import Derived.Test.YtekimaaifckehaaOctA
import Derived.Test.YtekimaaifckehaaOctE
import Derived.Test.YtekimaaifckehaaOctF
import Derived.Test.YtekimaaifckehaaOctG
import Derived.Test.YtekimaaifckehaaOctM
import Derived.Test.YtekimaaifckehaaMake
import Derived.Test.YtekimaaifckehaaGuard
import Derived.Test.YtekimaaifckehaaOps
namespace Go.Proofs.Ytekimaaifckehaa
open Go.RowKit Go.Shelf
theorem size_nat (n : Int) (w : World) (h0 : 0 ≤ n) (h1 : n ≤ 2147483647) : Calls Try.prog 15 #[.int .i64 n] w fun e w' => e = .returned (.int .i64 (numB n.toNat).length) ∧ Below w.heap.size w w' := by
  have h := size_yes n.toNat w (by omega) (numB_len5 _ (by omega))
  rwa [Int.toNat_of_nonneg h0] at h
theorem size_eq (n : Int) (w : World) {xs : List UInt8} (hx : numB n.toNat = xs) (h0 : 0 ≤ n) (h1 : n ≤ 2147483647) : Calls Try.prog 15 #[.int .i64 n] w fun e w' => e = .returned (.int .i64 xs.length) ∧ Below w.heap.size w w' := by
  subst hx; exact size_nat n w h0 h1
theorem number_nat (n : Int) (w : World) (h0 : 0 ≤ n) (h1 : n ≤ 2147483647) : Calls Try.prog 11 #[.slice none 0 0, .int .i64 n] w fun e w' => ∃ ad c, e = .returned (.tuple #[.slice ad (numB n.toNat).length c, .int .i64 0]) ∧ Fresh 5 w w' (.slice ad (numB n.toNat).length c) (numB n.toNat) := by
  have h := number_yes n.toNat (by omega) w (Rd.nil w.heap.size w) (Nat.le_refl _) (by simp)
  rw [Int.toNat_of_nonneg h0] at h
  refine h.mono ?_
  rintro e w' ⟨ad, k, c, rfl, hF⟩
  rw [List.nil_append] at hF
  obtain rfl := hF.len
  exact ⟨ad, c, rfl, hF⟩
theorem take_few (w : World) {ad : Option Addr} {n c j : Nat} {xs : List UInt8} (hr : Rd w.heap.size w (.slice ad n c) xs) (hT : ∀ j, j < xs.length → takeS (xs.take j) = (0, [], 10)) (hj : j < xs.length) (hx : xs.length ≤ 1000000) :
    Calls Try.prog 13 #[.slice ad j c] w fun e w' => ∃ a3 c3, e = .returned (.tuple #[.int .i64 0, .slice a3 0 c3, .int .i64 10]) ∧ Below w.heap.size w w' := by
  refine (take_any w (hr.take j (by omega)) (Nat.le_refl _) (by simp; omega)).mono ?_
  rintro e w' ⟨a3, k3, c3, rfl, hF⟩
  rw [hT j hj] at hF ⊢
  obtain rfl := hF.len
  exact ⟨a3, c3, rfl, hF.1⟩
set_option maxRecDepth 100000 in
set_option maxHeartbeats 2000000 in
theorem OctetSizes_w (w : World) {a : Int} (_ : (Lit.int .i64 a).wf = true) {b : Int} (_ : (Lit.int .i64 b).wf = true) {cut : Int} (c0 : 0 ≤ cut) (c1 : cut < 256) :
    Calls Try.prog 8 #[.int .i64 a, .int .i64 b, .int .u8 cut] w fun e w' => e = .returned (.bool true) ∧ Below w.heap.size w w' := by
  by_cases h : a < 0 ∨ 2147483647 < a
  · go_enter Try.func8, Try.ntmps8
    have H := Lib.hid h
    clear h
    go_wp2_with fail
    refine (awake_any _).mono ?_
    rintro e w1 ⟨rfl, q⟩
    go_wp2_with fail
    refine (number_no _ _ _ H.out).mono ?_
    rintro e w2 ⟨rfl, rfl⟩
    go_wp2_with fail
    refine (size_no _ _ H.out).mono ?_
    rintro e w2 ⟨rfl, rfl⟩
    go_wp2
    go_ret
    exact ⟨rfl, q⟩
  have a0 : 0 ≤ a := by omega
  have a1 : a ≤ 2147483647 := by omega
  clear h
  have l1 := numB_pos a.toNat
  have l5 := numB_len5 a.toNat (by omega)
  obtain ⟨k, hk⟩ : ∃ k : Nat, cut % ((numB a.toNat).length : Int) = k := Int.eq_ofNat_of_zero_le (Int.emod_nonneg _ (by omega))
  have hlt : k < (numB a.toNat).length := by have := Int.emod_lt_of_pos cut (show (0 : Int) < (numB a.toNat).length by omega); omega
  have HT := Lib.hid (fun j hj => takeS_fewer a.toNat j (by omega) hj)
  have HM : 0 ≤ b → b ≤ a → (numB b.toNat).length ≤ (numB a.toNat).length := fun h0 h1 => numB_mono (by omega)
  have HM' := Lib.hid HM
  clear HM
  have hmax : max (1 : Int) ((numB a.toNat).length : Int) = (numB a.toNat).length := by omega
  go_enter Try.func8, Try.ntmps8
  go_wp2_with fail
  refine (awake_any _).mono ?_
  rintro e w1 ⟨rfl, q⟩
  go_wp2_with fail
  refine (number_nat _ _ a0 a1).mono ?_
  rintro e w2 ⟨a2, c2, rfl, hF⟩
  replace q := q.trans (hF.1.mono q.size)
  have r2 := hF.rd
  have hc2 := r2.len.2
  clear hF
  generalize hxs : numB a.toNat = xs at *
  have HX := Lib.hid hxs
  clear hxs
  have hl := Nat.lt_irrefl 0
  go_wp2_with fail
  all_goals
    refine (take_few _ r2 HT.out (by omega) (by omega)).mono ?_
    rintro e w3 ⟨a3, d3, rfl, hb⟩
    have q3 := q.trans (hb.mono q.size)
    clear hb r2
    by_cases hb0 : b < 0
    · have D : decide (b < 0) = true := by simpa using hb0
      clear hb0
      go_wp2_with fail
      refine (size_eq _ _ HX.out a0 a1).mono ?_
      rintro e w4 ⟨rfl, hb⟩
      go_wp2
      go_ret
      exact ⟨rfl, q3.trans (hb.mono q3.size)⟩
    have D : decide (b < 0) = false := by simpa using hb0
    by_cases hb1 : a < b
    · have D1 : decide (a < b) = true := by simpa using hb1
      clear hb0 hb1
      go_wp2_with fail
      refine (size_eq _ _ HX.out a0 a1).mono ?_
      rintro e w4 ⟨rfl, hb⟩
      go_wp2
      go_ret
      exact ⟨rfl, q3.trans (hb.mono q3.size)⟩
    have D1 : decide (a < b) = false := by simpa using hb1
    have b0 : 0 ≤ b := by omega
    have b1 : b ≤ 2147483647 := by omega
    have hm := HM'.out b0 (by omega)
    have D2 : decide (((numB b.toNat).length : Int) ≤ xs.length) = true := by simp; omega
    clear hb0 hb1
    go_wp2_with fail
    refine (size_nat _ _ b0 b1).mono ?_
    rintro e w4 ⟨rfl, hb⟩
    replace q3 := q3.trans (hb.mono q3.size)
    clear hb
    generalize (numB b.toNat).length = m at hm D2 ⊢
    go_wp2_with fail
    refine (size_eq _ _ HX.out a0 a1).mono ?_
    rintro e w5 ⟨rfl, hb⟩
    replace q3 := q3.trans (hb.mono q3.size)
    clear hb
    go_wp2_with fail
    refine (size_eq _ _ HX.out a0 a1).mono ?_
    rintro e w6 ⟨rfl, hb⟩
    go_wp2
    go_ret
    exact ⟨rfl, q3.trans (hb.mono q3.size)⟩
end Go.Proofs.Ytekimaaifckehaa
