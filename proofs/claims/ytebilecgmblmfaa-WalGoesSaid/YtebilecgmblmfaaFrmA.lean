/-
  THE WALKS OF bytes.Equal AND OF frame's tail. Any slices of bytes.
-/
import Derived.WalkKit
import Derived.WalkSpells
import Derived.WalkLawsBesides
import Derived.Lib.Hide
import Derived.Test.YtebilecgmblmfaaProg
import Derived.Test.YtebilecgmblmfaaByte
import Derived.Test.YtebilecgmblmfaaMake
import Derived.Test.YtebilecgmblmfaaAux
import Derived.Test.YtebilecgmblmfaaSumA
import Derived.Test.YtebilecgmblmfaaFrmM
namespace Go.Proofs.Ytebilecgmblmfaa
open Go.RowKit

theorem equal_any (w : World) {B B' : Nat} {ad ad' : Option Addr} {n c n' c' : Nat} {xs ys : List UInt8} (hx : Rd B w (.slice ad n c) xs) (hy : Rd B' w (.slice ad' n' c') ys) :
    Calls Try.prog 52 #[.slice ad n c, .slice ad' n' c'] w fun e w' => e = .returned (.bool (decide (xs = ys))) ∧ w = w' := by
  by_cases h : xs = ys
  · subst h
    go_enter Try.func52, Try.ntmps52
    go_wp2_with (first
      | (refine wpList_conv byP rfl rfl rfl hx ?_)
      | (refine wpList_conv byP rfl rfl rfl hy ?_))
    go_ret
    exact ⟨by simp, rfl⟩
  · have d := strEq h
    have H := Lib.hid h
    clear h
    go_enter Try.func52, Try.ntmps52
    go_wp2_with (first
      | (refine wpList_conv byP rfl rfl rfl hx ?_)
      | (refine wpList_conv byP rfl rfl rfl hy ?_))
    go_ret
    exact ⟨by simp [H.out], rfl⟩

set_option maxRecDepth 100000 in
set_option maxHeartbeats 1000000 in
theorem tail_any (w : World) {B : Nat} {ad : Option Addr} {n c : Nat} {xs : List UInt8} (hr : Rd B w (.slice ad n c) xs) (hB : B ≤ w.heap.size) :
    Calls Try.prog 43 #[.slice ad n c] w fun e w' => ∃ ad' k c', e = .returned (.slice ad' k c') ∧ Fresh 5 w w' (.slice ad' k c') (sumB xs) := by
  have hlt := (sumT_lt xs).1
  obtain ⟨s, hs⟩ : ∃ s, s = sumT xs := ⟨_, rfl⟩
  have hsum := sum_any w B hB hr
  rw [← hs] at hlt hsum
  have HS := Lib.hid hs
  clear hs
  go_enter Try.func43, Try.ntmps43
  go_wp2_with fail
  refine hsum.mono ?_
  rintro e w1 ⟨rfl, hb1⟩
  go_wp2_with (refine wpList_makeN byP rfl rfl (k := 4) rfl rfl ?_ ?hk1 ?hk2; intro g w2 hF)
  case hk1 => omega
  case hk2 => omega
  go_loopw [11] (fun i wr => ∃ k : Nat, k ≤ 4 ∧ i = .int .i64 k ∧ Own 5 w.heap.size wr (.slice (some ⟨g, 0, none⟩) 4 4) ((sumB xs).take k ++ List.replicate (4 - k) 0) ∧ Below w.heap.size w wr) (fun i _ => 4 - (intOf i).toNat)
  case atStart => exact ⟨0, by omega, rfl, by simpa using hF.2.to hb1.size, hb1.trans (hF.1.mono hb1.size)⟩
  case round =>
    obtain ⟨k, hk, rfl, hO, hb⟩ := hrel
    have hl : ((sumB xs).take k ++ List.replicate (4 - k) 0).length = 4 := by simp [sumB_len]; omega
    obtain ⟨g', cp, hv, h1, h2, h3, h4, hfr, hce, hst⟩ := hO.some (by omega)
    rw [hl] at hv
    cases hv
    rcases Nat.lt_or_ge k 4 with hlt4 | hge
    · have hc := hce k (by omega)
      have hf := hfr k
      rw [hl] at hst
      have hs' := HS.out
      have v0 : (s : Int) % 256 = ((UInt8.ofNat (sumT xs % 256)).toNat : Int) := by rw [toNat_ofNat_lt (by omega)]; omega
      have v1 : (s : Int) / 256 % 256 = ((UInt8.ofNat (sumT xs / 256 % 256)).toNat : Int) := by rw [toNat_ofNat_lt (by omega)]; omega
      have v2 : (s : Int) / 65536 % 256 = ((UInt8.ofNat (sumT xs / 65536 % 256)).toNat : Int) := by rw [toNat_ofNat_lt (by omega)]; omega
      have v3 : (s : Int) / 16777216 = ((UInt8.ofNat (sumT xs / 16777216 % 256)).toNat : Int) := by rw [toNat_ofNat_lt (by omega)]; omega
      have V0 := Lib.hid v0
      have V1 := Lib.hid v1
      have V2 := Lib.hid v2
      have V3 := Lib.hid v3
      clear v0 v1 v2 v3 hs'
      obtain rfl | rfl | rfl | rfl : k = 0 ∨ k = 1 ∨ k = 2 ∨ k = 3 := by omega
      · go_wp2
        rw [V0.out]
        exact ⟨⟨1, by omega, rfl, hst 0 _ (by omega), hb.setCell h1 _⟩, by simp [intOf]⟩
      · go_wp2
        rw [V1.out]
        exact ⟨⟨2, by omega, rfl, hst 1 _ (by omega), hb.setCell h1 _⟩, by simp [intOf]⟩
      · go_wp2
        rw [V2.out]
        exact ⟨⟨3, by omega, rfl, hst 2 _ (by omega), hb.setCell h1 _⟩, by simp [intOf]⟩
      · go_wp2
        rw [V3.out]
        exact ⟨⟨4, by omega, rfl, hst 3 _ (by omega), hb.setCell h1 _⟩, by simp [intOf]⟩
    · obtain rfl : k = 4 := by omega
      go_wp2
      go_ret
      exact ⟨_, _, _, rfl, hb, hO⟩
end Go.Proofs.Ytebilecgmblmfaa
