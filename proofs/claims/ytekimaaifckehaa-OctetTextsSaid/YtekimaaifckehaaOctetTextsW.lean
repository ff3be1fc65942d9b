/-
  THE WALK OF OctetTexts: whatever the bytes and the text: true, and nothing that lay has turned.
-/
import Derived.WalkKit
import Derived.WalkSpells
import Derived.WalkLawsBesides
import Derived.Lib.Hide
import Derived.Shelf.Abstract
import Derived.Deep.Cut
import Derived.Test.YtekimaaifckehaaProg
import Derived.Test.YtekimaaifckehaaNum
import Derived.Test.YtekimaaifckehaaByte
import Derived.Test.YtekimaaifckehaaOctA
import Derived.Test.YtekimaaifckehaaOctE
import Derived.Test.YtekimaaifckehaaOctF
import Derived.Test.YtekimaaifckehaaOctG
import Derived.Test.YtekimaaifckehaaOctM
import Derived.Test.YtekimaaifckehaaMake
import Derived.Test.YtekimaaifckehaaGuard
import Derived.Test.YtekimaaifckehaaOps
namespace Go.Proofs.Ytekimaaifckehaa
open Go.RowKit Go.Shelf
set_option maxRecDepth 100000 in
set_option maxHeartbeats 2000000 in
theorem OctetTexts_w (w : World) {a0 : Option Addr} {n0 c0 : Nat} {xs : List UInt8} (hx : Rd w.heap.size w (.slice a0 n0 c0) xs) {a1 : Option Addr} {n1 c1 : Nat} {ts : List UInt8} (ht : Rd w.heap.size w (.slice a1 n1 c1) ts) :
    Calls Try.prog 4 #[.slice a0 n0 c0, .slice a1 n1 c1] w fun e w' => e = .returned (.bool true) ∧ Below w.heap.size w w' := by
  obtain rfl : n0 = xs.length := hx.len.1
  obtain rfl : n1 = ts.length := ht.len.1
  by_cases h : 300 < xs.length
  · have d : decide ((300 : Int) < xs.length) = true := by simp; omega
    go_enter Try.func4, Try.ntmps4
    go_wp2_with fail
    refine (awake_any _).mono ?_
    rintro e w1 ⟨rfl, hb⟩
    go_wp2
    go_ret
    exact ⟨rfl, hb⟩
  have d1 : decide ((300 : Int) < xs.length) = false := by simp; omega
  have l0 : xs.length ≤ 1000000 := by omega
  clear h
  by_cases h : 300 < ts.length
  · have d : decide ((300 : Int) < ts.length) = true := by simp; omega
    go_enter Try.func4, Try.ntmps4
    go_wp2_with fail
    refine (awake_any _).mono ?_
    rintro e w1 ⟨rfl, hb⟩
    go_wp2
    go_ret
    exact ⟨rfl, hb⟩
  have d2 : decide ((300 : Int) < ts.length) = false := by simp; omega
  have l1 : ts.length ≤ 65535 := by omega
  clear h
  go_enter Try.func4, Try.ntmps4
  go_wp2_with fail
  refine (awake_any _).mono ?_
  rintro e w1 ⟨rfl, q⟩
  go_wp2_with fail
  refine (text_yes _ (hx.below q) (ht.below q) q.size l0 l1).mono ?_
  rintro e w2 ⟨a2, k2, c2, rfl, hF2⟩
  replace q := q.trans (hF2.1.mono q.size)
  have r2 := hF2.rd
  go_wp2_with fail
  refine (refText_yes _ (hx.below q) (ht.below q) q.size l0 l1).mono ?_
  rintro e w3 ⟨a3, k3, c3, rfl, hF3⟩
  replace q := q.trans (hF3.1.mono q.size)
  replace r2 := r2.below hF3.1
  have r3 := hF3.rd
  clear hF2
  go_wp2_with fail
  refine (takeText_any _ (hx.below q) q.size l0).mono ?_
  rintro e w4 ⟨a4, k4, c4, b4, m4, e4, rfl, hF4, hG4⟩
  replace q := q.trans (hF4.1.mono q.size)
  replace r2 := r2.below (hF4.1.mono hF3.1.size)
  replace r3 := r3.below hF4.1
  have r4 := hF4.rd
  have s4 := hG4.rd
  go_wp2_with fail
  refine (refTakeText_any _ (hx.below q) q.size l0).mono ?_
  rintro e w5 ⟨a5, k5, c5, b5, m5, e5, rfl, hF5, hG5⟩
  replace q := q.trans (hF5.1.mono q.size)
  replace r2 := r2.below (hF5.1.mono (Nat.le_trans hF3.1.size hF4.1.size))
  replace r3 := r3.below (hF5.1.mono hF4.1.size)
  replace r4 := r4.below hF5.1
  replace s4 := s4.below hF5.1
  have r5 := hF5.rd
  have s5 := hG5.rd
  clear hF3 hF4 hF5 hG4 hG5
  go_wp2_with (first | (refine wpList_conv byP rfl rfl rfl r2 ?_) | (refine wpList_conv byP rfl rfl rfl r3 ?_) | (refine wpList_conv byP rfl rfl rfl r4 ?_) | (refine wpList_conv byP rfl rfl rfl r5 ?_) | (refine wpList_conv byP rfl rfl rfl s4 ?_) | (refine wpList_conv byP rfl rfl rfl s5 ?_))
  go_ret
  exact ⟨by simp, q⟩
end Go.Proofs.Ytekimaaifckehaa
