/-
  THE WALKS OF chain's OWN alone AND Check. Whatever versions.
-/
import Derived.WalkKit
import Derived.WalkSpells
import Derived.WalkLawsBesides
import Derived.Lib.Hide
import Derived.Deep.Cut
import Derived.Deep.QuietTactic
import Derived.BigQuiet
import Derived.Test.YtemdcpajcaaphaaProg
import Derived.Test.YtemdcpajcaaphaaByte
import Derived.Test.YtemdcpajcaaphaaAux
import Derived.Test.YtemdcpajcaaphaaVer
import Derived.Test.YtemdcpajcaaphaaVerM
namespace Go.Proofs.Ytemdcpajcaaphaa
open Go.RowKit
set_option maxHeartbeats 1000000 in
theorem alone_any (w : World) {S : Nat → Prop} {A : Option Addr} {n c : Nat} {s : Int} {g : Bool} {vs : List UInt8} (hv : RdS S w (.slice A n c) vs) :
    Calls Try.prog 26 #[.agg #[.int .i64 s, .bool g, .slice A n c]] w fun e w' => e = .returned (.bool (decide (mayV ⟨s, g, vs⟩))) ∧ Below w.heap.size w w' := by
  obtain ⟨rfl, hnc, hcm⟩ := hv.len
  have hlm : vs.length ≤ 9223372036854775807 := by unfold maxLen at hcm; omega
  cases g
  ·
    by_cases h1 : 1 ≤ s
    · have d1 : decide ((1 : Int) ≤ s) = true := decide_eq_true h1
      by_cases h2 : s < 2147483648
      · have d2 : decide (s ≤ (2147483647 : Int)) = true := decide_eq_true (by omega)
        by_cases h3 : vs.length ≤ 32
        · have d3 : decide ((vs.length : Int) ≤ 32) = true := decide_eq_true (by omega)
          have hk := Lib.hid (show decide (mayV ⟨s, false, vs⟩) = true from decide_eq_true ⟨h1, h2, h3, by simp⟩)
          clear h1 h2 h3
          go_enter Try.func26, Try.ntmps26
          go_wp2
          go_ret
          exact ⟨by rw [hk.out]; rfl, (Below.refl _ _).alloc (Nat.le_refl _) _⟩
        · have d3 : decide ((vs.length : Int) ≤ 32) = false := decide_eq_false (by omega)
          have hk := Lib.hid (show decide (mayV ⟨s, false, vs⟩) = false from decide_eq_false (fun h => h3 h.2.2.1))
          clear h1 h2 h3
          go_enter Try.func26, Try.ntmps26
          go_wp2
          go_ret
          exact ⟨by rw [hk.out]; rfl, (Below.refl _ _).alloc (Nat.le_refl _) _⟩
      · have d2 : decide (s ≤ (2147483647 : Int)) = false := decide_eq_false (by omega)
        have hk := Lib.hid (show decide (mayV ⟨s, false, vs⟩) = false from decide_eq_false (fun h => h2 h.2.1))
        clear h1 h2
        go_enter Try.func26, Try.ntmps26
        go_wp2
        go_ret
        exact ⟨by rw [hk.out]; rfl, (Below.refl _ _).alloc (Nat.le_refl _) _⟩
    · have d1 : decide ((1 : Int) ≤ s) = false := decide_eq_false h1
      have hk := Lib.hid (show decide (mayV ⟨s, false, vs⟩) = false from decide_eq_false (fun h => h1 h.1))
      clear h1
      go_enter Try.func26, Try.ntmps26
      go_wp2
      go_ret
      exact ⟨by rw [hk.out]; rfl, (Below.refl _ _).alloc (Nat.le_refl _) _⟩
  · by_cases h4 : 0 < vs.length
    · have hk := Lib.hid (show decide (mayV ⟨s, true, vs⟩) = false from decide_eq_false (fun h => by have : vs.length = 0 := h.2.2.2 rfl; omega))
      go_enter Try.func26, Try.ntmps26
      go_wp2
      go_ret
      exact ⟨by rw [hk.out]; rfl, (Below.refl _ _).alloc (Nat.le_refl _) _⟩
    ·
      by_cases h1 : 1 ≤ s
      · have d1 : decide ((1 : Int) ≤ s) = true := decide_eq_true h1
        by_cases h2 : s < 2147483648
        · have d2 : decide (s ≤ (2147483647 : Int)) = true := decide_eq_true (by omega)
          by_cases h3 : vs.length ≤ 32
          · have d3 : decide ((vs.length : Int) ≤ 32) = true := decide_eq_true (by omega)
            have hk := Lib.hid (show decide (mayV ⟨s, true, vs⟩) = true from decide_eq_true ⟨h1, h2, h3, fun _ => by show vs.length = 0; omega⟩)
            clear h1 h2 h3
            go_enter Try.func26, Try.ntmps26
            go_wp2
            go_ret
            exact ⟨by rw [hk.out]; rfl, (Below.refl _ _).alloc (Nat.le_refl _) _⟩
          · have d3 : decide ((vs.length : Int) ≤ 32) = false := decide_eq_false (by omega)
            have hk := Lib.hid (show decide (mayV ⟨s, true, vs⟩) = false from decide_eq_false (fun h => h3 h.2.2.1))
            clear h1 h2 h3
            go_enter Try.func26, Try.ntmps26
            go_wp2
            go_ret
            exact ⟨by rw [hk.out]; rfl, (Below.refl _ _).alloc (Nat.le_refl _) _⟩
        · have d2 : decide (s ≤ (2147483647 : Int)) = false := decide_eq_false (by omega)
          have hk := Lib.hid (show decide (mayV ⟨s, true, vs⟩) = false from decide_eq_false (fun h => h2 h.2.1))
          clear h1 h2
          go_enter Try.func26, Try.ntmps26
          go_wp2
          go_ret
          exact ⟨by rw [hk.out]; rfl, (Below.refl _ _).alloc (Nat.le_refl _) _⟩
      · have d1 : decide ((1 : Int) ≤ s) = false := decide_eq_false h1
        have hk := Lib.hid (show decide (mayV ⟨s, true, vs⟩) = false from decide_eq_false (fun h => h1 h.1))
        clear h1
        go_enter Try.func26, Try.ntmps26
        go_wp2
        go_ret
        exact ⟨by rw [hk.out]; rfl, (Below.refl _ _).alloc (Nat.le_refl _) _⟩

set_option maxRecDepth 100000 in
set_option maxHeartbeats 2000000 in
theorem chCheck_any (w : World) {S : Nat → Prop} {a : Option Addr} {n c : Nat} {l : List Ver} (hl : RdL Elt.ver S w (.slice a n c) l) :
    Calls Try.prog 19 #[.slice a n c] w fun e w' => e = .returned (.bool (decide (okV l))) ∧ Below w.heap.size w w' := by
  obtain ⟨rfl, hnc, hcm⟩ := hl.len
  have hlm : l.length ≤ 9223372036854775807 := by unfold maxLen at hcm; omega
  have q := Below.refl w.heap.size w
  go_enter Try.func19, Try.ntmps19
  go_upto_region 3 with (fail)
  go_loopw [3, 8] (fun lv iv wr => ∃ (k : Nat) (z : Int), iv = .int .i64 k ∧ lv = .int .i64 z ∧ k ≤ l.length ∧ (k = 0 → z = 0) ∧ (∀ h : k - 1 < l.length, 0 < k → z = l[k - 1].stamp) ∧ (∀ i (h : i < l.length), i < k → mayV l[i] ∧ (0 < i → l[i - 1].stamp < l[i].stamp)) ∧ Below w.heap.size w wr)
    (fun _ i _ => l.length - (intOf i).toNat)
  case atStart => exact ⟨0, 0, rfl, rfl, Nat.zero_le _, fun _ => rfl, fun _ h => absurd h (Nat.lt_irrefl _), fun i _ h => by omega, q⟩
  case round =>
    clear q
    obtain ⟨k, z, rfl, rfl, hkl, hz0, hz1, hok, q⟩ := hrel
    rcases Nat.lt_or_ge k l.length with hlt | hge
    · have hl2 := hl.below q
      obtain ⟨b, off, A, C, rfl, hb, c0, c1, c2, hv, hi, hn1, hn2⟩ := hl2.ver k hlt
      by_cases hs : l[k].stamp ≤ z
      · have hno : decide (okV l) = false := decide_eq_false fun h => by
          rcases Nat.eq_zero_or_pos k with h0 | h0
          · have := (h k hlt).1.1
            have := hz0 h0
            omega
          · have h1 := (h k hlt).2 h0
            have h2 := hz1 (by omega) h0
            omega
        have HK := Lib.hid hno
        have dS : decide (l[k].stamp ≤ z) = true := decide_eq_true hs
        clear hno hok hz0 hz1 hs
        go_wp2_with fail
        go_ret
        exact ⟨by rw [HK.out]; rfl, q.alloc q.size _⟩
      · have dS : decide (l[k].stamp ≤ z) = false := decide_eq_false hs
        go_wp2_with fail
        have hT := TriV.new wr 25 (.int .i64 l[k].stamp) (.bool l[k].gone) (.slice A l[k].value.length C)
        have hq0 : Below wr.heap.size wr (wr.alloc (.cells #[.int .i64 l[k].stamp, .bool l[k].gone, .slice A l[k].value.length C] 25)) := (Below.refl _ _).alloc (Nat.le_refl _) _
        generalize hW : wr.alloc (.cells #[.int .i64 l[k].stamp, .bool l[k].gone, .slice A l[k].value.length C] 25) = W at hT hq0 ⊢
        clear hW
        refine (alone_any _ (hv.below hq0)).mono ?_
        rintro e w1 ⟨rfl, hb1⟩
        have q1 := q.trans (hq0.mono q.size)
        replace q1 := q1.trans (hb1.mono q1.size)
        replace hT := hT.below hb1 hT.lt
        have t0 := hT.cell0
        clear c0 c1 c2 hv hb1 hq0 hT
        by_cases hm : mayV l[k]
        · rw [show decide (mayV ⟨l[k].stamp, l[k].gone, l[k].value⟩) = true from decide_eq_true hm]
          have hok' : ∀ i (h : i < l.length), i < k + 1 → mayV l[i] ∧ (0 < i → l[i - 1].stamp < l[i].stamp) := fun i h h1 => by
            rcases Nat.lt_or_ge i k with h2 | h2
            · exact hok i h h2
            · obtain rfl : i = k := by omega
              refine ⟨hm, fun h0 => ?_⟩
              have h3 := hz1 (by omega) h0
              omega
          have HK := Lib.hid hok'
          clear hok hok' hm hz0 hz1 hs
          go_wp2_with fail
          go_roundw
          case rel => exact ⟨k + 1, l[k].stamp, by go_num, rfl, by omega, fun h => by omega, fun h _ => by simp, HK.out, q1⟩
          case measure => simp [intOf]; omega
        · have hk := Lib.hid (show decide (okV l) = false from decide_eq_false (fun h => hm (h k hlt).1))
          rw [show decide (mayV ⟨l[k].stamp, l[k].gone, l[k].value⟩) = false from decide_eq_false hm]
          clear hok hm hz0 hz1 hs
          go_wp2_with fail
          go_ret
          exact ⟨by rw [hk.out]; rfl, q1⟩
    · obtain rfl : k = l.length := by omega
      have hk := Lib.hid (show decide (okV l) = true from decide_eq_true (fun i h => hok i h h))
      clear hok hz0 hz1
      go_wp2_with fail
      go_ret
      exact ⟨by rw [hk.out]; rfl, q⟩
end Go.Proofs.Ytemdcpajcaaphaa
