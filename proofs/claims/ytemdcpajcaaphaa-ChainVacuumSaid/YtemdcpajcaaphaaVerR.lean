/-
  THE WALKS OF THE DOCUMENT's ANSWER FOR chain: may, Check, at, Newer, Read. Whatever versions.
-/
import Derived.WalkKit
import Derived.WalkSpells
import Derived.WalkLawsBesides
import Derived.Lib.Hide
import Derived.Deep.Cut
import Derived.Deep.QuietTactic
import Derived.BigQuiet
import Derived.Test.YtemdcpajcaaphaaProg
import Derived.Test.YtemdcpajcaaphaaByte
import Derived.Test.YtemdcpajcaaphaaAux
import Derived.Test.YtemdcpajcaaphaaVer
import Derived.Test.YtemdcpajcaaphaaVerM
namespace Go.Proofs.Ytemdcpajcaaphaa
open Go.RowKit
set_option maxHeartbeats 1000000 in
theorem refMay_any (w : World) {S : Nat → Prop} {A : Option Addr} {n c : Nat} {s : Int} {g : Bool} {vs : List UInt8} (hv : RdS S w (.slice A n c) vs) :
    Calls Try.prog 28 #[.agg #[.int .i64 s, .bool g, .slice A n c]] w fun e w' => e = .returned (.bool (decide (mayV ⟨s, g, vs⟩))) ∧ Below w.heap.size w w' := by
  obtain ⟨rfl, hnc, hcm⟩ := hv.len
  have hlm : vs.length ≤ 9223372036854775807 := by unfold maxLen at hcm; omega
  by_cases h1 : 1 ≤ s
  · by_cases h2 : s < 2147483648
    · by_cases h3 : vs.length ≤ 32
      · cases g
        · have hk := Lib.hid (show decide (mayV ⟨s, false, vs⟩) = true from decide_eq_true ⟨h1, h2, h3, by simp⟩)
          go_enter Try.func28, Try.ntmps28
          go_wp2
          go_ret
          exact ⟨by rw [hk.out]; rfl, (Below.refl _ _).alloc (Nat.le_refl _) _⟩
        · by_cases h4 : vs.length = 0
          · have hk := Lib.hid (show decide (mayV ⟨s, true, vs⟩) = true from decide_eq_true ⟨h1, h2, h3, fun _ => h4⟩)
            have d4 : ((vs.length : Int) == 0) = true := by rw [beq_iff_eq]; omega
            go_enter Try.func28, Try.ntmps28
            go_wp2
            go_ret
            exact ⟨by rw [hk.out]; rfl, (Below.refl _ _).alloc (Nat.le_refl _) _⟩
          · have hk := Lib.hid (show decide (mayV ⟨s, true, vs⟩) = false from decide_eq_false (fun h => h4 (h.2.2.2 rfl)))
            have d4 : ((vs.length : Int) == 0) = false := by rw [beq_eq_false_iff_ne]; omega
            go_enter Try.func28, Try.ntmps28
            go_wp2
            go_ret
            exact ⟨by rw [hk.out]; rfl, (Below.refl _ _).alloc (Nat.le_refl _) _⟩
      · have hk := Lib.hid (show decide (mayV ⟨s, g, vs⟩) = false from decide_eq_false (fun h => h3 h.2.2.1))
        go_enter Try.func28, Try.ntmps28
        go_wp2
        go_ret
        exact ⟨by rw [hk.out]; rfl, (Below.refl _ _).alloc (Nat.le_refl _) _⟩
    · have hk := Lib.hid (show decide (mayV ⟨s, g, vs⟩) = false from decide_eq_false (fun h => h2 h.2.1))
      go_enter Try.func28, Try.ntmps28
      go_wp2
      go_ret
      exact ⟨by rw [hk.out]; rfl, (Below.refl _ _).alloc (Nat.le_refl _) _⟩
  · have hk := Lib.hid (show decide (mayV ⟨s, g, vs⟩) = false from decide_eq_false (fun h => h1 h.1))
    go_enter Try.func28, Try.ntmps28
    go_wp2
    go_ret
    exact ⟨by rw [hk.out]; rfl, (Below.refl _ _).alloc (Nat.le_refl _) _⟩

set_option maxRecDepth 100000 in
set_option maxHeartbeats 2000000 in
theorem refCheckV_any (w : World) {S : Nat → Prop} {a : Option Addr} {n c : Nat} {l : List Ver} (hl : RdL Elt.ver S w (.slice a n c) l) :
    Calls Try.prog 20 #[.slice a n c] w fun e w' => e = .returned (.bool (decide (okV l))) ∧ Below w.heap.size w w' := by
  obtain ⟨rfl, hnc, hcm⟩ := hl.len
  have hlm : l.length ≤ 9223372036854775807 := by unfold maxLen at hcm; omega
  have q := Below.refl w.heap.size w
  go_enter Try.func20, Try.ntmps20
  go_upto_region 2 with (fail)
  go_loopw [3] (fun iv wr => ∃ k : Nat, iv = .int .i64 k ∧ k ≤ l.length ∧ (∀ i (h : i < l.length), i < k → mayV l[i] ∧ (0 < i → l[i - 1].stamp < l[i].stamp)) ∧ Below w.heap.size w wr)
    (fun i _ => l.length - (intOf i).toNat)
  case atStart => exact ⟨0, rfl, Nat.zero_le _, fun i _ h => by omega, q⟩
  case round =>
    clear q
    obtain ⟨k, rfl, hkl, hok, q⟩ := hrel
    rcases Nat.lt_or_ge k l.length with hlt | hge
    · have hl2 := hl.below q
      obtain ⟨b, off, A, C, rfl, hb, c0, c1, c2, hv, hi, hn1, hn2⟩ := hl2.ver k hlt
      go_wp2_with fail
      refine (refMay_any _ hv).mono ?_
      rintro e w1 ⟨rfl, hb1⟩
      have q1 := q.trans (hb1.mono q.size)
      replace hl2 := hl2.below hb1
      obtain ⟨b', off', A', C', e', hb', c0', c1', c2', hv', hi', hn1', hn2'⟩ := hl2.ver k hlt
      injection e' with e'; injection e' with e1 e2; subst e1; subst e2
      clear c0 c1 c2 hv hb1
      by_cases hm : mayV l[k]
      · rw [show decide (mayV ⟨l[k].stamp, l[k].gone, l[k].value⟩) = true from decide_eq_true hm]
        cases k with
        | zero =>
          have hok' : ∀ i (h : i < l.length), i < 1 → mayV l[i] ∧ (0 < i → l[i - 1].stamp < l[i].stamp) := fun i h h1 => by
            obtain rfl : i = 0 := by omega
            exact ⟨hm, fun h => absurd h (Nat.lt_irrefl _)⟩
          have HK := Lib.hid hok'
          clear hok hok' hm
          go_upto_region 5 with (fail)
          go_quiet (fail)
          go_wp2_with fail
          go_roundw
          case rel => exact ⟨1, by go_num, by omega, HK.out, Below.drewN q1 _⟩
          case measure => simp [intOf]; omega
        | succ k =>
          obtain ⟨b2, off2, A2, C2, e2, hb2, d0, d1, d2, hv2, hi2, hn12, hn22⟩ := hl2.ver k (by omega)
          injection e2 with e2; injection e2 with e3 e4; subst e3; subst e4
          have hk1 : ((k + 1 : Nat) : Int) - 1 = (k : Int) := by omega
          by_cases hs : l[k].stamp < l[k + 1].stamp
          · have hok' : ∀ i (h : i < l.length), i < k + 2 → mayV l[i] ∧ (0 < i → l[i - 1].stamp < l[i].stamp) := fun i h h1 => by
              rcases Nat.lt_or_ge i (k + 1) with h2 | h2
              · exact hok i h h2
              · obtain rfl : i = k + 1 := by omega
                exact ⟨hm, fun _ => hs⟩
            have HK := Lib.hid hok'
            have dS : decide (l[k + 1].stamp ≤ l[k].stamp) = false := by rw [decide_eq_false_iff_not]; omega
            clear hok hok' hm
            go_upto_region 5 with (fail)
            go_quiet (fail)
            go_wp2_with fail
            go_roundw
            case rel => exact ⟨k + 2, by go_num, by omega, HK.out, Below.drewN q1 _⟩
            case measure => simp [intOf]; omega
          · have hk := Lib.hid (show decide (okV l) = false from decide_eq_false (fun h => hs ((h (k + 1) hlt).2 (Nat.succ_pos _))))
            have dS : decide (l[k + 1].stamp ≤ l[k].stamp) = true := by rw [decide_eq_true_iff]; omega
            clear hok hm
            go_upto_region 5 with (fail)
            go_quiet (fail)
            go_wp2_with fail
            go_ret
            exact ⟨by rw [hk.out]; rfl, Below.drewN q1 _⟩
      · have hk := Lib.hid (show decide (okV l) = false from decide_eq_false (fun h => hm (h k hlt).1))
        rw [show decide (mayV ⟨l[k].stamp, l[k].gone, l[k].value⟩) = false from decide_eq_false hm]
        clear hok hm
        go_upto_region 5 with (fail)
        go_quiet (fail)
        go_wp2_with fail
        go_ret
        exact ⟨by rw [hk.out]; rfl, Below.drewN q1 _⟩
    · obtain rfl : k = l.length := by omega
      have hk := Lib.hid (show decide (okV l) = true from decide_eq_true (fun i h => hok i h h))
      clear hok
      go_wp2_with fail
      go_ret
      exact ⟨by rw [hk.out]; rfl, q⟩

set_option maxRecDepth 100000 in
set_option maxHeartbeats 1000000 in
theorem refAt_any (w : World) {S : Nat → Prop} {a : Option Addr} {n c : Nat} {l : List Ver} (hl : RdL Elt.ver S w (.slice a n c) l) (s : Int) :
    Calls Try.prog 25 #[.slice a n c, .int .i64 s] w fun e w' => e = .returned (.int .i64 ((cntV l s : Int) - 1)) ∧ w' = w := by
  obtain ⟨rfl, hnc, hcm⟩ := hl.len
  have hlm : l.length ≤ 9223372036854775807 := by unfold maxLen at hcm; omega
  go_enter Try.func25, Try.ntmps25
  go_upto_region 3 with (fail)
  go_loopw [5, 6] (fun ov iv wr => ∃ k : Nat, iv = .int .i64 k ∧ k ≤ l.length ∧ ov = .int .i64 ((lastAt l s k : Int) - 1) ∧ wr = w)
    (fun _ i _ => l.length - (intOf i).toNat)
  case atStart => exact ⟨0, rfl, Nat.zero_le _, rfl, rfl⟩
  case round =>
    obtain ⟨k, rfl, hkl, rfl, rfl⟩ := hrel
    rcases Nat.lt_or_ge k l.length with hlt | hge
    · obtain ⟨b, off, A, C, rfl, hb, c0, c1, c2, hv, hi, hn1, hn2⟩ := hl.ver k hlt
      by_cases hs : l[k].stamp ≤ s
      · have d1 : decide (l[k].stamp ≤ s) = true := decide_eq_true hs
        have hx := Lib.hid (lastAt_yes hlt hs)
        clear hs
        go_wp2_with fail
        go_roundw
        case rel => exact ⟨k + 1, by go_num, by omega, by rw [hx.out]; go_num, by first | rfl | trivial⟩
        case measure => simp [intOf]; omega
      · have d1 : decide (l[k].stamp ≤ s) = false := decide_eq_false hs
        have hx := Lib.hid (lastAt_no hlt hs)
        clear hs
        go_wp2_with fail
        go_roundw
        case rel => exact ⟨k + 1, by go_num, by omega, by rw [hx.out], by first | rfl | trivial⟩
        case measure => simp [intOf]; omega
    · obtain rfl : k = l.length := by omega
      go_wp2_with fail
      go_ret
      exact ⟨rfl, rfl⟩
end Go.Proofs.Ytemdcpajcaaphaa
