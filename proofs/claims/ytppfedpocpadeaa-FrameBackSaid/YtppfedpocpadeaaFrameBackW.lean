/-
  THE WALK OF FrameBack: whatever the texts and the bytes: true, and nothing that lay has turned.
-/
import Derived.WalkKit
import Derived.WalkSpells
import Derived.WalkLawsBesides
import Derived.Lib.Hide
import Derived.Deep.Cut
import Derived.Deep.QuietTactic
import Derived.BigQuiet
import Derived.Test.YtppfedpocpadeaaProg
import Derived.Test.YtppfedpocpadeaaByte
import Derived.Test.YtppfedpocpadeaaMat
import Derived.Test.YtppfedpocpadeaaRyo
import Derived.Test.YtppfedpocpadeaaAux
import Derived.Test.YtppfedpocpadeaaFrmC
import Derived.Test.YtppfedpocpadeaaFrmF
import Derived.Test.YtppfedpocpadeaaFrmG
import Derived.Test.YtppfedpocpadeaaFrmH
import Derived.Test.YtppfedpocpadeaaFrameTellsW
import Derived.Test.YtppfedpocpadeaaFrameMoreW
namespace Go.Proofs.Ytppfedpocpadeaa
open Go.RowKit
theorem all_frames (w : World) {B : Nat} {ad : Option Addr} {n c : Nat} {xss : List (List UInt8)} (hr : Rd B w (.slice ad n c) (framesB xss)) (hB : B ≤ w.heap.size) (hx : (framesB xss).length ≤ 1000000) (h : ∀ t ∈ xss, t.length ≤ 2000) :
    Calls Try.prog 13 #[.slice ad n c] w fun e w' => ∃ ad k c, e = .returned (.tuple #[.slice ad k c, .int .i64 ((framesB xss).length : Nat)]) ∧ OwnR 22 w.heap.size w' (.slice ad k c) xss ∧ Below w.heap.size w w' := by
  have hm := textsF_more xss [] h
  rw [List.append_nil, textsF_none readF_nil, List.append_nil] at hm
  refine (all_any w hr hB hx).mono ?_
  rintro e w' ⟨ad', c', rfl, h2, h3⟩
  rw [hm.1] at h2 ⊢
  exact ⟨_, _, _, rfl, h2, h3⟩

set_option maxRecDepth 100000 in
set_option maxHeartbeats 2000000 in
theorem FrameBack_w (w : World) {a0 : Option Addr} {n0 c0 : Nat} {xss : List (List UInt8)} (hl : RdRows w (.slice a0 n0 c0) xss) {a1 : Option Addr} {n1 c1 : Nat} {bs : List UInt8} (hs : Rd w.heap.size w (.slice a1 n1 c1) bs) :
    Calls Try.prog 4 #[.slice a0 n0 c0, .slice a1 n1 c1] w fun e w' => e = .returned (.bool true) ∧ Below w.heap.size w w' := by
  obtain ⟨rfl, hl1, hl2⟩ := hl.len
  obtain ⟨rfl, hs1, hs2⟩ := hs.len
  have hlm : xss.length ≤ 9223372036854775807 := by unfold maxLen at hl2; omega
  have hsm : bs.length ≤ 9223372036854775807 := by unfold maxLen at hs2; omega
  by_cases h : 20 < xss.length
  · have d : decide ((20 : Int) < xss.length) = true := by simp; omega
    go_enter Try.func4, Try.ntmps4
    go_wp2_with fail
    refine (awake3_any _).mono ?_
    rintro e w1 ⟨rfl, hb⟩
    go_wp2
    go_ret
    exact ⟨rfl, hb⟩
  have d : decide ((20 : Int) < xss.length) = false := by simp; omega
  by_cases h2 : 3000 < bs.length
  · have d2 : decide ((3000 : Int) < bs.length) = true := by simp; omega
    clear h
    go_enter Try.func4, Try.ntmps4
    go_wp2_with fail
    refine (awake3_any _).mono ?_
    rintro e w1 ⟨rfl, hb⟩
    go_wp2
    go_ret
    exact ⟨rfl, hb⟩
  have d2 : decide ((3000 : Int) < bs.length) = false := by simp; omega
  have hx20 : xss.length ≤ 20 := by omega
  have hb1 : bs.length ≤ 3000 := by omega
  clear h h2 hl1 hl2 hs1 hs2
  go_enter Try.func4, Try.ntmps4
  go_wp2_with fail
  refine (awake3_any _).mono ?_
  rintro e w1 ⟨rfl, q1⟩
  go_wp2_with fail
  go_loopw [6, 7] (fun v i wr => ∃ (k : Nat) (a2 : Option Addr) (k2 c2 : Nat), v = .slice a2 k2 c2 ∧ i = .int .i64 k ∧ k ≤ xss.length ∧ (∀ r (hr : r < xss.length), r < k → xss[r].length ≤ 300) ∧ Own 5 w.heap.size wr (.slice a2 k2 c2) (framesB (xss.take k)) ∧ (framesB (xss.take k)).length ≤ 306 * k ∧ Below w.heap.size w wr)
    (fun _ i _ => xss.length - (intOf i).toNat)
  case atStart => exact ⟨0, none, 0, 0, rfl, rfl, Nat.zero_le _, fun r _ h => by omega, Own.nil _ _ _, by simp [framesB], q1⟩
  case round =>
    obtain ⟨k, a2, k2, c2, rfl, rfl, hk, hle, hO, hfl, q⟩ := hrel
    rcases Nat.lt_or_ge k xss.length with hlt | hge
    · obtain ⟨b, off, A, L, C, rfl, hbl, hcell, hrd⟩ := hl.at q k hlt
      obtain rfl : L = xss[k].length := hrd.len.1
      have hLm : xss[k].length ≤ 9223372036854775807 := by have := hrd.len.2; unfold maxLen at this; omega
      by_cases hbig : 300 < xss[k].length
      · have d3 : decide ((300 : Int) < xss[k].length) = true := by simp; omega
        clear hle
        go_wp2
        go_ret
        exact ⟨rfl, q⟩
      · have d3 : decide ((300 : Int) < xss[k].length) = false := by simp; omega
        have h300 : xss[k].length ≤ 300 := by omega
        have hfk := (frameB_le (ts := xss[k]) (by omega)).2
        have hsn := Lib.hid (framesB_snoc xss k hlt)
        have hle' : ∀ r (hr : r < xss.length), r < k + 1 → xss[r].length ≤ 300 := fun r hr h => by
          rcases Nat.lt_or_ge r k with h4 | h4
          · exact hle r hr h4
          · obtain rfl : r = k := by omega
            exact h300
        have HL := Lib.hid hle'
        clear hle hle' hbig
        go_wp2_with (first
          | (go_at_call 9; refine (write_yes _ hrd q.size (by omega)).mono ?_; rintro e w2 ⟨ax, kx, cx, rfl, hF⟩; have hO2 := hO.below hF.1; have q2 := q.trans (hF.1.mono q.size))
          | (at_builtin; refine wpList_append byP rfl rfl rfl hO2 rfl hF.rd q2.size ?_ ?hlen; intro a3 k3 c3 w3 hO3 hg3 hb3))
        case hlen => omega
        go_roundw
        case rel => exact ⟨k + 1, a3, k3, c3, rfl, by go_num, by omega, HL.out, by rw [hsn.out]; exact hO3, by rw [hsn.out, List.length_append]; omega, q2.trans hb3⟩
        case measure => simp [intOf]; omega
    · obtain rfl : k = xss.length := by omega
      rw [List.take_length] at hO hfl
      have hle2 := rows_le (by omega) fun r hr => hle r hr hr
      have HL := Lib.hid hle2
      clear hle hle2 d d2
      obtain rfl := hO.len
      go_upto_region 14 with (fail)
      go_wp2_with fail
      refine (all_frames _ hO.rd (Nat.le_refl _) (by omega) HL.out).mono ?_
      rintro e w4 ⟨a4, k4, c4, rfl, hO4, hb4⟩
      have rl4 := hO4.rows
      replace hO := hO.below hb4
      replace q := q.trans (hb4.mono q.size)
      clear hO4 hb4
      go_wp2_with fail
      refine (same_any _ hl q rl4 (Below.refl _ _)).mono ?_
      rintro e w5 ⟨rfl, hb5⟩
      have hdd : decide (xss = xss) = true := by simp
      rw [hdd]
      replace hO := hO.below hb5
      replace q := q.trans (hb5.mono q.size)
      clear hdd rl4 hb5
      go_wp2_with fail
      refine (all_any _ (hs.below q) q.size (by omega)).mono ?_
      rintro e w6 ⟨a6, c6, rfl, hO6, hb6⟩
      have rl6 := hO6.rows
      replace hO := hO.below hb6
      replace q := q.trans (hb6.mono q.size)
      clear hO6 hb6
      have hcnt := textsF_count bs
      have htk := textsF_take bs
      have htk2 := htk.2
      have HT := Lib.hid htk.1
      have HLE := Lib.hid (textsF_le bs)
      clear htk
      go_wp2_with fail
      go_loopw [15, 16] (fun v i wr => ∃ (k : Nat) (a2 : Option Addr) (k2 c2 : Nat), v = .slice a2 k2 c2 ∧ i = .int .i64 k ∧ k ≤ (textsF bs).length ∧ Own 5 w6.heap.size wr (.slice a2 k2 c2) (framesB ((textsF bs).take k)) ∧ (framesB ((textsF bs).take k)).length ≤ 2006 * k ∧ Below w6.heap.size w6 wr)
        (fun _ i _ => (textsF bs).length - (intOf i).toNat)
      case atStart => exact ⟨0, none, 0, 0, rfl, rfl, Nat.zero_le _, Own.nil _ _ _, by simp [framesB], Below.refl _ _⟩
      case round =>
        obtain ⟨k, a7, k7, c7, rfl, rfl, hk7, hO7, hfl7, q7⟩ := hrel
        rcases Nat.lt_or_ge k (textsF bs).length with hlt | hge
        · obtain ⟨b, off, A, L, C, rfl, hbl, hcell, hrd⟩ := rl6.at q7 k hlt
          obtain rfl : L = (textsF bs)[k].length := hrd.len.1
          have h2000 : (textsF bs)[k].length ≤ 2000 := HLE.out _ (List.getElem_mem hlt)
          have hfk := frameB_le h2000
          have hsn := Lib.hid (framesB_snoc (textsF bs) k hlt)
          go_wp2_with (first
            | (go_at_call 9; refine (write_yes _ hrd q7.size h2000).mono ?_; rintro e w8 ⟨ax, kx, cx, rfl, hF⟩; have hO8 := hO7.below hF.1; have q8 := q7.trans (hF.1.mono q7.size))
            | (at_builtin; refine wpList_append byP rfl rfl rfl hO8 rfl hF.rd q8.size ?_ ?hlen; intro a9 k9 c9 w9 hO9 hg9 hb9))
          case hlen => omega
          go_roundw
          case rel => exact ⟨k + 1, a9, k9, c9, rfl, by go_num, by omega, by rw [hsn.out]; exact hO9, by rw [hsn.out, List.length_append]; omega, q8.trans hb9⟩
          case measure => simp [intOf]; omega
        · obtain rfl : k = (textsF bs).length := by omega
          rw [List.take_length] at hO7
          obtain rfl := hO7.len
          have qq := q.trans (q7.mono q.size)
          have hO' := hO.below q7
          have ra := hO7.rd
          have rb := (hs.below qq).take (framesB (textsF bs)).length htk2
          rw [← HT.out] at rb
          have hcv1 : ∀ p, (convert 22 9 (.slice a7 (framesB (textsF bs)).length c7)).run Try.prog (wr.drewN p) = .ok (.string (strOf (framesB (textsF bs)))) (wr.drewN p) := fun p => run_conv byP (ra.drewN p)
          have hcv2 : ∀ p, (convert 22 9 (.slice a1 (framesB (textsF bs)).length c1)).run Try.prog (wr.drewN p) = .ok (.string (strOf (framesB (textsF bs)))) (wr.drewN p) := fun p => run_conv byP (rb.drewN p)
          have hc1 := hs.len.2.1
          clear ra rb hO7 hO hO' hs hl rl6 hk7 hfl7 q7 q HL HT HLE
          cases a1 with
          | none =>
            go_upto_region 25 with (fail)
            go_quiet (fail)
            go_wp2
            go_ret
            exact ⟨rfl, Below.drewN qq _⟩
          | some p =>
            go_upto_region 25 with (fail)
            go_quiet (fail)
            go_wp2
            go_ret
            exact ⟨rfl, Below.drewN qq _⟩
end Go.Proofs.Ytppfedpocpadeaa
