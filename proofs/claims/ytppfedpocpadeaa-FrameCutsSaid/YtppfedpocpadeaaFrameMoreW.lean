/-
  THE WALK OF FrameMore: whatever the texts and the bytes: true, and nothing that lay has turned.
-/
import Derived.WalkKit
import Derived.WalkSpells
import Derived.WalkLawsBesides
import Derived.Lib.Hide
import Derived.Deep.Cut
import Derived.Test.YtppfedpocpadeaaProg
import Derived.Test.YtppfedpocpadeaaByte
import Derived.Test.YtppfedpocpadeaaMat
import Derived.Test.YtppfedpocpadeaaRyo
import Derived.Test.YtppfedpocpadeaaAux
import Derived.Test.YtppfedpocpadeaaFrmC
import Derived.Test.YtppfedpocpadeaaFrmF
import Derived.Test.YtppfedpocpadeaaFrmG
import Derived.Test.YtppfedpocpadeaaFrmH
import Derived.Test.YtppfedpocpadeaaFrameTellsW
namespace Go.Proofs.Ytppfedpocpadeaa
open Go.RowKit
theorem framesB_snoc (xss : List (List UInt8)) (k : Nat) (h : k < xss.length) : framesB (xss.take (k + 1)) = framesB (xss.take k) ++ frameB xss[k] := by
  rw [List.take_succ_eq_append_getElem h, framesB_append]; simp [framesB]
theorem textsF_more (xss : List (List UInt8)) (bs : List UInt8) (h : ∀ t ∈ xss, t.length ≤ 2000) : textsF (framesB xss ++ bs) = xss ++ textsF bs ∧ (framesB (textsF (framesB xss ++ bs))).length = (framesB xss).length + (framesB (textsF bs)).length := by
  have := textsF_frames xss bs h
  rw [this, framesB_append, List.length_append]
  exact ⟨rfl, rfl⟩
theorem all_more (w : World) {B : Nat} {ad : Option Addr} {n c : Nat} {xss : List (List UInt8)} {bs : List UInt8} (hr : Rd B w (.slice ad n c) (framesB xss ++ bs)) (hB : B ≤ w.heap.size) (hx : (framesB xss ++ bs).length ≤ 1000000) (h : ∀ t ∈ xss, t.length ≤ 2000) :
    Calls Try.prog 13 #[.slice ad n c] w fun e w' => ∃ ad k c, e = .returned (.tuple #[.slice ad k c, .int .i64 (((framesB xss).length : Int) + (framesB (textsF bs)).length)]) ∧ OwnR 22 w.heap.size w' (.slice ad k c) (xss ++ textsF bs) ∧ Below w.heap.size w w' := by
  have hm := textsF_more xss bs h
  refine (all_any w hr hB hx).mono ?_
  rintro e w' ⟨ad', c', rfl, h2, h3⟩
  rw [hm.1] at h2
  rw [hm.2, hm.1]
  exact ⟨_, _, _, by rw [Int.natCast_add], h2, h3⟩
theorem rows_le {xss : List (List UInt8)} {m : Nat} (hm : m ≤ 2000) (h : ∀ r (hr : r < xss.length), xss[r].length ≤ m) : ∀ t ∈ xss, t.length ≤ 2000 := by
  intro t ht
  obtain ⟨r, hr, rfl⟩ := List.mem_iff_getElem.1 ht
  have := h r hr; omega

set_option maxRecDepth 100000 in
set_option maxHeartbeats 2000000 in
theorem FrameMore_w (w : World) {a0 : Option Addr} {n0 c0 : Nat} {xss : List (List UInt8)} (hl : RdRows w (.slice a0 n0 c0) xss) {a1 : Option Addr} {n1 c1 : Nat} {bs : List UInt8} (hs : Rd w.heap.size w (.slice a1 n1 c1) bs) :
    Calls Try.prog 6 #[.slice a0 n0 c0, .slice a1 n1 c1] w fun e w' => e = .returned (.bool true) ∧ Below w.heap.size w w' := by
  obtain ⟨rfl, hl1, hl2⟩ := hl.len
  obtain ⟨rfl, hs1, hs2⟩ := hs.len
  have hlm : xss.length ≤ 9223372036854775807 := by unfold maxLen at hl2; omega
  have hsm : bs.length ≤ 9223372036854775807 := by unfold maxLen at hs2; omega
  by_cases h : 20 < xss.length
  · have d : decide ((20 : Int) < xss.length) = true := by simp; omega
    go_enter Try.func6, Try.ntmps6
    go_wp2_with fail
    refine (awake3_any _).mono ?_
    rintro e w1 ⟨rfl, hb⟩
    go_wp2
    go_ret
    exact ⟨rfl, hb⟩
  have d : decide ((20 : Int) < xss.length) = false := by simp; omega
  by_cases h2 : 1000 < bs.length
  · have d2 : decide ((1000 : Int) < bs.length) = true := by simp; omega
    clear h
    go_enter Try.func6, Try.ntmps6
    go_wp2_with fail
    refine (awake3_any _).mono ?_
    rintro e w1 ⟨rfl, hb⟩
    go_wp2
    go_ret
    exact ⟨rfl, hb⟩
  have d2 : decide ((1000 : Int) < bs.length) = false := by simp; omega
  have hx20 : xss.length ≤ 20 := by omega
  have hb1 : bs.length ≤ 1000 := by omega
  clear h h2 hl1 hl2 hs1 hs2
  go_enter Try.func6, Try.ntmps6
  go_wp2_with fail
  refine (awake3_any _).mono ?_
  rintro e w1 ⟨rfl, q1⟩
  go_wp2_with fail
  go_loopw [6, 7] (fun v i wr => ∃ (k : Nat) (a2 : Option Addr) (k2 c2 : Nat), v = .slice a2 k2 c2 ∧ i = .int .i64 k ∧ k ≤ xss.length ∧ (∀ r (hr : r < xss.length), r < k → xss[r].length ≤ 300) ∧ Own 5 w.heap.size wr (.slice a2 k2 c2) (framesB (xss.take k)) ∧ (framesB (xss.take k)).length ≤ 306 * k ∧ Below w.heap.size w wr)
    (fun _ i _ => xss.length - (intOf i).toNat)
  case atStart => exact ⟨0, none, 0, 0, rfl, rfl, Nat.zero_le _, fun r _ h => by omega, Own.nil _ _ _, by simp [framesB], q1⟩
  case round =>
    obtain ⟨k, a2, k2, c2, rfl, rfl, hk, hle, hO, hfl, q⟩ := hrel
    rcases Nat.lt_or_ge k xss.length with hlt | hge
    · obtain ⟨b, off, A, L, C, rfl, hbl, hcell, hrd⟩ := hl.at q k hlt
      obtain rfl : L = xss[k].length := hrd.len.1
      have hLm : xss[k].length ≤ 9223372036854775807 := by have := hrd.len.2; unfold maxLen at this; omega
      by_cases hbig : 300 < xss[k].length
      · have d3 : decide ((300 : Int) < xss[k].length) = true := by simp; omega
        clear hle
        go_wp2
        go_ret
        exact ⟨rfl, q⟩
      · have d3 : decide ((300 : Int) < xss[k].length) = false := by simp; omega
        have h300 : xss[k].length ≤ 300 := by omega
        have hfk := (frameB_le (ts := xss[k]) (by omega)).2
        have hsn := Lib.hid (framesB_snoc xss k hlt)
        have hle' : ∀ r (hr : r < xss.length), r < k + 1 → xss[r].length ≤ 300 := fun r hr h => by
          rcases Nat.lt_or_ge r k with h4 | h4
          · exact hle r hr h4
          · obtain rfl : r = k := by omega
            exact h300
        have HL := Lib.hid hle'
        clear hle hle' hbig
        go_wp2_with (first
          | (go_at_call 9; refine (write_yes _ hrd q.size (by omega)).mono ?_; rintro e w2 ⟨ax, kx, cx, rfl, hF⟩; have hO2 := hO.below hF.1; have q2 := q.trans (hF.1.mono q.size))
          | (at_builtin; refine wpList_append byP rfl rfl rfl hO2 rfl hF.rd q2.size ?_ ?hlen; intro a3 k3 c3 w3 hO3 hg3 hb3))
        case hlen => omega
        go_roundw
        case rel => exact ⟨k + 1, a3, k3, c3, rfl, by go_num, by omega, HL.out, by rw [hsn.out]; exact hO3, by rw [hsn.out, List.length_append]; omega, q2.trans hb3⟩
        case measure => simp [intOf]; omega
    · obtain rfl : k = xss.length := by omega
      rw [List.take_length] at hO hfl
      have hle2 := rows_le (by omega) fun r hr => hle r hr hr
      have HL := Lib.hid hle2
      clear hle hle2 d d2
      obtain rfl := hO.len
      have hcat : (framesB xss ++ bs).length ≤ 1000000 := by rw [List.length_append]; omega
      go_upto_region 14 with (fail)
      go_wp2_with fail
      refine (all_any _ (hs.below q) q.size (by omega)).mono ?_
      rintro e w4 ⟨a4, c4, rfl, hO4, hb4⟩
      have rl4 := hO4.rows
      replace hO := hO.below hb4
      replace q := q.trans (hb4.mono q.size)
      clear hO4 hb4
      have hsz := hO.rd.mono (Nat.le_refl _)
      go_wp2_with (first
        | (refine wpList_lit byP rfl [] rfl rfl rfl ?_ (by simp); intro g5 k5 w5 hF5; have r5 := hsz.below hF5.1)
        | (at_builtin; refine wpList_append byP rfl rfl rfl hF5.2 rfl r5 hF5.1.size ?_ ?hl6; intro a6 k6 c6 w6 hO6 hg6 hb6; have q6 := q.trans ((hF5.1.trans hb6).mono q.size))
        | (at_builtin; refine wpList_append byP rfl rfl rfl hO6 rfl (hs.below q6) (Nat.le_trans hF5.1.size hb6.size) ?_ ?hl7; intro a7 k7 c7 w7 hO7 hg7 hb7))
      case hl6 => simp; omega
      case hl7 => simp; omega
      rw [List.nil_append] at hO7
      have hb47 : Below w4.heap.size w4 w7 := (hF5.1.trans hb6).trans hb7
      replace q := q.trans (hb47.mono q.size)
      clear hsz r5 hF5 hO6 hg6 hb6 q6 hg7 hb7 hO
      refine (all_more _ hO7.rd (Nat.le_refl _) hcat HL.out).mono ?_
      rintro e w8 ⟨a8, k8, c8, rfl, hO8, hb8⟩
      have rl8 := hO8.rows
      have q8 := q.trans (hb8.mono q.size)
      have hb48 := hb47.trans (hb8.mono hb47.size)
      clear hO7 hO8 hb47 hb8 hcat
      go_wp2_with (first
        | (refine wpList_noRows ryP rfl rfl ?_; intro g9 w9 hO9 hb9)
        | (at_builtin; refine wpList_appendRows ryP rfl rfl rfl hO9 rfl hl (q8.trans (hb9.mono q8.size)) q8.size hb9.size ?_ ?hl10; intro a10 k10 c10 w10 hO10 hb10)
        | (at_builtin; refine wpList_appendRows ryP rfl rfl rfl hO10 rfl rl4 (hb48.trans ((hb9.trans hb10).mono hb48.size)) hb48.size (Nat.le_trans hb9.size hb10.size) ?_ ?hl11; intro a11 k11 c11 w11 hO11 hb11))
      case hl10 => simp; omega
      case hl11 => have := textsF_count bs; simp; omega
      rw [List.nil_append] at hO11
      have hb811 : Below w8.heap.size w8 w11 := (hb9.trans hb10).trans hb11
      refine (same_any _ rl8 hb811 hO11.rows (Below.refl _ _)).mono ?_
      rintro e w12 ⟨rfl, hb12⟩
      have hdd : decide (xss ++ textsF bs = xss ++ textsF bs) = true := by simp
      rw [hdd]
      have q12 := (q8.trans (hb811.mono q8.size)).trans (hb12.mono (q8.trans (hb811.mono q8.size)).size)
      clear hdd hb9 hb10 hb11 hO9 hO10 hO11 hb811 hb12 q8 hb48 rl8 rl4 q
      have hbn := (textsF_take bs).2
      go_wp2
      go_ret
      exact ⟨rfl, q12⟩
end Go.Proofs.Ytppfedpocpadeaa
