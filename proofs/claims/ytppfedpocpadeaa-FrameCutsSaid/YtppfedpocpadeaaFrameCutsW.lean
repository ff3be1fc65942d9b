/-
  THE WALK OF FrameCuts: whatever the texts and the cut: true, and nothing that lay has turned.
-/
import Derived.WalkKit
import Derived.WalkSpells
import Derived.WalkLawsBesides
import Derived.Lib.Hide
import Derived.Deep.Cut
import Derived.Test.YtppfedpocpadeaaProg
import Derived.Test.YtppfedpocpadeaaByte
import Derived.Test.YtppfedpocpadeaaMat
import Derived.Test.YtppfedpocpadeaaRyo
import Derived.Test.YtppfedpocpadeaaInts
import Derived.Test.YtppfedpocpadeaaAux
import Derived.Test.YtppfedpocpadeaaFrmC
import Derived.Test.YtppfedpocpadeaaFrmF
import Derived.Test.YtppfedpocpadeaaFrmG
import Derived.Test.YtppfedpocpadeaaFrmH
import Derived.Test.YtppfedpocpadeaaFrameMoreW
namespace Go.Proofs.Ytppfedpocpadeaa
open Go.RowKit
theorem inP : InP Try.prog 36 3 := ⟨by kernel_rfl, by kernel_rfl⟩

/-- Where the frames of the first texts end. -/
def endsL (xss : List (List UInt8)) (k : Nat) : List Int := (List.range k).map fun j => ((framesB (xss.take (j + 1))).length : Int)
theorem endsL_len (xss : List (List UInt8)) (k : Nat) : (endsL xss k).length = k := by simp [endsL]
theorem endsL_snoc (xss : List (List UInt8)) (k : Nat) : endsL xss (k + 1) = endsL xss k ++ [((framesB (xss.take (k + 1))).length : Int)] := by
  simp [endsL, List.range_succ]
theorem endsL_get (xss : List (List UInt8)) (k j : Nat) (h : j < (endsL xss k).length) : (endsL xss k)[j] = ((framesB (xss.take (j + 1))).length : Int) := by simp [endsL]
theorem framesB_mono (xss : List (List UInt8)) {a b : Nat} (h : a ≤ b) : (framesB (xss.take a)).length ≤ (framesB (xss.take b)).length := by
  have e : xss.take b = xss.take a ++ (xss.drop a).take (b - a) := by
    rw [show b = a + (b - a) by omega, List.take_add]; simp
  rw [e, framesB_append, List.length_append]; omega
theorem cut_ex (xss : List (List UInt8)) (m : Nat) : ∀ (d k : Nat), k + d = xss.length → (framesB (xss.take k)).length ≤ m → ∃ j, j ≤ xss.length ∧ (framesB (xss.take j)).length ≤ m ∧ (j = xss.length ∨ m < (framesB (xss.take (j + 1))).length) := by
  intro d
  induction d with
  | zero => intro k hk h; exact ⟨k, by omega, h, .inl (by omega)⟩
  | succ d ih =>
    intro k hk h
    by_cases h2 : (framesB (xss.take (k + 1))).length ≤ m
    · exact ih (k + 1) (by omega) h2
    · exact ⟨k, by omega, h, .inr (by omega)⟩
theorem all_cut (w : World) {B : Nat} {ad : Option Addr} {n c : Nat} {xss : List (List UInt8)} {m j : Nat} (hr : Rd B w (.slice ad n c) ((framesB xss).take m)) (hB : B ≤ w.heap.size) (hx : (framesB xss).length ≤ 1000000) (h : ∀ t ∈ xss, t.length ≤ 2000)
    (h1 : (framesB (xss.take j)).length ≤ m) (h2 : j = xss.length ∨ m < (framesB (xss.take (j + 1))).length) :
    Calls Try.prog 13 #[.slice ad n c] w fun e w' => ∃ ad k c, e = .returned (.tuple #[.slice ad k c, .int .i64 ((framesB (xss.take j)).length : Nat)]) ∧ OwnR 22 w.heap.size w' (.slice ad k c) (xss.take j) ∧ Below w.heap.size w w' := by
  have hm := textsF_cut xss m j h h1 (by omega)
  refine (all_any w hr hB (by rw [List.length_take]; omega)).mono ?_
  rintro e w' ⟨ad', c', rfl, h2, h3⟩
  rw [hm] at h2 ⊢
  exact ⟨_, _, _, rfl, h2, h3⟩

set_option maxRecDepth 100000 in
set_option maxHeartbeats 2000000 in
theorem FrameCuts_w (w : World) {a0 : Option Addr} {n0 c0 : Nat} {xss : List (List UInt8)} (hl : RdRows w (.slice a0 n0 c0) xss) {p : Int} (p0 : 0 ≤ p) (p1 : p < 65536) :
    Calls Try.prog 5 #[.slice a0 n0 c0, .int .u16 p] w fun e w' => e = .returned (.bool true) ∧ Below w.heap.size w w' := by
  obtain ⟨rfl, hl1, hl2⟩ := hl.len
  have hlm : xss.length ≤ 9223372036854775807 := by unfold maxLen at hl2; omega
  by_cases h : 20 < xss.length
  · have d : decide ((20 : Int) < xss.length) = true := by simp; omega
    go_enter Try.func5, Try.ntmps5
    go_wp2_with fail
    refine (awake3_any _).mono ?_
    rintro e w1 ⟨rfl, hb⟩
    go_wp2
    go_ret
    exact ⟨rfl, hb⟩
  have d : decide ((20 : Int) < xss.length) = false := by simp; omega
  have hx20 : xss.length ≤ 20 := by omega
  clear h
  go_enter Try.func5, Try.ntmps5
  go_wp2_with fail
  refine (awake3_any _).mono ?_
  rintro e w1 ⟨rfl, q1⟩
  go_wp2_with fail
  go_loopw [6, 7, 8] (fun v ev i wr => ∃ (k : Nat) (a2 : Option Addr) (k2 c2 : Nat) (a3 : Option Addr) (k3 c3 : Nat), v = .slice a2 k2 c2 ∧ ev = .slice a3 k3 c3 ∧ i = .int .i64 k ∧ k ≤ xss.length ∧ (∀ r (hr : r < xss.length), r < k → xss[r].length ≤ 300) ∧ Own 5 w.heap.size wr (.slice a2 k2 c2) (framesB (xss.take k)) ∧ OwnI 3 w.heap.size wr (.slice a3 k3 c3) (endsL xss k) ∧ (framesB (xss.take k)).length ≤ 306 * k ∧ Below w.heap.size w wr)
    (fun _ _ i _ => xss.length - (intOf i).toNat)
  case atStart => exact ⟨0, none, 0, 0, none, 0, 0, rfl, rfl, rfl, Nat.zero_le _, fun r _ h => by omega, Own.nil _ _ _, OwnI.nil _ _ _, by simp [framesB], q1⟩
  case round =>
    obtain ⟨k, a2, k2, c2, a3, k3, c3, rfl, rfl, rfl, hk, hle, hO, hI, hfl, q⟩ := hrel
    rcases Nat.lt_or_ge k xss.length with hlt | hge
    · obtain ⟨b, off, A, L, C, rfl, hbl, hcell, hrd⟩ := hl.at q k hlt
      obtain rfl : L = xss[k].length := hrd.len.1
      have hLm : xss[k].length ≤ 9223372036854775807 := by have := hrd.len.2; unfold maxLen at this; omega
      by_cases hbig : 300 < xss[k].length
      · have d3 : decide ((300 : Int) < xss[k].length) = true := by simp; omega
        clear hle
        go_wp2
        go_ret
        exact ⟨rfl, q⟩
      · have d3 : decide ((300 : Int) < xss[k].length) = false := by simp; omega
        have h300 : xss[k].length ≤ 300 := by omega
        have hfk := (frameB_le (ts := xss[k]) (by omega)).2
        have hsn := Lib.hid (framesB_snoc xss k hlt)
        have hen := Lib.hid (endsL_snoc xss k)
        have hel := endsL_len xss k
        have hle' : ∀ r (hr : r < xss.length), r < k + 1 → xss[r].length ≤ 300 := fun r hr h => by
          rcases Nat.lt_or_ge r k with h4 | h4
          · exact hle r hr h4
          · obtain rfl : r = k := by omega
            exact h300
        have HL := Lib.hid hle'
        clear hle hle' hbig
        go_wp2_with (first
          | (go_at_call 9; refine (write_yes _ hrd q.size (by omega)).mono ?_; rintro e w2 ⟨ax, kx, cx, rfl, hF⟩; have hO2 := hO.below hF.1; have hI2 := hI.below hF.1; have q2 := q.trans (hF.1.mono q.size))
          | (at_builtin; refine wpList_append byP rfl rfl rfl hO2 rfl hF.rd q2.size ?_ ?hlen; intro a4 k4 c4 w3 hO3 hg3 hb3; have hI3 := hI2.apart (by decide) hO2 hg3; have q3 := q2.trans hb3; have e4 := hO3.len; rw [← hsn.out] at hO3 e4)
          | (refine wpList_appendInt inP rfl (fun _ => rfl) rfl rfl (by simp) rfl (fun _ => rfl) rfl hI3 q3.size ?_ ?hlen2; intro u a5 k5 c5 w4 w5 hI5 hb5 hb4 hI4 hg5; have hO5 := (hO3.below hb4).apart (by decide) hI4 hg5; have q5 := q3.trans hb5))
        case hlen => omega
        case hlen2 => omega
        rw [← hen.out] at hI5
        rw [e4] at hO5
        go_roundw
        case rel => exact ⟨k + 1, a4, _, c4, a5, _, c5, rfl, rfl, by go_num, by omega, HL.out, hO5, hI5, by rw [hsn.out, List.length_append]; omega, q5⟩
        case measure => simp [intOf]; omega
    · obtain rfl : k = xss.length := by omega
      rw [List.take_length] at hO hfl
      have hle2 := rows_le (by omega) fun r hr => hle r hr hr
      have HL := Lib.hid hle2
      clear hle hle2 d
      obtain rfl := hO.len
      obtain rfl : k3 = xss.length := by have := hI.len; rw [endsL_len] at this; exact this
      obtain ⟨m, hm⟩ : ∃ m : Nat, p % (((framesB xss).length : Int) + 1) = (m : Int) := ⟨(p % (((framesB xss).length : Int) + 1)).toNat, by
        have := Int.emod_nonneg p (show (((framesB xss).length : Int) + 1) ≠ 0 by omega); omega⟩
      have hml : m ≤ (framesB xss).length := by have := Int.emod_lt_of_pos p (show (0 : Int) < ((framesB xss).length : Int) + 1 by omega); omega
      obtain ⟨j, hj1, hj2, hj3⟩ := cut_ex xss m xss.length 0 (by omega) (by simp [framesB])
      have HJ2 := Lib.hid hj2
      have HJ3 := Lib.hid hj3
      clear hj2 hj3
      have hac := fun (ad : Option Addr) (n c : Nat) (hr : Rd wr.heap.size wr (.slice ad n c) ((framesB xss).take m)) => all_cut wr (j := j) hr (Nat.le_refl _) (by omega) HL.out HJ2.out HJ3.out
      have hrd := hO.rd
      have hmc : m ≤ c2 := by have := hrd.len.2; omega
      go_wp2_with fail
      refine (hac _ _ _ (hrd.take m hml)).mono ?_
      rintro e w5 ⟨a6, k6, c6, rfl, hO6, hb6⟩
      have rl6 := hO6.rows
      have hI6 := hI.below hb6
      have q6 := q.trans (hb6.mono q.size)
      have hcells : xss.length = 0 ∨ ∃ g, a3 = some ⟨g, 0, none⟩ ∧ g < w5.heap.size ∧ ∀ i, i < xss.length → w5.cell? ⟨g, i, none⟩ = some (.int .i64 ((framesB (xss.take (i + 1))).length : Nat)) := by
        by_cases h0 : xss.length = 0
        · exact .inl h0
        · obtain ⟨g, rfl, hc⟩ := hI6.cells (by rw [endsL_len]; omega)
          have hc0 := hc 0 (by rw [endsL_len]; omega)
          refine .inr ⟨g, rfl, World.block_lt_of_cell? _ _ hc0, fun i hi => ?_⟩
          have := hc i (by rw [endsL_len]; omega)
          rw [endsL_get] at this
          exact this
      clear hac hrd hO6 hO hI hI6 hfl hmc hb6 q1 hml
      go_wp2_with fail
      go_loopw [14] (fun v wr' => ∃ i : Nat, v = .int .i64 i ∧ i ≤ j ∧ wr' = w5) (fun v _ => xss.length - (intOf v).toNat)
      case atStart => exact ⟨0, rfl, Nat.zero_le _, rfl⟩
      case round =>
        obtain ⟨i, rfl, hij, rfl⟩ := hrel
        rcases Nat.lt_or_ge i j with hlt | hge
        · have hil : i < xss.length := by omega
          have hmo := framesB_mono xss (show i + 1 ≤ j by omega)
          have hlm2 : (framesB (xss.take (i + 1))).length ≤ m := Nat.le_trans hmo HJ2.out
          have hne : ¬ xss.length = 0 := by omega
          obtain ⟨g, rfl, hg, hc⟩ := hcells.resolve_left hne
          have hci := hc i hil
          clear hmo hcells hc hne
          go_wp2
          go_roundw
          case rel => exact ⟨i + 1, by go_num, by omega, by first | rfl | trivial⟩
          case measure => simp [intOf]; omega
        · obtain rfl : i = j := by omega
          have hjc : i ≤ c0 := by omega
          have hlj := hl.take i hj1
          have hcj : i = 0 ∨ ∃ g, 0 < i ∧ a3 = some ⟨g, 0, none⟩ ∧ g < wr.heap.size ∧ wr.cell? ⟨g, i - 1, none⟩ = some (.int .i64 ((framesB (xss.take i)).length : Nat)) := by
            rcases Nat.eq_zero_or_pos i with h0 | h0
            · exact .inl h0
            · have hne : ¬ xss.length = 0 := by omega
              have h1 : i - 1 < xss.length := by omega
              obtain ⟨g, e, hg, hc⟩ := hcells.resolve_left hne
              have := hc (i - 1) h1
              rw [show i - 1 + 1 = i by omega] at this
              exact .inr ⟨g, h0, e, hg, this⟩
          have hex : i = xss.length ∨ (i < xss.length ∧ m < (framesB (xss.take (i + 1))).length ∧ ∃ g, a3 = some ⟨g, 0, none⟩ ∧ wr.cell? ⟨g, i, none⟩ = some (.int .i64 ((framesB (xss.take (i + 1))).length : Nat))) := by
            rcases HJ3.out with h0 | h0
            · exact .inl h0
            · by_cases h1 : i = xss.length
              · exact .inl h1
              · have h2 : i < xss.length := by omega
                have hne : ¬ xss.length = 0 := by omega
                obtain ⟨g, e, hg, hc⟩ := hcells.resolve_left hne
                exact .inr ⟨h2, h0, g, e, hc i h2⟩
          clear hcells hge hij
          rcases hex with he | ⟨hil, hbig, g, rfl, hci⟩
          · go_upto_region 21 with (fail)
            clear he
            go_wp2_with fail
            refine (same_any _ rl6 (Below.refl _ _) hlj q6).mono ?_
            rintro e w8 ⟨rfl, hb8⟩
            have hdd : decide (xss.take i = xss.take i) = true := by simp
            rw [hdd]
            have q8 := q6.trans (hb8.mono q6.size)
            rcases hcj with rfl | ⟨g', hi0, e3, hg', hcc⟩
            · have hf0 : (framesB (xss.take 0)).length = 0 := rfl
              clear hdd hlj rl6 q6
              go_wp2
              go_ret
              exact ⟨rfl, q8⟩
            · have hcc8 := (hb8.cell (p := ⟨g', i - 1, none⟩) hg').trans hcc
              cases e3
              obtain ⟨i', rfl⟩ : ∃ i', i = i' + 1 := ⟨i - 1, by omega⟩
              rw [Nat.add_sub_cancel] at hcc8
              have hil2 : i' < xss.length := by omega
              have d6 : (((i' + 1 : Nat) : Int) == 0) = false := by simp; omega
              clear hdd hlj rl6 q6 hcc hi0
              go_wp2
              go_ret
              exact ⟨rfl, q8⟩
          · go_upto_region 21 with (fail)
            go_wp2_with fail
            refine (same_any _ rl6 (Below.refl _ _) hlj q6).mono ?_
            rintro e w8 ⟨rfl, hb8⟩
            have hdd : decide (xss.take i = xss.take i) = true := by simp
            rw [hdd]
            have q8 := q6.trans (hb8.mono q6.size)
            rcases hcj with rfl | ⟨g', hi0, e3, hg', hcc⟩
            · have hf0 : (framesB (xss.take 0)).length = 0 := rfl
              clear hdd hlj rl6 q6
              go_wp2
              go_ret
              exact ⟨rfl, q8⟩
            · have hcc8 := (hb8.cell (p := ⟨g', i - 1, none⟩) hg').trans hcc
              cases e3
              obtain ⟨i', rfl⟩ : ∃ i', i = i' + 1 := ⟨i - 1, by omega⟩
              rw [Nat.add_sub_cancel] at hcc8
              have hil2 : i' < xss.length := by omega
              have d6 : (((i' + 1 : Nat) : Int) == 0) = false := by simp; omega
              clear hdd hlj rl6 q6 hcc hi0
              go_wp2
              go_ret
              exact ⟨rfl, q8⟩
end Go.Proofs.Ytppfedpocpadeaa
