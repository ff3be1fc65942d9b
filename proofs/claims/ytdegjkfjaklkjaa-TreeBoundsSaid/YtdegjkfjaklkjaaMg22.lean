/-
  TEXTS OF ONE PROOF, merged: TreeBoundsW.
-/
import Derived.BigQuiet
import Derived.Deep.Cut
import Derived.Deep.QuietTactic
import Derived.Lib.Hide
import Derived.Shelf.Abstract
import Derived.Test.YtdegjkfjaklkjaaProg
import Derived.WalkKit
import Derived.WalkLawsBesides
import Derived.WalkSpells
import Derived.Test.YtdegjkfjaklkjaaMg1
import Derived.Test.YtdegjkfjaklkjaaMg2
import Derived.Test.YtdegjkfjaklkjaaMg3
import Derived.Test.YtdegjkfjaklkjaaMg4
import Derived.Test.YtdegjkfjaklkjaaMg9
import Derived.Test.YtdegjkfjaklkjaaMg15
namespace Go.Proofs.Ytdegjkfjaklkjaa
open Go.RowKit
theorem bounds_of {n : Nd} (hk : okN n) (hs : smallB 5 n = true) : ∃ D : Nat, depN n = (D : Int) ∧ 1 ≤ D ∧ D ≤ 5 ∧ (pairsN n).length ≤ 4 ^ D - 1 ∧ (2 ^ D - 1 ≤ (pairsN n).length ∨ (D = 1 ∧ (pairsN n).length = 0)) := by
  have h1 := small_deep 5 (root := true) hs
  have h2 := hk.1
  obtain ⟨D, hD⟩ : ∃ D : Nat, formI n true = (D : Int) := ⟨(formI n true).toNat, by omega⟩
  obtain ⟨h3, h4, h5⟩ := pairs_bounds D hD
  refine ⟨D, by unfold depN; rw [if_pos hk, hD], h3, by omega, h4, ?_⟩
  rcases h5 with h5 | ⟨_, h5, h6⟩
  · exact .inl h5
  · exact .inr ⟨h5, h6⟩
set_option maxRecDepth 100000 in
set_option maxHeartbeats 4000000 in
theorem TreeBounds_w (hC : TreC) (w : World) {v : Value} {n : Nd} (hr : RdN (· < w.heap.size) w v n) :
    Calls Try.prog 8 #[v] w fun e w' => e = .returned (.bool true) ∧ Below w.heap.size w w' := by
  have hr0 := hr
  obtain ⟨a1, c1, a2, c2, a3, c3, rfl, r1, r2, r3⟩ := hr
  have hT := TriV.new w 26 (.slice a1 n.keys.length c1) (.slice a2 n.chains.length c2) (.slice a3 n.kids.length c3)
  have q : Below w.heap.size w (w.alloc (.cells #[.slice a1 n.keys.length c1, .slice a2 n.chains.length c2, .slice a3 n.kids.length c3] 26)) := (Below.refl _ _).alloc (Nat.le_refl _) _
  go_enter Try.func8, Try.ntmps8
  go_upto_region 1 with (fail)
  generalize w.alloc (.cells #[.slice a1 n.keys.length c1, .slice a2 n.chains.length c2, .slice a3 n.kids.length c3] 26) = W at *
  have t0 := hT.cell0
  have t1 := hT.cell1
  have t2 := hT.cell2
  go_wp2_with fail
  refine (hC.awake _).mono ?_
  rintro e w1 ⟨rfl, hb⟩
  replace q := q.trans (hb.mono q.size)
  replace hT := hT.below hb hT.lt
  clear hb t0 t1 t2
  have t0 := hT.cell0
  have t1 := hT.cell1
  have t2 := hT.cell2
  go_wp2_with fail
  refine (smallLaw_any _ (hr0.below q) (RdL.nil Elt.ver (fun _ => False) _)).mono ?_
  rintro e w2 ⟨r, rfl, hs, hb⟩
  replace q := q.trans (hb.mono q.size)
  replace hT := hT.below hb hT.lt
  clear hb t0 t1 t2
  have t0 := hT.cell0
  have t1 := hT.cell1
  have t2 := hT.cell2
  cases r with
  | false =>
    clear hs
    go_wp2_with fail
    go_ret
    exact ⟨rfl, q⟩
  | true =>
    have hsm := (hs rfl).2.2
    have hft := small5_fit hsm
    clear hs
    go_wp2_with fail
    refine (hC.check _ (hr0.below q) hft).mono ?_
    rintro e w3 ⟨rfl, hb⟩
    replace q := q.trans (hb.mono q.size)
    replace hT := hT.below hb hT.lt
    clear hb t0 t1 t2
    have t0 := hT.cell0
    have t1 := hT.cell1
    have t2 := hT.cell2
    by_cases hk : okN n
    · rw [decide_eq_true hk]
      obtain ⟨D, hD, hD1, hD5, hub, hlb⟩ := bounds_of hk hsm
      have hpr := Lib.hid (show prN n = pairsN n from if_pos hk)
      have HD := Lib.hid hD
      have HB := Lib.hid (And.intro hub hlb)
      clear hsm hk hD hub hlb
      go_upto_region 7 with (fail)
      go_loopw [4, 5, 6] (fun lv mv iv wr => ∃ i a b : Nat, iv = .int .i64 i ∧ lv = .int .i64 a ∧ mv = .int .i64 b ∧ i ≤ D ∧ a = 2 ^ i ∧ b = 4 ^ i ∧ TriV wr w.heap.size 26 (.slice a1 n.keys.length c1) (.slice a2 n.chains.length c2) (.slice a3 n.kids.length c3) ∧ Below w.heap.size w wr) (fun _ _ i _ => D - (intOf i).toNat)
      case atStart => exact ⟨0, 1, 1, rfl, rfl, rfl, Nat.zero_le _, rfl, rfl, hT, q⟩
      case round =>
        clear hT q t0 t1 t2
        obtain ⟨i, a, b, rfl, rfl, rfl, hiD, ha, hb4, hT, q⟩ := hrel
        have t0 := hT.cell0
        have t1 := hT.cell1
        have t2 := hT.cell2
        have ha32 : a ≤ 32 := by rw [ha]; exact Nat.le_trans (Nat.pow_le_pow_right (by omega) (show i ≤ 5 by omega)) (by decide)
        have hb1024 : b ≤ 1024 := by rw [hb4]; exact Nat.le_trans (Nat.pow_le_pow_right (by omega) (show i ≤ 5 by omega)) (by decide)
        have HA := Lib.hid (And.intro ha hb4)
        clear ha hb4
        go_wp2_with fail
        refine (hC.depth _ (hr0.below q) hft).mono ?_
        rintro e w4 ⟨rfl, hb⟩
        replace q := q.trans (hb.mono q.size)
        replace hT := hT.below hb hT.lt
        clear hb t0 t1 t2
        have t0 := hT.cell0
        have t1 := hT.cell1
        have t2 := hT.cell2
        rw [HD.out]
        rcases Nat.lt_or_ge i D with hlt | hge
        · go_wp2_with fail
          go_roundw
          case rel => exact ⟨i + 1, a * 2, b * 4, by go_num, by go_num, by go_num, by omega, by rw [HA.out.1, Nat.pow_succ], by rw [HA.out.2, Nat.pow_succ], hT, q⟩
          case measure => simp [intOf]; omega
        · obtain rfl : i = D := by omega
          go_wp2_with fail
          refine (hC.many _ (hr0.below q) hft).mono ?_
          rintro e w5 ⟨rfl, hb⟩
          replace q := q.trans (hb.mono q.size)
          replace hT := hT.below hb hT.lt
          clear hb t0 t1 t2
          have t0 := hT.cell0
          have t1 := hT.cell1
          have t2 := hT.cell2
          rw [hpr.out]
          have hBB := HB.out
          rw [← HA.out.1, ← HA.out.2] at hBB
          clear HB
          go_wp2_with fail
          refine (hC.keys _ (hr0.below q) hft).mono ?_
          rintro e w6 ⟨ak, ck, rfl, hK, hb⟩
          replace q := q.trans (hb.mono q.size)
          replace hT := hT.below hb hT.lt
          clear hb t0 t1 t2
          have t0 := hT.cell0
          have t1 := hT.cell1
          have t2 := hT.cell2
          rw [hpr.out, List.length_map] at hK ⊢
          generalize (pairsN n).length = L at *
          have hL : L ≤ 1024 := by omega
          have hBH := Lib.hid hBB
          clear hBB
          go_wp2_with fail
          refine (hC.depth _ (hr0.below q) hft).mono ?_
          rintro e w7 ⟨rfl, hb⟩
          replace q := q.trans (hb.mono q.size)
          replace hT := hT.below hb hT.lt
          clear hb t0 t1 t2
          have t0 := hT.cell0
          have t1 := hT.cell1
          have t2 := hT.cell2
          rw [HD.out]
          obtain ⟨hB1, hB2⟩ := hBH.out
          have ha2 : 2 ≤ a := by rw [HA.out.1]; exact Nat.le_trans (by decide) (Nat.pow_le_pow_right (show 0 < 2 by omega) hD1)
          have hb0 : 0 < b := by rw [HA.out.2]; exact Nat.pow_pos (by omega)
          have di : decide ((1 : Int) ≤ (i : Int)) = true := decide_eq_true (by omega)
          have db : decide ((L : Int) ≤ (b : Int) - 1) = true := decide_eq_true (by omega)
          have db1 : decide ((1 : Int) ≤ (b : Int)) = true := decide_eq_true (by omega)
          rcases Nat.eq_zero_or_pos L with h0 | h0
          · obtain rfl : i = 1 := by omega
            subst h0
            clear hB1 hB2
            go_wp2_with fail
            refine (hC.depth _ (hr0.below q) hft).mono ?_
            rintro e w8 ⟨rfl, hb⟩
            replace q := q.trans (hb.mono q.size)
            replace hT := hT.below hb hT.lt
            clear hb t0 t1 t2
            have t0 := hT.cell0
            have t1 := hT.cell1
            have t2 := hT.cell2
            rw [HD.out]
            go_wp2_with fail
            go_ret
            exact ⟨rfl, q⟩
          · have d0 : ((L : Int) == 0) = false := by rw [beq_eq_false_iff_ne]; omega
            have da : decide ((a : Int) - 1 ≤ (L : Int)) = true := decide_eq_true (by omega)
            clear hB1 hB2
            go_wp2_with fail
            go_ret
            exact ⟨rfl, q⟩
    · rw [decide_eq_false hk]
      clear hk
      go_wp2_with fail
      go_ret
      exact ⟨rfl, q⟩
end Go.Proofs.Ytdegjkfjaklkjaa
