/-
  THE WALK OF OctetBack: whatever the number, the text and what stands behind: true, and nothing that lay has turned.
-/
import Derived.WalkKit
import Derived.WalkSpells
import Derived.WalkLawsBesides
import Derived.Lib.Hide
import Derived.Shelf.Abstract
import Derived.Deep.Cut
import Derived.Test.YtekimaaifckehaaProg
import Derived.Test.YtekimaaifckehaaNum
import Derived.Test.YtekimaaifckehaaByte
import Derived.Test.YtekimaaifckehaaOctA
import Derived.Test.YtekimaaifckehaaOctE
import Derived.Test.YtekimaaifckehaaOctF
import Derived.Test.YtekimaaifckehaaOctG
import Derived.Test.YtekimaaifckehaaOctM
import Derived.Test.YtekimaaifckehaaOctetSizesW
import Derived.Test.YtekimaaifckehaaOctetNumbersW
import Derived.Test.YtekimaaifckehaaMake
import Derived.Test.YtekimaaifckehaaGuard
import Derived.Test.YtekimaaifckehaaOps
namespace Go.Proofs.Ytekimaaifckehaa
open Go.RowKit Go.Shelf
set_option maxRecDepth 100000 in
set_option maxHeartbeats 4000000 in
theorem OctetBack_w (w : World) {n : Int} (n0 : 0 ≤ n) (n1 : n < 4294967296) {a0 : Option Addr} {k0 c0 : Nat} {ts : List UInt8} (ht : Rd w.heap.size w (.slice a0 k0 c0) ts) {a1 : Option Addr} {k1 c1 : Nat} {xs : List UInt8} (hx : Rd w.heap.size w (.slice a1 k1 c1) xs) :
    Calls Try.prog 5 #[.int .u32 n, .slice a0 k0 c0, .slice a1 k1 c1] w fun e w' => e = .returned (.bool true) ∧ Below w.heap.size w w' := by
  obtain rfl : k0 = ts.length := ht.len.1
  obtain rfl : k1 = xs.length := hx.len.1
  by_cases h : 300 < ts.length
  · have d : decide ((300 : Int) < ts.length) = true := by simp; omega
    go_enter Try.func5, Try.ntmps5
    go_wp2_with fail
    refine (awake_any _).mono ?_
    rintro e w1 ⟨rfl, hb⟩
    go_wp2
    go_ret
    exact ⟨rfl, hb⟩
  have d1 : decide ((300 : Int) < ts.length) = false := by simp; omega
  have l1 : ts.length ≤ 300 := by omega
  clear h
  by_cases h : 300 < xs.length
  · have d : decide ((300 : Int) < xs.length) = true := by simp; omega
    go_enter Try.func5, Try.ntmps5
    go_wp2_with fail
    refine (awake_any _).mono ?_
    rintro e w1 ⟨rfl, hb⟩
    go_wp2
    go_ret
    exact ⟨rfl, hb⟩
  have d2 : decide ((300 : Int) < xs.length) = false := by simp; omega
  have l2 : xs.length ≤ 300 := by omega
  clear h
  obtain ⟨k, hk⟩ : ∃ k : Nat, n % 2147483648 = k := Int.eq_ofNat_of_zero_le (Int.emod_nonneg _ (by omega))
  have hk1 : k ≤ 2147483647 := by omega
  have hl5 := numB_len5 k hk1
  have lt := textB_len ts (by omega)
  have T1 := Lib.hid (takeS_numB k (textB ts ++ xs) hk1)
  have T2 := Lib.hid (takeTextS_textB ts xs (by omega))
  have HC := Lib.hid (show takeS xs = (0, [], 10) ∨ ∃ n s, takeN xs = some (n, s) ∧ takeS xs = (n, xs.drop s, 0) by
    unfold takeS
    cases takeN xs with
    | none => exact .inl rfl
    | some p => exact .inr ⟨p.1, p.2, rfl, rfl⟩)
  go_enter Try.func5, Try.ntmps5
  go_wp2_with fail
  refine (awake_any _).mono ?_
  rintro e w1 ⟨rfl, q⟩
  go_wp2_with fail
  refine (number_nat' _ _ (by omega) (by omega) (Rd.nil w1.heap.size _) (Nat.le_refl _) (by simp)).mono ?_
  rintro e w2 ⟨a2, k2, c2, rfl, hF⟩
  rw [List.nil_append, Int.toNat_natCast] at hF
  replace q := q.trans (hF.1.mono q.size)
  have r2 := hF.rd
  obtain rfl := hF.len
  clear hF
  go_wp2_with fail
  refine (text_yes _ r2 (ht.below q |>.mono q.size) (Nat.le_refl _) (by omega) (by omega)).mono ?_
  rintro e w3 ⟨a3, k3, c3, rfl, hF⟩
  replace q := q.trans (hF.1.mono q.size)
  have r3 := hF.rd
  clear hF r2
  have hx3 := hx.below q
  go_wp2_with (first
    | (refine wpList_lit byP rfl [] rfl rfl rfl ?_ (by simp); intro g1 m1 u1 hF; have r4 := r3.below hF.1)
    | (at_builtin; refine wpList_append byP rfl rfl rfl hF.2 rfl r4 hF.1.size ?_ ?hl1; intro ad1 m2 e1 u2 hO1 hg1 hb1; have p1 := hF.1.trans hb1; have hx4 := hx3.below (p1.mono q.size))
    | (at_builtin; refine wpList_append byP rfl rfl rfl hO1 rfl hx4 p1.size ?_ ?hl2; intro ad2 m3 e2 u3 hO2 hg2 hb2))
  case hl1 => simp; omega
  case hl2 => simp; omega
  have p2 := p1.trans hb2
  replace q := q.trans (p2.mono q.size)
  simp only [List.nil_append, List.append_assoc] at hO2
  have r5 := hO2.rd
  clear hF r4 hO1 hg1 hb1 p1 hx4 hO2 hg2 hb2 p2 r3 hx3
  refine (take_any _ r5 (Nat.le_refl _) (by simp; omega)).mono ?_
  rintro e w4 ⟨a4, k4, c4, rfl, hF⟩
  rw [T1.out] at hF
  simp only [T1.out]
  replace q := q.trans (hF.1.mono q.size)
  have r6 := hF.rd
  clear hF r5
  go_wp2_with fail
  refine (takeText_any _ r6 (Nat.le_refl _) (by simp; omega)).mono ?_
  rintro e w5 ⟨a5, k5, c5, b5, m5, e5, rfl, hF, hG⟩
  rw [T2.out] at hF hG
  simp only [T2.out]
  replace q := q.trans (hF.1.mono q.size)
  have r7 := hF.rd
  have r8 := hG.rd
  clear hF hG r6
  go_wp2_with fail
  refine (take_any _ (hx.below q) q.size (by omega)).mono ?_
  rintro e w6 ⟨a6, k6, c6, rfl, hF⟩
  replace q := q.trans (hF.1.mono q.size)
  replace r7 := r7.below hF.1
  replace r8 := r8.below hF.1
  have s5 := hF.1.size
  clear hF
  rcases HC.out with hs | ⟨p, s, hn, hs⟩
  · rw [hs]
    clear HC hs
    go_wp2_with fail
    refine (number_nat _ _ (by omega) (by omega)).mono ?_
    rintro e w7 ⟨a7, c7, rfl, hF⟩
    replace q := q.trans (hF.1.mono q.size)
    replace r7 := r7.below (hF.1.mono s5)
    replace r8 := r8.below (hF.1.mono s5)
    have s7 := Nat.le_trans s5 hF.1.size
    have r9 := hF.rd
    clear hF s5
    generalize (numB (0 : Int).toNat).length = k7 at r9 ⊢
    go_upto_region 11 with (fail)
    refine wp_region_gsg (by kernel_rfl) (by kernel_rfl) [sgEq (.int .i64 10), sgEq (.bool true), sgEq (.bool true), sgEq undef, sgEq undef, sgEq undef, sgEq undef, sgEq undef, sgEq undef, sgEq undef, sgEq undef, sgEq undef, sgEq undef, sgEq undef, sgEq undef, sgEq undef, sgEq undef, sgEq undef, sgEq undef, sgEq undef, sgEq undef, sgEq undef, sgEq (.bool true), sgEq (.bool true)]
      ⟨?o0, ?o1, ?o2, ?o3, ?o4, ?o5, ?o6, ?o7, ?o8, ?o9, ?o10, ?o11, ?o12, ?o13, ?o14, ?o15, ?o16, ?o17, ?o18, ?o19, ?o20, ?o21, ?o22, ?o23, trivial⟩ ?fin
    case o0 =>
      refine GdOp.plain rfl (fun A vs w' hF hT hb hd => ?_)
      have e1 : A.eval (.tmp 21) = .int .i64 10 := hF 21 rfl
      exact BigFrame.wp_move _ rfl ⟨_, rfl, e1, Below.refl _ _⟩
    case o1 =>
      refine GdOp.plain rfl (fun A vs w' hF hT hb hd => ?_)
      have e1 : A.eval (.tmp 76) = .int .i64 10 := (hT 76 0 (by simp) rfl).trans (hd ⟨0, .data⟩ (by simp) rfl)
      exact wp_neqI rfl e1 rfl ⟨_, rfl, by simp; rfl, Below.refl _ _⟩
    case o2 =>
      refine GdOp.plain rfl (fun A vs w' hF hT hb hd => ?_)
      have e1 : A.eval (.tmp 77) = .bool true := (hT 77 1 (by simp) rfl).trans (hd ⟨1, .data⟩ (by simp) rfl)
      exact BigFrame.wp_move _ rfl ⟨_, rfl, e1, Below.refl _ _⟩
    case o3 =>
      exact GdOp.left rfl ⟨_, _, rfl, rfl, by simp⟩ (by kernel_rfl) (fun w v h => .inl h) (fun w => rfl)
    case o4 =>
      exact GdOp.left rfl ⟨_, _, rfl, rfl, by simp⟩ (by kernel_rfl) (fun w v h => .inl h) (fun w => rfl)
    case o5 =>
      exact GdOp.left rfl ⟨_, _, rfl, rfl, by simp⟩ (by kernel_rfl) (fun w v h => .inl h) (fun w => rfl)
    case o6 =>
      exact GdOp.left rfl ⟨_, _, rfl, rfl, by simp⟩ (by kernel_rfl) (fun w v h => .inr h) (fun w => rfl)
    case o7 =>
      exact GdOp.left rfl ⟨_, _, rfl, rfl, by simp⟩ (by kernel_rfl) (fun w v h => .inr h) (fun w => rfl)
    case o8 =>
      exact GdOp.left rfl ⟨_, _, rfl, rfl, by simp⟩ (by kernel_rfl) (fun w v h => .inr h) (fun w => rfl)
    case o9 =>
      exact GdOp.left rfl ⟨_, _, rfl, rfl, by simp⟩ (by kernel_rfl) (fun w v h => .inr h) (fun w => rfl)
    case o10 =>
      exact GdOp.left rfl ⟨_, _, rfl, rfl, by simp⟩ (by kernel_rfl) (fun w v h => .inr h) (fun w => rfl)
    case o11 =>
      exact GdOp.left rfl ⟨_, _, rfl, rfl, by simp⟩ (by kernel_rfl) (fun w v h => .inl h) (fun w => rfl)
    case o12 =>
      exact GdOp.left rfl ⟨_, _, rfl, rfl, by simp⟩ (by kernel_rfl) (fun w v h => .inl h) (fun w => rfl)
    case o13 =>
      exact GdOp.left rfl ⟨_, _, rfl, rfl, by simp⟩ (by kernel_rfl) (fun w v h => .inr h) (fun w => rfl)
    case o14 =>
      exact GdOp.left rfl ⟨_, _, rfl, rfl, by simp⟩ (by kernel_rfl) (fun w v h => .inr h) (fun w => rfl)
    case o15 =>
      exact GdOp.left rfl ⟨_, _, rfl, rfl, by simp⟩ (by kernel_rfl) (fun w v h => .inr h) (fun w => rfl)
    case o16 =>
      exact GdOp.left rfl ⟨_, _, rfl, rfl, by simp⟩ (by kernel_rfl) (fun w v h => .inr h) (fun w => rfl)
    case o17 =>
      exact GdOp.left rfl ⟨_, _, rfl, rfl, by simp⟩ (by kernel_rfl) (fun w v h => .inr h) (fun w => rfl)
    case o18 =>
      exact GdOp.left rfl ⟨_, _, rfl, rfl, by simp⟩ (by kernel_rfl) (fun w v h => .inr h) (fun w => rfl)
    case o19 =>
      exact GdOp.left rfl ⟨_, _, rfl, rfl, by simp⟩ (by kernel_rfl) (fun w v h => .inr h) (fun w => rfl)
    case o20 =>
      exact GdOp.left rfl ⟨_, _, rfl, rfl, by simp⟩ (by kernel_rfl) (fun w v h => .inr h) (fun w => rfl)
    case o21 =>
      exact GdOp.left rfl ⟨_, _, rfl, rfl, by simp⟩ (by kernel_rfl) (fun w v h => .inl h) (fun w => rfl)
    case o22 =>
      refine GdOp.plain rfl (fun A vs w' hF hT hb hd => ?_)
      have e1 : A.eval (.tmp 78) = .bool true := (hT 78 2 (by simp) rfl).trans (hd ⟨2, .data⟩ (by simp) rfl)
      have e3 : A.eval (.tmp 97) = undef := (hT 97 21 (by simp) rfl).trans (hd ⟨21, .data⟩ (by simp) rfl)
      exact wp_pk rfl e1 (fun _ => rfl) (by simp) ⟨_, rfl, rfl, Below.refl _ _⟩
    case o23 =>
      refine GdOp.plain rfl (fun A vs w' hF hT hb hd => ?_)
      have e1 : A.eval (.tmp 98) = .bool true := (hT 98 22 (by simp) rfl).trans (hd ⟨22, .data⟩ (by simp) rfl)
      exact BigFrame.wp_assign _ rfl ⟨_, rfl, e1, Below.refl _ _⟩
    case fin =>
      intro vs w' hb hG
      have e0 : vs 0 = .int .i64 10 := hG 0 (by decide)
      have e1 : vs 1 = .bool true := hG 1 (by decide)
      have e2 : vs 2 = .bool true := hG 2 (by decide)
      have e3 : vs 3 = undef := hG 3 (by decide)
      have e4 : vs 4 = undef := hG 4 (by decide)
      have e5 : vs 5 = undef := hG 5 (by decide)
      have e6 : vs 6 = undef := hG 6 (by decide)
      have e7 : vs 7 = undef := hG 7 (by decide)
      have e8 : vs 8 = undef := hG 8 (by decide)
      have e9 : vs 9 = undef := hG 9 (by decide)
      have e10 : vs 10 = undef := hG 10 (by decide)
      have e11 : vs 11 = undef := hG 11 (by decide)
      have e12 : vs 12 = undef := hG 12 (by decide)
      have e13 : vs 13 = undef := hG 13 (by decide)
      have e14 : vs 14 = undef := hG 14 (by decide)
      have e15 : vs 15 = undef := hG 15 (by decide)
      have e16 : vs 16 = undef := hG 16 (by decide)
      have e17 : vs 17 = undef := hG 17 (by decide)
      have e18 : vs 18 = undef := hG 18 (by decide)
      have e19 : vs 19 = undef := hG 19 (by decide)
      have e20 : vs 20 = undef := hG 20 (by decide)
      have e21 : vs 21 = undef := hG 21 (by decide)
      have e22 : vs 22 = .bool true := hG 22 (by decide)
      have e23 : vs 23 = .bool true := hG 23 (by decide)
      simp only [putAll, e0, e1, e2, e3, e4, e5, e6, e7, e8, e9, e10, e11, e12, e13, e14, e15, e16, e17, e18, e19, e20, e21, e22, e23]
      clear hG e0 e1 e2 e3 e4 e5 e6 e7 e8 e9 e10 e11 e12 e13 e14 e15 e16 e17 e18 e19 e20 e21 e22 e23
      go_simp
      replace q := q.trans (hb.mono q.size)
      replace r7 := r7.below (hb.mono s7)
      replace r8 := r8.below (hb.mono s7)
      have rt := ht.below q
      have rx2 := hx.below q
      clear hb r9 hx ht
      go_wp2_with (first | (refine wpList_conv byP rfl rfl rfl r7 ?_) | (refine wpList_conv byP rfl rfl rfl r8 ?_) | (refine wpList_conv byP rfl rfl rfl rt ?_) | (refine wpList_conv byP rfl rfl rfl rx2 ?_))
      refine (size_nat _ _ (by omega) (by omega)).mono ?_
      rintro e w8 ⟨rfl, hb⟩
      rw [Int.toNat_natCast]
      go_wp2
      go_ret
      exact ⟨by simp, q.trans (hb.mono q.size)⟩
  · obtain ⟨hp1, hp2, hp3, _, hp5, _⟩ := takeN_some hn
    have hp := hp2 ▸ hp3
    rw [hs]
    clear HC hs hn
    go_wp2_with fail
    refine (number_nat _ _ (by omega) (by omega)).mono ?_
    rintro e w7 ⟨a7, c7, rfl, hF⟩
    rw [Int.toNat_natCast] at hF ⊢
    replace q := q.trans (hF.1.mono q.size)
    replace r7 := r7.below (hF.1.mono s5)
    replace r8 := r8.below (hF.1.mono s5)
    have s7 := Nat.le_trans s5 hF.1.size
    have r9 := hF.rd
    clear hF s5
    have rx := (hx.below q).mono q.size
    have hcap := rx.len.2.1
    have hle : (numB p).length ≤ xs.length := by rw [← hp2]; exact hp5
    have D : decide (((numB p).length : Int) ≤ xs.length) = true := by simp; omega
    have DD : decide (xs.take (numB p).length = numB p) = true := by rw [decide_eq_true_eq]; exact hp.symm
    have HP := Lib.hid hp
    clear hp hp2 hp3 hp5
    go_upto_region 11 with (fail)
    refine wp_region_gsg (by kernel_rfl) (by kernel_rfl) [sgEq (.int .i64 0), sgEq (.bool false), sgEq (.bool false), sgEq (.int .i64 0), sgEq (.bool true), sgEq (.bool true), sgEq (.slice a7 (numB p).length c7), sgEq (.int .i64 (numB p).length), sgEq (.slice a1 xs.length c1), sgEq (.int .i64 xs.length), sgEq (.bool true), sgEq (.bool true), sgEq (.bool true), sgEq (.slice a1 xs.length c1), sgEq (.slice a7 (numB p).length c7), sgEq (.int .i64 (numB p).length), sgRd (xs.take (numB p).length), sgEq (.string (strOf (xs.take (numB p).length))), sgEq (.slice a7 (numB p).length c7), sgEq (.string (strOf (numB p))), sgEq (.bool true), sgEq (.bool true), sgEq (.bool true), sgEq (.bool true)]
      ⟨?o0, ?o1, ?o2, ?o3, ?o4, ?o5, ?o6, ?o7, ?o8, ?o9, ?o10, ?o11, ?o12, ?o13, ?o14, ?o15, ?o16, ?o17, ?o18, ?o19, ?o20, ?o21, ?o22, ?o23, trivial⟩ ?fin
    case o0 =>
      refine GdOp.plain rfl (fun A vs w' hF hT hb hd => ?_)
      have e1 : A.eval (.tmp 21) = .int .i64 0 := hF 21 rfl
      exact BigFrame.wp_move _ rfl ⟨_, rfl, e1, Below.refl _ _⟩
    case o1 =>
      refine GdOp.plain rfl (fun A vs w' hF hT hb hd => ?_)
      have e1 : A.eval (.tmp 76) = .int .i64 0 := (hT 76 0 (by simp) rfl).trans (hd ⟨0, .data⟩ (by simp) rfl)
      exact wp_neqI rfl e1 rfl ⟨_, rfl, by simp; rfl, Below.refl _ _⟩
    case o2 =>
      refine GdOp.plain rfl (fun A vs w' hF hT hb hd => ?_)
      have e1 : A.eval (.tmp 77) = .bool false := (hT 77 1 (by simp) rfl).trans (hd ⟨1, .data⟩ (by simp) rfl)
      exact BigFrame.wp_move _ rfl ⟨_, rfl, e1, Below.refl _ _⟩
    case o3 =>
      refine GdOp.taken rfl ⟨_, _, rfl, rfl, by simp⟩ (by kernel_rfl) (fun w v h => h) (fun A vs w' hF hT hb hd => ?_)
      have e1 : A.eval (.tmp 23) = .int .i64 0 := hF 23 rfl
      exact BigFrame.wp_move _ rfl ⟨_, rfl, e1, Below.refl _ _⟩
    case o4 =>
      refine GdOp.taken rfl ⟨_, _, rfl, rfl, by simp⟩ (by kernel_rfl) (fun w v h => h) (fun A vs w' hF hT hb hd => ?_)
      have e1 : A.eval (.tmp 79) = .int .i64 0 := (hT 79 3 (by simp) rfl).trans (hd ⟨3, .data⟩ (by simp) rfl)
      exact wp_eqlI rfl e1 rfl ⟨_, rfl, by simp; rfl, Below.refl _ _⟩
    case o5 =>
      refine GdOp.taken rfl ⟨_, _, rfl, rfl, by simp⟩ (by kernel_rfl) (fun w v h => h) (fun A vs w' hF hT hb hd => ?_)
      have e1 : A.eval (.tmp 80) = .bool true := (hT 80 4 (by simp) rfl).trans (hd ⟨4, .data⟩ (by simp) rfl)
      exact BigFrame.wp_move _ rfl ⟨_, rfl, e1, Below.refl _ _⟩
    case o6 =>
      refine GdOp.taken rfl ⟨_, _, rfl, rfl, by simp⟩ (by kernel_rfl) (fun w v h => h) (fun A vs w' hF hT hb hd => ?_)
      have e1 : A.eval (.tmp 22) = .slice a7 (numB p).length c7 := hF 22 rfl
      exact BigFrame.wp_move _ rfl ⟨_, rfl, e1, Below.refl _ _⟩
    case o7 =>
      refine GdOp.taken rfl ⟨_, _, rfl, rfl, by simp⟩ (by kernel_rfl) (fun w v h => h) (fun A vs w' hF hT hb hd => ?_)
      have e1 : A.eval (.tmp 82) = .slice a7 (numB p).length c7 := (hT 82 6 (by simp) rfl).trans (hd ⟨6, .data⟩ (by simp) rfl)
      exact wp_lenS (e := 5) rfl (by kernel_rfl) e1 ⟨_, rfl, rfl, Below.refl _ _⟩
    case o8 =>
      refine GdOp.taken rfl ⟨_, _, rfl, rfl, by simp⟩ (by kernel_rfl) (fun w v h => h) (fun A vs w' hF hT hb hd => ?_)
      have e1 : A.eval (.tmp 2) = .slice a1 xs.length c1 := hF 2 rfl
      exact BigFrame.wp_move _ rfl ⟨_, rfl, e1, Below.refl _ _⟩
    case o9 =>
      refine GdOp.taken rfl ⟨_, _, rfl, rfl, by simp⟩ (by kernel_rfl) (fun w v h => h) (fun A vs w' hF hT hb hd => ?_)
      have e1 : A.eval (.tmp 84) = .slice a1 xs.length c1 := (hT 84 8 (by simp) rfl).trans (hd ⟨8, .data⟩ (by simp) rfl)
      exact wp_lenS (e := 5) rfl (by kernel_rfl) e1 ⟨_, rfl, rfl, Below.refl _ _⟩
    case o10 =>
      refine GdOp.taken rfl ⟨_, _, rfl, rfl, by simp⟩ (by kernel_rfl) (fun w v h => h) (fun A vs w' hF hT hb hd => ?_)
      have e1 : A.eval (.tmp 83) = .int .i64 (numB p).length := (hT 83 7 (by simp) rfl).trans (hd ⟨7, .data⟩ (by simp) rfl)
      have e2 : A.eval (.tmp 85) = .int .i64 xs.length := (hT 85 9 (by simp) rfl).trans (hd ⟨9, .data⟩ (by simp) rfl)
      exact wp_leqI rfl e1 e2 ⟨_, rfl, by rw [D]; rfl, Below.refl _ _⟩
    case o11 =>
      refine GdOp.taken rfl ⟨_, _, rfl, rfl, by simp⟩ (by kernel_rfl) (fun w v h => h) (fun A vs w' hF hT hb hd => ?_)
      have e1 : A.eval (.tmp 81) = .bool true := (hT 81 5 (by simp) rfl).trans (hd ⟨5, .data⟩ (by simp) rfl)
      have e2 : A.eval (.tmp 86) = .bool true := (hT 86 10 (by simp) rfl).trans (hd ⟨10, .data⟩ (by simp) rfl)
      exact wp_pk rfl e1 (fun _ => e2) (by simp) ⟨_, rfl, rfl, Below.refl _ _⟩
    case o12 =>
      refine GdOp.taken rfl ⟨_, _, rfl, rfl, by simp⟩ (by kernel_rfl) (fun w v h => h) (fun A vs w' hF hT hb hd => ?_)
      have e1 : A.eval (.tmp 87) = .bool true := (hT 87 11 (by simp) rfl).trans (hd ⟨11, .data⟩ (by simp) rfl)
      exact BigFrame.wp_move _ rfl ⟨_, rfl, e1, Below.refl _ _⟩
    case o13 =>
      refine GdOp.taken rfl ⟨_, _, rfl, rfl, by simp⟩ (by kernel_rfl) (fun w v h => h) (fun A vs w' hF hT hb hd => ?_)
      have e1 : A.eval (.tmp 2) = .slice a1 xs.length c1 := hF 2 rfl
      exact BigFrame.wp_move _ rfl ⟨_, rfl, e1, Below.refl _ _⟩
    case o14 =>
      refine GdOp.taken rfl ⟨_, _, rfl, rfl, by simp⟩ (by kernel_rfl) (fun w v h => h) (fun A vs w' hF hT hb hd => ?_)
      have e1 : A.eval (.tmp 22) = .slice a7 (numB p).length c7 := hF 22 rfl
      exact BigFrame.wp_move _ rfl ⟨_, rfl, e1, Below.refl _ _⟩
    case o15 =>
      refine GdOp.taken rfl ⟨_, _, rfl, rfl, by simp⟩ (by kernel_rfl) (fun w v h => h) (fun A vs w' hF hT hb hd => ?_)
      have e1 : A.eval (.tmp 90) = .slice a7 (numB p).length c7 := (hT 90 14 (by simp) rfl).trans (hd ⟨14, .data⟩ (by simp) rfl)
      exact wp_lenS (e := 5) rfl (by kernel_rfl) e1 ⟨_, rfl, rfl, Below.refl _ _⟩
    case o16 =>
      refine GdOp.taken rfl ⟨_, _, rfl, rfl, by simp⟩ (by kernel_rfl) (fun w v h => h) (fun A vs w' hF hT hb hd => ?_)
      have e1 : A.eval (.tmp 89) = .slice a1 xs.length c1 := (hT 89 13 (by simp) rfl).trans (hd ⟨13, .data⟩ (by simp) rfl)
      have e2 : A.eval (.tmp 91) = .int .i64 (numB p).length := (hT 91 15 (by simp) rfl).trans (hd ⟨15, .data⟩ (by simp) rfl)
      exact wp_slice byP rfl e1 (rx.below hb) rfl (by simp [e2]) (run_bounds_h' _ (h := (numB p).length) rfl (by omega)) (fun ad3 k3 c3 h3 => ⟨_, rfl, ⟨_, _, _, rfl, by simpa using h3.mono hb.size⟩, Below.refl _ _⟩) (by omega) (by omega)
    case o17 =>
      refine GdOp.taken rfl ⟨_, _, rfl, rfl, by simp⟩ (by kernel_rfl) (fun w v h => h) (fun A vs w' hF hT hb hd => ?_)
      obtain ⟨ad1, kk1, cc1, qq1, hr1⟩ := hd ⟨16, .data⟩ (by simp) rfl
      have e1 : A.eval (.tmp 92) = .slice ad1 kk1 cc1 := (hT 92 16 (by simp) rfl).trans qq1
      exact wp_conv byP rfl e1 hr1 ⟨_, rfl, rfl, Below.refl _ _⟩
    case o18 =>
      refine GdOp.taken rfl ⟨_, _, rfl, rfl, by simp⟩ (by kernel_rfl) (fun w v h => h) (fun A vs w' hF hT hb hd => ?_)
      have e1 : A.eval (.tmp 22) = .slice a7 (numB p).length c7 := hF 22 rfl
      exact BigFrame.wp_move _ rfl ⟨_, rfl, e1, Below.refl _ _⟩
    case o19 =>
      refine GdOp.taken rfl ⟨_, _, rfl, rfl, by simp⟩ (by kernel_rfl) (fun w v h => h) (fun A vs w' hF hT hb hd => ?_)
      have e1 : A.eval (.tmp 94) = .slice a7 (numB p).length c7 := (hT 94 18 (by simp) rfl).trans (hd ⟨18, .data⟩ (by simp) rfl)
      exact wp_conv byP rfl e1 (r9.below hb) ⟨_, rfl, rfl, Below.refl _ _⟩
    case o20 =>
      refine GdOp.taken rfl ⟨_, _, rfl, rfl, by simp⟩ (by kernel_rfl) (fun w v h => h) (fun A vs w' hF hT hb hd => ?_)
      have e1 : A.eval (.tmp 93) = .string (strOf (xs.take (numB p).length)) := (hT 93 17 (by simp) rfl).trans (hd ⟨17, .data⟩ (by simp) rfl)
      have e2 : A.eval (.tmp 95) = .string (strOf (numB p)) := (hT 95 19 (by simp) rfl).trans (hd ⟨19, .data⟩ (by simp) rfl)
      exact wp_eqlS rfl e1 e2 ⟨_, rfl, by rw [DD]; rfl, Below.refl _ _⟩
    case o21 =>
      refine GdOp.taken rfl ⟨_, _, rfl, rfl, by simp⟩ (by kernel_rfl) (fun w v h => h) (fun A vs w' hF hT hb hd => ?_)
      have e1 : A.eval (.tmp 88) = .bool true := (hT 88 12 (by simp) rfl).trans (hd ⟨12, .data⟩ (by simp) rfl)
      have e2 : A.eval (.tmp 96) = .bool true := (hT 96 20 (by simp) rfl).trans (hd ⟨20, .data⟩ (by simp) rfl)
      exact wp_pk rfl e1 (fun _ => e2) (by simp) ⟨_, rfl, rfl, Below.refl _ _⟩
    case o22 =>
      refine GdOp.plain rfl (fun A vs w' hF hT hb hd => ?_)
      have e1 : A.eval (.tmp 78) = .bool false := (hT 78 2 (by simp) rfl).trans (hd ⟨2, .data⟩ (by simp) rfl)
      have e3 : A.eval (.tmp 97) = .bool true := (hT 97 21 (by simp) rfl).trans (hd ⟨21, .data⟩ (by simp) rfl)
      exact wp_pk rfl e1 (by simp) (fun _ => e3) ⟨_, rfl, rfl, Below.refl _ _⟩
    case o23 =>
      refine GdOp.plain rfl (fun A vs w' hF hT hb hd => ?_)
      have e1 : A.eval (.tmp 98) = .bool true := (hT 98 22 (by simp) rfl).trans (hd ⟨22, .data⟩ (by simp) rfl)
      exact BigFrame.wp_assign _ rfl ⟨_, rfl, e1, Below.refl _ _⟩
    case fin =>
      intro vs w' hb hG
      have e0 : vs 0 = .int .i64 0 := hG 0 (by decide)
      have e1 : vs 1 = .bool false := hG 1 (by decide)
      have e2 : vs 2 = .bool false := hG 2 (by decide)
      have e3 : vs 3 = .int .i64 0 := hG 3 (by decide)
      have e4 : vs 4 = .bool true := hG 4 (by decide)
      have e5 : vs 5 = .bool true := hG 5 (by decide)
      have e6 : vs 6 = .slice a7 (numB p).length c7 := hG 6 (by decide)
      have e7 : vs 7 = .int .i64 (numB p).length := hG 7 (by decide)
      have e8 : vs 8 = .slice a1 xs.length c1 := hG 8 (by decide)
      have e9 : vs 9 = .int .i64 xs.length := hG 9 (by decide)
      have e10 : vs 10 = .bool true := hG 10 (by decide)
      have e11 : vs 11 = .bool true := hG 11 (by decide)
      have e12 : vs 12 = .bool true := hG 12 (by decide)
      have e13 : vs 13 = .slice a1 xs.length c1 := hG 13 (by decide)
      have e14 : vs 14 = .slice a7 (numB p).length c7 := hG 14 (by decide)
      have e15 : vs 15 = .int .i64 (numB p).length := hG 15 (by decide)
      have e17 : vs 17 = .string (strOf (xs.take (numB p).length)) := hG 17 (by decide)
      have e18 : vs 18 = .slice a7 (numB p).length c7 := hG 18 (by decide)
      have e19 : vs 19 = .string (strOf (numB p)) := hG 19 (by decide)
      have e20 : vs 20 = .bool true := hG 20 (by decide)
      have e21 : vs 21 = .bool true := hG 21 (by decide)
      have e22 : vs 22 = .bool true := hG 22 (by decide)
      have e23 : vs 23 = .bool true := hG 23 (by decide)
      simp only [putAll, e0, e1, e2, e3, e4, e5, e6, e7, e8, e9, e10, e11, e12, e13, e14, e15, e17, e18, e19, e20, e21, e22, e23]
      clear hG e0 e1 e2 e3 e4 e5 e6 e7 e8 e9 e10 e11 e12 e13 e14 e15 e17 e18 e19 e20 e21 e22 e23
      go_simp
      replace q := q.trans (hb.mono q.size)
      replace r7 := r7.below (hb.mono s7)
      replace r8 := r8.below (hb.mono s7)
      have rt := ht.below q
      have rx2 := hx.below q
      clear hb r9 hx ht rx
      go_wp2_with (first | (refine wpList_conv byP rfl rfl rfl r7 ?_) | (refine wpList_conv byP rfl rfl rfl r8 ?_) | (refine wpList_conv byP rfl rfl rfl rt ?_) | (refine wpList_conv byP rfl rfl rfl rx2 ?_))
      refine (size_nat _ _ (by omega) (by omega)).mono ?_
      rintro e w8 ⟨rfl, hb⟩
      rw [Int.toNat_natCast]
      go_wp2
      go_ret
      exact ⟨by simp, q.trans (hb.mono q.size)⟩
end Go.Proofs.Ytekimaaifckehaa
