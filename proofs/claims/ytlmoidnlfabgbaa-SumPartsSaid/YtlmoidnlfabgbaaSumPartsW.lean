/-
  THE WALK OF SumParts: whatever the pieces: true, and nothing that lay has turned.
-/
import Derived.WalkKit
import Derived.WalkSpells
import Derived.WalkLawsBesides
import Derived.Lib.Hide
import Derived.Shelf.Abstract
import Derived.Deep.Cut
import Derived.Test.YtlmoidnlfabgbaaProg
import Derived.Test.YtlmoidnlfabgbaaByte
import Derived.Test.YtlmoidnlfabgbaaSumM
import Derived.Test.YtlmoidnlfabgbaaSumA
import Derived.Test.YtlmoidnlfabgbaaSumB
import Derived.Test.YtlmoidnlfabgbaaSumC
import Derived.Test.YtlmoidnlfabgbaaSumJoinsW
import Derived.Test.YtlmoidnlfabgbaaMat
import Derived.Test.YtlmoidnlfabgbaaGuard
import Derived.Test.YtlmoidnlfabgbaaOps
namespace Go.Proofs.Ytlmoidnlfabgbaa
open Go.RowKit Go.Shelf
/-- Pieces, one behind the other. -/
def flat (l : List (List UInt8)) : List UInt8 := l.flatten
theorem flat_snoc (xss : List (List UInt8)) (k : Nat) (h : k < xss.length) : flat (xss.take (k + 1)) = flat (xss.take k) ++ xss[k] := by
  unfold flat; rw [take_snoc xss k h, List.flatten_append]; simp
set_option maxRecDepth 100000 in
set_option maxHeartbeats 2000000 in
theorem SumParts_w (w : World) {a0 : Option Addr} {n0 c0 : Nat} {xss : List (List UInt8)} (hx : RdRows w (.slice a0 n0 c0) xss) :
    Calls Try.prog 6 #[.slice a0 n0 c0] w fun e w' => e = .returned (.bool true) ∧ Below w.heap.size w w' := by
  obtain rfl : n0 = xss.length := hx.len.1
  by_cases h : 20 < xss.length
  · have d : decide ((20 : Int) < xss.length) = true := by simp; omega
    go_enter Try.func6, Try.ntmps6
    go_wp2_with fail
    refine (awake_any _).mono ?_
    rintro e w1 ⟨rfl, hb⟩
    go_wp2
    go_ret
    exact ⟨rfl, hb⟩
  have d1 : decide ((20 : Int) < xss.length) = false := by simp; omega
  have l1 : xss.length ≤ 20 := by omega
  clear h
  have es : ∀ args w, (callFunc 12 args).run Try.prog w = .ok (.enter 12 args) w := enters_of Try.func12 (by kernel_rfl) rfl
  have ej : ∀ args w, (callFunc 10 args).run Try.prog w = .ok (.enter 10 args) w := enters_of Try.func10 (by kernel_rfl) rfl
  have ES := Lib.hid es
  have EJ := Lib.hid ej
  clear es ej
  go_enter Try.func6, Try.ntmps6
  go_wp2_with fail
  refine (awake_any _).mono ?_
  rintro e w1 ⟨rfl, q1⟩
  go_wp2_with fail
  refine (sum_nil _).mono ?_
  rintro e w2 ⟨rfl, hb⟩
  have q2 := q1.trans (hb.mono q1.size)
  clear hb q1
  go_wp2
  go_loopw [4, 5, 6] (fun al s i wr => ∃ (k : Nat) (ad : Option Addr) (m cq : Nat), k ≤ xss.length ∧ i = .int .i64 k ∧ s = .int .u32 (sumT (flat (xss.take k))) ∧ al = .slice ad m cq ∧ Own 5 w.heap.size wr (.slice ad m cq) (flat (xss.take k)) ∧ (flat (xss.take k)).length ≤ k * 300 ∧ Below w.heap.size w wr)
    (fun _ _ i _ => xss.length - (intOf i).toNat)
  case atStart => exact ⟨0, none, 0, 0, Nat.zero_le _, rfl, rfl, rfl, Own.nil _ _ _, by simp [flat], q2⟩
  case round =>
    obtain ⟨k, ad, m, cq, hk, rfl, rfl, rfl, hown, hlen, q⟩ := hrel
    have hk' : k ≤ xss.length := hk
    rcases Nat.lt_or_ge k xss.length with hlt | hlt
    · obtain ⟨b, off, A0, L0, C0, rfl, hbl, hcell, hrk⟩ := hx.at q k hlt
      have hL := hrk.len
      have HL := Lib.hid hL.1
      replace hrk := hrk.mono q.size
      have hbl := Nat.lt_of_lt_of_le hbl q.size
      by_cases hbig : 300 < L0
      · have d2 : decide ((300 : Int) < L0) = true := by simp; omega
        clear hL
        go_wp2
        go_ret
        exact ⟨rfl, q⟩
      have d2 : decide ((300 : Int) < L0) = false := by simp; omega
      have l2 : xss[k].length ≤ 300 := by omega
      clear hL hbig
      go_upto_region 11 with (fail)
      have es := ES.out
      have ej := EJ.out
      refine wp_region_gsg (by kernel_rfl) (by kernel_rfl) [sgEq (.int .u32 (sumT (flat (xss.take k)))), sgEq (.slice (some ⟨b, off, none⟩) xss.length c0), sgEq (.int .i64 (k : Nat)), sgEq (.pointer (some ⟨b, off + k, none⟩)), sgEq (.slice A0 L0 C0), sgEq (.int .u32 (sumT xss[k])), sgEq (.slice (some ⟨b, off, none⟩) xss.length c0), sgEq (.int .i64 (k : Nat)), sgEq (.pointer (some ⟨b, off + k, none⟩)), sgEq (.slice A0 L0 C0), sgEq (.int .i64 L0), sgEq (.tuple #[.int .u32 (sumT (flat (xss.take k) ++ xss[k])), .int .i64 0]), sgEq (.tuple #[.int .u32 (sumT (flat (xss.take k) ++ xss[k])), .int .i64 0]), sgEq (.int .u32 (sumT (flat (xss.take k) ++ xss[k]))), sgEq (.int .i64 0), sgEq (.int .u32 (sumT (flat (xss.take k) ++ xss[k]))), sgEq (.int .i64 0)]
        ⟨?o0, ?o1, ?o2, ?o3, ?o4, ?o5, ?o6, ?o7, ?o8, ?o9, ?o10, ?o11, ?o12, ?o13, ?o14, ?o15, ?o16, trivial⟩ ?fin
      case o0 =>
        refine GdOp.plain rfl (fun A vs w' hF hT hb hd => ?_)
        have e1 : A.eval (.tmp 5) = .int .u32 (sumT (flat (xss.take k))) := hF 5 rfl
        exact BigFrame.wp_move _ rfl ⟨_, rfl, e1, Below.refl _ _⟩
      case o1 =>
        refine GdOp.plain rfl (fun A vs w' hF hT hb hd => ?_)
        have e1 : A.eval (.tmp 0) = .slice (some ⟨b, off, none⟩) xss.length c0 := hF 0 rfl
        exact BigFrame.wp_move _ rfl ⟨_, rfl, e1, Below.refl _ _⟩
      case o2 =>
        refine GdOp.plain rfl (fun A vs w' hF hT hb hd => ?_)
        have e1 : A.eval (.tmp 6) = .int .i64 (k : Nat) := hF 6 rfl
        exact BigFrame.wp_move _ rfl ⟨_, rfl, e1, Below.refl _ _⟩
      case o3 =>
        refine GdOp.plain rfl (fun A vs w' hF hT hb hd => ?_)
        have e1 : A.eval (.tmp 30) = .slice (some ⟨b, off, none⟩) xss.length c0 := (hT 30 1 (by simp) rfl).trans (hd ⟨1, .data⟩ (by simp) rfl)
        have e2 : A.eval (.tmp 31) = .int .i64 (k : Nat) := (hT 31 2 (by simp) rfl).trans (hd ⟨2, .data⟩ (by simp) rfl)
        exact wp_ix (e := 22) rfl (by kernel_rfl) (by kernel_rfl) e1 e2 rfl hlt ⟨_, rfl, rfl, Below.refl _ _⟩
      case o4 =>
        refine GdOp.plain rfl (fun A vs w' hF hT hb hd => ?_)
        have e1 : A.eval (.tmp 32) = .pointer (some ⟨b, off + k, none⟩) := (hT 32 3 (by simp) rfl).trans (hd ⟨3, .data⟩ (by simp) rfl)
        exact wp_ld_slice (e := 5) rfl e1 (by kernel_rfl) ((hb.cell (p := ⟨b, off + k, none⟩) hbl).trans hcell) ⟨_, rfl, rfl, Below.refl _ _⟩
      case o5 =>
        refine GdOp.plain rfl (fun A vs w' hF hT hb hd => ?_)
        have e1 : A.eval (.tmp 33) = .slice A0 L0 C0 := (hT 33 4 (by simp) rfl).trans (hd ⟨4, .data⟩ (by simp) rfl)
        refine wp_callFn rfl es (args := #[.slice A0 L0 C0]) (by simp [e1]) ((sum_any _ _ hb.size (hrk.below hb)).mono ?_)
        rintro e w2 ⟨rfl, hb2⟩
        exact ⟨_, rfl, _, rfl, rfl, hb2⟩
      case o6 =>
        refine GdOp.plain rfl (fun A vs w' hF hT hb hd => ?_)
        have e1 : A.eval (.tmp 0) = .slice (some ⟨b, off, none⟩) xss.length c0 := hF 0 rfl
        exact BigFrame.wp_move _ rfl ⟨_, rfl, e1, Below.refl _ _⟩
      case o7 =>
        refine GdOp.plain rfl (fun A vs w' hF hT hb hd => ?_)
        have e1 : A.eval (.tmp 6) = .int .i64 (k : Nat) := hF 6 rfl
        exact BigFrame.wp_move _ rfl ⟨_, rfl, e1, Below.refl _ _⟩
      case o8 =>
        refine GdOp.plain rfl (fun A vs w' hF hT hb hd => ?_)
        have e1 : A.eval (.tmp 35) = .slice (some ⟨b, off, none⟩) xss.length c0 := (hT 35 6 (by simp) rfl).trans (hd ⟨6, .data⟩ (by simp) rfl)
        have e2 : A.eval (.tmp 36) = .int .i64 (k : Nat) := (hT 36 7 (by simp) rfl).trans (hd ⟨7, .data⟩ (by simp) rfl)
        exact wp_ix (e := 22) rfl (by kernel_rfl) (by kernel_rfl) e1 e2 rfl hlt ⟨_, rfl, rfl, Below.refl _ _⟩
      case o9 =>
        refine GdOp.plain rfl (fun A vs w' hF hT hb hd => ?_)
        have e1 : A.eval (.tmp 37) = .pointer (some ⟨b, off + k, none⟩) := (hT 37 8 (by simp) rfl).trans (hd ⟨8, .data⟩ (by simp) rfl)
        exact wp_ld_slice (e := 5) rfl e1 (by kernel_rfl) ((hb.cell (p := ⟨b, off + k, none⟩) hbl).trans hcell) ⟨_, rfl, rfl, Below.refl _ _⟩
      case o10 =>
        refine GdOp.plain rfl (fun A vs w' hF hT hb hd => ?_)
        have e1 : A.eval (.tmp 38) = .slice A0 L0 C0 := (hT 38 9 (by simp) rfl).trans (hd ⟨9, .data⟩ (by simp) rfl)
        exact wp_lenS (e := 5) rfl (by kernel_rfl) e1 ⟨_, rfl, rfl, Below.refl _ _⟩
      case o11 =>
        refine GdOp.plain rfl (fun A vs w' hF hT hb hd => ?_)
        have e1 : A.eval (.tmp 29) = .int .u32 (sumT (flat (xss.take k))) := (hT 29 0 (by simp) rfl).trans (hd ⟨0, .data⟩ (by simp) rfl)
        have e2 : A.eval (.tmp 34) = .int .u32 (sumT xss[k]) := (hT 34 5 (by simp) rfl).trans (hd ⟨5, .data⟩ (by simp) rfl)
        have e3 : A.eval (.tmp 39) = .int .i64 L0 := (hT 39 10 (by simp) rfl).trans (hd ⟨10, .data⟩ (by simp) rfl)
        refine wp_callFn rfl ej (args := #[.int .u32 (sumT (flat (xss.take k))), .int .u32 (sumT xss[k]), .int .i64 L0]) (by simp [e1, e2, e3]) ?_
        rw [HL.out]
        refine (join_sums _ _ _ (by omega)).mono ?_
        rintro e w2 ⟨rfl, hb2⟩
        exact ⟨_, rfl, _, rfl, rfl, hb2⟩
      case o12 =>
        refine GdOp.plain rfl (fun A vs w' hF hT hb hd => ?_)
        have e1 : A.eval (.tmp 40) = .tuple #[.int .u32 (sumT (flat (xss.take k) ++ xss[k])), .int .i64 0] := (hT 40 11 (by simp) rfl).trans (hd ⟨11, .data⟩ (by simp) rfl)
        exact BigFrame.wp_move _ rfl ⟨_, rfl, e1, Below.refl _ _⟩
      case o13 =>
        refine GdOp.plain rfl (fun A vs w' hF hT hb hd => ?_)
        have e1 : A.eval (.tmp 28) = .tuple #[.int .u32 (sumT (flat (xss.take k) ++ xss[k])), .int .i64 0] := (hT 28 12 (by simp) rfl).trans (hd ⟨12, .data⟩ (by simp) rfl)
        exact wp_ex rfl e1 rfl ⟨_, rfl, rfl, Below.refl _ _⟩
      case o14 =>
        refine GdOp.plain rfl (fun A vs w' hF hT hb hd => ?_)
        have e1 : A.eval (.tmp 28) = .tuple #[.int .u32 (sumT (flat (xss.take k) ++ xss[k])), .int .i64 0] := (hT 28 12 (by simp) rfl).trans (hd ⟨12, .data⟩ (by simp) rfl)
        exact wp_ex rfl e1 rfl ⟨_, rfl, rfl, Below.refl _ _⟩
      case o15 =>
        refine GdOp.plain rfl (fun A vs w' hF hT hb hd => ?_)
        have e1 : A.eval (.tmp 41) = .int .u32 (sumT (flat (xss.take k) ++ xss[k])) := (hT 41 13 (by simp) rfl).trans (hd ⟨13, .data⟩ (by simp) rfl)
        exact BigFrame.wp_assign _ rfl ⟨_, rfl, e1, Below.refl _ _⟩
      case o16 =>
        refine GdOp.plain rfl (fun A vs w' hF hT hb hd => ?_)
        have e1 : A.eval (.tmp 42) = .int .i64 0 := (hT 42 14 (by simp) rfl).trans (hd ⟨14, .data⟩ (by simp) rfl)
        exact BigFrame.wp_assign _ rfl ⟨_, rfl, e1, Below.refl _ _⟩
      case fin =>
        intro vs w' hb hG
        have e0 : vs 0 = .int .u32 (sumT (flat (xss.take k))) := hG 0 (by decide)
        have e1 : vs 1 = .slice (some ⟨b, off, none⟩) xss.length c0 := hG 1 (by decide)
        have e2 : vs 2 = .int .i64 (k : Nat) := hG 2 (by decide)
        have e3 : vs 3 = .pointer (some ⟨b, off + k, none⟩) := hG 3 (by decide)
        have e4 : vs 4 = .slice A0 L0 C0 := hG 4 (by decide)
        have e5 : vs 5 = .int .u32 (sumT xss[k]) := hG 5 (by decide)
        have e6 : vs 6 = .slice (some ⟨b, off, none⟩) xss.length c0 := hG 6 (by decide)
        have e7 : vs 7 = .int .i64 (k : Nat) := hG 7 (by decide)
        have e8 : vs 8 = .pointer (some ⟨b, off + k, none⟩) := hG 8 (by decide)
        have e9 : vs 9 = .slice A0 L0 C0 := hG 9 (by decide)
        have e10 : vs 10 = .int .i64 L0 := hG 10 (by decide)
        have e11 : vs 11 = .tuple #[.int .u32 (sumT (flat (xss.take k) ++ xss[k])), .int .i64 0] := hG 11 (by decide)
        have e12 : vs 12 = .tuple #[.int .u32 (sumT (flat (xss.take k) ++ xss[k])), .int .i64 0] := hG 12 (by decide)
        have e13 : vs 13 = .int .u32 (sumT (flat (xss.take k) ++ xss[k])) := hG 13 (by decide)
        have e14 : vs 14 = .int .i64 0 := hG 14 (by decide)
        have e15 : vs 15 = .int .u32 (sumT (flat (xss.take k) ++ xss[k])) := hG 15 (by decide)
        have e16 : vs 16 = .int .i64 0 := hG 16 (by decide)
        simp only [putAll, e0, e1, e2, e3, e4, e5, e6, e7, e8, e9, e10, e11, e12, e13, e14, e15, e16]
        clear hG e0 e1 e2 e3 e4 e5 e6 e7 e8 e9 e10 e11 e12 e13 e14 e15 e16
        have hcell' := (hb.cell (p := ⟨b, off + k, none⟩) hbl).trans hcell
        have hrk' := hrk.below hb
        have hown' := hown.below hb
        have q' := q.trans (hb.mono q.size)
        have HF := Lib.hid (flat_snoc xss k hlt)
        have l3 : L0 ≤ 300 := by rw [HL.out]; exact l2
        clear hcell hrk hown hb q es ej q2
        go_wp2_with (at_builtin; refine wpList_append byP rfl rfl rfl hown' rfl hrk' q'.size ?_ ?hl; intro ad2 m2 cq2 w3 hO3 hg3 hb3)
        case hl => omega
        rw [← HF.out] at hO3 ⊢
        go_roundw
        case rel => exact ⟨k + 1, ad2, m2, cq2, by omega, by go_num, rfl, rfl, hO3, by rw [HF.out, List.length_append]; omega, q'.trans hb3⟩
        case measure => simp [intOf]; omega
    · have hkn : k = xss.length := by omega
      subst hkn
      rw [List.take_length] at hown
      have hr := hown.rd
      simp only [List.take_length]
      go_wp2_with fail
      refine (sum_any _ _ (Nat.le_refl _) hr).mono ?_
      rintro e w3 ⟨rfl, hb⟩
      go_wp2
      go_ret
      exact ⟨by simp, q.trans (hb.mono q.size)⟩
end Go.Proofs.Ytlmoidnlfabgbaa
