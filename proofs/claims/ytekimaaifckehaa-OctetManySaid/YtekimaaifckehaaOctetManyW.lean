/-
  THE WALK OF OctetMany: whatever the texts: true, and nothing that lay has turned.
-/
import Derived.WalkKit
import Derived.WalkSpells
import Derived.WalkLawsBesides
import Derived.Lib.Hide
import Derived.Shelf.Abstract
import Derived.Deep.Cut
import Derived.Test.YtekimaaifckehaaProg
import Derived.Test.YtekimaaifckehaaNum
import Derived.Test.YtekimaaifckehaaByte
import Derived.Test.YtekimaaifckehaaOctA
import Derived.Test.YtekimaaifckehaaOctE
import Derived.Test.YtekimaaifckehaaOctF
import Derived.Test.YtekimaaifckehaaOctG
import Derived.Test.YtekimaaifckehaaOctM
import Derived.Test.YtekimaaifckehaaMat
import Derived.Test.YtekimaaifckehaaMake
import Derived.Test.YtekimaaifckehaaGuard
import Derived.Test.YtekimaaifckehaaOps
namespace Go.Proofs.Ytekimaaifckehaa
open Go.RowKit Go.Shelf
/-- Texts, written one behind the other. -/
def texts (l : List (List UInt8)) : List UInt8 := (l.map textB).flatten
theorem texts_snoc (xss : List (List UInt8)) (k : Nat) (h : k < xss.length) : texts (xss.take (k + 1)) = texts (xss.take k) ++ textB xss[k] := by
  unfold texts; rw [List.take_succ_eq_append_getElem h, List.map_append, List.flatten_append]; simp
theorem texts_drop (xss : List (List UInt8)) (k : Nat) (h : k < xss.length) : texts (xss.drop k) = textB xss[k] ++ texts (xss.drop (k + 1)) := by
  unfold texts; rw [List.drop_eq_getElem_cons h, List.map_cons, List.flatten_cons]
theorem texts_drop_le (xss : List (List UInt8)) (k : Nat) : (texts (xss.drop k)).length ≤ (texts xss).length := by
  have h : texts xss = texts (xss.take k) ++ texts (xss.drop k) := by
    unfold texts; rw [← List.flatten_append, ← List.map_append, List.take_append_drop]
  rw [h, List.length_append]; omega
/-- The first k of them are not long. -/
def Short (xss : List (List UInt8)) (k : Nat) : Prop := ∀ j (h : j < xss.length), j < k → xss[j].length ≤ 300
theorem Short.next {xss : List (List UInt8)} {k : Nat} (h : Short xss k) (hk : k < xss.length) (hl : xss[k].length ≤ 300) : Short xss (k + 1) := by
  intro j hj hjk
  by_cases e : j = k
  · subst e; exact hl
  · exact h j hj (by omega)
set_option maxRecDepth 100000 in
set_option maxHeartbeats 4000000 in
theorem OctetMany_w (w : World) {a0 : Option Addr} {n0 c0 : Nat} {xss : List (List UInt8)} (hx : RdRows w (.slice a0 n0 c0) xss) :
    Calls Try.prog 7 #[.slice a0 n0 c0] w fun e w' => e = .returned (.bool true) ∧ Below w.heap.size w w' := by
  obtain rfl : n0 = xss.length := hx.len.1
  by_cases h : 20 < xss.length
  · have d : decide ((20 : Int) < xss.length) = true := by simp; omega
    go_enter Try.func7, Try.ntmps7
    go_wp2_with fail
    refine (awake_any _).mono ?_
    rintro e w1 ⟨rfl, hb⟩
    go_wp2
    go_ret
    exact ⟨rfl, hb⟩
  have d1 : decide ((20 : Int) < xss.length) = false := by simp; omega
  have l1 : xss.length ≤ 20 := by omega
  clear h
  go_enter Try.func7, Try.ntmps7
  go_wp2_with fail
  refine (awake_any _).mono ?_
  rintro e w1 ⟨rfl, q1⟩
  go_wp2
  go_loopw [4, 5] (fun al i wr => ∃ (k : Nat) (ad : Option Addr) (m cq : Nat), k ≤ xss.length ∧ i = .int .i64 k ∧ al = .slice ad m cq ∧ Rd wr.heap.size wr (.slice ad m cq) (texts (xss.take k)) ∧ (texts (xss.take k)).length ≤ k * 305 ∧ Short xss k ∧ Below w.heap.size w wr)
    (fun _ i _ => xss.length - (intOf i).toNat)
  case atStart => exact ⟨0, none, 0, 0, Nat.zero_le _, rfl, rfl, Rd.nil _ _, by simp [texts], (fun j _ h => absurd h (Nat.not_lt_zero _)), q1⟩
  case round =>
    obtain ⟨k, ad, m, cq, hk, rfl, rfl, hown, hlen, hsh, q⟩ := hrel
    have hk' : k ≤ xss.length := hk
    have HS := Lib.hid hsh
    clear hsh
    rcases Nat.lt_or_ge k xss.length with hlt | hlt
    · obtain ⟨b, off, A0, L0, C0, rfl, hbl, hcell, hrk⟩ := hx.at q k hlt
      have hL := hrk.len
      have HL := Lib.hid hL.1
      by_cases hbig : 300 < L0
      · have d2 : decide ((300 : Int) < L0) = true := by simp; omega
        clear hL
        go_wp2
        go_ret
        exact ⟨rfl, q⟩
      have d2 : decide ((300 : Int) < L0) = false := by simp; omega
      have l2 : xss[k].length ≤ 300 := by omega
      clear hL hbig
      have HT := Lib.hid (texts_snoc xss k hlt)
      have lt := (textB_len xss[k] (by omega)).1
      go_wp2_with fail
      refine (text_yes _ hown (hrk.mono q.size) (Nat.le_refl _) (by omega) (by omega)).mono ?_
      rintro e w2 ⟨a2, k2, c2, rfl, hF⟩
      rw [← HT.out] at hF
      have q2 := q.trans (hF.1.mono q.size)
      have r2 := hF.rd
      clear hF hown hrk hcell q
      go_wp2
      go_roundw
      case rel => exact ⟨k + 1, a2, k2, c2, by omega, by go_num, rfl, r2, by rw [HT.out, List.length_append]; omega, HS.out.next hlt l2, q2⟩
      case measure => simp [intOf]; omega
    · have hkn : k = xss.length := by omega
      subst hkn
      rw [List.take_length] at hown hlen
      have hdl := Lib.hid (texts_drop_le xss)
      have q0 := q
      have hs0 := q.size
      clear q1 hk hk'
      go_wp2
      go_loopw [4, 8] (fun al i wx => ∃ (k : Nat) (ad : Option Addr) (m cq : Nat), k ≤ xss.length ∧ i = .int .i64 k ∧ al = .slice ad m cq ∧ Rd wx.heap.size wx (.slice ad m cq) (texts (xss.drop k)) ∧ Below w.heap.size w wx)
        (fun _ i _ => xss.length - (intOf i).toNat)
      case atStart => exact ⟨0, _, _, _, Nat.zero_le _, rfl, rfl, hown, q⟩
      case round =>
        clear hown q q0
        obtain ⟨k, ad, m, cq, hk, rfl, rfl, hown, q⟩ := hrel
        have hk' : k ≤ xss.length := hk
        rcases Nat.lt_or_ge k xss.length with hlt | hlt2
        · obtain ⟨b, off, A0, L0, C0, rfl, hbl, hcell, hrk⟩ := hx.at q k hlt
          have l2 := HS.out k hlt hlt
          have hd := hdl.out k
          have HD := Lib.hid (texts_drop xss k hlt)
          have HT := Lib.hid (takeTextS_textB xss[k] (texts (xss.drop (k + 1))) (by omega))
          rw [HD.out] at hown hd
          go_wp2_with fail
          refine (takeText_any _ hown (Nat.le_refl _) (by omega)).mono ?_
          rintro e w2 ⟨a5, m5, c5, b6, m6, c6, rfl, hF, hG⟩
          rw [HT.out] at hF hG
          simp only [HT.out]
          have r5 := hF.rd
          have r6 := hG.rd
          replace hcell := (hF.1.cell (p := ⟨b, off + k, none⟩) (Nat.lt_of_lt_of_le hbl q.size)).trans hcell
          replace hrk := ((hrk.mono q.size).below hF.1).mono hF.1.size
          have hbl := Nat.lt_of_lt_of_le hbl (Nat.le_trans q.size hF.1.size)
          have hs1 := hF.1.size
          replace q := q.trans (hF.1.mono q.size)
          clear hF hG hown hd
          go_upto_region 18 with (fail)
          refine wp_region_gsg (by kernel_rfl) (by kernel_rfl) [sgEq (.int .i64 0), sgEq (.bool false), sgEq (.bool false), sgEq (.slice a5 m5 c5), sgEq (.string (strOf xss[k])), sgEq (.slice (some ⟨b, off, none⟩) xss.length c0), sgEq (.int .i64 (k : Nat)), sgEq (.pointer (some ⟨b, off + k, none⟩)), sgEq (.slice A0 L0 C0), sgEq (.string (strOf xss[k])), sgEq (.bool false), sgEq (.bool false)]
            ⟨?o0, ?o1, ?o2, ?o3, ?o4, ?o5, ?o6, ?o7, ?o8, ?o9, ?o10, ?o11, trivial⟩ ?fin
          case o0 =>
            refine GdOp.plain rfl (fun A vs w' hF hT hb hd => ?_)
            have e1 : A.eval (.tmp 11) = .int .i64 0 := hF 11 rfl
            exact BigFrame.wp_move _ rfl ⟨_, rfl, e1, Below.refl _ _⟩
          case o1 =>
            refine GdOp.plain rfl (fun A vs w' hF hT hb hd => ?_)
            have e1 : A.eval (.tmp 54) = .int .i64 0 := (hT 54 0 (by simp) rfl).trans (hd ⟨0, .data⟩ (by simp) rfl)
            exact wp_neqI rfl e1 rfl ⟨_, rfl, by simp; rfl, Below.refl _ _⟩
          case o2 =>
            refine GdOp.plain rfl (fun A vs w' hF hT hb hd => ?_)
            have e1 : A.eval (.tmp 55) = .bool false := (hT 55 1 (by simp) rfl).trans (hd ⟨1, .data⟩ (by simp) rfl)
            exact BigFrame.wp_move _ rfl ⟨_, rfl, e1, Below.refl _ _⟩
          case o3 =>
            refine GdOp.taken rfl ⟨_, _, rfl, rfl, by simp⟩ (by kernel_rfl) (fun w v h => h) (fun A vs w' hF hT hb hd => ?_)
            have e1 : A.eval (.tmp 9) = .slice a5 m5 c5 := hF 9 rfl
            exact BigFrame.wp_move _ rfl ⟨_, rfl, e1, Below.refl _ _⟩
          case o4 =>
            refine GdOp.taken rfl ⟨_, _, rfl, rfl, by simp⟩ (by kernel_rfl) (fun w v h => h) (fun A vs w' hF hT hb hd => ?_)
            have e1 : A.eval (.tmp 57) = .slice a5 m5 c5 := (hT 57 3 (by simp) rfl).trans (hd ⟨3, .data⟩ (by simp) rfl)
            exact wp_conv byP rfl e1 (r5.below hb) ⟨_, rfl, rfl, Below.refl _ _⟩
          case o5 =>
            refine GdOp.taken rfl ⟨_, _, rfl, rfl, by simp⟩ (by kernel_rfl) (fun w v h => h) (fun A vs w' hF hT hb hd => ?_)
            have e1 : A.eval (.tmp 0) = .slice (some ⟨b, off, none⟩) xss.length c0 := hF 0 rfl
            exact BigFrame.wp_move _ rfl ⟨_, rfl, e1, Below.refl _ _⟩
          case o6 =>
            refine GdOp.taken rfl ⟨_, _, rfl, rfl, by simp⟩ (by kernel_rfl) (fun w v h => h) (fun A vs w' hF hT hb hd => ?_)
            have e1 : A.eval (.tmp 8) = .int .i64 (k : Nat) := hF 8 rfl
            exact BigFrame.wp_move _ rfl ⟨_, rfl, e1, Below.refl _ _⟩
          case o7 =>
            refine GdOp.taken rfl ⟨_, _, rfl, rfl, by simp⟩ (by kernel_rfl) (fun w v h => h) (fun A vs w' hF hT hb hd => ?_)
            have e1 : A.eval (.tmp 59) = .slice (some ⟨b, off, none⟩) xss.length c0 := (hT 59 5 (by simp) rfl).trans (hd ⟨5, .data⟩ (by simp) rfl)
            have e2 : A.eval (.tmp 60) = .int .i64 (k : Nat) := (hT 60 6 (by simp) rfl).trans (hd ⟨6, .data⟩ (by simp) rfl)
            exact wp_ix (e := 22) rfl (by kernel_rfl) (by kernel_rfl) e1 e2 rfl hlt ⟨_, rfl, rfl, Below.refl _ _⟩
          case o8 =>
            refine GdOp.taken rfl ⟨_, _, rfl, rfl, by simp⟩ (by kernel_rfl) (fun w v h => h) (fun A vs w' hF hT hb hd => ?_)
            have e1 : A.eval (.tmp 61) = .pointer (some ⟨b, off + k, none⟩) := (hT 61 7 (by simp) rfl).trans (hd ⟨7, .data⟩ (by simp) rfl)
            exact wp_ld_slice (e := 5) rfl e1 (by kernel_rfl) ((hb.cell (p := ⟨b, off + k, none⟩) hbl).trans hcell) ⟨_, rfl, rfl, Below.refl _ _⟩
          case o9 =>
            refine GdOp.taken rfl ⟨_, _, rfl, rfl, by simp⟩ (by kernel_rfl) (fun w v h => h) (fun A vs w' hF hT hb hd => ?_)
            have e1 : A.eval (.tmp 62) = .slice A0 L0 C0 := (hT 62 8 (by simp) rfl).trans (hd ⟨8, .data⟩ (by simp) rfl)
            exact wp_conv byP rfl e1 (hrk.below hb) ⟨_, rfl, rfl, Below.refl _ _⟩
          case o10 =>
            refine GdOp.taken rfl ⟨_, _, rfl, rfl, by simp⟩ (by kernel_rfl) (fun w v h => h) (fun A vs w' hF hT hb hd => ?_)
            have e1 : A.eval (.tmp 58) = .string (strOf xss[k]) := (hT 58 4 (by simp) rfl).trans (hd ⟨4, .data⟩ (by simp) rfl)
            have e2 : A.eval (.tmp 63) = .string (strOf xss[k]) := (hT 63 9 (by simp) rfl).trans (hd ⟨9, .data⟩ (by simp) rfl)
            exact wp_neqS rfl e1 e2 ⟨_, rfl, by simp; rfl, Below.refl _ _⟩
          case o11 =>
            refine GdOp.plain rfl (fun A vs w' hF hT hb hd => ?_)
            have e1 : A.eval (.tmp 56) = .bool false := (hT 56 2 (by simp) rfl).trans (hd ⟨2, .data⟩ (by simp) rfl)
            have e3 : A.eval (.tmp 64) = .bool false := (hT 64 10 (by simp) rfl).trans (hd ⟨10, .data⟩ (by simp) rfl)
            exact wp_pk rfl e1 (by simp) (fun _ => e3) ⟨_, rfl, rfl, Below.refl _ _⟩
          case fin =>
            intro vs w' hb hG
            have e0 : vs 0 = .int .i64 0 := hG 0 (by decide)
            have e1 : vs 1 = .bool false := hG 1 (by decide)
            have e2 : vs 2 = .bool false := hG 2 (by decide)
            have e3 : vs 3 = .slice a5 m5 c5 := hG 3 (by decide)
            have e4 : vs 4 = .string (strOf xss[k]) := hG 4 (by decide)
            have e5 : vs 5 = .slice (some ⟨b, off, none⟩) xss.length c0 := hG 5 (by decide)
            have e6 : vs 6 = .int .i64 (k : Nat) := hG 6 (by decide)
            have e7 : vs 7 = .pointer (some ⟨b, off + k, none⟩) := hG 7 (by decide)
            have e8 : vs 8 = .slice A0 L0 C0 := hG 8 (by decide)
            have e9 : vs 9 = .string (strOf xss[k]) := hG 9 (by decide)
            have e10 : vs 10 = .bool false := hG 10 (by decide)
            have e11 : vs 11 = .bool false := hG 11 (by decide)
            simp only [putAll, e0, e1, e2, e3, e4, e5, e6, e7, e8, e9, e10, e11]
            clear hG e0 e1 e2 e3 e4 e5 e6 e7 e8 e9 e10 e11
            go_simp
            have r6' := (r6.below hb).mono hb.size
            have q' := q.trans (hb.mono q.size)
            clear hcell hrk hb q r5 r6
            go_wp2
            go_roundw
            case rel => exact ⟨k + 1, b6, m6, c6, by omega, by go_num, rfl, r6', q'⟩
            case measure => simp [intOf]; omega
        · have hkn : k = xss.length := by omega
          subst hkn
          rw [List.drop_length] at hown
          have h0 : m = 0 := hown.len.1
          subst h0
          clear hown
          go_wp2
          go_ret
          exact ⟨rfl, q⟩
end Go.Proofs.Ytekimaaifckehaa
