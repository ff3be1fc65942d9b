/-
  TEXTS OF ONE PROOF, merged: TreeTellsW.
-/
import Derived.BigQuiet
import Derived.Deep.Cut
import Derived.Deep.QuietTactic
import Derived.Lib.Hide
import Derived.Shelf.Abstract
import Derived.Test.YtdegjkfjaklkjaaProg
import Derived.WalkKit
import Derived.WalkLawsBesides
import Derived.WalkSpells
import Derived.Test.YtdegjkfjaklkjaaMg1
import Derived.Test.YtdegjkfjaklkjaaMg2
import Derived.Test.YtdegjkfjaklkjaaMg3
import Derived.Test.YtdegjkfjaklkjaaMg4
import Derived.Test.YtdegjkfjaklkjaaMg9
import Derived.Test.YtdegjkfjaklkjaaMg15
import Derived.Test.YtdegjkfjaklkjaaMg16
import Derived.Test.YtdegjkfjaklkjaaMg17
import Derived.Test.YtdegjkfjaklkjaaMg18
import Derived.Test.YtdegjkfjaklkjaaMg19
import Derived.Test.YtdegjkfjaklkjaaMg20
namespace Go.Proofs.Ytdegjkfjaklkjaa
open Go.RowKit
set_option maxRecDepth 100000 in
set_option maxHeartbeats 8000000 in
theorem TreeTells_w (hC : TreC) (w : World) {v : Value} {n : Nd} (hr : RdN (· < w.heap.size) w v n) {A : Option Addr} {nk ck : Nat} {k : List UInt8} (hk0 : RdS (· < w.heap.size) w (.slice A nk ck) k) :
    Calls Try.prog 3 #[v, .slice A nk ck] w fun e w' => e = .returned (.bool true) ∧ Below w.heap.size w w' := by
  obtain ⟨rfl, hkc, hkm⟩ := hk0.len
  have hkl : k.length ≤ 9223372036854775807 := by unfold maxLen at hkm; omega
  have hr0 := hr
  obtain ⟨a1, c1, a2, c2, a3, c3, rfl, r1, r2, r3⟩ := hr
  have hT := TriV.new w 26 (.slice a1 n.keys.length c1) (.slice a2 n.chains.length c2) (.slice a3 n.kids.length c3)
  have q : Below w.heap.size w (w.alloc (.cells #[.slice a1 n.keys.length c1, .slice a2 n.chains.length c2, .slice a3 n.kids.length c3] 26)) := (Below.refl _ _).alloc (Nat.le_refl _) _
  go_enter Try.func3, Try.ntmps3
  go_upto_region 1 with (fail)
  generalize w.alloc (.cells #[.slice a1 n.keys.length c1, .slice a2 n.chains.length c2, .slice a3 n.kids.length c3] 26) = W at *
  have t0 := hT.cell0
  have t1 := hT.cell1
  have t2 := hT.cell2
  go_wp2_with fail
  refine (hC.awake _).mono ?_
  rintro e w1 ⟨rfl, hb⟩
  replace q := q.trans (hb.mono q.size)
  replace hT := hT.below hb hT.lt
  clear hb t0 t1 t2
  have t0 := hT.cell0
  have t1 := hT.cell1
  have t2 := hT.cell2
  go_wp2_with fail
  refine (smallLaw_any _ (hr0.below q) (RdL.nil Elt.ver (fun _ => False) _)).mono ?_
  rintro e w2 ⟨r, rfl, hs, hb⟩
  replace q := q.trans (hb.mono q.size)
  replace hT := hT.below hb hT.lt
  clear hb t0 t1 t2
  have t0 := hT.cell0
  have t1 := hT.cell1
  have t2 := hT.cell2
  cases r with
  | false =>
    clear hs
    go_wp2_with fail
    go_ret
    exact ⟨rfl, q⟩
  | true =>
    have hft := small5_fit (hs rfl).2.2
    have hw6 : wN n ≤ 1000000 := by have := hft.1; omega
    clear hs
    by_cases h100 : 100 < k.length
    · have d : decide ((100 : Int) < k.length) = true := decide_eq_true (by omega)
      clear h100
      go_wp2_with fail
      go_ret
      exact ⟨rfl, q⟩
    have d : decide ((100 : Int) < k.length) = false := decide_eq_false (by omega)
    have hk100 : k.length ≤ 1000 := by omega
    clear h100
    go_wp2_with fail
    refine (refPairsN_any _ (hr0.below q) hw6).mono ?_
    rintro e w3 ⟨al, nl, cl, rfl, hO, hb⟩
    have hL := PairsEnd.read hO
    replace q := q.trans (hb.mono q.size)
    replace hT := hT.below hb hT.lt
    clear hb t0 t1 t2
    have t0 := hT.cell0
    have t1 := hT.cell1
    have t2 := hT.cell2
    clear hO
    obtain ⟨rfl, _, _⟩ := hL.len
    have hLb := prN_few hft
    go_wp2_with fail
    refine (hC.find _ (hr0.below q) hft (hk0.below q) hk100).mono ?_
    rintro e w4 ⟨af, cf, rfl, hF, hb⟩
    replace hL := hL.below hb
    replace q := q.trans (hb.mono q.size)
    replace hT := hT.below hb hT.lt
    clear hb t0 t1 t2
    have t0 := hT.cell0
    have t1 := hT.cell1
    have t2 := hT.cell2
    replace hF := hF.weak (S' := fun _ => True) fun _ _ => trivial
    have hF5 := hF.len
    go_wp2_with fail
    refine (refFindP_any _ hL (hk0.below q)).mono ?_
    rintro e w5 ⟨⟨r, rfl, hFA⟩, hb⟩
    replace hL := hL.below hb
    replace hF := hF.below hb
    replace q := q.trans (hb.mono q.size)
    replace hT := hT.below hb hT.lt
    clear hb t0 t1 t2
    have t0 := hT.cell0
    have t1 := hT.cell1
    have t2 := hT.cell2
    go_wp2_with fail
    refine (hC.next _ (hr0.below q) hft (hk0.below q) hk100).mono ?_
    rintro e w6 ⟨an, cn, rfl, hX, hb⟩
    replace hL := hL.below hb
    replace hF := hF.below hb
    replace q := q.trans (hb.mono q.size)
    replace hT := hT.below hb hT.lt
    clear hb t0 t1 t2
    have t0 := hT.cell0
    have t1 := hT.cell1
    have t2 := hT.cell2
    replace hX := hX.weak (S' := fun _ => True) fun _ _ => trivial
    go_wp2_with fail
    refine (refNextP_any _ hL (hk0.below q)).mono ?_
    rintro e w7 ⟨⟨i, rfl, hNA⟩, hb⟩
    replace hL := hL.below hb
    replace hF := hF.below hb
    replace hX := hX.below hb
    replace q := q.trans (hb.mono q.size)
    replace hT := hT.below hb hT.lt
    clear hb t0 t1 t2
    have t0 := hT.cell0
    have t1 := hT.cell1
    have t2 := hT.cell2
    go_wp2_with fail
    refine (lawPairs_any hC _ (hr0.below q) hft (by omega)).mono ?_
    rintro e w8 ⟨ap, np, cp, rfl, hP, hb⟩
    replace hL := hL.below hb
    replace hF := hF.below hb
    replace hX := hX.below hb
    replace q := q.trans (hb.mono q.size)
    replace hT := hT.below hb hT.lt
    clear hb t0 t1 t2
    have t0 := hT.cell0
    have t1 := hT.cell1
    have t2 := hT.cell2
    go_wp2_with fail
    refine (sameP_any _ hP hL).mono ?_
    rintro e w9 ⟨rfl, hb⟩
    rw [decide_eq_true (rfl : prN n = prN n)]
    replace hL := hL.below hb
    replace hF := hF.below hb
    replace hX := hX.below hb
    replace q := q.trans (hb.mono q.size)
    replace hT := hT.below hb hT.lt
    clear hb t0 t1 t2
    have t0 := hT.cell0
    have t1 := hT.cell1
    have t2 := hT.cell2
    clear hP hF5
    obtain ⟨okb, hok⟩ : ∃ b, b = decide (okN n) := ⟨_, rfl⟩
    have HOK := Lib.hid hok
    clear hok
    rcases hFA with ⟨rfl, hf⟩ | ⟨j, hj, rfl, hkj, hf⟩
    · rw [hf] at hF ⊢
      simp only [Option.getD_none, List.length_nil, Option.isSome_none] at hF ⊢
      clear hF hf
      go_upto_region 11 with (fail)
      obtain ⟨hil, hNA⟩ := hNA
      rcases Nat.lt_or_ge i (prN n).length with hlt | hge
      · rw [List.getElem?_eq_getElem hlt, Option.map_some] at hNA
        rw [hNA] at hX ⊢
        simp only [Option.getD_some, Option.isSome_some] at hX ⊢
        have hx2 := hX.rd
        obtain ⟨b9, off9, A9, C9, B9, D9, e9, c0, c1, hky, hcc⟩ := hL.pr i hlt
        subst e9
        have hk2 := hky.rd
        have de : ((strOf (prN n)[i].key).toList == (strOf (prN n)[i].key).toList) = true := str_eq.trans (decide_eq_true rfl)
        have dn : ((i : Int) == ((prN n).length : Int)) = false := by rw [beq_eq_false_iff_ne]; omega
        have dl : decide ((i : Int) < ((prN n).length : Int)) = true := decide_eq_true (by omega)
        clear hNA
        refine wp_region_quiet_lit (by kernel_rfl) (by kernel_rfl) ?_
        repeat (first | go_big_quiet_step (fail) | (go_big_quiet_want; refine quiet_conv byP rfl rfl hx2 ?_; go_big_quiet_on; go_simp) | (go_big_quiet_want; refine quiet_conv byP rfl rfl hk2 ?_; go_big_quiet_on; go_simp))
        first | (refine wpQuiet_nil ?_; intro _ hw'; obtain ⟨nq, hw''⟩ := hw'; subst hw'') | intro nq
        have q9 := Below.drewN q nq
        have bx := hT.below (Below.drewN (Below.refl _ _) nq) hT.lt
        generalize w9.drewN nq = wd at *
        clear q hT t0 t1 t2 hX hx2 hk2 hky hcc c0 c1
        have q := q9
        clear q9
        go_upto_region 12 with (fail)
        refine wp_region_gsa (by kernel_rfl) (by kernel_rfl) [sgEq (.bool true), sgEq (.bool true), sgEq (.agg #[.slice a1 n.keys.length c1, .slice a2 n.chains.length c2, .slice a3 n.kids.length c3]), sgEq (.bool okb), sgEq (.agg #[.slice a1 n.keys.length c1, .slice a2 n.chains.length c2, .slice a3 n.kids.length c3]), sgEq (.bool okb), sgEq (.bool true), sgEq (.bool true), sgEq (.bool true), sgEq (.bool true), sgEq (.bool true), sgEq (.bool true), sgEq (.agg #[.slice a1 n.keys.length c1, .slice a2 n.chains.length c2, .slice a3 n.kids.length c3]), sgEq (.int .i64 ((prN n).length : Nat)), sgEq (.slice (some ⟨b9, off9, none⟩) (prN n).length cl), sgEq (.int .i64 ((prN n).length : Nat)), sgEq (.bool true), sgEq (.bool true), sgEq (.bool true), sgEq (.agg #[.slice a1 n.keys.length c1, .slice a2 n.chains.length c2, .slice a3 n.kids.length c3]), sgEq (.int .i64 (depN n)), sgEq (.agg #[.slice a1 n.keys.length c1, .slice a2 n.chains.length c2, .slice a3 n.kids.length c3]), sgEq (.int .i64 (depN n)), sgEq (.bool true), sgEq (.bool true), sgEq (.bool true), sgEq (.bool true), sgEq (.bool true), sgEq (.bool true), sgEq (.bool true), sgEq (.bool true), sgEq (.bool true)]
          ⟨?o0, ?o1, ?o2, ?o3, ?o4, ?o5, ?o6, ?o7, ?o8, ?o9, ?o10, ?o11, ?o12, ?o13, ?o14, ?o15, ?o16, ?o17, ?o18, ?o19, ?o20, ?o21, ?o22, ?o23, ?o24, ?o25, ?o26, ?o27, ?o28, ?o29, ?o30, ?o31, trivial⟩ ?fin
        case o0 =>
          refine GdOp.plain rfl (fun A vs w' hF hT hb hd => ?_)
          have e1 : A.eval (.tmp 5) = .bool true := hF 5 rfl
          exact BigFrame.wp_move _ rfl ⟨_, rfl, e1, Below.refl _ _⟩
        case o1 =>
          refine GdOp.plain rfl (fun A vs w' hF hT hb hd => ?_)
          have e1 : A.eval (.tmp 110) = .bool true := (hT 110 0 (by simp) rfl).trans (hd ⟨0, .data⟩ (by simp) rfl)
          exact BigFrame.wp_move _ rfl ⟨_, rfl, e1, Below.refl _ _⟩
        case o2 =>
          refine GdOp.taken rfl ⟨_, _, rfl, rfl, by simp⟩ (by kernel_rfl) (fun w v h => h) (fun A vs w' hF hT hb hd => ?_)
          have e1 : A.eval (.tmp 2) = .pointer (some ⟨w.heap.size, 0, none⟩) := hF 2 rfl
          have hb3 := bx.below hb bx.lt
          exact wp_load3 ndS rfl e1 hb3.cell0 hb3.cell1 hb3.cell2 ⟨_, rfl, rfl, Below.refl _ _⟩
        case o3 =>
          refine GdOp.taken rfl ⟨_, _, rfl, rfl, by simp⟩ (by kernel_rfl) (fun w v h => h) (fun A vs w' hF hT hb hd => ?_)
          have e1 : A.eval (.tmp 112) = .agg #[.slice a1 n.keys.length c1, .slice a2 n.chains.length c2, .slice a3 n.kids.length c3] := (hT 112 2 (by simp) rfl).trans (hd ⟨2, .data⟩ (by simp) rfl)
          refine wp_callFn rfl (enters_of Try.func22 (by kernel_rfl) rfl) (args := #[.agg #[.slice a1 n.keys.length c1, .slice a2 n.chains.length c2, .slice a3 n.kids.length c3]]) (by simp [e1]) ((hC.check w' (hr0.below (q.trans (hb.mono q.size))) hft).mono ?_)
          rintro e w2 ⟨rfl, hb2⟩
          exact ⟨_, rfl, _, rfl, congrArg Value.bool HOK.out.symm, hb2⟩
        case o4 =>
          refine GdOp.taken rfl ⟨_, _, rfl, rfl, by simp⟩ (by kernel_rfl) (fun w v h => h) (fun A vs w' hF hT hb hd => ?_)
          have e1 : A.eval (.tmp 2) = .pointer (some ⟨w.heap.size, 0, none⟩) := hF 2 rfl
          have hb3 := bx.below hb bx.lt
          exact wp_load3 ndS rfl e1 hb3.cell0 hb3.cell1 hb3.cell2 ⟨_, rfl, rfl, Below.refl _ _⟩
        case o5 =>
          refine GdOp.taken rfl ⟨_, _, rfl, rfl, by simp⟩ (by kernel_rfl) (fun w v h => h) (fun A vs w' hF hT hb hd => ?_)
          have e1 : A.eval (.tmp 114) = .agg #[.slice a1 n.keys.length c1, .slice a2 n.chains.length c2, .slice a3 n.kids.length c3] := (hT 114 4 (by simp) rfl).trans (hd ⟨4, .data⟩ (by simp) rfl)
          refine wp_callFn rfl (enters_of Try.func23 (by kernel_rfl) rfl) (args := #[.agg #[.slice a1 n.keys.length c1, .slice a2 n.chains.length c2, .slice a3 n.kids.length c3]]) (by simp [e1]) ((refCheckN_any w' (hr0.below (q.trans (hb.mono q.size))) hw6).mono ?_)
          rintro e w2 ⟨rfl, hb2⟩
          exact ⟨_, rfl, _, rfl, congrArg Value.bool HOK.out.symm, hb2⟩
        case o6 =>
          refine GdOp.taken rfl ⟨_, _, rfl, rfl, by simp⟩ (by kernel_rfl) (fun w v h => h) (fun A vs w' hF hT hb hd => ?_)
          have e1 : A.eval (.tmp 113) = .bool okb := (hT 113 3 (by simp) rfl).trans (hd ⟨3, .data⟩ (by simp) rfl)
          have e2 : A.eval (.tmp 115) = .bool okb := (hT 115 5 (by simp) rfl).trans (hd ⟨5, .data⟩ (by simp) rfl)
          exact wp_eqlB (by kernel_rfl) rfl e1 e2 ⟨_, rfl, congrArg Value.bool (by simp), Below.refl _ _⟩
        case o7 =>
          refine GdOp.plain rfl (fun A vs w' hF hT hb hd => ?_)
          have e1 : A.eval (.tmp 111) = .bool true := (hT 111 1 (by simp) rfl).trans (hd ⟨1, .data⟩ (by simp) rfl)
          have e2 : A.eval (.tmp 116) = .bool true := (hT 116 6 (by simp) rfl).trans (hd ⟨6, .data⟩ (by simp) rfl)
          exact wp_pk rfl e1 (fun _ => e2) (by simp) ⟨_, rfl, rfl, Below.refl _ _⟩
        case o8 =>
          refine GdOp.plain rfl (fun A vs w' hF hT hb hd => ?_)
          have e1 : A.eval (.tmp 117) = .bool true := (hT 117 7 (by simp) rfl).trans (hd ⟨7, .data⟩ (by simp) rfl)
          exact BigFrame.wp_move _ rfl ⟨_, rfl, e1, Below.refl _ _⟩
        case o9 =>
          refine GdOp.taken rfl ⟨_, _, rfl, rfl, by simp⟩ (by kernel_rfl) (fun w v h => h) (fun A vs w' hF hT hb hd => ?_)
          have e1 : A.eval (.tmp 13) = .bool true := hF 13 rfl
          exact BigFrame.wp_move _ rfl ⟨_, rfl, e1, Below.refl _ _⟩
        case o10 =>
          refine GdOp.plain rfl (fun A vs w' hF hT hb hd => ?_)
          have e1 : A.eval (.tmp 118) = .bool true := (hT 118 8 (by simp) rfl).trans (hd ⟨8, .data⟩ (by simp) rfl)
          have e2 : A.eval (.tmp 119) = .bool true := (hT 119 9 (by simp) rfl).trans (hd ⟨9, .data⟩ (by simp) rfl)
          exact wp_pk rfl e1 (fun _ => e2) (by simp) ⟨_, rfl, rfl, Below.refl _ _⟩
        case o11 =>
          refine GdOp.plain rfl (fun A vs w' hF hT hb hd => ?_)
          have e1 : A.eval (.tmp 120) = .bool true := (hT 120 10 (by simp) rfl).trans (hd ⟨10, .data⟩ (by simp) rfl)
          exact BigFrame.wp_move _ rfl ⟨_, rfl, e1, Below.refl _ _⟩
        case o12 =>
          refine GdOp.taken rfl ⟨_, _, rfl, rfl, by simp⟩ (by kernel_rfl) (fun w v h => h) (fun A vs w' hF hT hb hd => ?_)
          have e1 : A.eval (.tmp 2) = .pointer (some ⟨w.heap.size, 0, none⟩) := hF 2 rfl
          have hb3 := bx.below hb bx.lt
          exact wp_load3 ndS rfl e1 hb3.cell0 hb3.cell1 hb3.cell2 ⟨_, rfl, rfl, Below.refl _ _⟩
        case o13 =>
          refine GdOp.taken rfl ⟨_, _, rfl, rfl, by simp⟩ (by kernel_rfl) (fun w v h => h) (fun A vs w' hF hT hb hd => ?_)
          have e1 : A.eval (.tmp 122) = .agg #[.slice a1 n.keys.length c1, .slice a2 n.chains.length c2, .slice a3 n.kids.length c3] := (hT 122 12 (by simp) rfl).trans (hd ⟨12, .data⟩ (by simp) rfl)
          refine wp_callFn rfl (enters_of Try.func24 (by kernel_rfl) rfl) (args := #[.agg #[.slice a1 n.keys.length c1, .slice a2 n.chains.length c2, .slice a3 n.kids.length c3]]) (by simp [e1]) ((hC.many w' (hr0.below (q.trans (hb.mono q.size))) hft).mono ?_)
          rintro e w2 ⟨rfl, hb2⟩
          exact ⟨_, rfl, _, rfl, rfl, hb2⟩
        case o14 =>
          refine GdOp.taken rfl ⟨_, _, rfl, rfl, by simp⟩ (by kernel_rfl) (fun w v h => h) (fun A vs w' hF hT hb hd => ?_)
          have e1 : A.eval (.tmp 6) = .slice (some ⟨b9, off9, none⟩) (prN n).length cl := hF 6 rfl
          exact BigFrame.wp_move _ rfl ⟨_, rfl, e1, Below.refl _ _⟩
        case o15 =>
          refine GdOp.taken rfl ⟨_, _, rfl, rfl, by simp⟩ (by kernel_rfl) (fun w v h => h) (fun A vs w' hF hT hb hd => ?_)
          have e1 : A.eval (.tmp 124) = .slice (some ⟨b9, off9, none⟩) (prN n).length cl := (hT 124 14 (by simp) rfl).trans (hd ⟨14, .data⟩ (by simp) rfl)
          exact wp_lenS (e := 41) rfl (by kernel_rfl) e1 ⟨_, rfl, rfl, Below.refl _ _⟩
        case o16 =>
          refine GdOp.taken rfl ⟨_, _, rfl, rfl, by simp⟩ (by kernel_rfl) (fun w v h => h) (fun A vs w' hF hT hb hd => ?_)
          have e1 : A.eval (.tmp 123) = .int .i64 ((prN n).length : Nat) := (hT 123 13 (by simp) rfl).trans (hd ⟨13, .data⟩ (by simp) rfl)
          have e2 : A.eval (.tmp 125) = .int .i64 ((prN n).length : Nat) := (hT 125 15 (by simp) rfl).trans (hd ⟨15, .data⟩ (by simp) rfl)
          exact wp_eqlI rfl e1 e2 ⟨_, rfl, congrArg Value.bool (by simp), Below.refl _ _⟩
        case o17 =>
          refine GdOp.plain rfl (fun A vs w' hF hT hb hd => ?_)
          have e1 : A.eval (.tmp 121) = .bool true := (hT 121 11 (by simp) rfl).trans (hd ⟨11, .data⟩ (by simp) rfl)
          have e2 : A.eval (.tmp 126) = .bool true := (hT 126 16 (by simp) rfl).trans (hd ⟨16, .data⟩ (by simp) rfl)
          exact wp_pk rfl e1 (fun _ => e2) (by simp) ⟨_, rfl, rfl, Below.refl _ _⟩
        case o18 =>
          refine GdOp.plain rfl (fun A vs w' hF hT hb hd => ?_)
          have e1 : A.eval (.tmp 127) = .bool true := (hT 127 17 (by simp) rfl).trans (hd ⟨17, .data⟩ (by simp) rfl)
          exact BigFrame.wp_move _ rfl ⟨_, rfl, e1, Below.refl _ _⟩
        case o19 =>
          refine GdOp.taken rfl ⟨_, _, rfl, rfl, by simp⟩ (by kernel_rfl) (fun w v h => h) (fun A vs w' hF hT hb hd => ?_)
          have e1 : A.eval (.tmp 2) = .pointer (some ⟨w.heap.size, 0, none⟩) := hF 2 rfl
          have hb3 := bx.below hb bx.lt
          exact wp_load3 ndS rfl e1 hb3.cell0 hb3.cell1 hb3.cell2 ⟨_, rfl, rfl, Below.refl _ _⟩
        case o20 =>
          refine GdOp.taken rfl ⟨_, _, rfl, rfl, by simp⟩ (by kernel_rfl) (fun w v h => h) (fun A vs w' hF hT hb hd => ?_)
          have e1 : A.eval (.tmp 129) = .agg #[.slice a1 n.keys.length c1, .slice a2 n.chains.length c2, .slice a3 n.kids.length c3] := (hT 129 19 (by simp) rfl).trans (hd ⟨19, .data⟩ (by simp) rfl)
          refine wp_callFn rfl (enters_of Try.func25 (by kernel_rfl) rfl) (args := #[.agg #[.slice a1 n.keys.length c1, .slice a2 n.chains.length c2, .slice a3 n.kids.length c3]]) (by simp [e1]) ((hC.depth w' (hr0.below (q.trans (hb.mono q.size))) hft).mono ?_)
          rintro e w2 ⟨rfl, hb2⟩
          exact ⟨_, rfl, _, rfl, rfl, hb2⟩
        case o21 =>
          refine GdOp.taken rfl ⟨_, _, rfl, rfl, by simp⟩ (by kernel_rfl) (fun w v h => h) (fun A vs w' hF hT hb hd => ?_)
          have e1 : A.eval (.tmp 2) = .pointer (some ⟨w.heap.size, 0, none⟩) := hF 2 rfl
          have hb3 := bx.below hb bx.lt
          exact wp_load3 ndS rfl e1 hb3.cell0 hb3.cell1 hb3.cell2 ⟨_, rfl, rfl, Below.refl _ _⟩
        case o22 =>
          refine GdOp.taken rfl ⟨_, _, rfl, rfl, by simp⟩ (by kernel_rfl) (fun w v h => h) (fun A vs w' hF hT hb hd => ?_)
          have e1 : A.eval (.tmp 131) = .agg #[.slice a1 n.keys.length c1, .slice a2 n.chains.length c2, .slice a3 n.kids.length c3] := (hT 131 21 (by simp) rfl).trans (hd ⟨21, .data⟩ (by simp) rfl)
          refine wp_callFn rfl (enters_of Try.func26 (by kernel_rfl) rfl) (args := #[.agg #[.slice a1 n.keys.length c1, .slice a2 n.chains.length c2, .slice a3 n.kids.length c3]]) (by simp [e1]) ((refDepth_any w' (hr0.below (q.trans (hb.mono q.size))) hw6).mono ?_)
          rintro e w2 ⟨rfl, hb2⟩
          exact ⟨_, rfl, _, rfl, rfl, hb2⟩
        case o23 =>
          refine GdOp.taken rfl ⟨_, _, rfl, rfl, by simp⟩ (by kernel_rfl) (fun w v h => h) (fun A vs w' hF hT hb hd => ?_)
          have e1 : A.eval (.tmp 130) = .int .i64 (depN n) := (hT 130 20 (by simp) rfl).trans (hd ⟨20, .data⟩ (by simp) rfl)
          have e2 : A.eval (.tmp 132) = .int .i64 (depN n) := (hT 132 22 (by simp) rfl).trans (hd ⟨22, .data⟩ (by simp) rfl)
          exact wp_eqlI rfl e1 e2 ⟨_, rfl, congrArg Value.bool (by simp), Below.refl _ _⟩
        case o24 =>
          refine GdOp.plain rfl (fun A vs w' hF hT hb hd => ?_)
          have e1 : A.eval (.tmp 128) = .bool true := (hT 128 18 (by simp) rfl).trans (hd ⟨18, .data⟩ (by simp) rfl)
          have e2 : A.eval (.tmp 133) = .bool true := (hT 133 23 (by simp) rfl).trans (hd ⟨23, .data⟩ (by simp) rfl)
          exact wp_pk rfl e1 (fun _ => e2) (by simp) ⟨_, rfl, rfl, Below.refl _ _⟩
        case o25 =>
          refine GdOp.plain rfl (fun A vs w' hF hT hb hd => ?_)
          have e1 : A.eval (.tmp 134) = .bool true := (hT 134 24 (by simp) rfl).trans (hd ⟨24, .data⟩ (by simp) rfl)
          exact BigFrame.wp_move _ rfl ⟨_, rfl, e1, Below.refl _ _⟩
        case o26 =>
          refine GdOp.taken rfl ⟨_, _, rfl, rfl, by simp⟩ (by kernel_rfl) (fun w v h => h) (fun A vs w' hF hT hb hd => ?_)
          have e1 : A.eval (.tmp 14) = .bool true := hF 14 rfl
          exact BigFrame.wp_move _ rfl ⟨_, rfl, e1, Below.refl _ _⟩
        case o27 =>
          refine GdOp.plain rfl (fun A vs w' hF hT hb hd => ?_)
          have e1 : A.eval (.tmp 135) = .bool true := (hT 135 25 (by simp) rfl).trans (hd ⟨25, .data⟩ (by simp) rfl)
          have e2 : A.eval (.tmp 136) = .bool true := (hT 136 26 (by simp) rfl).trans (hd ⟨26, .data⟩ (by simp) rfl)
          exact wp_pk rfl e1 (fun _ => e2) (by simp) ⟨_, rfl, rfl, Below.refl _ _⟩
        case o28 =>
          refine GdOp.plain rfl (fun A vs w' hF hT hb hd => ?_)
          have e1 : A.eval (.tmp 137) = .bool true := (hT 137 27 (by simp) rfl).trans (hd ⟨27, .data⟩ (by simp) rfl)
          exact BigFrame.wp_move _ rfl ⟨_, rfl, e1, Below.refl _ _⟩
        case o29 =>
          refine GdOp.taken rfl ⟨_, _, rfl, rfl, by simp⟩ (by kernel_rfl) (fun w v h => h) (fun A vs w' hF hT hb hd => ?_)
          have e1 : A.eval (.tmp 15) = .bool true := hF 15 rfl
          exact BigFrame.wp_move _ rfl ⟨_, rfl, e1, Below.refl _ _⟩
        case o30 =>
          refine GdOp.plain rfl (fun A vs w' hF hT hb hd => ?_)
          have e1 : A.eval (.tmp 138) = .bool true := (hT 138 28 (by simp) rfl).trans (hd ⟨28, .data⟩ (by simp) rfl)
          have e2 : A.eval (.tmp 139) = .bool true := (hT 139 29 (by simp) rfl).trans (hd ⟨29, .data⟩ (by simp) rfl)
          exact wp_pk rfl e1 (fun _ => e2) (by simp) ⟨_, rfl, rfl, Below.refl _ _⟩
        case o31 =>
          refine GdOp.plain rfl (fun A vs w' hF hT hb hd => ?_)
          have e1 : A.eval (.tmp 140) = .bool true := (hT 140 30 (by simp) rfl).trans (hd ⟨30, .data⟩ (by simp) rfl)
          exact BigFrame.wp_assign _ rfl ⟨_, rfl, e1, Below.refl _ _⟩
        case fin =>
          intro A vs w' hA hb hG
          have e4 : A.eval (.tmp 4) = .bool true := (hA.2.2.2 4 31 (by simp) rfl).trans (hG 31 (by decide))
          have hd : A.defers = [] := hA.1
          clear hG hA
          go_wp2
          refine bodyPost_ret (v := .bool true) ?_ hd ⟨rfl, q.trans (hb.mono q.size)⟩
          rw [← e4]
          exact results_tmp rfl _ _ _
      · obtain rfl : i = (prN n).length := by omega
        rw [List.getElem?_eq_none (Nat.le_refl _), Option.map_none] at hNA
        rw [hNA] at hX ⊢
        simp only [Option.getD_none, List.length_nil, Option.isSome_none] at hX ⊢
        have dn : (((prN n).length : Int) == ((prN n).length : Int)) = true := by simp
        clear hNA hX
        refine wp_region_quiet_lit (by kernel_rfl) (by kernel_rfl) ?_
        repeat (first | go_big_quiet_step (fail))
        first | (refine wpQuiet_nil ?_; intro _ hw'; obtain ⟨nq, hw''⟩ := hw'; subst hw'') | intro nq
        have q9 := Below.drewN q nq
        have bx := hT.below (Below.drewN (Below.refl _ _) nq) hT.lt
        generalize w9.drewN nq = wd at *
        clear q hT t0 t1 t2
        have q := q9
        clear q9
        go_upto_region 12 with (fail)
        refine wp_region_gsa (by kernel_rfl) (by kernel_rfl) [sgEq (.bool true), sgEq (.bool true), sgEq (.agg #[.slice a1 n.keys.length c1, .slice a2 n.chains.length c2, .slice a3 n.kids.length c3]), sgEq (.bool okb), sgEq (.agg #[.slice a1 n.keys.length c1, .slice a2 n.chains.length c2, .slice a3 n.kids.length c3]), sgEq (.bool okb), sgEq (.bool true), sgEq (.bool true), sgEq (.bool true), sgEq (.bool true), sgEq (.bool true), sgEq (.bool true), sgEq (.agg #[.slice a1 n.keys.length c1, .slice a2 n.chains.length c2, .slice a3 n.kids.length c3]), sgEq (.int .i64 ((prN n).length : Nat)), sgEq (.slice al (prN n).length cl), sgEq (.int .i64 ((prN n).length : Nat)), sgEq (.bool true), sgEq (.bool true), sgEq (.bool true), sgEq (.agg #[.slice a1 n.keys.length c1, .slice a2 n.chains.length c2, .slice a3 n.kids.length c3]), sgEq (.int .i64 (depN n)), sgEq (.agg #[.slice a1 n.keys.length c1, .slice a2 n.chains.length c2, .slice a3 n.kids.length c3]), sgEq (.int .i64 (depN n)), sgEq (.bool true), sgEq (.bool true), sgEq (.bool true), sgEq (.bool true), sgEq (.bool true), sgEq (.bool true), sgEq (.bool true), sgEq (.bool true), sgEq (.bool true)]
          ⟨?o0, ?o1, ?o2, ?o3, ?o4, ?o5, ?o6, ?o7, ?o8, ?o9, ?o10, ?o11, ?o12, ?o13, ?o14, ?o15, ?o16, ?o17, ?o18, ?o19, ?o20, ?o21, ?o22, ?o23, ?o24, ?o25, ?o26, ?o27, ?o28, ?o29, ?o30, ?o31, trivial⟩ ?fin
        case o0 =>
          refine GdOp.plain rfl (fun A vs w' hF hT hb hd => ?_)
          have e1 : A.eval (.tmp 5) = .bool true := hF 5 rfl
          exact BigFrame.wp_move _ rfl ⟨_, rfl, e1, Below.refl _ _⟩
        case o1 =>
          refine GdOp.plain rfl (fun A vs w' hF hT hb hd => ?_)
          have e1 : A.eval (.tmp 110) = .bool true := (hT 110 0 (by simp) rfl).trans (hd ⟨0, .data⟩ (by simp) rfl)
          exact BigFrame.wp_move _ rfl ⟨_, rfl, e1, Below.refl _ _⟩
        case o2 =>
          refine GdOp.taken rfl ⟨_, _, rfl, rfl, by simp⟩ (by kernel_rfl) (fun w v h => h) (fun A vs w' hF hT hb hd => ?_)
          have e1 : A.eval (.tmp 2) = .pointer (some ⟨w.heap.size, 0, none⟩) := hF 2 rfl
          have hb3 := bx.below hb bx.lt
          exact wp_load3 ndS rfl e1 hb3.cell0 hb3.cell1 hb3.cell2 ⟨_, rfl, rfl, Below.refl _ _⟩
        case o3 =>
          refine GdOp.taken rfl ⟨_, _, rfl, rfl, by simp⟩ (by kernel_rfl) (fun w v h => h) (fun A vs w' hF hT hb hd => ?_)
          have e1 : A.eval (.tmp 112) = .agg #[.slice a1 n.keys.length c1, .slice a2 n.chains.length c2, .slice a3 n.kids.length c3] := (hT 112 2 (by simp) rfl).trans (hd ⟨2, .data⟩ (by simp) rfl)
          refine wp_callFn rfl (enters_of Try.func22 (by kernel_rfl) rfl) (args := #[.agg #[.slice a1 n.keys.length c1, .slice a2 n.chains.length c2, .slice a3 n.kids.length c3]]) (by simp [e1]) ((hC.check w' (hr0.below (q.trans (hb.mono q.size))) hft).mono ?_)
          rintro e w2 ⟨rfl, hb2⟩
          exact ⟨_, rfl, _, rfl, congrArg Value.bool HOK.out.symm, hb2⟩
        case o4 =>
          refine GdOp.taken rfl ⟨_, _, rfl, rfl, by simp⟩ (by kernel_rfl) (fun w v h => h) (fun A vs w' hF hT hb hd => ?_)
          have e1 : A.eval (.tmp 2) = .pointer (some ⟨w.heap.size, 0, none⟩) := hF 2 rfl
          have hb3 := bx.below hb bx.lt
          exact wp_load3 ndS rfl e1 hb3.cell0 hb3.cell1 hb3.cell2 ⟨_, rfl, rfl, Below.refl _ _⟩
        case o5 =>
          refine GdOp.taken rfl ⟨_, _, rfl, rfl, by simp⟩ (by kernel_rfl) (fun w v h => h) (fun A vs w' hF hT hb hd => ?_)
          have e1 : A.eval (.tmp 114) = .agg #[.slice a1 n.keys.length c1, .slice a2 n.chains.length c2, .slice a3 n.kids.length c3] := (hT 114 4 (by simp) rfl).trans (hd ⟨4, .data⟩ (by simp) rfl)
          refine wp_callFn rfl (enters_of Try.func23 (by kernel_rfl) rfl) (args := #[.agg #[.slice a1 n.keys.length c1, .slice a2 n.chains.length c2, .slice a3 n.kids.length c3]]) (by simp [e1]) ((refCheckN_any w' (hr0.below (q.trans (hb.mono q.size))) hw6).mono ?_)
          rintro e w2 ⟨rfl, hb2⟩
          exact ⟨_, rfl, _, rfl, congrArg Value.bool HOK.out.symm, hb2⟩
        case o6 =>
          refine GdOp.taken rfl ⟨_, _, rfl, rfl, by simp⟩ (by kernel_rfl) (fun w v h => h) (fun A vs w' hF hT hb hd => ?_)
          have e1 : A.eval (.tmp 113) = .bool okb := (hT 113 3 (by simp) rfl).trans (hd ⟨3, .data⟩ (by simp) rfl)
          have e2 : A.eval (.tmp 115) = .bool okb := (hT 115 5 (by simp) rfl).trans (hd ⟨5, .data⟩ (by simp) rfl)
          exact wp_eqlB (by kernel_rfl) rfl e1 e2 ⟨_, rfl, congrArg Value.bool (by simp), Below.refl _ _⟩
        case o7 =>
          refine GdOp.plain rfl (fun A vs w' hF hT hb hd => ?_)
          have e1 : A.eval (.tmp 111) = .bool true := (hT 111 1 (by simp) rfl).trans (hd ⟨1, .data⟩ (by simp) rfl)
          have e2 : A.eval (.tmp 116) = .bool true := (hT 116 6 (by simp) rfl).trans (hd ⟨6, .data⟩ (by simp) rfl)
          exact wp_pk rfl e1 (fun _ => e2) (by simp) ⟨_, rfl, rfl, Below.refl _ _⟩
        case o8 =>
          refine GdOp.plain rfl (fun A vs w' hF hT hb hd => ?_)
          have e1 : A.eval (.tmp 117) = .bool true := (hT 117 7 (by simp) rfl).trans (hd ⟨7, .data⟩ (by simp) rfl)
          exact BigFrame.wp_move _ rfl ⟨_, rfl, e1, Below.refl _ _⟩
        case o9 =>
          refine GdOp.taken rfl ⟨_, _, rfl, rfl, by simp⟩ (by kernel_rfl) (fun w v h => h) (fun A vs w' hF hT hb hd => ?_)
          have e1 : A.eval (.tmp 13) = .bool true := hF 13 rfl
          exact BigFrame.wp_move _ rfl ⟨_, rfl, e1, Below.refl _ _⟩
        case o10 =>
          refine GdOp.plain rfl (fun A vs w' hF hT hb hd => ?_)
          have e1 : A.eval (.tmp 118) = .bool true := (hT 118 8 (by simp) rfl).trans (hd ⟨8, .data⟩ (by simp) rfl)
          have e2 : A.eval (.tmp 119) = .bool true := (hT 119 9 (by simp) rfl).trans (hd ⟨9, .data⟩ (by simp) rfl)
          exact wp_pk rfl e1 (fun _ => e2) (by simp) ⟨_, rfl, rfl, Below.refl _ _⟩
        case o11 =>
          refine GdOp.plain rfl (fun A vs w' hF hT hb hd => ?_)
          have e1 : A.eval (.tmp 120) = .bool true := (hT 120 10 (by simp) rfl).trans (hd ⟨10, .data⟩ (by simp) rfl)
          exact BigFrame.wp_move _ rfl ⟨_, rfl, e1, Below.refl _ _⟩
        case o12 =>
          refine GdOp.taken rfl ⟨_, _, rfl, rfl, by simp⟩ (by kernel_rfl) (fun w v h => h) (fun A vs w' hF hT hb hd => ?_)
          have e1 : A.eval (.tmp 2) = .pointer (some ⟨w.heap.size, 0, none⟩) := hF 2 rfl
          have hb3 := bx.below hb bx.lt
          exact wp_load3 ndS rfl e1 hb3.cell0 hb3.cell1 hb3.cell2 ⟨_, rfl, rfl, Below.refl _ _⟩
        case o13 =>
          refine GdOp.taken rfl ⟨_, _, rfl, rfl, by simp⟩ (by kernel_rfl) (fun w v h => h) (fun A vs w' hF hT hb hd => ?_)
          have e1 : A.eval (.tmp 122) = .agg #[.slice a1 n.keys.length c1, .slice a2 n.chains.length c2, .slice a3 n.kids.length c3] := (hT 122 12 (by simp) rfl).trans (hd ⟨12, .data⟩ (by simp) rfl)
          refine wp_callFn rfl (enters_of Try.func24 (by kernel_rfl) rfl) (args := #[.agg #[.slice a1 n.keys.length c1, .slice a2 n.chains.length c2, .slice a3 n.kids.length c3]]) (by simp [e1]) ((hC.many w' (hr0.below (q.trans (hb.mono q.size))) hft).mono ?_)
          rintro e w2 ⟨rfl, hb2⟩
          exact ⟨_, rfl, _, rfl, rfl, hb2⟩
        case o14 =>
          refine GdOp.taken rfl ⟨_, _, rfl, rfl, by simp⟩ (by kernel_rfl) (fun w v h => h) (fun A vs w' hF hT hb hd => ?_)
          have e1 : A.eval (.tmp 6) = .slice al (prN n).length cl := hF 6 rfl
          exact BigFrame.wp_move _ rfl ⟨_, rfl, e1, Below.refl _ _⟩
        case o15 =>
          refine GdOp.taken rfl ⟨_, _, rfl, rfl, by simp⟩ (by kernel_rfl) (fun w v h => h) (fun A vs w' hF hT hb hd => ?_)
          have e1 : A.eval (.tmp 124) = .slice al (prN n).length cl := (hT 124 14 (by simp) rfl).trans (hd ⟨14, .data⟩ (by simp) rfl)
          exact wp_lenS (e := 41) rfl (by kernel_rfl) e1 ⟨_, rfl, rfl, Below.refl _ _⟩
        case o16 =>
          refine GdOp.taken rfl ⟨_, _, rfl, rfl, by simp⟩ (by kernel_rfl) (fun w v h => h) (fun A vs w' hF hT hb hd => ?_)
          have e1 : A.eval (.tmp 123) = .int .i64 ((prN n).length : Nat) := (hT 123 13 (by simp) rfl).trans (hd ⟨13, .data⟩ (by simp) rfl)
          have e2 : A.eval (.tmp 125) = .int .i64 ((prN n).length : Nat) := (hT 125 15 (by simp) rfl).trans (hd ⟨15, .data⟩ (by simp) rfl)
          exact wp_eqlI rfl e1 e2 ⟨_, rfl, congrArg Value.bool (by simp), Below.refl _ _⟩
        case o17 =>
          refine GdOp.plain rfl (fun A vs w' hF hT hb hd => ?_)
          have e1 : A.eval (.tmp 121) = .bool true := (hT 121 11 (by simp) rfl).trans (hd ⟨11, .data⟩ (by simp) rfl)
          have e2 : A.eval (.tmp 126) = .bool true := (hT 126 16 (by simp) rfl).trans (hd ⟨16, .data⟩ (by simp) rfl)
          exact wp_pk rfl e1 (fun _ => e2) (by simp) ⟨_, rfl, rfl, Below.refl _ _⟩
        case o18 =>
          refine GdOp.plain rfl (fun A vs w' hF hT hb hd => ?_)
          have e1 : A.eval (.tmp 127) = .bool true := (hT 127 17 (by simp) rfl).trans (hd ⟨17, .data⟩ (by simp) rfl)
          exact BigFrame.wp_move _ rfl ⟨_, rfl, e1, Below.refl _ _⟩
        case o19 =>
          refine GdOp.taken rfl ⟨_, _, rfl, rfl, by simp⟩ (by kernel_rfl) (fun w v h => h) (fun A vs w' hF hT hb hd => ?_)
          have e1 : A.eval (.tmp 2) = .pointer (some ⟨w.heap.size, 0, none⟩) := hF 2 rfl
          have hb3 := bx.below hb bx.lt
          exact wp_load3 ndS rfl e1 hb3.cell0 hb3.cell1 hb3.cell2 ⟨_, rfl, rfl, Below.refl _ _⟩
        case o20 =>
          refine GdOp.taken rfl ⟨_, _, rfl, rfl, by simp⟩ (by kernel_rfl) (fun w v h => h) (fun A vs w' hF hT hb hd => ?_)
          have e1 : A.eval (.tmp 129) = .agg #[.slice a1 n.keys.length c1, .slice a2 n.chains.length c2, .slice a3 n.kids.length c3] := (hT 129 19 (by simp) rfl).trans (hd ⟨19, .data⟩ (by simp) rfl)
          refine wp_callFn rfl (enters_of Try.func25 (by kernel_rfl) rfl) (args := #[.agg #[.slice a1 n.keys.length c1, .slice a2 n.chains.length c2, .slice a3 n.kids.length c3]]) (by simp [e1]) ((hC.depth w' (hr0.below (q.trans (hb.mono q.size))) hft).mono ?_)
          rintro e w2 ⟨rfl, hb2⟩
          exact ⟨_, rfl, _, rfl, rfl, hb2⟩
        case o21 =>
          refine GdOp.taken rfl ⟨_, _, rfl, rfl, by simp⟩ (by kernel_rfl) (fun w v h => h) (fun A vs w' hF hT hb hd => ?_)
          have e1 : A.eval (.tmp 2) = .pointer (some ⟨w.heap.size, 0, none⟩) := hF 2 rfl
          have hb3 := bx.below hb bx.lt
          exact wp_load3 ndS rfl e1 hb3.cell0 hb3.cell1 hb3.cell2 ⟨_, rfl, rfl, Below.refl _ _⟩
        case o22 =>
          refine GdOp.taken rfl ⟨_, _, rfl, rfl, by simp⟩ (by kernel_rfl) (fun w v h => h) (fun A vs w' hF hT hb hd => ?_)
          have e1 : A.eval (.tmp 131) = .agg #[.slice a1 n.keys.length c1, .slice a2 n.chains.length c2, .slice a3 n.kids.length c3] := (hT 131 21 (by simp) rfl).trans (hd ⟨21, .data⟩ (by simp) rfl)
          refine wp_callFn rfl (enters_of Try.func26 (by kernel_rfl) rfl) (args := #[.agg #[.slice a1 n.keys.length c1, .slice a2 n.chains.length c2, .slice a3 n.kids.length c3]]) (by simp [e1]) ((refDepth_any w' (hr0.below (q.trans (hb.mono q.size))) hw6).mono ?_)
          rintro e w2 ⟨rfl, hb2⟩
          exact ⟨_, rfl, _, rfl, rfl, hb2⟩
        case o23 =>
          refine GdOp.taken rfl ⟨_, _, rfl, rfl, by simp⟩ (by kernel_rfl) (fun w v h => h) (fun A vs w' hF hT hb hd => ?_)
          have e1 : A.eval (.tmp 130) = .int .i64 (depN n) := (hT 130 20 (by simp) rfl).trans (hd ⟨20, .data⟩ (by simp) rfl)
          have e2 : A.eval (.tmp 132) = .int .i64 (depN n) := (hT 132 22 (by simp) rfl).trans (hd ⟨22, .data⟩ (by simp) rfl)
          exact wp_eqlI rfl e1 e2 ⟨_, rfl, congrArg Value.bool (by simp), Below.refl _ _⟩
        case o24 =>
          refine GdOp.plain rfl (fun A vs w' hF hT hb hd => ?_)
          have e1 : A.eval (.tmp 128) = .bool true := (hT 128 18 (by simp) rfl).trans (hd ⟨18, .data⟩ (by simp) rfl)
          have e2 : A.eval (.tmp 133) = .bool true := (hT 133 23 (by simp) rfl).trans (hd ⟨23, .data⟩ (by simp) rfl)
          exact wp_pk rfl e1 (fun _ => e2) (by simp) ⟨_, rfl, rfl, Below.refl _ _⟩
        case o25 =>
          refine GdOp.plain rfl (fun A vs w' hF hT hb hd => ?_)
          have e1 : A.eval (.tmp 134) = .bool true := (hT 134 24 (by simp) rfl).trans (hd ⟨24, .data⟩ (by simp) rfl)
          exact BigFrame.wp_move _ rfl ⟨_, rfl, e1, Below.refl _ _⟩
        case o26 =>
          refine GdOp.taken rfl ⟨_, _, rfl, rfl, by simp⟩ (by kernel_rfl) (fun w v h => h) (fun A vs w' hF hT hb hd => ?_)
          have e1 : A.eval (.tmp 14) = .bool true := hF 14 rfl
          exact BigFrame.wp_move _ rfl ⟨_, rfl, e1, Below.refl _ _⟩
        case o27 =>
          refine GdOp.plain rfl (fun A vs w' hF hT hb hd => ?_)
          have e1 : A.eval (.tmp 135) = .bool true := (hT 135 25 (by simp) rfl).trans (hd ⟨25, .data⟩ (by simp) rfl)
          have e2 : A.eval (.tmp 136) = .bool true := (hT 136 26 (by simp) rfl).trans (hd ⟨26, .data⟩ (by simp) rfl)
          exact wp_pk rfl e1 (fun _ => e2) (by simp) ⟨_, rfl, rfl, Below.refl _ _⟩
        case o28 =>
          refine GdOp.plain rfl (fun A vs w' hF hT hb hd => ?_)
          have e1 : A.eval (.tmp 137) = .bool true := (hT 137 27 (by simp) rfl).trans (hd ⟨27, .data⟩ (by simp) rfl)
          exact BigFrame.wp_move _ rfl ⟨_, rfl, e1, Below.refl _ _⟩
        case o29 =>
          refine GdOp.taken rfl ⟨_, _, rfl, rfl, by simp⟩ (by kernel_rfl) (fun w v h => h) (fun A vs w' hF hT hb hd => ?_)
          have e1 : A.eval (.tmp 15) = .bool true := hF 15 rfl
          exact BigFrame.wp_move _ rfl ⟨_, rfl, e1, Below.refl _ _⟩
        case o30 =>
          refine GdOp.plain rfl (fun A vs w' hF hT hb hd => ?_)
          have e1 : A.eval (.tmp 138) = .bool true := (hT 138 28 (by simp) rfl).trans (hd ⟨28, .data⟩ (by simp) rfl)
          have e2 : A.eval (.tmp 139) = .bool true := (hT 139 29 (by simp) rfl).trans (hd ⟨29, .data⟩ (by simp) rfl)
          exact wp_pk rfl e1 (fun _ => e2) (by simp) ⟨_, rfl, rfl, Below.refl _ _⟩
        case o31 =>
          refine GdOp.plain rfl (fun A vs w' hF hT hb hd => ?_)
          have e1 : A.eval (.tmp 140) = .bool true := (hT 140 30 (by simp) rfl).trans (hd ⟨30, .data⟩ (by simp) rfl)
          exact BigFrame.wp_assign _ rfl ⟨_, rfl, e1, Below.refl _ _⟩
        case fin =>
          intro A vs w' hA hb hG
          have e4 : A.eval (.tmp 4) = .bool true := (hA.2.2.2 4 31 (by simp) rfl).trans (hG 31 (by decide))
          have hd : A.defers = [] := hA.1
          clear hG hA
          go_wp2
          refine bodyPost_ret (v := .bool true) ?_ hd ⟨rfl, q.trans (hb.mono q.size)⟩
          rw [← e4]
          exact results_tmp rfl _ _ _
    · rw [hf] at hF ⊢
      simp only [Option.getD_some, Option.isSome_some] at hF ⊢
      obtain ⟨b, off, Aj, Cj, Bj, Dj, rfl, c0, c1, hky, hcc⟩ := hL.pr j hj
      have hll := hcc.len
      have dj : decide ((j : Int) < 0) = false := decide_eq_false (by omega)
      have dj2 : decide ((0 : Int) ≤ (j : Int)) = true := decide_eq_true (by omega)
      clear hkj hf
      go_wp2_with fail
      refine (sameV_any _ hF hcc).mono ?_
      rintro e w10 ⟨rfl, hb⟩
      rw [decide_eq_true (rfl : (prN n)[j].chain = (prN n)[j].chain)]
      replace hL := hL.below hb
      replace hX := hX.below hb
      replace q := q.trans (hb.mono q.size)
      replace hT := hT.below hb hT.lt
      clear hb t0 t1 t2
      have t0 := hT.cell0
      have t1 := hT.cell1
      have t2 := hT.cell2
      clear c0 c1 hky hcc hF
      go_upto_region 11 with (fail)
      obtain ⟨hil, hNA⟩ := hNA
      rcases Nat.lt_or_ge i (prN n).length with hlt | hge
      · rw [List.getElem?_eq_getElem hlt, Option.map_some] at hNA
        rw [hNA] at hX ⊢
        simp only [Option.getD_some, Option.isSome_some] at hX ⊢
        have hx2 := hX.rd
        obtain ⟨b9, off9, A9, C9, B9, D9, e9, c0, c1, hky, hcc⟩ := hL.pr i hlt
        injection e9 with e9; injection e9 with e1 e2; subst e1; subst e2
        have hk2 := hky.rd
        have de : ((strOf (prN n)[i].key).toList == (strOf (prN n)[i].key).toList) = true := str_eq.trans (decide_eq_true rfl)
        have dn : ((i : Int) == ((prN n).length : Int)) = false := by rw [beq_eq_false_iff_ne]; omega
        have dl : decide ((i : Int) < ((prN n).length : Int)) = true := decide_eq_true (by omega)
        clear hNA
        refine wp_region_quiet_lit (by kernel_rfl) (by kernel_rfl) ?_
        repeat (first | go_big_quiet_step (fail) | (go_big_quiet_want; refine quiet_conv byP rfl rfl hx2 ?_; go_big_quiet_on; go_simp) | (go_big_quiet_want; refine quiet_conv byP rfl rfl hk2 ?_; go_big_quiet_on; go_simp))
        first | (refine wpQuiet_nil ?_; intro _ hw'; obtain ⟨nq, hw''⟩ := hw'; subst hw'') | intro nq
        have q9 := Below.drewN q nq
        have bx := hT.below (Below.drewN (Below.refl _ _) nq) hT.lt
        generalize w10.drewN nq = wd at *
        clear q hT t0 t1 t2 hX hx2 hk2 hky hcc c0 c1
        have q := q9
        clear q9
        go_upto_region 12 with (fail)
        refine wp_region_gsa (by kernel_rfl) (by kernel_rfl) [sgEq (.bool true), sgEq (.bool true), sgEq (.agg #[.slice a1 n.keys.length c1, .slice a2 n.chains.length c2, .slice a3 n.kids.length c3]), sgEq (.bool okb), sgEq (.agg #[.slice a1 n.keys.length c1, .slice a2 n.chains.length c2, .slice a3 n.kids.length c3]), sgEq (.bool okb), sgEq (.bool true), sgEq (.bool true), sgEq (.bool true), sgEq (.bool true), sgEq (.bool true), sgEq (.bool true), sgEq (.agg #[.slice a1 n.keys.length c1, .slice a2 n.chains.length c2, .slice a3 n.kids.length c3]), sgEq (.int .i64 ((prN n).length : Nat)), sgEq (.slice (some ⟨b, off, none⟩) (prN n).length cl), sgEq (.int .i64 ((prN n).length : Nat)), sgEq (.bool true), sgEq (.bool true), sgEq (.bool true), sgEq (.agg #[.slice a1 n.keys.length c1, .slice a2 n.chains.length c2, .slice a3 n.kids.length c3]), sgEq (.int .i64 (depN n)), sgEq (.agg #[.slice a1 n.keys.length c1, .slice a2 n.chains.length c2, .slice a3 n.kids.length c3]), sgEq (.int .i64 (depN n)), sgEq (.bool true), sgEq (.bool true), sgEq (.bool true), sgEq (.bool true), sgEq (.bool true), sgEq (.bool true), sgEq (.bool true), sgEq (.bool true), sgEq (.bool true)]
          ⟨?o0, ?o1, ?o2, ?o3, ?o4, ?o5, ?o6, ?o7, ?o8, ?o9, ?o10, ?o11, ?o12, ?o13, ?o14, ?o15, ?o16, ?o17, ?o18, ?o19, ?o20, ?o21, ?o22, ?o23, ?o24, ?o25, ?o26, ?o27, ?o28, ?o29, ?o30, ?o31, trivial⟩ ?fin
        case o0 =>
          refine GdOp.plain rfl (fun A vs w' hF hT hb hd => ?_)
          have e1 : A.eval (.tmp 5) = .bool true := hF 5 rfl
          exact BigFrame.wp_move _ rfl ⟨_, rfl, e1, Below.refl _ _⟩
        case o1 =>
          refine GdOp.plain rfl (fun A vs w' hF hT hb hd => ?_)
          have e1 : A.eval (.tmp 110) = .bool true := (hT 110 0 (by simp) rfl).trans (hd ⟨0, .data⟩ (by simp) rfl)
          exact BigFrame.wp_move _ rfl ⟨_, rfl, e1, Below.refl _ _⟩
        case o2 =>
          refine GdOp.taken rfl ⟨_, _, rfl, rfl, by simp⟩ (by kernel_rfl) (fun w v h => h) (fun A vs w' hF hT hb hd => ?_)
          have e1 : A.eval (.tmp 2) = .pointer (some ⟨w.heap.size, 0, none⟩) := hF 2 rfl
          have hb3 := bx.below hb bx.lt
          exact wp_load3 ndS rfl e1 hb3.cell0 hb3.cell1 hb3.cell2 ⟨_, rfl, rfl, Below.refl _ _⟩
        case o3 =>
          refine GdOp.taken rfl ⟨_, _, rfl, rfl, by simp⟩ (by kernel_rfl) (fun w v h => h) (fun A vs w' hF hT hb hd => ?_)
          have e1 : A.eval (.tmp 112) = .agg #[.slice a1 n.keys.length c1, .slice a2 n.chains.length c2, .slice a3 n.kids.length c3] := (hT 112 2 (by simp) rfl).trans (hd ⟨2, .data⟩ (by simp) rfl)
          refine wp_callFn rfl (enters_of Try.func22 (by kernel_rfl) rfl) (args := #[.agg #[.slice a1 n.keys.length c1, .slice a2 n.chains.length c2, .slice a3 n.kids.length c3]]) (by simp [e1]) ((hC.check w' (hr0.below (q.trans (hb.mono q.size))) hft).mono ?_)
          rintro e w2 ⟨rfl, hb2⟩
          exact ⟨_, rfl, _, rfl, congrArg Value.bool HOK.out.symm, hb2⟩
        case o4 =>
          refine GdOp.taken rfl ⟨_, _, rfl, rfl, by simp⟩ (by kernel_rfl) (fun w v h => h) (fun A vs w' hF hT hb hd => ?_)
          have e1 : A.eval (.tmp 2) = .pointer (some ⟨w.heap.size, 0, none⟩) := hF 2 rfl
          have hb3 := bx.below hb bx.lt
          exact wp_load3 ndS rfl e1 hb3.cell0 hb3.cell1 hb3.cell2 ⟨_, rfl, rfl, Below.refl _ _⟩
        case o5 =>
          refine GdOp.taken rfl ⟨_, _, rfl, rfl, by simp⟩ (by kernel_rfl) (fun w v h => h) (fun A vs w' hF hT hb hd => ?_)
          have e1 : A.eval (.tmp 114) = .agg #[.slice a1 n.keys.length c1, .slice a2 n.chains.length c2, .slice a3 n.kids.length c3] := (hT 114 4 (by simp) rfl).trans (hd ⟨4, .data⟩ (by simp) rfl)
          refine wp_callFn rfl (enters_of Try.func23 (by kernel_rfl) rfl) (args := #[.agg #[.slice a1 n.keys.length c1, .slice a2 n.chains.length c2, .slice a3 n.kids.length c3]]) (by simp [e1]) ((refCheckN_any w' (hr0.below (q.trans (hb.mono q.size))) hw6).mono ?_)
          rintro e w2 ⟨rfl, hb2⟩
          exact ⟨_, rfl, _, rfl, congrArg Value.bool HOK.out.symm, hb2⟩
        case o6 =>
          refine GdOp.taken rfl ⟨_, _, rfl, rfl, by simp⟩ (by kernel_rfl) (fun w v h => h) (fun A vs w' hF hT hb hd => ?_)
          have e1 : A.eval (.tmp 113) = .bool okb := (hT 113 3 (by simp) rfl).trans (hd ⟨3, .data⟩ (by simp) rfl)
          have e2 : A.eval (.tmp 115) = .bool okb := (hT 115 5 (by simp) rfl).trans (hd ⟨5, .data⟩ (by simp) rfl)
          exact wp_eqlB (by kernel_rfl) rfl e1 e2 ⟨_, rfl, congrArg Value.bool (by simp), Below.refl _ _⟩
        case o7 =>
          refine GdOp.plain rfl (fun A vs w' hF hT hb hd => ?_)
          have e1 : A.eval (.tmp 111) = .bool true := (hT 111 1 (by simp) rfl).trans (hd ⟨1, .data⟩ (by simp) rfl)
          have e2 : A.eval (.tmp 116) = .bool true := (hT 116 6 (by simp) rfl).trans (hd ⟨6, .data⟩ (by simp) rfl)
          exact wp_pk rfl e1 (fun _ => e2) (by simp) ⟨_, rfl, rfl, Below.refl _ _⟩
        case o8 =>
          refine GdOp.plain rfl (fun A vs w' hF hT hb hd => ?_)
          have e1 : A.eval (.tmp 117) = .bool true := (hT 117 7 (by simp) rfl).trans (hd ⟨7, .data⟩ (by simp) rfl)
          exact BigFrame.wp_move _ rfl ⟨_, rfl, e1, Below.refl _ _⟩
        case o9 =>
          refine GdOp.taken rfl ⟨_, _, rfl, rfl, by simp⟩ (by kernel_rfl) (fun w v h => h) (fun A vs w' hF hT hb hd => ?_)
          have e1 : A.eval (.tmp 13) = .bool true := hF 13 rfl
          exact BigFrame.wp_move _ rfl ⟨_, rfl, e1, Below.refl _ _⟩
        case o10 =>
          refine GdOp.plain rfl (fun A vs w' hF hT hb hd => ?_)
          have e1 : A.eval (.tmp 118) = .bool true := (hT 118 8 (by simp) rfl).trans (hd ⟨8, .data⟩ (by simp) rfl)
          have e2 : A.eval (.tmp 119) = .bool true := (hT 119 9 (by simp) rfl).trans (hd ⟨9, .data⟩ (by simp) rfl)
          exact wp_pk rfl e1 (fun _ => e2) (by simp) ⟨_, rfl, rfl, Below.refl _ _⟩
        case o11 =>
          refine GdOp.plain rfl (fun A vs w' hF hT hb hd => ?_)
          have e1 : A.eval (.tmp 120) = .bool true := (hT 120 10 (by simp) rfl).trans (hd ⟨10, .data⟩ (by simp) rfl)
          exact BigFrame.wp_move _ rfl ⟨_, rfl, e1, Below.refl _ _⟩
        case o12 =>
          refine GdOp.taken rfl ⟨_, _, rfl, rfl, by simp⟩ (by kernel_rfl) (fun w v h => h) (fun A vs w' hF hT hb hd => ?_)
          have e1 : A.eval (.tmp 2) = .pointer (some ⟨w.heap.size, 0, none⟩) := hF 2 rfl
          have hb3 := bx.below hb bx.lt
          exact wp_load3 ndS rfl e1 hb3.cell0 hb3.cell1 hb3.cell2 ⟨_, rfl, rfl, Below.refl _ _⟩
        case o13 =>
          refine GdOp.taken rfl ⟨_, _, rfl, rfl, by simp⟩ (by kernel_rfl) (fun w v h => h) (fun A vs w' hF hT hb hd => ?_)
          have e1 : A.eval (.tmp 122) = .agg #[.slice a1 n.keys.length c1, .slice a2 n.chains.length c2, .slice a3 n.kids.length c3] := (hT 122 12 (by simp) rfl).trans (hd ⟨12, .data⟩ (by simp) rfl)
          refine wp_callFn rfl (enters_of Try.func24 (by kernel_rfl) rfl) (args := #[.agg #[.slice a1 n.keys.length c1, .slice a2 n.chains.length c2, .slice a3 n.kids.length c3]]) (by simp [e1]) ((hC.many w' (hr0.below (q.trans (hb.mono q.size))) hft).mono ?_)
          rintro e w2 ⟨rfl, hb2⟩
          exact ⟨_, rfl, _, rfl, rfl, hb2⟩
        case o14 =>
          refine GdOp.taken rfl ⟨_, _, rfl, rfl, by simp⟩ (by kernel_rfl) (fun w v h => h) (fun A vs w' hF hT hb hd => ?_)
          have e1 : A.eval (.tmp 6) = .slice (some ⟨b, off, none⟩) (prN n).length cl := hF 6 rfl
          exact BigFrame.wp_move _ rfl ⟨_, rfl, e1, Below.refl _ _⟩
        case o15 =>
          refine GdOp.taken rfl ⟨_, _, rfl, rfl, by simp⟩ (by kernel_rfl) (fun w v h => h) (fun A vs w' hF hT hb hd => ?_)
          have e1 : A.eval (.tmp 124) = .slice (some ⟨b, off, none⟩) (prN n).length cl := (hT 124 14 (by simp) rfl).trans (hd ⟨14, .data⟩ (by simp) rfl)
          exact wp_lenS (e := 41) rfl (by kernel_rfl) e1 ⟨_, rfl, rfl, Below.refl _ _⟩
        case o16 =>
          refine GdOp.taken rfl ⟨_, _, rfl, rfl, by simp⟩ (by kernel_rfl) (fun w v h => h) (fun A vs w' hF hT hb hd => ?_)
          have e1 : A.eval (.tmp 123) = .int .i64 ((prN n).length : Nat) := (hT 123 13 (by simp) rfl).trans (hd ⟨13, .data⟩ (by simp) rfl)
          have e2 : A.eval (.tmp 125) = .int .i64 ((prN n).length : Nat) := (hT 125 15 (by simp) rfl).trans (hd ⟨15, .data⟩ (by simp) rfl)
          exact wp_eqlI rfl e1 e2 ⟨_, rfl, congrArg Value.bool (by simp), Below.refl _ _⟩
        case o17 =>
          refine GdOp.plain rfl (fun A vs w' hF hT hb hd => ?_)
          have e1 : A.eval (.tmp 121) = .bool true := (hT 121 11 (by simp) rfl).trans (hd ⟨11, .data⟩ (by simp) rfl)
          have e2 : A.eval (.tmp 126) = .bool true := (hT 126 16 (by simp) rfl).trans (hd ⟨16, .data⟩ (by simp) rfl)
          exact wp_pk rfl e1 (fun _ => e2) (by simp) ⟨_, rfl, rfl, Below.refl _ _⟩
        case o18 =>
          refine GdOp.plain rfl (fun A vs w' hF hT hb hd => ?_)
          have e1 : A.eval (.tmp 127) = .bool true := (hT 127 17 (by simp) rfl).trans (hd ⟨17, .data⟩ (by simp) rfl)
          exact BigFrame.wp_move _ rfl ⟨_, rfl, e1, Below.refl _ _⟩
        case o19 =>
          refine GdOp.taken rfl ⟨_, _, rfl, rfl, by simp⟩ (by kernel_rfl) (fun w v h => h) (fun A vs w' hF hT hb hd => ?_)
          have e1 : A.eval (.tmp 2) = .pointer (some ⟨w.heap.size, 0, none⟩) := hF 2 rfl
          have hb3 := bx.below hb bx.lt
          exact wp_load3 ndS rfl e1 hb3.cell0 hb3.cell1 hb3.cell2 ⟨_, rfl, rfl, Below.refl _ _⟩
        case o20 =>
          refine GdOp.taken rfl ⟨_, _, rfl, rfl, by simp⟩ (by kernel_rfl) (fun w v h => h) (fun A vs w' hF hT hb hd => ?_)
          have e1 : A.eval (.tmp 129) = .agg #[.slice a1 n.keys.length c1, .slice a2 n.chains.length c2, .slice a3 n.kids.length c3] := (hT 129 19 (by simp) rfl).trans (hd ⟨19, .data⟩ (by simp) rfl)
          refine wp_callFn rfl (enters_of Try.func25 (by kernel_rfl) rfl) (args := #[.agg #[.slice a1 n.keys.length c1, .slice a2 n.chains.length c2, .slice a3 n.kids.length c3]]) (by simp [e1]) ((hC.depth w' (hr0.below (q.trans (hb.mono q.size))) hft).mono ?_)
          rintro e w2 ⟨rfl, hb2⟩
          exact ⟨_, rfl, _, rfl, rfl, hb2⟩
        case o21 =>
          refine GdOp.taken rfl ⟨_, _, rfl, rfl, by simp⟩ (by kernel_rfl) (fun w v h => h) (fun A vs w' hF hT hb hd => ?_)
          have e1 : A.eval (.tmp 2) = .pointer (some ⟨w.heap.size, 0, none⟩) := hF 2 rfl
          have hb3 := bx.below hb bx.lt
          exact wp_load3 ndS rfl e1 hb3.cell0 hb3.cell1 hb3.cell2 ⟨_, rfl, rfl, Below.refl _ _⟩
        case o22 =>
          refine GdOp.taken rfl ⟨_, _, rfl, rfl, by simp⟩ (by kernel_rfl) (fun w v h => h) (fun A vs w' hF hT hb hd => ?_)
          have e1 : A.eval (.tmp 131) = .agg #[.slice a1 n.keys.length c1, .slice a2 n.chains.length c2, .slice a3 n.kids.length c3] := (hT 131 21 (by simp) rfl).trans (hd ⟨21, .data⟩ (by simp) rfl)
          refine wp_callFn rfl (enters_of Try.func26 (by kernel_rfl) rfl) (args := #[.agg #[.slice a1 n.keys.length c1, .slice a2 n.chains.length c2, .slice a3 n.kids.length c3]]) (by simp [e1]) ((refDepth_any w' (hr0.below (q.trans (hb.mono q.size))) hw6).mono ?_)
          rintro e w2 ⟨rfl, hb2⟩
          exact ⟨_, rfl, _, rfl, rfl, hb2⟩
        case o23 =>
          refine GdOp.taken rfl ⟨_, _, rfl, rfl, by simp⟩ (by kernel_rfl) (fun w v h => h) (fun A vs w' hF hT hb hd => ?_)
          have e1 : A.eval (.tmp 130) = .int .i64 (depN n) := (hT 130 20 (by simp) rfl).trans (hd ⟨20, .data⟩ (by simp) rfl)
          have e2 : A.eval (.tmp 132) = .int .i64 (depN n) := (hT 132 22 (by simp) rfl).trans (hd ⟨22, .data⟩ (by simp) rfl)
          exact wp_eqlI rfl e1 e2 ⟨_, rfl, congrArg Value.bool (by simp), Below.refl _ _⟩
        case o24 =>
          refine GdOp.plain rfl (fun A vs w' hF hT hb hd => ?_)
          have e1 : A.eval (.tmp 128) = .bool true := (hT 128 18 (by simp) rfl).trans (hd ⟨18, .data⟩ (by simp) rfl)
          have e2 : A.eval (.tmp 133) = .bool true := (hT 133 23 (by simp) rfl).trans (hd ⟨23, .data⟩ (by simp) rfl)
          exact wp_pk rfl e1 (fun _ => e2) (by simp) ⟨_, rfl, rfl, Below.refl _ _⟩
        case o25 =>
          refine GdOp.plain rfl (fun A vs w' hF hT hb hd => ?_)
          have e1 : A.eval (.tmp 134) = .bool true := (hT 134 24 (by simp) rfl).trans (hd ⟨24, .data⟩ (by simp) rfl)
          exact BigFrame.wp_move _ rfl ⟨_, rfl, e1, Below.refl _ _⟩
        case o26 =>
          refine GdOp.taken rfl ⟨_, _, rfl, rfl, by simp⟩ (by kernel_rfl) (fun w v h => h) (fun A vs w' hF hT hb hd => ?_)
          have e1 : A.eval (.tmp 14) = .bool true := hF 14 rfl
          exact BigFrame.wp_move _ rfl ⟨_, rfl, e1, Below.refl _ _⟩
        case o27 =>
          refine GdOp.plain rfl (fun A vs w' hF hT hb hd => ?_)
          have e1 : A.eval (.tmp 135) = .bool true := (hT 135 25 (by simp) rfl).trans (hd ⟨25, .data⟩ (by simp) rfl)
          have e2 : A.eval (.tmp 136) = .bool true := (hT 136 26 (by simp) rfl).trans (hd ⟨26, .data⟩ (by simp) rfl)
          exact wp_pk rfl e1 (fun _ => e2) (by simp) ⟨_, rfl, rfl, Below.refl _ _⟩
        case o28 =>
          refine GdOp.plain rfl (fun A vs w' hF hT hb hd => ?_)
          have e1 : A.eval (.tmp 137) = .bool true := (hT 137 27 (by simp) rfl).trans (hd ⟨27, .data⟩ (by simp) rfl)
          exact BigFrame.wp_move _ rfl ⟨_, rfl, e1, Below.refl _ _⟩
        case o29 =>
          refine GdOp.taken rfl ⟨_, _, rfl, rfl, by simp⟩ (by kernel_rfl) (fun w v h => h) (fun A vs w' hF hT hb hd => ?_)
          have e1 : A.eval (.tmp 15) = .bool true := hF 15 rfl
          exact BigFrame.wp_move _ rfl ⟨_, rfl, e1, Below.refl _ _⟩
        case o30 =>
          refine GdOp.plain rfl (fun A vs w' hF hT hb hd => ?_)
          have e1 : A.eval (.tmp 138) = .bool true := (hT 138 28 (by simp) rfl).trans (hd ⟨28, .data⟩ (by simp) rfl)
          have e2 : A.eval (.tmp 139) = .bool true := (hT 139 29 (by simp) rfl).trans (hd ⟨29, .data⟩ (by simp) rfl)
          exact wp_pk rfl e1 (fun _ => e2) (by simp) ⟨_, rfl, rfl, Below.refl _ _⟩
        case o31 =>
          refine GdOp.plain rfl (fun A vs w' hF hT hb hd => ?_)
          have e1 : A.eval (.tmp 140) = .bool true := (hT 140 30 (by simp) rfl).trans (hd ⟨30, .data⟩ (by simp) rfl)
          exact BigFrame.wp_assign _ rfl ⟨_, rfl, e1, Below.refl _ _⟩
        case fin =>
          intro A vs w' hA hb hG
          have e4 : A.eval (.tmp 4) = .bool true := (hA.2.2.2 4 31 (by simp) rfl).trans (hG 31 (by decide))
          have hd : A.defers = [] := hA.1
          clear hG hA
          go_wp2
          refine bodyPost_ret (v := .bool true) ?_ hd ⟨rfl, q.trans (hb.mono q.size)⟩
          rw [← e4]
          exact results_tmp rfl _ _ _
      · obtain rfl : i = (prN n).length := by omega
        rw [List.getElem?_eq_none (Nat.le_refl _), Option.map_none] at hNA
        rw [hNA] at hX ⊢
        simp only [Option.getD_none, List.length_nil, Option.isSome_none] at hX ⊢
        have dn : (((prN n).length : Int) == ((prN n).length : Int)) = true := by simp
        clear hNA hX
        refine wp_region_quiet_lit (by kernel_rfl) (by kernel_rfl) ?_
        repeat (first | go_big_quiet_step (fail))
        first | (refine wpQuiet_nil ?_; intro _ hw'; obtain ⟨nq, hw''⟩ := hw'; subst hw'') | intro nq
        have q9 := Below.drewN q nq
        have bx := hT.below (Below.drewN (Below.refl _ _) nq) hT.lt
        generalize w10.drewN nq = wd at *
        clear q hT t0 t1 t2
        have q := q9
        clear q9
        go_upto_region 12 with (fail)
        refine wp_region_gsa (by kernel_rfl) (by kernel_rfl) [sgEq (.bool true), sgEq (.bool true), sgEq (.agg #[.slice a1 n.keys.length c1, .slice a2 n.chains.length c2, .slice a3 n.kids.length c3]), sgEq (.bool okb), sgEq (.agg #[.slice a1 n.keys.length c1, .slice a2 n.chains.length c2, .slice a3 n.kids.length c3]), sgEq (.bool okb), sgEq (.bool true), sgEq (.bool true), sgEq (.bool true), sgEq (.bool true), sgEq (.bool true), sgEq (.bool true), sgEq (.agg #[.slice a1 n.keys.length c1, .slice a2 n.chains.length c2, .slice a3 n.kids.length c3]), sgEq (.int .i64 ((prN n).length : Nat)), sgEq (.slice (some ⟨b, off, none⟩) (prN n).length cl), sgEq (.int .i64 ((prN n).length : Nat)), sgEq (.bool true), sgEq (.bool true), sgEq (.bool true), sgEq (.agg #[.slice a1 n.keys.length c1, .slice a2 n.chains.length c2, .slice a3 n.kids.length c3]), sgEq (.int .i64 (depN n)), sgEq (.agg #[.slice a1 n.keys.length c1, .slice a2 n.chains.length c2, .slice a3 n.kids.length c3]), sgEq (.int .i64 (depN n)), sgEq (.bool true), sgEq (.bool true), sgEq (.bool true), sgEq (.bool true), sgEq (.bool true), sgEq (.bool true), sgEq (.bool true), sgEq (.bool true), sgEq (.bool true)]
          ⟨?o0, ?o1, ?o2, ?o3, ?o4, ?o5, ?o6, ?o7, ?o8, ?o9, ?o10, ?o11, ?o12, ?o13, ?o14, ?o15, ?o16, ?o17, ?o18, ?o19, ?o20, ?o21, ?o22, ?o23, ?o24, ?o25, ?o26, ?o27, ?o28, ?o29, ?o30, ?o31, trivial⟩ ?fin
        case o0 =>
          refine GdOp.plain rfl (fun A vs w' hF hT hb hd => ?_)
          have e1 : A.eval (.tmp 5) = .bool true := hF 5 rfl
          exact BigFrame.wp_move _ rfl ⟨_, rfl, e1, Below.refl _ _⟩
        case o1 =>
          refine GdOp.plain rfl (fun A vs w' hF hT hb hd => ?_)
          have e1 : A.eval (.tmp 110) = .bool true := (hT 110 0 (by simp) rfl).trans (hd ⟨0, .data⟩ (by simp) rfl)
          exact BigFrame.wp_move _ rfl ⟨_, rfl, e1, Below.refl _ _⟩
        case o2 =>
          refine GdOp.taken rfl ⟨_, _, rfl, rfl, by simp⟩ (by kernel_rfl) (fun w v h => h) (fun A vs w' hF hT hb hd => ?_)
          have e1 : A.eval (.tmp 2) = .pointer (some ⟨w.heap.size, 0, none⟩) := hF 2 rfl
          have hb3 := bx.below hb bx.lt
          exact wp_load3 ndS rfl e1 hb3.cell0 hb3.cell1 hb3.cell2 ⟨_, rfl, rfl, Below.refl _ _⟩
        case o3 =>
          refine GdOp.taken rfl ⟨_, _, rfl, rfl, by simp⟩ (by kernel_rfl) (fun w v h => h) (fun A vs w' hF hT hb hd => ?_)
          have e1 : A.eval (.tmp 112) = .agg #[.slice a1 n.keys.length c1, .slice a2 n.chains.length c2, .slice a3 n.kids.length c3] := (hT 112 2 (by simp) rfl).trans (hd ⟨2, .data⟩ (by simp) rfl)
          refine wp_callFn rfl (enters_of Try.func22 (by kernel_rfl) rfl) (args := #[.agg #[.slice a1 n.keys.length c1, .slice a2 n.chains.length c2, .slice a3 n.kids.length c3]]) (by simp [e1]) ((hC.check w' (hr0.below (q.trans (hb.mono q.size))) hft).mono ?_)
          rintro e w2 ⟨rfl, hb2⟩
          exact ⟨_, rfl, _, rfl, congrArg Value.bool HOK.out.symm, hb2⟩
        case o4 =>
          refine GdOp.taken rfl ⟨_, _, rfl, rfl, by simp⟩ (by kernel_rfl) (fun w v h => h) (fun A vs w' hF hT hb hd => ?_)
          have e1 : A.eval (.tmp 2) = .pointer (some ⟨w.heap.size, 0, none⟩) := hF 2 rfl
          have hb3 := bx.below hb bx.lt
          exact wp_load3 ndS rfl e1 hb3.cell0 hb3.cell1 hb3.cell2 ⟨_, rfl, rfl, Below.refl _ _⟩
        case o5 =>
          refine GdOp.taken rfl ⟨_, _, rfl, rfl, by simp⟩ (by kernel_rfl) (fun w v h => h) (fun A vs w' hF hT hb hd => ?_)
          have e1 : A.eval (.tmp 114) = .agg #[.slice a1 n.keys.length c1, .slice a2 n.chains.length c2, .slice a3 n.kids.length c3] := (hT 114 4 (by simp) rfl).trans (hd ⟨4, .data⟩ (by simp) rfl)
          refine wp_callFn rfl (enters_of Try.func23 (by kernel_rfl) rfl) (args := #[.agg #[.slice a1 n.keys.length c1, .slice a2 n.chains.length c2, .slice a3 n.kids.length c3]]) (by simp [e1]) ((refCheckN_any w' (hr0.below (q.trans (hb.mono q.size))) hw6).mono ?_)
          rintro e w2 ⟨rfl, hb2⟩
          exact ⟨_, rfl, _, rfl, congrArg Value.bool HOK.out.symm, hb2⟩
        case o6 =>
          refine GdOp.taken rfl ⟨_, _, rfl, rfl, by simp⟩ (by kernel_rfl) (fun w v h => h) (fun A vs w' hF hT hb hd => ?_)
          have e1 : A.eval (.tmp 113) = .bool okb := (hT 113 3 (by simp) rfl).trans (hd ⟨3, .data⟩ (by simp) rfl)
          have e2 : A.eval (.tmp 115) = .bool okb := (hT 115 5 (by simp) rfl).trans (hd ⟨5, .data⟩ (by simp) rfl)
          exact wp_eqlB (by kernel_rfl) rfl e1 e2 ⟨_, rfl, congrArg Value.bool (by simp), Below.refl _ _⟩
        case o7 =>
          refine GdOp.plain rfl (fun A vs w' hF hT hb hd => ?_)
          have e1 : A.eval (.tmp 111) = .bool true := (hT 111 1 (by simp) rfl).trans (hd ⟨1, .data⟩ (by simp) rfl)
          have e2 : A.eval (.tmp 116) = .bool true := (hT 116 6 (by simp) rfl).trans (hd ⟨6, .data⟩ (by simp) rfl)
          exact wp_pk rfl e1 (fun _ => e2) (by simp) ⟨_, rfl, rfl, Below.refl _ _⟩
        case o8 =>
          refine GdOp.plain rfl (fun A vs w' hF hT hb hd => ?_)
          have e1 : A.eval (.tmp 117) = .bool true := (hT 117 7 (by simp) rfl).trans (hd ⟨7, .data⟩ (by simp) rfl)
          exact BigFrame.wp_move _ rfl ⟨_, rfl, e1, Below.refl _ _⟩
        case o9 =>
          refine GdOp.taken rfl ⟨_, _, rfl, rfl, by simp⟩ (by kernel_rfl) (fun w v h => h) (fun A vs w' hF hT hb hd => ?_)
          have e1 : A.eval (.tmp 13) = .bool true := hF 13 rfl
          exact BigFrame.wp_move _ rfl ⟨_, rfl, e1, Below.refl _ _⟩
        case o10 =>
          refine GdOp.plain rfl (fun A vs w' hF hT hb hd => ?_)
          have e1 : A.eval (.tmp 118) = .bool true := (hT 118 8 (by simp) rfl).trans (hd ⟨8, .data⟩ (by simp) rfl)
          have e2 : A.eval (.tmp 119) = .bool true := (hT 119 9 (by simp) rfl).trans (hd ⟨9, .data⟩ (by simp) rfl)
          exact wp_pk rfl e1 (fun _ => e2) (by simp) ⟨_, rfl, rfl, Below.refl _ _⟩
        case o11 =>
          refine GdOp.plain rfl (fun A vs w' hF hT hb hd => ?_)
          have e1 : A.eval (.tmp 120) = .bool true := (hT 120 10 (by simp) rfl).trans (hd ⟨10, .data⟩ (by simp) rfl)
          exact BigFrame.wp_move _ rfl ⟨_, rfl, e1, Below.refl _ _⟩
        case o12 =>
          refine GdOp.taken rfl ⟨_, _, rfl, rfl, by simp⟩ (by kernel_rfl) (fun w v h => h) (fun A vs w' hF hT hb hd => ?_)
          have e1 : A.eval (.tmp 2) = .pointer (some ⟨w.heap.size, 0, none⟩) := hF 2 rfl
          have hb3 := bx.below hb bx.lt
          exact wp_load3 ndS rfl e1 hb3.cell0 hb3.cell1 hb3.cell2 ⟨_, rfl, rfl, Below.refl _ _⟩
        case o13 =>
          refine GdOp.taken rfl ⟨_, _, rfl, rfl, by simp⟩ (by kernel_rfl) (fun w v h => h) (fun A vs w' hF hT hb hd => ?_)
          have e1 : A.eval (.tmp 122) = .agg #[.slice a1 n.keys.length c1, .slice a2 n.chains.length c2, .slice a3 n.kids.length c3] := (hT 122 12 (by simp) rfl).trans (hd ⟨12, .data⟩ (by simp) rfl)
          refine wp_callFn rfl (enters_of Try.func24 (by kernel_rfl) rfl) (args := #[.agg #[.slice a1 n.keys.length c1, .slice a2 n.chains.length c2, .slice a3 n.kids.length c3]]) (by simp [e1]) ((hC.many w' (hr0.below (q.trans (hb.mono q.size))) hft).mono ?_)
          rintro e w2 ⟨rfl, hb2⟩
          exact ⟨_, rfl, _, rfl, rfl, hb2⟩
        case o14 =>
          refine GdOp.taken rfl ⟨_, _, rfl, rfl, by simp⟩ (by kernel_rfl) (fun w v h => h) (fun A vs w' hF hT hb hd => ?_)
          have e1 : A.eval (.tmp 6) = .slice (some ⟨b, off, none⟩) (prN n).length cl := hF 6 rfl
          exact BigFrame.wp_move _ rfl ⟨_, rfl, e1, Below.refl _ _⟩
        case o15 =>
          refine GdOp.taken rfl ⟨_, _, rfl, rfl, by simp⟩ (by kernel_rfl) (fun w v h => h) (fun A vs w' hF hT hb hd => ?_)
          have e1 : A.eval (.tmp 124) = .slice (some ⟨b, off, none⟩) (prN n).length cl := (hT 124 14 (by simp) rfl).trans (hd ⟨14, .data⟩ (by simp) rfl)
          exact wp_lenS (e := 41) rfl (by kernel_rfl) e1 ⟨_, rfl, rfl, Below.refl _ _⟩
        case o16 =>
          refine GdOp.taken rfl ⟨_, _, rfl, rfl, by simp⟩ (by kernel_rfl) (fun w v h => h) (fun A vs w' hF hT hb hd => ?_)
          have e1 : A.eval (.tmp 123) = .int .i64 ((prN n).length : Nat) := (hT 123 13 (by simp) rfl).trans (hd ⟨13, .data⟩ (by simp) rfl)
          have e2 : A.eval (.tmp 125) = .int .i64 ((prN n).length : Nat) := (hT 125 15 (by simp) rfl).trans (hd ⟨15, .data⟩ (by simp) rfl)
          exact wp_eqlI rfl e1 e2 ⟨_, rfl, congrArg Value.bool (by simp), Below.refl _ _⟩
        case o17 =>
          refine GdOp.plain rfl (fun A vs w' hF hT hb hd => ?_)
          have e1 : A.eval (.tmp 121) = .bool true := (hT 121 11 (by simp) rfl).trans (hd ⟨11, .data⟩ (by simp) rfl)
          have e2 : A.eval (.tmp 126) = .bool true := (hT 126 16 (by simp) rfl).trans (hd ⟨16, .data⟩ (by simp) rfl)
          exact wp_pk rfl e1 (fun _ => e2) (by simp) ⟨_, rfl, rfl, Below.refl _ _⟩
        case o18 =>
          refine GdOp.plain rfl (fun A vs w' hF hT hb hd => ?_)
          have e1 : A.eval (.tmp 127) = .bool true := (hT 127 17 (by simp) rfl).trans (hd ⟨17, .data⟩ (by simp) rfl)
          exact BigFrame.wp_move _ rfl ⟨_, rfl, e1, Below.refl _ _⟩
        case o19 =>
          refine GdOp.taken rfl ⟨_, _, rfl, rfl, by simp⟩ (by kernel_rfl) (fun w v h => h) (fun A vs w' hF hT hb hd => ?_)
          have e1 : A.eval (.tmp 2) = .pointer (some ⟨w.heap.size, 0, none⟩) := hF 2 rfl
          have hb3 := bx.below hb bx.lt
          exact wp_load3 ndS rfl e1 hb3.cell0 hb3.cell1 hb3.cell2 ⟨_, rfl, rfl, Below.refl _ _⟩
        case o20 =>
          refine GdOp.taken rfl ⟨_, _, rfl, rfl, by simp⟩ (by kernel_rfl) (fun w v h => h) (fun A vs w' hF hT hb hd => ?_)
          have e1 : A.eval (.tmp 129) = .agg #[.slice a1 n.keys.length c1, .slice a2 n.chains.length c2, .slice a3 n.kids.length c3] := (hT 129 19 (by simp) rfl).trans (hd ⟨19, .data⟩ (by simp) rfl)
          refine wp_callFn rfl (enters_of Try.func25 (by kernel_rfl) rfl) (args := #[.agg #[.slice a1 n.keys.length c1, .slice a2 n.chains.length c2, .slice a3 n.kids.length c3]]) (by simp [e1]) ((hC.depth w' (hr0.below (q.trans (hb.mono q.size))) hft).mono ?_)
          rintro e w2 ⟨rfl, hb2⟩
          exact ⟨_, rfl, _, rfl, rfl, hb2⟩
        case o21 =>
          refine GdOp.taken rfl ⟨_, _, rfl, rfl, by simp⟩ (by kernel_rfl) (fun w v h => h) (fun A vs w' hF hT hb hd => ?_)
          have e1 : A.eval (.tmp 2) = .pointer (some ⟨w.heap.size, 0, none⟩) := hF 2 rfl
          have hb3 := bx.below hb bx.lt
          exact wp_load3 ndS rfl e1 hb3.cell0 hb3.cell1 hb3.cell2 ⟨_, rfl, rfl, Below.refl _ _⟩
        case o22 =>
          refine GdOp.taken rfl ⟨_, _, rfl, rfl, by simp⟩ (by kernel_rfl) (fun w v h => h) (fun A vs w' hF hT hb hd => ?_)
          have e1 : A.eval (.tmp 131) = .agg #[.slice a1 n.keys.length c1, .slice a2 n.chains.length c2, .slice a3 n.kids.length c3] := (hT 131 21 (by simp) rfl).trans (hd ⟨21, .data⟩ (by simp) rfl)
          refine wp_callFn rfl (enters_of Try.func26 (by kernel_rfl) rfl) (args := #[.agg #[.slice a1 n.keys.length c1, .slice a2 n.chains.length c2, .slice a3 n.kids.length c3]]) (by simp [e1]) ((refDepth_any w' (hr0.below (q.trans (hb.mono q.size))) hw6).mono ?_)
          rintro e w2 ⟨rfl, hb2⟩
          exact ⟨_, rfl, _, rfl, rfl, hb2⟩
        case o23 =>
          refine GdOp.taken rfl ⟨_, _, rfl, rfl, by simp⟩ (by kernel_rfl) (fun w v h => h) (fun A vs w' hF hT hb hd => ?_)
          have e1 : A.eval (.tmp 130) = .int .i64 (depN n) := (hT 130 20 (by simp) rfl).trans (hd ⟨20, .data⟩ (by simp) rfl)
          have e2 : A.eval (.tmp 132) = .int .i64 (depN n) := (hT 132 22 (by simp) rfl).trans (hd ⟨22, .data⟩ (by simp) rfl)
          exact wp_eqlI rfl e1 e2 ⟨_, rfl, congrArg Value.bool (by simp), Below.refl _ _⟩
        case o24 =>
          refine GdOp.plain rfl (fun A vs w' hF hT hb hd => ?_)
          have e1 : A.eval (.tmp 128) = .bool true := (hT 128 18 (by simp) rfl).trans (hd ⟨18, .data⟩ (by simp) rfl)
          have e2 : A.eval (.tmp 133) = .bool true := (hT 133 23 (by simp) rfl).trans (hd ⟨23, .data⟩ (by simp) rfl)
          exact wp_pk rfl e1 (fun _ => e2) (by simp) ⟨_, rfl, rfl, Below.refl _ _⟩
        case o25 =>
          refine GdOp.plain rfl (fun A vs w' hF hT hb hd => ?_)
          have e1 : A.eval (.tmp 134) = .bool true := (hT 134 24 (by simp) rfl).trans (hd ⟨24, .data⟩ (by simp) rfl)
          exact BigFrame.wp_move _ rfl ⟨_, rfl, e1, Below.refl _ _⟩
        case o26 =>
          refine GdOp.taken rfl ⟨_, _, rfl, rfl, by simp⟩ (by kernel_rfl) (fun w v h => h) (fun A vs w' hF hT hb hd => ?_)
          have e1 : A.eval (.tmp 14) = .bool true := hF 14 rfl
          exact BigFrame.wp_move _ rfl ⟨_, rfl, e1, Below.refl _ _⟩
        case o27 =>
          refine GdOp.plain rfl (fun A vs w' hF hT hb hd => ?_)
          have e1 : A.eval (.tmp 135) = .bool true := (hT 135 25 (by simp) rfl).trans (hd ⟨25, .data⟩ (by simp) rfl)
          have e2 : A.eval (.tmp 136) = .bool true := (hT 136 26 (by simp) rfl).trans (hd ⟨26, .data⟩ (by simp) rfl)
          exact wp_pk rfl e1 (fun _ => e2) (by simp) ⟨_, rfl, rfl, Below.refl _ _⟩
        case o28 =>
          refine GdOp.plain rfl (fun A vs w' hF hT hb hd => ?_)
          have e1 : A.eval (.tmp 137) = .bool true := (hT 137 27 (by simp) rfl).trans (hd ⟨27, .data⟩ (by simp) rfl)
          exact BigFrame.wp_move _ rfl ⟨_, rfl, e1, Below.refl _ _⟩
        case o29 =>
          refine GdOp.taken rfl ⟨_, _, rfl, rfl, by simp⟩ (by kernel_rfl) (fun w v h => h) (fun A vs w' hF hT hb hd => ?_)
          have e1 : A.eval (.tmp 15) = .bool true := hF 15 rfl
          exact BigFrame.wp_move _ rfl ⟨_, rfl, e1, Below.refl _ _⟩
        case o30 =>
          refine GdOp.plain rfl (fun A vs w' hF hT hb hd => ?_)
          have e1 : A.eval (.tmp 138) = .bool true := (hT 138 28 (by simp) rfl).trans (hd ⟨28, .data⟩ (by simp) rfl)
          have e2 : A.eval (.tmp 139) = .bool true := (hT 139 29 (by simp) rfl).trans (hd ⟨29, .data⟩ (by simp) rfl)
          exact wp_pk rfl e1 (fun _ => e2) (by simp) ⟨_, rfl, rfl, Below.refl _ _⟩
        case o31 =>
          refine GdOp.plain rfl (fun A vs w' hF hT hb hd => ?_)
          have e1 : A.eval (.tmp 140) = .bool true := (hT 140 30 (by simp) rfl).trans (hd ⟨30, .data⟩ (by simp) rfl)
          exact BigFrame.wp_assign _ rfl ⟨_, rfl, e1, Below.refl _ _⟩
        case fin =>
          intro A vs w' hA hb hG
          have e4 : A.eval (.tmp 4) = .bool true := (hA.2.2.2 4 31 (by simp) rfl).trans (hG 31 (by decide))
          have hd : A.defers = [] := hA.1
          clear hG hA
          go_wp2
          refine bodyPost_ret (v := .bool true) ?_ hd ⟨rfl, q.trans (hb.mono q.size)⟩
          rw [← e4]
          exact results_tmp rfl _ _ _
end Go.Proofs.Ytdegjkfjaklkjaa
