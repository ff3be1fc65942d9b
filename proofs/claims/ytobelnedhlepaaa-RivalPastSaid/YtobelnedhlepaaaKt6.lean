/-
  TEXTS OF ONE PROOF, merged: RvB, SpC, RvF, RvH, RpA, RpB, Range, Rnh, Quo, Col, Hlf.
-/
import Derived.BigFrameIn
import Derived.Lib.AppendZerosOnto
import Derived.Lib.ConvBytes
import Derived.Lib.Overlaps
import Derived.OwnWalkIn
import Derived.RangeFuncBound
import Derived.RangeFuncFrom
import Derived.RangeFuncLeaves
import Derived.RangeFuncNested
import Derived.Test.YtobelnedhlepaaaKt5
namespace Go.Proofs.Ytobelnedhlepaaa
open Go.RowKit Go.Shelf
theorem any_snoc {α : Type} {f : α → Bool} {l : List α} {k : Nat} (hlt : k < l.length) : (l.take (k + 1)).any f = ((l.take k).any f || f l[k]) := by
  rw [List.take_succ_eq_append_getElem hlt, List.any_append]
  simp
set_option maxRecDepth 100000 in
set_option maxHeartbeats 16000000 in
theorem rJudge_any (w : World) {S S2 S3 S4 : Nat → Prop} {v : Value} {me : Lv} {a a2 a3 : Option Addr} {n cx n2 cy n3 cz : Nat} {ws : List Wr} {l : List Ps} {lv : List Lv} (hme : RdLv S w v me) (hws : RdL Elt.wr S2 w (.slice a n cx) ws) (hl : RdL Elt.ps S3 w (.slice a2 n2 cy) l) (hlv : RdL Elt.lv S4 w (.slice a3 n3 cz) lv) (hsm : smPs l) :
    Calls Try.prog 13 #[v, .slice a n cx, .slice a2 n2 cy, .slice a3 n3 cz] w fun e w' => e = .returned (.tuple #[.bool (judgeP me ws l lv).1, .int .i64 ((judgeP me ws l lv).2 : Int)]) ∧ Below w.heap.size w w' := by
  obtain ⟨aR, cR, rfl, hR, hw64⟩ := hme
  obtain ⟨W, hW, q0, Bx, hsz⟩ := spBox w 24 [.int .i64 me.snap, .slice aR me.reads.length cR]
  have eH : ∀ args w, (callFunc 19 args).run Try.prog w = .ok (.enter 19 args) w := enters_of Try.func19 (by kernel_rfl) rfl
  unfold judgeP
  go_enter Try.func13, Try.ntmps13
  go_upto_region 1 with (fail)
  rw [show w.alloc (.cells #[.int .i64 me.snap, .slice aR me.reads.length cR] 24) = W from hW.symm]
  clear hW
  have r0 := Bx.cell (i := 0) rfl
  have r1 := Bx.cell (i := 1) rfl
  clear Bx
  go_wp2_with fail
  refine (rMeets_any W hw64 (hl.below q0) hsm).mono ?_
  rintro e w1 ⟨aM, cM, rfl, hO, hb⟩
  have hM : RdL Elt.ps (fun _ => True) w1 (.slice aM (meetsP me.snap l).length cM) (meetsP me.snap l) := hO.rdL.weak fun _ _ => trivial
  clear hO r0
  replace r1 := (hb.cell (p := ⟨_, _, none⟩) (cell_lt r1)).trans r1
  have q1 := q0.trans (hb.mono q0.size)
  clear hb
  obtain ⟨M, eM⟩ : ∃ M, M = meetsP me.snap l := ⟨_, rfl⟩
  rw [← eM] at hM
  rw [← eM]
  replace eM := Lib.hid eM
  replace hR := hR.below q1
  replace hws := hws.below q1
  replace hlv := hlv.below q1
  clear hl q0 hsm hw64
  obtain ⟨_, hnc, hcm⟩ := hM.len
  have hlm : M.length ≤ 9223372036854775807 := by unfold maxLen at hcm; omega
  obtain ⟨rfl, hnc2, hcm2⟩ := hlv.len
  have hmm : lv.length ≤ 9223372036854775807 := by unfold maxLen at hcm2; omega
  clear hnc hnc2 hcm hcm2
  have q := Below.refl w1.heap.size w1
  go_upto_region 5 with (fail)
  go_loopw [11, 12, 13] (fun ov nv iv wr => ∃ (i : Nat), iv = .int .i64 i ∧ i ≤ M.length ∧ ov = .bool ((M.take i).any (overP me.reads)) ∧ nv = .bool ((M.take i).any (underP ws)) ∧ (M.take i).any (badP me.reads ws) = false ∧ Below w1.heap.size w1 wr) (fun _ _ i _ => M.length - (intOf i).toNat)
  case atStart => exact ⟨0, rfl, Nat.zero_le _, by simp, by simp, by simp, q⟩
  case round =>
    clear q
    obtain ⟨i, rfl, hil, rfl, rfl, hno, q⟩ := hrel
    rcases Nat.lt_or_ge i M.length with hlt | hge
    · have di : decide ((i : Int) < (M.length : Int)) = true := decide_eq_true (by omega)
      obtain ⟨g1, o1, A1, A2, A3, A4, rfl, _, ⟨_, _, _, c3, c4, c5⟩, hk1, hk2, _⟩ := (hM.below q).ps i hlt
      have hyes := fun h : badP me.reads ws M[i] = true => show M.any (badP me.reads ws) = true from List.any_eq_true.2 ⟨_, List.getElem_mem hlt, h⟩
      have hso := any_snoc (f := overP me.reads) hlt
      have hsn := any_snoc (f := underP ws) hlt
      have hsb := any_snoc (f := badP me.reads ws) hlt
      rw [hno] at hsb
      obtain ⟨p, ep⟩ : ∃ p, p = M[i] := ⟨_, rfl⟩
      rw [← ep] at c3 c4 c5 hk1 hk2 hyes hso hsn hsb
      clear ep hno
      rw [show badP me.reads ws p = (sameW p.writes ws || (hitL me.reads p.writes && p.out)) from rfl] at hyes hsb
      rw [show overP me.reads p = hitL me.reads p.writes from rfl] at hso
      rw [show underP ws p = hitL p.reads ws from rfl] at hsn
      obtain ⟨bo, ebo⟩ : ∃ b, b = (M.take i).any (overP me.reads) := ⟨_, rfl⟩
      obtain ⟨bn, ebn⟩ : ∃ b, b = (M.take i).any (underP ws) := ⟨_, rfl⟩
      rw [← ebo] at hso
      rw [← ebn] at hsn
      rw [← ebo, ← ebn]
      clear ebo ebn
      replace hR := hR.below q
      replace hws := hws.below q
      replace r1 := (q.cell (p := ⟨_, _, none⟩) (cell_lt r1)).trans r1
      replace hso := Lib.hid hso
      replace hsn := Lib.hid hsn
      replace hsb := Lib.hid hsb
      replace hyes := Lib.hid hyes
      go_wp2_with fail
      refine (rSameW_any wr hk2 hws).mono ?_
      rintro e w2 ⟨rfl, hb⟩
      replace c3 := (hb.cell (p := ⟨_, _, none⟩) (cell_lt c3)).trans c3
      replace c4 := (hb.cell (p := ⟨_, _, none⟩) (cell_lt c4)).trans c4
      replace c5 := (hb.cell (p := ⟨_, _, none⟩) (cell_lt c5)).trans c5
      replace r1 := (hb.cell (p := ⟨_, _, none⟩) (cell_lt r1)).trans r1
      replace hR := hR.below hb
      replace hk1 := hk1.below hb
      replace hk2 := hk2.below hb
      replace hws := hws.below hb
      replace q := q.trans (hb.mono q.size)
      clear hb
      go_upto_region 8 with (fail)
      refine wp_region_gsg (by kernel_rfl) (by kernel_rfl) [sgEq (.pointer (some ⟨w.heap.size, 0 + 1, none⟩)), sgEq (.slice aR me.reads.length cR), sgEq (.slice (some ⟨g1, o1, none⟩) M.length cM), sgEq (.int .i64 (i : Int)), sgEq (.pointer (some ⟨g1, o1 + i * 6, none⟩)), sgEq (.pointer (some ⟨g1, o1 + i * 6 + 4, none⟩)), sgEq (.slice A3 p.writes.length A4), sgEq (.bool (hitL me.reads p.writes)), sgEq (.bool (hitL me.reads p.writes))]
        ⟨?o0, ?o1, ?o2, ?o3, ?o4, ?o5, ?o6, ?o7, ?o8, trivial⟩ ?fin
      case o0 =>
        refine GdOp.plain rfl (fun A vs w' hF hT hb hd => ?_)
        have e1 : A.eval (.tmp 4) = .pointer (some ⟨w.heap.size, 0, none⟩) := hF 4 rfl
        exact wp_fieldN lvS rfl (e1) (by omega) ⟨_, rfl, rfl, Below.refl _ _⟩
      case o1 =>
        refine GdOp.plain rfl (fun A vs w' hF hT hb hd => ?_)
        have e1 : A.eval (.tmp 36) = .pointer (some ⟨w.heap.size, 0 + 1, none⟩) := (hT 36 0 (by simp) rfl).trans (hd ⟨0, .data⟩ (by simp) rfl)
        exact wp_ld_slice (e := 57) rfl e1 (by kernel_rfl) (((hb.cell (p := ⟨_, _, none⟩) (cell_lt r1)).trans r1)) ⟨_, rfl, rfl, Below.refl _ _⟩
      case o2 =>
        refine GdOp.plain rfl (fun A vs w' hF hT hb hd => ?_)
        have e1 : A.eval (.tmp 10) = .slice (some ⟨g1, o1, none⟩) M.length cM := hF 10 rfl
        exact BigFrame.wp_move _ rfl ⟨_, rfl, e1, Below.refl _ _⟩
      case o3 =>
        refine GdOp.plain rfl (fun A vs w' hF hT hb hd => ?_)
        have e1 : A.eval (.tmp 13) = .int .i64 (i : Int) := hF 13 rfl
        exact BigFrame.wp_move _ rfl ⟨_, rfl, e1, Below.refl _ _⟩
      case o4 =>
        refine GdOp.plain rfl (fun A vs w' hF hT hb hd => ?_)
        have e1 : A.eval (.tmp 38) = .slice (some ⟨g1, o1, none⟩) M.length cM := (hT 38 2 (by simp) rfl).trans (hd ⟨2, .data⟩ (by simp) rfl)
        have e2 : A.eval (.tmp 39) = .int .i64 (i : Int) := (hT 39 3 (by simp) rfl).trans (hd ⟨3, .data⟩ (by simp) rfl)
        exact wp_ixN (e := 50) rfl (by kernel_rfl) (by kernel_rfl) (e1) (e2) rfl (by omega) ⟨_, rfl, rfl, Below.refl _ _⟩
      case o5 =>
        refine GdOp.plain rfl (fun A vs w' hF hT hb hd => ?_)
        have e1 : A.eval (.tmp 40) = .pointer (some ⟨g1, o1 + i * 6, none⟩) := (hT 40 4 (by simp) rfl).trans (hd ⟨4, .data⟩ (by simp) rfl)
        exact wp_fieldN psS rfl (e1) (by omega) ⟨_, rfl, rfl, Below.refl _ _⟩
      case o6 =>
        refine GdOp.plain rfl (fun A vs w' hF hT hb hd => ?_)
        have e1 : A.eval (.tmp 41) = .pointer (some ⟨g1, o1 + i * 6 + 4, none⟩) := (hT 41 5 (by simp) rfl).trans (hd ⟨5, .data⟩ (by simp) rfl)
        exact wp_ld_slice (e := 59) rfl e1 (by kernel_rfl) (((hb.cell (p := ⟨_, _, none⟩) (cell_lt c4)).trans c4)) ⟨_, rfl, rfl, Below.refl _ _⟩
      case o7 =>
        refine GdOp.plain rfl (fun A vs w' hF hT hb hd => ?_)
        have e1 : A.eval (.tmp 37) = .slice aR me.reads.length cR := (hT 37 1 (by simp) rfl).trans (hd ⟨1, .data⟩ (by simp) rfl)
        have e2 : A.eval (.tmp 42) = .slice A3 p.writes.length A4 := (hT 42 6 (by simp) rfl).trans (hd ⟨6, .data⟩ (by simp) rfl)
        refine wp_callFn rfl eH (args := #[.slice aR me.reads.length cR, .slice A3 p.writes.length A4]) (by simp only [List.map_toArray, List.map_cons, List.map_nil, e1, e2]) ((rHit_any w' (hR.below hb) (hk2.below hb)).mono ?_)
        rintro e w2 ⟨rfl, hb2⟩
        exact ⟨_, rfl, _, rfl, rfl, hb2⟩
      case o8 =>
        refine GdOp.plain rfl (fun A vs w' hF hT hb hd => ?_)
        have e1 : A.eval (.tmp 43) = .bool (hitL me.reads p.writes) := (hT 43 7 (by simp) rfl).trans (hd ⟨7, .data⟩ (by simp) rfl)
        exact BigFrame.wp_assign _ rfl ⟨_, rfl, e1, Below.refl _ _⟩
      case fin =>
      intro vs9 W9 hb9 hG9
      have e0 : vs9 0 = .pointer (some ⟨w.heap.size, 0 + 1, none⟩) := hG9 0 (by decide)
      have e1 : vs9 1 = .slice aR me.reads.length cR := hG9 1 (by decide)
      have e2 : vs9 2 = .slice (some ⟨g1, o1, none⟩) M.length cM := hG9 2 (by decide)
      have e3 : vs9 3 = .int .i64 (i : Int) := hG9 3 (by decide)
      have e4 : vs9 4 = .pointer (some ⟨g1, o1 + i * 6, none⟩) := hG9 4 (by decide)
      have e5 : vs9 5 = .pointer (some ⟨g1, o1 + i * 6 + 4, none⟩) := hG9 5 (by decide)
      have e6 : vs9 6 = .slice A3 p.writes.length A4 := hG9 6 (by decide)
      have e7 : vs9 7 = .bool (hitL me.reads p.writes) := hG9 7 (by decide)
      have e8 : vs9 8 = .bool (hitL me.reads p.writes) := hG9 8 (by decide)
      simp only [putAll, e0, e1, e2, e3, e4, e5, e6, e7, e8]
      clear hG9 e0 e1 e2 e3 e4 e5 e6 e7 e8
      replace hR := hR.below hb9
      replace hk1 := hk1.below hb9
      replace hk2 := hk2.below hb9
      replace hws := hws.below hb9
      replace q := q.trans (hb9.mono q.size)
      replace r1 := (hb9.cell (p := ⟨_, _, none⟩) (cell_lt r1)).trans r1
      replace c5 := (hb9.cell (p := ⟨_, _, none⟩) (cell_lt c5)).trans c5
      replace c4 := (hb9.cell (p := ⟨_, _, none⟩) (cell_lt c4)).trans c4
      replace c3 := (hb9.cell (p := ⟨_, _, none⟩) (cell_lt c3)).trans c3
      clear hb9
      go_simp
      go_wp2_with fail
      refine (rHit_any _ hk1 hws).mono ?_
      rintro e w4 ⟨rfl, hb⟩
      replace c5 := (hb.cell (p := ⟨_, _, none⟩) (cell_lt c5)).trans c5
      replace q := q.trans (hb.mono q.size)
      clear hb
      clear r1 c3 c4 hR hk1 hk2 hws hM hlv
      obtain ⟨bs, ebs⟩ : ∃ b, b = sameW p.writes ws := ⟨_, rfl⟩
      obtain ⟨bv, ebv⟩ : ∃ b, b = hitL me.reads p.writes := ⟨_, rfl⟩
      obtain ⟨bu, ebu⟩ : ∃ b, b = hitL p.reads ws := ⟨_, rfl⟩
      obtain ⟨bp, ebp⟩ : ∃ b, b = p.out := ⟨_, rfl⟩
      replace hso := hso.out
      replace hsn := hsn.out
      replace hsb := hsb.out
      replace hyes := hyes.out
      rw [← ebs, ← ebv, ← ebp] at hsb hyes
      rw [← ebv] at hso
      rw [← ebu] at hsn
      rw [← ebp] at c5
      rw [← ebs, ← ebv, ← ebu]
      clear ebs ebv ebu ebp
      replace hso := Lib.hid hso
      replace hsn := Lib.hid hsn
      replace hsb := Lib.hid hsb
      replace hyes := Lib.hid hyes
      cases bs with
      | true =>
        have hy9 : M.any (badP me.reads ws) = true := hyes.out (by simp)
        have HK := Lib.hid (show judgeM me.reads ws (meetsP me.snap l) lv = (false, 140) by rw [← eM.out]; unfold judgeM; rw [if_pos hy9])
        clear hy9
        clear hso hsn hsb hyes
        go_wp2_with fail
        go_ret2
        exact ⟨by rw [HK.out]; rfl, q1.trans (q.mono q1.size)⟩
      | false =>
        cases bv with
        | true =>
          cases bp with
          | true =>
            have hy9 : M.any (badP me.reads ws) = true := hyes.out (by simp)
            have HK := Lib.hid (show judgeM me.reads ws (meetsP me.snap l) lv = (false, 140) by rw [← eM.out]; unfold judgeM; rw [if_pos hy9])
            clear hy9
            clear hso hsn hsb hyes
            go_wp2_with fail
            go_ret2
            exact ⟨by rw [HK.out]; rfl, q1.trans (q.mono q1.size)⟩
          | false =>
            cases bo with
            | true =>
              cases bn with
              | true =>
                cases bu with
                | true =>
                  have k1 := Lib.hid (show (M.take (i + 1)).any (overP me.reads) = true by rw [hso.out]; rfl)
                  have k2 := Lib.hid (show (M.take (i + 1)).any (underP ws) = true by rw [hsn.out]; rfl)
                  have k3 := Lib.hid (show (M.take (i + 1)).any (badP me.reads ws) = false by rw [hsb.out]; rfl)
                  clear hso hsn hsb hyes
                  go_wp2_with fail
                  go_roundw
                  case rel => exact ⟨i + 1, by go_num, by omega, by rw [k1.out], by rw [k2.out], k3.out, q⟩
                  case measure => simp [intOf]; omega
                | false =>
                  have k1 := Lib.hid (show (M.take (i + 1)).any (overP me.reads) = true by rw [hso.out]; rfl)
                  have k2 := Lib.hid (show (M.take (i + 1)).any (underP ws) = true by rw [hsn.out]; rfl)
                  have k3 := Lib.hid (show (M.take (i + 1)).any (badP me.reads ws) = false by rw [hsb.out]; rfl)
                  clear hso hsn hsb hyes
                  go_wp2_with fail
                  go_roundw
                  case rel => exact ⟨i + 1, by go_num, by omega, by rw [k1.out], by rw [k2.out], k3.out, q⟩
                  case measure => simp [intOf]; omega
              | false =>
                cases bu with
                | true =>
                  have k1 := Lib.hid (show (M.take (i + 1)).any (overP me.reads) = true by rw [hso.out]; rfl)
                  have k2 := Lib.hid (show (M.take (i + 1)).any (underP ws) = true by rw [hsn.out]; rfl)
                  have k3 := Lib.hid (show (M.take (i + 1)).any (badP me.reads ws) = false by rw [hsb.out]; rfl)
                  clear hso hsn hsb hyes
                  go_wp2_with fail
                  go_roundw
                  case rel => exact ⟨i + 1, by go_num, by omega, by rw [k1.out], by rw [k2.out], k3.out, q⟩
                  case measure => simp [intOf]; omega
                | false =>
                  have k1 := Lib.hid (show (M.take (i + 1)).any (overP me.reads) = true by rw [hso.out]; rfl)
                  have k2 := Lib.hid (show (M.take (i + 1)).any (underP ws) = false by rw [hsn.out]; rfl)
                  have k3 := Lib.hid (show (M.take (i + 1)).any (badP me.reads ws) = false by rw [hsb.out]; rfl)
                  clear hso hsn hsb hyes
                  go_wp2_with fail
                  go_roundw
                  case rel => exact ⟨i + 1, by go_num, by omega, by rw [k1.out], by rw [k2.out], k3.out, q⟩
                  case measure => simp [intOf]; omega
            | false =>
              cases bn with
              | true =>
                cases bu with
                | true =>
                  have k1 := Lib.hid (show (M.take (i + 1)).any (overP me.reads) = true by rw [hso.out]; rfl)
                  have k2 := Lib.hid (show (M.take (i + 1)).any (underP ws) = true by rw [hsn.out]; rfl)
                  have k3 := Lib.hid (show (M.take (i + 1)).any (badP me.reads ws) = false by rw [hsb.out]; rfl)
                  clear hso hsn hsb hyes
                  go_wp2_with fail
                  go_roundw
                  case rel => exact ⟨i + 1, by go_num, by omega, by rw [k1.out], by rw [k2.out], k3.out, q⟩
                  case measure => simp [intOf]; omega
                | false =>
                  have k1 := Lib.hid (show (M.take (i + 1)).any (overP me.reads) = true by rw [hso.out]; rfl)
                  have k2 := Lib.hid (show (M.take (i + 1)).any (underP ws) = true by rw [hsn.out]; rfl)
                  have k3 := Lib.hid (show (M.take (i + 1)).any (badP me.reads ws) = false by rw [hsb.out]; rfl)
                  clear hso hsn hsb hyes
                  go_wp2_with fail
                  go_roundw
                  case rel => exact ⟨i + 1, by go_num, by omega, by rw [k1.out], by rw [k2.out], k3.out, q⟩
                  case measure => simp [intOf]; omega
              | false =>
                cases bu with
                | true =>
                  have k1 := Lib.hid (show (M.take (i + 1)).any (overP me.reads) = true by rw [hso.out]; rfl)
                  have k2 := Lib.hid (show (M.take (i + 1)).any (underP ws) = true by rw [hsn.out]; rfl)
                  have k3 := Lib.hid (show (M.take (i + 1)).any (badP me.reads ws) = false by rw [hsb.out]; rfl)
                  clear hso hsn hsb hyes
                  go_wp2_with fail
                  go_roundw
                  case rel => exact ⟨i + 1, by go_num, by omega, by rw [k1.out], by rw [k2.out], k3.out, q⟩
                  case measure => simp [intOf]; omega
                | false =>
                  have k1 := Lib.hid (show (M.take (i + 1)).any (overP me.reads) = true by rw [hso.out]; rfl)
                  have k2 := Lib.hid (show (M.take (i + 1)).any (underP ws) = false by rw [hsn.out]; rfl)
                  have k3 := Lib.hid (show (M.take (i + 1)).any (badP me.reads ws) = false by rw [hsb.out]; rfl)
                  clear hso hsn hsb hyes
                  go_wp2_with fail
                  go_roundw
                  case rel => exact ⟨i + 1, by go_num, by omega, by rw [k1.out], by rw [k2.out], k3.out, q⟩
                  case measure => simp [intOf]; omega
        | false =>
          cases bo with
          | true =>
            cases bn with
            | true =>
              cases bu with
              | true =>
                have k1 := Lib.hid (show (M.take (i + 1)).any (overP me.reads) = true by rw [hso.out]; rfl)
                have k2 := Lib.hid (show (M.take (i + 1)).any (underP ws) = true by rw [hsn.out]; rfl)
                have k3 := Lib.hid (show (M.take (i + 1)).any (badP me.reads ws) = false by rw [hsb.out]; rfl)
                clear hso hsn hsb hyes
                go_wp2_with fail
                go_roundw
                case rel => exact ⟨i + 1, by go_num, by omega, by rw [k1.out], by rw [k2.out], k3.out, q⟩
                case measure => simp [intOf]; omega
              | false =>
                have k1 := Lib.hid (show (M.take (i + 1)).any (overP me.reads) = true by rw [hso.out]; rfl)
                have k2 := Lib.hid (show (M.take (i + 1)).any (underP ws) = true by rw [hsn.out]; rfl)
                have k3 := Lib.hid (show (M.take (i + 1)).any (badP me.reads ws) = false by rw [hsb.out]; rfl)
                clear hso hsn hsb hyes
                go_wp2_with fail
                go_roundw
                case rel => exact ⟨i + 1, by go_num, by omega, by rw [k1.out], by rw [k2.out], k3.out, q⟩
                case measure => simp [intOf]; omega
            | false =>
              cases bu with
              | true =>
                have k1 := Lib.hid (show (M.take (i + 1)).any (overP me.reads) = true by rw [hso.out]; rfl)
                have k2 := Lib.hid (show (M.take (i + 1)).any (underP ws) = true by rw [hsn.out]; rfl)
                have k3 := Lib.hid (show (M.take (i + 1)).any (badP me.reads ws) = false by rw [hsb.out]; rfl)
                clear hso hsn hsb hyes
                go_wp2_with fail
                go_roundw
                case rel => exact ⟨i + 1, by go_num, by omega, by rw [k1.out], by rw [k2.out], k3.out, q⟩
                case measure => simp [intOf]; omega
              | false =>
                have k1 := Lib.hid (show (M.take (i + 1)).any (overP me.reads) = true by rw [hso.out]; rfl)
                have k2 := Lib.hid (show (M.take (i + 1)).any (underP ws) = false by rw [hsn.out]; rfl)
                have k3 := Lib.hid (show (M.take (i + 1)).any (badP me.reads ws) = false by rw [hsb.out]; rfl)
                clear hso hsn hsb hyes
                go_wp2_with fail
                go_roundw
                case rel => exact ⟨i + 1, by go_num, by omega, by rw [k1.out], by rw [k2.out], k3.out, q⟩
                case measure => simp [intOf]; omega
          | false =>
            cases bn with
            | true =>
              cases bu with
              | true =>
                have k1 := Lib.hid (show (M.take (i + 1)).any (overP me.reads) = false by rw [hso.out]; rfl)
                have k2 := Lib.hid (show (M.take (i + 1)).any (underP ws) = true by rw [hsn.out]; rfl)
                have k3 := Lib.hid (show (M.take (i + 1)).any (badP me.reads ws) = false by rw [hsb.out]; rfl)
                clear hso hsn hsb hyes
                go_wp2_with fail
                go_roundw
                case rel => exact ⟨i + 1, by go_num, by omega, by rw [k1.out], by rw [k2.out], k3.out, q⟩
                case measure => simp [intOf]; omega
              | false =>
                have k1 := Lib.hid (show (M.take (i + 1)).any (overP me.reads) = false by rw [hso.out]; rfl)
                have k2 := Lib.hid (show (M.take (i + 1)).any (underP ws) = true by rw [hsn.out]; rfl)
                have k3 := Lib.hid (show (M.take (i + 1)).any (badP me.reads ws) = false by rw [hsb.out]; rfl)
                clear hso hsn hsb hyes
                go_wp2_with fail
                go_roundw
                case rel => exact ⟨i + 1, by go_num, by omega, by rw [k1.out], by rw [k2.out], k3.out, q⟩
                case measure => simp [intOf]; omega
            | false =>
              cases bu with
              | true =>
                have k1 := Lib.hid (show (M.take (i + 1)).any (overP me.reads) = false by rw [hso.out]; rfl)
                have k2 := Lib.hid (show (M.take (i + 1)).any (underP ws) = true by rw [hsn.out]; rfl)
                have k3 := Lib.hid (show (M.take (i + 1)).any (badP me.reads ws) = false by rw [hsb.out]; rfl)
                clear hso hsn hsb hyes
                go_wp2_with fail
                go_roundw
                case rel => exact ⟨i + 1, by go_num, by omega, by rw [k1.out], by rw [k2.out], k3.out, q⟩
                case measure => simp [intOf]; omega
              | false =>
                have k1 := Lib.hid (show (M.take (i + 1)).any (overP me.reads) = false by rw [hso.out]; rfl)
                have k2 := Lib.hid (show (M.take (i + 1)).any (underP ws) = false by rw [hsn.out]; rfl)
                have k3 := Lib.hid (show (M.take (i + 1)).any (badP me.reads ws) = false by rw [hsb.out]; rfl)
                clear hso hsn hsb hyes
                go_wp2_with fail
                go_roundw
                case rel => exact ⟨i + 1, by go_num, by omega, by rw [k1.out], by rw [k2.out], k3.out, q⟩
                case measure => simp [intOf]; omega
    · obtain rfl : i = M.length := by omega
      have di : decide ((M.length : Int) < (M.length : Int)) = false := decide_eq_false (by omega)
      rw [List.take_length] at hno
      rw [List.take_length]
      replace hno := Lib.hid hno
      obtain ⟨bo, ebo⟩ : ∃ b, b = M.any (overP me.reads) := ⟨_, rfl⟩
      rw [← ebo]
      replace ebo := Lib.hid ebo
      clear hM
      go_upto_region 15 with (fail)
      clear di
      go_loopw [12, 17] (fun nv kv wr => ∃ (k : Nat), kv = .int .i64 k ∧ k ≤ lv.length ∧ nv = .bool (M.any (underP ws) || (lv.take k).any (underL ws)) ∧ Below w1.heap.size w1 wr) (fun _ k _ => lv.length - (intOf k).toNat)
      case atStart => exact ⟨0, rfl, Nat.zero_le _, by simp, q⟩
      case round =>
        clear q
        obtain ⟨k, rfl, hkl, rfl, q⟩ := hrel
        rcases Nat.lt_or_ge k lv.length with hlt | hge
        · have dk : decide ((k : Int) < (lv.length : Int)) = true := decide_eq_true (by omega)
          obtain ⟨g2, o2, B1, B2, rfl, _, _, d1, hk1, _⟩ := (hlv.below q).lv k hlt
          have hsn := any_snoc (f := underL ws) hlt
          rw [show underL ws lv[k] = hitL lv[k].reads ws from rfl] at hsn
          replace hsn := show (M.any (underP ws) || (lv.take (k + 1)).any (underL ws)) = ((M.any (underP ws) || (lv.take k).any (underL ws)) || hitL lv[k].reads ws) by rw [hsn, Bool.or_assoc]
          obtain ⟨x, ex⟩ : ∃ x, x = lv[k] := ⟨_, rfl⟩
          rw [← ex] at d1 hk1 hsn
          clear ex
          obtain ⟨bn, ebn⟩ : ∃ b, b = (M.any (underP ws) || (lv.take k).any (underL ws)) := ⟨_, rfl⟩
          rw [← ebn] at hsn
          rw [← ebn]
          clear ebn
          replace hsn := Lib.hid hsn
          go_wp2_with fail
          refine (rHit_any _ hk1 (hws.below q)).mono ?_
          rintro e w4 ⟨rfl, hb⟩
          replace q := q.trans (hb.mono q.size)
          clear hb d1
          replace hsn := hsn.out
          obtain ⟨bu, ebu⟩ : ∃ b, b = hitL x.reads ws := ⟨_, rfl⟩
          rw [← ebu] at hsn
          rw [← ebu]
          clear ebu hk1 hws hlv r1 hR
          replace hsn := Lib.hid hsn
          cases bn with
          | true =>
            cases bu with
            | true =>
              have k2 := Lib.hid (show (M.any (underP ws) || (lv.take (k + 1)).any (underL ws)) = true by rw [hsn.out]; rfl)
              clear hsn
              go_wp2_with fail
              go_roundw
              case rel => exact ⟨k + 1, by go_num, by omega, by rw [k2.out], q⟩
              case measure => simp [intOf]; omega
            | false =>
              have k2 := Lib.hid (show (M.any (underP ws) || (lv.take (k + 1)).any (underL ws)) = true by rw [hsn.out]; rfl)
              clear hsn
              go_wp2_with fail
              go_roundw
              case rel => exact ⟨k + 1, by go_num, by omega, by rw [k2.out], q⟩
              case measure => simp [intOf]; omega
          | false =>
            cases bu with
            | true =>
              have k2 := Lib.hid (show (M.any (underP ws) || (lv.take (k + 1)).any (underL ws)) = true by rw [hsn.out]; rfl)
              clear hsn
              go_wp2_with fail
              go_roundw
              case rel => exact ⟨k + 1, by go_num, by omega, by rw [k2.out], q⟩
              case measure => simp [intOf]; omega
            | false =>
              have k2 := Lib.hid (show (M.any (underP ws) || (lv.take (k + 1)).any (underL ws)) = false by rw [hsn.out]; rfl)
              clear hsn
              go_wp2_with fail
              go_roundw
              case rel => exact ⟨k + 1, by go_num, by omega, by rw [k2.out], q⟩
              case measure => simp [intOf]; omega
        · obtain rfl : k = lv.length := by omega
          have dk : decide ((lv.length : Int) < (lv.length : Int)) = false := decide_eq_false (by omega)
          rw [List.take_length]
          have HJ : judgeM me.reads ws (meetsP me.snap l) lv = if (bo && (M.any (underP ws) || lv.any (underL ws))) = true then (false, 140) else (bo, 0) := by
            rw [← eM.out]
            unfold judgeM
            rw [hno.out, ebo.out]
            rfl
          obtain ⟨bn, ebn⟩ : ∃ b, b = (M.any (underP ws) || lv.any (underL ws)) := ⟨_, rfl⟩
          rw [← ebn] at HJ
          rw [← ebn]
          clear ebn hno ebo hlv hws r1 hR
          replace HJ := Lib.hid HJ
          cases bo with
          | true =>
            cases bn with
            | true =>
              go_wp2_with fail
              go_ret2
              exact ⟨by rw [HJ.out]; rfl, q1.trans (q.mono q1.size)⟩
            | false =>
              go_wp2_with fail
              go_ret2
              exact ⟨by rw [HJ.out]; rfl, q1.trans (q.mono q1.size)⟩
          | false =>
            go_wp2_with fail
            go_ret2
            exact ⟨by rw [HJ.out]; rfl, q1.trans (q.mono q1.size)⟩
end Go.Proofs.Ytobelnedhlepaaa
namespace Go.Proofs.Ytobelnedhlepaaa
open Go.RowKit Go.Shelf
set_option maxRecDepth 100000 in
set_option maxHeartbeats 4000000 in
theorem sPoint_any (w : World) {S : Nat → Prop} {A : Option Addr} {n C : Nat} {k : List UInt8} {t : Int} (hk : RdS S w (.slice A n C) k) (ht : W64 t) (h1 : k.length ≤ 1000000) :
    Calls Try.prog 37 #[.int .i64 t, .slice A n C] w (SpEnd w (pointS t k)) := by
  obtain ⟨W, hW, q, Bz, hsz⟩ := spBox w 57 [.int .i64 0, .slice none 0 0, .slice none 0 0, .bool false]
  go_enter Try.func37, Try.ntmps37
  go_upto_region 1 with (fail)
  rw [show w.alloc (.cells #[.int .i64 0, .slice none 0 0, .slice none 0 0, .bool false] 57) = W from hW.symm]
  clear hW
  go_wp2_with fail
  refine (clone_any W (hk.below q).rd (Nat.le_refl _) h1).mono ?_
  rintro e w1 ⟨ad1, k1, c1, rfl, hf1⟩
  obtain rfl : k1 = k.length := hf1.len
  go_wp2_with fail
  refine (clone_any w1 (hk.below (q.trans (hf1.1.mono q.size))).rd (Nat.le_refl _) h1).mono ?_
  rintro e w2 ⟨ad2, k2, c2, rfl, hf2⟩
  obtain rfl : k2 = k.length := hf2.len
  go_wp2_with (refine wpList_append1 byP rfl (fun _ => rfl) rfl rfl (by first | (simp; done) | (simp [Act.put]; done)) rfl 0 (fun _ => rfl) rfl hf2.2 hf2.1.size ?_ (by omega)
               intro u ad3 k3 c3 w3 hO3 hb3
               obtain ⟨hi, ehi⟩ : ∃ hi, hi = k ++ [0] := ⟨_, rfl⟩
               rw [← ehi] at hO3
               obtain rfl : k3 = hi.length := hO3.len
               replace ehi := Lib.hid ehi
               have b03 : Below W.heap.size W w3 := (hf1.1.trans (hf2.1.mono hf1.1.size)).trans (hb3.mono hf1.1.size)
               have rl : RdS (fun g => W.heap.size ≤ g ∧ g < w3.heap.size) w3 (.slice ad1 k.length c1) k := ((hf1.2.rdS.below hf2.1).keep fun g hg => hb3.block g hg.2).weak fun g hg => ⟨hg.1, Nat.lt_of_lt_of_le hg.2 (hf2.1.trans hb3).size⟩
               have rh : RdS (fun g => W.heap.size ≤ g ∧ g < w3.heap.size) w3 (.slice ad3 hi.length c3) hi := hO3.rdS.weak fun g hg => ⟨Nat.le_trans hf1.1.size hg.1, hg.2⟩
               go_wp2_with (first | (refine wpList_boxStore (us := [.int .i64 t, .slice ad1 k.length c1, .slice ad3 hi.length c3, .bool false]) (by kernel_rfl) rfl rfl rfl rfl rfl rfl (Bz.below b03 Bz.lt) rfl ?_; intro w4 hg hB) | fail))
  have d0 := hB.cell (i := 0) rfl
  have d1 := hB.cell (i := 1) rfl
  have d2 := hB.cell (i := 2) rfl
  have d3 := hB.cell (i := 3) rfl
  obtain ⟨fs, hu, _⟩ := spS.hu
  refine bodyPost_ret (v := .agg #[.int .i64 t, .slice ad1 k.length c1, .slice ad3 hi.length c3, .bool false]) (by simp [results, Try.results37, go_sem, loadVar, isAgg, run_underlying hu, run_sizeOf' spS.hs, loadCellsFrom, Addr.add, d0, d1, d2, d3]) rfl ?_
  have hk0 : ∀ g, W.heap.size ≤ g ∧ g < w3.heap.size → w4.heap[g]? = w3.heap[g]? := fun g hg2 => hg.block g hg2.2 fun e => by injection e with e; omega
  unfold SpEnd
  rw [show pointS t k = ⟨t, k, hi, false⟩ by unfold pointS; rw [ehi.out]]
  exact ⟨_, rfl, ⟨ad1, c1, ad3, c3, rfl, (rl.keep hk0).weak fun g hg2 => ⟨by omega, Nat.lt_of_lt_of_le hg2.2 hg.size⟩, (rh.keep hk0).weak fun g hg2 => ⟨by omega, Nat.lt_of_lt_of_le hg2.2 hg.size⟩, ht⟩, (q.trans (b03.mono q.size)).grown hg (q.trans (b03.mono q.size)).size fun g e => by injection e with e; omega⟩
end Go.Proofs.Ytobelnedhlepaaa
namespace Go.Proofs.Ytobelnedhlepaaa
open Go.RowKit Go.Shelf
section
variable {P : Program} {ops : Array Oper} {rest : List Oper} {o : Oper} {a : Act} {Q : Exit → Act → World → Prop} {w : World} {T E S : TypeId}
theorem wpList_bytes (hP : ByP P T E S) {x : Operand} (ho : o.op = .convert S T x) {b : UInt8} (hx : a.eval x = .string ⟨#[b]⟩) (hgd : Region.wanted o (yielded ops a.tmps) = true)
    (h : ∀ g c w', Below w.heap.size w w' → RdS (fun _ => True) w' (.slice (some ⟨g, 0, none⟩) 1 c) [b] → wpList P ops Q rest (a.put o.dst (.slice (some ⟨g, 0, none⟩) 1 c)) w') : wpList P ops Q (o :: rest) a w := by
  refine BigFrame.wpList_want hgd fun K hK => ?_
  unfold Oper.wp execOp
  simp only [ho, hx, Sem.run_bind, Sem.run_pure, Result.andThen_ok, Lib.run_convert_string_bytes w S T E ⟨#[b]⟩ hP.hS hP.hT hP.hE]
  refine hK _ _ (h _ _ _ ⟨?_, ?_, ?_, ?_, fun k hk => Lib.bytesWorld_at_old w E _ k hk⟩ (.inr ⟨_, 0, _, rfl, trivial, ?_, ?_, fun j u hj => ?_⟩))
  · simp [Lib.bytesWorld, World.freeze, World.alloc, World.drew, -World.alloc_eq, -World.drew_eq]
  · simp [Lib.bytesWorld, World.freeze, World.alloc, World.drew, -World.alloc_eq, -World.drew_eq]
  · simp [Lib.bytesWorld, World.freeze, World.alloc, World.drew, -World.alloc_eq, -World.drew_eq]
  · rw [Lib.bytesWorld_size]; omega
  · exact grownCap_ge w 1 0 E
  · exact grownCap_le_maxLen w _ _ _ (by simp [ByteArray.size, maxLen])
  · rw [Nat.zero_add]
    have hj0 : j = 0 := by
      rcases j with _ | j
      · rfl
      · simp [bv] at hj
    subst hj0
    rw [Lib.bytesWorld_cell w E ⟨#[b]⟩ 0 (by simp [ByteArray.size])]
    simpa [bv] using hj
end
theorem run_buildWr (w : World) (a : Option Addr) (n c : Nat) : (Instr.build 59 #[(1, .slice a n c)]).run Try.prog w = .ok (.agg #[.int .i64 0, .slice a n c, .bool false, .slice none 0 0]) w := by kernel_rfl
attribute [local go_sem] run_buildWr
set_option maxRecDepth 100000 in
set_option maxHeartbeats 4000000 in
theorem of_any (w : World) {b : UInt8} : Calls Try.prog 21 #[.string ⟨#[b]⟩] w fun e w' => ∃ g, e = .returned (.slice (some ⟨g, 0, none⟩) 1 1) ∧ RdL Elt.sp (fun _ => True) w' (.slice (some ⟨g, 0, none⟩) 1 1) [pointS 0 [b]] ∧ Below w.heap.size w w' := by
  go_enter Try.func21, Try.ntmps21
  go_wp2_with (first | (refine wpList_bytes byP rfl rfl rfl ?_; intro g c w1 hb1 hr1) | fail)
  have hcl := sPoint_any w1 (t := 0) hr1 (by unfold W64; decide) (by simp)
  refine hcl.mono ?_
  rintro e w2 ⟨v, rfl, ⟨a1, c1, a2, c2, rfl, rl, rh, rt⟩, hb⟩
  clear hcl hr1
  have b02 : Below w.heap.size w w2 := hb1.trans (hb.mono hb1.size)
  clear hb hb1
  go_wp2_with (first | (refine wpList_buildOne (us := [.int .i64 (pointS 0 [b]).table, .slice a1 (pointS 0 [b]).lo.length c1, .slice a2 (pointS 0 [b]).hi.length c2, .bool (pointS 0 [b]).isOpen]) spP rfl rfl rfl rfl rfl (by decide) (by decide) ?_; intro w3 hb3 hrow) | fail)
  go_ret
  exact ⟨_, rfl, rd_row1 hrow trivial ⟨_, _, rfl, (rl.below hb3).weak fun _ _ => trivial, (rh.below hb3).weak fun _ _ => trivial, rt⟩, b02.trans (hb3.mono b02.size)⟩
set_option maxRecDepth 100000 in
set_option maxHeartbeats 4000000 in
theorem put_any (w : World) {b : UInt8} : Calls Try.prog 22 #[.string ⟨#[b]⟩] w fun e w' => ∃ g, e = .returned (.slice (some ⟨g, 0, none⟩) 1 1) ∧ RdL Elt.wr (fun _ => True) w' (.slice (some ⟨g, 0, none⟩) 1 1) [⟨0, [b], false, []⟩] ∧ Below w.heap.size w w' := by
  go_enter Try.func22, Try.ntmps22
  go_wp2_with (first
    | (refine wpList_bytes byP rfl rfl rfl ?_; intro g c w1 hb1 hr1)
    | (refine wpList_buildOne (us := [.int .i64 0, .slice (some ⟨g, 0, none⟩) 1 c, .bool false, .slice none 0 0]) wrP rfl rfl rfl rfl rfl (by decide) (by decide) ?_; intro w3 hb3 hrow)
    | fail)
  go_ret
  exact ⟨_, rfl, rd_row1 hrow trivial ⟨_, _, rfl, hr1.below hb3, RdS.nil _ _, show W64 (0 : Int) by unfold W64; decide⟩, hb1.trans (hb3.mono hb1.size)⟩
end Go.Proofs.Ytobelnedhlepaaa
namespace Go.Proofs.Ytobelnedhlepaaa
open Go.RowKit Go.Shelf
structure MeetsC : Prop where
  call : ∀ (w : World) {S : Nat → Prop} {a : Option Addr} {n cx : Nat} {l : List Ps} {s : Int}, W64 s → RdL Elt.ps S w (.slice a n cx) l → smPs l → Calls Try.prog 15 #[.int .i64 s, .slice a n cx] w (PsEnd w (meetsP s l))
def k14 (b : UInt8) : List Sp := [pointS 0 [b]]
def w14 (b : UInt8) : List Wr := [⟨0, [b], false, []⟩]
def p14 (o : Bool) : Ps := ⟨0, 4, false, k14 121, w14 120, o⟩
theorem sm14 (b c : UInt8) : smP ⟨0, 0, false, k14 b, w14 c, false⟩ := ⟨⟨by simp [k14], fun x hx => by
    obtain rfl := List.mem_singleton.1 hx
    exact ⟨by simp [pointS], by simp [pointS]⟩⟩, by simp [w14], fun x hx => by
    obtain rfl := List.mem_singleton.1 hx
    exact ⟨by simp, by simp⟩⟩
theorem sm14n (c : UInt8) : smP ⟨0, 0, false, [], w14 c, false⟩ := ⟨⟨by simp, fun x hx => by cases hx⟩, (sm14 0 c).2⟩
theorem smp14 (o : Bool) : smPs [p14 o] := ⟨by simp, fun p hp => by
    obtain rfl := List.mem_singleton.1 hp
    exact sm14 121 120⟩
theorem run_bLv2 (w : World) (s : Int) (a : Option Addr) (n c : Nat) : (Instr.build 24 #[(0, .int .i64 s), (1, .slice a n c)]).run Try.prog w = .ok (.agg #[.int .i64 s, .slice a n c]) w := by kernel_rfl
theorem run_bPs3 (w : World) (s : Int) (a : Option Addr) (n c : Nat) (a2 : Option Addr) (n2 c2 : Nat) : (Instr.build 50 #[(1, .int .i64 s), (3, .slice a n c), (4, .slice a2 n2 c2)]).run Try.prog w = .ok (.agg #[.int .i64 0, .int .i64 s, .bool false, .slice a n c, .slice a2 n2 c2, .bool false]) w := by kernel_rfl
attribute [local go_sem] run_bLv2 run_bPs3 run_buildLv run_buildLv1
def Row14 (w : World) (g g1 g2 : Nat) (o : Bool) : Prop := BoxN w g 50 [.int .i64 0, .int .i64 4, .bool false, .slice (some ⟨g1, 0, none⟩) 1 1, .slice (some ⟨g2, 0, none⟩) 1 1, .bool o] ∧ RdL Elt.sp (fun k => k < g) w (.slice (some ⟨g1, 0, none⟩) 1 1) (k14 121) ∧ RdL Elt.wr (fun k => k < g) w (.slice (some ⟨g2, 0, none⟩) 1 1) (w14 120)
theorem Row14.below {w w' : World} {g g1 g2 : Nat} {o : Bool} (h : Row14 w g g1 g2 o) (hb : Below w.heap.size w w') : Row14 w' g g1 g2 o := ⟨h.1.below hb h.1.lt, h.2.1.below hb, h.2.2.below hb⟩
theorem Row14.rd {w : World} {g g1 g2 : Nat} {o : Bool} (h : Row14 w g g1 g2 o) : RdL Elt.ps (fun _ => True) w (.slice (some ⟨g, 0, none⟩) 1 1) [p14 o] := rd_row1 h.1 trivial ⟨_, _, rfl, h.2.1.weak fun _ _ => trivial, h.2.2.weak fun _ _ => trivial, show W64 (0 : Int) by unfold W64; decide, show W64 (4 : Int) by unfold W64; decide⟩
theorem Row14.out {w w' : World} {g g1 g2 : Nat} (h : Row14 w g g1 g2 false) (hg : w.grownBy w' (some g)) (hB : BoxN w' g 50 [.int .i64 0, .int .i64 4, .bool false, .slice (some ⟨g1, 0, none⟩) 1 1, .slice (some ⟨g2, 0, none⟩) 1 1, .bool true]) : Row14 w' g g1 g2 true :=
  ⟨hB, (h.2.1.fit.keep fun k hk => hg.block k hk.2 fun e => by injection e with e; have := hk.1; omega).weak fun _ hk => hk.1, (h.2.2.fit.keep fun k hk => hg.block k hk.2 fun e => by injection e with e; have := hk.1; omega).weak fun _ hk => hk.1⟩
theorem j14_1 : judgeP ⟨3, (k14 120)⟩ (w14 121) [p14 false] [] = (false, 140) := by decide
theorem j14_2 : judgeP ⟨3, (k14 120)⟩ (w14 122) [p14 false] [] = (true, 0) := by decide
theorem j14_3 : judgeP ⟨3, []⟩ (w14 120) [p14 false] [] = (false, 140) := by decide
theorem j14_4 : judgeP ⟨4, (k14 120)⟩ (w14 121) [p14 false] [] = (false, 0) := by decide
theorem j14_5 : judgeP ⟨3, (k14 120)⟩ (w14 122) [p14 false] [⟨0, k14 122⟩] = (false, 140) := by decide
theorem j14_6 : judgeP ⟨3, (k14 120)⟩ (w14 122) [p14 true] [] = (false, 140) := by decide
theorem m14_1 : meetsP 3 [p14 true] = [p14 true] := by decide
theorem m14_2 : meetsP 4 [p14 true] = [] := by decide
set_option maxRecDepth 100000 in
set_option maxHeartbeats 16000000 in
theorem awake14_any (hJ : Judges) (hM : MeetsC) (w : World) : Calls Try.prog 8 #[] w fun e w' => e = .returned (.bool true) ∧ Below w.heap.size w w' := by
  go_enter Try.func8, Try.ntmps8
  have q := Below.refl w.heap.size w
  go_wp2_with fail
  refine (of_any _ (b := 121)).mono ?_
  rintro e w9 ⟨g1, rfl, h1, hb⟩
  replace q := q.trans (hb.mono q.size)
  clear hb
  go_wp2_with fail
  refine (put_any _ (b := 120)).mono ?_
  rintro e w9 ⟨g2, rfl, h2, hb⟩
  replace h1 := h1.below hb
  replace q := q.trans (hb.mono q.size)
  clear hb
  go_upto_region 2 with (first | (refine wpList_buildOne (us := [.int .i64 0, .int .i64 4, .bool false, .slice (some ⟨g1, 0, none⟩) 1 1, .slice (some ⟨g2, 0, none⟩) 1 1, .bool false]) psP rfl rfl rfl rfl rfl (by decide) (by decide) ?_; intro w3 hb3 hrow) | fail)
  obtain ⟨g, hg⟩ : ∃ g, g = w9.heap.size := ⟨_, rfl⟩
  have hR : Row14 w3 g g1 g2 false := ⟨by rw [hg]; exact hrow, (h1.fit.weak fun k hk => by rw [hg]; exact hk.2).below hb3, (h2.fit.weak fun k hk => by rw [hg]; exact hk.2).below hb3⟩
  have hgw : w.heap.size ≤ g := by rw [hg]; exact q.size
  rw [← hg]
  clear hrow h1 h2 hg
  replace q := q.trans (hb3.mono q.size)
  clear hb3
  go_wp2_with fail
  refine (of_any _ (b := 120)).mono ?_
  rintro e w9 ⟨gA, rfl, hA, hb⟩
  replace hR := hR.below hb
  replace q := q.trans (hb.mono q.size)
  clear hb
  go_wp2_with fail
  refine (put_any _ (b := 121)).mono ?_
  rintro e w9 ⟨gB, rfl, hB, hb⟩
  replace hR := hR.below hb
  replace hA := hA.below hb
  replace q := q.trans (hb.mono q.size)
  clear hb
  have hcl := hJ.call _ (me := ⟨3, k14 120⟩) (ws := w14 121) (l := [p14 false]) (lv := []) ⟨_, _, rfl, hA, (show W64 (3 : Int) by unfold W64; decide)⟩ hB hR.rd (RdL.nil Elt.lv (fun _ => True) _) (sm14 120 121) (smp14 false) (by simp) (fun x hx => by cases hx)
  rw [j14_1] at hcl
  go_wp2_with fail
  refine hcl.mono ?_
  rintro e w9 ⟨rfl, hb⟩
  clear hcl hA hB
  replace hR := hR.below hb
  replace q := q.trans (hb.mono q.size)
  clear hb
  go_wp2_with fail
  refine (of_any _ (b := 120)).mono ?_
  rintro e w9 ⟨gA, rfl, hA, hb⟩
  replace hR := hR.below hb
  replace q := q.trans (hb.mono q.size)
  clear hb
  go_wp2_with fail
  refine (put_any _ (b := 122)).mono ?_
  rintro e w9 ⟨gB, rfl, hB, hb⟩
  replace hR := hR.below hb
  replace hA := hA.below hb
  replace q := q.trans (hb.mono q.size)
  clear hb
  have hcl := hJ.call _ (me := ⟨3, k14 120⟩) (ws := w14 122) (l := [p14 false]) (lv := []) ⟨_, _, rfl, hA, (show W64 (3 : Int) by unfold W64; decide)⟩ hB hR.rd (RdL.nil Elt.lv (fun _ => True) _) (sm14 120 122) (smp14 false) (by simp) (fun x hx => by cases hx)
  rw [j14_2] at hcl
  go_wp2_with fail
  refine hcl.mono ?_
  rintro e w9 ⟨rfl, hb⟩
  clear hcl hA hB
  replace hR := hR.below hb
  replace q := q.trans (hb.mono q.size)
  clear hb
  go_wp2_with fail
  refine (put_any _ (b := 120)).mono ?_
  rintro e w9 ⟨gB, rfl, hB, hb⟩
  replace hR := hR.below hb
  replace q := q.trans (hb.mono q.size)
  clear hb
  have hcl := hJ.call _ (me := ⟨3, []⟩) (ws := w14 120) (l := [p14 false]) (lv := []) ⟨_, _, rfl, RdL.nil Elt.sp (fun _ => True) _, (show W64 (3 : Int) by unfold W64; decide)⟩ hB hR.rd (RdL.nil Elt.lv (fun _ => True) _) (sm14n 120) (smp14 false) (by simp) (fun x hx => by cases hx)
  rw [j14_3] at hcl
  go_wp2_with fail
  refine hcl.mono ?_
  rintro e w9 ⟨rfl, hb⟩
  clear hcl hB
  replace hR := hR.below hb
  replace q := q.trans (hb.mono q.size)
  clear hb
  go_wp2_with fail
  refine (of_any _ (b := 120)).mono ?_
  rintro e w9 ⟨gA, rfl, hA, hb⟩
  replace hR := hR.below hb
  replace q := q.trans (hb.mono q.size)
  clear hb
  go_wp2_with fail
  refine (put_any _ (b := 121)).mono ?_
  rintro e w9 ⟨gB, rfl, hB, hb⟩
  replace hR := hR.below hb
  replace hA := hA.below hb
  replace q := q.trans (hb.mono q.size)
  clear hb
  have hcl := hJ.call _ (me := ⟨4, k14 120⟩) (ws := w14 121) (l := [p14 false]) (lv := []) ⟨_, _, rfl, hA, (show W64 (4 : Int) by unfold W64; decide)⟩ hB hR.rd (RdL.nil Elt.lv (fun _ => True) _) (sm14 120 121) (smp14 false) (by simp) (fun x hx => by cases hx)
  rw [j14_4] at hcl
  go_wp2_with fail
  refine hcl.mono ?_
  rintro e w9 ⟨rfl, hb⟩
  clear hcl hA hB
  replace hR := hR.below hb
  replace q := q.trans (hb.mono q.size)
  clear hb
  go_wp2_with fail
  refine (of_any _ (b := 120)).mono ?_
  rintro e w9 ⟨gA, rfl, hA, hb⟩
  replace hR := hR.below hb
  replace q := q.trans (hb.mono q.size)
  clear hb
  go_wp2_with fail
  refine (put_any _ (b := 122)).mono ?_
  rintro e w9 ⟨gB, rfl, hB, hb⟩
  replace hR := hR.below hb
  replace hA := hA.below hb
  replace q := q.trans (hb.mono q.size)
  clear hb
  go_wp2_with fail
  refine (of_any _ (b := 122)).mono ?_
  rintro e w9 ⟨gC, rfl, hC, hb⟩
  replace hR := hR.below hb
  replace hA := hA.below hb
  replace hB := hB.below hb
  replace q := q.trans (hb.mono q.size)
  clear hb
  go_wp2_with (first | (refine wpList_buildOne (us := [.int .i64 0, .slice (some ⟨gC, 0, none⟩) 1 1]) lvP rfl rfl rfl rfl rfl (by decide) (by decide) ?_; intro w4 hb4 hrow) | fail)
  have hL : RdL Elt.lv (fun _ => True) w4 (.slice (some ⟨w9.heap.size, 0, none⟩) 1 1) [⟨0, k14 122⟩] := rd_row1 hrow trivial ⟨_, rfl, hC.below hb4, (show W64 (0 : Int) by unfold W64; decide)⟩
  replace hR := hR.below hb4
  replace hA := hA.below hb4
  replace hB := hB.below hb4
  replace hC := hC.below hb4
  replace q := q.trans (hb4.mono q.size)
  clear hb4
  have hcl := hJ.call _ (me := ⟨3, k14 120⟩) (ws := w14 122) (l := [p14 false]) (lv := [⟨0, k14 122⟩]) ⟨_, _, rfl, hA, (show W64 (3 : Int) by unfold W64; decide)⟩ hB hR.rd hL (sm14 120 122) (smp14 false) (by simp) (fun x hx => by obtain rfl := List.mem_singleton.1 hx; exact (sm14 122 0).1)
  rw [j14_5] at hcl
  refine hcl.mono ?_
  rintro e w9 ⟨rfl, hb⟩
  clear hcl hA hB hC hL hrow
  replace hR := hR.below hb
  replace q := q.trans (hb.mono q.size)
  clear hb
  have hbx := hR.1
  go_upto_region 8 with (first | (refine wpList_boxSet (j := 5) (u := .bool true) rfl rfl rfl (by kernel_rfl) rfl rfl rfl rfl hbx (by simp) ?_; intro w5 hg5 hB5) | fail)
  have hlt := hbx.lt
  have hge : w.heap.size ≤ g := hgw
  replace hR : Row14 w5 g g1 g2 true := hR.out hg5 hB5
  replace q := q.grown hg5 q.size fun k hk => by injection hk with hk; omega
  clear hbx hg5 hB5 hlt hge
  go_wp2_with fail
  refine (of_any _ (b := 120)).mono ?_
  rintro e w9 ⟨gA, rfl, hA, hb⟩
  replace hR := hR.below hb
  replace q := q.trans (hb.mono q.size)
  clear hb
  go_wp2_with fail
  refine (put_any _ (b := 122)).mono ?_
  rintro e w9 ⟨gB, rfl, hB, hb⟩
  replace hR := hR.below hb
  replace hA := hA.below hb
  replace q := q.trans (hb.mono q.size)
  clear hb
  have hcl := hJ.call _ (me := ⟨3, k14 120⟩) (ws := w14 122) (l := [p14 true]) (lv := []) ⟨_, _, rfl, hA, (show W64 (3 : Int) by unfold W64; decide)⟩ hB hR.rd (RdL.nil Elt.lv (fun _ => True) _) (sm14 120 122) (smp14 true) (by simp) (fun x hx => by cases hx)
  rw [j14_6] at hcl
  go_wp2_with fail
  refine hcl.mono ?_
  rintro e w9 ⟨rfl, hb⟩
  clear hcl hA hB
  replace hR := hR.below hb
  replace q := q.trans (hb.mono q.size)
  clear hb
  have hcl := hM.call _ (s := 3) (show W64 (3 : Int) by unfold W64; decide) hR.rd (smp14 true)
  rw [m14_1] at hcl
  go_wp2_with fail
  refine hcl.mono ?_
  rintro e w9 ⟨aK0, cK0, rfl, _, hb⟩
  clear hcl
  replace hR := hR.below hb
  replace q := q.trans (hb.mono q.size)
  clear hb
  have hcl := hM.call _ (s := 4) (show W64 (4 : Int) by unfold W64; decide) hR.rd (smp14 true)
  rw [m14_2] at hcl
  go_wp2_with fail
  refine hcl.mono ?_
  rintro e w9 ⟨aK1, cK1, rfl, _, hb⟩
  clear hcl
  replace hR := hR.below hb
  replace q := q.trans (hb.mono q.size)
  clear hb
  go_wp2_with fail
  go_ret
  exact ⟨rfl, q⟩
end Go.Proofs.Ytobelnedhlepaaa
namespace Go.Proofs.Ytobelnedhlepaaa
open Go.RowKit Go.Shelf
def FndA {α : Type} (p : α → Bool) (l : List α) (v : Int) : Prop := (v = -1 ∧ ∀ y ∈ l, p y = false) ∨ ∃ (j : Nat) (h : j < l.length), v = (j : Int) ∧ p l[j] = true ∧ ∀ y ∈ l.take j, p y = false
theorem fndA_any {α : Type} {p : α → Bool} {l : List α} {i : Int} (h : FndA p l i) : decide (0 ≤ i) = l.any p := by
  rcases h with ⟨h1, h2⟩ | ⟨j, h1, h2, h3, _⟩
  · rw [decide_eq_false (by omega), List.any_eq_false.2 fun x hx => by simp [h2 x hx]]
  · rw [decide_eq_true (by omega), List.any_eq_true.2 ⟨_, List.getElem_mem h1, h3⟩]
def TellsS (F : FuncId) (bs caps : Array Value) (S : Nat → Prop) (w : World) (p : Sp → Bool) : Prop :=
  ∀ (W : World) (v : Value) (x : Sp), Below w.heap.size w W → RdSp S W v x → Calls Try.prog F (bs ++ #[v] ++ caps) W fun e W' => e = .returned (.bool (p x)) ∧ Below W.heap.size W W'
set_option maxRecDepth 100000 in
set_option maxHeartbeats 4000000 in
theorem indexS_any (w : World) {S : Nat → Prop} {a : Option Addr} {n c : Nat} {l : List Sp} (hl : RdL Elt.sp S w (.slice a n c) l) (F : FuncId) (bs caps : Array Value) (hE : Enters Try.prog F) (p : Sp → Bool) (hF : TellsS F bs caps S w p) :
    Calls Try.prog 55 #[.slice a n c, .func (.func F) bs caps] w fun e w' => ∃ i : Int, e = .returned (.int .i64 i) ∧ FndA p l i ∧ Below w.heap.size w w' := by
  obtain ⟨rfl, hnc, hcm⟩ := hl.len
  have hlm : l.length ≤ 9223372036854775807 := by unfold maxLen at hcm; omega
  have hEE := hE
  unfold Enters at hEE
  have q := Below.refl w.heap.size w
  go_enter Try.func55, Try.ntmps55
  go_upto_region 2 with (fail)
  go_loopw [5, 8] (fun _ iv wr => ∃ (k : Nat), iv = .int .i64 k ∧ k ≤ l.length ∧ (∀ x ∈ l.take k, p x = false) ∧ Below w.heap.size w wr)
    (fun _ i _ => l.length - (intOf i).toNat)
  case atStart => exact ⟨0, rfl, Nat.zero_le _, by simp, q⟩
  case round =>
    clear q
    obtain ⟨k, rfl, hkl, hall, q⟩ := hrel
    replace hall := Lib.hid hall
    rcases Nat.lt_or_ge k l.length with hlt | hge
    · obtain ⟨b, off, A, C, A2, C2, rfl, hb, c0, c1, c2, c3, hk1, hk2, hw64⟩ := (hl.below q).sp k hlt
      have hw : RdSp S wr (.agg #[.int .i64 l[k].table, .slice A l[k].lo.length C, .slice A2 l[k].hi.length C2, .bool l[k].isOpen]) l[k] := ⟨A, C, A2, C2, rfl, hk1, hk2, hw64⟩
      go_upto_region 4 with (fail)
      go_wp2_with fail
      refine (hF wr _ _ q hw).mono ?_
      rintro e w1 ⟨rfl, hb1⟩
      replace q := q.trans (hb1.mono q.size)
      clear c0 c1 c2 c3 hk1 hk2 hw
      cases hm : p l[k] with
      | false =>
        have hall2 := Lib.hid (show ∀ x ∈ l.take (k + 1), p x = false from fun x hx => by
          rw [List.take_succ_eq_append_getElem hlt] at hx
          rcases List.mem_append.1 hx with h | h
          · exact hall.out x h
          · simp at h; rw [h]; exact hm)
        clear hall hm
        go_wp2_with fail
        go_roundw
        case rel => exact ⟨k + 1, by go_num, by omega, hall2.out, q⟩
        case measure => simp [intOf]; omega
      | true =>
        replace hm := Lib.hid hm
        go_wp2_with fail
        go_ret
        exact ⟨_, rfl, .inr ⟨k, hlt, rfl, hm.out, hall.out⟩, q⟩
    · obtain rfl : k = l.length := by omega
      have hno := Lib.hid (show ∀ x ∈ l, p x = false from fun x hx => hall.out x (by rw [List.take_length]; exact hx))
      clear hall
      go_wp2_with fail
      go_ret
      exact ⟨_, rfl, .inl ⟨rfl, hno.out⟩, q⟩
set_option maxRecDepth 100000 in
set_option maxHeartbeats 4000000 in
theorem containsS_any (w : World) {S : Nat → Prop} {a : Option Addr} {n c : Nat} {l : List Sp} (hl : RdL Elt.sp S w (.slice a n c) l) (F : FuncId) (bs caps : Array Value) (hE : Enters Try.prog F) (p : Sp → Bool) (hF : TellsS F bs caps S w p) :
    Calls Try.prog 43 #[.slice a n c, .func (.func F) bs caps] w fun e w' => e = .returned (.bool (l.any p)) ∧ Below w.heap.size w w' := by
  go_enter Try.func43, Try.ntmps43
  go_wp2_with fail
  refine (indexS_any w hl F bs caps hE p hF).mono ?_
  rintro e w1 ⟨i, rfl, hi, hb⟩
  have hd := Lib.hid (fndA_any hi)
  clear hi
  go_wp2_with fail
  go_ret
  exact ⟨by first | (rw [hd.out]; done) | (rw [← hd.out]; rfl), hb⟩
def TellsW (F : FuncId) (bs caps : Array Value) (S : Nat → Prop) (w : World) (p : Wr → Bool) : Prop :=
  ∀ (W : World) (v : Value) (x : Wr), Below w.heap.size w W → RdWr S W v x → Calls Try.prog F (bs ++ #[v] ++ caps) W fun e W' => e = .returned (.bool (p x)) ∧ Below W.heap.size W W'
set_option maxRecDepth 100000 in
set_option maxHeartbeats 4000000 in
theorem indexW_any (w : World) {S : Nat → Prop} {a : Option Addr} {n c : Nat} {l : List Wr} (hl : RdL Elt.wr S w (.slice a n c) l) (F : FuncId) (bs caps : Array Value) (hE : Enters Try.prog F) (p : Wr → Bool) (hF : TellsW F bs caps S w p) :
    Calls Try.prog 54 #[.slice a n c, .func (.func F) bs caps] w fun e w' => ∃ i : Int, e = .returned (.int .i64 i) ∧ FndA p l i ∧ Below w.heap.size w w' := by
  obtain ⟨rfl, hnc, hcm⟩ := hl.len
  have hlm : l.length ≤ 9223372036854775807 := by unfold maxLen at hcm; omega
  have hEE := hE
  unfold Enters at hEE
  have q := Below.refl w.heap.size w
  go_enter Try.func54, Try.ntmps54
  go_upto_region 2 with (fail)
  go_loopw [5, 8] (fun _ iv wr => ∃ (k : Nat), iv = .int .i64 k ∧ k ≤ l.length ∧ (∀ x ∈ l.take k, p x = false) ∧ Below w.heap.size w wr)
    (fun _ i _ => l.length - (intOf i).toNat)
  case atStart => exact ⟨0, rfl, Nat.zero_le _, by simp, q⟩
  case round =>
    clear q
    obtain ⟨k, rfl, hkl, hall, q⟩ := hrel
    replace hall := Lib.hid hall
    rcases Nat.lt_or_ge k l.length with hlt | hge
    · obtain ⟨b, off, A, C, A2, C2, rfl, hb, c0, c1, c2, c3, hk1, hk2, hw64⟩ := (hl.below q).wr k hlt
      have hw : RdWr S wr (.agg #[.int .i64 l[k].table, .slice A l[k].key.length C, .bool l[k].gone, .slice A2 l[k].val.length C2]) l[k] := ⟨A, C, A2, C2, rfl, hk1, hk2, hw64⟩
      go_upto_region 4 with (fail)
      go_wp2_with fail
      refine (hF wr _ _ q hw).mono ?_
      rintro e w1 ⟨rfl, hb1⟩
      replace q := q.trans (hb1.mono q.size)
      clear c0 c1 c2 c3 hk1 hk2 hw
      cases hm : p l[k] with
      | false =>
        have hall2 := Lib.hid (show ∀ x ∈ l.take (k + 1), p x = false from fun x hx => by
          rw [List.take_succ_eq_append_getElem hlt] at hx
          rcases List.mem_append.1 hx with h | h
          · exact hall.out x h
          · simp at h; rw [h]; exact hm)
        clear hall hm
        go_wp2_with fail
        go_roundw
        case rel => exact ⟨k + 1, by go_num, by omega, hall2.out, q⟩
        case measure => simp [intOf]; omega
      | true =>
        replace hm := Lib.hid hm
        go_wp2_with fail
        go_ret
        exact ⟨_, rfl, .inr ⟨k, hlt, rfl, hm.out, hall.out⟩, q⟩
    · obtain rfl : k = l.length := by omega
      have hno := Lib.hid (show ∀ x ∈ l, p x = false from fun x hx => hall.out x (by rw [List.take_length]; exact hx))
      clear hall
      go_wp2_with fail
      go_ret
      exact ⟨_, rfl, .inl ⟨rfl, hno.out⟩, q⟩
set_option maxRecDepth 100000 in
set_option maxHeartbeats 4000000 in
theorem containsW_any (w : World) {S : Nat → Prop} {a : Option Addr} {n c : Nat} {l : List Wr} (hl : RdL Elt.wr S w (.slice a n c) l) (F : FuncId) (bs caps : Array Value) (hE : Enters Try.prog F) (p : Wr → Bool) (hF : TellsW F bs caps S w p) :
    Calls Try.prog 39 #[.slice a n c, .func (.func F) bs caps] w fun e w' => e = .returned (.bool (l.any p)) ∧ Below w.heap.size w w' := by
  go_enter Try.func39, Try.ntmps39
  go_wp2_with fail
  refine (indexW_any w hl F bs caps hE p hF).mono ?_
  rintro e w1 ⟨i, rfl, hi, hb⟩
  have hd := Lib.hid (fndA_any hi)
  clear hi
  go_wp2_with fail
  go_ret
  exact ⟨by first | (rw [hd.out]; done) | (rw [← hd.out]; rfl), hb⟩
set_option maxRecDepth 100000 in
set_option maxHeartbeats 4000000 in
theorem hit11_any (w : World) {S S2 : Nat → Prop} {v : Value} {s : Sp} {x : Wr} {xb : Nat} {a1 a3 : Option Addr} {a2 a4 : Nat} (hs : RdSp S w v s) (hB : BoxN w xb 59 [.int .i64 x.table, .slice a1 x.key.length a2, .bool x.gone, .slice a3 x.val.length a4]) (hk : RdS S2 w (.slice a1 x.key.length a2) x.key) :
    Calls Try.prog 44 #[v, .pointer (some ⟨xb, 0, none⟩)] w fun e w' => e = .returned (.bool (inT s x.table x.key)) ∧ Below w.heap.size w w' := by
  have hs0 := hs
  obtain ⟨s1, s2, s3, s4, rfl, _, _, _⟩ := hs
  obtain ⟨W, hW, q, Bs, hsz⟩ := spBox w 57 [.int .i64 s.table, .slice s1 s.lo.length s2, .slice s3 s.hi.length s4, .bool s.isOpen]
  clear hsz
  go_enter Try.func44, Try.ntmps44
  go_upto_region 1 with (fail)
  rw [show w.alloc (.cells #[.int .i64 s.table, .slice s1 s.lo.length s2, .slice s3 s.hi.length s4, .bool s.isOpen] 57) = W from hW.symm]
  clear hW
  have c0 := Bs.cell (i := 0) rfl
  have c1 := Bs.cell (i := 1) rfl
  have c2 := Bs.cell (i := 2) rfl
  have c3 := Bs.cell (i := 3) rfl
  have hB2 := hB.below q hB.lt
  have d0 := hB2.cell (i := 0) rfl
  have d1 := hB2.cell (i := 1) rfl
  have hcl := sIn_any W (t := x.table) (hs0.below q) (hk.below q)
  clear hs0 hB hB2
  go_wp2_with fail
  refine hcl.mono ?_
  rintro e w1 ⟨rfl, hb⟩
  clear c0 c1 c2 c3 d0 d1 hcl
  go_wp2_with fail
  go_ret
  exact ⟨rfl, q.trans (hb.mono q.size)⟩
set_option maxRecDepth 100000 in
set_option maxHeartbeats 4000000 in
theorem hit1_any (w : World) {S S2 : Nat → Prop} {v : Value} {x : Wr} {l : List Sp} {lb : Nat} {a : Option Addr} {c : Nat} (hx : RdWr S2 w v x) (hB : Boxed w lb 22 (.slice a l.length c)) (hl : RdL Elt.sp S w (.slice a l.length c) l) :
    Calls Try.prog 42 #[v, .pointer (some ⟨lb, 0, none⟩)] w fun e w' => e = .returned (.bool (l.any fun s => inT s x.table x.key)) ∧ Below w.heap.size w w' := by
  obtain ⟨a1, a2, a3, a4, rfl, hk, _, _⟩ := hx
  obtain ⟨W, hW, q, Bx, hsz⟩ := spBox w 59 [.int .i64 x.table, .slice a1 x.key.length a2, .bool x.gone, .slice a3 x.val.length a4]
  clear hsz
  go_enter Try.func42, Try.ntmps42
  go_upto_region 1 with (fail)
  rw [show w.alloc (.cells #[.int .i64 x.table, .slice a1 x.key.length a2, .bool x.gone, .slice a3 x.val.length a4] 59) = W from hW.symm]
  clear hW
  have hc := (q.cell (p := ⟨lb, 0, none⟩) (cell_lt hB.cell)).trans hB.cell
  have hcl := containsS_any W (hl.below q) 44 #[] #[.pointer (some ⟨w.heap.size, 0, none⟩)] (enters_of Try.func44 (by kernel_rfl) rfl) (fun s => inT s x.table x.key) (fun V _ _ hb hs => hit11_any V hs (Bx.below hb Bx.lt) ((hk.below q).below hb))
  clear hB
  go_wp2_with fail
  refine hcl.mono ?_
  rintro e w1 ⟨rfl, hb⟩
  clear hc hcl
  go_wp2_with fail
  go_ret
  exact ⟨rfl, q.trans (hb.mono q.size)⟩
set_option maxRecDepth 100000 in
set_option maxHeartbeats 4000000 in
theorem sHit_any (w : World) {S S2 : Nat → Prop} {a a2 : Option Addr} {n c n2 c2 : Nat} {l : List Sp} {ws : List Wr} (hl : RdL Elt.sp S w (.slice a n c) l) (hw : RdL Elt.wr S2 w (.slice a2 n2 c2) ws) :
    Calls Try.prog 26 #[.slice a n c, .slice a2 n2 c2] w fun e w' => e = .returned (.bool (hitL l ws)) ∧ Below w.heap.size w w' := by
  obtain ⟨rfl, _, _⟩ := hl.len
  obtain ⟨W, hW⟩ : ∃ W, W = w.alloc (.cells #[.slice a l.length c] 22) := ⟨_, rfl⟩
  have q : Below w.heap.size w W := by rw [hW]; exact (Below.refl _ _).alloc (Nat.le_refl _) _
  have hB : Boxed W w.heap.size 22 (.slice a l.length c) := by rw [hW]; exact Boxed.new _ _ _
  go_enter Try.func26, Try.ntmps26
  go_upto_region 2 with (fail)
  rw [← hW]
  clear hW
  have hcl := containsW_any W (hw.below q) 42 #[] #[.pointer (some ⟨w.heap.size, 0, none⟩)] (enters_of Try.func42 (by kernel_rfl) rfl) (fun x => l.any fun s => inT s x.table x.key) (fun V _ _ hb hx => hit1_any V hx ((hb.block _ hB.lt).trans hB) ((hl.below q).below hb))
  go_wp2_with fail
  refine hcl.mono ?_
  rintro e w1 ⟨rfl, hb⟩
  clear hcl
  go_wp2_with fail
  go_ret
  exact ⟨rfl, q.trans (hb.mono q.size)⟩
end Go.Proofs.Ytobelnedhlepaaa
namespace Go.Proofs.Ytobelnedhlepaaa
open Go.RowKit Go.Shelf
set_option maxRecDepth 100000 in
set_option maxHeartbeats 4000000 in
theorem equal_any (w : World) {S S2 : Nat → Prop} {a a2 : Option Addr} {n c n2 c2 : Nat} {x y : List UInt8} (hx0 : RdS S w (.slice a n c) x) (hy0 : RdS S2 w (.slice a2 n2 c2) y) :
    Calls Try.prog 41 #[.slice a n c, .slice a2 n2 c2] w fun e w' => e = .returned (.bool (decide (x = y))) ∧ Below w.heap.size w w' := by
  have hx := hx0.rd
  have hy := hy0.rd
  by_cases h : x = y
  · subst h
    go_enter Try.func41, Try.ntmps41
    go_wp2_with (first
      | (refine wpList_conv byP rfl rfl rfl hx ?_)
      | (refine wpList_conv byP rfl rfl rfl hy ?_))
    go_ret
    exact ⟨by simp, Below.refl _ _⟩
  · have d := str_eqD.trans (decide_eq_false h)
    have H := Lib.hid h
    clear h
    go_enter Try.func41, Try.ntmps41
    go_wp2_with (first
      | (refine wpList_conv byP rfl rfl rfl hx ?_)
      | (refine wpList_conv byP rfl rfl rfl hy ?_))
    go_ret
    exact ⟨by simp [H.out], Below.refl _ _⟩
set_option maxRecDepth 100000 in
set_option maxHeartbeats 4000000 in
theorem same11_any (w : World) {S S2 : Nat → Prop} {v : Value} {x y : Wr} {xb : Nat} {a1 a3 : Option Addr} {a2 a4 : Nat} (hy : RdWr S w v y) (hB : BoxN w xb 59 [.int .i64 x.table, .slice a1 x.key.length a2, .bool x.gone, .slice a3 x.val.length a4]) (hk : RdS S2 w (.slice a1 x.key.length a2) x.key) :
    Calls Try.prog 40 #[v, .pointer (some ⟨xb, 0, none⟩)] w fun e w' => e = .returned (.bool (eqW x y)) ∧ Below w.heap.size w w' := by
  obtain ⟨y1, y2, y3, y4, rfl, hky, _, _⟩ := hy
  obtain ⟨W, hW, q, By, hsz⟩ := spBox w 59 [.int .i64 y.table, .slice y1 y.key.length y2, .bool y.gone, .slice y3 y.val.length y4]
  clear hsz
  go_enter Try.func40, Try.ntmps40
  go_upto_region 1 with (fail)
  rw [show w.alloc (.cells #[.int .i64 y.table, .slice y1 y.key.length y2, .bool y.gone, .slice y3 y.val.length y4] 59) = W from hW.symm]
  clear hW
  have c0 := By.cell (i := 0) rfl
  have c1 := By.cell (i := 1) rfl
  have hB2 := hB.below q hB.lt
  have d0 := hB2.cell (i := 0) rfl
  have d1 := hB2.cell (i := 1) rfl
  clear hB hB2 By
  have eqr := equal_any W (hk.below q) (hky.below q)
  by_cases h : x.table = y.table
  · have da : (x.table == y.table) = true := beq_iff_eq.2 h
    have db : decide (x.table = y.table) = true := decide_eq_true h
    have H := Lib.hid (show eqW x y = decide (x.key = y.key) by unfold eqW; rw [db, Bool.true_and])
    clear h
    go_wp2_with fail
    refine eqr.mono ?_
    rintro e w1 ⟨rfl, hb⟩
    clear c0 c1 d0 d1 eqr
    go_wp2_with fail
    go_ret
    exact ⟨by first | (rw [H.out]; done) | (rw [H.out]; rfl), q.trans (hb.mono q.size)⟩
  · have da : (x.table == y.table) = false := beq_eq_false_iff_ne.2 h
    have db : decide (x.table = y.table) = false := decide_eq_false h
    have H := Lib.hid (show eqW x y = false by unfold eqW; rw [db, Bool.false_and])
    clear h eqr
    go_wp2_with fail
    go_ret
    exact ⟨by rw [H.out]; rfl, q⟩
set_option maxRecDepth 100000 in
set_option maxHeartbeats 4000000 in
theorem same1_any (w : World) {S S2 : Nat → Prop} {v : Value} {x : Wr} {l : List Wr} {lb : Nat} {a : Option Addr} {c : Nat} (hx : RdWr S2 w v x) (hB : Boxed w lb 25 (.slice a l.length c)) (hl : RdL Elt.wr S w (.slice a l.length c) l) :
    Calls Try.prog 38 #[v, .pointer (some ⟨lb, 0, none⟩)] w fun e w' => e = .returned (.bool (l.any fun y => eqW x y)) ∧ Below w.heap.size w w' := by
  obtain ⟨a1, a2, a3, a4, rfl, hk, _, _⟩ := hx
  obtain ⟨W, hW, q, Bx, hsz⟩ := spBox w 59 [.int .i64 x.table, .slice a1 x.key.length a2, .bool x.gone, .slice a3 x.val.length a4]
  clear hsz
  go_enter Try.func38, Try.ntmps38
  go_upto_region 1 with (fail)
  rw [show w.alloc (.cells #[.int .i64 x.table, .slice a1 x.key.length a2, .bool x.gone, .slice a3 x.val.length a4] 59) = W from hW.symm]
  clear hW
  have hc := (q.cell (p := ⟨lb, 0, none⟩) (cell_lt hB.cell)).trans hB.cell
  have hcl := containsW_any W (hl.below q) 40 #[] #[.pointer (some ⟨w.heap.size, 0, none⟩)] (enters_of Try.func40 (by kernel_rfl) rfl) (fun y => eqW x y) (fun V _ _ hb hs => same11_any V hs (Bx.below hb Bx.lt) ((hk.below q).below hb))
  clear hB
  go_wp2_with fail
  refine hcl.mono ?_
  rintro e w1 ⟨rfl, hb⟩
  clear hc hcl
  go_wp2_with fail
  go_ret
  exact ⟨rfl, q.trans (hb.mono q.size)⟩
set_option maxRecDepth 100000 in
set_option maxHeartbeats 4000000 in
theorem sSame_any (w : World) {S S2 : Nat → Prop} {a a2 : Option Addr} {n c n2 c2 : Nat} {l ws : List Wr} (hl : RdL Elt.wr S w (.slice a n c) l) (hw : RdL Elt.wr S2 w (.slice a2 n2 c2) ws) :
    Calls Try.prog 24 #[.slice a n c, .slice a2 n2 c2] w fun e w' => e = .returned (.bool (sameW l ws)) ∧ Below w.heap.size w w' := by
  obtain ⟨rfl, _, _⟩ := hw.len
  obtain ⟨W, hW⟩ : ∃ W, W = w.alloc (.cells #[.slice a2 ws.length c2] 25) := ⟨_, rfl⟩
  have q : Below w.heap.size w W := by rw [hW]; exact (Below.refl _ _).alloc (Nat.le_refl _) _
  have hB : Boxed W w.heap.size 25 (.slice a2 ws.length c2) := by rw [hW]; exact Boxed.new _ _ _
  go_enter Try.func24, Try.ntmps24
  go_upto_region 2 with (fail)
  rw [← hW]
  clear hW
  have hcl := containsW_any W (hl.below q) 38 #[] #[.pointer (some ⟨w.heap.size, 0, none⟩)] (enters_of Try.func38 (by kernel_rfl) rfl) (fun x => ws.any fun y => eqW x y) (fun V _ _ hb hx => same1_any V hx ((hb.block _ hB.lt).trans hB) ((hw.below q).below hb))
  go_wp2_with fail
  refine hcl.mono ?_
  rintro e w1 ⟨rfl, hb⟩
  clear hcl
  go_wp2_with fail
  go_ret
  exact ⟨rfl, q.trans (hb.mono q.size)⟩
end Go.Proofs.Ytobelnedhlepaaa
namespace Go.Proofs.Ytobelnedhlepaaa
open Go.RowKit
theorem calls_of_wp_marks {P : Program} {f : FuncId} {fn : Func} {c : Code} {args : Array Value} {w : World} {R : Ending → World → Prop} (hf : P.funcs[f]? = some fn) (hb : fn.body = some c)
    (h : c.wp P (bodyPostM Fence.wide 3 P fn R) { tmps := args ++ Array.replicate (fn.ntmps - args.size) undef, defers := [] } w) : Calls P f args w R :=
  (callsIn_wide (n := 3)).1 (callsIn_of_wp_marks hf hb trivial (wpIn_wide.2 h) rfl)
end Go.Proofs.Ytobelnedhlepaaa
namespace Go.Proofs.Ytobelnedhlepaaa
open Go.RowKit
theorem boxN_own {β : Type} {N b : Nat} {t : TypeId} {vs : List Value} : OwnFrom N (fun (_ : β) W => BoxN W b t vs) := fun _ X _ _ hs hg hr =>
  hs.other hg fun e => by
    obtain ⟨_, o, ho, hc⟩ := hr _ e
    rw [show X.heap[b]? = _ from hs] at ho
    cases ho
    cases hc
theorem below_ownN {β : Type} {n₀ N : Nat} {w₀ : World} (h1 : n₀ ≤ w₀.heap.size) (h2 : n₀ ≤ N) : OwnFrom N (fun (_ : β) W => Below n₀ w₀ W) := fun _ _ _ _ hs hg hr =>
  hs.grown hg (Nat.le_trans h1 hs.size) fun k e => Nat.le_trans h2 (hr k e).1
section
variable {P : Program} {t : TypeId} {ops : Array Oper} {rest : List Oper} {o : Oper} {a : Act} {Q : Exit → Act → World → Prop} {w : World} {l n : Nat}
theorem inR_boxNew {vs : List Value} (hz : (P.info? t).bind (·.zero) = some (.agg vs.toArray)) (ho : o.op = .alloc t) (hgd : Region.wanted o (yielded ops a.tmps) = true) (h : ∀ w', Below w.heap.size w w' → BoxN w' w.heap.size t vs → wpListIn (Fence.wide.inRound l) n P ops Q rest (a.put o.dst (.pointer (some ⟨w.heap.size, 0, none⟩))) w') : wpListIn (Fence.wide.inRound l) n P ops Q (o :: rest) a w :=
  BigFrame.wpListIn_want hgd fun K hK => wp_opIn (K := K) (by rw [ho]; intro c h; cases h) (fun _ _ h => h) (wp_boxNew hz ho fun w' h1 h2 => hK _ _ (h w' h1 h2))
theorem inR_boxStore {vs us : List Value} {x y : Operand} {b : Nat} (hs : (P.info? t).map (·.size) = some us.length) (ho : o.op = .store t x y) (hd : o.dst = none) (hgd : Region.wanted o (yielded ops a.tmps) = true) (hx : a.eval x = .pointer (some ⟨b, 0, none⟩)) (hy : a.eval y = .agg us.toArray) (h1 : us.all (·.oneCell') = true) (hb : BoxN w b t vs) (hl : vs.length = us.length)
    (h : ∀ w', w.grownBy w' (some b) → BoxN w' b t us → wpListIn (Fence.wide.inRound l) n P ops Q rest a w') : wpListIn (Fence.wide.inRound l) n P ops Q (o :: rest) a w :=
  BigFrame.wpListIn_want hgd fun K hK => wp_opIn (K := K) (by rw [ho]; intro c h; cases h) (fun _ _ h => h) (wp_boxStore hs ho hx hy h1 hb hl fun w' h3 h4 => hK _ _ (by rw [hd]; exact h w' h3 h4))
end
end Go.Proofs.Ytobelnedhlepaaa
namespace Go.Proofs.Ytobelnedhlepaaa
open Go.RowKit
structure Trd (F : Nat → Prop) (w w' : World) : Prop where
  os : w'.os = w.os
  tape : w'.tape = w.tape
  output : w'.output = w.output
  size : w.heap.size ≤ w'.heap.size
  block : ∀ k, k < w.heap.size → ¬ F k → w'.heap[k]? = w.heap[k]?
section
variable {F F' : Nat → Prop} {a b c w w' : World}
theorem Trd.refl (F : Nat → Prop) (w : World) : Trd F w w := ⟨rfl, rfl, rfl, Nat.le_refl _, fun _ _ _ => rfl⟩
theorem Trd.mono (h : Trd F w w') (hf : ∀ k, k < w.heap.size → F k → F' k) : Trd F' w w' := ⟨h.os, h.tape, h.output, h.size, fun k hk hn => h.block k hk fun hF => hn (hf k hk hF)⟩
theorem Trd.trans (h : Trd F a b) (k : Trd F' b c) (hf : ∀ k, k < a.heap.size → F' k → F k) : Trd F a c :=
  ⟨k.os.trans h.os, k.tape.trans h.tape, k.output.trans h.output, Nat.le_trans h.size k.size, fun i hi hn => (k.block i (Nat.lt_of_lt_of_le hi h.size) fun hF => hn (hf i hi hF)).trans (h.block i hi hn)⟩
theorem Trd.of (h : Below w.heap.size w w') : Trd F w w' := ⟨h.os, h.tape, h.output, h.size, fun k hk _ => h.block k hk⟩
theorem Trd.ofGrown {r : Option Nat} (h : w.grownBy w' r) (hr : ∀ k, r = some k → F k) : Trd F w w' := ⟨h.os, h.tape, h.output, h.size, fun k hk hn => h.block k hk fun e => hn (hr k e.symm)⟩
theorem Trd.below {n : Nat} (h : Trd F w w') (hn : n ≤ w.heap.size) (hf : ∀ k, k < n → ¬ F k) : Below n w w' := ⟨h.os, h.tape, h.output, h.size, fun k hk => h.block k (Nat.lt_of_lt_of_le hk hn) (hf k hk)⟩
theorem Trd.cell (h : Trd F w w') {k o : Nat} {v : Value} (hc : w.cell? ⟨k, o, none⟩ = some v) (hn : ¬ F k) : w'.cell? ⟨k, o, none⟩ = some v :=
  (cell_keep (h.block k (cell_lt hc) hn) o).trans hc
end
def RowQ (Te : TypeId) (sz : Nat) (w : World) (v : Value) (n : Nat) (vs : List Value) : Prop := w.ownsRow 0 Te sz v n vs ∧ ∀ u ∈ vs, u.oneCell' = true
section
variable {Te : TypeId} {sz n : Nat} {w w' : World} {v : Value} {vs : List Value}
theorem RowQ.len (h : RowQ Te sz w v n vs) : vs.length = n * sz := h.1.1
theorem RowQ.cases (h : RowQ Te sz w v n vs) : (v = .slice none 0 0 ∧ n = 0 ∧ vs = []) ∨ ∃ g cap cur, v = .slice (some ⟨g, 0, none⟩) n cap ∧ w.heap[g]? = some (.cells cur Te (0, 0)) ∧ n ≤ cap ∧ cap ≤ maxLen ∧ cur.size = cap * sz ∧ cur.toList.take (n * sz) = vs := by
  rcases h.1.2 with ⟨h1, h2⟩ | ⟨g, cap, cur, h1, _, h2, h3, h4, h5, h6⟩
  · refine .inl ⟨h1, h2, List.eq_nil_of_length_eq_zero ?_⟩
    rw [h.len, h2, Nat.zero_mul]
  · exact .inr ⟨g, cap, cur, h1, h2, h3, h4, h5, h6⟩
theorem RowQ.of {g cap : Nat} {cur : Array Value} (hg : w.heap[g]? = some (.cells cur Te (0, 0))) (h1 : n ≤ cap) (h2 : cap ≤ maxLen) (h3 : cur.size = cap * sz) (h4 : cur.toList.take (n * sz) = vs) (h5 : ∀ u ∈ vs, u.oneCell' = true) : RowQ Te sz w (.slice (some ⟨g, 0, none⟩) n cap) n vs := by
  refine ⟨⟨?_, .inr ⟨g, cap, cur, rfl, Nat.zero_le _, hg, h1, h2, h3, h4⟩⟩, h5⟩
  rw [← h4, List.length_take, Array.length_toList, h3]
  exact Nat.min_eq_left (Nat.mul_le_mul_right _ h1)
theorem RowQ.nil (Te : TypeId) (sz : Nat) (w : World) : RowQ Te sz w (.slice none 0 0) 0 [] := ⟨World.ownsRow_nil _ _ _ _, fun _ h => by cases h⟩
theorem RowQ.shape (h : RowQ Te sz w v n vs) : ∃ a c, v = .slice a n c ∧ n ≤ c ∧ c ≤ maxLen := by
  rcases h.cases with ⟨rfl, rfl, _⟩ | ⟨g, cap, cur, rfl, _, h1, h2, _⟩
  · exact ⟨none, 0, rfl, Nat.le_refl _, by unfold maxLen; omega⟩
  · exact ⟨_, _, rfl, h1, h2⟩
theorem RowQ.block (h : RowQ Te sz w v n vs) {k : Nat} (hk : v.ownBlock = some k) : ∃ cur, w.heap[k]? = some (.cells cur Te (0, 0)) := by
  rcases h.cases with ⟨rfl, _, _⟩ | ⟨g, cap, cur, rfl, hg, _⟩
  · simp [Value.ownBlock] at hk
  · simp [Value.ownBlock] at hk
    subst hk
    exact ⟨_, hg⟩
theorem RowQ.lt (h : RowQ Te sz w v n vs) {k : Nat} (hk : v.ownBlock = some k) : k < w.heap.size := by
  obtain ⟨_, hg⟩ := h.block hk
  exact (Array.getElem?_eq_some_iff.1 hg).1
theorem RowQ.kept (h : RowQ Te sz w v n vs) (hk : ∀ k, v.ownBlock = some k → w'.heap[k]? = w.heap[k]?) : RowQ Te sz w' v n vs := by
  refine ⟨⟨h.1.1, ?_⟩, h.2⟩
  rcases h.1.2 with h | ⟨g, cap, cur, rfl, h1, h2, h3⟩
  · exact .inl h
  · exact .inr ⟨g, cap, cur, rfl, h1, (hk g rfl).trans h2, h3⟩
theorem RowQ.below (h : RowQ Te sz w v n vs) (hb : Below w.heap.size w w') : RowQ Te sz w' v n vs := h.kept fun k e => hb.block k (h.lt e)
theorem RowQ.cell (h : RowQ Te sz w v n vs) {g : Nat} (hg : v.ownBlock = some g) {j : Nat} {u : Value} (hj : vs[j]? = some u) : w.cell? ⟨g, j, none⟩ = some u := by
  rcases h.cases with ⟨rfl, _, _⟩ | ⟨g', cap, cur, rfl, hb, _, _, _, ht⟩
  · simp [Value.ownBlock] at hg
  · simp [Value.ownBlock] at hg
    subst hg
    subst ht
    rw [List.getElem?_take] at hj
    split at hj
    · simp [World.cell?, hb, ← Array.getElem?_toList, hj]
    · cases hj
end
end Go.Proofs.Ytobelnedhlepaaa
namespace Go.Proofs.Ytobelnedhlepaaa
open Go.RowKit
theorem cells_atP {w : World} {b : Nat} {t : TypeId} {us : List Value} (h : w.heap[b]? = some (.cells us.toArray t (0, 0))) (j : Nat) (u : Value) (hj : us[j]? = some u) : w.cell? (Addr.add ⟨b, 0, none⟩ j) = some u := by
  rw [Addr.add_lit, World.cell?, h]
  simpa using hj
theorem wp_storeSlP {P : Program} {o : Oper} {a : Act} {K : Act → World → Prop} {Q : Exit → Act → World → Prop} {w : World} {t : TypeId} {x y : Operand} {b f : Nat} {u : Value} {ad : Option Addr} {k c : Nat} (ho : o.op = .store t x y) (hu : (P.info? t).map (·.size) = some 1) (hx : a.eval x = .pointer (some ⟨b, f, none⟩)) (hy : a.eval y = .slice ad k c) (hc : w.cell? ⟨b, f, none⟩ = some u) (hf : w.frozen? ⟨b, f, none⟩ = false)
    (h : K (a.put o.dst undef) (w.setCell ⟨b, f, none⟩ (.slice ad k c))) : o.wp P a w K Q := by
  refine wp_skip ?_ h
  simp only [execOp, ho, hx, hy]
  simp [Instr.storeAt, storeVar, run_sizeOf hu, storeCells, Value.cells, run_store _ _ _ _ _ (show (Value.slice ad k c).oneCell' = true from rfl), hc, hf, go_sem]
def cellsAtP (w : World) (k : Nat) : Prop := ∃ o : Obj, w.heap[k]? = some o ∧ o.isCells = true
def OnlyP {α : Type} (E : Elt α) : Prop := ∀ (S : Nat → Prop) (w : World) (x : α) (vs : List Value), E.R S w x vs → E.R (fun k => S k ∧ cellsAtP w k) w x vs
theorem rdS_cellsP {S : Nat → Prop} {w : World} {v : Value} {xs : List UInt8} (h : RdS S w v xs) : RdS (fun k => S k ∧ cellsAtP w k) w v xs := by
  rcases h with h | ⟨b, off, cap, hv, hb, h1, h2, hc⟩
  · exact .inl h
  · cases xs with
    | nil => exact .inl ⟨_, _, hv, h2, rfl⟩
    | cons x r => exact .inr ⟨b, off, cap, hv, ⟨hb, cells_of_cell (hc 0 _ rfl)⟩, h1, h2, hc⟩
section
variable {α : Type} {E : Elt α} {T Te : TypeId} {base lo : Nat} {w w' : World} {v : Value} {xs : List α}
theorem Flat.cellsP (hE : OnlyP E) {S : Nat → Prop} : ∀ {xs : List α} {vs : List Value}, Flat E S w xs vs → Flat E (fun k => S k ∧ cellsAtP w k) w xs vs
  | [], _, h => h
  | _ :: _, _, ⟨us, ws, e, h1, h2⟩ => ⟨us, ws, e, hE _ _ _ _ h1, Flat.cellsP hE h2⟩
theorem OwnL.grownP (hE : OnlyP E) (h : OwnL E Te base lo w v xs) {row : Option Nat} (hg : w.grownBy w' row) (hr : ∀ r, row = some r → ∃ o : Obj, w.heap[r]? = some o ∧ o.isCells = false) : OwnL E Te base lo w' v xs := by
  obtain ⟨vs, h1, h2⟩ := h
  refine ⟨vs, ⟨h1.1, ?_⟩, ((Flat.cellsP hE h2).keep fun k hk => ?_).weak fun k hk => ⟨hk.1.1, Nat.lt_of_lt_of_le hk.1.2.1 hg.size, hk.1.2.2⟩⟩
  · rcases h1.2 with h | ⟨g, cap, cur, hv, hb, hg2, r⟩
    · exact .inl h
    · exact .inr ⟨g, cap, cur, hv, hb, (grownBy_keeps_cells hg hr hg2 rfl).trans hg2, r⟩
  · obtain ⟨o, ho, hc⟩ := hk.2
    exact grownBy_keeps_cells hg hr ho hc
theorem own_typeP {k : Nat} (h : OwnL E Te base lo w v xs) (hk : v.ownBlock = some k) : ∃ c r, w.heap[k]? = some (.cells c Te r) := by
  obtain ⟨vs, h1, _⟩ := h
  rcases h1.2 with ⟨rfl, _⟩ | ⟨g, cap, cur, rfl, _, hg, _⟩
  · cases hk
  · injection hk with hk
    subst hk
    exact ⟨_, _, hg⟩
def BoxLP (E : Elt α) (T Te : TypeId) (B base lo : Nat) (w : World) (xs : List α) : Prop := ∃ a k c, Boxed w B T (.slice a k c) ∧ OwnL E Te base lo w (.slice a k c) xs
theorem BoxLP.own {β : Type} {N : Nat} {B : Nat} (hE : OnlyP E) (f : β → List α) : OwnFrom N (fun s W => BoxLP E T Te B base lo W (f s)) := fun _ _ _ _ ⟨a, k, c, h1, h2⟩ hg hr =>
  ⟨a, k, c, h1.kept hg (fun e => by obtain ⟨_, o, ho, hc⟩ := hr _ e.symm; rw [h1] at ho; cases ho; cases hc), OwnL.grownP hE h2 hg fun r e => (hr r e).2⟩
end
structure ColP {α : Type} (E : Elt α) (T Te : TypeId) (B base lo : Nat) (W : World) (v : Value) (xs : List α) (x : α) (C : World → Value → Prop) (o0 o2 o3 o4 o5 : Option Value) (w' : World) : Prop where
  ld : ∀ u, o0 = some u → u = v
  el : ∀ u, o2 = some u → C w' u
  rw : ∀ u, o3 = some u → o4 = none → ∃ b us, u = .slice (some ⟨b, 0, none⟩) 1 1 ∧ W.heap.size ≤ b ∧ w'.heap[b]? = some (.cells us.toArray Te (0, 0)) ∧ E.R (fun g => lo ≤ g ∧ g < w'.heap.size ∧ some g ≠ v.ownBlock) w' x us
  tr : Trd (fun k => (o4 ≠ none ∧ some k = v.ownBlock) ∨ (o5 ≠ none ∧ k = B)) W w'
  ap : ∀ u, o4 = some u → ∃ a k c, u = .slice a k c ∧ OwnL E Te base lo w' u (xs ++ [x])
  no : o4 = none → o5 = none
  dn : o4 ≠ none → o0 ≠ none ∧ o3 ≠ none
  st : ∀ u, o5 = some u → ∃ a, o4 = some a ∧ Boxed w' B T a
def ColLP {α : Type} (E : Elt α) (T Te : TypeId) (B base lo : Nat) (W : World) (v : Value) (xs : List α) (x : α) (C : World → Value → Prop) : List (Option Value) → World → Prop
  | [o0, o2, o3, o4, o5], w' => ColP E T Te B base lo W v xs x C o0 o2 o3 o4 o5 w'
  | _, _ => False
section
variable {α : Type} {E : Elt α} {T Te : TypeId} {B base lo : Nat} {W w' w2 : World} {v : Value} {xs : List α} {x : α} {C : World → Value → Prop} {o0 o2 o3 o4 o5 : Option Value}
theorem ColP.start (W : World) : ColP E T Te B base lo W v xs x C none none none none none W :=
  ⟨fun _ h => (by cases h), fun _ h => (by cases h), fun _ h => (by cases h), Trd.refl _ _, fun _ h => (by cases h), fun _ => rfl, fun h => absurd rfl h, fun _ h => (by cases h)⟩
theorem ColP.more (hC : ∀ w u w', C w u → Below w.heap.size w w' → C w' u) (h : ColP E T Te B base lo W v xs x C o0 o2 o3 o4 o5 w') (hb : Below w'.heap.size w' w2) : ColP E T Te B base lo W v xs x C o0 o2 o3 o4 o5 w2 where
  ld := h.ld
  el u hu := hC _ _ _ (h.el u hu) hb
  rw u hu h4 := by
    obtain ⟨b, us, e, h1, h2, h3⟩ := h.rw u hu h4
    exact ⟨b, us, e, h1, (hb.block b (Array.getElem?_eq_some_iff.1 h2).1).trans h2, E.weak (E.keep h3 fun g hg => hb.block g hg.2.1) fun g hg => ⟨hg.1, Nat.lt_of_lt_of_le hg.2.1 hb.size, hg.2.2⟩⟩
  tr := h.tr.trans (Trd.of (F := fun _ => False) hb) fun _ _ h => h.elim
  ap u hu := by
    obtain ⟨a, k, c, e, h1⟩ := h.ap u hu
    exact ⟨a, k, c, e, h1.below hb⟩
  no := h.no
  dn := h.dn
  st u hu := by
    obtain ⟨a, e, h1⟩ := h.st u hu
    exact ⟨a, e, (hb.block B h1.lt).trans h1⟩
theorem ColLP.more (hC : ∀ w u w', C w u → Below w.heap.size w w' → C w' u) : ∀ (l : List (Option Value)) (w w' : World), ColLP E T Te B base lo W v xs x C l w → Below w.heap.size w w' → ColLP E T Te B base lo W v xs x C l w'
  | [_, _, _, _, _], _, _, h, hb => ColP.more hC h hb
theorem ColP.done {n₀ : Nat} {u a : Value} (h : ColP E T Te B base lo W v xs x C o0 o2 o3 (some a) (some u) w') (hb : Boxed W B T v) (hO : OwnL E Te base lo W v xs) (hn : n₀ ≤ base) (hB : n₀ ≤ B) (N : Nat) :
    KeepsFrom N W w' ∧ Below n₀ W w' ∧ BoxLP E T Te B base lo w' (xs ++ [x]) := by
  have hF : ∀ k, ((some a ≠ none ∧ some k = v.ownBlock) ∨ (some u ≠ none ∧ k = B)) → (base ≤ k ∨ k = B) ∧ ∃ c T' r, W.heap[k]? = some (.cells c T' r) := by
    rintro k (⟨_, e⟩ | ⟨_, rfl⟩)
    · obtain ⟨c, r, e2⟩ := own_typeP hO e.symm
      exact ⟨.inl (hO.block_lt k e.symm).1, c, Te, r, e2⟩
    · exact ⟨.inr rfl, _, _, _, hb⟩
  refine ⟨⟨h.tr.size, fun k o _ hk ho => (h.tr.block k (Array.getElem?_eq_some_iff.1 hk).1 fun e => ?_).trans hk⟩, h.tr.below (n := n₀) ?_ fun k hk e => ?_, ?_⟩
  · obtain ⟨_, c, T', r, e2⟩ := hF k e
    rw [hk] at e2
    cases e2
    cases ho
  · have := hb.lt; omega
  · have := (hF k e).1; omega
  · obtain ⟨a', k, c, e, h1⟩ := h.ap a rfl
    obtain ⟨a2, e2, h2⟩ := h.st u rfl
    injection e2 with e2
    subst e2 e
    exact ⟨a', k, c, h2, h1⟩
end
section
variable {α : Type} {E : Elt α} {P : Program} {T Te : TypeId} {B base lo : Nat} {W w' : World} {v : Value} {xs : List α} {x : α} {C : World → Value → Prop} {o0 o2 o3 o4 o5 : Option Value} {o : Oper} {a : Act} {K : Act → World → Prop} {Q : Exit → Act → World → Prop}
theorem ColP.load (h : ColP E T Te B base lo W v xs x C none o2 o3 o4 o5 w') (hb : Boxed W B T v) : Boxed w' B T v ∧ ColP E T Te B base lo W v xs x C (some v) o2 o3 o4 o5 w' := by
  have h4 : o4 = none := by
    cases o4 with
    | none => rfl
    | some u => exact absurd rfl (h.dn (by simp)).1
  have h5 := h.no h4
  subst h4 h5
  exact ⟨(h.tr.block B hb.lt fun e => e.elim (fun e => e.1 rfl) fun e => e.1 rfl).trans hb, ⟨fun u hu => by injection hu with hu; exact hu.symm, h.el, h.rw, h.tr, h.ap, h.no, fun e => absurd rfl e, h.st⟩⟩
theorem ColP.elem (hC : ∀ w u w', C w u → Below w.heap.size w w' → C w' u) (h : ColP E T Te B base lo W v xs x C o0 none o3 o4 o5 w') {w2 : World} {u : Value} (hb : Below w'.heap.size w' w2) (hu : C w2 u) : ColP E T Te B base lo W v xs x C o0 (some u) o3 o4 o5 w2 := by
  have h2 := h.more hC hb
  exact ⟨h2.ld, fun u' h' => by injection h' with h'; exact h' ▸ hu, h2.rw, h2.tr, h2.ap, h2.no, h2.dn, h2.st⟩
theorem ColP.build (hP : LoP P T Te E.size) (h : ColP E T Te B base lo W v xs x C o0 o2 none none none w') {y : Operand} {u : Value} {us : List Value} (ho : o.op = .buildSlice T 1 #[(0, y)]) (hy : a.eval y = u) (hu : u.cells = us.toArray)
    (hx : E.R (fun g => lo ≤ g ∧ g < w'.heap.size ∧ some g ≠ v.ownBlock) w' x us) (hn : E.size ≤ 4096) (hC : ∀ w u w', C w u → Below w.heap.size w w' → C w' u)
    (hk : ∀ r w2, ColP E T Te B base lo W v xs x C o0 o2 (some r) none none w2 → K (a.put o.dst r) w2) : o.wp P a w' K Q := by
  have hb : Below w'.heap.size w' (w'.alloc (.cells us.toArray Te)) := (Below.refl _ _).alloc (Nat.le_refl _) _
  refine wp_buildOne hP ho hy hu (E.len hx) E.pos hn (hk _ _ ?_)
  have h2 := h.more hC hb
  exact ⟨h2.ld, h2.el, fun u' hu' _ => by
    injection hu' with hu'
    exact ⟨_, us, hu'.symm, h.tr.size, by simp only [World.alloc, Array.getElem?_push_size], E.weak (E.keep hx fun g hg => hb.block g hg.2.1) fun g hg => ⟨hg.1, Nat.lt_of_lt_of_le hg.2.1 hb.size, hg.2.2⟩⟩, h2.tr, h2.ap, h2.no, fun e => absurd rfl e, h2.st⟩
theorem ColP.app (hP : LoP P T Te E.size) {r : Value} (h : ColP E T Te B base lo W v xs x C o0 o2 (some r) none none w') (h0 : o0 ≠ none) {s y : Operand} (ho : o.op = .call { callee := .builtin .append, args := #[s, y], argTypes := #[T, T] }) (hs : a.eval s = v) (hy : a.eval y = r)
    (hO : OwnL E Te base lo W v xs) (hbW : base ≤ W.heap.size) (hlen : xs.length + 1 ≤ 1073741824) (hC : ∀ w u w', C w u → w.grownBy w' v.ownBlock → C w' u)
    (hk : ∀ r2 w2, ColP E T Te B base lo W v xs x C o0 o2 (some r) (some r2) none w2 → K (a.put o.dst r2) w2) : o.wp P a w' K Q := by
  obtain ⟨b, us, rfl, h1, h2, h3⟩ := h.rw _ rfl rfl
  have hbl : Below W.heap.size W w' := h.tr.below (Nat.le_refl _) fun k _ e => by rcases e with ⟨e, _⟩ | ⟨e, _⟩ <;> exact e rfl
  refine wp_appendL (ys := [x]) hP ho hs (hO.below hbl) hy (cells_atP h2) (Flat.single h3) (fun k hk => hk) (Nat.le_trans hbW hbl.size) (fun ad k cap w2 g1 g2 _ => hk _ _ ?_) (by simpa using hlen)
  have htr : Trd (fun k => (some (Value.slice ad k cap) ≠ none ∧ some k = v.ownBlock) ∨ (@none Value ≠ none ∧ k = B)) W w2 :=
    (Trd.of (F := fun k => (some (Value.slice ad k cap) ≠ none ∧ some k = v.ownBlock) ∨ (@none Value ≠ none ∧ k = B)) hbl).trans (Trd.ofGrown g2 (F := fun k => some k = v.ownBlock) fun k e => e.symm) fun k _ e => .inl ⟨by simp, e⟩
  exact
    { ld := h.ld
      el := fun u hu => hC _ _ _ (h.el u hu) g2
      rw := fun _ _ e => by cases e
      tr := htr.mono fun k _ e => e.imp (fun e => ⟨by simp, e.2⟩) fun e => ⟨e.1, e.2⟩
      ap := fun u hu => by
        injection hu with hu
        exact ⟨ad, k, cap, hu.symm, hu ▸ g1⟩
      no := fun e => by cases e
      dn := fun _ => ⟨h0, by simp⟩
      st := fun _ e => by cases e }
theorem ColP.sto {r2 : Value} (h : ColP E T Te B base lo W v xs x C o0 o2 o3 (some r2) none w') {p y : Operand} (ho : o.op = .store T p y) (hT : (P.info? T).map (·.size) = some 1) (hp : a.eval p = .pointer (some ⟨B, 0, none⟩)) (hy : a.eval y = r2)
    (hb : Boxed W B T v) (hO : OwnL E Te base lo W v xs) (hBb : B < base) (hBl : B < lo) (hC : ∀ w u w', C w u → w.grownBy w' (some B) → C w' u)
    (hk : ∀ w2, ColP E T Te B base lo W v xs x C o0 o2 o3 (some r2) (some undef) w2 → K (a.put o.dst undef) w2) : o.wp P a w' K Q := by
  obtain ⟨ad, k, c, rfl, h1⟩ := h.ap _ rfl
  have hB : Boxed w' B T v := (h.tr.block B hb.lt fun e => e.elim (fun e => by have := (hO.block_lt B e.2.symm).1; omega) fun e => e.1 rfl).trans hb
  refine wp_storeSlP ho hT hp hy hB.cell hB.frozen (hk _ ?_)
  have hg := grownBy_setCell' w' B (.slice ad k c)
  exact
    { ld := h.ld
      el := fun u hu => hC _ _ _ (h.el u hu) hg
      rw := fun _ _ e => by cases e
      tr := by
        have h5 := h.tr.mono (F' := fun i => (some (Value.slice ad k c) ≠ none ∧ some i = v.ownBlock) ∨ (some undef ≠ none ∧ i = B)) fun i _ e => e.imp id fun e => ⟨by simp, e.2⟩
        exact h5.trans (Trd.ofGrown hg (F := fun i => i = B) fun i e => by injection e with e; exact e.symm) fun i _ e => .inr ⟨by simp, e⟩
      ap := fun u hu => by
        injection hu with hu
        exact ⟨ad, k, c, hu.symm, hu ▸ h1.other hg hBl hBb⟩
      no := fun e => by cases e
      dn := fun _ => h.dn (by simp)
      st := fun u _ => ⟨_, rfl, hB.set _⟩ }
end
end Go.Proofs.Ytobelnedhlepaaa
namespace Go.Proofs.Ytobelnedhlepaaa
open Go.RowKit
section
variable {α : Type} {E : Elt α} {T Te : TypeId} {P : Program} {B n0 k : Nat} {w w' : World} {v : Value} {xs : List α}
def RowO (E : Elt α) (Te : TypeId) (n0 : Nat) (w : World) (v : Value) (xs : List α) : Prop :=
  ∃ vs, RowQ Te E.size w v xs.length vs ∧ ∀ r (h : r < xs.length), ∃ us, E.R (· < n0) w xs[r] us ∧ ∀ j u, us[j]? = some u → vs[r * E.size + j]? = some u
def HfS (B n0 k r j : Nat) : Prop := (r < k → B ≤ j) ∧ (k ≤ r → j < n0)
def PtH (E : Elt α) (B n0 : Nat) (w : World) (xs : List α) (k : Nat) (vs : List Value) : Prop := ∀ r (h : r < xs.length), ∃ us, E.R (HfS B n0 k r) w xs[r] us ∧ ∀ j u, us[j]? = some u → vs[r * E.size + j]? = some u
def RowH (E : Elt α) (Te : TypeId) (B n0 : Nat) (w : World) (v : Value) (xs : List α) (k : Nat) : Prop := ∃ vs, RowQ Te E.size w v xs.length vs ∧ PtH E B n0 w xs k vs
theorem RowO.kept (h : RowO E Te n0 w v xs) (ho : ∀ g, v.ownBlock = some g → w'.heap[g]? = w.heap[g]?) (hk : ∀ j, j < n0 → j < w.heap.size → w'.heap[j]? = w.heap[j]?) : RowO E Te n0 w' v xs := by
  obtain ⟨vs, h1, h2⟩ := h
  refine ⟨vs, h1.kept ho, fun r hr => ?_⟩
  obtain ⟨us, h3, h4⟩ := h2 r hr
  exact ⟨us, E.weak (E.keep (E.fit h3) fun j hj => hk j hj.1 hj.2) fun _ hj => hj.1, h4⟩
theorem RowO.below (h : RowO E Te n0 w v xs) (hb : Below w.heap.size w w') : RowO E Te n0 w' v xs := by
  refine h.kept (fun g hg => ?_) fun j _ hj => hb.block j hj
  obtain ⟨vs, h1, _⟩ := h
  exact hb.block g (h1.lt hg)
theorem RowO.start (h : RowO E Te n0 w v xs) (B : Nat) : RowH E Te B n0 w v xs 0 := by
  obtain ⟨vs, h1, h2⟩ := h
  refine ⟨vs, h1, fun r hr => ?_⟩
  obtain ⟨us, h3, h4⟩ := h2 r hr
  exact ⟨us, E.weak h3 fun j hj => ⟨fun e => absurd e (Nat.not_lt_zero _), fun _ => hj⟩, h4⟩
theorem RowO.lt (h : RowO E Te n0 w v xs) {g : Nat} (hg : v.ownBlock = some g) : g < w.heap.size := let ⟨_, h1, _⟩ := h; h1.lt hg
theorem PtH.keep {vs : List Value} (h : PtH E B n0 w xs k vs) (hk : ∀ j, j < n0 ∨ B ≤ j → j < w.heap.size → w'.heap[j]? = w.heap[j]?) : PtH E B n0 w' xs k vs := fun r hr => by
  obtain ⟨us, h3, h4⟩ := h r hr
  refine ⟨us, E.weak (E.keep (E.fit h3) fun j hj => hk j ?_ hj.2) fun _ hj => hj.1, h4⟩
  rcases Nat.lt_or_ge r k with h5 | h5
  · exact .inr (hj.1.1 h5)
  · exact .inl (hj.1.2 h5)
theorem RowH.kept (h : RowH E Te B n0 w v xs k) (ho : ∀ g, v.ownBlock = some g → w'.heap[g]? = w.heap[g]?) (hk : ∀ j, j < n0 ∨ B ≤ j → j < w.heap.size → w'.heap[j]? = w.heap[j]?) : RowH E Te B n0 w' v xs k := by
  obtain ⟨vs, h1, h2⟩ := h
  exact ⟨vs, h1.kept ho, h2.keep hk⟩
theorem RowH.below (h : RowH E Te B n0 w v xs k) (hb : Below w.heap.size w w') : RowH E Te B n0 w' v xs k := by
  refine h.kept (fun g hg => ?_) fun j _ hj => hb.block j hj
  obtain ⟨vs, h1, _⟩ := h
  exact hb.block g (h1.lt hg)
theorem RowH.lt (h : RowH E Te B n0 w v xs k) {g : Nat} (hg : v.ownBlock = some g) : g < w.heap.size := let ⟨_, h1, _⟩ := h; h1.lt hg
theorem RowQ.place {a : Option Addr} {n c : Nat} {vs : List Value} {sz : Nat} (h : RowQ Te sz w (.slice a n c) n vs) (hn : 0 < n) : ∃ g, a = some ⟨g, 0, none⟩ := by
  rcases h.cases with ⟨e, h1, _⟩ | ⟨g, cap, cur, e, _⟩
  · omega
  · injection e with e
    exact ⟨g, e⟩
theorem RowH.step {vs vs' us : List Value} (hk : k < xs.length) (hp : PtH E B n0 w xs k vs) (hr : RowQ Te E.size w' v xs.length vs') (hs : ∀ j, j < n0 ∨ B ≤ j → j < w.heap.size → w'.heap[j]? = w.heap[j]?)
    (ho : ∀ r j, r ≠ k → j < E.size → vs'[r * E.size + j]? = vs[r * E.size + j]?) (hx : E.R (B ≤ ·) w' xs[k] us) (hc : ∀ j u, us[j]? = some u → vs'[k * E.size + j]? = some u) : RowH E Te B n0 w' v xs (k + 1) := by
  refine ⟨vs', hr, fun r hr => ?_⟩
  by_cases e : r = k
  · subst e
    exact ⟨us, E.weak hx fun j hj => ⟨fun _ => hj, fun h => by omega⟩, hc⟩
  · obtain ⟨us2, h3, h4⟩ := (hp.keep hs) r hr
    refine ⟨us2, E.weak h3 fun j hj => ⟨fun h => hj.1 (by omega), fun h => hj.2 (by omega)⟩, fun j u hj => ?_⟩
    have hj2 : j < E.size := by have := E.len h3; have := (List.getElem?_eq_some_iff.1 hj).1; omega
    rw [ho r j e hj2]
    exact h4 j u hj
theorem RowH.rdL (h : RowH E Te B n0 w v xs xs.length) : RdL E (fun j => B ≤ j ∨ v.ownBlock = some j) w v xs := by
  obtain ⟨vs, h1, h2⟩ := h
  have hx := h1
  rcases h1.cases with ⟨rfl, h0, _⟩ | ⟨g, cap, cur, rfl, _, hn, hc, _⟩
  · obtain rfl : xs = [] := List.eq_nil_of_length_eq_zero h0
    exact RdL.nil _ _ _
  · refine ⟨_, cap, rfl, hn, hc, .inr ⟨g, 0, rfl, .inr rfl, fun r hr => ?_⟩⟩
    obtain ⟨us, h3, h4⟩ := h2 r hr
    refine ⟨us, E.weak h3 fun j hj => .inl (hj.1 hr), fun j u hj => ?_⟩
    have := hx.cell (g := g) rfl (h4 j u hj)
    rwa [Nat.zero_add]
theorem run_append_zeroO (hP : LoP P T Te E.size) (w : World) {base : Nat} (ty : TypeId) {g : Addr} {ax : Option Addr} {cx nx : Nat} {ys : List α} (hown : OwnL E Te base 0 w (.slice (some g) 0 0) []) (hx : RdL E (· < n0) w (.slice ax nx cx) ys) (hn0 : n0 ≤ w.heap.size) (hbase : base ≤ w.heap.size) (hlen : ys.length ≤ 1073741824) :
    ∃ v' w', (Builtin.append_ #[T, T] ty #[.slice (some g) 0 0, .slice ax nx cx]).run P w = .ok v' w' ∧ RowO E Te n0 w' v' ys ∧ (∀ j, v'.ownBlock = some j → base ≤ j) ∧ Below w.heap.size w w' := by
  obtain ⟨i, z, hi, hz, hsz, hby, hzs⟩ := hP.all
  obtain ⟨rfl, _, _⟩ := hx.len
  by_cases h0 : ys = []
  · subst h0
    have hsrc : Src P i.size T (.slice ax 0 cx) 0 [] w := by
      cases ax with
      | none => exact Src.ofNil w hP.hT cx
      | some p => exact Src.ofSlice w hP.hT p 0 cx [] (by simp) (fun j u h => by simp at h) (fun u h => by cases h)
    refine ⟨_, w, run_append_nothing w T T ty Te i hP.hT hi (some g) 0 0 (Nat.le_refl _) _ hsrc, ?_, fun j hj => (hown.block_lt j hj).1, Below.refl _ _⟩
    obtain ⟨vs, ⟨h1, h2⟩, hf⟩ := hown
    cases hf
    refine ⟨[], ⟨⟨h1, ?_⟩, fun u hu => by cases hu⟩, fun r hr => absurd hr (Nat.not_lt_zero _)⟩
    rcases h2 with h2 | ⟨g', cap, cur, e, _, h3⟩
    · exact .inl h2
    · exact .inr ⟨g', cap, cur, e, Nat.zero_le _, h3⟩
  · have hpos : 0 < ys.length := List.length_pos_iff.2 h0
    obtain ⟨b, off, _, rfl, _⟩ := hx.at 0 hpos
    obtain ⟨ns, hn, hc⟩ := hx.flat
    have hnl := hn.len
    have hsrc : Src P i.size T (.slice (some ⟨b, off, none⟩) ys.length cx) ys.length ns w :=
      Src.ofSlice w hP.hT _ _ _ _ (by rw [hnl, hsz]) (fun j u hj => by rw [Addr.add_lit]; exact hc j u hj) hn.one
    have hbytes : (ys.length) * i.bytes ≤ 1073741824 * 4096 := Nat.mul_le_mul hlen hby
    have hr := run_append_grow_src (P := P) w T T ty Te i z hP.hT hi hz (some g) 0 0 [] (run_firstCells_some w.drew i.size 0 g 0 0 [] (by simp) (fun j u h => by simp at h)) _ _ _ hsrc (by omega) (by omega)
      (growslice_fits (by simp only [Nat.zero_add]; omega) (by simp only [Nat.zero_add]; omega))
    have hb : Below w.heap.size w (w.drew.alloc (.cells (([] ++ ns : List Value).toArray ++ Builtin.zeroCells z.cells (grownCap w (0 + ys.length) 0 Te - (0 + ys.length))) Te)) := ((Below.refl _ w).drew).alloc (Nat.le_refl _) _
    have hge := grownCap_ge w (0 + ys.length) 0 Te
    have hone := hn.one
    refine ⟨_, _, hr, ⟨ns, ?_, fun r hr => ?_⟩, fun j hj => by simp only [Value.ownBlock] at hj; injection hj with hj; show base ≤ j; have : j = w.heap.size := hj.symm; omega, hb⟩
    · rw [Nat.zero_add] at hge ⊢
      refine RowQ.of (heap_alloc_new w.drew _) (by omega) (grownCap_le_maxLen w _ _ _ (by unfold maxLen; omega)) ?_ ?_ hone
      · simp [size_zeroCells, hnl, hzs]
        rw [← Nat.add_mul]
        congr 1
        omega
      · simp only [List.nil_append, Array.toList_append]
        rw [← hnl]
        simp
    · obtain ⟨us, h3, h4⟩ := hn.at r hr
      exact ⟨us, E.keep h3 fun k hk => hb.block k (Nat.lt_of_lt_of_le hk hn0), h4⟩
variable {ops : Array Oper} {rest : List Oper} {o : Oper} {a : Act} {Q : Exit → Act → World → Prop} {K : Act → World → Prop}
theorem wpList_append_zeroO (hP : LoP P T Te E.size) {s x : Operand} (ho : o.op = .call { callee := .builtin .append, args := #[s, x], argTypes := #[T, T] }) (hgd : Region.wanted o (yielded ops a.tmps) = true)
    {base : Nat} {g : Addr} {ax : Option Addr} {cx nx : Nat} {ys : List α} (hs : a.eval s = .slice (some g) 0 0) (hown : OwnL E Te base 0 w (.slice (some g) 0 0) []) (hx : a.eval x = .slice ax nx cx) (hr : RdL E (· < n0) w (.slice ax nx cx) ys) (hn0 : n0 ≤ w.heap.size) (hbase : base ≤ w.heap.size)
    (h : ∀ ad cap w', RowO E Te n0 w' (.slice ad ys.length cap) ys → (∀ j, (Value.slice ad ys.length cap).ownBlock = some j → base ≤ j) → Below w.heap.size w w' → wpList P ops Q rest (a.put o.dst (.slice ad ys.length cap)) w') (hlen : ys.length ≤ 1073741824) : wpList P ops Q (o :: rest) a w := by
  refine BigFrame.wpList_want hgd fun K hK => ?_
  obtain ⟨v', w', hrun, h2, h3, h4⟩ := run_append_zeroO hP w o.type hown hr hn0 hbase hlen
  obtain ⟨ad, cap, rfl, _⟩ : ∃ a c, v' = .slice a ys.length c ∧ True := by
    obtain ⟨vs, hq, _⟩ := h2
    obtain ⟨a, c, e, _⟩ := hq.shape
    exact ⟨a, c, e, trivial⟩
  unfold Oper.wp execOp
  simp only [ho, resolve, invoke, builtin, Sem.run_bind, Sem.run_pure, Result.andThen_ok, List.map_toArray, List.map_cons, List.map_nil, hs, hx, hrun]
  exact hK _ _ (h _ _ _ h2 h3 h4)
end
section
variable {P : Program} {o : Oper} {a : Act} {K : Act → World → Prop} {Q : Exit → Act → World → Prop} {w : World} {Te : TypeId} {sz n g : Nat} {V : Value} {vs : List Value}
theorem RowQ.froz (h : RowQ Te sz w V n vs) (hg : V.ownBlock = some g) (j : Nat) : w.frozen? ⟨g, j, none⟩ = false := by
  obtain ⟨cur, hb⟩ := h.block hg
  simp [World.frozen?, hb]
theorem RowQ.putC (h : RowQ Te sz w V n vs) (hg : V.ownBlock = some g) {j : Nat} {u : Value} (hu : u.oneCell' = true) : RowQ Te sz (w.setCell ⟨g, j, none⟩ u) V n (vs.set j u) := by
  rcases h.cases with ⟨rfl, _, _⟩ | ⟨g', cap, cur, rfl, hb, h1, h2, h3, h4⟩
  · simp [Value.ownBlock] at hg
  · simp [Value.ownBlock] at hg
    subst hg
    refine RowQ.of (cur := cur.setIfInBounds j u) ?_ h1 h2 (by simp [h3]) ?_ fun x hx => ?_
    · simp only [World.setCell, Array.getElem?_modify, hb]
      simp
    · rw [Array.toList_setIfInBounds, List.take_set, h4]
    · rcases List.mem_or_eq_of_mem_set hx with hx | rfl
      · exact h.2 x hx
      · exact hu
theorem wp_putC {t : TypeId} {x y : Operand} {ad : Option Addr} {k c j : Nat} (ho : o.op = .store t x y) (ht : (P.info? t).map (·.size) = some 1) (hx : a.eval x = .pointer (some ⟨g, j, none⟩)) (hy : a.eval y = .slice ad k c) (hr : RowQ Te sz w V n vs) (hg : V.ownBlock = some g) (hj : j < vs.length)
    (h : ∀ w', w.grownBy w' (some g) → RowQ Te sz w' V n (vs.set j (.slice ad k c)) → K (a.put o.dst undef) w') : o.wp P a w K Q := by
  have hc := hr.cell hg (List.getElem?_eq_getElem hj)
  have hf := hr.froz hg j
  refine wp_skip ?_ (h (w.setCell ⟨g, j, none⟩ (.slice ad k c)) ⟨rfl, rfl, rfl, by simp [World.setCell], fun k' _ hk => heap_setCell_other _ ⟨g, j, none⟩ k' _ fun e => hk (by rw [e])⟩ (hr.putC hg rfl))
  simp only [execOp, ho, hx, hy]
  simp [Instr.storeAt, storeVar, run_sizeOf' ht, storeCells, Value.cells, run_store _ _ _ _ _ (show (Value.slice ad k c).oneCell' = true from rfl), hc, hf, go_sem]
end
def NwB (W V : World) (k : Value) (xs : List UInt8) : Prop := ∃ a c, k = .slice a xs.length c ∧ RdS (fun g => W.heap.size ≤ g ∧ g < V.heap.size) V (.slice a xs.length c) xs
theorem NwB.below {W V V' : World} {k : Value} {xs : List UInt8} (h : NwB W V k xs) (hb : Below V.heap.size V V') : NwB W V' k xs := by
  obtain ⟨a, c, e, hr⟩ := h
  exact ⟨a, c, e, (hr.below hb).weak fun g hg => ⟨hg.1, Nat.lt_of_lt_of_le hg.2 hb.size⟩⟩
theorem NwB.grown {W V V' : World} {k : Value} {xs : List UInt8} {g : Nat} (h : NwB W V k xs) (hb : V.grownBy V' (some g)) (hg : g < W.heap.size) : NwB W V' k xs := by
  obtain ⟨a, c, e, hr⟩ := h
  exact ⟨a, c, e, (hr.keep fun j hj => hb.block j hj.2 fun e => by injection e with e; omega).weak fun j hj => ⟨hj.1, Nat.lt_of_lt_of_le hj.2 hb.size⟩⟩
def CpJ (Te : TypeId) (sz n : Nat) (W : World) (g : Nat) (V : Value) (vs : List Value) (f1 f2 : Nat) (lo hi : List UInt8) : List Value → World → Prop
  | [], X => Below W.heap.size W X
  | [k1], X => Below W.heap.size W X ∧ NwB W X k1 lo
  | [k1, k2], X => Below W.heap.size W X ∧ NwB W X k1 lo ∧ NwB W X k2 hi
  | [k1, k2, _], X => W.grownBy X (some g) ∧ RowQ Te sz X V n (vs.set f1 k1) ∧ NwB W X k1 lo ∧ NwB W X k2 hi
  | k1 :: k2 :: _ :: _ :: _, X => W.grownBy X (some g) ∧ RowQ Te sz X V n ((vs.set f1 k1).set f2 k2) ∧ NwB W X k1 lo ∧ NwB W X k2 hi
section
variable {Te : TypeId} {sz n g f1 f2 : Nat} {W : World} {V : Value} {vs : List Value} {lo hi : List UInt8}
theorem grJ {A B C : World} {r : Option Nat} (h : A.grownBy B r) (k : Below B.heap.size B C) : A.grownBy C r := ⟨k.os.trans h.os, k.tape.trans h.tape, k.output.trans h.output, Nat.le_trans h.size k.size, fun j hj hn => (k.block j (Nat.lt_of_lt_of_le hj h.size)).trans (h.block j hj hn)⟩
theorem CpJ.below : ∀ (l : List Value) (X X' : World), CpJ Te sz n W g V vs f1 f2 lo hi l X → Below X.heap.size X X' → CpJ Te sz n W g V vs f1 f2 lo hi l X'
  | [], _, _, h, hb => Below.trans h (hb.mono (Below.size h))
  | [_], _, _, ⟨h, h1⟩, hb => ⟨h.trans (hb.mono h.size), h1.below hb⟩
  | [_, _], _, _, ⟨h, h1, h2⟩, hb => ⟨h.trans (hb.mono h.size), h1.below hb, h2.below hb⟩
  | [_, _, _], _, _, ⟨h, h0, h1, h2⟩, hb => ⟨grJ h hb, h0.below hb, h1.below hb, h2.below hb⟩
  | _ :: _ :: _ :: _ :: _, _, _, ⟨h, h0, h1, h2⟩, hb => ⟨grJ h hb, h0.below hb, h1.below hb, h2.below hb⟩
theorem CpJ.grown : ∀ {l : List Value} {X : World}, CpJ Te sz n W g V vs f1 f2 lo hi l X → W.grownBy X (some g)
  | [], _, h => ⟨Below.os h, Below.tape h, Below.output h, Below.size h, fun k hk _ => Below.block h k hk⟩
  | [_], _, ⟨h, _⟩ => ⟨h.os, h.tape, h.output, h.size, fun k hk _ => h.block k hk⟩
  | [_, _], _, ⟨h, _⟩ => ⟨h.os, h.tape, h.output, h.size, fun k hk _ => h.block k hk⟩
  | [_, _, _], _, ⟨h, _⟩ => h
  | _ :: _ :: _ :: _ :: _, _, ⟨h, _⟩ => h
end
end Go.Proofs.Ytobelnedhlepaaa
