/-
  TEXTS OF ONE PROOF, merged: Dlu, Dmc, Dmj, Dmk, Dml, Dmg, Cmp, Dmh.
-/
import Derived.Deep.QuietTactic
import Derived.DeepKeys5
import Derived.Lib.Bytealg
import Derived.Lib.BytesEntry
import Derived.Maps.Ext
import Derived.Maps.OwnIn
import Derived.Maps.RangeWalk
import Derived.RangeFuncStops
import Derived.Shelf.SlGeneric
import Derived.Shelf.SlSortCmp.WholeK
import Derived.Sort.KeysCollected
import Derived.Sort.MapsRangeIn
import Derived.StillTailTactics
import Derived.Test.YtjbdkhddnblieaaMa5
namespace Go.Proofs.Ytjbdkhddnblieaa
open Go.RowKit Go.Shelf
theorem str_ltD {a b : List UInt8} : Op.bytesLess (strOf a).toList (strOf b).toList = ltB a b := by
  rw [show (strOf a).toList = a by simp [strOf], show (strOf b).toList = b by simp [strOf]]; rfl
set_option maxRecDepth 100000 in
set_option maxHeartbeats 4000000 in
theorem refAhead_any (w : World) {S S2 : Nat → Prop} {u v : Value} {x y : Wr} (hx : RdWr S w u x) (hy : RdWr S2 w v y) :
    Calls Try.prog 42 #[u, v] w fun e w' => e = .returned (.bool (ltP x.plc y.plc)) ∧ Below w.heap.size w w' := by
  obtain ⟨a, c, a2, c2, rfl, hk, hv, ht⟩ := hx
  obtain ⟨a', c', a2', c2', rfl, hk', hv', ht'⟩ := hy
  obtain ⟨W, hW, q, bn, bm, hsz⟩ := boxes2 w 28 28 [.int .i64 x.table, .slice a x.key.length c, .bool x.gone, .slice a2 x.val.length c2] [.int .i64 y.table, .slice a' y.key.length c', .bool y.gone, .slice a2' y.val.length c2']
  clear hsz
  go_enter Try.func42, Try.ntmps42
  go_upto_region 1 with (fail)
  rw [show (w.alloc (.cells #[.int .i64 x.table, .slice a x.key.length c, .bool x.gone, .slice a2 x.val.length c2] 28)).alloc (.cells #[.int .i64 y.table, .slice a' y.key.length c', .bool y.gone, .slice a2' y.val.length c2'] 28) = W from hW.symm]
  clear hW
  have b0 := bn.cell (i := 0) rfl
  have b1 := bn.cell (i := 1) rfl
  have f0 := bm.cell (i := 0) rfl
  have f1 := bm.cell (i := 1) rfl
  have r1 := (hk.below q).rd
  have r2 := (hk'.below q).rd
  by_cases h1 : x.table < y.table
  · skip
    have d1 : decide (x.table < y.table) = true := decide_eq_true h1
    have H := Lib.hid (show ltP (x.plc) (y.plc) = true by unfold ltP Wr.plc; simp [h1])
    clear h1
    go_wp2_with fail
    go_ret
    exact ⟨by rw [H.out]; rfl, q⟩
  · skip
    have d1 : decide (x.table < y.table) = false := decide_eq_false h1
    by_cases h2 : x.table = y.table
    · skip
      have d2 : (x.table == y.table) = true := beq_iff_eq.2 h2
      have d22 : decide (x.table = y.table) = true := decide_eq_true h2
      have d23 : (x.table = y.table) = True := eq_true h2
      cases h3 : ltB x.key y.key with
      | true =>
        have d3 : Op.bytesLess (strOf x.key).toList (strOf y.key).toList = true := str_ltD.trans h3
        have H := Lib.hid (show ltP (x.plc) (y.plc) = true by unfold ltP Wr.plc; simp [h2, h3])
        clear h1 h2 h3
        go_wp2_with (first | (refine wpList_conv (x := .tmp 18) byP rfl rfl rfl r1 ?_) | (refine wpList_conv (x := .tmp 21) byP rfl rfl rfl r2 ?_) | fail)
        go_ret
        exact ⟨by rw [H.out]; rfl, q⟩
      | false =>
        have d3 : Op.bytesLess (strOf x.key).toList (strOf y.key).toList = false := str_ltD.trans h3
        have H := Lib.hid (show ltP (x.plc) (y.plc) = false by unfold ltP Wr.plc; simp [h2, h3])
        clear h1 h2 h3
        go_wp2_with (first | (refine wpList_conv (x := .tmp 18) byP rfl rfl rfl r1 ?_) | (refine wpList_conv (x := .tmp 21) byP rfl rfl rfl r2 ?_) | fail)
        go_ret
        exact ⟨by rw [H.out]; rfl, q⟩
    · skip
      have d2 : (x.table == y.table) = false := beq_eq_false_iff_ne.2 h2
      have d22 : decide (x.table = y.table) = false := decide_eq_false h2
      have H := Lib.hid (show ltP (x.plc) (y.plc) = false by unfold ltP Wr.plc; simp [h1, h2])
      clear h1 h2
      go_wp2_with fail
      go_ret
      exact ⟨by rw [H.out]; rfl, q⟩
end Go.Proofs.Ytjbdkhddnblieaa
namespace Go.Proofs.Ytjbdkhddnblieaa
open Go.RowKit Go.Shelf
def lenOf : Value → Nat
  | .slice _ n _ => n
  | _ => 0
def WsEnd (w : World) (l : List Wr) (e : Ending) (w' : World) : Prop := ∃ a c, e = .returned (.slice a l.length c) ∧ OwnL Elt.wr 28 w.heap.size w.heap.size w' (.slice a l.length c) l ∧ Below w.heap.size w w'
theorem prevW_succ {ws : List Wr} {m : Nat} (h : m < (lastW ws).length) : prevW ws (m + 1) = some ((lastW ws)[m]).plc := by
  unfold prevW
  rw [List.getLast?_eq_getElem?, List.length_take, Nat.min_eq_left (by omega), List.getElem?_take_of_lt (by omega), Nat.add_sub_cancel, List.getElem?_eq_getElem h]
  rfl
set_option maxRecDepth 100000 in
set_option maxHeartbeats 8000000 in
theorem rLast_any (w : World) {S : Nat → Prop} {v : Value} {d : Dl} (h : RdDl S w v d) : Calls Try.prog 24 #[v] w (WsEnd w (lastD d)) := by
  have hd := h
  obtain ⟨a, c, a2, c2, rfl, hw, hm⟩ := h
  have eH : ∀ args w, (callFunc 42 args).run Try.prog w = .ok (.enter 42 args) w := enters_of Try.func42 (by kernel_rfl) rfl
  obtain ⟨W0, hW⟩ : ∃ W, W = w.alloc (.cells #[.slice a d.writes.length c, .slice a2 d.marks.length c2] 25) := ⟨_, rfl⟩
  have q : Below w.heap.size w W0 := by rw [hW]; exact (Below.refl _ _).alloc (Nat.le_refl _) _
  have bn : BoxN W0 w.heap.size 25 [.slice a d.writes.length c, .slice a2 d.marks.length c2] := by rw [hW]; exact BoxN.new _ _ _
  go_enter Try.func24, Try.ntmps24
  go_upto_region 1 with (fail)
  rw [← hW]
  clear hW
  have b0 := bn.cell (i := 0) rfl
  have b1 := bn.cell (i := 1) rfl
  go_wp2_with fail
  refine (rCheck_any W0 (hd.below q)).mono ?_
  rintro e w0 ⟨rfl, hb0⟩
  replace q := q.trans (hb0.mono q.size)
  replace bn := bn.below hb0 bn.lt
  clear b0 b1 hb0
  by_cases hok : okD d
  case neg =>
    have dok : decide (okD d) = false := decide_eq_false hok
    have HK := Lib.hid (show lastD d = [] by unfold lastD; rw [if_neg hok])
    clear hok
    go_upto_region 3 with (fail)
    go_loopw [3] (fun ov wr => ov = .slice none 0 0 ∧ Below w.heap.size w wr) (fun _ _ => 0)
    case atStart => exact ⟨rfl, q⟩
    case round =>
      obtain ⟨rfl, qr⟩ := hrel
      go_wp2_with fail
      go_ret
      rw [HK.out]
      exact ⟨none, 0, rfl, OwnL.nil _ _ _ _ _, qr⟩
  case pos =>
  have dok : decide (okD d) = true := decide_eq_true hok
  have hl20 : d.writes.length ≤ 20 := hok.1
  have hll : (lastW d.writes).length ≤ 20 := Nat.le_trans (last_len _) hl20
  have hsm := Lib.hid hok.2.2.1
  have HK := Lib.hid (show lastD d = lastW d.writes by unfold lastD; rw [if_pos hok])
  replace hok := Lib.hid hok
  obtain ⟨L, hL⟩ : ∃ L, L = (lastW d.writes).length := ⟨_, rfl⟩
  rw [← hL] at hll
  replace hL := Lib.hid hL
  go_upto_region 3 with (fail)
  go_loopw [3] (fun ov wr => ∃ (j : Nat) (ad : Option Addr) (ko : Nat), ov = .slice ad j ko ∧ j ≤ L ∧ OwnL Elt.wr 28 (w.heap.size + 1) (w.heap.size + 1) wr (.slice ad j ko) ((lastW d.writes).take j) ∧ BoxN wr w.heap.size 25 [.slice a d.writes.length c, .slice a2 d.marks.length c2] ∧ Below w.heap.size w wr)
    (fun ov _ => L + 1 - lenOf ov)
  case atStart => exact ⟨0, none, 0, rfl, Nat.zero_le _, OwnL.nil _ _ _ _ _, bn, q⟩
  case round =>
    clear q bn
    obtain ⟨j, ad, ko, rfl, hjL, hO, bn1, q0⟩ := hrel
    rename World => w1
    have bw := bn1.lt
    go_upto_region 6 with (fail)
    go_loopw [5, 6] (fun bv iv wq => ∃ (i : Nat) (bst : Int), bv = .int .i64 bst ∧ iv = .int .i64 i ∧ i ≤ d.writes.length ∧ RowKit.Hid (BestW d.writes (prevW d.writes j) i bst) ∧ Below w1.heap.size w1 wq) (fun _ i _ => d.writes.length - (intOf i).toNat)
    case atStart => exact ⟨0, -1, rfl, rfl, Nat.zero_le _, Lib.hid (BestW.start _ _), Below.refl _ _⟩
    case round =>
      obtain ⟨i, bst, rfl, rfl, hil, hbest, q1⟩ := hrel
      have bn := bn1.below q1 bn1.lt
      have b0 := bn.cell (i := 0) rfl
      rcases Nat.lt_or_ge i d.writes.length with hlt | hge
      · obtain ⟨ab, ao, XA, XC, XB, XD, rfl, hxb0, x0, x1, x2, x3, hxk, hxv, hxt⟩ := (hw.below (q0.trans (q1.mono q0.size))).wr i hlt
        have hxi := List.getElem?_eq_getElem hlt
        obtain ⟨x, ex⟩ : ∃ x, x = d.writes[i] := ⟨_, rfl⟩
        rw [← ex] at x0 x1 x2 x3 hxk hxv hxt hxi
        clear ex hxb0
        go_upto_region 9 with (first | (refine wpList_boxNew (vs := [.int .i64 0, .slice none 0 0, .bool false, .slice none 0 0]) (by kernel_rfl) rfl rfl ?_; intro wa hba hBa) | (refine wpList_boxStore (us := [.int .i64 x.table, .slice XA x.key.length XC, .bool x.gone, .slice XB x.val.length XD]) (by kernel_rfl) rfl rfl rfl rfl rfl rfl hBa rfl ?_; intro W3 hgw hX) | fail)
        go_simp
        have hbw : Below wr.heap.size wr W3 := hba.grown hgw hba.size fun k hk => by injection hk with hk; omega
        have q3 := q1.trans (hbw.mono q1.size)
        have hxw : RdWr S W3 (.agg #[.int .i64 x.table, .slice XA x.key.length XC, .bool x.gone, .slice XB x.val.length XD]) x := RdWr.below ⟨XA, XC, XB, XD, rfl, hxk, hxv, hxt⟩ hbw
        replace bn := bn.below hbw bn.lt
        clear x0 x1 x2 x3 hxk hxv hxt hba hBa hgw hbw b0
        have x0 := hX.cell (i := 0) rfl
        have x1 := hX.cell (i := 1) rfl
        have x2 := hX.cell (i := 2) rfl
        have x3 := hX.cell (i := 3) rfl
        have hxb := hX.lt
        rcases j with _ | m
        · have hcand := Lib.hid (show candW (prevW d.writes 0) x = true from rfl)
          go_upto_region 9 with (fail)
          go_quiet (fail)
          have hb : Below W3.heap.size W3 (W3.drewN nq) := Go.Proofs.Ytjbdkhddnblieaa.Below.drewN (Below.refl _ _) nq
          generalize W3.drewN nq = W9 at hb ⊢
          have q9 : Below w1.heap.size w1 W9 := q3.trans (hb.mono q3.size)
          replace bn := bn.below hb bn.lt
          replace hX := hX.below hb hX.lt
          replace hxw := hxw.below hb
          clear hb x0 x1 x2 x3
          have x0 := hX.cell (i := 0) rfl
          have x1 := hX.cell (i := 1) rfl
          have x2 := hX.cell (i := 2) rfl
          have x3 := hX.cell (i := 3) rfl
          have hxb := hX.lt
          have b0 := bn.cell (i := 0) rfl
          rcases hbest.out.lt with hneg | ⟨n, hn, hni⟩
          · subst hneg
            have HB := Lib.hid (hbest.out.first hxi hcand.out)
            clear hbest hcand
            go_upto_region 10 with (fail)
            go_quiet (fail)
            have hb : Below W9.heap.size W9 (W9.drewN nq) := Go.Proofs.Ytjbdkhddnblieaa.Below.drewN (Below.refl _ _) nq
            generalize W9.drewN nq = W10 at hb ⊢
            go_wp2_with fail
            go_roundw
            case rel => exact ⟨i + 1, _, rfl, by go_num, by omega, HB, q9.trans (hb.mono q9.size)⟩
            case measure => simp [intOf]; omega
          · subst hn
            have hnl : n < d.writes.length := by omega
            obtain ⟨b3, o3, YA, YC, YB, YD, e3, hyb0, y0, y1, y2, y3, hyk, hyv, hyt⟩ := (hw.below (q0.trans (q9.mono q0.size))).wr n hnl
            obtain ⟨rfl, rfl⟩ : ab = b3 ∧ ao = o3 := by simpa using e3
            clear e3
            have hyi := List.getElem?_eq_getElem hnl
            obtain ⟨y, ey⟩ : ∃ y, y = d.writes[n] := ⟨_, rfl⟩
            rw [← ey] at y0 y1 y2 y3 hyk hyv hyt hyi
            clear ey
            have hyw : RdWr S _ (.agg #[.int .i64 y.table, .slice YA y.key.length YC, .bool y.gone, .slice YB y.val.length YD]) y := ⟨YA, YC, YB, YD, rfl, hyk, hyv, hyt⟩
            have hyb := cell_lt y0
            have dneg : decide ((n : Int) < 0) = false := decide_eq_false (by omega)
            clear hyk hyv
            cases ha2 : ltP y.plc x.plc with
            | true =>
              have HB := Lib.hid (hbest.out.stay hyi hxi ha2)
              clear hbest hcand hyi
              go_upto_region 10 with (fail)
              refine wp_region_gsg (by kernel_rfl) (by kernel_rfl) [sgEq (.int .i64 (n : Nat)), sgEq (.bool false), sgEq (.bool false), sgEq (.pointer (some ⟨w.heap.size, 0, none⟩)), sgEq (.slice (some ⟨ab, ao, none⟩) d.writes.length c), sgEq (.int .i64 (n : Nat)), sgEq (.pointer (some ⟨ab, ao + n * 4, none⟩)), sgEq (.agg #[.int .i64 y.table, .slice YA y.key.length YC, .bool y.gone, .slice YB y.val.length YD]), sgEq (.agg #[.int .i64 x.table, .slice XA x.key.length XC, .bool x.gone, .slice XB x.val.length XD]), sgEq (.bool true), sgEq (.bool false), sgEq (.bool false)]
                ⟨?o0, ?o1, ?o2, ?o3, ?o4, ?o5, ?o6, ?o7, ?o8, ?o9, ?o10, ?o11, trivial⟩ ?fin
              case o0 =>
                refine GdOp.plain rfl (fun A vs w' hF hT hb hd => ?_)
                have e1 : A.eval (.tmp 5) = .int .i64 (n : Nat) := hF 5 rfl
                exact BigFrame.wp_move _ rfl ⟨_, rfl, e1, Below.refl _ _⟩
              case o1 =>
                refine GdOp.plain rfl (fun A vs w' hF hT hb hd => ?_)
                have e1 : A.eval (.tmp 37) = .int .i64 (n : Nat) := (hT 37 0 (by simp) rfl).trans (hd ⟨0, .data⟩ (by simp) rfl)
                exact wp_lssI rfl e1 rfl ⟨_, rfl, congrArg Value.bool dneg, Below.refl _ _⟩
              case o2 =>
                refine GdOp.plain rfl (fun A vs w' hF hT hb hd => ?_)
                have e1 : A.eval (.tmp 38) = .bool false := (hT 38 1 (by simp) rfl).trans (hd ⟨1, .data⟩ (by simp) rfl)
                exact BigFrame.wp_move _ rfl ⟨_, rfl, e1, Below.refl _ _⟩
              case o3 =>
                refine GdOp.taken rfl ⟨_, _, rfl, rfl, by simp⟩ (by kernel_rfl) (fun w v h => h) (fun A vs w' hF hT hb hd => ?_)
                have e1 : A.eval (.tmp 1) = .pointer (some ⟨w.heap.size, 0, none⟩) := hF 1 rfl
                exact wp_fieldN dlS rfl (e1) (by omega) ⟨_, rfl, rfl, Below.refl _ _⟩
              case o4 =>
                refine GdOp.taken rfl ⟨_, _, rfl, rfl, by simp⟩ (by kernel_rfl) (fun w v h => h) (fun A vs w' hF hT hb hd => ?_)
                have e1 : A.eval (.tmp 40) = .pointer (some ⟨w.heap.size, 0, none⟩) := (hT 40 3 (by simp) rfl).trans (hd ⟨3, .data⟩ (by simp) rfl)
                exact wp_ld_slice (e := 28) rfl e1 (by kernel_rfl) ((bn.below hb bn.lt).cell (i := 0) rfl) ⟨_, rfl, rfl, Below.refl _ _⟩
              case o5 =>
                refine GdOp.taken rfl ⟨_, _, rfl, rfl, by simp⟩ (by kernel_rfl) (fun w v h => h) (fun A vs w' hF hT hb hd => ?_)
                have e1 : A.eval (.tmp 5) = .int .i64 (n : Nat) := hF 5 rfl
                exact BigFrame.wp_move _ rfl ⟨_, rfl, e1, Below.refl _ _⟩
              case o6 =>
                refine GdOp.taken rfl ⟨_, _, rfl, rfl, by simp⟩ (by kernel_rfl) (fun w v h => h) (fun A vs w' hF hT hb hd => ?_)
                have e1 : A.eval (.tmp 41) = .slice (some ⟨ab, ao, none⟩) d.writes.length c := (hT 41 4 (by simp) rfl).trans (hd ⟨4, .data⟩ (by simp) rfl)
                have e2 : A.eval (.tmp 42) = .int .i64 (n : Nat) := (hT 42 5 (by simp) rfl).trans (hd ⟨5, .data⟩ (by simp) rfl)
                exact wp_ixN (e := 28) rfl (by kernel_rfl) (by kernel_rfl) (e1) (e2) rfl (by omega) ⟨_, rfl, rfl, Below.refl _ _⟩
              case o7 =>
                refine GdOp.taken rfl ⟨_, _, rfl, rfl, by simp⟩ (by kernel_rfl) (fun w v h => h) (fun A vs w' hF hT hb hd => ?_)
                have e1 : A.eval (.tmp 43) = .pointer (some ⟨ab, ao + n * 4, none⟩) := (hT 43 6 (by simp) rfl).trans (hd ⟨6, .data⟩ (by simp) rfl)
                exact wp_load4 wrS rfl e1 ((hb.cell (p := ⟨_, _, none⟩) hyb).trans y0) ((hb.cell (p := ⟨_, _, none⟩) hyb).trans y1) ((hb.cell (p := ⟨_, _, none⟩) hyb).trans y2) ((hb.cell (p := ⟨_, _, none⟩) hyb).trans y3) ⟨_, rfl, rfl, Below.refl _ _⟩
              case o8 =>
                refine GdOp.taken rfl ⟨_, _, rfl, rfl, by simp⟩ (by kernel_rfl) (fun w v h => h) (fun A vs w' hF hT hb hd => ?_)
                have e1 : A.eval (.tmp 7) = .pointer (some ⟨wr.heap.size, 0, none⟩) := hF 7 rfl
                exact wp_load4 wrS rfl e1 ((hb.cell (p := ⟨_, _, none⟩) hxb).trans x0) ((hb.cell (p := ⟨_, _, none⟩) hxb).trans x1) ((hb.cell (p := ⟨_, _, none⟩) hxb).trans x2) ((hb.cell (p := ⟨_, _, none⟩) hxb).trans x3) ⟨_, rfl, rfl, Below.refl _ _⟩
              case o9 =>
                refine GdOp.taken rfl ⟨_, _, rfl, rfl, by simp⟩ (by kernel_rfl) (fun w v h => h) (fun A vs w' hF hT hb hd => ?_)
                have e1 : A.eval (.tmp 44) = .agg #[.int .i64 y.table, .slice YA y.key.length YC, .bool y.gone, .slice YB y.val.length YD] := (hT 44 7 (by simp) rfl).trans (hd ⟨7, .data⟩ (by simp) rfl)
                have e2 : A.eval (.tmp 45) = .agg #[.int .i64 x.table, .slice XA x.key.length XC, .bool x.gone, .slice XB x.val.length XD] := (hT 45 8 (by simp) rfl).trans (hd ⟨8, .data⟩ (by simp) rfl)
                refine wp_callFn rfl eH (by simp only [List.map_toArray, List.map_cons, List.map_nil, e1, e2]) ((refAhead_any w' (hyw.below hb) (hxw.below hb)).mono ?_)
                rintro e w2 ⟨rfl, hb2⟩
                exact ⟨_, rfl, _, rfl, congrArg Value.bool ha2, hb2⟩
              case o10 =>
                refine GdOp.taken rfl ⟨_, _, rfl, rfl, by simp⟩ (by kernel_rfl) (fun w v h => h) (fun A vs w' hF hT hb hd => ?_)
                have e1 : A.eval (.tmp 46) = .bool true := (hT 46 9 (by simp) rfl).trans (hd ⟨9, .data⟩ (by simp) rfl)
                exact wp_notB rfl e1 ⟨_, rfl, rfl, Below.refl _ _⟩
              case o11 =>
                refine GdOp.plain rfl (fun A vs w' hF hT hb hd => ?_)
                have e1 : A.eval (.tmp 39) = .bool false := (hT 39 2 (by simp) rfl).trans (hd ⟨2, .data⟩ (by simp) rfl)
                have e3 : A.eval (.tmp 47) = .bool false := (hT 47 10 (by simp) rfl).trans (hd ⟨10, .data⟩ (by simp) rfl)
                exact wp_pk rfl e1 (by simp) (fun _ => e3) ⟨_, rfl, rfl, Below.refl _ _⟩
              case fin =>
                intro vs W10 hb hG
                have e0 : vs 0 = .int .i64 (n : Nat) := hG 0 (by decide)
                have e1 : vs 1 = .bool false := hG 1 (by decide)
                have e2 : vs 2 = .bool false := hG 2 (by decide)
                have e3 : vs 3 = .pointer (some ⟨w.heap.size, 0, none⟩) := hG 3 (by decide)
                have e4 : vs 4 = .slice (some ⟨ab, ao, none⟩) d.writes.length c := hG 4 (by decide)
                have e5 : vs 5 = .int .i64 (n : Nat) := hG 5 (by decide)
                have e6 : vs 6 = .pointer (some ⟨ab, ao + n * 4, none⟩) := hG 6 (by decide)
                have e7 : vs 7 = .agg #[.int .i64 y.table, .slice YA y.key.length YC, .bool y.gone, .slice YB y.val.length YD] := hG 7 (by decide)
                have e8 : vs 8 = .agg #[.int .i64 x.table, .slice XA x.key.length XC, .bool x.gone, .slice XB x.val.length XD] := hG 8 (by decide)
                have e9 : vs 9 = .bool true := hG 9 (by decide)
                have e10 : vs 10 = .bool false := hG 10 (by decide)
                have e11 : vs 11 = .bool false := hG 11 (by decide)
                simp only [putAll, e0, e1, e2, e3, e4, e5, e6, e7, e8, e9, e10, e11]
                clear hG e0 e1 e2 e3 e4 e5 e6 e7 e8 e9 e10 e11
                go_simp
                go_wp2_with fail
                go_roundw
                case rel => exact ⟨i + 1, _, rfl, by go_num, by omega, HB, q9.trans (hb.mono q9.size)⟩
                case measure => simp [intOf]; omega
            | false =>
              have HB := Lib.hid (hbest.out.turn hyi hxi hcand.out ha2)
              clear hbest hcand hyi
              go_upto_region 10 with (fail)
              refine wp_region_gsg (by kernel_rfl) (by kernel_rfl) [sgEq (.int .i64 (n : Nat)), sgEq (.bool false), sgEq (.bool false), sgEq (.pointer (some ⟨w.heap.size, 0, none⟩)), sgEq (.slice (some ⟨ab, ao, none⟩) d.writes.length c), sgEq (.int .i64 (n : Nat)), sgEq (.pointer (some ⟨ab, ao + n * 4, none⟩)), sgEq (.agg #[.int .i64 y.table, .slice YA y.key.length YC, .bool y.gone, .slice YB y.val.length YD]), sgEq (.agg #[.int .i64 x.table, .slice XA x.key.length XC, .bool x.gone, .slice XB x.val.length XD]), sgEq (.bool false), sgEq (.bool true), sgEq (.bool true)]
                ⟨?o0, ?o1, ?o2, ?o3, ?o4, ?o5, ?o6, ?o7, ?o8, ?o9, ?o10, ?o11, trivial⟩ ?fin
              case o0 =>
                refine GdOp.plain rfl (fun A vs w' hF hT hb hd => ?_)
                have e1 : A.eval (.tmp 5) = .int .i64 (n : Nat) := hF 5 rfl
                exact BigFrame.wp_move _ rfl ⟨_, rfl, e1, Below.refl _ _⟩
              case o1 =>
                refine GdOp.plain rfl (fun A vs w' hF hT hb hd => ?_)
                have e1 : A.eval (.tmp 37) = .int .i64 (n : Nat) := (hT 37 0 (by simp) rfl).trans (hd ⟨0, .data⟩ (by simp) rfl)
                exact wp_lssI rfl e1 rfl ⟨_, rfl, congrArg Value.bool dneg, Below.refl _ _⟩
              case o2 =>
                refine GdOp.plain rfl (fun A vs w' hF hT hb hd => ?_)
                have e1 : A.eval (.tmp 38) = .bool false := (hT 38 1 (by simp) rfl).trans (hd ⟨1, .data⟩ (by simp) rfl)
                exact BigFrame.wp_move _ rfl ⟨_, rfl, e1, Below.refl _ _⟩
              case o3 =>
                refine GdOp.taken rfl ⟨_, _, rfl, rfl, by simp⟩ (by kernel_rfl) (fun w v h => h) (fun A vs w' hF hT hb hd => ?_)
                have e1 : A.eval (.tmp 1) = .pointer (some ⟨w.heap.size, 0, none⟩) := hF 1 rfl
                exact wp_fieldN dlS rfl (e1) (by omega) ⟨_, rfl, rfl, Below.refl _ _⟩
              case o4 =>
                refine GdOp.taken rfl ⟨_, _, rfl, rfl, by simp⟩ (by kernel_rfl) (fun w v h => h) (fun A vs w' hF hT hb hd => ?_)
                have e1 : A.eval (.tmp 40) = .pointer (some ⟨w.heap.size, 0, none⟩) := (hT 40 3 (by simp) rfl).trans (hd ⟨3, .data⟩ (by simp) rfl)
                exact wp_ld_slice (e := 28) rfl e1 (by kernel_rfl) ((bn.below hb bn.lt).cell (i := 0) rfl) ⟨_, rfl, rfl, Below.refl _ _⟩
              case o5 =>
                refine GdOp.taken rfl ⟨_, _, rfl, rfl, by simp⟩ (by kernel_rfl) (fun w v h => h) (fun A vs w' hF hT hb hd => ?_)
                have e1 : A.eval (.tmp 5) = .int .i64 (n : Nat) := hF 5 rfl
                exact BigFrame.wp_move _ rfl ⟨_, rfl, e1, Below.refl _ _⟩
              case o6 =>
                refine GdOp.taken rfl ⟨_, _, rfl, rfl, by simp⟩ (by kernel_rfl) (fun w v h => h) (fun A vs w' hF hT hb hd => ?_)
                have e1 : A.eval (.tmp 41) = .slice (some ⟨ab, ao, none⟩) d.writes.length c := (hT 41 4 (by simp) rfl).trans (hd ⟨4, .data⟩ (by simp) rfl)
                have e2 : A.eval (.tmp 42) = .int .i64 (n : Nat) := (hT 42 5 (by simp) rfl).trans (hd ⟨5, .data⟩ (by simp) rfl)
                exact wp_ixN (e := 28) rfl (by kernel_rfl) (by kernel_rfl) (e1) (e2) rfl (by omega) ⟨_, rfl, rfl, Below.refl _ _⟩
              case o7 =>
                refine GdOp.taken rfl ⟨_, _, rfl, rfl, by simp⟩ (by kernel_rfl) (fun w v h => h) (fun A vs w' hF hT hb hd => ?_)
                have e1 : A.eval (.tmp 43) = .pointer (some ⟨ab, ao + n * 4, none⟩) := (hT 43 6 (by simp) rfl).trans (hd ⟨6, .data⟩ (by simp) rfl)
                exact wp_load4 wrS rfl e1 ((hb.cell (p := ⟨_, _, none⟩) hyb).trans y0) ((hb.cell (p := ⟨_, _, none⟩) hyb).trans y1) ((hb.cell (p := ⟨_, _, none⟩) hyb).trans y2) ((hb.cell (p := ⟨_, _, none⟩) hyb).trans y3) ⟨_, rfl, rfl, Below.refl _ _⟩
              case o8 =>
                refine GdOp.taken rfl ⟨_, _, rfl, rfl, by simp⟩ (by kernel_rfl) (fun w v h => h) (fun A vs w' hF hT hb hd => ?_)
                have e1 : A.eval (.tmp 7) = .pointer (some ⟨wr.heap.size, 0, none⟩) := hF 7 rfl
                exact wp_load4 wrS rfl e1 ((hb.cell (p := ⟨_, _, none⟩) hxb).trans x0) ((hb.cell (p := ⟨_, _, none⟩) hxb).trans x1) ((hb.cell (p := ⟨_, _, none⟩) hxb).trans x2) ((hb.cell (p := ⟨_, _, none⟩) hxb).trans x3) ⟨_, rfl, rfl, Below.refl _ _⟩
              case o9 =>
                refine GdOp.taken rfl ⟨_, _, rfl, rfl, by simp⟩ (by kernel_rfl) (fun w v h => h) (fun A vs w' hF hT hb hd => ?_)
                have e1 : A.eval (.tmp 44) = .agg #[.int .i64 y.table, .slice YA y.key.length YC, .bool y.gone, .slice YB y.val.length YD] := (hT 44 7 (by simp) rfl).trans (hd ⟨7, .data⟩ (by simp) rfl)
                have e2 : A.eval (.tmp 45) = .agg #[.int .i64 x.table, .slice XA x.key.length XC, .bool x.gone, .slice XB x.val.length XD] := (hT 45 8 (by simp) rfl).trans (hd ⟨8, .data⟩ (by simp) rfl)
                refine wp_callFn rfl eH (by simp only [List.map_toArray, List.map_cons, List.map_nil, e1, e2]) ((refAhead_any w' (hyw.below hb) (hxw.below hb)).mono ?_)
                rintro e w2 ⟨rfl, hb2⟩
                exact ⟨_, rfl, _, rfl, congrArg Value.bool ha2, hb2⟩
              case o10 =>
                refine GdOp.taken rfl ⟨_, _, rfl, rfl, by simp⟩ (by kernel_rfl) (fun w v h => h) (fun A vs w' hF hT hb hd => ?_)
                have e1 : A.eval (.tmp 46) = .bool false := (hT 46 9 (by simp) rfl).trans (hd ⟨9, .data⟩ (by simp) rfl)
                exact wp_notB rfl e1 ⟨_, rfl, rfl, Below.refl _ _⟩
              case o11 =>
                refine GdOp.plain rfl (fun A vs w' hF hT hb hd => ?_)
                have e1 : A.eval (.tmp 39) = .bool false := (hT 39 2 (by simp) rfl).trans (hd ⟨2, .data⟩ (by simp) rfl)
                have e3 : A.eval (.tmp 47) = .bool true := (hT 47 10 (by simp) rfl).trans (hd ⟨10, .data⟩ (by simp) rfl)
                exact wp_pk rfl e1 (by simp) (fun _ => e3) ⟨_, rfl, rfl, Below.refl _ _⟩
              case fin =>
                intro vs W10 hb hG
                have e0 : vs 0 = .int .i64 (n : Nat) := hG 0 (by decide)
                have e1 : vs 1 = .bool false := hG 1 (by decide)
                have e2 : vs 2 = .bool false := hG 2 (by decide)
                have e3 : vs 3 = .pointer (some ⟨w.heap.size, 0, none⟩) := hG 3 (by decide)
                have e4 : vs 4 = .slice (some ⟨ab, ao, none⟩) d.writes.length c := hG 4 (by decide)
                have e5 : vs 5 = .int .i64 (n : Nat) := hG 5 (by decide)
                have e6 : vs 6 = .pointer (some ⟨ab, ao + n * 4, none⟩) := hG 6 (by decide)
                have e7 : vs 7 = .agg #[.int .i64 y.table, .slice YA y.key.length YC, .bool y.gone, .slice YB y.val.length YD] := hG 7 (by decide)
                have e8 : vs 8 = .agg #[.int .i64 x.table, .slice XA x.key.length XC, .bool x.gone, .slice XB x.val.length XD] := hG 8 (by decide)
                have e9 : vs 9 = .bool false := hG 9 (by decide)
                have e10 : vs 10 = .bool true := hG 10 (by decide)
                have e11 : vs 11 = .bool true := hG 11 (by decide)
                simp only [putAll, e0, e1, e2, e3, e4, e5, e6, e7, e8, e9, e10, e11]
                clear hG e0 e1 e2 e3 e4 e5 e6 e7 e8 e9 e10 e11
                go_simp
                go_wp2_with fail
                go_roundw
                case rel => exact ⟨i + 1, _, rfl, by go_num, by omega, HB, q9.trans (hb.mono q9.size)⟩
                case measure => simp [intOf]; omega
        · have hmL : m < (lastW d.writes).length := by have := hL.out; omega
          have hml : m < ((lastW d.writes).take (m + 1)).length := by rw [List.length_take]; omega
          obtain ⟨pb, po, PA, PC, PB, PD, rfl, hpb0, p0, p1, p2, p3, hpk, hpv, hpt⟩ := (hO.rdL.below q3).wr m hml
          obtain ⟨p, ep⟩ : ∃ p, p = ((lastW d.writes).take (m + 1))[m] := ⟨_, rfl⟩
          have hcd : candW (prevW d.writes (m + 1)) x = ltP p.plc x.plc := by rw [prevW_succ hmL, ep, List.getElem_take]; rfl
          rw [← ep] at p0 p1 p2 p3 hpk hpv hpt
          have hpw : RdWr _ W3 (.agg #[.int .i64 p.table, .slice PA p.key.length PC, .bool p.gone, .slice PB p.val.length PD]) p := ⟨PA, PC, PB, PD, rfl, hpk, hpv, hpt⟩
          have hpb := cell_lt p0
          have dpos : decide ((0 : Int) < ((m + 1 : Nat) : Int)) = true := decide_eq_true (by omega)
          have hm1 : ((m + 1 : Nat) : Int) - 1 = (m : Int) := by omega
          clear hpk hpv ep hpb0
          cases ha : ltP p.plc x.plc with
          | true =>
            have hcand := Lib.hid (hcd.trans ha)
            clear hcd
            go_upto_region 9 with (fail)
            refine wp_region_gsg (by kernel_rfl) (by kernel_rfl) [sgEq (.slice (some ⟨pb, po, none⟩) (m + 1) ko), sgEq (.int .i64 ((m + 1 : Nat) : Int)), sgEq (.bool true), sgEq (.bool true), sgEq (.slice (some ⟨pb, po, none⟩) (m + 1) ko), sgEq (.slice (some ⟨pb, po, none⟩) (m + 1) ko), sgEq (.int .i64 ((m + 1 : Nat) : Int)), sgEq (.int .i64 (m : Nat)), sgEq (.pointer (some ⟨pb, po + m * 4, none⟩)), sgEq (.agg #[.int .i64 p.table, .slice PA p.key.length PC, .bool p.gone, .slice PB p.val.length PD]), sgEq (.agg #[.int .i64 x.table, .slice XA x.key.length XC, .bool x.gone, .slice XB x.val.length XD]), sgEq (.bool true), sgEq (.bool false), sgEq (.bool false)]
              ⟨?o0, ?o1, ?o2, ?o3, ?o4, ?o5, ?o6, ?o7, ?o8, ?o9, ?o10, ?o11, ?o12, ?o13, trivial⟩ ?fin
            case o0 =>
              refine GdOp.plain rfl (fun A vs w' hF hT hb hd => ?_)
              have e1 : A.eval (.tmp 3) = .slice (some ⟨pb, po, none⟩) (m + 1) ko := hF 3 rfl
              exact BigFrame.wp_move _ rfl ⟨_, rfl, e1, Below.refl _ _⟩
            case o1 =>
              refine GdOp.plain rfl (fun A vs w' hF hT hb hd => ?_)
              have e1 : A.eval (.tmp 23) = .slice (some ⟨pb, po, none⟩) (m + 1) ko := (hT 23 0 (by simp) rfl).trans (hd ⟨0, .data⟩ (by simp) rfl)
              exact wp_lenS (e := 28) rfl (by kernel_rfl) e1 ⟨_, rfl, rfl, Below.refl _ _⟩
            case o2 =>
              refine GdOp.plain rfl (fun A vs w' hF hT hb hd => ?_)
              have e1 : A.eval (.tmp 24) = .int .i64 ((m + 1 : Nat) : Int) := (hT 24 1 (by simp) rfl).trans (hd ⟨1, .data⟩ (by simp) rfl)
              exact wp_gtrI rfl e1 rfl ⟨_, rfl, congrArg Value.bool dpos, Below.refl _ _⟩
            case o3 =>
              refine GdOp.plain rfl (fun A vs w' hF hT hb hd => ?_)
              have e1 : A.eval (.tmp 25) = .bool true := (hT 25 2 (by simp) rfl).trans (hd ⟨2, .data⟩ (by simp) rfl)
              exact BigFrame.wp_move _ rfl ⟨_, rfl, e1, Below.refl _ _⟩
            case o4 =>
              refine GdOp.taken rfl ⟨_, _, rfl, rfl, by simp⟩ (by kernel_rfl) (fun w v h => h) (fun A vs w' hF hT hb hd => ?_)
              have e1 : A.eval (.tmp 3) = .slice (some ⟨pb, po, none⟩) (m + 1) ko := hF 3 rfl
              exact BigFrame.wp_move _ rfl ⟨_, rfl, e1, Below.refl _ _⟩
            case o5 =>
              refine GdOp.taken rfl ⟨_, _, rfl, rfl, by simp⟩ (by kernel_rfl) (fun w v h => h) (fun A vs w' hF hT hb hd => ?_)
              have e1 : A.eval (.tmp 3) = .slice (some ⟨pb, po, none⟩) (m + 1) ko := hF 3 rfl
              exact BigFrame.wp_move _ rfl ⟨_, rfl, e1, Below.refl _ _⟩
            case o6 =>
              refine GdOp.taken rfl ⟨_, _, rfl, rfl, by simp⟩ (by kernel_rfl) (fun w v h => h) (fun A vs w' hF hT hb hd => ?_)
              have e1 : A.eval (.tmp 28) = .slice (some ⟨pb, po, none⟩) (m + 1) ko := (hT 28 5 (by simp) rfl).trans (hd ⟨5, .data⟩ (by simp) rfl)
              exact wp_lenS (e := 28) rfl (by kernel_rfl) e1 ⟨_, rfl, rfl, Below.refl _ _⟩
            case o7 =>
              refine GdOp.taken rfl ⟨_, _, rfl, rfl, by simp⟩ (by kernel_rfl) (fun w v h => h) (fun A vs w' hF hT hb hd => ?_)
              have e1 : A.eval (.tmp 29) = .int .i64 ((m + 1 : Nat) : Int) := (hT 29 6 (by simp) rfl).trans (hd ⟨6, .data⟩ (by simp) rfl)
              exact wp_subI rfl e1 rfl (by omega) (by omega) ⟨_, rfl, congrArg (Value.int .i64) hm1, Below.refl _ _⟩
            case o8 =>
              refine GdOp.taken rfl ⟨_, _, rfl, rfl, by simp⟩ (by kernel_rfl) (fun w v h => h) (fun A vs w' hF hT hb hd => ?_)
              have e1 : A.eval (.tmp 27) = .slice (some ⟨pb, po, none⟩) (m + 1) ko := (hT 27 4 (by simp) rfl).trans (hd ⟨4, .data⟩ (by simp) rfl)
              have e2 : A.eval (.tmp 30) = .int .i64 (m : Nat) := (hT 30 7 (by simp) rfl).trans (hd ⟨7, .data⟩ (by simp) rfl)
              exact wp_ixN (e := 28) rfl (by kernel_rfl) (by kernel_rfl) (e1) (e2) rfl (by omega) ⟨_, rfl, rfl, Below.refl _ _⟩
            case o9 =>
              refine GdOp.taken rfl ⟨_, _, rfl, rfl, by simp⟩ (by kernel_rfl) (fun w v h => h) (fun A vs w' hF hT hb hd => ?_)
              have e1 : A.eval (.tmp 31) = .pointer (some ⟨pb, po + m * 4, none⟩) := (hT 31 8 (by simp) rfl).trans (hd ⟨8, .data⟩ (by simp) rfl)
              exact wp_load4 wrS rfl e1 ((hb.cell (p := ⟨_, _, none⟩) hpb).trans p0) ((hb.cell (p := ⟨_, _, none⟩) hpb).trans p1) ((hb.cell (p := ⟨_, _, none⟩) hpb).trans p2) ((hb.cell (p := ⟨_, _, none⟩) hpb).trans p3) ⟨_, rfl, rfl, Below.refl _ _⟩
            case o10 =>
              refine GdOp.taken rfl ⟨_, _, rfl, rfl, by simp⟩ (by kernel_rfl) (fun w v h => h) (fun A vs w' hF hT hb hd => ?_)
              have e1 : A.eval (.tmp 7) = .pointer (some ⟨wr.heap.size, 0, none⟩) := hF 7 rfl
              exact wp_load4 wrS rfl e1 ((hb.cell (p := ⟨_, _, none⟩) hxb).trans x0) ((hb.cell (p := ⟨_, _, none⟩) hxb).trans x1) ((hb.cell (p := ⟨_, _, none⟩) hxb).trans x2) ((hb.cell (p := ⟨_, _, none⟩) hxb).trans x3) ⟨_, rfl, rfl, Below.refl _ _⟩
            case o11 =>
              refine GdOp.taken rfl ⟨_, _, rfl, rfl, by simp⟩ (by kernel_rfl) (fun w v h => h) (fun A vs w' hF hT hb hd => ?_)
              have e1 : A.eval (.tmp 32) = .agg #[.int .i64 p.table, .slice PA p.key.length PC, .bool p.gone, .slice PB p.val.length PD] := (hT 32 9 (by simp) rfl).trans (hd ⟨9, .data⟩ (by simp) rfl)
              have e2 : A.eval (.tmp 33) = .agg #[.int .i64 x.table, .slice XA x.key.length XC, .bool x.gone, .slice XB x.val.length XD] := (hT 33 10 (by simp) rfl).trans (hd ⟨10, .data⟩ (by simp) rfl)
              refine wp_callFn rfl eH (by simp only [List.map_toArray, List.map_cons, List.map_nil, e1, e2]) ((refAhead_any w' (hpw.below hb) (hxw.below hb)).mono ?_)
              rintro e w2 ⟨rfl, hb2⟩
              exact ⟨_, rfl, _, rfl, congrArg Value.bool ha, hb2⟩
            case o12 =>
              refine GdOp.taken rfl ⟨_, _, rfl, rfl, by simp⟩ (by kernel_rfl) (fun w v h => h) (fun A vs w' hF hT hb hd => ?_)
              have e1 : A.eval (.tmp 34) = .bool true := (hT 34 11 (by simp) rfl).trans (hd ⟨11, .data⟩ (by simp) rfl)
              exact wp_notB rfl e1 ⟨_, rfl, rfl, Below.refl _ _⟩
            case o13 =>
              refine GdOp.plain rfl (fun A vs w' hF hT hb hd => ?_)
              have e1 : A.eval (.tmp 26) = .bool true := (hT 26 3 (by simp) rfl).trans (hd ⟨3, .data⟩ (by simp) rfl)
              have e2 : A.eval (.tmp 35) = .bool false := (hT 35 12 (by simp) rfl).trans (hd ⟨12, .data⟩ (by simp) rfl)
              exact wp_pk rfl e1 (fun _ => e2) (by simp) ⟨_, rfl, rfl, Below.refl _ _⟩
            case fin =>
              intro vs W9 hb hG
              have e0 : vs 0 = .slice (some ⟨pb, po, none⟩) (m + 1) ko := hG 0 (by decide)
              have e1 : vs 1 = .int .i64 ((m + 1 : Nat) : Int) := hG 1 (by decide)
              have e2 : vs 2 = .bool true := hG 2 (by decide)
              have e3 : vs 3 = .bool true := hG 3 (by decide)
              have e4 : vs 4 = .slice (some ⟨pb, po, none⟩) (m + 1) ko := hG 4 (by decide)
              have e5 : vs 5 = .slice (some ⟨pb, po, none⟩) (m + 1) ko := hG 5 (by decide)
              have e6 : vs 6 = .int .i64 ((m + 1 : Nat) : Int) := hG 6 (by decide)
              have e7 : vs 7 = .int .i64 (m : Nat) := hG 7 (by decide)
              have e8 : vs 8 = .pointer (some ⟨pb, po + m * 4, none⟩) := hG 8 (by decide)
              have e9 : vs 9 = .agg #[.int .i64 p.table, .slice PA p.key.length PC, .bool p.gone, .slice PB p.val.length PD] := hG 9 (by decide)
              have e10 : vs 10 = .agg #[.int .i64 x.table, .slice XA x.key.length XC, .bool x.gone, .slice XB x.val.length XD] := hG 10 (by decide)
              have e11 : vs 11 = .bool true := hG 11 (by decide)
              have e12 : vs 12 = .bool false := hG 12 (by decide)
              have e13 : vs 13 = .bool false := hG 13 (by decide)
              simp only [putAll, e0, e1, e2, e3, e4, e5, e6, e7, e8, e9, e10, e11, e12, e13]
              clear hG e0 e1 e2 e3 e4 e5 e6 e7 e8 e9 e10 e11 e12 e13
              go_simp
              clear p0 p1 p2 p3 hpw hpt hpb dpos hm1 ha
              have q9 : Below w1.heap.size w1 W9 := q3.trans (hb.mono q3.size)
              replace bn := bn.below hb bn.lt
              replace hX := hX.below hb hX.lt
              replace hxw := hxw.below hb
              clear hb x0 x1 x2 x3
              have x0 := hX.cell (i := 0) rfl
              have x1 := hX.cell (i := 1) rfl
              have x2 := hX.cell (i := 2) rfl
              have x3 := hX.cell (i := 3) rfl
              have hxb := hX.lt
              have b0 := bn.cell (i := 0) rfl
              rcases hbest.out.lt with hneg | ⟨n, hn, hni⟩
              · subst hneg
                have HB := Lib.hid (hbest.out.first hxi hcand.out)
                clear hbest hcand
                go_upto_region 10 with (fail)
                go_quiet (fail)
                have hb : Below W9.heap.size W9 (W9.drewN nq) := Go.Proofs.Ytjbdkhddnblieaa.Below.drewN (Below.refl _ _) nq
                generalize W9.drewN nq = W10 at hb ⊢
                go_wp2_with fail
                go_roundw
                case rel => exact ⟨i + 1, _, rfl, by go_num, by omega, HB, q9.trans (hb.mono q9.size)⟩
                case measure => simp [intOf]; omega
              · subst hn
                have hnl : n < d.writes.length := by omega
                obtain ⟨b3, o3, YA, YC, YB, YD, e3, hyb0, y0, y1, y2, y3, hyk, hyv, hyt⟩ := (hw.below (q0.trans (q9.mono q0.size))).wr n hnl
                obtain ⟨rfl, rfl⟩ : ab = b3 ∧ ao = o3 := by simpa using e3
                clear e3
                have hyi := List.getElem?_eq_getElem hnl
                obtain ⟨y, ey⟩ : ∃ y, y = d.writes[n] := ⟨_, rfl⟩
                rw [← ey] at y0 y1 y2 y3 hyk hyv hyt hyi
                clear ey
                have hyw : RdWr S _ (.agg #[.int .i64 y.table, .slice YA y.key.length YC, .bool y.gone, .slice YB y.val.length YD]) y := ⟨YA, YC, YB, YD, rfl, hyk, hyv, hyt⟩
                have hyb := cell_lt y0
                have dneg : decide ((n : Int) < 0) = false := decide_eq_false (by omega)
                clear hyk hyv
                cases ha2 : ltP y.plc x.plc with
                | true =>
                  have HB := Lib.hid (hbest.out.stay hyi hxi ha2)
                  clear hbest hcand hyi
                  go_upto_region 10 with (fail)
                  refine wp_region_gsg (by kernel_rfl) (by kernel_rfl) [sgEq (.int .i64 (n : Nat)), sgEq (.bool false), sgEq (.bool false), sgEq (.pointer (some ⟨w.heap.size, 0, none⟩)), sgEq (.slice (some ⟨ab, ao, none⟩) d.writes.length c), sgEq (.int .i64 (n : Nat)), sgEq (.pointer (some ⟨ab, ao + n * 4, none⟩)), sgEq (.agg #[.int .i64 y.table, .slice YA y.key.length YC, .bool y.gone, .slice YB y.val.length YD]), sgEq (.agg #[.int .i64 x.table, .slice XA x.key.length XC, .bool x.gone, .slice XB x.val.length XD]), sgEq (.bool true), sgEq (.bool false), sgEq (.bool false)]
                    ⟨?o0, ?o1, ?o2, ?o3, ?o4, ?o5, ?o6, ?o7, ?o8, ?o9, ?o10, ?o11, trivial⟩ ?fin
                  case o0 =>
                    refine GdOp.plain rfl (fun A vs w' hF hT hb hd => ?_)
                    have e1 : A.eval (.tmp 5) = .int .i64 (n : Nat) := hF 5 rfl
                    exact BigFrame.wp_move _ rfl ⟨_, rfl, e1, Below.refl _ _⟩
                  case o1 =>
                    refine GdOp.plain rfl (fun A vs w' hF hT hb hd => ?_)
                    have e1 : A.eval (.tmp 37) = .int .i64 (n : Nat) := (hT 37 0 (by simp) rfl).trans (hd ⟨0, .data⟩ (by simp) rfl)
                    exact wp_lssI rfl e1 rfl ⟨_, rfl, congrArg Value.bool dneg, Below.refl _ _⟩
                  case o2 =>
                    refine GdOp.plain rfl (fun A vs w' hF hT hb hd => ?_)
                    have e1 : A.eval (.tmp 38) = .bool false := (hT 38 1 (by simp) rfl).trans (hd ⟨1, .data⟩ (by simp) rfl)
                    exact BigFrame.wp_move _ rfl ⟨_, rfl, e1, Below.refl _ _⟩
                  case o3 =>
                    refine GdOp.taken rfl ⟨_, _, rfl, rfl, by simp⟩ (by kernel_rfl) (fun w v h => h) (fun A vs w' hF hT hb hd => ?_)
                    have e1 : A.eval (.tmp 1) = .pointer (some ⟨w.heap.size, 0, none⟩) := hF 1 rfl
                    exact wp_fieldN dlS rfl (e1) (by omega) ⟨_, rfl, rfl, Below.refl _ _⟩
                  case o4 =>
                    refine GdOp.taken rfl ⟨_, _, rfl, rfl, by simp⟩ (by kernel_rfl) (fun w v h => h) (fun A vs w' hF hT hb hd => ?_)
                    have e1 : A.eval (.tmp 40) = .pointer (some ⟨w.heap.size, 0, none⟩) := (hT 40 3 (by simp) rfl).trans (hd ⟨3, .data⟩ (by simp) rfl)
                    exact wp_ld_slice (e := 28) rfl e1 (by kernel_rfl) ((bn.below hb bn.lt).cell (i := 0) rfl) ⟨_, rfl, rfl, Below.refl _ _⟩
                  case o5 =>
                    refine GdOp.taken rfl ⟨_, _, rfl, rfl, by simp⟩ (by kernel_rfl) (fun w v h => h) (fun A vs w' hF hT hb hd => ?_)
                    have e1 : A.eval (.tmp 5) = .int .i64 (n : Nat) := hF 5 rfl
                    exact BigFrame.wp_move _ rfl ⟨_, rfl, e1, Below.refl _ _⟩
                  case o6 =>
                    refine GdOp.taken rfl ⟨_, _, rfl, rfl, by simp⟩ (by kernel_rfl) (fun w v h => h) (fun A vs w' hF hT hb hd => ?_)
                    have e1 : A.eval (.tmp 41) = .slice (some ⟨ab, ao, none⟩) d.writes.length c := (hT 41 4 (by simp) rfl).trans (hd ⟨4, .data⟩ (by simp) rfl)
                    have e2 : A.eval (.tmp 42) = .int .i64 (n : Nat) := (hT 42 5 (by simp) rfl).trans (hd ⟨5, .data⟩ (by simp) rfl)
                    exact wp_ixN (e := 28) rfl (by kernel_rfl) (by kernel_rfl) (e1) (e2) rfl (by omega) ⟨_, rfl, rfl, Below.refl _ _⟩
                  case o7 =>
                    refine GdOp.taken rfl ⟨_, _, rfl, rfl, by simp⟩ (by kernel_rfl) (fun w v h => h) (fun A vs w' hF hT hb hd => ?_)
                    have e1 : A.eval (.tmp 43) = .pointer (some ⟨ab, ao + n * 4, none⟩) := (hT 43 6 (by simp) rfl).trans (hd ⟨6, .data⟩ (by simp) rfl)
                    exact wp_load4 wrS rfl e1 ((hb.cell (p := ⟨_, _, none⟩) hyb).trans y0) ((hb.cell (p := ⟨_, _, none⟩) hyb).trans y1) ((hb.cell (p := ⟨_, _, none⟩) hyb).trans y2) ((hb.cell (p := ⟨_, _, none⟩) hyb).trans y3) ⟨_, rfl, rfl, Below.refl _ _⟩
                  case o8 =>
                    refine GdOp.taken rfl ⟨_, _, rfl, rfl, by simp⟩ (by kernel_rfl) (fun w v h => h) (fun A vs w' hF hT hb hd => ?_)
                    have e1 : A.eval (.tmp 7) = .pointer (some ⟨wr.heap.size, 0, none⟩) := hF 7 rfl
                    exact wp_load4 wrS rfl e1 ((hb.cell (p := ⟨_, _, none⟩) hxb).trans x0) ((hb.cell (p := ⟨_, _, none⟩) hxb).trans x1) ((hb.cell (p := ⟨_, _, none⟩) hxb).trans x2) ((hb.cell (p := ⟨_, _, none⟩) hxb).trans x3) ⟨_, rfl, rfl, Below.refl _ _⟩
                  case o9 =>
                    refine GdOp.taken rfl ⟨_, _, rfl, rfl, by simp⟩ (by kernel_rfl) (fun w v h => h) (fun A vs w' hF hT hb hd => ?_)
                    have e1 : A.eval (.tmp 44) = .agg #[.int .i64 y.table, .slice YA y.key.length YC, .bool y.gone, .slice YB y.val.length YD] := (hT 44 7 (by simp) rfl).trans (hd ⟨7, .data⟩ (by simp) rfl)
                    have e2 : A.eval (.tmp 45) = .agg #[.int .i64 x.table, .slice XA x.key.length XC, .bool x.gone, .slice XB x.val.length XD] := (hT 45 8 (by simp) rfl).trans (hd ⟨8, .data⟩ (by simp) rfl)
                    refine wp_callFn rfl eH (by simp only [List.map_toArray, List.map_cons, List.map_nil, e1, e2]) ((refAhead_any w' (hyw.below hb) (hxw.below hb)).mono ?_)
                    rintro e w2 ⟨rfl, hb2⟩
                    exact ⟨_, rfl, _, rfl, congrArg Value.bool ha2, hb2⟩
                  case o10 =>
                    refine GdOp.taken rfl ⟨_, _, rfl, rfl, by simp⟩ (by kernel_rfl) (fun w v h => h) (fun A vs w' hF hT hb hd => ?_)
                    have e1 : A.eval (.tmp 46) = .bool true := (hT 46 9 (by simp) rfl).trans (hd ⟨9, .data⟩ (by simp) rfl)
                    exact wp_notB rfl e1 ⟨_, rfl, rfl, Below.refl _ _⟩
                  case o11 =>
                    refine GdOp.plain rfl (fun A vs w' hF hT hb hd => ?_)
                    have e1 : A.eval (.tmp 39) = .bool false := (hT 39 2 (by simp) rfl).trans (hd ⟨2, .data⟩ (by simp) rfl)
                    have e3 : A.eval (.tmp 47) = .bool false := (hT 47 10 (by simp) rfl).trans (hd ⟨10, .data⟩ (by simp) rfl)
                    exact wp_pk rfl e1 (by simp) (fun _ => e3) ⟨_, rfl, rfl, Below.refl _ _⟩
                  case fin =>
                    intro vs W10 hb hG
                    have e0 : vs 0 = .int .i64 (n : Nat) := hG 0 (by decide)
                    have e1 : vs 1 = .bool false := hG 1 (by decide)
                    have e2 : vs 2 = .bool false := hG 2 (by decide)
                    have e3 : vs 3 = .pointer (some ⟨w.heap.size, 0, none⟩) := hG 3 (by decide)
                    have e4 : vs 4 = .slice (some ⟨ab, ao, none⟩) d.writes.length c := hG 4 (by decide)
                    have e5 : vs 5 = .int .i64 (n : Nat) := hG 5 (by decide)
                    have e6 : vs 6 = .pointer (some ⟨ab, ao + n * 4, none⟩) := hG 6 (by decide)
                    have e7 : vs 7 = .agg #[.int .i64 y.table, .slice YA y.key.length YC, .bool y.gone, .slice YB y.val.length YD] := hG 7 (by decide)
                    have e8 : vs 8 = .agg #[.int .i64 x.table, .slice XA x.key.length XC, .bool x.gone, .slice XB x.val.length XD] := hG 8 (by decide)
                    have e9 : vs 9 = .bool true := hG 9 (by decide)
                    have e10 : vs 10 = .bool false := hG 10 (by decide)
                    have e11 : vs 11 = .bool false := hG 11 (by decide)
                    simp only [putAll, e0, e1, e2, e3, e4, e5, e6, e7, e8, e9, e10, e11]
                    clear hG e0 e1 e2 e3 e4 e5 e6 e7 e8 e9 e10 e11
                    go_simp
                    go_wp2_with fail
                    go_roundw
                    case rel => exact ⟨i + 1, _, rfl, by go_num, by omega, HB, q9.trans (hb.mono q9.size)⟩
                    case measure => simp [intOf]; omega
                | false =>
                  have HB := Lib.hid (hbest.out.turn hyi hxi hcand.out ha2)
                  clear hbest hcand hyi
                  go_upto_region 10 with (fail)
                  refine wp_region_gsg (by kernel_rfl) (by kernel_rfl) [sgEq (.int .i64 (n : Nat)), sgEq (.bool false), sgEq (.bool false), sgEq (.pointer (some ⟨w.heap.size, 0, none⟩)), sgEq (.slice (some ⟨ab, ao, none⟩) d.writes.length c), sgEq (.int .i64 (n : Nat)), sgEq (.pointer (some ⟨ab, ao + n * 4, none⟩)), sgEq (.agg #[.int .i64 y.table, .slice YA y.key.length YC, .bool y.gone, .slice YB y.val.length YD]), sgEq (.agg #[.int .i64 x.table, .slice XA x.key.length XC, .bool x.gone, .slice XB x.val.length XD]), sgEq (.bool false), sgEq (.bool true), sgEq (.bool true)]
                    ⟨?o0, ?o1, ?o2, ?o3, ?o4, ?o5, ?o6, ?o7, ?o8, ?o9, ?o10, ?o11, trivial⟩ ?fin
                  case o0 =>
                    refine GdOp.plain rfl (fun A vs w' hF hT hb hd => ?_)
                    have e1 : A.eval (.tmp 5) = .int .i64 (n : Nat) := hF 5 rfl
                    exact BigFrame.wp_move _ rfl ⟨_, rfl, e1, Below.refl _ _⟩
                  case o1 =>
                    refine GdOp.plain rfl (fun A vs w' hF hT hb hd => ?_)
                    have e1 : A.eval (.tmp 37) = .int .i64 (n : Nat) := (hT 37 0 (by simp) rfl).trans (hd ⟨0, .data⟩ (by simp) rfl)
                    exact wp_lssI rfl e1 rfl ⟨_, rfl, congrArg Value.bool dneg, Below.refl _ _⟩
                  case o2 =>
                    refine GdOp.plain rfl (fun A vs w' hF hT hb hd => ?_)
                    have e1 : A.eval (.tmp 38) = .bool false := (hT 38 1 (by simp) rfl).trans (hd ⟨1, .data⟩ (by simp) rfl)
                    exact BigFrame.wp_move _ rfl ⟨_, rfl, e1, Below.refl _ _⟩
                  case o3 =>
                    refine GdOp.taken rfl ⟨_, _, rfl, rfl, by simp⟩ (by kernel_rfl) (fun w v h => h) (fun A vs w' hF hT hb hd => ?_)
                    have e1 : A.eval (.tmp 1) = .pointer (some ⟨w.heap.size, 0, none⟩) := hF 1 rfl
                    exact wp_fieldN dlS rfl (e1) (by omega) ⟨_, rfl, rfl, Below.refl _ _⟩
                  case o4 =>
                    refine GdOp.taken rfl ⟨_, _, rfl, rfl, by simp⟩ (by kernel_rfl) (fun w v h => h) (fun A vs w' hF hT hb hd => ?_)
                    have e1 : A.eval (.tmp 40) = .pointer (some ⟨w.heap.size, 0, none⟩) := (hT 40 3 (by simp) rfl).trans (hd ⟨3, .data⟩ (by simp) rfl)
                    exact wp_ld_slice (e := 28) rfl e1 (by kernel_rfl) ((bn.below hb bn.lt).cell (i := 0) rfl) ⟨_, rfl, rfl, Below.refl _ _⟩
                  case o5 =>
                    refine GdOp.taken rfl ⟨_, _, rfl, rfl, by simp⟩ (by kernel_rfl) (fun w v h => h) (fun A vs w' hF hT hb hd => ?_)
                    have e1 : A.eval (.tmp 5) = .int .i64 (n : Nat) := hF 5 rfl
                    exact BigFrame.wp_move _ rfl ⟨_, rfl, e1, Below.refl _ _⟩
                  case o6 =>
                    refine GdOp.taken rfl ⟨_, _, rfl, rfl, by simp⟩ (by kernel_rfl) (fun w v h => h) (fun A vs w' hF hT hb hd => ?_)
                    have e1 : A.eval (.tmp 41) = .slice (some ⟨ab, ao, none⟩) d.writes.length c := (hT 41 4 (by simp) rfl).trans (hd ⟨4, .data⟩ (by simp) rfl)
                    have e2 : A.eval (.tmp 42) = .int .i64 (n : Nat) := (hT 42 5 (by simp) rfl).trans (hd ⟨5, .data⟩ (by simp) rfl)
                    exact wp_ixN (e := 28) rfl (by kernel_rfl) (by kernel_rfl) (e1) (e2) rfl (by omega) ⟨_, rfl, rfl, Below.refl _ _⟩
                  case o7 =>
                    refine GdOp.taken rfl ⟨_, _, rfl, rfl, by simp⟩ (by kernel_rfl) (fun w v h => h) (fun A vs w' hF hT hb hd => ?_)
                    have e1 : A.eval (.tmp 43) = .pointer (some ⟨ab, ao + n * 4, none⟩) := (hT 43 6 (by simp) rfl).trans (hd ⟨6, .data⟩ (by simp) rfl)
                    exact wp_load4 wrS rfl e1 ((hb.cell (p := ⟨_, _, none⟩) hyb).trans y0) ((hb.cell (p := ⟨_, _, none⟩) hyb).trans y1) ((hb.cell (p := ⟨_, _, none⟩) hyb).trans y2) ((hb.cell (p := ⟨_, _, none⟩) hyb).trans y3) ⟨_, rfl, rfl, Below.refl _ _⟩
                  case o8 =>
                    refine GdOp.taken rfl ⟨_, _, rfl, rfl, by simp⟩ (by kernel_rfl) (fun w v h => h) (fun A vs w' hF hT hb hd => ?_)
                    have e1 : A.eval (.tmp 7) = .pointer (some ⟨wr.heap.size, 0, none⟩) := hF 7 rfl
                    exact wp_load4 wrS rfl e1 ((hb.cell (p := ⟨_, _, none⟩) hxb).trans x0) ((hb.cell (p := ⟨_, _, none⟩) hxb).trans x1) ((hb.cell (p := ⟨_, _, none⟩) hxb).trans x2) ((hb.cell (p := ⟨_, _, none⟩) hxb).trans x3) ⟨_, rfl, rfl, Below.refl _ _⟩
                  case o9 =>
                    refine GdOp.taken rfl ⟨_, _, rfl, rfl, by simp⟩ (by kernel_rfl) (fun w v h => h) (fun A vs w' hF hT hb hd => ?_)
                    have e1 : A.eval (.tmp 44) = .agg #[.int .i64 y.table, .slice YA y.key.length YC, .bool y.gone, .slice YB y.val.length YD] := (hT 44 7 (by simp) rfl).trans (hd ⟨7, .data⟩ (by simp) rfl)
                    have e2 : A.eval (.tmp 45) = .agg #[.int .i64 x.table, .slice XA x.key.length XC, .bool x.gone, .slice XB x.val.length XD] := (hT 45 8 (by simp) rfl).trans (hd ⟨8, .data⟩ (by simp) rfl)
                    refine wp_callFn rfl eH (by simp only [List.map_toArray, List.map_cons, List.map_nil, e1, e2]) ((refAhead_any w' (hyw.below hb) (hxw.below hb)).mono ?_)
                    rintro e w2 ⟨rfl, hb2⟩
                    exact ⟨_, rfl, _, rfl, congrArg Value.bool ha2, hb2⟩
                  case o10 =>
                    refine GdOp.taken rfl ⟨_, _, rfl, rfl, by simp⟩ (by kernel_rfl) (fun w v h => h) (fun A vs w' hF hT hb hd => ?_)
                    have e1 : A.eval (.tmp 46) = .bool false := (hT 46 9 (by simp) rfl).trans (hd ⟨9, .data⟩ (by simp) rfl)
                    exact wp_notB rfl e1 ⟨_, rfl, rfl, Below.refl _ _⟩
                  case o11 =>
                    refine GdOp.plain rfl (fun A vs w' hF hT hb hd => ?_)
                    have e1 : A.eval (.tmp 39) = .bool false := (hT 39 2 (by simp) rfl).trans (hd ⟨2, .data⟩ (by simp) rfl)
                    have e3 : A.eval (.tmp 47) = .bool true := (hT 47 10 (by simp) rfl).trans (hd ⟨10, .data⟩ (by simp) rfl)
                    exact wp_pk rfl e1 (by simp) (fun _ => e3) ⟨_, rfl, rfl, Below.refl _ _⟩
                  case fin =>
                    intro vs W10 hb hG
                    have e0 : vs 0 = .int .i64 (n : Nat) := hG 0 (by decide)
                    have e1 : vs 1 = .bool false := hG 1 (by decide)
                    have e2 : vs 2 = .bool false := hG 2 (by decide)
                    have e3 : vs 3 = .pointer (some ⟨w.heap.size, 0, none⟩) := hG 3 (by decide)
                    have e4 : vs 4 = .slice (some ⟨ab, ao, none⟩) d.writes.length c := hG 4 (by decide)
                    have e5 : vs 5 = .int .i64 (n : Nat) := hG 5 (by decide)
                    have e6 : vs 6 = .pointer (some ⟨ab, ao + n * 4, none⟩) := hG 6 (by decide)
                    have e7 : vs 7 = .agg #[.int .i64 y.table, .slice YA y.key.length YC, .bool y.gone, .slice YB y.val.length YD] := hG 7 (by decide)
                    have e8 : vs 8 = .agg #[.int .i64 x.table, .slice XA x.key.length XC, .bool x.gone, .slice XB x.val.length XD] := hG 8 (by decide)
                    have e9 : vs 9 = .bool false := hG 9 (by decide)
                    have e10 : vs 10 = .bool true := hG 10 (by decide)
                    have e11 : vs 11 = .bool true := hG 11 (by decide)
                    simp only [putAll, e0, e1, e2, e3, e4, e5, e6, e7, e8, e9, e10, e11]
                    clear hG e0 e1 e2 e3 e4 e5 e6 e7 e8 e9 e10 e11
                    go_simp
                    go_wp2_with fail
                    go_roundw
                    case rel => exact ⟨i + 1, _, rfl, by go_num, by omega, HB, q9.trans (hb.mono q9.size)⟩
                    case measure => simp [intOf]; omega
          | false =>
            have HB := Lib.hid (hbest.out.skip hxi (hcd.trans ha))
            clear hcd hbest
            go_upto_region 9 with (fail)
            refine wp_region_gsg (by kernel_rfl) (by kernel_rfl) [sgEq (.slice (some ⟨pb, po, none⟩) (m + 1) ko), sgEq (.int .i64 ((m + 1 : Nat) : Int)), sgEq (.bool true), sgEq (.bool true), sgEq (.slice (some ⟨pb, po, none⟩) (m + 1) ko), sgEq (.slice (some ⟨pb, po, none⟩) (m + 1) ko), sgEq (.int .i64 ((m + 1 : Nat) : Int)), sgEq (.int .i64 (m : Nat)), sgEq (.pointer (some ⟨pb, po + m * 4, none⟩)), sgEq (.agg #[.int .i64 p.table, .slice PA p.key.length PC, .bool p.gone, .slice PB p.val.length PD]), sgEq (.agg #[.int .i64 x.table, .slice XA x.key.length XC, .bool x.gone, .slice XB x.val.length XD]), sgEq (.bool false), sgEq (.bool true), sgEq (.bool true)]
              ⟨?o0, ?o1, ?o2, ?o3, ?o4, ?o5, ?o6, ?o7, ?o8, ?o9, ?o10, ?o11, ?o12, ?o13, trivial⟩ ?fin
            case o0 =>
              refine GdOp.plain rfl (fun A vs w' hF hT hb hd => ?_)
              have e1 : A.eval (.tmp 3) = .slice (some ⟨pb, po, none⟩) (m + 1) ko := hF 3 rfl
              exact BigFrame.wp_move _ rfl ⟨_, rfl, e1, Below.refl _ _⟩
            case o1 =>
              refine GdOp.plain rfl (fun A vs w' hF hT hb hd => ?_)
              have e1 : A.eval (.tmp 23) = .slice (some ⟨pb, po, none⟩) (m + 1) ko := (hT 23 0 (by simp) rfl).trans (hd ⟨0, .data⟩ (by simp) rfl)
              exact wp_lenS (e := 28) rfl (by kernel_rfl) e1 ⟨_, rfl, rfl, Below.refl _ _⟩
            case o2 =>
              refine GdOp.plain rfl (fun A vs w' hF hT hb hd => ?_)
              have e1 : A.eval (.tmp 24) = .int .i64 ((m + 1 : Nat) : Int) := (hT 24 1 (by simp) rfl).trans (hd ⟨1, .data⟩ (by simp) rfl)
              exact wp_gtrI rfl e1 rfl ⟨_, rfl, congrArg Value.bool dpos, Below.refl _ _⟩
            case o3 =>
              refine GdOp.plain rfl (fun A vs w' hF hT hb hd => ?_)
              have e1 : A.eval (.tmp 25) = .bool true := (hT 25 2 (by simp) rfl).trans (hd ⟨2, .data⟩ (by simp) rfl)
              exact BigFrame.wp_move _ rfl ⟨_, rfl, e1, Below.refl _ _⟩
            case o4 =>
              refine GdOp.taken rfl ⟨_, _, rfl, rfl, by simp⟩ (by kernel_rfl) (fun w v h => h) (fun A vs w' hF hT hb hd => ?_)
              have e1 : A.eval (.tmp 3) = .slice (some ⟨pb, po, none⟩) (m + 1) ko := hF 3 rfl
              exact BigFrame.wp_move _ rfl ⟨_, rfl, e1, Below.refl _ _⟩
            case o5 =>
              refine GdOp.taken rfl ⟨_, _, rfl, rfl, by simp⟩ (by kernel_rfl) (fun w v h => h) (fun A vs w' hF hT hb hd => ?_)
              have e1 : A.eval (.tmp 3) = .slice (some ⟨pb, po, none⟩) (m + 1) ko := hF 3 rfl
              exact BigFrame.wp_move _ rfl ⟨_, rfl, e1, Below.refl _ _⟩
            case o6 =>
              refine GdOp.taken rfl ⟨_, _, rfl, rfl, by simp⟩ (by kernel_rfl) (fun w v h => h) (fun A vs w' hF hT hb hd => ?_)
              have e1 : A.eval (.tmp 28) = .slice (some ⟨pb, po, none⟩) (m + 1) ko := (hT 28 5 (by simp) rfl).trans (hd ⟨5, .data⟩ (by simp) rfl)
              exact wp_lenS (e := 28) rfl (by kernel_rfl) e1 ⟨_, rfl, rfl, Below.refl _ _⟩
            case o7 =>
              refine GdOp.taken rfl ⟨_, _, rfl, rfl, by simp⟩ (by kernel_rfl) (fun w v h => h) (fun A vs w' hF hT hb hd => ?_)
              have e1 : A.eval (.tmp 29) = .int .i64 ((m + 1 : Nat) : Int) := (hT 29 6 (by simp) rfl).trans (hd ⟨6, .data⟩ (by simp) rfl)
              exact wp_subI rfl e1 rfl (by omega) (by omega) ⟨_, rfl, congrArg (Value.int .i64) hm1, Below.refl _ _⟩
            case o8 =>
              refine GdOp.taken rfl ⟨_, _, rfl, rfl, by simp⟩ (by kernel_rfl) (fun w v h => h) (fun A vs w' hF hT hb hd => ?_)
              have e1 : A.eval (.tmp 27) = .slice (some ⟨pb, po, none⟩) (m + 1) ko := (hT 27 4 (by simp) rfl).trans (hd ⟨4, .data⟩ (by simp) rfl)
              have e2 : A.eval (.tmp 30) = .int .i64 (m : Nat) := (hT 30 7 (by simp) rfl).trans (hd ⟨7, .data⟩ (by simp) rfl)
              exact wp_ixN (e := 28) rfl (by kernel_rfl) (by kernel_rfl) (e1) (e2) rfl (by omega) ⟨_, rfl, rfl, Below.refl _ _⟩
            case o9 =>
              refine GdOp.taken rfl ⟨_, _, rfl, rfl, by simp⟩ (by kernel_rfl) (fun w v h => h) (fun A vs w' hF hT hb hd => ?_)
              have e1 : A.eval (.tmp 31) = .pointer (some ⟨pb, po + m * 4, none⟩) := (hT 31 8 (by simp) rfl).trans (hd ⟨8, .data⟩ (by simp) rfl)
              exact wp_load4 wrS rfl e1 ((hb.cell (p := ⟨_, _, none⟩) hpb).trans p0) ((hb.cell (p := ⟨_, _, none⟩) hpb).trans p1) ((hb.cell (p := ⟨_, _, none⟩) hpb).trans p2) ((hb.cell (p := ⟨_, _, none⟩) hpb).trans p3) ⟨_, rfl, rfl, Below.refl _ _⟩
            case o10 =>
              refine GdOp.taken rfl ⟨_, _, rfl, rfl, by simp⟩ (by kernel_rfl) (fun w v h => h) (fun A vs w' hF hT hb hd => ?_)
              have e1 : A.eval (.tmp 7) = .pointer (some ⟨wr.heap.size, 0, none⟩) := hF 7 rfl
              exact wp_load4 wrS rfl e1 ((hb.cell (p := ⟨_, _, none⟩) hxb).trans x0) ((hb.cell (p := ⟨_, _, none⟩) hxb).trans x1) ((hb.cell (p := ⟨_, _, none⟩) hxb).trans x2) ((hb.cell (p := ⟨_, _, none⟩) hxb).trans x3) ⟨_, rfl, rfl, Below.refl _ _⟩
            case o11 =>
              refine GdOp.taken rfl ⟨_, _, rfl, rfl, by simp⟩ (by kernel_rfl) (fun w v h => h) (fun A vs w' hF hT hb hd => ?_)
              have e1 : A.eval (.tmp 32) = .agg #[.int .i64 p.table, .slice PA p.key.length PC, .bool p.gone, .slice PB p.val.length PD] := (hT 32 9 (by simp) rfl).trans (hd ⟨9, .data⟩ (by simp) rfl)
              have e2 : A.eval (.tmp 33) = .agg #[.int .i64 x.table, .slice XA x.key.length XC, .bool x.gone, .slice XB x.val.length XD] := (hT 33 10 (by simp) rfl).trans (hd ⟨10, .data⟩ (by simp) rfl)
              refine wp_callFn rfl eH (by simp only [List.map_toArray, List.map_cons, List.map_nil, e1, e2]) ((refAhead_any w' (hpw.below hb) (hxw.below hb)).mono ?_)
              rintro e w2 ⟨rfl, hb2⟩
              exact ⟨_, rfl, _, rfl, congrArg Value.bool ha, hb2⟩
            case o12 =>
              refine GdOp.taken rfl ⟨_, _, rfl, rfl, by simp⟩ (by kernel_rfl) (fun w v h => h) (fun A vs w' hF hT hb hd => ?_)
              have e1 : A.eval (.tmp 34) = .bool false := (hT 34 11 (by simp) rfl).trans (hd ⟨11, .data⟩ (by simp) rfl)
              exact wp_notB rfl e1 ⟨_, rfl, rfl, Below.refl _ _⟩
            case o13 =>
              refine GdOp.plain rfl (fun A vs w' hF hT hb hd => ?_)
              have e1 : A.eval (.tmp 26) = .bool true := (hT 26 3 (by simp) rfl).trans (hd ⟨3, .data⟩ (by simp) rfl)
              have e2 : A.eval (.tmp 35) = .bool true := (hT 35 12 (by simp) rfl).trans (hd ⟨12, .data⟩ (by simp) rfl)
              exact wp_pk rfl e1 (fun _ => e2) (by simp) ⟨_, rfl, rfl, Below.refl _ _⟩
            case fin =>
              intro vs W9 hb hG
              have e0 : vs 0 = .slice (some ⟨pb, po, none⟩) (m + 1) ko := hG 0 (by decide)
              have e1 : vs 1 = .int .i64 ((m + 1 : Nat) : Int) := hG 1 (by decide)
              have e2 : vs 2 = .bool true := hG 2 (by decide)
              have e3 : vs 3 = .bool true := hG 3 (by decide)
              have e4 : vs 4 = .slice (some ⟨pb, po, none⟩) (m + 1) ko := hG 4 (by decide)
              have e5 : vs 5 = .slice (some ⟨pb, po, none⟩) (m + 1) ko := hG 5 (by decide)
              have e6 : vs 6 = .int .i64 ((m + 1 : Nat) : Int) := hG 6 (by decide)
              have e7 : vs 7 = .int .i64 (m : Nat) := hG 7 (by decide)
              have e8 : vs 8 = .pointer (some ⟨pb, po + m * 4, none⟩) := hG 8 (by decide)
              have e9 : vs 9 = .agg #[.int .i64 p.table, .slice PA p.key.length PC, .bool p.gone, .slice PB p.val.length PD] := hG 9 (by decide)
              have e10 : vs 10 = .agg #[.int .i64 x.table, .slice XA x.key.length XC, .bool x.gone, .slice XB x.val.length XD] := hG 10 (by decide)
              have e11 : vs 11 = .bool false := hG 11 (by decide)
              have e12 : vs 12 = .bool true := hG 12 (by decide)
              have e13 : vs 13 = .bool true := hG 13 (by decide)
              simp only [putAll, e0, e1, e2, e3, e4, e5, e6, e7, e8, e9, e10, e11, e12, e13]
              clear hG e0 e1 e2 e3 e4 e5 e6 e7 e8 e9 e10 e11 e12 e13
              go_simp
              go_wp2_with fail
              go_roundw
              case rel => exact ⟨i + 1, _, rfl, by go_num, by omega, HB, q3.trans (hb.mono q3.size)⟩
              case measure => simp [intOf]; omega
      · obtain hin : i = d.writes.length := by omega
        rw [hin] at hbest
        have dge : decide ((i : Int) < (d.writes.length : Int)) = false := decide_eq_false (by omega)
        have dge2 : ((i : Int) < (d.writes.length : Int)) = False := eq_false (by omega)
        clear hge hil hin
        rcases hbest.out.lt with hneg | ⟨n, hn, hni⟩
        · subst hneg
          have hj := hbest.out.nothing (by have := hL.out; omega)
          have HE := Lib.hid (show (lastW d.writes).take j = lastW d.writes by rw [hj, List.take_length])
          have HJ := Lib.hid hj
          clear hbest hj
          go_wp2_with fail
          go_ret
          rw [WsEnd, HK.out, ← HJ.out]
          refine ⟨_, _, rfl, ?_, q0.trans (q1.mono q0.size)⟩
          have hO2 := hO.below q1
          rw [HE.out] at hO2
          exact hO2.to (by omega) (by omega)
        · subst hn
          obtain ⟨hjl, hfx⟩ := hbest.out.found (by have := hL.out; omega)
          have hnl : n < d.writes.length := by omega
          have hnx : d.writes[n] = (lastW d.writes)[j] := by rw [List.getElem?_eq_getElem hnl] at hfx; injection hfx
          have htk := Lib.hid (show (lastW d.writes).take (j + 1) = (lastW d.writes).take j ++ [d.writes[n]] by rw [List.take_succ_eq_append_getElem hjl, hnx])
          obtain ⟨hm1, hm2, hm3, hm4, _⟩ := hsm.out _ (List.getElem_mem hnl)
          obtain ⟨ab, ao, YA, YC, YB, YD, rfl, hyb0, y0, y1, y2, y3, hyk, hyv, hyt⟩ := (hw.below (q0.trans (q1.mono q0.size))).wr n hnl
          obtain ⟨y, ey⟩ : ∃ y, y = d.writes[n] := ⟨_, rfl⟩
          obtain ⟨xs, exs⟩ : ∃ xs, xs = (lastW d.writes).take j := ⟨_, rfl⟩
          have hxl : xs.length = j := by rw [exs, List.length_take]; omega
          rw [← ey] at y0 y1 y2 y3 hyk hyv hyt htk hm3 hm4
          rw [← exs] at hO htk
          have hyw : RdWr S wr (.agg #[.int .i64 y.table, .slice YA y.key.length YC, .bool y.gone, .slice YB y.val.length YD]) y := ⟨YA, YC, YB, YD, rfl, hyk, hyv, hyt⟩
          have hjL2 : j + 1 ≤ L := by have := hL.out; omega
          replace hxl := Lib.hid hxl
          have dneg : decide ((n : Int) < 0) = false := decide_eq_false (by omega)
          clear ey exs hbest hfx hnx hm1 hm2 hyk hyv hyb0 hjl
          go_wp2_with fail
          refine (rWrite_any wr hyw (by omega) (by omega)).mono ?_
          rintro e w3 ⟨v2, rfl, ⟨ka, kc, va2, vc, rfl, hk2, hv2, ht2⟩, hb3⟩
          have q3 := q1.trans (hb3.mono q1.size)
          have hO3 := hO.below q3
          have hR : Elt.wr.R (fun k => wr.heap.size ≤ k ∧ k < w3.heap.size) w3 y (wrC y (.slice ka y.key.length kc) (.slice va2 y.val.length vc)) := ⟨_, _, rfl, hk2, hv2, ht2⟩
          have hob : ∀ k, Value.ownBlock (.slice ad j ko) = some k → w.heap.size + 1 ≤ k ∧ k < w1.heap.size := fun k hk => hO.block_lt k hk
          have hz1 := q1.size
          have hz3 := hb3.size
          clear y0 y1 y2 y3 hyw b0
          go_wp2_with (first
            | (refine wpList_buildOne wrP rfl rfl rfl (us := wrC y (.slice ka y.key.length kc) (.slice va2 y.val.length vc)) rfl rfl (by decide) (by decide) ?_; intro w4 hb4 hrow)
            | (refine wpList_apvRow (E := Elt.wr) (n := j + 1) wrP rfl rfl rfl rfl (hO3.below hb4) hrow (Elt.below hR hb4) (fun k hk => ⟨by omega, Nat.lt_of_lt_of_le hk.2 hb4.size, fun e => by have := hob k e.symm; omega⟩) (by have := hb4.size; omega) (by have := hxl.out; omega) (by have := hxl.out; omega) ?_; intro ad' cap' w5 hO5 hg5 _)
            | fail)
          go_roundw
          case rel =>
            have q4 := q3.trans (hb4.mono q3.size)
            rw [← htk.out] at hO5
            refine ⟨j + 1, ad', cap', rfl, hjL2, hO5, ?_, ?_⟩
            · exact (bn1.below q4 bn1.lt).other hg5 fun e => by have := hob _ e; omega
            · exact (q0.trans (q4.mono q0.size)).grown hg5 (by have := q4.size; have := q0.size; omega) fun k hk => by have := hob k hk; omega
          case measure => simp [lenOf]; omega
end Go.Proofs.Ytjbdkhddnblieaa
namespace Go.Proofs.Ytjbdkhddnblieaa
open Go.RowKit Go.Shelf Go.Maps
def klP (p : Plc) : Lit := .string (keyBytes [.int .i64 p.table, .string p.key])
def valP (p : Plc) : Value := .agg #[.int .i64 p.table, .string (strOf p.key)]
theorem valP_inj {p q : Plc} (h : valP p = valP q) : p = q := by
  unfold valP at h
  injection h with h
  have h1 : (Value.int .i64 p.table) = .int .i64 q.table := by
    have := congrArg (fun a : Array Value => a[0]?) h
    simpa using this
  have h2 : (Value.string (strOf p.key)) = .string (strOf q.key) := by
    have := congrArg (fun a : Array Value => a[1]?) h
    simpa using this
  injection h1 with _ h1
  injection h2 with h2
  have h3 : p.key = q.key := by rw [← show (strOf p.key).toList = p.key by simp [strOf], h2]; simp [strOf]
  cases p; cases q; simp_all
def wfP (p : Plc) : Prop := W64 p.table ∧ p.key.length ≤ maxLen
theorem keyP_law : WideMaps.KeyLaw Try.prog 62 := deep_law_laid (by kernel_rfl) (m := 2) (by omega) (of_decide_eq_true (by kernel_rfl)) (by kernel_rfl) (by kernel_rfl)
theorem keyedP : Keyed Try.prog 62 := Keyed.of_law keyP_law
theorem cellsP : Try.prog.cellsOf 62 = 2 := by kernel_rfl
theorem cellsI : Try.prog.cellsOf 3 = 1 := by kernel_rfl
theorem cellsS : Try.prog.cellsOf 9 = 1 := by kernel_rfl
theorem wf_W64 {n : Int} (h : W64 n) : (Lit.int .i64 n).wf = true := by
  unfold W64 at h
  simp [Lit.wf, IntKind.min, IntKind.max, IntKind.signed, IntKind.bits]
  omega
theorem typesS : ∃ m, Try.prog.types.size = m + 1 := ⟨Try.prog.types.size - 1, by have : 0 < Try.prog.types.size := of_decide_eq_true (by kernel_rfl); omega⟩
theorem keyOf_plc {p : Plc} (h : wfP p) : keyOf Try.prog 62 (valP p) = some (klP p) := by
  have hkt : Try.prog.keyType 62 = true := by kernel_rfl
  obtain ⟨m, hm⟩ := typesS
  have hw := wf_W64 h.1
  have hk : (ByteArray.mk p.key.toArray).size ≤ maxLen := by rw [show (ByteArray.mk p.key.toArray).size = p.key.length from rfl]; exact h.2
  unfold keyOf
  simp only [Try.underlying62]
  rw [if_pos (by simp [hkt, valP, Value.formed, Try.underlying62, cellsP]), hm]
  unfold Program.keyLits
  simp only [Try.underlying62, valP, Value.cells]
  rw [if_pos (by simp [cellsP])]
  simp [Program.keyLits, cellsI, cellsS, Try.underlying3, Try.underlying9, hw, hk, klP, strOf]
set_option maxRecDepth 10000 in
theorem plc_of_key {v : Value} {l : Lit} (h : keyOf Try.prog 62 v = some l) : ∃ p, v = valP p ∧ l = klP p ∧ wfP p := by
  obtain ⟨m, hm⟩ := typesS
  unfold keyOf at h
  simp only [Try.underlying62] at h
  split at h
  · rename_i hf
    rw [hm] at h
    unfold Program.keyLits at h
    simp only [Try.underlying62] at h
    split at h
    · rename_i hc
      rw [Bool.and_eq_true] at hf
      obtain ⟨xs, rfl⟩ : ∃ xs, v = .agg xs := by
        cases v <;> simp [Value.formed, Try.underlying62] at hf
        exact ⟨_, rfl⟩
      have hl := hc.1
      rw [cellsP] at hl
      obtain ⟨xl⟩ := xs
      match xl, hl with
      | [c0, c1], _ =>
        simp only [Value.cells, Option.map_eq_some_iff] at h
        obtain ⟨ls, ⟨lls, h2, rfl⟩, rfl⟩ := h
        simp [Program.keyLits, cellsI, cellsS, Try.underlying3, Try.underlying9] at h2
        cases c0 <;> simp at h2
        rename_i a k n
        split at h2
        · rename_i ha
          obtain ⟨rfl, hw⟩ := ha
          cases c1 <;> simp at h2
          rename_i s
          split at h2
          · rename_i hs
            simp at h2
            subst h2
            refine ⟨⟨k, s.data.toList⟩, by simp [valP, strOf], by simp [klP], ?_, hs⟩
            simp [Lit.wf, IntKind.min, IntKind.max, IntKind.signed, IntKind.bits] at hw
            show W64 k
            unfold W64
            omega
          · simp at h2
        · simp at h2
    · cases h
  · cases h
theorem klP_inj {p q : Plc} (hp : wfP p) (hq : wfP q) (h : klP p = klP q) : p = q := valP_inj (keyP_law.inj (keyOf_plc hp) (h ▸ keyOf_plc hq))
end Go.Proofs.Ytjbdkhddnblieaa
namespace Go.Proofs.Ytjbdkhddnblieaa
open Go.RowKit Go.Shelf Go.Maps
attribute [local go_sem] Oper.semAt_some
def CollP {H : Type} (D0 : DataW H) (left : Lit → Bool) (ps : List Plc) : Prop := ps.Nodup ∧ (∀ p ∈ ps, wfP p) ∧ ∀ p, wfP p → (p ∈ ps ↔ (has D0 (klP p) = true ∧ left (klP p) = false))
def PlcOf {H : Type} (D0 : DataW H) (ps : List Plc) : Prop := ps.Nodup ∧ (∀ p ∈ ps, wfP p) ∧ (∀ p, wfP p → (p ∈ ps ↔ has D0 (klP p) = true)) ∧ ps.length ≤ Maps.size D0
theorem CollP.start {H : Type} (D0 : DataW H) : CollP D0 (has D0) [] := ⟨List.nodup_nil, ⟨(fun _ h => nomatch h), fun x _ => by cases has D0 (klP x) <;> simp⟩⟩
theorem CollP.step {H : Type} {D0 : DataW H} {left : Lit → Bool} {ps : List Plc} (h : CollP D0 left ps) {x : Plc} {y : DataW H} (hx : wfP x) (hlk : left (klP x) = true) (hat : ∀ zd, D0.atKey (klP x) zd = y) : CollP D0 (fun z => left z && !z.sameKey (klP x)) (ps ++ [x]) := by
  have hhas : has D0 (klP x) = true := has_true_of_atKey hat
  have hnew : x ∉ ps := fun hm => by have := ((h.2.2 x hx).1 hm).2; rw [hlk] at this; cases this
  refine ⟨List.nodup_append.2 ⟨h.1, by simp, fun a ha b hb => by simp at hb; subst hb; exact fun e => hnew (e ▸ ha)⟩, fun p hp => ?_, fun y hy => ?_⟩
  · rcases List.mem_append.1 hp with h1 | h1
    · exact h.2.1 p h1
    · simp at h1; exact h1 ▸ hx
  · by_cases e : y = x
    · subst e
      have hs : (klP y).sameKey (klP y) = true := by simp [klP, Lit.sameKey]
      simp [hhas, hs]
    · have hne : (klP y).sameKey (klP x) = false := sameKey_ne fun h1 => e (klP_inj hy hx h1)
      simp [h.2.2 y hy, e, hne]
theorem CollP.all {H : Type} {D0 : DataW H} {left : Lit → Bool} {ps : List Plc} (h : CollP D0 left ps) (hl : ∀ kl, left kl = false) (hs : ps.length ≤ Maps.size D0) : PlcOf D0 ps := ⟨h.1, h.2.1, fun p hp => by rw [h.2.2 p hp, hl]; simp, hs⟩
theorem grown_bel {W W' : World} (h : Below W.heap.size W W') : W.grownBy W' none := ⟨h.os, h.tape, h.output, h.size, fun k hk _ => h.block k hk⟩
section
variable {P : Program} {t : TypeId} {ops : Array Oper} {rest : List Oper} {o : Oper} {a : Act} {Q : Exit → Act → World → Prop} {w : World} {n : Nat}
theorem wp_opF {K K' : Act → World → Prop} (hd : ∀ c, o.op ≠ .defer c) (hK : ∀ a w, K a w → K' a w) (h : o.wp P a w K Q) : o.wpIn Fence.wide n P a w K' Q := by
  replace h := Oper.wp_mono hK h
  unfold Oper.wp at h
  unfold Oper.wpIn
  refine ⟨fun _ _ => trivial, ?_⟩
  rw [Oper.semAt_plain Fence.wide _ _ hd]
  generalize (execOp a.eval o).run P w = r at *
  cases r with
  | ok x w' =>
    cases x <;> simp only [Oper.upon, Oper.uponIn] at h ⊢ <;> first
      | exact h
      | exact h.elim
      | exact ⟨(fun h => by cases h), callsIn_wide.2 h⟩
      | exact ⟨(fun h => by cases h), fun c cs _ => let ⟨v, w', r, s⟩ := h c cs; ⟨v, w', r, stepsIn_wide.2 s⟩⟩
  | halt x w' => cases x <;> simp only [Oper.upon, Oper.uponIn] at h ⊢ <;> first | exact h | exact h.elim
theorem inF_boxNew {vs : List Value} (hz : (P.info? t).bind (·.zero) = some (.agg vs.toArray)) (ho : o.op = .alloc t) (hgd : Region.wanted o (yielded ops a.tmps) = true) (h : ∀ w', Below w.heap.size w w' → BoxN w' w.heap.size t vs → wpListIn Fence.wide n P ops Q rest (a.put o.dst (.pointer (some ⟨w.heap.size, 0, none⟩))) w') : wpListIn Fence.wide n P ops Q (o :: rest) a w :=
  BigFrame.wpListIn_want hgd fun K hK => wp_opF (K := K) (by rw [ho]; intro c h; cases h) (fun _ _ h => h) (wp_boxNew hz ho fun w' h1 h2 => hK _ _ (h w' h1 h2))
theorem inF_boxStore {vs us : List Value} {x y : Operand} {b : Nat} (hs : (P.info? t).map (·.size) = some us.length) (ho : o.op = .store t x y) (hd : o.dst = none) (hgd : Region.wanted o (yielded ops a.tmps) = true) (hx : a.eval x = .pointer (some ⟨b, 0, none⟩)) (hy : a.eval y = .agg us.toArray) (h1 : us.all (·.oneCell') = true) (hb : BoxN w b t vs) (hl : vs.length = us.length)
    (h : ∀ w', w.grownBy w' (some b) → BoxN w' b t us → wpListIn Fence.wide n P ops Q rest a w') : wpListIn Fence.wide n P ops Q (o :: rest) a w :=
  BigFrame.wpListIn_want hgd fun K hK => wp_opF (K := K) (by rw [ho]; intro c h; cases h) (fun _ _ h => h) (wp_boxStore hs ho hx hy h1 hb hl fun w' h3 h4 => hK _ _ (by rw [hd]; exact h w' h3 h4))
end
set_option maxRecDepth 100000 in
set_option maxHeartbeats 1000000 in
theorem keys1P_in {H : Type} (l Bm b nn : Nat) (D0 : DataW H) {R : Value → Option (DataW H × List MemPlace)} (J Jx : List Plc → World → Prop)
    (hY : ∀ pre x W, J pre W → pre.length < Maps.size D0 → YieldAt Fence.wide 1 Try.prog l #[valP x] W fun e W' =>
      (e = .returned (.bool true) ∧ J (pre ++ [x]) W' ∧ KeepsWalks W W') ∨ (e = .returned (.bool false) ∧ Jx (pre ++ [x]) W'))
    (W : World) (hJ : AbidesFrom W.heap.size J) (hm : W.cell? ⟨Bm, 0, none⟩ = some (.map (some b))) (hown : W.ownsMap Try.prog 62 R b nn D0) (h0 : J [] W) :
    CallsIn Fence.wide 2 Try.prog 53 #[.func (.yield l) #[] #[], .pointer (some ⟨Bm, 0, none⟩)] W fun e W' => (∃ v, e = .returned v) ∧
      ((∃ ps : List Plc, PlcOf D0 ps ∧ J ps W') ∨ (∃ pre : List Plc, True ∧ Jx pre W')) := by
  refine callsIn_of_wp Try.func53 rfl trivial ?_ rfl
  simp only [Try.ntmps53, List.size_toArray, List.length_cons, List.length_nil, Nat.reduceAdd, Nat.reduceSub, Array.replicate_succ, Array.replicate_zero, List.push_toArray, List.append_toArray, List.nil_append, List.cons_append]
  gi_wp2_with (first
    | (gi_at_range; refine wpListIn_range_own _ rfl _ 67 rfl 62 3 keyedP Try.underlying67 _ b nn _ rfl hown ?_; intro w0 hrg0 hg0 hs0)
    | gi_in)
  go_frame
  gi_loopw [3] (fun _ wr => ∃ (left : Lit → Bool) (cnt : Nat) (ps : List Plc), wr.ranges Try.prog 62 R b W.heap.size nn D0 left cnt ∧ ps.length + cnt ≤ Maps.size D0 ∧ CollP D0 left ps ∧ J ps wr)
    (fun _ wr => wr.rangeLeft b W.heap.size)
  case atStart =>
    exact ⟨_, _, [], hrg0, by simp, CollP.start D0, hJ [] W w0 none h0 hg0 (fun r e => by cases e)⟩
  case round =>
    obtain ⟨left, cnt, ps, hrg, hcs, hC, hJs⟩ := hrel
    gi_wp2_with (first
      | (gi_at_next; refine wpListIn_next_ranges _ rfl _ rfl 62 keyedP R valP id (fun key kl hk => by obtain ⟨x, hx, _⟩ := plc_of_key hk; exact ⟨x, hx⟩) (fun v _ _ => ⟨v, rfl⟩) b W.heap.size nn _ _ _ rfl hrg ?_ ?_)
      | gi_in)
    · intro hc0 hl0
      gi_wp2
      go_end0
      exact ⟨⟨_, rfl⟩, .inl ⟨ps, hC.all hl0 (by omega), hJs⟩⟩
    · intro x c kl yd yp w2 cnt2 hkey hlk hv hat hrg2 hlt hg2 hs2 hen
      obtain ⟨x', ex, rfl, hxw⟩ := plc_of_key hkey
      obtain rfl : x = x' := valP_inj ex
      have hJ2 : J ps w2 := hJ ps wr w2 (some W.heap.size) hJs hg2 (fun r e => by cases e; exact ⟨Nat.le_refl _, hrg.iter_walk⟩)
      clear hs2
      gi_wp2_with (first
        | (refine inF_boxNew (vs := [.int .i64 0, .string (strOf [])]) (by kernel_rfl) rfl rfl ?_; intro w3 hb3 hB3)
        | (refine inF_boxStore (us := [.int .i64 x.table, .string (strOf x.key)]) (by kernel_rfl) rfl rfl rfl rfl rfl rfl hB3 rfl ?_; intro w4 hg4 hB4; have d0 := hB4.cell (i := 0) rfl; have d1 := hB4.cell (i := 1) rfl; have hg24 := World.grownBy.andThen (grown_bel hb3) hg4 (fun j e => .inl (by cases e; exact Nat.le_refl _)); have hJ4 : J ps w4 := hJ ps w2 w4 none hJ2 hg24 (fun r e => by cases e); obtain ⟨fn, tmps, assign, body, hy, hR⟩ : YieldAt Fence.wide 1 Try.prog l #[.agg #[.int .i64 x.table, .string (strOf x.key)]] w4 _ := hY ps x w4 hJ4 (by omega))
        | gi_in)
      refine hR.mono ?_
      have hrg4 := hrg2.kept hg24 (by simp) (by simp)
      have hC2 := hC.step hxw hlk hat
      clear hR
      rintro e w5 (⟨rfl, hJ5, hk5⟩ | ⟨rfl, hJx5⟩)
      · gi_wp2
        have hrg5 := hrg4.of_walks hk5
        go_roundw
        case rel => exact ⟨_, cnt2, ps ++ [x], hrg5, by simp; omega, hC2, hJ5⟩
        case measure => rw [hrg5.left_eq, hrg.left_eq]; exact hlt
      · gi_wp2
        refine bodyPost_ret (results_none rfl _ _ _) rfl ?_
        exact ⟨⟨_, rfl⟩, .inr ⟨ps ++ [x], trivial, hJx5⟩⟩
end Go.Proofs.Ytjbdkhddnblieaa
namespace Go.Proofs.Ytjbdkhddnblieaa
open Go.RowKit Go.Shelf Go.Maps
attribute [local go_sem] Oper.semAt_some
def cellsP2 (p : Plc) : List Value := [.int .i64 p.table, .string (strOf p.key)]
theorem plsP : LoP Try.prog 68 62 2 := ⟨⟨by kernel_rfl, by kernel_rfl⟩, .agg #[.int .i64 0, .string (strOf [])], 24, by kernel_rfl, rfl, by omega⟩
theorem keysP_stops {H : Type} (Bm b nn : Nat) (D0 : DataW H) {R : Value → Option (DataW H × List MemPlace)} (w : World) (hm : w.cell? ⟨Bm, 0, none⟩ = some (.map (some b))) (hown : w.ownsMap Try.prog 62 R b nn D0) :
    SeqStopsK Fence.wide 2 Try.prog 53 #[.pointer (some ⟨Bm, 0, none⟩)] (fun p => #[valP p]) KeepsWalks (PlcOf D0) (fun _ : List Plc => True) (Maps.size D0) w := fun l J Jx W hW hJ _ hY h0 => by
  have hown' : W.ownsMap Try.prog 62 R b nn D0 := by
    have hbl := hown.lt
    obtain ⟨es, clock, hb, Ft, hs, hD⟩ := hown
    exact ⟨es, clock, (hW.block b hbl).trans hb, Ft, hs, hD⟩
  exact keys1P_in l Bm b nn D0 J Jx hY W hJ ((hW.cell (p := ⟨Bm, 0, none⟩) (cell_lt hm)).trans hm) hown' h0
set_option maxRecDepth 100000 in
theorem keysP_any (w : World) (b : Nat) : Calls Try.prog 40 #[.map (some b)] w fun e w' => e = .returned (.func (.func 53) #[] #[.pointer (some ⟨w.heap.size, 0, none⟩)]) ∧ w' = w.alloc (.cells #[.map (some b)] 67) := by
  go_enter Try.func40, Try.ntmps40
  go_wp2
  go_ret
  exact ⟨rfl, rfl⟩
theorem inR_buildOne {P : Program} {T Te : TypeId} {ops : Array Oper} {rest : List Oper} {o : Oper} {a : Act} {Q : Exit → Act → World → Prop} {w : World} {l n m : Nat} {y : Operand} {v : Value} {us : List Value} (hP : LoP P T Te n) (ho : o.op = .buildSlice T 1 #[(0, y)]) (hgd : Region.wanted o (yielded ops a.tmps) = true) (hy : a.eval y = v) (hv : v.cells = us.toArray) (hl : us.length = n) (h0 : 0 < n) (hn : n ≤ 4096)
    (h : wpListIn (Fence.wide.inRound l) m P ops Q rest (a.put o.dst (.slice (some ⟨w.heap.size, 0, none⟩) 1 1)) (w.alloc (.cells us.toArray Te))) : wpListIn (Fence.wide.inRound l) m P ops Q (o :: rest) a w :=
  BigFrame.wpListIn_want hgd fun K hK => wp_opIn (K := K) (by rw [ho]; intro c h; cases h) (fun _ _ h => h) (wp_buildOne hP ho hy hv hl h0 hn (hK _ _ h))
def PlIn (w : World) (B : Nat) (pre : List Plc) (W : World) : Prop := (∃ v, Boxed W B 68 v ∧ W.ownsRow w.heap.size 62 2 v pre.length (pre.flatMap cellsP2) ∧ True) ∧ Below w.heap.size w W ∧ B < W.heap.size
set_option maxRecDepth 100000 in
set_option maxHeartbeats 4000000 in
theorem appendP_any (w : World) {H : Type} (Bm b nn : Nat) (D0 : DataW H) {R : Value → Option (DataW H × List MemPlace)} (hm : w.cell? ⟨Bm, 0, none⟩ = some (.map (some b))) (hown : w.ownsMap Try.prog 62 R b nn D0) (hN : Maps.size D0 ≤ 1000000) :
    Calls Try.prog 62 #[.slice none 0 0, .func (.func 53) #[] #[.pointer (some ⟨Bm, 0, none⟩)]] w fun e w' =>
      ∃ v ps, e = .returned v ∧ PlcOf D0 ps ∧ w'.ownsRow w.heap.size 62 2 v ps.length (ps.flatMap cellsP2) ∧ Below w.heap.size w w' := by
  refine calls_of_wp_marks Try.func62 rfl ?_
  simp only [Try.ntmps62, List.size_toArray, List.length_cons, List.length_nil, Nat.reduceAdd, Nat.reduceSub, Array.replicate_succ, Array.replicate_zero, List.push_toArray, List.append_toArray, List.nil_append, List.cons_append]
  have hst := keysP_stops Bm b nn D0 w hm hown
  obtain ⟨W0, hW0⟩ : ∃ W0, W0 = w.alloc (.cells #[.slice none 0 0] 68) := ⟨_, rfl⟩
  have z0 : W0.heap.size = w.heap.size + 1 := by rw [hW0]; simp
  have bx : Boxed W0 w.heap.size 68 (.slice none 0 0) := by rw [hW0]; exact Boxed.new w _ _
  have q : Below w.heap.size w W0 := by rw [hW0]; exact (Below.refl _ w).alloc (Nat.le_refl _) _
  go_upto_region 1 with (fail)
  rw [← hW0]
  clear hW0
  go_wp2_with fail
  refine wp_rangeFuncH (gf := 53) (lb := #[.pointer (some ⟨Bm, 0, none⟩)]) rfl (enters_of Try.func53 (by kernel_rfl) rfl)
      hst (fun h k => h.trans k) walksK_b q (fun _ => rfl)
      (PlIn w w.heap.size) (fun _ _ _ => False) ?hI ?hIx ⟨⟨_, bx, ⟨rfl, .inl ⟨rfl, rfl⟩⟩, trivial⟩, q, by omega⟩
      (fun (y : Plc) a' W => ∃ Bx, W0.heap.size ≤ Bx ∧ BoxN W Bx 62 (cellsP2 y) ∧ a' = { tmps := #[.slice none 0 0, .func (.func 53) #[] #[.pointer (some ⟨Bm, 0, none⟩)], .pointer (some ⟨w.heap.size, 0, none⟩), undef, .slice none 0 0, .pointer (some ⟨Bx, 0, none⟩), .func (.func 53) #[] #[.pointer (some ⟨Bm, 0, none⟩)], valP y, undef, undef, undef, undef, undef], defers := [] })
      ?hAx ?assign ?body ?done ?stop
  case hI =>
    refine OwnFrom.and ?_ (OwnFrom.and (below_ownN (Nat.le_refl _) (by omega)) (fun _ _ _ _ hs hg _ => Nat.lt_of_lt_of_le hs hg.size))
    exact (holdsRow_own w.heap.size w.heap.size 68 62 2 (fun s : List Plc => s.length) (fun s => s.flatMap cellsP2) (fun _ _ => True)).from _
  case hIx => exact fun _ _ _ _ _ h _ _ => h
  case hAx =>
    intro y a' _ X Y row hs hg hr
    obtain ⟨Bx, h1, h2, e⟩ := hs
    exact ⟨Bx, h1, boxN_own () X Y row h2 hg hr, e⟩
  case assign =>
    rintro l pre y W K ⟨⟨v, hv, hr, _⟩, hbw, hWS⟩ hK
    have eZ : (#[7] : Array Tmp).zip #[valP y] = #[(7, .agg #[.int .i64 y.table, .string (strOf y.key)])] := by kernel_rfl
    rw [eZ]
    simp only [List.foldl_toArray', List.foldl_cons, List.foldl_nil]
    go_simp
    gi_wp2_with (first | (refine inR_boxNew (vs := [.int .i64 0, .string (strOf [])]) (by kernel_rfl) rfl rfl ?_; intro wa hba hBa) | (refine inR_boxStore (us := [.int .i64 y.table, .string (strOf y.key)]) (by kernel_rfl) rfl rfl rfl rfl rfl rfl hBa rfl ?_; intro wb hgb hBb) | fail)
    have zz := hba.size
    have hbb := hba.grown hgb hba.size fun k e => by injection e with e; omega
    have zb := hbb.size
    exact hK _ _ ((keepsFrom_below hba).trans (keepsFrom_box hBa hgb)) ((KeepsWalks.of_grownBy (grown_bel hba) (fun j o e => nomatch e)).trans (KeepsWalks.of_grownBy hgb (fun j o e ho => by injection e with e; subst e; rw [show wa.heap[_]? = _ from hBa] at ho; cases ho; rfl))) ⟨⟨v, hv.kept (grown_bel hbb) (by simp), hr.kept (grown_bel hbb) (by cases v.ownBlock <;> simp), trivial⟩, hbw.trans (hbb.mono hbw.size), by omega⟩ ⟨W.heap.size, by omega, hBb, rfl⟩
  case body =>
    rintro l pre y a' W ⟨⟨v, hv, hr, _⟩, hbw, hWS⟩ ⟨Bx, hBx, hbx, rfl⟩ hlt
    obtain ⟨i, z, hi, hz, hsz, hby, hzs⟩ := plsP.all
    have hmul : (pre.length + 1) * i.bytes ≤ 1000000 * 4096 := Nat.mul_le_mul (by omega) hby
    have c0 := hv.cell
    have x0 := hbx.cell (i := 0) rfl
    have x1 := hbx.cell (i := 1) rfl
    have hqW := hbw.size
    gi_wp2_with (first
      | (refine inR_buildOne (us := [.int .i64 y.table, .string (strOf y.key)]) plsP rfl rfl rfl rfl rfl (by omega) (by omega) ?_)
      | (gi_at_builtin; refine wpListIn_append_own _ rfl _ _ 68 rfl w.heap.size 62 i z 2 i.bytes plsP.hT hi hz hsz rfl hzs (by decide) _ _ _ rfl (hr.alloc _) ⟨W.heap.size, 0, none⟩ 1 1 [.int .i64 y.table, .string (strOf y.key)] rfl rfl (cells_new W _ _) (by simp [Value.oneCell']) (by unfold maxLen; omega) (by omega) (by simp; omega) ?_; intro v' w3 hown' hg3 hnil3
         obtain ⟨hv1, hv2, hr2, hko, hbb⟩ := Boxed.appended hv (by decide) hr hbw.size (Nat.le_refl _) hown' hg3
         obtain ⟨g, cap, rfl⟩ := ownsRow_succ hown'
         have c1 := hv1.cell
         have f1 := hv1.frozen
         go_frame)
      | fail)
    have zz := hbb.size
    refine ⟨hko.from _, hko.walks, ⟨⟨_, hv2, ?_, trivial⟩, hbw.trans hbb, by omega⟩⟩
    rw [List.length_append, List.flatMap_append]
    simpa [cellsP2] using hr2
  case done =>
    rintro D ys W hD hys ⟨⟨v, hv, hr, _⟩, hbw, hWS⟩ hK
    have c0 := hv.cell
    go_wp2_with fail
    refine ⟨by simp, .inl ⟨_, _, rfl, run_takeDeferred hK, ?_⟩⟩
    exact ⟨_, results_tmp rfl _ _ _, v, ys, rfl, hys, ownsRow_putObj hr _ hK rfl, hbw.trans (belowK_b (w := w) (Nat.le_refl _) W D _ _ (by omega) hK rfl rfl)⟩
  case stop => exact fun _ _ _ _ _ _ h _ => h.elim
set_option maxRecDepth 100000 in
theorem collectP_any (w : World) {H : Type} (Bm b nn : Nat) (D0 : DataW H) {R : Value → Option (DataW H × List MemPlace)} (hm : w.cell? ⟨Bm, 0, none⟩ = some (.map (some b))) (hown : w.ownsMap Try.prog 62 R b nn D0) (hN : Maps.size D0 ≤ 1000000) :
    Calls Try.prog 51 #[.func (.func 53) #[] #[.pointer (some ⟨Bm, 0, none⟩)]] w fun e w' =>
      ∃ v ps, e = .returned v ∧ PlcOf D0 ps ∧ w'.ownsRow w.heap.size 62 2 v ps.length (ps.flatMap cellsP2) ∧ Below w.heap.size w w' := by
  have ha := appendP_any w Bm b nn D0 hm hown hN
  clear hm hown
  go_enter Try.func51, Try.ntmps51
  go_wp2_with fail
  refine ha.mono ?_
  rintro e w' ⟨v, ps, rfl, h1, h2, h3⟩
  clear ha
  obtain ⟨a, c, rfl⟩ : ∃ a c, v = .slice a ps.length c := by
    rcases h2.2 with ⟨rfl, h0⟩ | ⟨g, cap, cur, rfl, _⟩
    · rw [h0]; exact ⟨none, 0, rfl⟩
    · exact ⟨_, _, rfl⟩
  go_wp2_with fail
  go_ret
  exact ⟨_, ps, rfl, h1, h2, h3⟩
end Go.Proofs.Ytjbdkhddnblieaa
namespace Go.Proofs.Ytjbdkhddnblieaa
open Go.Shelf
set_option maxRecDepth 100000
def sortRen : Ren := ⟨fun | 6 => 52 | 15 => 64 | 14 => 63 | 28 => 78 | 29 => 79 | 20 => 70 | 21 => 71 | 22 => 72 | 23 => 73 | 24 => 74 | 25 => 75 | 26 => 76 | 27 => 77 | 46 => 82 | 47 => 83 | 48 => 84 | 49 => 85 | 50 => 86 | 57 => 88 | n => n, fun | 22 => 68 | 24 => 62 | 25 => 73 | 3 => 3 | 39 => 50 | 0 => 0 | 53 => 49 | 55 => 109 | 4 => 4 | 46 => 102 | 45 => 101 | 50 => 90 | 5 => 5 | 9 => 9 | 66 => 110 | 70 => 114 | 76 => 117 | 77 => 118 | n => n, fun n => n⟩
theorem sortLaid : SlLaysF0.n6 Try.prog sortRen where
  mixed := by kernel_rfl
  f6 := ⟨ "slices.SortFunc[[]banksman/delta.place,banksman/delta.place]", by decide, Try.func52.trans (congrArg some (by kernel_rfl))⟩
  f14 := ⟨ "slices.pdqsortCmpFunc[banksman/delta.place]", by decide, Try.func63.trans (congrArg some (by kernel_rfl))⟩
  f15 := Try.func64.trans (congrArg some (by kernel_rfl))
  f20 := ⟨ "slices.insertionSortCmpFunc[banksman/delta.place]", by decide, Try.func70.trans (congrArg some (by kernel_rfl))⟩
  f21 := ⟨ "slices.heapSortCmpFunc[banksman/delta.place]", by decide, Try.func71.trans (congrArg some (by kernel_rfl))⟩
  f22 := ⟨ "slices.breakPatternsCmpFunc[banksman/delta.place]", by decide, Try.func72.trans (congrArg some (by kernel_rfl))⟩
  f23 := ⟨ "slices.choosePivotCmpFunc[banksman/delta.place]", by decide, Try.func73.trans (congrArg some (by kernel_rfl))⟩
  f24 := ⟨ "slices.reverseRangeCmpFunc[banksman/delta.place]", by decide, Try.func74.trans (congrArg some (by kernel_rfl))⟩
  f25 := ⟨ "slices.partialInsertionSortCmpFunc[banksman/delta.place]", by decide, Try.func75.trans (congrArg some (by kernel_rfl))⟩
  f26 := ⟨ "slices.partitionEqualCmpFunc[banksman/delta.place]", by decide, Try.func76.trans (congrArg some (by kernel_rfl))⟩
  f27 := ⟨ "slices.partitionCmpFunc[banksman/delta.place]", by decide, Try.func77.trans (congrArg some (by kernel_rfl))⟩
  f28 := Try.func78.trans (congrArg some (by kernel_rfl))
  f29 := Try.func79.trans (congrArg some (by kernel_rfl))
  f46 := ⟨ "slices.siftDownCmpFunc[banksman/delta.place]", by decide, Try.func82.trans (congrArg some (by kernel_rfl))⟩
  f47 := Try.func83.trans (congrArg some (by kernel_rfl))
  f48 := Try.func84.trans (congrArg some (by kernel_rfl))
  f49 := ⟨ "slices.medianAdjacentCmpFunc[banksman/delta.place]", by decide, Try.func85.trans (congrArg some (by kernel_rfl))⟩
  f50 := ⟨ "slices.medianCmpFunc[banksman/delta.place]", by decide, Try.func86.trans (congrArg some (by kernel_rfl))⟩
  f57 := ⟨ "slices.order2CmpFunc[banksman/delta.place]", by decide, Try.func88.trans (congrArg some (by kernel_rfl))⟩
  t0 := Try.underlying0
  a0 := Try.isAgg0
  z0 := Try.sizeOf0
  v0 := Try.zeroValue0
  t3 := Try.underlying3
  a3 := Try.isAgg3
  z3 := Try.sizeOf3
  v3 := Try.zeroValue3
  t4 := Try.underlying4
  a4 := Try.isAgg4
  z4 := Try.sizeOf4
  v4 := Try.zeroValue4
  t5 := Try.underlying5
  a5 := Try.isAgg5
  z5 := Try.sizeOf5
  v5 := Try.zeroValue5
  t9 := Try.underlying9
  a9 := Try.isAgg9
  z9 := Try.sizeOf9
  v9 := Try.zeroValue9
  t22 := Try.underlying68
  a22 := Try.isAgg68
  z22 := Try.sizeOf68
  v22 := Try.zeroValue68
  t25 := Try.underlying73
  a25 := Try.isAgg73
  z25 := Try.sizeOf73
  v25 := Try.zeroValue73
  t39 := Try.underlying50
  a39 := Try.isAgg50
  z39 := Try.sizeOf50
  v39 := Try.zeroValue50
  t45 := Try.underlying101
  a45 := Try.isAgg101
  z45 := Try.sizeOf101
  v45 := Try.zeroValue101
  t46 := Try.underlying102
  a46 := Try.isAgg102
  z46 := Try.sizeOf102
  v46 := Try.zeroValue102
  t50 := Try.underlying90
  a50 := Try.isAgg90
  z50 := Try.sizeOf90
  v50 := Try.zeroValue90
  t53 := Try.underlying49
  a53 := Try.isAgg49
  z53 := Try.sizeOf49
  v53 := Try.zeroValue49
  t55 := Try.underlying109
  a55 := Try.isAgg109
  z55 := Try.sizeOf109
  v55 := Try.zeroValue109
  t66 := Try.underlying110
  a66 := Try.isAgg110
  z66 := Try.sizeOf110
  v66 := Try.zeroValue110
  t70 := Try.underlying114
  a70 := Try.isAgg114
  z70 := Try.sizeOf114
  v70 := Try.zeroValue114
  t76 := Try.underlying117
  a76 := Try.isAgg117
  z76 := Try.sizeOf117
  v76 := Try.zeroValue117
  t77 := Try.underlying118
  a77 := Try.isAgg118
  z77 := Try.sizeOf118
  v77 := Try.zeroValue118
end Go.Proofs.Ytjbdkhddnblieaa
namespace Go.Proofs.Ytjbdkhddnblieaa
open Go.RowKit
theorem u8_tri (x y : UInt8) : x < y ∨ x = y ∨ y < x := by
  rcases Nat.lt_trichotomy x.toNat y.toNat with h | h | h
  · exact .inl (UInt8.lt_iff_toNat_lt.2 h)
  · exact .inr (.inl (UInt8.toNat_inj.1 h))
  · exact .inr (.inr (UInt8.lt_iff_toNat_lt.2 h))
theorem cmp_lt : ∀ (a b : List UInt8), decide (Lib.compareBytes a b < 0) = ltB a b
  | [], [] => rfl
  | [], _ :: _ => rfl
  | _ :: _, [] => rfl
  | x :: a, y :: b => by
    have ih := cmp_lt a b
    unfold Lib.compareBytes ltB Op.bytesLess
    unfold ltB at ih
    rcases u8_tri x y with h | h | h
    · simp [h]
    · subst h
      simp [UInt8.lt_irrefl, ih]
    · have h1 : ¬ x < y := UInt8.lt_asymm h
      have h2 : x ≠ y := fun e => by subst e; exact UInt8.lt_irrefl _ h
      simp [h, h1, h2]
theorem cmp_eq : ∀ (a b : List UInt8), (Lib.compareBytes a b == 0) = decide (a = b)
  | [], [] => rfl
  | [], _ :: _ => rfl
  | _ :: _, [] => rfl
  | x :: a, y :: b => by
    have ih := cmp_eq a b
    unfold Lib.compareBytes
    rcases u8_tri x y with h | h | h
    · have h2 : x ≠ y := fun e => by subst e; exact UInt8.lt_irrefl _ h
      simp [h, h2]
    · subst h
      simp [UInt8.lt_irrefl, ih]
    · have h1 : ¬ x < y := UInt8.lt_asymm h
      have h2 : x ≠ y := fun e => by subst e; exact UInt8.lt_irrefl _ h
      simp [h, h1, h2]
theorem cmp_ge (a b : List UInt8) : decide (0 ≤ Lib.compareBytes a b) = !ltB a b := by
  rw [← cmp_lt]
  by_cases h : Lib.compareBytes a b < 0
  · simp [h]
  · simp [h]; omega
theorem run_bytes {P : Program} {S : Nat → Prop} {w : World} {v : Value} {xs : List UInt8} (h : RdS S w v xs) : (Extern.Bytes.bytesOf v).run P w = .ok ⟨xs.toArray⟩ w := by
  rcases h with ⟨a, c, rfl, _, rfl⟩ | ⟨b, off, cap, rfl, _, _, _, hc⟩
  · cases a with
    | none => rfl
    | some p => simp [Extern.Bytes.bytesOf, Extern.Bytes.loadBytes]; rfl
  · have := Lib.run_loadBytesX (P := P) (w := w) (xs.map fun b => (b.toNat : Int)) ⟨b, off, none⟩ .empty (fun j x hj => by
      rw [Addr.add_lit]
      refine hc j _ ?_
      rw [List.getElem?_map] at hj
      cases he : xs[j]? with
      | none => rw [he] at hj; cases hj
      | some y =>
        rw [he] at hj
        simp only [Option.map_some, Option.some.injEq] at hj
        subst hj
        simp [bv, he])
    rw [List.length_map] at this
    simp only [Extern.Bytes.bytesOf, this]
    have e : Lib.bytesOf (xs.map fun b => (b.toNat : Int)) = xs := by
      unfold Lib.bytesOf
      rw [List.map_map]
      exact (List.map_congr_left fun b _ => by simp).trans (List.map_id _)
    rw [e]
    show Result.ok (⟨#[] ++ xs.toArray⟩ : ByteArray) w = _
    rw [Array.empty_append]
theorem run_compare {P : Program} {S S2 : Nat → Prop} {w : World} {va vb : Value} {xs ys : List UInt8} (hx : RdS S w va xs) (hy : RdS S2 w vb ys) :
    (Extern.BytealgCompare.compare #[va, vb]).run P w = .ok (.int .i64 (Lib.compareBytes xs ys)) w := by
  change Sem.run P (do pure (goInt (Extern.BytealgCompare.cmp (← Extern.Bytes.bytesOf va) (← Extern.Bytes.bytesOf vb)))) w = _
  simp only [Sem.run_bind, Sem.run_pure, run_bytes hx, run_bytes hy, Result.andThen]
  rw [Lib.cmp_eq]
  rfl
set_option maxRecDepth 100000 in
set_option maxHeartbeats 1000000 in
theorem compare_any (w : World) {S S2 : Nat → Prop} {a a2 : Option Addr} {n c n2 c2 : Nat} {xs ys : List UInt8} (hx : RdS S w (.slice a n c) xs) (hy : RdS S2 w (.slice a2 n2 c2) ys) :
    Calls Try.prog 57 #[.slice a n c, .slice a2 n2 c2] w fun e w' => e = .returned (.int .i64 (Lib.compareBytes xs ys)) ∧ w = w' := by
  have hc : (callFunc 67 #[.slice a n c, .slice a2 n2 c2]).run Try.prog w = .ok (.value (.int .i64 (Lib.compareBytes xs ys))) w := by
    rw [run_callFunc_extern Try.func67 (by kernel_rfl) (by kernel_rfl) (by kernel_rfl) (e := Extern.BytealgCompare.compare) (by kernel_rfl), run_compare hx hy]
    rfl
  go_enter Try.func57, Try.ntmps57
  go_wp2_with fail
  go_ret
  exact ⟨rfl, rfl⟩
end Go.Proofs.Ytjbdkhddnblieaa
namespace Go.Proofs.Ytjbdkhddnblieaa
open Go.RowKit Go.Shelf Go.Lib Go.Sort
def cmpI (x y : Int) : Int := if x < y then -1 else if y < x then 1 else 0
def cmpP (x y : Plc) : Int := if x.table = y.table then Lib.compareBytes x.key y.key else cmpI x.table y.table
set_option maxRecDepth 100000 in
theorem cmpInt_any (w : World) (x y : Int) : Calls Try.prog 55 #[.int .i64 x, .int .i64 y] w fun e w' => e = .returned (.int .i64 (cmpI x y)) ∧ w' = w := by
  by_cases h : x < y
  · have d1 : decide (x < y) = true := decide_eq_true h
    have e : cmpI x y = -1 := if_pos h
    rw [e]
    clear h e
    go_enter Try.func55, Try.ntmps55
    go_wp2
    go_ret
    exact ⟨rfl, rfl⟩
  · have d1 : decide (x < y) = false := decide_eq_false h
    by_cases h2 : y < x
    · have d2 : decide (y < x) = true := decide_eq_true h2
      have e : cmpI x y = 1 := by unfold cmpI; rw [if_neg h, if_pos h2]
      rw [e]
      clear h h2 e
      go_enter Try.func55, Try.ntmps55
      go_wp2
      go_ret
      exact ⟨rfl, rfl⟩
    · have d2 : decide (y < x) = false := decide_eq_false h2
      have e : cmpI x y = 0 := by unfold cmpI; rw [if_neg h, if_neg h2]
      rw [e]
      clear h h2 e
      go_enter Try.func55, Try.ntmps55
      go_wp2
      go_ret
      exact ⟨rfl, rfl⟩
set_option maxRecDepth 100000 in
theorem cmpStr_any (w : World) (x y : List UInt8) : Calls Try.prog 56 #[.string (strOf x), .string (strOf y)] w fun e w' => e = .returned (.int .i64 (Lib.compareBytes x y)) ∧ w' = w := by
  have hc : (callFunc 80 #[.string (strOf x), .string (strOf y)]).run Try.prog w = .ok (.value (.int .i64 (Lib.compareBytes x y))) w := by
    rw [run_callFunc_extern Try.func80 (by kernel_rfl) (by kernel_rfl) (by kernel_rfl) (e := Extern.BytealgCompare.compare) (by kernel_rfl), run_compareString, show (strOf x).data.toList = x by simp [strOf], show (strOf y).data.toList = y by simp [strOf]]
    rfl
  go_enter Try.func56, Try.ntmps56
  go_wp2
  go_ret
  exact ⟨rfl, rfl⟩
set_option maxRecDepth 100000 in
theorem cmpOr_any (w : World) {b : Nat} {x y : Int} {t : TypeId} (h : w.heap[b]? = some (.cells #[.int .i64 x, .int .i64 y] t (0, 0))) : Calls Try.prog 54 #[.slice (some ⟨b, 0, none⟩) 2 2] w fun e w' => e = .returned (.int .i64 (if x = 0 then y else x)) ∧ w' = w := by
  have c0 : w.cell? ⟨b, 0, none⟩ = some (.int .i64 x) := by simp [World.cell?, h]
  have c1 : w.cell? ⟨b, 1, none⟩ = some (.int .i64 y) := by simp [World.cell?, h]
  clear h
  obtain ⟨r, hr⟩ : ∃ r, r = (if x = 0 then y else x) := ⟨_, rfl⟩
  rw [← hr]
  replace hr := Lib.hid hr
  go_enter Try.func54, Try.ntmps54
  go_upto_region 3 with (fail)
  go_loopw [8] (fun iv wr => ∃ i : Nat, iv = .int .i64 (i : Int) ∧ i ≤ 2 ∧ RowKit.Hid ((0 < i → x = 0) ∧ (1 < i → y = 0)) ∧ wr = w) (fun i _ => 2 - (intOf i).toNat)
  case atStart => exact ⟨0, rfl, by omega, Lib.hid ⟨fun h => absurd h (by omega), fun h => absurd h (by omega)⟩, rfl⟩
  case round =>
    obtain ⟨i, rfl, hil, hno, rfl⟩ := hrel
    rcases (show i = 0 ∨ i = 1 ∨ i = 2 by omega) with rfl | rfl | rfl
    · by_cases hx : x = 0
      · have d1 : (x == 0) = true := beq_iff_eq.2 hx
        have d2 : (x != 0) = false := bne_eq_false_iff_eq.2 hx
        have H := Lib.hid (show (0 < 0 + 1 → x = 0) ∧ (1 < 0 + 1 → y = 0) from ⟨fun _ => hx, fun h => absurd h (by omega)⟩)
        clear hx hno
        go_wp2_with fail
        go_roundw
        case rel => exact ⟨1, rfl, by omega, H, trivial⟩
        case measure => simp [intOf]
      · have d1 : (x == 0) = false := beq_eq_false_iff_ne.2 hx
        have d2 : (x != 0) = true := bne_iff_ne.2 hx
        have H := Lib.hid (show r = x from hr.out.trans (if_neg hx))
        clear hx hno
        go_wp2_with fail
        go_ret
        exact ⟨by rw [H.out]; rfl, rfl⟩
    · have hx := hno.out.1 (by omega)
      by_cases hy : y = 0
      · have d1 : (y == 0) = true := beq_iff_eq.2 hy
        have d2 : (y != 0) = false := bne_eq_false_iff_eq.2 hy
        have H := Lib.hid (show (0 < 1 + 1 → x = 0) ∧ (1 < 1 + 1 → y = 0) from ⟨fun _ => hx, fun _ => hy⟩)
        clear hx hy hno
        go_wp2_with fail
        go_roundw
        case rel => exact ⟨2, rfl, by omega, H, trivial⟩
        case measure => simp [intOf]
      · have d1 : (y == 0) = false := beq_eq_false_iff_ne.2 hy
        have d2 : (y != 0) = true := bne_iff_ne.2 hy
        have H := Lib.hid (show r = y from hr.out.trans (if_pos hx))
        clear hx hy hno
        go_wp2_with fail
        go_ret
        exact ⟨by rw [H.out]; rfl, rfl⟩
    · have H := Lib.hid (show r = 0 from hr.out.trans (by rw [if_pos (hno.out.1 (by omega))]; exact hno.out.2 (by omega)))
      clear hno
      go_wp2_with fail
      go_ret
      exact ⟨by rw [H.out]; rfl, rfl⟩
theorem cmpP_or (x y : Plc) : (if cmpI x.table y.table = 0 then Lib.compareBytes x.key y.key else cmpI x.table y.table) = cmpP x y := by
  unfold cmpP cmpI
  by_cases h : x.table = y.table
  · simp [h]
  · rw [if_neg h]
    by_cases h1 : x.table < y.table
    · simp [h1]
    · have h2 : y.table < x.table := by omega
      simp [h1, h2]
set_option maxRecDepth 100000 in
set_option maxHeartbeats 4000000 in
theorem compareP_any (w : World) (x y : Plc) : Calls Try.prog 41 #[.agg #[.int .i64 x.table, .string (strOf x.key)], .agg #[.int .i64 y.table, .string (strOf y.key)]] w fun e w' => e = .returned (.int .i64 (cmpP x y)) ∧ ∃ q os, w' = grow (w.drewN q) os := by
  obtain ⟨r, hr⟩ : ∃ r, r = cmpP x y := ⟨_, rfl⟩
  rw [← hr]
  replace hr := Lib.hid hr
  obtain ⟨W, hW, q, bn, bm, hsz⟩ := boxes2 w 62 62 [.int .i64 x.table, .string (strOf x.key)] [.int .i64 y.table, .string (strOf y.key)]
  clear hsz q
  go_enter Try.func41, Try.ntmps41
  go_upto_region 1 with (fail)
  rw [show (w.alloc (.cells #[.int .i64 x.table, .string (strOf x.key)] 62)).alloc (.cells #[.int .i64 y.table, .string (strOf y.key)] 62) = W from hW.symm]
  replace hW := Lib.hid hW
  have b0 := bn.cell (i := 0) rfl
  have b1 := bn.cell (i := 1) rfl
  have f0 := bm.cell (i := 0) rfl
  have f1 := bm.cell (i := 1) rfl
  refine wp_region_still_tail 10 (by kernel_rfl) (by kernel_rfl) ?_
  simp only [List.take_succ_cons, List.take_zero, List.drop_succ_cons, List.drop_zero]
  repeat still_step
  still_call (cmpInt_any _ _ _)
  repeat still_step
  still_call (cmpStr_any _ _ _)
  repeat still_step
  refine wpStill_nil ?_
  clear b0 b1 f0 f1 bn bm
  have hor := cmpP_or x y
  change wpList _ _ _ _ _ W.drew
  obtain ⟨W2, hW2⟩ : ∃ W2, W2 = W.drew := ⟨_, rfl⟩
  rw [← hW2]
  replace hW2 := Lib.hid hW2
  generalize cmpI x.table y.table = c1 at *
  generalize Lib.compareBytes x.key y.key = c2 at *
  replace hor := Lib.hid (hor.trans hr.out.symm)
  go_wp2_with fail
  refine (cmpOr_any (W2.alloc (.cells #[.int .i64 c1, .int .i64 c2] 3)) (x := c1) (y := c2) (t := 3) (by simp only [World.alloc, Array.getElem?_push_size])).mono ?_
  rintro e w3 ⟨rfl, rfl⟩
  rw [hor.out]
  go_wp2_with fail
  go_ret
  have hfin : W2.alloc (.cells #[.int .i64 c1, .int .i64 c2] 3) = grow (w.drewN 1) (#[.cells #[.int .i64 x.table, .string (strOf x.key)] 62 (0, 0)] ++ (#[.cells #[.int .i64 y.table, .string (strOf y.key)] 62 (0, 0)] ++ #[.cells #[.int .i64 c1, .int .i64 c2] 3 (0, 0)])) := by
    rw [hW2.out, hW.out]
    show (((w.drewN 1).alloc (.cells #[.int .i64 x.table, .string (strOf x.key)] 62)).alloc (.cells #[.int .i64 y.table, .string (strOf y.key)] 62)).alloc (.cells #[.int .i64 c1, .int .i64 c2] 3) = _
    rw [alloc_eq_grow, alloc_eq_grow, alloc_eq_grow, grow_grow, grow_grow]
  exact ⟨rfl, 1, _, hfin⟩
end Go.Proofs.Ytjbdkhddnblieaa
