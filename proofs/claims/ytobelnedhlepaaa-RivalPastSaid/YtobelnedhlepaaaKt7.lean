/-
  TEXTS OF ONE PROOF, merged: RpG, RpH, Rgd, RpI, RpJ, RvJ.
-/
import Derived.LoopIn
import Derived.LoopNIn
import Derived.RangeFuncKeeps
import Derived.ScopeJumps
import Derived.TacticsInMore
import Derived.WalkMore
import Derived.Test.YtobelnedhlepaaaKt6
namespace Go.Proofs.Ytobelnedhlepaaa
open Go.RowKit Go.Shelf
section
variable {P : Program} {o : Oper} {a : Act} {K : Act → World → Prop} {Q : Exit → Act → World → Prop} {w : World}
theorem wp_callVl {f : FuncId} {c : Operand} {xs : Array Operand} {ts : Array TypeId} {args : Array Value} (ho : o.op = .call { callee := .value c, args := xs, argTypes := ts }) (hv : a.eval c = .func (.func f) #[] #[]) (eg : ∀ args w, (callFunc f args).run P w = .ok (.enter f args) w)
    (hargs : xs.map a.eval = args) (hc : Calls P f args w (fun e w' => ∃ v, e = .returned v ∧ K (a.put o.dst v) w')) : o.wp P a w K Q := by
  have hrun : (execOp a.eval o).run P w = .ok (.enter f args) w := by
    subst hargs
    simp [execOp, ho, resolve, hv, invoke, Deferred.ofValue, eg]
  unfold Oper.wp
  rw [hrun, Oper.upon_enter]
  refine hc.mono (fun e w' h => ?_)
  obtain ⟨v, rfl, hk⟩ := h
  exact hk
end
def cmpZ (x y : Int) : Int := if x < y then -1 else if y < x then 1 else 0
set_option maxRecDepth 100000 in
set_option maxHeartbeats 4000000 in
theorem nanI_any (w : World) (x : Int) : Calls Try.prog 67 #[.int .i64 x] w fun e w' => e = .returned (.bool false) ∧ w' = w := by
  go_enter Try.func67, Try.ntmps67
  have d1 : (x != x) = false := by simp
  go_wp2_with fail
  go_ret
  exact ⟨by simp, rfl⟩
set_option maxRecDepth 100000 in
set_option maxHeartbeats 4000000 in
theorem cmpZ_any (w : World) (x y : Int) : Calls Try.prog 61 #[.int .i64 x, .int .i64 y] w fun e w' => e = .returned (.int .i64 (cmpZ x y)) ∧ w' = w := by
  go_enter Try.func61, Try.ntmps61
  go_wp2_with fail
  refine (nanI_any _ x).mono ?_
  rintro e w1 ⟨rfl, rfl⟩
  go_wp2_with fail
  refine (nanI_any _ y).mono ?_
  rintro e w1 ⟨rfl, rfl⟩
  rcases Int.lt_trichotomy x y with h | h | h
  · have H := Lib.hid (show cmpZ x y = -1 from if_pos h)
    have d1 : decide (x < y) = true := decide_eq_true h
    clear h
    go_wp2_with fail
    go_ret
    exact ⟨by first | (rw [H.out]; done) | (rw [H.out]; rfl), rfl⟩
  · have H := Lib.hid (show cmpZ x y = 0 by unfold cmpZ; rw [if_neg (by omega), if_neg (by omega)])
    have d1 : decide (x < y) = false := decide_eq_false (by omega)
    have d2 : decide (y < x) = false := decide_eq_false (by omega)
    clear h
    go_wp2_with fail
    go_ret
    exact ⟨by first | (rw [H.out]; done) | (rw [H.out]; rfl), rfl⟩
  · have H := Lib.hid (show cmpZ x y = 1 by unfold cmpZ; rw [if_neg (by omega), if_pos h])
    have d1 : decide (x < y) = false := decide_eq_false (by omega)
    have d2 : decide (y < x) = true := decide_eq_true h
    clear h
    go_wp2_with fail
    go_ret
    exact ⟨by first | (rw [H.out]; done) | (rw [H.out]; rfl), rfl⟩
set_option maxRecDepth 100000 in
set_option maxHeartbeats 4000000 in
theorem cmpLv_any (w : World) (x y : Int) (a b : Option Addr) (n c m d : Nat) : Calls Try.prog 60 #[.agg #[.int .i64 x, .slice a n c], .agg #[.int .i64 y, .slice b m d]] w fun e w' => e = .returned (.int .i64 (cmpZ x y)) ∧ Below w.heap.size w w' := by
  obtain ⟨W, hW, q, Bx, By, hsz⟩ := spBoxes2 w 24 24 [.int .i64 x, .slice a n c] [.int .i64 y, .slice b m d]
  clear hsz
  go_enter Try.func60, Try.ntmps60
  go_upto_region 1 with (fail)
  rw [show (w.alloc (.cells #[.int .i64 x, .slice a n c] 24)).alloc (.cells #[.int .i64 y, .slice b m d] 24) = W from hW.symm]
  clear hW
  have c0 := Bx.cell (i := 0) rfl
  have d0 := By.cell (i := 0) rfl
  go_wp2_with fail
  refine (cmpZ_any _ x y).mono ?_
  rintro e w1 ⟨rfl, rfl⟩
  clear c0 d0
  go_wp2_with fail
  go_ret
  exact ⟨rfl, q⟩
set_option maxRecDepth 100000 in
set_option maxHeartbeats 4000000 in
theorem minLv_any (w : World) {S : Nat → Prop} {a : Option Addr} {n c : Nat} {x : Lv} {lv : List Lv} (hl : RdL Elt.lv S w (.slice a n c) (x :: lv)) :
    Calls Try.prog 59 #[.slice a n c, .func (.func 60) #[] #[]] w fun e w' => ∃ b d, e = .returned (.agg #[.int .i64 (leastL x lv).snap, .slice b (leastL x lv).reads.length d]) ∧ W64 (leastL x lv).snap ∧ Below w.heap.size w w' := by
  obtain ⟨rfl, hnc, hcm⟩ := hl.len
  have hlm : (x :: lv).length ≤ 9223372036854775807 := by unfold maxLen at hcm; omega
  obtain ⟨W, hW, q, Bz, hsz⟩ := spBox w 24 [.int .i64 0, .slice none 0 0]
  have eF : ∀ args w, (callFunc 60 args).run Try.prog w = .ok (.enter 60 args) w := enters_of Try.func60 (by kernel_rfl) rfl
  clear hnc hcm
  obtain ⟨g1, o1, A1, A2, rfl, _, c0, c1, hx, hx64⟩ := (hl.below q).lv 0 (by simp)
  replace c0 : W.cell? ⟨g1, o1, none⟩ = some (.int .i64 x.snap) := by simpa using c0
  replace c1 : W.cell? ⟨g1, o1 + 1, none⟩ = some (.slice A1 x.reads.length A2) := by simpa using c1
  replace hx : RdL Elt.sp S W (.slice A1 x.reads.length A2) x.reads := hx
  replace hx64 : W64 x.snap := hx64
  obtain ⟨xs, exs⟩ : ∃ xs, xs = x :: lv := ⟨_, rfl⟩
  rw [← exs] at hl hlm
  rw [← exs]
  have h1 : 1 ≤ xs.length := by rw [exs]; simp
  obtain ⟨L, hL1, hLs, hLe⟩ : ∃ L : Nat → Lv, L 1 = x ∧ (∀ k (h : k < xs.length), 1 ≤ k → L (k + 1) = if xs[k].snap < (L k).snap then xs[k] else L k) ∧ L xs.length = leastL x lv := by
    refine ⟨fun k => leastL x ((xs.drop 1).take (k - 1)), by simp [leastL], fun k h hk => ?_, by rw [exs]; simp⟩
    subst exs
    obtain ⟨j, rfl⟩ : ∃ j, k = j + 1 := ⟨k - 1, by omega⟩
    have h2 : j < lv.length := by simpa using h
    simpa using leastL_take (m := x) h2
  replace hLs := Lib.hid hLs
  replace hLe := Lib.hid hLe
  replace hL1 := Lib.hid hL1
  clear exs
  go_enter Try.func59, Try.ntmps59
  go_upto_region 1 with (fail)
  rw [show w.alloc (.cells #[.int .i64 0, .slice none 0 0] 24) = W from hW.symm]
  clear hW
  have d1 : decide ((xs.length : Int) < 1) = false := decide_eq_false (by omega)
  go_upto_region 4 with (first
    | (refine wpList_boxNew (vs := [.int .i64 0, .slice none 0 0]) (by kernel_rfl) rfl rfl ?_; intro wa hba hBa)
    | (refine wpList_boxStore (us := [.int .i64 x.snap, .slice A1 x.reads.length A2]) (by kernel_rfl) rfl rfl rfl rfl rfl rfl hBa rfl ?_; intro W1 hgw hBm)
    | fail)
  have hbw := hba.grown hgw hba.size fun k hk => by injection hk with hk; omega
  replace Bz := Bz.below hbw Bz.lt
  replace q := q.trans (hbw.mono q.size)
  rw [hsz] at hBm
  clear hba hgw hBa d1 c0 c1 hx hbw
  go_upto_region 5 with (fail)
  go_loopw [6] (fun iv wr => ∃ (k : Nat) (m : Lv) (M1 : Option Addr) (M2 : Nat), iv = .int .i64 (k : Int) ∧ (1 ≤ k ∧ k ≤ xs.length) ∧ Hid (m = L k) ∧ BoxN wr (w.heap.size + 1) 24 [.int .i64 m.snap, .slice M1 m.reads.length M2] ∧ W64 m.snap ∧ BoxN wr w.heap.size 24 [.int .i64 0, .slice none 0 0] ∧ Below w.heap.size w wr)
    (fun i _ => xs.length - (intOf i).toNat)
  case atStart => exact ⟨1, x, A1, A2, rfl, ⟨Nat.le_refl _, h1⟩, Lib.hid hL1.out.symm, hBm, hx64, Bz, q⟩
  case round =>
    clear q Bz hBm
    obtain ⟨k, m, M1, M2, rfl, ⟨hk1, hkl⟩, hm, Bm, hm64, Bz, q⟩ := hrel
    rcases Nat.lt_or_ge k xs.length with hlt | hge
    · have dk : decide ((k : Int) < (xs.length : Int)) = true := decide_eq_true (by omega)
      obtain ⟨g2, o2, A1, A2, eg, _, c0, c1, _, hy64⟩ := (hl.below q).lv k hlt
      injection eg with eg
      injection eg with eg1 eg2 _
      subst eg1 eg2
      have hstep := Lib.hid (hLs.out k hlt hk1)
      obtain ⟨y, ey⟩ : ∃ y, y = xs[k] := ⟨_, rfl⟩
      rw [← ey] at c0 c1 hy64 hstep
      clear ey
      go_upto_region 7 with (fail)
      refine wp_region_gsg (by kernel_rfl) (by kernel_rfl) [sgEq (.func (.func 60) #[] #[]), sgEq (.slice (some ⟨g1, o1, none⟩) xs.length c), sgEq (.int .i64 (k : Int)), sgEq (.pointer (some ⟨g1, o1 + k * 2, none⟩)), sgEq (.agg #[.int .i64 y.snap, .slice A1 y.reads.length A2]), sgEq (.agg #[.int .i64 m.snap, .slice M1 m.reads.length M2]), sgEq (.int .i64 (cmpZ y.snap m.snap)), sgEq (.bool (decide (cmpZ y.snap m.snap < 0)))]
        ⟨?o0, ?o1, ?o2, ?o3, ?o4, ?o5, ?o6, ?o7, trivial⟩ ?fin
      case o0 =>
        refine GdOp.plain rfl (fun A vs w' hF hT hb hd => ?_)
        have e1 : A.eval (.tmp 1) = .func (.func 60) #[] #[] := hF 1 rfl
        exact BigFrame.wp_move _ rfl ⟨_, rfl, e1, Below.refl _ _⟩
      case o1 =>
        refine GdOp.plain rfl (fun A vs w' hF hT hb hd => ?_)
        have e1 : A.eval (.tmp 0) = .slice (some ⟨g1, o1, none⟩) xs.length c := hF 0 rfl
        exact BigFrame.wp_move _ rfl ⟨_, rfl, e1, Below.refl _ _⟩
      case o2 =>
        refine GdOp.plain rfl (fun A vs w' hF hT hb hd => ?_)
        have e1 : A.eval (.tmp 6) = .int .i64 (k : Int) := hF 6 rfl
        exact BigFrame.wp_move _ rfl ⟨_, rfl, e1, Below.refl _ _⟩
      case o3 =>
        refine GdOp.plain rfl (fun A vs w' hF hT hb hd => ?_)
        have e1 : A.eval (.tmp 21) = .slice (some ⟨g1, o1, none⟩) xs.length c := (hT 21 1 (by simp) rfl).trans (hd ⟨1, .data⟩ (by simp) rfl)
        have e2 : A.eval (.tmp 22) = .int .i64 (k : Int) := (hT 22 2 (by simp) rfl).trans (hd ⟨2, .data⟩ (by simp) rfl)
        exact wp_ixN (e := 24) rfl (by kernel_rfl) (by kernel_rfl) (e1) (e2) rfl (by omega) ⟨_, rfl, rfl, Below.refl _ _⟩
      case o4 =>
        refine GdOp.plain rfl (fun A vs w' hF hT hb hd => ?_)
        have e1 : A.eval (.tmp 23) = .pointer (some ⟨g1, o1 + k * 2, none⟩) := (hT 23 3 (by simp) rfl).trans (hd ⟨3, .data⟩ (by simp) rfl)
        exact wp_load2 lvS rfl e1 ((hb.cell (p := ⟨_, _, none⟩) (cell_lt c0)).trans c0) ((hb.cell (p := ⟨_, _, none⟩) (cell_lt c1)).trans c1) ⟨_, rfl, rfl, Below.refl _ _⟩
      case o5 =>
        refine GdOp.plain rfl (fun A vs w' hF hT hb hd => ?_)
        have e1 : A.eval (.tmp 5) = .pointer (some ⟨w.heap.size + 1, 0, none⟩) := hF 5 rfl
        exact wp_load2 lvS rfl e1 ((Bm.below hb Bm.lt).cell (i := 0) rfl) ((Bm.below hb Bm.lt).cell (i := 1) rfl) ⟨_, rfl, rfl, Below.refl _ _⟩
      case o6 =>
        refine GdOp.plain rfl (fun A vs w' hF hT hb hd => ?_)
        have e1 : A.eval (.tmp 20) = .func (.func 60) #[] #[] := (hT 20 0 (by simp) rfl).trans (hd ⟨0, .data⟩ (by simp) rfl)
        have e2 : A.eval (.tmp 24) = .agg #[.int .i64 y.snap, .slice A1 y.reads.length A2] := (hT 24 4 (by simp) rfl).trans (hd ⟨4, .data⟩ (by simp) rfl)
        have e3 : A.eval (.tmp 25) = .agg #[.int .i64 m.snap, .slice M1 m.reads.length M2] := (hT 25 5 (by simp) rfl).trans (hd ⟨5, .data⟩ (by simp) rfl)
        refine wp_callVl rfl e1 eF (args := #[.agg #[.int .i64 y.snap, .slice A1 y.reads.length A2], .agg #[.int .i64 m.snap, .slice M1 m.reads.length M2]]) (by simp only [List.map_toArray, List.map_cons, List.map_nil, e2, e3]) ((cmpLv_any w' y.snap m.snap A1 M1 _ A2 _ M2).mono ?_)
        rintro e w2 ⟨rfl, hb2⟩
        exact ⟨_, rfl, _, rfl, rfl, hb2⟩
      case o7 =>
        refine GdOp.plain rfl (fun A vs w' hF hT hb hd => ?_)
        have e1 : A.eval (.tmp 26) = .int .i64 (cmpZ y.snap m.snap) := (hT 26 6 (by simp) rfl).trans (hd ⟨6, .data⟩ (by simp) rfl)
        exact wp_lssI rfl e1 rfl ⟨_, rfl, rfl, Below.refl _ _⟩
      case fin =>
      intro vs9 W9 hb9 hG9
      have e0 : vs9 0 = .func (.func 60) #[] #[] := hG9 0 (by decide)
      have e1 : vs9 1 = .slice (some ⟨g1, o1, none⟩) xs.length c := hG9 1 (by decide)
      have e2 : vs9 2 = .int .i64 (k : Int) := hG9 2 (by decide)
      have e3 : vs9 3 = .pointer (some ⟨g1, o1 + k * 2, none⟩) := hG9 3 (by decide)
      have e4 : vs9 4 = .agg #[.int .i64 y.snap, .slice A1 y.reads.length A2] := hG9 4 (by decide)
      have e5 : vs9 5 = .agg #[.int .i64 m.snap, .slice M1 m.reads.length M2] := hG9 5 (by decide)
      have e6 : vs9 6 = .int .i64 (cmpZ y.snap m.snap) := hG9 6 (by decide)
      have e7 : vs9 7 = .bool (decide (cmpZ y.snap m.snap < 0)) := hG9 7 (by decide)
      simp only [putAll, e0, e1, e2, e3, e4, e5, e6, e7]
      clear hG9 e0 e1 e2 e3 e4 e5 e6 e7
      replace Bm := Bm.below hb9 Bm.lt
      replace Bz := Bz.below hb9 Bz.lt
      replace c0 := (hb9.cell (p := ⟨_, _, none⟩) (cell_lt c0)).trans c0
      replace c1 := (hb9.cell (p := ⟨_, _, none⟩) (cell_lt c1)).trans c1
      replace q := q.trans (hb9.mono q.size)
      clear hb9
      go_simp
      by_cases h : y.snap < m.snap
      · have hd : decide (cmpZ y.snap m.snap < 0) = true := by unfold cmpZ; rw [if_pos h]; rfl
        rw [hd]
        have hm2 := Lib.hid (show y = L (k + 1) by rw [hstep.out, if_pos (by rw [← hm.out]; exact h)])
        clear h hd hstep hm
        go_wp2_with (first | (refine wpList_boxStore (us := [.int .i64 y.snap, .slice A1 y.reads.length A2]) (by kernel_rfl) rfl rfl rfl rfl rfl rfl Bm rfl ?_; intro w2 hg2 Bm2) | fail)
        have q2 := q.grown hg2 q.size fun k hk => by injection hk with hk; have := Bz.lt; omega
        have Bz2 := Bz.other hg2 fun e => by injection e with e; omega
        go_roundw
        case rel => exact ⟨k + 1, y, A1, A2, by go_num, ⟨by omega, by omega⟩, hm2, Bm2, hy64, Bz2, q2⟩
        case measure => simp [intOf]; omega
      · have hd : decide (cmpZ y.snap m.snap < 0) = false := by unfold cmpZ; rw [if_neg h]; split <;> rfl
        rw [hd]
        have hm2 := Lib.hid (show m = L (k + 1) by rw [hstep.out, if_neg (by rw [← hm.out]; exact h)]; exact hm.out)
        clear h hd hstep hm
        go_wp2_with fail
        go_roundw
        case rel => exact ⟨k + 1, m, M1, M2, by go_num, ⟨by omega, by omega⟩, hm2, Bm, hm64, Bz, q⟩
        case measure => simp [intOf]; omega
    · obtain rfl : k = xs.length := by omega
      have dk : decide ((xs.length : Int) < (xs.length : Int)) = false := decide_eq_false (by omega)
      have hm2 := Lib.hid (show m = leastL x lv by rw [hm.out, hLe.out])
      clear hm
      have c0 := Bm.cell (i := 0) rfl
      have c1 := Bm.cell (i := 1) rfl
      go_wp2_with (first | (refine wpList_boxStore (us := [.int .i64 m.snap, .slice M1 m.reads.length M2]) (by kernel_rfl) rfl rfl rfl rfl rfl rfl Bz rfl ?_; intro w2 hg2 Bz2; clear c0 c1) | fail)
      have d0 := Bz2.cell (i := 0) rfl
      have d1 := Bz2.cell (i := 1) rfl
      obtain ⟨fs, hu, _⟩ := lvS.hu
      refine bodyPost_ret (v := .agg #[.int .i64 m.snap, .slice M1 m.reads.length M2]) (by simp [results, Try.results59, go_sem, loadVar, isAgg, run_underlying hu, run_sizeOf' lvS.hs, loadCellsFrom, Addr.add, d0, d1]) rfl ?_
      rw [← hm2.out]
      exact ⟨_, _, rfl, hm64, q.grown hg2 q.size fun k hk => by injection hk with hk; omega⟩
set_option maxRecDepth 100000 in
set_option maxHeartbeats 4000000 in
theorem cloneS_any (w : World) {n0 : Nat} {a : Option Addr} {n c : Nat} {l : List Sp} (hn0 : n0 ≤ w.heap.size) (hl : RdL Elt.sp (· < n0) w (.slice a n c) l) (hn : l.length ≤ 1000000) :
    Calls Try.prog 62 #[.slice a n c] w fun e w' => ∃ a' c', e = .returned (.slice a' l.length c') ∧ RowO Elt.sp 57 n0 w' (.slice a' l.length c') l ∧ (∀ g, (Value.slice a' l.length c').ownBlock = some g → w.heap.size ≤ g) ∧ Below w.heap.size w w' := by
  have he := fun (w : World) (ad : Option Addr) (n c : Nat) => Lib.run_eql_slice_nil (P := Try.prog) w 22 57 ad n c 0 0 spP.hT
  obtain ⟨rfl, _, _⟩ := hl.len
  cases a with
  | none =>
    obtain rfl : l = [] := by
      obtain ⟨_, _, e, _, _, h⟩ := hl
      injection e with e1 e2 _
      rcases h with h | ⟨b, off, h, _⟩
      · exact h
      · rw [h] at e1; cases e1
    go_enter Try.func62, Try.ntmps62
    go_wp2
    go_ret
    exact ⟨none, 0, rfl, ⟨[], RowQ.nil _ _ _, fun r hr => absurd hr (Nat.not_lt_zero _)⟩, fun g hg => by simp [Value.ownBlock] at hg, Below.refl _ _⟩
  | some p =>
    go_enter Try.func62, Try.ntmps62
    go_wp2_with (go_big_may; first
      | (refine wpList_buildZero (E := Elt.sp) spP rfl rfl ?_; intro w1 hb1 hO1)
      | (refine wpList_append_zeroO (E := Elt.sp) spP rfl rfl rfl (hO1.to (Nat.le_refl _) (Nat.zero_le _)) rfl (hl.below hb1) (Nat.le_trans hn0 hb1.size) hb1.size ?_ (by omega); intro ad' cap' w2 hO2 ho2 hb2)
      | fail)
    go_ret
    exact ⟨_, _, rfl, hO2, ho2, hb1.trans (hb2.mono hb1.size)⟩
set_option maxRecDepth 100000 in
set_option maxHeartbeats 4000000 in
theorem cloneW_any (w : World) {n0 : Nat} {a : Option Addr} {n c : Nat} {l : List Wr} (hn0 : n0 ≤ w.heap.size) (hl : RdL Elt.wr (· < n0) w (.slice a n c) l) (hn : l.length ≤ 1000000) :
    Calls Try.prog 63 #[.slice a n c] w fun e w' => ∃ a' c', e = .returned (.slice a' l.length c') ∧ RowO Elt.wr 59 n0 w' (.slice a' l.length c') l ∧ (∀ g, (Value.slice a' l.length c').ownBlock = some g → w.heap.size ≤ g) ∧ Below w.heap.size w w' := by
  have he := fun (w : World) (ad : Option Addr) (n c : Nat) => Lib.run_eql_slice_nil (P := Try.prog) w 25 59 ad n c 0 0 wrP.hT
  obtain ⟨rfl, _, _⟩ := hl.len
  cases a with
  | none =>
    obtain rfl : l = [] := by
      obtain ⟨_, _, e, _, _, h⟩ := hl
      injection e with e1 e2 _
      rcases h with h | ⟨b, off, h, _⟩
      · exact h
      · rw [h] at e1; cases e1
    go_enter Try.func63, Try.ntmps63
    go_wp2
    go_ret
    exact ⟨none, 0, rfl, ⟨[], RowQ.nil _ _ _, fun r hr => absurd hr (Nat.not_lt_zero _)⟩, fun g hg => by simp [Value.ownBlock] at hg, Below.refl _ _⟩
  | some p =>
    go_enter Try.func63, Try.ntmps63
    go_wp2_with (go_big_may; first
      | (refine wpList_buildZero (E := Elt.wr) wrP rfl rfl ?_; intro w1 hb1 hO1)
      | (refine wpList_append_zeroO (E := Elt.wr) wrP rfl rfl rfl (hO1.to (Nat.le_refl _) (Nat.zero_le _)) rfl (hl.below hb1) (Nat.le_trans hn0 hb1.size) hb1.size ?_ (by omega); intro ad' cap' w2 hO2 ho2 hb2)
      | fail)
    go_ret
    exact ⟨_, _, rfl, hO2, ho2, hb1.trans (hb2.mono hb1.size)⟩
end Go.Proofs.Ytobelnedhlepaaa
namespace Go.Proofs.Ytobelnedhlepaaa
open Go.RowKit Go.Shelf
def NwL {α : Type} (E : Elt α) (Te : TypeId) (n0 : Nat) (W X : World) (k : Value) (l : List α) : Prop := ∃ a c, k = .slice a l.length c ∧ RowO E Te n0 X (.slice a l.length c) l ∧ ∀ g, (Value.slice a l.length c).ownBlock = some g → W.heap.size ≤ g
theorem NwL.below {α : Type} {E : Elt α} {Te : TypeId} {n0 : Nat} {W X X' : World} {k : Value} {l : List α} (h : NwL E Te n0 W X k l) (hb : Below X.heap.size X X') : NwL E Te n0 W X' k l := by
  obtain ⟨a, c, e, h1, h2⟩ := h
  exact ⟨a, c, e, h1.below hb, h2⟩
theorem NwL.grown {α : Type} {E : Elt α} {Te : TypeId} {n0 : Nat} {W X X' : World} {k : Value} {l : List α} {g : Nat} (h : NwL E Te n0 W X k l) (hb : X.grownBy X' (some g)) (hg : g < W.heap.size) (hn : n0 ≤ g) : NwL E Te n0 W X' k l := by
  obtain ⟨a, c, e, h1, h2⟩ := h
  refine ⟨a, c, e, h1.kept (fun j hj => hb.block j (h1.lt hj) fun e => ?_) (fun j hj hl => hb.block j hl fun e => ?_), h2⟩
  · injection e with e
    have := h2 j hj
    omega
  · injection e with e
    omega
def ApJ13 (n0 : Nat) (W : World) (pb : Nat) (x : Ps) (vs : List Value) : List Value → World → Prop
  | [], X => Below W.heap.size W X
  | [k], X => Below W.heap.size W X ∧ NwL Elt.sp 57 n0 W X k x.reads
  | [k, v], X => Below W.heap.size W X ∧ NwL Elt.sp 57 n0 W X k x.reads ∧ NwL Elt.wr 59 n0 W X v x.writes ∧ ∀ g, k.ownBlock = some g → v.ownBlock ≠ some g
  | [k, v, _], X => W.grownBy X (some pb) ∧ BoxN X pb 50 (vs.set 3 k) ∧ NwL Elt.sp 57 n0 W X k x.reads ∧ NwL Elt.wr 59 n0 W X v x.writes ∧ ∀ g, k.ownBlock = some g → v.ownBlock ≠ some g
  | k :: v :: _ :: _ :: _, X => W.grownBy X (some pb) ∧ BoxN X pb 50 ((vs.set 3 k).set 4 v) ∧ NwL Elt.sp 57 n0 W X k x.reads ∧ NwL Elt.wr 59 n0 W X v x.writes ∧ ∀ g, k.ownBlock = some g → v.ownBlock ≠ some g
section
variable {n0 pb : Nat} {W : World} {x : Ps} {vs : List Value}
theorem ApJ13.below : ∀ (l : List Value) (X X' : World), ApJ13 n0 W pb x vs l X → Below X.heap.size X X' → ApJ13 n0 W pb x vs l X'
  | [], _, _, h, hb => Below.trans h (hb.mono (Below.size h))
  | [_], _, _, ⟨h, h1⟩, hb => ⟨h.trans (hb.mono h.size), h1.below hb⟩
  | [_, _], _, _, ⟨h, h1, h2⟩, hb => ⟨h.trans (hb.mono h.size), h1.below hb, h2.1.below hb, h2.2⟩
  | [_, _, _], _, _, ⟨h, h0, h1, h2⟩, hb => ⟨grJ h hb, h0.below hb h0.lt, h1.below hb, h2.1.below hb, h2.2⟩
  | _ :: _ :: _ :: _ :: _, _, _, ⟨h, h0, h1, h2⟩, hb => ⟨grJ h hb, h0.below hb h0.lt, h1.below hb, h2.1.below hb, h2.2⟩
theorem ApJ13.early {l : List Value} {X : World} (h : ApJ13 n0 W pb x vs l X) (hl : l.length ≤ 2) : Below W.heap.size W X := by
  match l, hl, h with
  | [], _, h => exact h
  | [_], _, h => exact h.1
  | [_, _], _, h => exact h.1
end
theorem grT {A B C : World} {r : Option Nat} (h : A.grownBy B r) (k : B.grownBy C r) : A.grownBy C r := ⟨k.os.trans h.os, k.tape.trans h.tape, k.output.trans h.output, Nat.le_trans h.size k.size, fun j hj hn => (k.block j (Nat.lt_of_lt_of_le hj h.size) hn).trans (h.block j hj hn)⟩
set_option maxRecDepth 100000 in
set_option maxHeartbeats 16000000 in
theorem pAlone_any (w : World) {S : Nat → Prop} {v : Value} {x : Ps} (hx : RdPs S w v x) (hsm : smP x) :
    Calls Try.prog 51 #[v] w (P1End w x) := by
  replace hx := hx.fit.weak fun _ h => h.2
  obtain ⟨a1, a2, a3, a4, rfl, hxr, hxw, h64⟩ := hx
  have hl1 : x.reads.length ≤ 1000000 := hsm.1.1
  have hl2 : x.writes.length ≤ 1000000 := hsm.2.1
  obtain ⟨W, hW, q, Bp, Bz, hsz⟩ := spBoxes2 w 50 50 [.int .i64 x.snap, .int .i64 x.stamp, .bool x.held, .slice a1 x.reads.length a2, .slice a3 x.writes.length a4, .bool x.out] [.int .i64 0, .int .i64 0, .bool false, .slice none 0 0, .slice none 0 0, .bool false]
  have eS : ∀ args w, (callFunc 62 args).run Try.prog w = .ok (.enter 62 args) w := enters_of Try.func62 (by kernel_rfl) rfl
  have eW : ∀ args w, (callFunc 63 args).run Try.prog w = .ok (.enter 63 args) w := enters_of Try.func63 (by kernel_rfl) rfl
  have eC : ∀ args w, (callFunc 53 args).run Try.prog w = .ok (.enter 53 args) w := enters_of Try.func53 (by kernel_rfl) rfl
  replace hxr := hxr.below q
  replace hxw := hxw.below q
  go_enter Try.func51, Try.ntmps51
  go_upto_region 1 with (fail)
  rw [show (w.alloc (.cells #[.int .i64 x.snap, .int .i64 x.stamp, .bool x.held, .slice a1 x.reads.length a2, .slice a3 x.writes.length a4, .bool x.out] 50)).alloc (.cells #[.int .i64 0, .int .i64 0, .bool false, .slice none 0 0, .slice none 0 0, .bool false] 50) = W from hW.symm]
  clear hW
  refine wp_region_lnl (K := fun A B => A.grownBy B (some w.heap.size)) (by kernel_rfl) (by kernel_rfl) [2, 5, 7, 9] (by kernel_rfl) [lEq (.pointer (some ⟨w.heap.size, 0 + 3, none⟩)), lEq (.slice a1 x.reads.length a2), lAny, lEq (.pointer (some ⟨w.heap.size, 0 + 4, none⟩)), lEq (.slice a3 x.writes.length a4), lAny, lEq (.pointer (some ⟨w.heap.size, 0 + 3, none⟩)), lAny, lEq (.pointer (some ⟨w.heap.size, 0 + 4, none⟩)), lAny] (ApJ13 w.heap.size W w.heap.size x [.int .i64 x.snap, .int .i64 x.stamp, .bool x.held, .slice a1 x.reads.length a2, .slice a3 x.writes.length a4, .bool x.out]) ApJ13.below (show Below W.heap.size W W from Below.refl _ _)
    ⟨?o0, ?o1, ?o2, ?o3, ?o4, ?o5, ?o6, ?o7, ?o8, ?o9, trivial⟩ ?fin
  case o0 =>
    refine LnOp.side rfl (by kernel_rfl) (fun A va w' k hF hT hk hJ hb hu hp hd => ?_)
    have e1 : A.eval (.tmp 1) = .pointer (some ⟨w.heap.size, 0, none⟩) := hF 1 rfl
    exact wp_fieldN psS rfl (e1) (by omega) ⟨_, rfl, rfl, Below.refl _ _⟩
  case o1 =>
    refine LnOp.side rfl (by kernel_rfl) (fun A va w' k hF hT hk hJ hb hu hp hd => ?_)
    have e1 : A.eval (.tmp 7) = .pointer (some ⟨w.heap.size, 0 + 3, none⟩) := (hT 7 0 (by simp) rfl).trans (hd ⟨0, .data⟩ (by simp) rfl rfl)
    exact wp_ld_slice (e := 57) rfl (e1) (by kernel_rfl) (((Bp.below (hJ.early (by have := hb 2 7 rfl (by kernel_rfl); simp only [List.length_map, List.length_take]; omega)) Bp.lt)).cell (i := 3) rfl) ⟨_, rfl, rfl, Below.refl _ _⟩
  case o2 =>
    refine LnOp.line 0 rfl rfl (fun A va w' hF hT hJ hu hd => ?_)
    have e1 : A.eval (.tmp 8) = .slice a1 x.reads.length a2 := (hT 8 1 (by simp) rfl).trans (hd ⟨1, .data⟩ (by simp) rfl rfl)
    have hJ0 : Below W.heap.size W w' := hJ
    refine wp_callFn rfl eS (args := #[.slice a1 x.reads.length a2]) (by simp only [List.map_toArray, List.map_cons, List.map_nil, e1]) ((cloneS_any w' (n0 := w.heap.size) (by have := hJ0.size; have := q.size; omega) (hxr.below hJ0) hsm.1.1).mono ?_)
    rintro e w2 ⟨k1, d1, rfl, hO, ho, hb2⟩
    exact ⟨_, rfl, _, rfl, ⟨hJ0.trans (hb2.mono hJ0.size), ⟨_, _, rfl, hO, fun g hg => Nat.le_trans hJ0.size (ho g hg)⟩⟩, grown_below' hb2 _⟩
  case o3 =>
    refine LnOp.side rfl (by kernel_rfl) (fun A va w' k hF hT hk hJ hb hu hp hd => ?_)
    have e1 : A.eval (.tmp 1) = .pointer (some ⟨w.heap.size, 0, none⟩) := hF 1 rfl
    exact wp_fieldN psS rfl (e1) (by omega) ⟨_, rfl, rfl, Below.refl _ _⟩
  case o4 =>
    refine LnOp.side rfl (by kernel_rfl) (fun A va w' k hF hT hk hJ hb hu hp hd => ?_)
    have e1 : A.eval (.tmp 10) = .pointer (some ⟨w.heap.size, 0 + 4, none⟩) := (hT 10 3 (by simp) rfl).trans (hd ⟨3, .data⟩ (by simp) rfl rfl)
    exact wp_ld_slice (e := 59) rfl (e1) (by kernel_rfl) (((Bp.below (hJ.early (by have := hb 2 7 rfl (by kernel_rfl); simp only [List.length_map, List.length_take]; omega)) Bp.lt)).cell (i := 4) rfl) ⟨_, rfl, rfl, Below.refl _ _⟩
  case o5 =>
    refine LnOp.line 1 rfl rfl (fun A va w' hF hT hJ hu hd => ?_)
    have e1 : A.eval (.tmp 11) = .slice a3 x.writes.length a4 := (hT 11 4 (by simp) rfl).trans (hd ⟨4, .data⟩ (by simp) rfl rfl)
    obtain ⟨hJ0, k1, d1, ek, hO1, ho1⟩ : ApJ13 w.heap.size W w.heap.size x [.int .i64 x.snap, .int .i64 x.stamp, .bool x.held, .slice a1 x.reads.length a2, .slice a3 x.writes.length a4, .bool x.out] [va 2] w' := hJ
    refine wp_callFn rfl eW (args := #[.slice a3 x.writes.length a4]) (by simp only [List.map_toArray, List.map_cons, List.map_nil, e1]) ((cloneW_any w' (n0 := w.heap.size) (by have := hJ0.size; have := q.size; omega) (hxw.below hJ0) hsm.2.1).mono ?_)
    rintro e w2 ⟨k2, d2, rfl, hO, ho, hb2⟩
    exact ⟨_, rfl, _, rfl, ⟨hJ0.trans (hb2.mono hJ0.size), ⟨_, _, ek, hO1.below hb2, ho1⟩, ⟨_, _, rfl, hO, fun g hg => Nat.le_trans hJ0.size (ho g hg)⟩, fun g hg e => by rw [ek] at hg; have := hO1.lt hg; have := ho g e; omega⟩, grown_below' hb2 _⟩
  case o6 =>
    refine LnOp.side rfl (by kernel_rfl) (fun A va w' k hF hT hk hJ hb hu hp hd => ?_)
    have e1 : A.eval (.tmp 1) = .pointer (some ⟨w.heap.size, 0, none⟩) := hF 1 rfl
    exact wp_fieldN psS rfl (e1) (by omega) ⟨_, rfl, rfl, Below.refl _ _⟩
  case o7 =>
    refine LnOp.line 2 rfl rfl (fun A va w' hF hT hJ hu hd => ?_)
    have e1 : A.eval (.tmp 13) = .pointer (some ⟨w.heap.size, 0 + 3, none⟩) := (hT 13 6 (by simp) rfl).trans (hd ⟨6, .data⟩ (by simp) rfl rfl)
    have x2 : A.eval (.tmp 9) = va 2 := hT 9 2 (by simp) rfl
    obtain ⟨hJ0, ⟨k1, d1, ek, hO1, ho1⟩, h2, hne⟩ : ApJ13 w.heap.size W w.heap.size x [.int .i64 x.snap, .int .i64 x.stamp, .bool x.held, .slice a1 x.reads.length a2, .slice a3 x.writes.length a4, .bool x.out] [va 2, va 5] w' := hJ
    refine wp_boxSet (j := 3) rfl (by kernel_rfl) e1 (x2.trans ek) rfl rfl (Bp.below hJ0 Bp.lt) (by simp) (fun w2 hg hB2 => ⟨_, rfl, ⟨grT (grown_below' hJ0 _) hg, by rw [ek]; exact hB2, NwL.grown ⟨k1, d1, ek, hO1, ho1⟩ hg (by omega) (Nat.le_refl _), h2.grown hg (by omega) (Nat.le_refl _), hne⟩, hg⟩)
  case o8 =>
    refine LnOp.side rfl (by kernel_rfl) (fun A va w' k hF hT hk hJ hb hu hp hd => ?_)
    have e1 : A.eval (.tmp 1) = .pointer (some ⟨w.heap.size, 0, none⟩) := hF 1 rfl
    exact wp_fieldN psS rfl (e1) (by omega) ⟨_, rfl, rfl, Below.refl _ _⟩
  case o9 =>
    refine LnOp.line 3 rfl rfl (fun A va w' hF hT hJ hu hd => ?_)
    have e1 : A.eval (.tmp 14) = .pointer (some ⟨w.heap.size, 0 + 4, none⟩) := (hT 14 8 (by simp) rfl).trans (hd ⟨8, .data⟩ (by simp) rfl rfl)
    have x2 : A.eval (.tmp 12) = va 5 := hT 12 5 (by simp) rfl
    obtain ⟨hJ0, hB0, h1, ⟨k2, d2, ek, hO2, ho2⟩, hne⟩ : ApJ13 w.heap.size W w.heap.size x [.int .i64 x.snap, .int .i64 x.stamp, .bool x.held, .slice a1 x.reads.length a2, .slice a3 x.writes.length a4, .bool x.out] [va 2, va 5, va 7] w' := hJ
    refine wp_boxSet (j := 4) rfl (by kernel_rfl) e1 (x2.trans ek) rfl rfl hB0 (by simp) (fun w2 hg hB2 => ⟨_, rfl, ⟨grT hJ0 hg, by rw [ek]; exact hB2, h1.grown hg (by omega) (Nat.le_refl _), NwL.grown ⟨k2, d2, ek, hO2, ho2⟩ hg (by omega) (Nat.le_refl _), hne⟩, hg⟩)
  case fin =>
  intro vs1 W1 hJ hG
  obtain ⟨hg1, Bp1, ⟨r1, c1, ek1, hR1, ho1⟩, ⟨r2, c2, ek2, hR2, ho2⟩, hne⟩ : ApJ13 w.heap.size W w.heap.size x [.int .i64 x.snap, .int .i64 x.stamp, .bool x.held, .slice a1 x.reads.length a2, .slice a3 x.writes.length a4, .bool x.out] [vs1 2, vs1 5, vs1 7, vs1 9] W1 := hJ
  rw [ek1, ek2] at Bp1 hne
  replace Bp1 : BoxN W1 w.heap.size 50 [.int .i64 x.snap, .int .i64 x.stamp, .bool x.held, .slice r1 x.reads.length c1, .slice r2 x.writes.length c2, .bool x.out] := Bp1
  clear hG
  simp only [putAll]
  clear ek1 ek2
  go_simp
  have hs1 := hg1.size
  have Bz1 := Bz.other hg1 (by intro e; injection e with e; omega)
  have q1 := q.grown hg1 q.size fun j hj => by injection hj with hj; omega
  obtain ⟨B, hB⟩ : ∃ B, B = W1.heap.size := ⟨_, rfl⟩
  have hg1' : ∀ g, (Value.slice r1 x.reads.length c1).ownBlock = some g → w.heap.size + 2 ≤ g ∧ g < B := fun g hg => ⟨by have := ho1 g hg; omega, by rw [hB]; exact hR1.lt hg⟩
  have hg2' : ∀ g, (Value.slice r2 x.writes.length c2).ownBlock = some g → w.heap.size + 2 ≤ g ∧ g < B := fun g hg => ⟨by have := ho2 g hg; omega, by rw [hB]; exact hR2.lt hg⟩
  have hBw : w.heap.size + 2 ≤ B := by omega
  have hBs : B ≤ W1.heap.size := by omega
  replace hR1 := hR1.start B
  clear hB hg1 ho1 ho2 q hxr hxw Bp Bz hsz hs1
  have c3 := Bp1.cell (i := 3) rfl
  go_upto_region 3 with (fail)
  clear c3
  go_loopw [18] (fun iv wr => ∃ (k : Nat), iv = .int .i64 (k : Int) ∧ k ≤ x.reads.length ∧ RowH Elt.sp 57 B w.heap.size wr (.slice r1 x.reads.length c1) x.reads k ∧ RowO Elt.wr 59 w.heap.size wr (.slice r2 x.writes.length c2) x.writes ∧ BoxN wr w.heap.size 50 [.int .i64 x.snap, .int .i64 x.stamp, .bool x.held, .slice r1 x.reads.length c1, .slice r2 x.writes.length c2, .bool x.out] ∧ BoxN wr (w.heap.size + 1) 50 [.int .i64 0, .int .i64 0, .bool false, .slice none 0 0, .slice none 0 0, .bool false] ∧ Below w.heap.size w wr ∧ B ≤ wr.heap.size) (fun i _ => x.reads.length - (intOf i).toNat)
  case atStart => exact ⟨0, rfl, Nat.zero_le _, hR1, hR2, Bp1, Bz1, q1, hBs⟩
  case round =>
    clear q1 hR1 hR2 Bp1 Bz1 hBs
    obtain ⟨m, rfl, hkl, hR, hR2, Bp, Bz, q, hBs⟩ := hrel
    rcases Nat.lt_or_ge m x.reads.length with hlt | hge
    · have dk : decide ((m : Int) < (x.reads.length : Int)) = true := decide_eq_true (by omega)
      obtain ⟨vs, hQ, hP⟩ := hR
      obtain ⟨g, rfl⟩ := hQ.place (by omega)
      have hgb := hg1' g rfl
      obtain ⟨us, ⟨ka, va, rfl, hka, hva, hw64⟩, hcl⟩ := hP m hlt
      have hvl := hQ.len
      replace hvl : vs.length = x.reads.length * 4 := hvl
      replace hcl : ∀ j u, (spC x.reads[m] ka va)[j]? = some u → vs[m * 4 + j]? = some u := hcl
      obtain ⟨hlo, hhi⟩ := hsm.1.2 _ (List.getElem_mem hlt)
      have hstep := Lib.hid (fun (vs' us : List Value) (w2 w3 : World) (hp : PtH Elt.sp B w.heap.size w2 x.reads m vs) => RowH.step (E := Elt.sp) (Te := 57) (B := B) (n0 := w.heap.size) (w := w2) (w' := w3) (v := .slice (some ⟨g, 0, none⟩) x.reads.length c1) (xs := x.reads) (vs := vs) (vs' := vs') (us := us) hlt hp)
      obtain ⟨s, es⟩ : ∃ s, s = x.reads[m] := ⟨_, rfl⟩
      rw [← es] at hka hva hw64 hlo hhi hcl hstep
      clear es
      obtain ⟨KA, KC, rfl, _, _⟩ := hka.shape
      obtain ⟨VA, VC, rfl, _, _⟩ := hva.shape
      have c0 : wr.cell? ⟨g, m * 4, none⟩ = some (.int .i64 s.table) := hQ.cell (g := g) rfl (hcl 0 _ rfl)
      have c1 : wr.cell? ⟨g, m * 4 + 1, none⟩ = some (.slice KA s.lo.length KC) := hQ.cell (g := g) rfl (hcl 1 _ rfl)
      have c2 : wr.cell? ⟨g, m * 4 + 2, none⟩ = some (.slice VA s.hi.length VC) := hQ.cell (g := g) rfl (hcl 2 _ rfl)
      have c3 : wr.cell? ⟨g, m * 4 + 3, none⟩ = some (.bool s.isOpen) := hQ.cell (g := g) rfl (hcl 3 _ rfl)
      have hlk : m * 4 + 3 < vs.length := by omega
      replace hvl := Lib.hid hvl
      go_upto_region 5 with (first | (refine wpList_boxNew (vs := [.int .i64 0, .slice none 0 0, .slice none 0 0, .bool false]) (by kernel_rfl) rfl rfl ?_; intro wa hba hBa) | (refine wpList_boxStore (us := [.int .i64 s.table, .slice KA s.lo.length KC, .slice VA s.hi.length VC, .bool s.isOpen]) (by kernel_rfl) rfl rfl rfl rfl rfl rfl hBa rfl ?_; intro W2 hgw Bx) | fail)
      try go_simp
      have hbw := hba.grown hgw hba.size fun k hk => by injection hk with hk; omega
      clear c0 c1 c2 c3 hba hBa hgw
      replace Bp := Bp.below hbw Bp.lt
      replace Bz := Bz.below hbw Bz.lt
      replace hQ := hQ.below hbw
      replace hP := hP.keep (w' := W2) fun j _ hj => hbw.block j hj
      replace hka := hka.below hbw
      replace hva := hva.below hbw
      replace hR2 := hR2.below hbw
      have hsw := hbw.size
      replace q := q.trans (hbw.mono q.size)
      have hBlt := Bx.lt
      have hplt := Bp.lt
      clear hbw
      refine wp_region_lnl (K := fun A B => A.grownBy B (some g)) (by kernel_rfl) (by kernel_rfl) [8, 11, 14, 17] (by kernel_rfl) [lEq (.pointer (some ⟨w.heap.size, 0 + 3, none⟩)), lEq (.slice (some ⟨g, 0, none⟩) x.reads.length c1), lEq (.int .i64 (m : Int)), lEq (.pointer (some ⟨w.heap.size, 0 + 3, none⟩)), lEq (.slice (some ⟨g, 0, none⟩) x.reads.length c1), lEq (.int .i64 (m : Int)), lEq (.pointer (some ⟨wr.heap.size, 0 + 1, none⟩)), lEq (.slice KA s.lo.length KC), lAny, lEq (.pointer (some ⟨wr.heap.size, 0 + 2, none⟩)), lEq (.slice VA s.hi.length VC), lAny, lEq (.pointer (some ⟨g, 0 + m * 4, none⟩)), lEq (.pointer (some ⟨g, 0 + m * 4 + 1, none⟩)), lAny, lEq (.pointer (some ⟨g, 0 + m * 4, none⟩)), lEq (.pointer (some ⟨g, 0 + m * 4 + 2, none⟩)), lAny] (CpJ 57 4 x.reads.length W2 g (.slice (some ⟨g, 0, none⟩) x.reads.length c1) vs (0 + m * 4 + 1) (0 + m * 4 + 2) s.lo s.hi) CpJ.below (show Below W2.heap.size W2 W2 from Below.refl _ _)
        ⟨?o0, ?o1, ?o2, ?o3, ?o4, ?o5, ?o6, ?o7, ?o8, ?o9, ?o10, ?o11, ?o12, ?o13, ?o14, ?o15, ?o16, ?o17, trivial⟩ ?fin
      case o0 =>
        refine LnOp.side rfl (by kernel_rfl) (fun A va w' k hF hT hk hJ hb hu hp hd => ?_)
        have e1 : A.eval (.tmp 1) = .pointer (some ⟨w.heap.size, 0, none⟩) := hF 1 rfl
        exact wp_fieldN psS rfl (e1) (by omega) ⟨_, rfl, rfl, Below.refl _ _⟩
      case o1 =>
        refine LnOp.side rfl (by kernel_rfl) (fun A va w' k hF hT hk hJ hb hu hp hd => ?_)
        have e1 : A.eval (.tmp 23) = .pointer (some ⟨w.heap.size, 0 + 3, none⟩) := (hT 23 0 (by simp) rfl).trans (hd ⟨0, .data⟩ (by simp) rfl rfl)
        exact wp_ld_slice (e := 57) rfl (e1) (by kernel_rfl) ((Bp.other (CpJ.grown hJ) (by intro e; injection e with e; omega)).cell (i := 3) rfl) ⟨_, rfl, rfl, Below.refl _ _⟩
      case o2 =>
        refine LnOp.side rfl (by kernel_rfl) (fun A va w' k hF hT hk hJ hb hu hp hd => ?_)
        have e1 : A.eval (.tmp 3) = .int .i64 (m : Int) := hF 3 rfl
        exact BigFrame.wp_move _ rfl ⟨_, rfl, e1, Below.refl _ _⟩
      case o3 =>
        refine LnOp.side rfl (by kernel_rfl) (fun A va w' k hF hT hk hJ hb hu hp hd => ?_)
        have e1 : A.eval (.tmp 1) = .pointer (some ⟨w.heap.size, 0, none⟩) := hF 1 rfl
        exact wp_fieldN psS rfl (e1) (by omega) ⟨_, rfl, rfl, Below.refl _ _⟩
      case o4 =>
        refine LnOp.side rfl (by kernel_rfl) (fun A va w' k hF hT hk hJ hb hu hp hd => ?_)
        have e1 : A.eval (.tmp 26) = .pointer (some ⟨w.heap.size, 0 + 3, none⟩) := (hT 26 3 (by simp) rfl).trans (hd ⟨3, .data⟩ (by simp) rfl rfl)
        exact wp_ld_slice (e := 57) rfl (e1) (by kernel_rfl) ((Bp.other (CpJ.grown hJ) (by intro e; injection e with e; omega)).cell (i := 3) rfl) ⟨_, rfl, rfl, Below.refl _ _⟩
      case o5 =>
        refine LnOp.side rfl (by kernel_rfl) (fun A va w' k hF hT hk hJ hb hu hp hd => ?_)
        have e1 : A.eval (.tmp 3) = .int .i64 (m : Int) := hF 3 rfl
        exact BigFrame.wp_move _ rfl ⟨_, rfl, e1, Below.refl _ _⟩
      case o6 =>
        refine LnOp.side rfl (by kernel_rfl) (fun A va w' k hF hT hk hJ hb hu hp hd => ?_)
        have e1 : A.eval (.tmp 4) = .pointer (some ⟨wr.heap.size, 0, none⟩) := hF 4 rfl
        exact wp_fieldN spS rfl (e1) (by omega) ⟨_, rfl, rfl, Below.refl _ _⟩
      case o7 =>
        refine LnOp.side rfl (by kernel_rfl) (fun A va w' k hF hT hk hJ hb hu hp hd => ?_)
        have e1 : A.eval (.tmp 29) = .pointer (some ⟨wr.heap.size, 0 + 1, none⟩) := (hT 29 6 (by simp) rfl).trans (hd ⟨6, .data⟩ (by simp) rfl rfl)
        exact wp_ld_slice (e := 5) rfl (e1) (by kernel_rfl) ((Bx.other (CpJ.grown hJ) (by intro e; injection e with e; omega)).cell (i := 1) rfl) ⟨_, rfl, rfl, Below.refl _ _⟩
      case o8 =>
        refine LnOp.line 0 rfl rfl (fun A va w' hF hT hJ hu hd => ?_)
        have e1 : A.eval (.tmp 30) = .slice KA s.lo.length KC := (hT 30 7 (by simp) rfl).trans (hd ⟨7, .data⟩ (by simp) rfl rfl)
        have hJ0 : Below W2.heap.size W2 w' := hJ
        refine wp_callFn rfl eC (args := #[.slice KA s.lo.length KC]) (by simp only [List.map_toArray, List.map_cons, List.map_nil, e1]) ((clone_any w' (hka.below hJ0).rd (Nat.le_refl _) hlo).mono ?_)
        rintro e w2 ⟨ad', k2, c', rfl, hf'⟩
        obtain rfl := hf'.2.rdS.len.1
        exact ⟨_, rfl, _, rfl, ⟨hJ0.trans (hf'.1.mono hJ0.size), ⟨_, _, rfl, hf'.2.rdS.weak fun j hj => ⟨Nat.le_trans hJ0.size hj.1, hj.2⟩⟩⟩, grown_below' hf'.1 _⟩
      case o9 =>
        refine LnOp.side rfl (by kernel_rfl) (fun A va w' k hF hT hk hJ hb hu hp hd => ?_)
        have e1 : A.eval (.tmp 4) = .pointer (some ⟨wr.heap.size, 0, none⟩) := hF 4 rfl
        exact wp_fieldN spS rfl (e1) (by omega) ⟨_, rfl, rfl, Below.refl _ _⟩
      case o10 =>
        refine LnOp.side rfl (by kernel_rfl) (fun A va w' k hF hT hk hJ hb hu hp hd => ?_)
        have e1 : A.eval (.tmp 32) = .pointer (some ⟨wr.heap.size, 0 + 2, none⟩) := (hT 32 9 (by simp) rfl).trans (hd ⟨9, .data⟩ (by simp) rfl rfl)
        exact wp_ld_slice (e := 5) rfl (e1) (by kernel_rfl) ((Bx.other (CpJ.grown hJ) (by intro e; injection e with e; omega)).cell (i := 2) rfl) ⟨_, rfl, rfl, Below.refl _ _⟩
      case o11 =>
        refine LnOp.line 1 rfl rfl (fun A va w' hF hT hJ hu hd => ?_)
        have e1 : A.eval (.tmp 33) = .slice VA s.hi.length VC := (hT 33 10 (by simp) rfl).trans (hd ⟨10, .data⟩ (by simp) rfl rfl)
        obtain ⟨hJ0, h1⟩ : CpJ 57 4 x.reads.length W2 g (.slice (some ⟨g, 0, none⟩) x.reads.length c1) vs (0 + m * 4 + 1) (0 + m * 4 + 2) s.lo s.hi [va 8] w' := hJ
        refine wp_callFn rfl eC (args := #[.slice VA s.hi.length VC]) (by simp only [List.map_toArray, List.map_cons, List.map_nil, e1]) ((clone_any w' (hva.below hJ0).rd (Nat.le_refl _) hhi).mono ?_)
        rintro e w2 ⟨ad', k2, c', rfl, hf'⟩
        obtain rfl := hf'.2.rdS.len.1
        exact ⟨_, rfl, _, rfl, ⟨hJ0.trans (hf'.1.mono hJ0.size), h1.below hf'.1, ⟨_, _, rfl, hf'.2.rdS.weak fun j hj => ⟨Nat.le_trans hJ0.size hj.1, hj.2⟩⟩⟩, grown_below' hf'.1 _⟩
      case o12 =>
        refine LnOp.side rfl (by kernel_rfl) (fun A va w' k hF hT hk hJ hb hu hp hd => ?_)
        have e1 : A.eval (.tmp 24) = .slice (some ⟨g, 0, none⟩) x.reads.length c1 := (hT 24 1 (by simp) rfl).trans (hd ⟨1, .data⟩ (by simp) rfl rfl)
        have e2 : A.eval (.tmp 25) = .int .i64 (m : Int) := (hT 25 2 (by simp) rfl).trans (hd ⟨2, .data⟩ (by simp) rfl rfl)
        exact wp_ixN (e := 57) rfl (by kernel_rfl) (by kernel_rfl) (e1) (e2) rfl (by omega) ⟨_, rfl, rfl, Below.refl _ _⟩
      case o13 =>
        refine LnOp.side rfl (by kernel_rfl) (fun A va w' k hF hT hk hJ hb hu hp hd => ?_)
        have e1 : A.eval (.tmp 35) = .pointer (some ⟨g, 0 + m * 4, none⟩) := (hT 35 12 (by simp) rfl).trans (hd ⟨12, .data⟩ (by simp) rfl rfl)
        exact wp_fieldN spS rfl (e1) (by omega) ⟨_, rfl, rfl, Below.refl _ _⟩
      case o14 =>
        refine LnOp.line 2 rfl rfl (fun A va w' hF hT hJ hu hd => ?_)
        have e1 : A.eval (.tmp 36) = .pointer (some ⟨g, 0 + m * 4 + 1, none⟩) := (hT 36 13 (by simp) rfl).trans (hd ⟨13, .data⟩ (by simp) rfl rfl)
        have x2 : A.eval (.tmp 31) = va 8 := hT 31 8 (by simp) rfl
        obtain ⟨hJ0, h1, h2⟩ : CpJ 57 4 x.reads.length W2 g (.slice (some ⟨g, 0, none⟩) x.reads.length c1) vs (0 + m * 4 + 1) (0 + m * 4 + 2) s.lo s.hi [va 8, va 11] w' := hJ
        obtain ⟨k1, d1, ek, hr1⟩ := id h1
        refine wp_putC rfl (by kernel_rfl) e1 (x2.trans ek) (hQ.below hJ0) rfl (by omega) (fun w2 hg hq => ⟨_, rfl, ⟨grT (grown_below' hJ0 _) hg, by rw [ek]; exact hq, h1.grown hg (by omega), h2.grown hg (by omega)⟩, hg⟩)
      case o15 =>
        refine LnOp.side rfl (by kernel_rfl) (fun A va w' k hF hT hk hJ hb hu hp hd => ?_)
        have e1 : A.eval (.tmp 27) = .slice (some ⟨g, 0, none⟩) x.reads.length c1 := (hT 27 4 (by simp) rfl).trans (hd ⟨4, .data⟩ (by simp) rfl rfl)
        have e2 : A.eval (.tmp 28) = .int .i64 (m : Int) := (hT 28 5 (by simp) rfl).trans (hd ⟨5, .data⟩ (by simp) rfl rfl)
        exact wp_ixN (e := 57) rfl (by kernel_rfl) (by kernel_rfl) (e1) (e2) rfl (by omega) ⟨_, rfl, rfl, Below.refl _ _⟩
      case o16 =>
        refine LnOp.side rfl (by kernel_rfl) (fun A va w' k hF hT hk hJ hb hu hp hd => ?_)
        have e1 : A.eval (.tmp 37) = .pointer (some ⟨g, 0 + m * 4, none⟩) := (hT 37 15 (by simp) rfl).trans (hd ⟨15, .data⟩ (by simp) rfl rfl)
        exact wp_fieldN spS rfl (e1) (by omega) ⟨_, rfl, rfl, Below.refl _ _⟩
      case o17 =>
        refine LnOp.line 3 rfl rfl (fun A va w' hF hT hJ hu hd => ?_)
        have e1 : A.eval (.tmp 38) = .pointer (some ⟨g, 0 + m * 4 + 2, none⟩) := (hT 38 16 (by simp) rfl).trans (hd ⟨16, .data⟩ (by simp) rfl rfl)
        have x2 : A.eval (.tmp 34) = va 11 := hT 34 11 (by simp) rfl
        obtain ⟨hJ0, hq0, h1, h2⟩ : CpJ 57 4 x.reads.length W2 g (.slice (some ⟨g, 0, none⟩) x.reads.length c1) vs (0 + m * 4 + 1) (0 + m * 4 + 2) s.lo s.hi [va 8, va 11, va 14] w' := hJ
        obtain ⟨k2, d2, ek, hr2⟩ := id h2
        refine wp_putC rfl (by kernel_rfl) e1 (x2.trans ek) hq0 rfl (by rw [List.length_set]; omega) (fun w2 hg hq => ⟨_, rfl, ⟨grT hJ0 hg, by rw [ek]; exact hq, h1.grown hg (by omega), h2.grown hg (by omega)⟩, hg⟩)
      case fin =>
        intro vs1 W3 hJ hG
        obtain ⟨hg3, hq3, ⟨k1a, k1c, ek1, hr1⟩, ⟨k2a, k2c, ek2, hr2⟩⟩ : CpJ 57 4 x.reads.length W2 g (.slice (some ⟨g, 0, none⟩) x.reads.length c1) vs (0 + m * 4 + 1) (0 + m * 4 + 2) s.lo s.hi [vs1 8, vs1 11, vs1 14, vs1 17] W3 := hJ
        rw [ek1, ek2] at hq3
        clear hG
        simp only [putAll]
        clear ek1 ek2
        go_simp
        have hs3 := hg3.size
        have hkeep : ∀ j, j < w.heap.size ∨ B ≤ j → j < W2.heap.size → W3.heap[j]? = W2.heap[j]? := fun j h1 h2 => hg3.block j h2 fun e => by injection e with e; omega
        have hrow := hstep.out _ (spC s (.slice k1a s.lo.length k1c) (.slice k2a s.hi.length k2c)) _ _ hP hq3 hkeep (fun r j hr hj => ?h1) ⟨_, _, rfl, hr1.weak fun j hj => by omega, hr2.weak fun j hj => by omega, hw64⟩ (fun j u hj => ?h2)
        case h1 =>
          replace hj : j < 4 := hj
          show ((vs.set _ _).set _ _)[r * 4 + j]? = vs[r * 4 + j]?
          rw [List.getElem?_set_ne (by omega), List.getElem?_set_ne (by omega)]
        case h2 =>
          show ((vs.set _ _).set _ _)[m * 4 + j]? = some u
          match j, hj with
          | 0, hj => rw [List.getElem?_set_ne (by omega), List.getElem?_set_ne (by omega)]; exact hcl 0 u hj
          | 1, hj => rw [List.getElem?_set_ne (by omega), show 0 + m * 4 + 1 = m * 4 + 1 by omega, List.getElem?_set_self (by omega)]; exact hj
          | 2, hj => rw [show 0 + m * 4 + 2 = m * 4 + 2 by omega, List.getElem?_set_self (by rw [List.length_set]; omega)]; exact hj
          | 3, hj => rw [List.getElem?_set_ne (by omega), List.getElem?_set_ne (by omega)]; exact hcl 3 u hj
        have q3 := q.grown hg3 q.size fun j hj => by injection hj with hj; omega
        have Bp3 := Bp.other hg3 (by intro e; injection e with e; omega)
        have Bz3 := Bz.other hg3 (by intro e; injection e with e; omega)
        have hR3 := hR2.kept (w' := W3) (fun j hj => hg3.block j (hR2.lt hj) fun e => by injection e with e; exact hne g rfl (by rw [← e]; exact hj)) (fun j hj hl => hg3.block j hl fun e => by injection e with e; omega)
        clear hq3 hQ hP hr1 hr2 hcl hstep hka hva
        go_wp2_with fail
        go_roundw
        case rel => exact ⟨m + 1, by go_num, by omega, hrow, hR3, Bp3, Bz3, q3, by omega⟩
        case measure => simp [intOf]; omega
    · obtain rfl : m = x.reads.length := by omega
      have dk : decide ((x.reads.length : Int) < (x.reads.length : Int)) = false := decide_eq_false (by omega)
      have c4 := Bp.cell (i := 4) rfl
      go_upto_region 8 with (fail)
      clear c4 dk hge hkl
      replace hR2 := hR2.start B
      go_loopw [43] (fun iv wr => ∃ (k : Nat), iv = .int .i64 (k : Int) ∧ k ≤ x.writes.length ∧ RowH Elt.wr 59 B w.heap.size wr (.slice r2 x.writes.length c2) x.writes k ∧ RowH Elt.sp 57 B w.heap.size wr (.slice r1 x.reads.length c1) x.reads x.reads.length ∧ BoxN wr w.heap.size 50 [.int .i64 x.snap, .int .i64 x.stamp, .bool x.held, .slice r1 x.reads.length c1, .slice r2 x.writes.length c2, .bool x.out] ∧ BoxN wr (w.heap.size + 1) 50 [.int .i64 0, .int .i64 0, .bool false, .slice none 0 0, .slice none 0 0, .bool false] ∧ Below w.heap.size w wr ∧ B ≤ wr.heap.size) (fun i _ => x.writes.length - (intOf i).toNat)
      case atStart => exact ⟨0, rfl, Nat.zero_le _, hR2, hR, Bp, Bz, q, hBs⟩
      case round =>
        clear q hR hR2 Bp Bz hBs
        obtain ⟨m, rfl, hkl, hR, hR2, Bp, Bz, q, hBs⟩ := hrel
        rcases Nat.lt_or_ge m x.writes.length with hlt | hge
        · have dk : decide ((m : Int) < (x.writes.length : Int)) = true := decide_eq_true (by omega)
          obtain ⟨vs, hQ, hP⟩ := hR
          obtain ⟨g, rfl⟩ := hQ.place (by omega)
          have hgb := hg2' g rfl
          obtain ⟨us, ⟨ka, va, rfl, hka, hva, hw64⟩, hcl⟩ := hP m hlt
          have hvl := hQ.len
          replace hvl : vs.length = x.writes.length * 4 := hvl
          replace hcl : ∀ j u, (wrC x.writes[m] ka va)[j]? = some u → vs[m * 4 + j]? = some u := hcl
          obtain ⟨hlo, hhi⟩ := hsm.2.2 _ (List.getElem_mem hlt)
          have hstep := Lib.hid (fun (vs' us : List Value) (w2 w3 : World) (hp : PtH Elt.wr B w.heap.size w2 x.writes m vs) => RowH.step (E := Elt.wr) (Te := 59) (B := B) (n0 := w.heap.size) (w := w2) (w' := w3) (v := .slice (some ⟨g, 0, none⟩) x.writes.length c2) (xs := x.writes) (vs := vs) (vs' := vs') (us := us) hlt hp)
          obtain ⟨s, es⟩ : ∃ s, s = x.writes[m] := ⟨_, rfl⟩
          rw [← es] at hka hva hw64 hlo hhi hcl hstep
          clear es
          obtain ⟨KA, KC, rfl, _, _⟩ := hka.shape
          obtain ⟨VA, VC, rfl, _, _⟩ := hva.shape
          have c0 : wr.cell? ⟨g, m * 4, none⟩ = some (.int .i64 s.table) := hQ.cell (g := g) rfl (hcl 0 _ rfl)
          have c1 : wr.cell? ⟨g, m * 4 + 1, none⟩ = some (.slice KA s.key.length KC) := hQ.cell (g := g) rfl (hcl 1 _ rfl)
          have c2 : wr.cell? ⟨g, m * 4 + 2, none⟩ = some (.bool s.gone) := hQ.cell (g := g) rfl (hcl 2 _ rfl)
          have c3 : wr.cell? ⟨g, m * 4 + 3, none⟩ = some (.slice VA s.val.length VC) := hQ.cell (g := g) rfl (hcl 3 _ rfl)
          have hlk : m * 4 + 3 < vs.length := by omega
          replace hvl := Lib.hid hvl
          go_upto_region 10 with (first | (refine wpList_boxNew (vs := [.int .i64 0, .slice none 0 0, .bool false, .slice none 0 0]) (by kernel_rfl) rfl rfl ?_; intro wa hba hBa) | (refine wpList_boxStore (us := [.int .i64 s.table, .slice KA s.key.length KC, .bool s.gone, .slice VA s.val.length VC]) (by kernel_rfl) rfl rfl rfl rfl rfl rfl hBa rfl ?_; intro W2 hgw Bx) | fail)
          try go_simp
          have hbw := hba.grown hgw hba.size fun k hk => by injection hk with hk; omega
          clear c0 c1 c2 c3 hba hBa hgw
          replace Bp := Bp.below hbw Bp.lt
          replace Bz := Bz.below hbw Bz.lt
          replace hQ := hQ.below hbw
          replace hP := hP.keep (w' := W2) fun j _ hj => hbw.block j hj
          replace hka := hka.below hbw
          replace hva := hva.below hbw
          replace hR2 := hR2.below hbw
          have hsw := hbw.size
          replace q := q.trans (hbw.mono q.size)
          have hBlt := Bx.lt
          have hplt := Bp.lt
          clear hbw
          refine wp_region_lnl (K := fun A B => A.grownBy B (some g)) (by kernel_rfl) (by kernel_rfl) [8, 11, 14, 17] (by kernel_rfl) [lEq (.pointer (some ⟨w.heap.size, 0 + 4, none⟩)), lEq (.slice (some ⟨g, 0, none⟩) x.writes.length c2), lEq (.int .i64 (m : Int)), lEq (.pointer (some ⟨w.heap.size, 0 + 4, none⟩)), lEq (.slice (some ⟨g, 0, none⟩) x.writes.length c2), lEq (.int .i64 (m : Int)), lEq (.pointer (some ⟨wr.heap.size, 0 + 1, none⟩)), lEq (.slice KA s.key.length KC), lAny, lEq (.pointer (some ⟨wr.heap.size, 0 + 3, none⟩)), lEq (.slice VA s.val.length VC), lAny, lEq (.pointer (some ⟨g, 0 + m * 4, none⟩)), lEq (.pointer (some ⟨g, 0 + m * 4 + 1, none⟩)), lAny, lEq (.pointer (some ⟨g, 0 + m * 4, none⟩)), lEq (.pointer (some ⟨g, 0 + m * 4 + 3, none⟩)), lAny] (CpJ 59 4 x.writes.length W2 g (.slice (some ⟨g, 0, none⟩) x.writes.length c2) vs (0 + m * 4 + 1) (0 + m * 4 + 3) s.key s.val) CpJ.below (show Below W2.heap.size W2 W2 from Below.refl _ _)
            ⟨?o0, ?o1, ?o2, ?o3, ?o4, ?o5, ?o6, ?o7, ?o8, ?o9, ?o10, ?o11, ?o12, ?o13, ?o14, ?o15, ?o16, ?o17, trivial⟩ ?fin
          case o0 =>
            refine LnOp.side rfl (by kernel_rfl) (fun A va w' k hF hT hk hJ hb hu hp hd => ?_)
            have e1 : A.eval (.tmp 1) = .pointer (some ⟨w.heap.size, 0, none⟩) := hF 1 rfl
            exact wp_fieldN psS rfl (e1) (by omega) ⟨_, rfl, rfl, Below.refl _ _⟩
          case o1 =>
            refine LnOp.side rfl (by kernel_rfl) (fun A va w' k hF hT hk hJ hb hu hp hd => ?_)
            have e1 : A.eval (.tmp 48) = .pointer (some ⟨w.heap.size, 0 + 4, none⟩) := (hT 48 0 (by simp) rfl).trans (hd ⟨0, .data⟩ (by simp) rfl rfl)
            exact wp_ld_slice (e := 59) rfl (e1) (by kernel_rfl) ((Bp.other (CpJ.grown hJ) (by intro e; injection e with e; omega)).cell (i := 4) rfl) ⟨_, rfl, rfl, Below.refl _ _⟩
          case o2 =>
            refine LnOp.side rfl (by kernel_rfl) (fun A va w' k hF hT hk hJ hb hu hp hd => ?_)
            have e1 : A.eval (.tmp 5) = .int .i64 (m : Int) := hF 5 rfl
            exact BigFrame.wp_move _ rfl ⟨_, rfl, e1, Below.refl _ _⟩
          case o3 =>
            refine LnOp.side rfl (by kernel_rfl) (fun A va w' k hF hT hk hJ hb hu hp hd => ?_)
            have e1 : A.eval (.tmp 1) = .pointer (some ⟨w.heap.size, 0, none⟩) := hF 1 rfl
            exact wp_fieldN psS rfl (e1) (by omega) ⟨_, rfl, rfl, Below.refl _ _⟩
          case o4 =>
            refine LnOp.side rfl (by kernel_rfl) (fun A va w' k hF hT hk hJ hb hu hp hd => ?_)
            have e1 : A.eval (.tmp 51) = .pointer (some ⟨w.heap.size, 0 + 4, none⟩) := (hT 51 3 (by simp) rfl).trans (hd ⟨3, .data⟩ (by simp) rfl rfl)
            exact wp_ld_slice (e := 59) rfl (e1) (by kernel_rfl) ((Bp.other (CpJ.grown hJ) (by intro e; injection e with e; omega)).cell (i := 4) rfl) ⟨_, rfl, rfl, Below.refl _ _⟩
          case o5 =>
            refine LnOp.side rfl (by kernel_rfl) (fun A va w' k hF hT hk hJ hb hu hp hd => ?_)
            have e1 : A.eval (.tmp 5) = .int .i64 (m : Int) := hF 5 rfl
            exact BigFrame.wp_move _ rfl ⟨_, rfl, e1, Below.refl _ _⟩
          case o6 =>
            refine LnOp.side rfl (by kernel_rfl) (fun A va w' k hF hT hk hJ hb hu hp hd => ?_)
            have e1 : A.eval (.tmp 6) = .pointer (some ⟨wr.heap.size, 0, none⟩) := hF 6 rfl
            exact wp_fieldN wrS rfl (e1) (by omega) ⟨_, rfl, rfl, Below.refl _ _⟩
          case o7 =>
            refine LnOp.side rfl (by kernel_rfl) (fun A va w' k hF hT hk hJ hb hu hp hd => ?_)
            have e1 : A.eval (.tmp 54) = .pointer (some ⟨wr.heap.size, 0 + 1, none⟩) := (hT 54 6 (by simp) rfl).trans (hd ⟨6, .data⟩ (by simp) rfl rfl)
            exact wp_ld_slice (e := 5) rfl (e1) (by kernel_rfl) ((Bx.other (CpJ.grown hJ) (by intro e; injection e with e; omega)).cell (i := 1) rfl) ⟨_, rfl, rfl, Below.refl _ _⟩
          case o8 =>
            refine LnOp.line 0 rfl rfl (fun A va w' hF hT hJ hu hd => ?_)
            have e1 : A.eval (.tmp 55) = .slice KA s.key.length KC := (hT 55 7 (by simp) rfl).trans (hd ⟨7, .data⟩ (by simp) rfl rfl)
            have hJ0 : Below W2.heap.size W2 w' := hJ
            refine wp_callFn rfl eC (args := #[.slice KA s.key.length KC]) (by simp only [List.map_toArray, List.map_cons, List.map_nil, e1]) ((clone_any w' (hka.below hJ0).rd (Nat.le_refl _) hlo).mono ?_)
            rintro e w2 ⟨ad', k2, c', rfl, hf'⟩
            obtain rfl := hf'.2.rdS.len.1
            exact ⟨_, rfl, _, rfl, ⟨hJ0.trans (hf'.1.mono hJ0.size), ⟨_, _, rfl, hf'.2.rdS.weak fun j hj => ⟨Nat.le_trans hJ0.size hj.1, hj.2⟩⟩⟩, grown_below' hf'.1 _⟩
          case o9 =>
            refine LnOp.side rfl (by kernel_rfl) (fun A va w' k hF hT hk hJ hb hu hp hd => ?_)
            have e1 : A.eval (.tmp 6) = .pointer (some ⟨wr.heap.size, 0, none⟩) := hF 6 rfl
            exact wp_fieldN wrS rfl (e1) (by omega) ⟨_, rfl, rfl, Below.refl _ _⟩
          case o10 =>
            refine LnOp.side rfl (by kernel_rfl) (fun A va w' k hF hT hk hJ hb hu hp hd => ?_)
            have e1 : A.eval (.tmp 57) = .pointer (some ⟨wr.heap.size, 0 + 3, none⟩) := (hT 57 9 (by simp) rfl).trans (hd ⟨9, .data⟩ (by simp) rfl rfl)
            exact wp_ld_slice (e := 5) rfl (e1) (by kernel_rfl) ((Bx.other (CpJ.grown hJ) (by intro e; injection e with e; omega)).cell (i := 3) rfl) ⟨_, rfl, rfl, Below.refl _ _⟩
          case o11 =>
            refine LnOp.line 1 rfl rfl (fun A va w' hF hT hJ hu hd => ?_)
            have e1 : A.eval (.tmp 58) = .slice VA s.val.length VC := (hT 58 10 (by simp) rfl).trans (hd ⟨10, .data⟩ (by simp) rfl rfl)
            obtain ⟨hJ0, h1⟩ : CpJ 59 4 x.writes.length W2 g (.slice (some ⟨g, 0, none⟩) x.writes.length c2) vs (0 + m * 4 + 1) (0 + m * 4 + 3) s.key s.val [va 8] w' := hJ
            refine wp_callFn rfl eC (args := #[.slice VA s.val.length VC]) (by simp only [List.map_toArray, List.map_cons, List.map_nil, e1]) ((clone_any w' (hva.below hJ0).rd (Nat.le_refl _) hhi).mono ?_)
            rintro e w2 ⟨ad', k2, c', rfl, hf'⟩
            obtain rfl := hf'.2.rdS.len.1
            exact ⟨_, rfl, _, rfl, ⟨hJ0.trans (hf'.1.mono hJ0.size), h1.below hf'.1, ⟨_, _, rfl, hf'.2.rdS.weak fun j hj => ⟨Nat.le_trans hJ0.size hj.1, hj.2⟩⟩⟩, grown_below' hf'.1 _⟩
          case o12 =>
            refine LnOp.side rfl (by kernel_rfl) (fun A va w' k hF hT hk hJ hb hu hp hd => ?_)
            have e1 : A.eval (.tmp 49) = .slice (some ⟨g, 0, none⟩) x.writes.length c2 := (hT 49 1 (by simp) rfl).trans (hd ⟨1, .data⟩ (by simp) rfl rfl)
            have e2 : A.eval (.tmp 50) = .int .i64 (m : Int) := (hT 50 2 (by simp) rfl).trans (hd ⟨2, .data⟩ (by simp) rfl rfl)
            exact wp_ixN (e := 59) rfl (by kernel_rfl) (by kernel_rfl) (e1) (e2) rfl (by omega) ⟨_, rfl, rfl, Below.refl _ _⟩
          case o13 =>
            refine LnOp.side rfl (by kernel_rfl) (fun A va w' k hF hT hk hJ hb hu hp hd => ?_)
            have e1 : A.eval (.tmp 60) = .pointer (some ⟨g, 0 + m * 4, none⟩) := (hT 60 12 (by simp) rfl).trans (hd ⟨12, .data⟩ (by simp) rfl rfl)
            exact wp_fieldN wrS rfl (e1) (by omega) ⟨_, rfl, rfl, Below.refl _ _⟩
          case o14 =>
            refine LnOp.line 2 rfl rfl (fun A va w' hF hT hJ hu hd => ?_)
            have e1 : A.eval (.tmp 61) = .pointer (some ⟨g, 0 + m * 4 + 1, none⟩) := (hT 61 13 (by simp) rfl).trans (hd ⟨13, .data⟩ (by simp) rfl rfl)
            have x2 : A.eval (.tmp 56) = va 8 := hT 56 8 (by simp) rfl
            obtain ⟨hJ0, h1, h2⟩ : CpJ 59 4 x.writes.length W2 g (.slice (some ⟨g, 0, none⟩) x.writes.length c2) vs (0 + m * 4 + 1) (0 + m * 4 + 3) s.key s.val [va 8, va 11] w' := hJ
            obtain ⟨k1, d1, ek, hr1⟩ := id h1
            refine wp_putC rfl (by kernel_rfl) e1 (x2.trans ek) (hQ.below hJ0) rfl (by omega) (fun w2 hg hq => ⟨_, rfl, ⟨grT (grown_below' hJ0 _) hg, by rw [ek]; exact hq, h1.grown hg (by omega), h2.grown hg (by omega)⟩, hg⟩)
          case o15 =>
            refine LnOp.side rfl (by kernel_rfl) (fun A va w' k hF hT hk hJ hb hu hp hd => ?_)
            have e1 : A.eval (.tmp 52) = .slice (some ⟨g, 0, none⟩) x.writes.length c2 := (hT 52 4 (by simp) rfl).trans (hd ⟨4, .data⟩ (by simp) rfl rfl)
            have e2 : A.eval (.tmp 53) = .int .i64 (m : Int) := (hT 53 5 (by simp) rfl).trans (hd ⟨5, .data⟩ (by simp) rfl rfl)
            exact wp_ixN (e := 59) rfl (by kernel_rfl) (by kernel_rfl) (e1) (e2) rfl (by omega) ⟨_, rfl, rfl, Below.refl _ _⟩
          case o16 =>
            refine LnOp.side rfl (by kernel_rfl) (fun A va w' k hF hT hk hJ hb hu hp hd => ?_)
            have e1 : A.eval (.tmp 62) = .pointer (some ⟨g, 0 + m * 4, none⟩) := (hT 62 15 (by simp) rfl).trans (hd ⟨15, .data⟩ (by simp) rfl rfl)
            exact wp_fieldN wrS rfl (e1) (by omega) ⟨_, rfl, rfl, Below.refl _ _⟩
          case o17 =>
            refine LnOp.line 3 rfl rfl (fun A va w' hF hT hJ hu hd => ?_)
            have e1 : A.eval (.tmp 63) = .pointer (some ⟨g, 0 + m * 4 + 3, none⟩) := (hT 63 16 (by simp) rfl).trans (hd ⟨16, .data⟩ (by simp) rfl rfl)
            have x2 : A.eval (.tmp 59) = va 11 := hT 59 11 (by simp) rfl
            obtain ⟨hJ0, hq0, h1, h2⟩ : CpJ 59 4 x.writes.length W2 g (.slice (some ⟨g, 0, none⟩) x.writes.length c2) vs (0 + m * 4 + 1) (0 + m * 4 + 3) s.key s.val [va 8, va 11, va 14] w' := hJ
            obtain ⟨k2, d2, ek, hr2⟩ := id h2
            refine wp_putC rfl (by kernel_rfl) e1 (x2.trans ek) hq0 rfl (by rw [List.length_set]; omega) (fun w2 hg hq => ⟨_, rfl, ⟨grT hJ0 hg, by rw [ek]; exact hq, h1.grown hg (by omega), h2.grown hg (by omega)⟩, hg⟩)
          case fin =>
            intro vs1 W3 hJ hG
            obtain ⟨hg3, hq3, ⟨k1a, k1c, ek1, hr1⟩, ⟨k2a, k2c, ek2, hr2⟩⟩ : CpJ 59 4 x.writes.length W2 g (.slice (some ⟨g, 0, none⟩) x.writes.length c2) vs (0 + m * 4 + 1) (0 + m * 4 + 3) s.key s.val [vs1 8, vs1 11, vs1 14, vs1 17] W3 := hJ
            rw [ek1, ek2] at hq3
            clear hG
            simp only [putAll]
            clear ek1 ek2
            go_simp
            have hs3 := hg3.size
            have hkeep : ∀ j, j < w.heap.size ∨ B ≤ j → j < W2.heap.size → W3.heap[j]? = W2.heap[j]? := fun j h1 h2 => hg3.block j h2 fun e => by injection e with e; omega
            have hrow := hstep.out _ (wrC s (.slice k1a s.key.length k1c) (.slice k2a s.val.length k2c)) _ _ hP hq3 hkeep (fun r j hr hj => ?h1) ⟨_, _, rfl, hr1.weak fun j hj => by omega, hr2.weak fun j hj => by omega, hw64⟩ (fun j u hj => ?h2)
            case h1 =>
              replace hj : j < 4 := hj
              show ((vs.set _ _).set _ _)[r * 4 + j]? = vs[r * 4 + j]?
              rw [List.getElem?_set_ne (by omega), List.getElem?_set_ne (by omega)]
            case h2 =>
              show ((vs.set _ _).set _ _)[m * 4 + j]? = some u
              match j, hj with
              | 0, hj => rw [List.getElem?_set_ne (by omega), List.getElem?_set_ne (by omega)]; exact hcl 0 u hj
              | 1, hj => rw [List.getElem?_set_ne (by omega), show 0 + m * 4 + 1 = m * 4 + 1 by omega, List.getElem?_set_self (by omega)]; exact hj
              | 2, hj => rw [List.getElem?_set_ne (by omega), List.getElem?_set_ne (by omega)]; exact hcl 2 u hj
              | 3, hj => rw [show 0 + m * 4 + 3 = m * 4 + 3 by omega, List.getElem?_set_self (by rw [List.length_set]; omega)]; exact hj
            have q3 := q.grown hg3 q.size fun j hj => by injection hj with hj; omega
            have Bp3 := Bp.other hg3 (by intro e; injection e with e; omega)
            have Bz3 := Bz.other hg3 (by intro e; injection e with e; omega)
            have hR3 := hR2.kept (w' := W3) (fun j hj => hg3.block j (hR2.lt hj) fun e => by injection e with e; exact hne j hj (by rw [e]; rfl)) (fun j hj hl => hkeep j hj hl)
            clear hq3 hQ hP hr1 hr2 hcl hstep hka hva
            go_wp2_with fail
            go_roundw
            case rel => exact ⟨m + 1, by go_num, by omega, hrow, hR3, Bp3, Bz3, q3, by omega⟩
            case measure => simp [intOf]; omega
        · obtain rfl : m = x.writes.length := by omega
          have dk : decide ((x.writes.length : Int) < (x.writes.length : Int)) = false := decide_eq_false (by omega)
          have c0 := Bp.cell (i := 0) rfl
          have c1' := Bp.cell (i := 1) rfl
          have c2' := Bp.cell (i := 2) rfl
          have c3 := Bp.cell (i := 3) rfl
          have c4 := Bp.cell (i := 4) rfl
          have c5 := Bp.cell (i := 5) rfl
          go_wp2_with (first | (refine wpList_boxStore (us := [.int .i64 x.snap, .int .i64 x.stamp, .bool x.held, .slice r1 x.reads.length c1, .slice r2 x.writes.length c2, .bool x.out]) (by kernel_rfl) rfl rfl rfl rfl rfl rfl Bz rfl ?_; intro W4 hg4 hB4; clear c0 c1' c2' c3 c4 c5) | fail)
          have d0 := hB4.cell (i := 0) rfl
          have d1 := hB4.cell (i := 1) rfl
          have d2 := hB4.cell (i := 2) rfl
          have d3 := hB4.cell (i := 3) rfl
          have d4 := hB4.cell (i := 4) rfl
          have d5 := hB4.cell (i := 5) rfl
          obtain ⟨fs, hu, _⟩ := psS.hu
          refine bodyPost_ret (v := .agg #[.int .i64 x.snap, .int .i64 x.stamp, .bool x.held, .slice r1 x.reads.length c1, .slice r2 x.writes.length c2, .bool x.out]) (by simp [results, Try.results51, go_sem, loadVar, isAgg, run_underlying hu, run_sizeOf' psS.hs, loadCellsFrom, Addr.add, d0, d1, d2, d3, d4, d5]) rfl ?_
          have hs4 := hg4.size
          have hk4 : ∀ j, j < wr.heap.size → j ≠ w.heap.size + 1 → W4.heap[j]? = wr.heap[j]? := fun j h1 h2 => hg4.block j h1 fun e => by injection e with e; omega
          have q4 := q.grown hg4 q.size fun j hj => by injection hj with hj; omega
          have hm1 : ∀ j, (B ≤ j ∨ (Value.slice r1 x.reads.length c1).ownBlock = some j) → w.heap.size + 2 ≤ j := fun j h => by
            rcases h with h | h
            · omega
            · exact (hg1' j h).1
          have hm2 : ∀ j, (B ≤ j ∨ (Value.slice r2 x.writes.length c2).ownBlock = some j) → w.heap.size + 2 ≤ j := fun j h => by
            rcases h with h | h
            · omega
            · exact (hg2' j h).1
          exact ⟨_, rfl, ⟨r1, c1, r2, c2, rfl, (hR2.rdL.fit.keep fun j hj => hk4 j hj.2 (by have := hm1 j hj.1; omega)).weak fun j hj => ⟨by have := hm1 j hj.1; omega, by omega⟩, (hR.rdL.fit.keep fun j hj => hk4 j hj.2 (by have := hm2 j hj.1; omega)).weak fun j hj => ⟨by have := hm2 j hj.1; omega, by omega⟩, h64⟩, q4⟩
end Go.Proofs.Ytobelnedhlepaaa
namespace Go.Proofs.Ytobelnedhlepaaa
open Go.RowKit
def SeqStopsG {ι α : Type} (P : Program) (g : Nat) (lb : Array Value) (encs : α → Array Value) (Kp : ι → World → World → Prop) (Gd : ι → α → World → Prop) (S Sp : List α → Prop) (N : Nat) (w : World) : Prop :=
  ∀ (l : Nat) (J Jx : ι → List α → World → Prop) (W : World), Below w.heap.size w W → (∀ i, AbidesFrom W.heap.size (J i)) → (∀ i, AbidesFrom W.heap.size (Jx i)) →
    (∀ i pre x W1, J i pre W1 → Gd i x W1 → pre.length < N → YieldAt Fence.wide 1 P l (encs x) W1 fun e W' => (e = .returned (.bool true) ∧ J i (pre ++ [x]) W' ∧ Kp i W1 W') ∨ (e = .returned (.bool false) ∧ Jx i (pre ++ [x]) W')) →
    (∀ i, J i [] W) → CallsIn Fence.wide 2 P g (#[.func (.yield l) #[] #[]] ++ lb) W fun e W' => (∃ v, e = .returned v) ∧ ∃ i, ((∃ xs, S xs ∧ J i xs W') ∨ (∃ pre, Sp pre ∧ Jx i pre W'))
section
variable {P : Program} {ι α : Type} {ps : Array Tmp} {assign body : Code}
def Bk (K : Nat) (r : Loop) (W : World) : Prop := W.heap[K + 1]? = some (.loop r) ∧ W.heap[K]? = some (.deferred (some []))
theorem Bk.keeps {K : Nat} {r : Loop} {W W' : World} (h : Bk K r W) (hk : KeepsFrom K W W') : Bk K r W' := ⟨hk.same _ _ (by omega) h.1 rfl, hk.same _ _ (Nat.le_refl _) h.2 rfl⟩
theorem Bk.put {K : Nat} {r r' : Loop} {W : World} (h : Bk K r W) : Bk K r' (W.putObj (K + 1) (.loop r')) := ⟨World.putObj_heap_same (Array.getElem?_eq_some_iff.1 h.1).1, (World.putObj_heap_other (by omega)).trans h.2⟩
theorem Bk.grown {K : Nat} {r : Loop} {W W' : World} {row : Option Nat} (h : Bk K r W) (hg : W.grownBy W' row) (hr : ∀ k, row = some k → ∃ o : Obj, W.heap[k]? = some o ∧ o.isWalk = true) : Bk K r W' :=
  ⟨(grownBy_keeps hg hr h.1 rfl).trans h.1, (grownBy_keeps hg hr h.2 rfl).trans h.2⟩
theorem wp_rangeFuncG {g : Operand} {Q : Exit → Act → World → Prop} {a : Act} {w : World} {gf : Nat} {lb : Array Value} (hg : a.eval g = .func (.func gf) #[] lb) (eg : ∀ args w, (callFunc gf args).run P w = .ok (.enter gf args) w)
    {encs : α → Array Value} {Kp : ι → World → World → Prop} {Gd : ι → α → World → Prop} {S Sp : List α → Prop} {N : Nat} {w0 : World} (hseq : SeqStopsG P gf lb encs Kp Gd S Sp N w0)
    (hKt : ∀ {i : ι} {A B C : World}, Kp i A B → Kp i B C → Kp i A C) (hKb : ∀ (i : ι) (W : World) (l : Nat) (o o' : Obj), w.heap.size ≤ l → W.heap[l]? = some o → o.isCells = false → o.isWalk = false → Kp i W (W.putObj l o')) (hb0 : Below w0.heap.size w0 w) (hps : ∀ x, (encs x).size = ps.size)
    (I : ι → List α → World → Prop) (Ix : ι → Code → List α → World → Prop) (hI : ∀ i, OwnFrom w.heap.size (I i)) (hIx : ∀ i c, OwnFrom w.heap.size (Ix i c)) (h0 : ∀ i, I i [] w) (Ax : ι → α → Act → World → Prop) (hAx : ∀ i x a', OwnFrom w.heap.size (fun (_ : Unit) W => Ax i x a' W))
    (hassign : ∀ (i : ι) (l : Nat) (pre : List α) (x : α) (W : World) (K : Act → World → Prop), I i pre W → Gd i x W → (∀ a' W', KeepsFrom w.heap.size W W' → Kp i W W' → I i pre W' → Ax i x a' W' → K a' W') →
      assign.wpIn (Fence.wide.inRound l) 1 P (Exit.then K (fun _ _ _ => False)) { tmps := (ps.zip (encs x)).foldl (fun t (p, v) => t.setIfInBounds p v) a.tmps, defers := [] } W)
    (hbody : ∀ (i : ι) (l : Nat) (pre : List α) (x : α) (a' : Act) (W : World), I i pre W → Ax i x a' W → pre.length < N → body.wpIn (Fence.wide.inRound l) 1 P (ownPostG w.heap.size (Kp i) (I i) (Ix i) (pre ++ [x]) W) a' W)
    (hdone : ∀ (i : ι) (D : Nat) (xs : List α) (W : World), w.heap.size ≤ D → S xs → I i xs W → W.heap[D]? = some (.deferred (some [])) → Q .normal { a with defers := { target := .collected D, args := #[] } :: a.defers } W)
    (hstop : ∀ (i : ι) (D : Nat) (c : Code) (pre : List α) (W : World), w.heap.size ≤ D → Sp pre → Ix i c pre W → W.heap[D]? = some (.deferred (some [])) → c.wp P Q { a with defers := { target := .collected D, args := #[] } :: a.defers } W) :
    (Code.rangeFunc g ps assign body).wp P Q a w := by
  refine (wpIn_wide (n := 3)).1 (wpIn_rangeFunc fun fn hfn => ?_)
  rw [show Fence.wide.round = none from rfl]
  obtain ⟨rec, hrec⟩ : ∃ rec : LoopState → Option Code → Loop, ∀ st pe, rec st pe = { state := st, pending := pe, fn, tmps := a.tmps, params := ps, assign, body, defers := w.heap.size } := ⟨_, fun _ _ => rfl⟩
  obtain ⟨W1, hW1⟩ : ∃ W1, W1 = (w.alloc (.deferred (some []))).alloc (.loop (rec .ready none)) := ⟨_, rfl⟩
  have bk1 : Bk w.heap.size (rec .ready none) W1 := by
    rw [hW1]
    constructor
    · have := World.alloc_heap_new (w.alloc (.deferred (some []))) (.loop (rec .ready none))
      rwa [World.size_alloc] at this
    · exact (Below.heap_alloc _ _ _ (by simp)).trans (World.alloc_heap_new w _)
  have i1 : ∀ i, I i [] W1 := fun i => by rw [hW1]; exact (hI i).alloc _ ((hI i).alloc _ (h0 i))
  have b1 : Below w0.heap.size w0 W1 := by
    rw [hW1]
    exact hb0.trans ((((Below.refl _ w).alloc (Nat.le_refl _) _).alloc (by simp) _).mono hb0.size)
  have s1 : w.heap.size ≤ W1.heap.size := by rw [hW1]; simp; omega
  refine ⟨w.heap.size + 1, [{ target := .collected w.heap.size, args := #[] }], W1, { target := .fn (.func gf) lb, args := #[.func (.yield (w.heap.size + 1)) #[] #[]] }, W1, gf, #[.func (.yield (w.heap.size + 1)) #[] #[]] ++ lb, W1, ?_, ?_, ?_, ?_, fun _ => by omega, ?_⟩
  · rw [hW1, hrec]
    exact run_enterLoop_outer _ _ _ _ _
  · simp only [resolve, hg]
    simp [go_sem]
  · intro f hf
    simp [Target.leads] at hf
    subst hf
    trivial
  · simp [invoke, go_sem, eg]
  have far : ∀ {A : World} {row : Option Nat}, (∀ r, row = some r → W1.heap.size ≤ r ∧ ∃ o : Obj, A.heap[r]? = some o ∧ o.isWalk = true) → ∀ r, row = some r → w.heap.size ≤ r ∧ ∃ o : Obj, A.heap[r]? = some o ∧ o.isCells = false := fun hr r e => by
    obtain ⟨h1, o, h2, h3⟩ := hr r e
    exact ⟨by omega, o, h2, Obj.not_cells_of_walk h3⟩
  refine (hseq (w.heap.size + 1) (fun i pre W => I i pre W ∧ Bk w.heap.size (rec .ready none) W) (fun i pre W => ∃ c, Ix i c pre W ∧ Bk w.heap.size (rec .done (some c)) W) W1 b1
    (fun i s A B row hs h hr => ⟨hI i s A B row hs.1 h (far hr), hs.2.grown h fun k e => (hr k e).2⟩)
    (fun i s A B row hs h hr => hs.imp fun c hc => ⟨hIx i c s A B row hc.1 h (far hr), hc.2.grown h fun k e => (hr k e).2⟩)
    ?round fun i => ⟨i1 i, bk1⟩).mono ?behind
  case behind =>
    rintro e W2 ⟨⟨v, rfl⟩, i, (⟨xs, hS, hi, bk⟩ | ⟨pre, hSp, c, hi, bk⟩)⟩
    · have hr := run_endLoop (P := P) bk.1 (by rw [hrec]; simp)
      rw [hrec] at hr
      exact ⟨none, _, hr, hdone i _ xs _ (Nat.le_refl _) hS ((hI i).putObj _ hi (by omega) bk.1 rfl) ((World.putObj_heap_other (by omega)).trans bk.2)⟩
    · have hr := run_endLoop (P := P) bk.1 (by rw [hrec]; simp)
      rw [hrec] at hr
      exact ⟨some c, _, hr, wpIn_wide.2 (hstop i _ c pre _ (Nat.le_refl _) hSp ((hIx i c).putObj _ hi (by omega) bk.1 rfl) ((World.putObj_heap_other (by omega)).trans bk.2))⟩
  case round =>
    rintro i pre x W ⟨hi, bk⟩ hgd hlen
    have hy := run_yield (P := P) (args := encs x) bk.1 (by rw [hrec]; exact hps x)
    rw [hrec] at hy
    refine ⟨fn, _, assign, body, hy, roundIn_of_wpIn hfn (hassign i _ pre x W _ hi hgd fun a' Wa hka hkpa hia hax => ?_)⟩
    have bka := bk.keeps hka
    refine ⟨_, run_beginRound bka.1 (by rw [hrec]), ?_⟩
    have bk2 : Bk w.heap.size { rec .ready none with state := .busy } (Wa.putObj (w.heap.size + 1) (.loop { rec .ready none with state := .busy })) := bka.put
    have hw2 : Kp i Wa (Wa.putObj (w.heap.size + 1) (.loop { rec .ready none with state := .busy })) := hKb _ _ _ _ _ (by omega) bka.1 rfl rfl
    refine wpIn_mono (hbody i _ pre x a' _ ((hI i).putObj _ hia (by omega) bka.1 rfl) ((hAx i x a').putObj (s := ()) _ hax (by omega) bka.1 rfl) hlen) ?_
    have fin : ∀ (jump : Option Code) (W3 : World), KeepsFrom w.heap.size (Wa.putObj (w.heap.size + 1) (.loop { rec .ready none with state := .busy })) W3 →
        (Instr.endRound (w.heap.size + 1) jump).run P W3 = .ok (.bool jump.isNone) (W3.putObj (w.heap.size + 1) (.loop (rec (if jump.isNone then .ready else .done) jump))) ∧ W3.heap[w.heap.size + 1]? = some (.loop { rec .ready none with state := .busy }) ∧
        Bk w.heap.size (rec (if jump.isNone then .ready else .done) jump) (W3.putObj (w.heap.size + 1) (.loop (rec (if jump.isNone then .ready else .done) jump))) := fun jump W3 hk3 => by
      have bk3 := bk2.keeps hk3
      have hr := run_endRound (P := P) jump bk3.1
      refine ⟨?_, bk3.1, bk3.put⟩
      rw [hrec] at hr ⊢
      exact hr
    intro e a3 W3 hp
    cases e with
    | normal =>
      obtain ⟨hk3, hkp3, hi3⟩ := hp
      obtain ⟨hr, hl3, hb3⟩ := fin none W3 hk3
      exact ⟨_, _, hr, .inl ⟨rfl, ⟨(hI i).putObj _ hi3 (by omega) hl3 rfl, hb3⟩, hKt hkpa (hKt (hKt hw2 hkp3) (hKb _ _ _ _ _ (by omega) hl3 rfl rfl))⟩⟩
    | ret =>
      obtain ⟨hk3, hi3⟩ := hp
      obtain ⟨hr, hl3, hb3⟩ := fin (some .ret) W3 hk3
      exact ⟨_, _, hr, .inr ⟨rfl, .ret, (hIx i _).putObj _ hi3 (by omega) hl3 rfl, hb3⟩⟩
    | exit id =>
      obtain ⟨hk3, hi3⟩ := hp
      obtain ⟨hr, hl3, hb3⟩ := fin (some (.exit id)) W3 hk3
      exact ⟨_, _, hr, .inr ⟨rfl, .exit id, (hIx i _).putObj _ hi3 (by omega) hl3 rfl, hb3⟩⟩
    | goto t =>
      obtain ⟨hk3, hi3⟩ := hp
      obtain ⟨hr, hl3, hb3⟩ := fin (some (.goto t)) W3 hk3
      exact ⟨_, _, hr, .inr ⟨rfl, .goto t, (hIx i _).putObj _ hi3 (by omega) hl3 rfl, hb3⟩⟩
    | panic ch => exact hp.elim
    | outgrown => exact hp.elim
end
end Go.Proofs.Ytobelnedhlepaaa
namespace Go.Proofs.Ytobelnedhlepaaa
open Go.RowKit Go.Shelf
attribute [local go_sem] Oper.semAt_some
structure PEl where
  ad : Option Addr
  c : Nat
  ad2 : Option Addr
  c2 : Nat
  p : Ps
def PEl.enc (x : PEl) : Array Value := #[.agg #[.int .i64 x.p.snap, .int .i64 x.p.stamp, .bool x.p.held, .slice x.ad x.p.reads.length x.c, .slice x.ad2 x.p.writes.length x.c2, .bool x.p.out]]
def GdP (n0 : Nat) (x : PEl) (W : World) : Prop := RdPs (· < n0) W (.agg #[.int .i64 x.p.snap, .int .i64 x.p.stamp, .bool x.p.held, .slice x.ad x.p.reads.length x.c, .slice x.ad2 x.p.writes.length x.c2, .bool x.p.out]) x.p ∧ n0 ≤ W.heap.size ∧ smP x.p
def PreK (l : List Ps) (ys : List PEl) : Prop := ∃ r, l = ys.map (·.p) ++ r
theorem keepP_pre (l : List Ps) (lv : List Lv) (i : Nat) : ∃ r, keepP l lv = keepP (l.take i) lv ++ r := ⟨keepP (l.drop i) lv, by unfold keepP; rw [← List.filter_append, List.take_append_drop]⟩
theorem run_fieldLv (w : World) (s : Int) (a : Option Addr) (n c : Nat) : (Instr.field 24 (.agg #[.int .i64 s, .slice a n c]) 0).run Try.prog w = .ok (.int .i64 s) w := by kernel_rfl
attribute [local go_sem] run_fieldLv
theorem rdL_to {α : Type} {E : Elt α} {w0 W : World} {v : Value} {xs : List α} (h : RdL E (· < w0.heap.size) w0 v xs) (hb : Below w0.heap.size w0 W) : RdL E (· < w0.heap.size) W v xs := h.keep fun k hk => hb.block k hk
set_option maxRecDepth 100000 in
theorem behind_any (w : World) (a b : Option Addr) (n c m d : Nat) :
    Calls Try.prog 50 #[.slice a n c, .slice b m d] w fun e w' => e = .returned (.func (.func 58) #[] #[.pointer (some ⟨w.heap.size + 1, 0, none⟩), .pointer (some ⟨w.heap.size, 0, none⟩)]) ∧
      w' = (w.alloc (.cells #[.slice a n c] 26)).alloc (.cells #[.slice b m d] 27) := by
  go_enter Try.func50, Try.ntmps50
  go_wp2
  go_ret
  exact ⟨rfl, rfl⟩
set_option maxRecDepth 100000 in
set_option maxHeartbeats 8000000 in
theorem behind1_in (l : Nat) {w0 : World} {J Jx : Unit → List PEl → World → Prop} {L : List Ps} {lv : List Lv} {N B lb pb : Nat} {a1 a2 : Option Addr} {d1 d2 : Nat} (hL : RdL Elt.ps (· < w0.heap.size) w0 (.slice a1 L.length d1) L) (hV : RdL Elt.lv (· < w0.heap.size) w0 (.slice a2 lv.length d2) lv) (hsm : ∀ p ∈ L, smP p)
    (hAb : ∀ i, AbidesFrom B (J i))
    (hY : ∀ i pre y W, J i pre W → GdP w0.heap.size y W → pre.length < N → YieldAt Fence.wide 1 Try.prog l y.enc W fun e W' => (e = .returned (.bool true) ∧ J i (pre ++ [y]) W' ∧ Below w0.heap.size W W') ∨ (e = .returned (.bool false) ∧ Jx i (pre ++ [y]) W'))
    (W : World) (hW : Below w0.heap.size w0 W) (hlb : Boxed W lb 27 (.slice a2 lv.length d2)) (hpb : Boxed W pb 26 (.slice a1 L.length d1)) (h0 : ∀ i, J i [] W) (hN : (keepP L lv).length ≤ N) :
    CallsIn Fence.wide 2 Try.prog 58 #[.func (.yield l) #[] #[], .pointer (some ⟨lb, 0, none⟩), .pointer (some ⟨pb, 0, none⟩)] W fun e W' => (∃ v, e = .returned v) ∧ ∃ i, ((∃ ys : List PEl, ys.map (·.p) = keepP L lv ∧ J i ys W') ∨ (∃ pre, PreK (keepP L lv) pre ∧ Jx i pre W')) := by
  obtain ⟨_, _, hcm⟩ := hL.len
  have hLm : L.length ≤ 9223372036854775807 := by unfold maxLen at hcm; omega
  obtain ⟨_, _, hcm2⟩ := hV.len
  have hVm : lv.length ≤ 9223372036854775807 := by unfold maxLen at hcm2; omega
  clear hcm hcm2
  have lc := hlb.cell
  have pc := hpb.cell
  refine callsIn_of_wp Try.func58 rfl trivial ?_ rfl
  simp only [Try.ntmps58, List.size_toArray, List.length_cons, List.length_nil, Nat.reduceAdd, Nat.reduceSub, Array.replicate_succ, Array.replicate_zero, List.push_toArray, List.append_toArray, List.nil_append, List.cons_append]
  refine wpIn_wide.2 ?_
  cases lv with
  | nil =>
    have e0 : ((([] : List Lv).length : Int) == 0) = true := rfl
    have e1 : decide ((([] : List Lv).length : Int) = 0) = true := rfl
    go_wp2_with fail
    (try simp only [Exit.inBlock, Exit.then])
    refine bodyPost_ret (results_none rfl _ _ _) rfl ?_
    exact ⟨⟨_, rfl⟩, (), .inl ⟨[], by rw [keepP_nil]; rfl, h0 ()⟩⟩
  | cons x lv =>
  have e0 : (((x :: lv).length : Int) == 0) = false := beq_eq_false_iff_ne.2 (by rw [List.length_cons]; omega)
  have e1 : decide (((x :: lv).length : Int) = 0) = false := decide_eq_false (by rw [List.length_cons]; omega)
  have hmin := minLv_any W (hV.keep fun k hk => hW.block k hk)
  have hmt := Lib.hid (fun p => metP_least x lv p)
  obtain ⟨nlv, enlv⟩ : ∃ nlv, nlv = (x :: lv).length := ⟨_, rfl⟩
  rw [← enlv] at e0 e1 hVm lc hmin
  clear enlv
  go_wp2_with fail
  refine hmin.mono ?_
  rintro e W1 ⟨b1, b2, rfl, h64, hb1⟩
  replace pc := (hb1.cell (p := ⟨_, _, none⟩) (cell_lt pc)).trans pc
  have hW1 := hW.trans (hb1.mono hW.size)
  have hJ1 := hAb _ _ _ _ none (h0 ()) (grown_below' hb1 none) (by simp)
  obtain ⟨lst, elst⟩ : ∃ lst, lst = leastL x lv := ⟨_, rfl⟩
  rw [← elst] at hmt h64
  rw [← elst]
  obtain ⟨lvs, elvs⟩ : ∃ lvs, lvs = x :: lv := ⟨_, rfl⟩
  rw [← elvs] at hmt hN
  replace elvs := Lib.hid elvs
  clear lc e0 e1 hmin hb1 elst hV hlb hpb
  go_wp2_with fail
  refine (wpIn_wide (n := 2)).1 ?_
  gi_loopw [15] (fun v wr => ∃ (i : Nat) (ys : List PEl), v = .int .i64 (i : Int) ∧ i ≤ L.length ∧ ys.map (·.p) = keepP (L.take i) lvs ∧ J () ys wr ∧ Below w0.heap.size w0 wr) (fun v _ => L.length - (intOf v).toNat)
  case atStart => exact ⟨0, [], rfl, by omega, rfl, hJ1, hW1⟩
  case round =>
    clear hJ1 hW1 pc
    obtain ⟨i, ys, rfl, hil, hys, hJ, hq⟩ := hrel
    refine wpIn_wide.2 ?_
    rcases Nat.lt_or_ge i L.length with hl | hl
    · have d1 : decide ((i : Int) < (L.length : Int)) = true := by simp; omega
      obtain ⟨g1, o1, A1, A2, A3, A4, rfl, _, ⟨c0, c1, c2, c3, c4, c5⟩, hk1, hk2, hw64⟩ := (rdL_to hL hq).ps i hl
      have hsn := Lib.hid (keepP_snoc (lv := lvs) hl)
      have hmp := Lib.hid (hmt.out L[i])
      have hsp := Lib.hid (hsm _ (List.getElem_mem hl))
      have hpre := Lib.hid (keepP_pre L lvs (i + 1))
      obtain ⟨p, ep⟩ : ∃ p, p = L[i] := ⟨_, rfl⟩
      rw [← ep] at c0 c1 c2 c3 c4 c5 hk1 hk2 hw64 hsn hmp hsp
      clear ep
      go_upto_region 5 with (first | (refine wpList_boxNew (vs := [.int .i64 0, .int .i64 0, .bool false, .slice none 0 0, .slice none 0 0, .bool false]) (by kernel_rfl) rfl rfl ?_; intro wa hba hBa) | (refine wpList_boxStore (us := [.int .i64 p.snap, .int .i64 p.stamp, .bool p.held, .slice A1 p.reads.length A2, .slice A3 p.writes.length A4, .bool p.out]) (by kernel_rfl) rfl rfl rfl rfl rfl rfl hBa rfl ?_; intro W2 hgw Bx) | fail)
      (try go_simp)
      have hbw := hba.grown hgw hba.size fun k hk => by injection hk with hk; omega
      clear c0 c1 c2 c3 c4 c5 hba hBa hgw
      have hJ2 := hAb _ _ _ _ none hJ (grown_below' hbw none) (by simp)
      have hq2 := hq.trans (hbw.mono hq.size)
      replace hk1 := hk1.below hbw
      replace hk2 := hk2.below hbw
      have x0 := Bx.cell (i := 0) rfl
      have x1 := Bx.cell (i := 1) rfl
      have x2 := Bx.cell (i := 2) rfl
      have x3 := Bx.cell (i := 3) rfl
      have x4 := Bx.cell (i := 4) rfl
      have x5 := Bx.cell (i := 5) rfl
      clear hJ hq hbw Bx
      by_cases hm : lst.snap < p.stamp
      · have dm : decide (lst.snap < p.stamp) = true := decide_eq_true hm
        have hsn2 := Lib.hid (show keepP (L.take (i + 1)) lvs = keepP (L.take i) lvs ++ [p] by rw [hsn.out, hmp.out, dm]; rfl)
        obtain ⟨y, hy⟩ : ∃ y : PEl, y = ⟨A1, A2, A3, A4, p⟩ := ⟨_, rfl⟩
        have hyp : y.p = p := by rw [hy]
        have hgd : GdP w0.heap.size y W2 := by
          rw [hy]
          exact ⟨⟨A1, A2, A3, A4, rfl, hk1, hk2, hw64⟩, hq2.size, hsp.out⟩
        have hyl := hY () ys y W2 hJ2 hgd (by
          have h1 := congrArg List.length hys
          obtain ⟨r, h2⟩ := hpre.out
          rw [hsn2.out] at h2
          rw [h2] at hN
          simp only [List.length_append, List.length_map, List.length_cons, List.length_nil] at h1 hN
          omega)
        replace hys := Lib.hid hys
        have hyn := Lib.hid (show (ys ++ [y]).map (·.p) = keepP (L.take (i + 1)) lvs by rw [hsn2.out, List.map_append, hys.out, List.map_cons, List.map_nil, hyp])
        obtain ⟨fn, tmps, assign, body, hyr, hR⟩ := hyl
        rw [hy] at hyr
        replace hyr : (Instr.yield l #[.agg #[.int .i64 p.snap, .int .i64 p.stamp, .bool p.held, .slice A1 p.reads.length A2, .slice A3 p.writes.length A4, .bool p.out]]).run Try.prog W2 = _ := hyr
        replace hyp := Lib.hid hyp
        replace hgd := Lib.hid hgd
        clear hy hm hk1 hk2 hsn hmp hsn2
        refine (wpIn_wide (n := 2)).1 ?_
        gi_wp2
        refine hR.mono ?_
        clear hR
        rintro e W5 (⟨rfl, hJ5, hK5⟩ | ⟨rfl, hx5⟩)
        · gi_wp2
          go_wp2_with fail
          go_roundw
          case rel => exact ⟨i + 1, ys ++ [y], by go_num, by omega, hyn.out, hJ5, hq2.trans hK5⟩
          case measure => simp [intOf]; omega
        · gi_wp2
          go_wp2_with fail
          (try simp only [Exit.inBlock, Exit.then])
          refine bodyPost_ret (results_none rfl _ _ _) rfl ?_
          obtain ⟨r, h2⟩ := hpre.out
          exact ⟨⟨_, rfl⟩, (), .inr ⟨ys ++ [y], ⟨r, by rw [← elvs.out, h2, hyn.out]⟩, hx5⟩⟩
      · have dm : decide (lst.snap < p.stamp) = false := decide_eq_false hm
        have hsn2 := Lib.hid (show keepP (L.take (i + 1)) lvs = keepP (L.take i) lvs by rw [hsn.out, hmp.out, dm]; simp)
        clear hm hk1 hk2 hsn hmp hpre
        go_wp2_with fail
        go_roundw
        case rel => exact ⟨i + 1, ys, by go_num, by omega, by rw [hsn2.out]; exact hys, hJ2, hq2⟩
        case measure => simp [intOf]; omega
    · obtain rfl : i = L.length := by omega
      have d1 : decide ((L.length : Int) < (L.length : Int)) = false := by simp
      rw [List.take_length] at hys
      replace hys := Lib.hid hys
      go_wp2_with fail
      go_end0
      exact ⟨⟨_, rfl⟩, (), .inl ⟨ys, by rw [← elvs.out]; exact hys.out, hJ⟩⟩
theorem behind_stops {w0 w : World} {L : List Ps} {lv : List Lv} {N lb pb : Nat} {a1 a2 : Option Addr} {d1 d2 : Nat} (hL : RdL Elt.ps (· < w0.heap.size) w0 (.slice a1 L.length d1) L) (hV : RdL Elt.lv (· < w0.heap.size) w0 (.slice a2 lv.length d2) lv) (hsm : ∀ p ∈ L, smP p) (hw : Below w0.heap.size w0 w)
    (hlb : Boxed w lb 27 (.slice a2 lv.length d2)) (hpb : Boxed w pb 26 (.slice a1 L.length d1)) (hN : (keepP L lv).length ≤ N) :
    SeqStopsG Try.prog 58 #[.pointer (some ⟨lb, 0, none⟩), .pointer (some ⟨pb, 0, none⟩)] PEl.enc (fun (_ : Unit) => Below w0.heap.size) (fun (_ : Unit) => GdP w0.heap.size) (fun ys => ys.map (·.p) = keepP L lv) (PreK (keepP L lv)) N w := fun l _ _ W hW hAb _ hY h0 =>
  behind1_in l hL hV hsm hAb hY W (hw.trans (hW.mono hw.size)) ((hW.block _ hlb.lt).trans hlb) ((hW.block _ hpb.lt).trans hpb) h0 hN
end Go.Proofs.Ytobelnedhlepaaa
namespace Go.Proofs.Ytobelnedhlepaaa
open Go.RowKit Go.Shelf
attribute [local go_sem] Oper.semAt_some
theorem rdL_cellsP {α : Type} {E : Elt α} (hE : OnlyP E) {S : Nat → Prop} {w : World} {v : Value} {xs : List α} (h : RdL E S w v xs) : RdL E (fun k => S k ∧ cellsAtP w k) w v xs := by
  obtain ⟨a, cap, h1, h2, h3, h4⟩ := h
  by_cases h0 : xs = []
  · exact ⟨a, cap, h1, h2, h3, .inl h0⟩
  obtain ⟨b, off, e, hb, hr⟩ := h4.resolve_left h0
  have hpos : 0 < xs.length := List.length_pos_iff.2 h0
  have hcl : cellsAtP w b := by
    obtain ⟨vs, hR, hc⟩ := hr 0 hpos
    have hl := E.len hR
    have hp := E.pos
    exact cells_of_cell (hc 0 vs[0] (List.getElem?_eq_getElem (by omega)))
  refine ⟨a, cap, h1, h2, h3, .inr ⟨b, off, e, ⟨hb, hcl⟩, fun r h => ?_⟩⟩
  obtain ⟨vs, hR, hc⟩ := hr r h
  exact ⟨vs, hE _ _ _ _ hR, hc⟩
theorem sp_only : OnlyP Elt.sp := fun _ _ _ _ h => by
  obtain ⟨k, v, e, h1, h2, h3⟩ := h
  exact ⟨k, v, e, rdS_cellsP h1, rdS_cellsP h2, h3⟩
theorem wr_only : OnlyP Elt.wr := fun _ _ _ _ h => by
  obtain ⟨k, v, e, h1, h2, h3⟩ := h
  exact ⟨k, v, e, rdS_cellsP h1, rdS_cellsP h2, h3⟩
theorem ps_only : OnlyP Elt.ps := fun _ _ _ _ h => by
  obtain ⟨k, v, e, h1, h2, h3⟩ := h
  exact ⟨k, v, e, rdL_cellsP sp_only h1, rdL_cellsP wr_only h2, h3⟩
theorem rdL_ownP {α : Type} {E : Elt α} (hE : OnlyP E) {S : Nat → Prop} {v : Value} {xs : List α} {X Y : World} {row : Option Nat} (h : RdL E S X v xs) (hg : X.grownBy Y row) (hr : ∀ r, row = some r → ∃ o : Obj, X.heap[r]? = some o ∧ o.isCells = false) : RdL E S Y v xs :=
  ((rdL_cellsP hE h).keep fun k hk => by
    obtain ⟨o, ho, hc⟩ := hk.2
    exact grownBy_keeps_cells hg hr ho hc).weak fun _ hk => hk.1
theorem GdP.own {n₀ : Nat} {y : PEl} {X Y : World} {row : Option Nat} (h : GdP n₀ y X) (hg : X.grownBy Y row) (hr : ∀ r, row = some r → ∃ o : Obj, X.heap[r]? = some o ∧ o.isCells = false) : GdP n₀ y Y := by
  obtain ⟨⟨a, c, a2, c2, e, h1, h2, h3⟩, h4, h5⟩ := h
  exact ⟨⟨a, c, a2, c2, e, rdL_ownP sp_only h1 hg hr, rdL_ownP wr_only h2 hg hr, h3⟩, Nat.le_trans h4 hg.size, h5⟩
theorem keepsFromP_below {B : Nat} {w w' : World} (h : Below w.heap.size w w') : KeepsFrom B w w' := KeepsFrom.of_grownBy (grown_below' h none) (fun j e => by cases e)
theorem keepsFromP_box {B b : Nat} {w w' : World} {t : TypeId} {vs : List Value} (hb : BoxN w b t vs) (hg : w.grownBy w' (some b)) : KeepsFrom B w w' :=
  ⟨hg.size, fun k o _ hk hc => (hg.block k (Array.getElem?_eq_some_iff.1 hk).1 fun e => by
    injection e with e
    subst e
    rw [show w.heap[k]? = _ from hb] at hk
    cases hk
    cases hc).trans hk⟩
def NewP (W : World) (p : Ps) (w : World) (u : Value) : Prop := ∃ us : List Value, u = .agg us.toArray ∧ us.length = 6 ∧ Elt.ps.R (fun g => W.heap.size ≤ g ∧ g < w.heap.size) w p us
theorem NewP.below {W : World} {p : Ps} (w : World) (u : Value) (w' : World) (h : NewP W p w u) (hb : Below w.heap.size w w') : NewP W p w' u := by
  obtain ⟨us, e, hl, h⟩ := h
  exact ⟨us, e, hl, Elt.weak Elt.ps (Elt.below h hb) fun g hg => ⟨hg.1, Nat.lt_of_lt_of_le hg.2 hb.size⟩⟩
theorem NewP.grown {W : World} {p : Ps} {r : Option Nat} (hr : ∀ k, r = some k → k < W.heap.size) (w : World) (u : Value) (w' : World) (h : NewP W p w u) (hg : w.grownBy w' r) : NewP W p w' u := by
  obtain ⟨us, e, hl, h⟩ := h
  exact ⟨us, e, hl, Elt.weak Elt.ps (Elt.keep Elt.ps h fun g hg2 => hg.block g hg2.2 fun e => by have := hr g e.symm; omega) fun g hg2 => ⟨hg2.1, Nat.lt_of_lt_of_le hg2.2 hg.size⟩⟩
set_option maxRecDepth 100000 in
set_option maxHeartbeats 8000000 in
theorem sKeep_any (w : World) {S S2 : Nat → Prop} {a a2 : Option Addr} {n cx n2 cy : Nat} {l : List Ps} {lv : List Lv} (hl : RdL Elt.ps S w (.slice a n cx) l) (hm : RdL Elt.lv S2 w (.slice a2 n2 cy) lv) (hsm : smPs l) :
    Calls Try.prog 33 #[.slice a n cx, .slice a2 n2 cy] w (PsEnd w (keepP l lv)) := by
  replace hl : RdL Elt.ps (· < w.heap.size) w (.slice a n cx) l := hl.fit.weak fun _ h => h.2
  replace hm : RdL Elt.lv (· < w.heap.size) w (.slice a2 n2 cy) lv := hm.fit.weak fun _ h => h.2
  obtain ⟨rfl, _, _⟩ := hl.len
  obtain ⟨rfl, _, _⟩ := hm.len
  have hkl := keepP_len l lv
  have hl1 := hsm.1
  obtain ⟨W0, hW0⟩ : ∃ W, W = w.alloc (.cells #[.slice none 0 0] 26) := ⟨_, rfl⟩
  have hs0 : W0.heap.size = w.heap.size + 1 := by rw [hW0]; simp
  have b0 : Boxed W0 w.heap.size 26 (.slice none 0 0) := by rw [hW0]; exact Boxed.new _ _ _
  have q0 : Below w.heap.size w W0 := by rw [hW0]; exact (Below.refl _ _).alloc (Nat.le_refl _) _
  refine calls_of_wp_marks Try.func33 rfl ?_
  simp only [Try.ntmps33, List.size_toArray, List.length_cons, List.length_nil, Nat.reduceAdd, Nat.reduceSub, Array.replicate_succ, Array.replicate_zero, List.push_toArray, List.append_toArray, List.nil_append, List.cons_append]
  go_upto_region 2 with (fail)
  rw [← hW0]
  clear hW0
  go_wp2_with fail
  refine (behind_any W0 _ _ _ _ _ _).mono ?_
  rintro e wS ⟨rfl, hw'⟩
  have bP : Boxed wS (w.heap.size + 1) 26 (.slice a l.length cx) := by
    rw [hw']
    have := Boxed.new W0 26 (.slice a l.length cx)
    rw [hs0] at this
    exact this.alloc _
  have bL : Boxed wS (w.heap.size + 2) 27 (.slice a2 lv.length cy) := by
    rw [hw']
    have := Boxed.new (W0.alloc (.cells #[.slice a l.length cx] 26)) 27 (.slice a2 lv.length cy)
    rw [World.size_alloc, hs0] at this
    exact this
  have bO : Boxed wS w.heap.size 26 (.slice none 0 0) := by
    rw [hw']
    exact (b0.alloc _).alloc _
  have hbS : Below W0.heap.size W0 wS := by rw [hw']; exact ((Below.refl _ _).alloc (Nat.le_refl _) _).alloc (by simp) _
  have hsS : wS.heap.size = w.heap.size + 3 := by rw [hw']; simp [hs0]
  have qS := q0.trans (hbS.mono q0.size)
  rw [hs0]
  clear hw' b0 hbS q0 hs0
  have hst := behind_stops (w0 := w) (w := wS) (N := 1000000) (lb := w.heap.size + 2) (pb := w.heap.size + 1) hl hm hsm.2 qS bL bP (by omega)
  clear bP bL
  go_wp2_with fail
  refine wp_rangeFuncG (gf := 58) (lb := #[.pointer (some ⟨w.heap.size + 2, 0, none⟩), .pointer (some ⟨w.heap.size + 1, 0, none⟩)]) rfl (enters_of Try.func58 (by kernel_rfl) rfl)
    hst (fun h k => h.trans k) (fun _ => belowK_b (by omega)) (Below.refl _ _) (fun _ => rfl)
    (fun _ (pre : List PEl) W => Below w.heap.size w W ∧ BoxLP Elt.ps 26 50 w.heap.size (w.heap.size + 3) (w.heap.size + 3) W (pre.map (·.p)) ∧ w.heap.size + 3 ≤ W.heap.size)
    (fun _ c pre W => False)
    (fun _ => OwnFrom.and (below_ownN (Nat.le_refl _) (by omega)) (OwnFrom.and (BoxLP.own ps_only _) (fun _ _ _ _ hs hg _ => Nat.le_trans hs hg.size)))
    (fun i c _ _ _ _ hs _ _ => hs)
    (fun _ => ⟨qS, ⟨none, 0, 0, bO, OwnL.nil _ _ _ _ _⟩, by omega⟩)
    (fun _ y a' W => ∃ Bx, w.heap.size + 3 ≤ Bx ∧ BoxN W Bx 50 [.int .i64 y.p.snap, .int .i64 y.p.stamp, .bool y.p.held, .slice y.ad y.p.reads.length y.c, .slice y.ad2 y.p.writes.length y.c2, .bool y.p.out] ∧ GdP w.heap.size y W ∧ (∃ ad k c, Boxed W w.heap.size 26 (.slice ad k c) ∧ Value.ownBlock (.slice ad k c) ≠ some Bx) ∧ a' = { tmps := #[.slice a l.length cx, .slice a2 lv.length cy, undef, undef, .slice none 0 0, .pointer (some ⟨w.heap.size, 0, none⟩), .pointer (some ⟨Bx, 0, none⟩), .slice a l.length cx, .slice a2 lv.length cy, .func (.func 58) #[] #[.pointer (some ⟨w.heap.size + 2, 0, none⟩), .pointer (some ⟨w.heap.size + 1, 0, none⟩)], .agg #[.int .i64 y.p.snap, .int .i64 y.p.stamp, .bool y.p.held, .slice y.ad y.p.reads.length y.c, .slice y.ad2 y.p.writes.length y.c2, .bool y.p.out], undef, undef, undef, undef, undef, undef], defers := [] })
    (fun _ y a' _ X Y row hs hg hr => by
      obtain ⟨Bx, h1, h2, h3, ⟨ad, k, c, h4, h5⟩, e⟩ := hs
      exact ⟨Bx, h1, boxN_own () X Y row h2 hg hr, h3.own hg fun r e => (hr r e).2, ⟨ad, k, c, (grownBy_keeps_cells hg (fun r e => (hr r e).2) h4 rfl).trans h4, h5⟩, e⟩) ?assign ?body ?done ?stop
  case assign =>
    rintro i l0 pre y W K ⟨hb, hx, hs⟩ hgd hK
    have eZ : (#[10] : Array Tmp).zip y.enc = #[(10, .agg #[.int .i64 y.p.snap, .int .i64 y.p.stamp, .bool y.p.held, .slice y.ad y.p.reads.length y.c, .slice y.ad2 y.p.writes.length y.c2, .bool y.p.out])] := by kernel_rfl
    rw [eZ]
    simp only [List.foldl_toArray', List.foldl_cons, List.foldl_nil]
    go_simp
    gi_wp2_with (first | (refine inR_boxNew (vs := [.int .i64 0, .int .i64 0, .bool false, .slice none 0 0, .slice none 0 0, .bool false]) (by kernel_rfl) rfl rfl ?_; intro wa hba hBa) | (refine inR_boxStore (us := [.int .i64 y.p.snap, .int .i64 y.p.stamp, .bool y.p.held, .slice y.ad y.p.reads.length y.c, .slice y.ad2 y.p.writes.length y.c2, .bool y.p.out]) (by kernel_rfl) rfl rfl rfl rfl rfl rfl hBa rfl ?_; intro wb hgb hBb) | fail)
    have hbb := hba.grown hgb hba.size fun k e => by injection e with e; omega
    obtain ⟨ao, ko, co, hbx, hO⟩ := hx
    have hbx2 := (hbb.block _ hbx.lt).trans hbx
    exact hK _ _ ((keepsFromP_below hba).trans (keepsFromP_box hBa hgb)) (hbb.mono hb.size) ⟨hb.trans (hbb.mono hb.size), ⟨ao, ko, co, hbx2, hO.below hbb⟩, by have := hbb.size; omega⟩ ⟨W.heap.size, hs, hBb, hgd.own (grown_below' hbb none) (fun r e => by cases e), ⟨ao, ko, co, hbx2, fun e => by have := (hO.block_lt _ e).2; omega⟩, rfl⟩
  case stop =>
    rintro hi D c pre W4 hD _ h _
    exact h.elim
  case body =>
    rintro i l0 pre y a' W ⟨hb, ⟨ad, k, c, hbx, hO⟩, hs⟩ ⟨Bx, hBx, hbp, ⟨hxr, _, hsp⟩, ⟨ad', k', c', hbx', hne⟩, rfl⟩ hlt
    have hvv : Value.slice ad' k' c' = .slice ad k c := by
      have h1 := hbx'.symm.trans hbx
      simpa using h1
    rw [hvv] at hne
    clear hvv hbx'
    have hob : ∀ i, Value.ownBlock (.slice ad k c) = some i → w.heap.size + 3 ≤ i ∧ i < W.heap.size := hO.block_lt
    have hlen : (pre.map (·.p)).length + 1 ≤ 1073741824 := by rw [List.length_map]; omega
    have eC : ∀ args w, (callFunc 51 args).run Try.prog w = .ok (.enter 51 args) w := enters_of Try.func51 (by kernel_rfl) rfl
    refine wpIn_block ?_
    refine wpIn_region_setl (K := fun _ _ => True) (by kernel_rfl) (by kernel_rfl) (by kernel_rfl) [0, 2, 3, 4, 5] (by kernel_rfl) [lAny, lEq (.agg #[.int .i64 y.p.snap, .int .i64 y.p.stamp, .bool y.p.held, .slice y.ad y.p.reads.length y.c, .slice y.ad2 y.p.writes.length y.c2, .bool y.p.out]), lAny, lAny, lAny, lAny]
      (ColLP Elt.ps 26 50 w.heap.size (w.heap.size + 3) (w.heap.size + 3) W (.slice ad k c) (pre.map (·.p)) y.p (NewP W y.p)) (ColLP.more NewP.below) (ColP.start W)
      ⟨?o0, ?o1, ?o2, ?o3, ?o4, ?o5, trivial⟩ ?fin
    case o0 =>
      refine StOp.set rfl (by kernel_rfl) (fun A va D w' hF hT hN' hE hd hu hg => ?_)
      have e1 : A.eval (.tmp 5) = .pointer (some ⟨w.heap.size, 0, none⟩) := hF 5 rfl
      have hE2 := hE
      simp only [told, List.map_cons, List.map_nil, hN', Bool.false_eq_true, if_false] at hE2
      obtain ⟨h5, h6⟩ := ColP.load hE2 hbx
      refine wp_ld_slice (e := 50) rfl e1 (by kernel_rfl) h5.cell ⟨_, rfl, ?_, trivial⟩
      simpa [ColLP, told, don, upd] using h6
    case o1 =>
      refine StOp.free rfl (by kernel_rfl) (fun A va D w' hF hT hN' hE hd hu hg => ?_)
      have e1 : A.eval (.tmp 6) = .pointer (some ⟨Bx, 0, none⟩) := hF 6 rfl
      have hE2 := hE
      simp only [told, List.map_cons, List.map_nil] at hE2
      exact wp_loadN (us := [.int .i64 y.p.snap, .int .i64 y.p.stamp, .bool y.p.held, .slice y.ad y.p.reads.length y.c, .slice y.ad2 y.p.writes.length y.c2, .bool y.p.out]) psS rfl e1 (fun j u hj => by
        rw [Nat.zero_add]
        refine hE2.tr.cell (hbp.cell hj) ?_
        rintro (⟨_, e⟩ | ⟨_, e⟩)
        · exact hne e.symm
        · omega) ⟨_, rfl, rfl, Below.refl _ _⟩
    case o2 =>
      refine StOp.set rfl (by kernel_rfl) (fun A va D w' hF hT hN' hE hd hu hg => ?_)
      have e1 : A.eval (.tmp 12) = .agg #[.int .i64 y.p.snap, .int .i64 y.p.stamp, .bool y.p.held, .slice y.ad y.p.reads.length y.c, .slice y.ad2 y.p.writes.length y.c2, .bool y.p.out] := (hT 12 1 (by simp) rfl).trans (hg ⟨1, .data⟩ (by simp) rfl rfl)
      have hE2 := hE
      simp only [told, List.map_cons, List.map_nil, hN', Bool.false_eq_true, if_false] at hE2
      have hxw : RdPs (· < w.heap.size) w' (.agg #[.int .i64 y.p.snap, .int .i64 y.p.stamp, .bool y.p.held, .slice y.ad y.p.reads.length y.c, .slice y.ad2 y.p.writes.length y.c2, .bool y.p.out]) y.p := hxr.keep fun g hg => hE2.tr.block g (by omega) fun e => by
        rcases e with ⟨_, e⟩ | ⟨_, e⟩
        · have := hob g e.symm; omega
        · omega
      refine wp_callFn rfl eC (args := #[.agg #[.int .i64 y.p.snap, .int .i64 y.p.stamp, .bool y.p.held, .slice y.ad y.p.reads.length y.c, .slice y.ad2 y.p.writes.length y.c2, .bool y.p.out]]) (by simp only [List.map_toArray, List.map_cons, List.map_nil, e1]) ((pAlone_any w' hxw hsp).mono ?_)
      rintro e w2 ⟨v, rfl, hv, hb2⟩
      obtain ⟨us, rfl, hR, hus⟩ := hv.R
      have h5 := ColP.elem NewP.below hE2 hb2 (u := .agg us.toArray) ⟨us, rfl, hus, Elt.weak Elt.ps hR fun g hg => ⟨Nat.le_trans hE2.tr.size hg.1, hg.2⟩⟩
      exact ⟨_, rfl, _, rfl, by simpa [ColLP, told, don, upd] using h5, trivial⟩
    case o3 =>
      refine StOp.set rfl (by kernel_rfl) (fun A va D w' hF hT hN' hE hd hu hg => ?_)
      have x1 : A.eval (.tmp 13) = va 2 := hT 13 2 (by simp) rfl
      have d2 : D 2 = true := hd ⟨2, .data⟩ (by simp) rfl
      have hE2 := hE
      simp only [told, List.map_cons, List.map_nil, hN', d2, Bool.false_eq_true, if_false, if_true] at hE2
      have d4 : D 4 = false := by
        cases h : D 4 with
        | false => rfl
        | true => rw [h] at hE2; exact absurd rfl (ColP.dn hE2 (by simp)).2
      rw [d4] at hE2
      simp only [Bool.false_eq_true, if_false] at hE2
      have d5 : D 5 = false := by
        cases h : D 5 with
        | false => rfl
        | true => rw [h] at hE2; have := ColP.no hE2 rfl; simp at this
      rw [d5] at hE2
      simp only [Bool.false_eq_true, if_false] at hE2
      obtain ⟨us, ec, _, hR⟩ := hE2.el _ rfl
      refine ColP.build psP hE2 rfl (x1.trans ec) rfl (Elt.weak Elt.ps hR fun g hg => ⟨by omega, hg.2, fun e => by have := hob g e.symm; omega⟩) (by decide) NewP.below fun r w2 h6 => ⟨_, rfl, ?_, trivial⟩
      simpa [ColLP, told, don, upd, d2, d4, d5] using h6
    case o4 =>
      refine StOp.set rfl (by kernel_rfl) (fun A va D w' hF hT hN' hE hd hu hg => ?_)
      have x1 : A.eval (.tmp 11) = va 0 := hT 11 0 (by simp) rfl
      have x2 : A.eval (.tmp 14) = va 3 := hT 14 3 (by simp) rfl
      have d0 : D 0 = true := hd ⟨0, .data⟩ (by simp) rfl
      have d3 : D 3 = true := hd ⟨3, .data⟩ (by simp) rfl
      have hE2 := hE
      simp only [told, List.map_cons, List.map_nil, hN', d0, d3, Bool.false_eq_true, if_false, if_true] at hE2
      have d5 : D 5 = false := by
        cases h : D 5 with
        | false => rfl
        | true => rw [h] at hE2; have := ColP.no hE2 rfl; simp at this
      rw [d5] at hE2
      simp only [Bool.false_eq_true, if_false] at hE2
      refine ColP.app psP hE2 (by simp) rfl (x1.trans (hE2.ld _ rfl)) x2 hO (by omega) hlen (NewP.grown fun i hi => (hob i hi).2) fun r2 w2 h6 => ⟨_, rfl, ?_, trivial⟩
      simpa [ColLP, told, don, upd, d0, d3, d5] using h6
    case o5 =>
      refine StOp.set rfl (by kernel_rfl) (fun A va D w' hF hT hN' hE hd hu hg => ?_)
      have e1 : A.eval (.tmp 5) = .pointer (some ⟨w.heap.size, 0, none⟩) := hF 5 rfl
      have x2 : A.eval (.tmp 15) = va 4 := hT 15 4 (by simp) rfl
      have d4 : D 4 = true := hd ⟨4, .data⟩ (by simp) rfl
      have hE2 := hE
      simp only [told, List.map_cons, List.map_nil, hN', d4, Bool.false_eq_true, if_false, if_true] at hE2
      refine ColP.sto hE2 rfl (by kernel_rfl) e1 x2 hbx hO (by omega) (by omega) (NewP.grown fun i hi => by injection hi with hi; omega) fun w2 h6 => ⟨_, rfl, ?_, trivial⟩
      simpa [ColLP, told, don, upd, d4] using h6
    case fin =>
      intro vs1 W1 hE hG
      obtain ⟨h1, h2, h3⟩ := ColP.done (n₀ := w.heap.size) hE hbx hO (by omega) (by omega) wS.heap.size
      exact ⟨h1, h2, hb.trans h2, by rw [List.map_append]; exact h3, by have := h2.size; omega⟩
  case done =>
    rintro _ D ys W hD hys ⟨hb, ⟨ad, k, c, hbx, hO⟩, hs⟩ hK
    have hc := hbx.cell
    obtain rfl := hO.len
    rw [hys] at hO hc
    clear hbx
    replace hys := Lib.hid hys
    go_wp2_with fail
    refine ⟨by simp, .inl ⟨_, _, rfl, run_takeDeferred hK, ?_⟩⟩
    have hb5 := hb.trans (belowK_b (w := w) (Nat.le_refl _) W D _ (Obj.deferred none) (by omega) hK rfl rfl)
    have hO5 := OwnL.grownP ps_only hO (grownBy_putObj' W D (Obj.deferred none)) (fun r e => by injection e with e; subst e; exact ⟨_, hK, rfl⟩)
    exact ⟨_, by simp [results, Try.results33, go_sem], _, _, rfl, hO5.to (by omega) (by omega), hb5⟩
end Go.Proofs.Ytobelnedhlepaaa
namespace Go.Proofs.Ytobelnedhlepaaa
open Go.RowKit Go.Shelf
def TellsP (F : FuncId) (bs caps : Array Value) (S : Nat → Prop) (w : World) (p : Ps → Bool) : Prop :=
  ∀ (W : World) (v : Value) (x : Ps), Below w.heap.size w W → RdPs S W v x → Calls Try.prog F (bs ++ #[v] ++ caps) W fun e W' => e = .returned (.bool (p x)) ∧ Below W.heap.size W W'
set_option maxRecDepth 100000 in
set_option maxHeartbeats 4000000 in
theorem indexP_any (w : World) {S : Nat → Prop} {a : Option Addr} {n c : Nat} {l : List Ps} (hl : RdL Elt.ps S w (.slice a n c) l) (F : FuncId) (bs caps : Array Value) (hE : Enters Try.prog F) (p : Ps → Bool) (hF : TellsP F bs caps S w p) :
    Calls Try.prog 46 #[.slice a n c, .func (.func F) bs caps] w fun e w' => ∃ i : Int, e = .returned (.int .i64 i) ∧ FndA p l i ∧ Below w.heap.size w w' := by
  obtain ⟨rfl, hnc, hcm⟩ := hl.len
  have hlm : l.length ≤ 9223372036854775807 := by unfold maxLen at hcm; omega
  have hEE := hE
  unfold Enters at hEE
  have q := Below.refl w.heap.size w
  go_enter Try.func46, Try.ntmps46
  go_upto_region 2 with (fail)
  go_loopw [5, 8] (fun _ iv wr => ∃ (k : Nat), iv = .int .i64 k ∧ k ≤ l.length ∧ (∀ x ∈ l.take k, p x = false) ∧ Below w.heap.size w wr)
    (fun _ i _ => l.length - (intOf i).toNat)
  case atStart => exact ⟨0, rfl, Nat.zero_le _, by simp, q⟩
  case round =>
    clear q
    obtain ⟨k, rfl, hkl, hall, q⟩ := hrel
    replace hall := Lib.hid hall
    rcases Nat.lt_or_ge k l.length with hlt | hge
    · obtain ⟨b, off, A, C, A2, C2, rfl, hb, ⟨c0, c1, c2, c3, c4, c5⟩, hk1, hk2, hs64, ht64⟩ := (hl.below q).ps k hlt
      have hw : RdPs S wr (.agg #[.int .i64 l[k].snap, .int .i64 l[k].stamp, .bool l[k].held, .slice A l[k].reads.length C, .slice A2 l[k].writes.length C2, .bool l[k].out]) l[k] := ⟨A, C, A2, C2, rfl, hk1, hk2, hs64, ht64⟩
      go_upto_region 4 with (fail)
      go_wp2_with fail
      refine (hF wr _ _ q hw).mono ?_
      rintro e w1 ⟨rfl, hb1⟩
      replace q := q.trans (hb1.mono q.size)
      clear c0 c1 c2 c3 c4 c5 hk1 hk2 hw
      cases hm : p l[k] with
      | false =>
        have hall2 := Lib.hid (show ∀ x ∈ l.take (k + 1), p x = false from fun x hx => by
          rw [List.take_succ_eq_append_getElem hlt] at hx
          rcases List.mem_append.1 hx with h | h
          · exact hall.out x h
          · simp at h; rw [h]; exact hm)
        clear hall hm
        go_wp2_with fail
        go_roundw
        case rel => exact ⟨k + 1, by go_num, by omega, hall2.out, q⟩
        case measure => simp [intOf]; omega
      | true =>
        replace hm := Lib.hid hm
        go_wp2_with fail
        go_ret
        exact ⟨_, rfl, .inr ⟨k, hlt, rfl, hm.out, hall.out⟩, q⟩
    · obtain rfl : k = l.length := by omega
      have hno := Lib.hid (show ∀ x ∈ l, p x = false from fun x hx => hall.out x (by rw [List.take_length]; exact hx))
      clear hall
      go_wp2_with fail
      go_ret
      exact ⟨_, rfl, .inl ⟨rfl, hno.out⟩, q⟩
set_option maxRecDepth 100000 in
set_option maxHeartbeats 4000000 in
theorem containsP_any (w : World) {S : Nat → Prop} {a : Option Addr} {n c : Nat} {l : List Ps} (hl : RdL Elt.ps S w (.slice a n c) l) (F : FuncId) (bs caps : Array Value) (hE : Enters Try.prog F) (p : Ps → Bool) (hF : TellsP F bs caps S w p) :
    Calls Try.prog 30 #[.slice a n c, .func (.func F) bs caps] w fun e w' => e = .returned (.bool (l.any p)) ∧ Below w.heap.size w w' := by
  go_enter Try.func30, Try.ntmps30
  go_wp2_with fail
  refine (indexP_any w hl F bs caps hE p hF).mono ?_
  rintro e w1 ⟨i, rfl, hi, hb⟩
  have hd := Lib.hid (fndA_any hi)
  clear hi
  go_wp2_with fail
  go_ret
  exact ⟨by first | (rw [hd.out]; done) | (rw [← hd.out]; rfl), hb⟩
def TellsL (F : FuncId) (bs caps : Array Value) (S : Nat → Prop) (w : World) (p : Lv → Bool) : Prop :=
  ∀ (W : World) (v : Value) (x : Lv), Below w.heap.size w W → RdLv S W v x → Calls Try.prog F (bs ++ #[v] ++ caps) W fun e W' => e = .returned (.bool (p x)) ∧ Below W.heap.size W W'
set_option maxRecDepth 100000 in
set_option maxHeartbeats 4000000 in
theorem indexL_any (w : World) {S : Nat → Prop} {a : Option Addr} {n c : Nat} {l : List Lv} (hl : RdL Elt.lv S w (.slice a n c) l) (F : FuncId) (bs caps : Array Value) (hE : Enters Try.prog F) (p : Lv → Bool) (hF : TellsL F bs caps S w p) :
    Calls Try.prog 47 #[.slice a n c, .func (.func F) bs caps] w fun e w' => ∃ i : Int, e = .returned (.int .i64 i) ∧ FndA p l i ∧ Below w.heap.size w w' := by
  obtain ⟨rfl, hnc, hcm⟩ := hl.len
  have hlm : l.length ≤ 9223372036854775807 := by unfold maxLen at hcm; omega
  have hEE := hE
  unfold Enters at hEE
  have q := Below.refl w.heap.size w
  go_enter Try.func47, Try.ntmps47
  go_upto_region 2 with (fail)
  go_loopw [5, 8] (fun _ iv wr => ∃ (k : Nat), iv = .int .i64 k ∧ k ≤ l.length ∧ (∀ x ∈ l.take k, p x = false) ∧ Below w.heap.size w wr)
    (fun _ i _ => l.length - (intOf i).toNat)
  case atStart => exact ⟨0, rfl, Nat.zero_le _, by simp, q⟩
  case round =>
    clear q
    obtain ⟨k, rfl, hkl, hall, q⟩ := hrel
    replace hall := Lib.hid hall
    rcases Nat.lt_or_ge k l.length with hlt | hge
    · obtain ⟨b, off, A, C, rfl, hb, c0, c1, hk1, hs64⟩ := (hl.below q).lv k hlt
      have hw : RdLv S wr (.agg #[.int .i64 l[k].snap, .slice A l[k].reads.length C]) l[k] := ⟨A, C, rfl, hk1, hs64⟩
      go_upto_region 4 with (fail)
      go_wp2_with fail
      refine (hF wr _ _ q hw).mono ?_
      rintro e w1 ⟨rfl, hb1⟩
      replace q := q.trans (hb1.mono q.size)
      clear c0 c1 hk1 hw
      cases hm : p l[k] with
      | false =>
        have hall2 := Lib.hid (show ∀ x ∈ l.take (k + 1), p x = false from fun x hx => by
          rw [List.take_succ_eq_append_getElem hlt] at hx
          rcases List.mem_append.1 hx with h | h
          · exact hall.out x h
          · simp at h; rw [h]; exact hm)
        clear hall hm
        go_wp2_with fail
        go_roundw
        case rel => exact ⟨k + 1, by go_num, by omega, hall2.out, q⟩
        case measure => simp [intOf]; omega
      | true =>
        replace hm := Lib.hid hm
        go_wp2_with fail
        go_ret
        exact ⟨_, rfl, .inr ⟨k, hlt, rfl, hm.out, hall.out⟩, q⟩
    · obtain rfl : k = l.length := by omega
      have hno := Lib.hid (show ∀ x ∈ l, p x = false from fun x hx => hall.out x (by rw [List.take_length]; exact hx))
      clear hall
      go_wp2_with fail
      go_ret
      exact ⟨_, rfl, .inl ⟨rfl, hno.out⟩, q⟩
set_option maxRecDepth 100000 in
set_option maxHeartbeats 4000000 in
theorem containsL_any (w : World) {S : Nat → Prop} {a : Option Addr} {n c : Nat} {l : List Lv} (hl : RdL Elt.lv S w (.slice a n c) l) (F : FuncId) (bs caps : Array Value) (hE : Enters Try.prog F) (p : Lv → Bool) (hF : TellsL F bs caps S w p) :
    Calls Try.prog 31 #[.slice a n c, .func (.func F) bs caps] w fun e w' => e = .returned (.bool (l.any p)) ∧ Below w.heap.size w w' := by
  go_enter Try.func31, Try.ntmps31
  go_wp2_with fail
  refine (indexL_any w hl F bs caps hE p hF).mono ?_
  rintro e w1 ⟨i, rfl, hi, hb⟩
  have hd := Lib.hid (fndA_any hi)
  clear hi
  go_wp2_with fail
  go_ret
  exact ⟨by first | (rw [hd.out]; done) | (rw [← hd.out]; rfl), hb⟩
attribute [local go_sem] run_buildLv
set_option maxRecDepth 100000 in
set_option maxHeartbeats 8000000 in
theorem sMeetsP_any (w : World) {S : Nat → Prop} {a : Option Addr} {n cx : Nat} {l : List Ps} {s : Int} (hw : W64 s) (hl : RdL Elt.ps S w (.slice a n cx) l) (hsm : smPs l) :
    Calls Try.prog 15 #[.int .i64 s, .slice a n cx] w (PsEnd w (meetsP s l)) := by
  go_enter Try.func15, Try.ntmps15
  go_wp2_with (first | (refine wpList_buildOne (us := [.int .i64 s, .slice none 0 0]) lvP rfl rfl rfl rfl rfl (by decide) (by decide) ?_; intro w2 hb2 hrow) | fail)
  have hlv : RdL Elt.lv (fun _ => True) w2 (.slice (some ⟨w.heap.size, 0, none⟩) 1 1) [⟨s, []⟩] :=
    rd_row1 hrow trivial ⟨_, rfl, RdL.nil _ _ _, hw⟩
  refine (sKeep_any w2 (hl.below hb2) hlv hsm).mono ?_
  rintro e w3 ⟨a3, c3, rfl, hO, hb⟩
  rw [meetsP_keep] at hO ⊢
  have hs := hb2.size
  go_wp2_with fail
  go_ret
  exact ⟨_, _, rfl, hO.to (by omega) (by omega), hb2.trans (hb.mono hs)⟩
theorem meetsC : MeetsC := ⟨fun w _ _ _ _ _ _ hw hl hsm => sMeetsP_any w hw hl hsm⟩
end Go.Proofs.Ytobelnedhlepaaa
