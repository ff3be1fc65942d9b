/-
  TEXTS OF ONE PROOF, merged: SpanTellsW.
-/
import Derived.Test.YtcopdnigfnmnkaaMs6
namespace Go.Proofs.Ytcopdnigfnmnkaa
open Go.RowKit Go.Shelf
set_option maxRecDepth 100000 in
set_option maxHeartbeats 16000000 in
theorem SpanTells_w (w : World) {cs0 cs1 : Array Value} {t : Int} {p1 : Option Addr} {p2 p3 : Nat} {x y : Sp} {k : List UInt8} (h0 : RdSp (· < w.heap.size) w (.agg cs0) x) (h1 : RdSp (· < w.heap.size) w (.agg cs1) y) (h2 : (Lit.int .i64 t).wf = true) (h3 : Rd w.heap.size w (.slice p1 p2 p3) k) :
    Calls Try.prog 3 #[.agg cs0, .agg cs1, .int .i64 t, .slice p1 p2 p3] w fun e w' => e = .returned (.bool true) ∧ Below w.heap.size w w' := by
  have hx := h0
  obtain ⟨a1, a2, a3, a4, e, hlx, hhx, htx⟩ := h0
  injection e with e
  subst e
  clear hlx hhx
  have hy := h1
  obtain ⟨b1, b2, b3, b4, e, hly, hhy, hty⟩ := h1
  injection e with e
  subst e
  clear hly hhy
  have ht := w64w h2
  have hk := h3.s
  obtain ⟨rfl, _, km⟩ := hk.len
  have kb : k.length ≤ 9223372036854775807 := by unfold maxLen at km; omega
  clear km h2 h3
  obtain ⟨W0, hW, q, Bx, By, hsz⟩ := spBoxes2 w 24 24 [.int .i64 x.table, .slice a1 x.lo.length a2, .slice a3 x.hi.length a4, .bool x.isOpen] [.int .i64 y.table, .slice b1 y.lo.length b2, .slice b3 y.hi.length b4, .bool y.isOpen]
  clear hsz
  go_enter Try.func3, Try.ntmps3
  go_upto_region 1 with (fail)
  rw [show (w.alloc (.cells #[.int .i64 x.table, .slice a1 x.lo.length a2, .slice a3 x.hi.length a4, .bool x.isOpen] 24)).alloc (.cells #[.int .i64 y.table, .slice b1 y.lo.length b2, .slice b3 y.hi.length b4, .bool y.isOpen] 24) = W0 from hW.symm]
  clear hW
  go_wp2_with fail
  refine (awake10_any W0).mono ?_
  rintro e w1 ⟨rfl, hb⟩
  replace Bx := Bx.below hb Bx.lt
  replace By := By.below hb By.lt
  replace q := q.trans (hb.mono q.size)
  clear hb
  have cx0 := Bx.cell (i := 0) rfl
  have cx1 := Bx.cell (i := 1) rfl
  have cx2 := Bx.cell (i := 2) rfl
  have cx3 := Bx.cell (i := 3) rfl
  have hcl := short_any _ (hx.below q)
  go_wp2_with fail
  refine hcl.mono ?_
  rintro e wq1 ⟨rfl, hb⟩
  clear hcl cx0 cx1 cx2 cx3
  replace Bx := Bx.below hb Bx.lt
  replace By := By.below hb By.lt
  replace q := q.trans (hb.mono q.size)
  clear hb
  by_cases sx : shortS x
  case neg =>
    rw [decide_eq_false sx]
    go_wp2_with fail
    go_ret
    exact ⟨rfl, q⟩
  rw [decide_eq_true sx]
  clear sx
  have cy0 := By.cell (i := 0) rfl
  have cy1 := By.cell (i := 1) rfl
  have cy2 := By.cell (i := 2) rfl
  have cy3 := By.cell (i := 3) rfl
  have hcl := short_any _ (hy.below q)
  go_wp2_with fail
  refine hcl.mono ?_
  rintro e wq2 ⟨rfl, hb⟩
  clear hcl cy0 cy1 cy2 cy3
  replace Bx := Bx.below hb Bx.lt
  replace By := By.below hb By.lt
  replace q := q.trans (hb.mono q.size)
  clear hb
  by_cases sy : shortS y
  case neg =>
    rw [decide_eq_false sy]
    go_wp2_with fail
    go_ret
    exact ⟨rfl, q⟩
  rw [decide_eq_true sy]
  clear sy
  rcases Nat.lt_or_ge 100 k.length with g0 | g0
  · have d0 : decide ((100 : Int) < (k.length : Int)) = true := decide_eq_true (by omega)
    go_wp2_with fail
    go_ret
    exact ⟨rfl, q⟩
  have d0 : decide ((100 : Int) < (k.length : Int)) = false := decide_eq_false (by omega)
  clear kb
  have hcl := sPoint_any _ (hk.below q) ht (by omega)
  go_wp2_with fail
  refine hcl.mono ?_
  rintro e v1 ⟨vhP1, rfl, hP1, hb⟩
  clear hcl
  replace Bx := Bx.below hb Bx.lt
  replace By := By.below hb By.lt
  replace q := q.trans (hb.mono q.size)
  clear hb
  clear d0
  have hcl := rPoint_any _ (hk.below q) ht (by omega)
  go_wp2_with fail
  refine hcl.mono ?_
  rintro e v2 ⟨vhP2, rfl, hP2, hb⟩
  clear hcl
  replace Bx := Bx.below hb Bx.lt
  replace By := By.below hb By.lt
  replace hP1 := hP1.below hb
  replace q := q.trans (hb.mono q.size)
  clear hb
  have hcl := rOne_any _ hP1 hP2
  rw [decide_eq_true rfl] at hcl
  go_wp2_with fail
  refine hcl.mono ?_
  rintro e v3 ⟨rfl, hb⟩
  clear hcl hP1 hP2
  replace Bx := Bx.below hb Bx.lt
  replace By := By.below hb By.lt
  replace q := q.trans (hb.mono q.size)
  clear hb
  have hcl := sAll_any v3 ht
  go_wp2_with fail
  refine hcl.mono ?_
  rintro e v4 ⟨vhA, rfl, hA, hb⟩
  clear hcl
  replace Bx := Bx.below hb Bx.lt
  replace By := By.below hb By.lt
  replace q := q.trans (hb.mono q.size)
  clear hb
  have hcl := rOne_any _ hA (S2 := fun _ => True) (y := allS t) ⟨none, 0, none, 0, rfl, RdS.nil _ _, RdS.nil _ _, ht⟩
  rw [decide_eq_true rfl] at hcl
  go_wp2_with fail
  refine hcl.mono ?_
  rintro e v5 ⟨rfl, hb⟩
  clear hcl hA
  replace Bx := Bx.below hb Bx.lt
  replace By := By.below hb By.lt
  replace q := q.trans (hb.mono q.size)
  clear hb
  go_upto_region 5 with (fail)
  have ek1 : ∀ args w, (callFunc 14 args).run Try.prog w = .ok (.enter 14 args) w := enters_of Try.func14 (by kernel_rfl) rfl
  have ek2 : ∀ args w, (callFunc 15 args).run Try.prog w = .ok (.enter 15 args) w := enters_of Try.func15 (by kernel_rfl) rfl
  have ek3 : ∀ args w, (callFunc 16 args).run Try.prog w = .ok (.enter 16 args) w := enters_of Try.func16 (by kernel_rfl) rfl
  have ek4 : ∀ args w, (callFunc 17 args).run Try.prog w = .ok (.enter 17 args) w := enters_of Try.func17 (by kernel_rfl) rfl
  have ek5 : ∀ args w, (callFunc 18 args).run Try.prog w = .ok (.enter 18 args) w := enters_of Try.func18 (by kernel_rfl) rfl
  have ek6 : ∀ args w, (callFunc 19 args).run Try.prog w = .ok (.enter 19 args) w := enters_of Try.func19 (by kernel_rfl) rfl
  have hxq := hx.below q
  have hkq := hk.below q
  refine wp_region_gsg (by kernel_rfl) (by kernel_rfl) [sgEq (.agg #[.int .i64 x.table, .slice a1 x.lo.length a2, .slice a3 x.hi.length a4, .bool x.isOpen]), sgEq (.bool (decide (mayS x))), sgEq (.agg #[.int .i64 x.table, .slice a1 x.lo.length a2, .slice a3 x.hi.length a4, .bool x.isOpen]), sgEq (.bool (decide (mayS x))), sgEq (.bool true), sgEq (.bool true), sgEq (.agg #[.int .i64 x.table, .slice a1 x.lo.length a2, .slice a3 x.hi.length a4, .bool x.isOpen]), sgEq (.bool (emptyS x)), sgEq (.agg #[.int .i64 x.table, .slice a1 x.lo.length a2, .slice a3 x.hi.length a4, .bool x.isOpen]), sgEq (.bool (emptyS x)), sgEq (.bool true), sgEq (.bool true), sgEq (.bool true), sgEq (.agg #[.int .i64 x.table, .slice a1 x.lo.length a2, .slice a3 x.hi.length a4, .bool x.isOpen]), sgEq (.int .i64 t), sgEq (.slice p1 k.length p3), sgEq (.bool (inT x t k)), sgEq (.agg #[.int .i64 x.table, .slice a1 x.lo.length a2, .slice a3 x.hi.length a4, .bool x.isOpen]), sgEq (.int .i64 t), sgEq (.slice p1 k.length p3), sgEq (.bool (inT x t k)), sgEq (.bool true), sgEq (.bool true), sgEq (.bool true)]
    ⟨?o0, ?o1, ?o2, ?o3, ?o4, ?o5, ?o6, ?o7, ?o8, ?o9, ?o10, ?o11, ?o12, ?o13, ?o14, ?o15, ?o16, ?o17, ?o18, ?o19, ?o20, ?o21, ?o22, ?o23, trivial⟩ ?fin
  case o0 =>
    refine GdOp.plain rfl (fun A vs w' hF hT hb hd => ?_)
    have e1 : A.eval (.tmp 4) = .pointer (some ⟨w.heap.size, 0, none⟩) := hF 4 rfl
    exact wp_load4 spS rfl e1 ((Bx.below hb Bx.lt).cell (i := 0) rfl) ((Bx.below hb Bx.lt).cell (i := 1) rfl) ((Bx.below hb Bx.lt).cell (i := 2) rfl) ((Bx.below hb Bx.lt).cell (i := 3) rfl) ⟨_, rfl, rfl, Below.refl _ _⟩
  case o1 =>
    refine GdOp.plain rfl (fun A vs w' hF hT hb hd => ?_)
    have e1 : A.eval (.tmp 41) = .agg #[.int .i64 x.table, .slice a1 x.lo.length a2, .slice a3 x.hi.length a4, .bool x.isOpen] := (hT 41 0 (by simp) rfl).trans (hd ⟨0, .data⟩ (by simp) rfl)
    refine wp_callFn rfl ek1 (args := #[.agg #[.int .i64 x.table, .slice a1 x.lo.length a2, .slice a3 x.hi.length a4, .bool x.isOpen]]) (by simp only [List.map_toArray, List.map_cons, List.map_nil, e1]) ((sCheck_any w' (hxq.below hb)).mono ?_)
    rintro e w2 ⟨rfl, hb2⟩
    exact ⟨_, rfl, _, rfl, rfl, hb2⟩
  case o2 =>
    refine GdOp.plain rfl (fun A vs w' hF hT hb hd => ?_)
    have e1 : A.eval (.tmp 4) = .pointer (some ⟨w.heap.size, 0, none⟩) := hF 4 rfl
    exact wp_load4 spS rfl e1 ((Bx.below hb Bx.lt).cell (i := 0) rfl) ((Bx.below hb Bx.lt).cell (i := 1) rfl) ((Bx.below hb Bx.lt).cell (i := 2) rfl) ((Bx.below hb Bx.lt).cell (i := 3) rfl) ⟨_, rfl, rfl, Below.refl _ _⟩
  case o3 =>
    refine GdOp.plain rfl (fun A vs w' hF hT hb hd => ?_)
    have e1 : A.eval (.tmp 43) = .agg #[.int .i64 x.table, .slice a1 x.lo.length a2, .slice a3 x.hi.length a4, .bool x.isOpen] := (hT 43 2 (by simp) rfl).trans (hd ⟨2, .data⟩ (by simp) rfl)
    refine wp_callFn rfl ek2 (args := #[.agg #[.int .i64 x.table, .slice a1 x.lo.length a2, .slice a3 x.hi.length a4, .bool x.isOpen]]) (by simp only [List.map_toArray, List.map_cons, List.map_nil, e1]) ((rCheck_any w' (hxq.below hb)).mono ?_)
    rintro e w2 ⟨rfl, hb2⟩
    exact ⟨_, rfl, _, rfl, rfl, hb2⟩
  case o4 =>
    refine GdOp.plain rfl (fun A vs w' hF hT hb hd => ?_)
    have e1 : A.eval (.tmp 42) = .bool (decide (mayS x)) := (hT 42 1 (by simp) rfl).trans (hd ⟨1, .data⟩ (by simp) rfl)
    have e2 : A.eval (.tmp 44) = .bool (decide (mayS x)) := (hT 44 3 (by simp) rfl).trans (hd ⟨3, .data⟩ (by simp) rfl)
    exact wp_eqlB (by kernel_rfl) rfl e1 e2 ⟨_, rfl, (congrArg Value.bool (beq_self_eq_true _)), Below.refl _ _⟩
  case o5 =>
    refine GdOp.plain rfl (fun A vs w' hF hT hb hd => ?_)
    have e1 : A.eval (.tmp 45) = .bool true := (hT 45 4 (by simp) rfl).trans (hd ⟨4, .data⟩ (by simp) rfl)
    exact BigFrame.wp_move _ rfl ⟨_, rfl, e1, Below.refl _ _⟩
  case o6 =>
    refine GdOp.taken rfl ⟨_, _, rfl, rfl, by simp⟩ (by kernel_rfl) (fun w v h => h) (fun A vs w' hF hT hb hd => ?_)
    have e1 : A.eval (.tmp 4) = .pointer (some ⟨w.heap.size, 0, none⟩) := hF 4 rfl
    exact wp_load4 spS rfl e1 ((Bx.below hb Bx.lt).cell (i := 0) rfl) ((Bx.below hb Bx.lt).cell (i := 1) rfl) ((Bx.below hb Bx.lt).cell (i := 2) rfl) ((Bx.below hb Bx.lt).cell (i := 3) rfl) ⟨_, rfl, rfl, Below.refl _ _⟩
  case o7 =>
    refine GdOp.taken rfl ⟨_, _, rfl, rfl, by simp⟩ (by kernel_rfl) (fun w v h => h) (fun A vs w' hF hT hb hd => ?_)
    have e1 : A.eval (.tmp 47) = .agg #[.int .i64 x.table, .slice a1 x.lo.length a2, .slice a3 x.hi.length a4, .bool x.isOpen] := (hT 47 6 (by simp) rfl).trans (hd ⟨6, .data⟩ (by simp) rfl)
    refine wp_callFn rfl ek3 (args := #[.agg #[.int .i64 x.table, .slice a1 x.lo.length a2, .slice a3 x.hi.length a4, .bool x.isOpen]]) (by simp only [List.map_toArray, List.map_cons, List.map_nil, e1]) ((sEmpty_any w' (hxq.below hb)).mono ?_)
    rintro e w2 ⟨rfl, hb2⟩
    exact ⟨_, rfl, _, rfl, rfl, hb2⟩
  case o8 =>
    refine GdOp.taken rfl ⟨_, _, rfl, rfl, by simp⟩ (by kernel_rfl) (fun w v h => h) (fun A vs w' hF hT hb hd => ?_)
    have e1 : A.eval (.tmp 4) = .pointer (some ⟨w.heap.size, 0, none⟩) := hF 4 rfl
    exact wp_load4 spS rfl e1 ((Bx.below hb Bx.lt).cell (i := 0) rfl) ((Bx.below hb Bx.lt).cell (i := 1) rfl) ((Bx.below hb Bx.lt).cell (i := 2) rfl) ((Bx.below hb Bx.lt).cell (i := 3) rfl) ⟨_, rfl, rfl, Below.refl _ _⟩
  case o9 =>
    refine GdOp.taken rfl ⟨_, _, rfl, rfl, by simp⟩ (by kernel_rfl) (fun w v h => h) (fun A vs w' hF hT hb hd => ?_)
    have e1 : A.eval (.tmp 49) = .agg #[.int .i64 x.table, .slice a1 x.lo.length a2, .slice a3 x.hi.length a4, .bool x.isOpen] := (hT 49 8 (by simp) rfl).trans (hd ⟨8, .data⟩ (by simp) rfl)
    refine wp_callFn rfl ek4 (args := #[.agg #[.int .i64 x.table, .slice a1 x.lo.length a2, .slice a3 x.hi.length a4, .bool x.isOpen]]) (by simp only [List.map_toArray, List.map_cons, List.map_nil, e1]) ((rEmpty_any w' (hxq.below hb)).mono ?_)
    rintro e w2 ⟨rfl, hb2⟩
    exact ⟨_, rfl, _, rfl, rfl, hb2⟩
  case o10 =>
    refine GdOp.taken rfl ⟨_, _, rfl, rfl, by simp⟩ (by kernel_rfl) (fun w v h => h) (fun A vs w' hF hT hb hd => ?_)
    have e1 : A.eval (.tmp 48) = .bool (emptyS x) := (hT 48 7 (by simp) rfl).trans (hd ⟨7, .data⟩ (by simp) rfl)
    have e2 : A.eval (.tmp 50) = .bool (emptyS x) := (hT 50 9 (by simp) rfl).trans (hd ⟨9, .data⟩ (by simp) rfl)
    exact wp_eqlB (by kernel_rfl) rfl e1 e2 ⟨_, rfl, (congrArg Value.bool (beq_self_eq_true _)), Below.refl _ _⟩
  case o11 =>
    refine GdOp.plain rfl (fun A vs w' hF hT hb hd => ?_)
    have e1 : A.eval (.tmp 46) = .bool true := (hT 46 5 (by simp) rfl).trans (hd ⟨5, .data⟩ (by simp) rfl)
    have e2 : A.eval (.tmp 51) = .bool true := (hT 51 10 (by simp) rfl).trans (hd ⟨10, .data⟩ (by simp) rfl)
    exact wp_pk rfl e1 (fun _ => e2) (by simp) ⟨_, rfl, rfl, Below.refl _ _⟩
  case o12 =>
    refine GdOp.plain rfl (fun A vs w' hF hT hb hd => ?_)
    have e1 : A.eval (.tmp 52) = .bool true := (hT 52 11 (by simp) rfl).trans (hd ⟨11, .data⟩ (by simp) rfl)
    exact BigFrame.wp_move _ rfl ⟨_, rfl, e1, Below.refl _ _⟩
  case o13 =>
    refine GdOp.taken rfl ⟨_, _, rfl, rfl, by simp⟩ (by kernel_rfl) (fun w v h => h) (fun A vs w' hF hT hb hd => ?_)
    have e1 : A.eval (.tmp 4) = .pointer (some ⟨w.heap.size, 0, none⟩) := hF 4 rfl
    exact wp_load4 spS rfl e1 ((Bx.below hb Bx.lt).cell (i := 0) rfl) ((Bx.below hb Bx.lt).cell (i := 1) rfl) ((Bx.below hb Bx.lt).cell (i := 2) rfl) ((Bx.below hb Bx.lt).cell (i := 3) rfl) ⟨_, rfl, rfl, Below.refl _ _⟩
  case o14 =>
    refine GdOp.taken rfl ⟨_, _, rfl, rfl, by simp⟩ (by kernel_rfl) (fun w v h => h) (fun A vs w' hF hT hb hd => ?_)
    have e1 : A.eval (.tmp 2) = .int .i64 t := hF 2 rfl
    exact BigFrame.wp_move _ rfl ⟨_, rfl, e1, Below.refl _ _⟩
  case o15 =>
    refine GdOp.taken rfl ⟨_, _, rfl, rfl, by simp⟩ (by kernel_rfl) (fun w v h => h) (fun A vs w' hF hT hb hd => ?_)
    have e1 : A.eval (.tmp 3) = .slice p1 k.length p3 := hF 3 rfl
    exact BigFrame.wp_move _ rfl ⟨_, rfl, e1, Below.refl _ _⟩
  case o16 =>
    refine GdOp.taken rfl ⟨_, _, rfl, rfl, by simp⟩ (by kernel_rfl) (fun w v h => h) (fun A vs w' hF hT hb hd => ?_)
    have e1 : A.eval (.tmp 54) = .agg #[.int .i64 x.table, .slice a1 x.lo.length a2, .slice a3 x.hi.length a4, .bool x.isOpen] := (hT 54 13 (by simp) rfl).trans (hd ⟨13, .data⟩ (by simp) rfl)
    have e2 : A.eval (.tmp 55) = .int .i64 t := (hT 55 14 (by simp) rfl).trans (hd ⟨14, .data⟩ (by simp) rfl)
    have e3 : A.eval (.tmp 56) = .slice p1 k.length p3 := (hT 56 15 (by simp) rfl).trans (hd ⟨15, .data⟩ (by simp) rfl)
    refine wp_callFn rfl ek5 (args := #[.agg #[.int .i64 x.table, .slice a1 x.lo.length a2, .slice a3 x.hi.length a4, .bool x.isOpen], .int .i64 t, .slice p1 k.length p3]) (by simp only [List.map_toArray, List.map_cons, List.map_nil, e1, e2, e3]) ((sIn_any w' (t := t) (hxq.below hb) (hkq.below hb)).mono ?_)
    rintro e w2 ⟨rfl, hb2⟩
    exact ⟨_, rfl, _, rfl, rfl, hb2⟩
  case o17 =>
    refine GdOp.taken rfl ⟨_, _, rfl, rfl, by simp⟩ (by kernel_rfl) (fun w v h => h) (fun A vs w' hF hT hb hd => ?_)
    have e1 : A.eval (.tmp 4) = .pointer (some ⟨w.heap.size, 0, none⟩) := hF 4 rfl
    exact wp_load4 spS rfl e1 ((Bx.below hb Bx.lt).cell (i := 0) rfl) ((Bx.below hb Bx.lt).cell (i := 1) rfl) ((Bx.below hb Bx.lt).cell (i := 2) rfl) ((Bx.below hb Bx.lt).cell (i := 3) rfl) ⟨_, rfl, rfl, Below.refl _ _⟩
  case o18 =>
    refine GdOp.taken rfl ⟨_, _, rfl, rfl, by simp⟩ (by kernel_rfl) (fun w v h => h) (fun A vs w' hF hT hb hd => ?_)
    have e1 : A.eval (.tmp 2) = .int .i64 t := hF 2 rfl
    exact BigFrame.wp_move _ rfl ⟨_, rfl, e1, Below.refl _ _⟩
  case o19 =>
    refine GdOp.taken rfl ⟨_, _, rfl, rfl, by simp⟩ (by kernel_rfl) (fun w v h => h) (fun A vs w' hF hT hb hd => ?_)
    have e1 : A.eval (.tmp 3) = .slice p1 k.length p3 := hF 3 rfl
    exact BigFrame.wp_move _ rfl ⟨_, rfl, e1, Below.refl _ _⟩
  case o20 =>
    refine GdOp.taken rfl ⟨_, _, rfl, rfl, by simp⟩ (by kernel_rfl) (fun w v h => h) (fun A vs w' hF hT hb hd => ?_)
    have e1 : A.eval (.tmp 58) = .agg #[.int .i64 x.table, .slice a1 x.lo.length a2, .slice a3 x.hi.length a4, .bool x.isOpen] := (hT 58 17 (by simp) rfl).trans (hd ⟨17, .data⟩ (by simp) rfl)
    have e2 : A.eval (.tmp 59) = .int .i64 t := (hT 59 18 (by simp) rfl).trans (hd ⟨18, .data⟩ (by simp) rfl)
    have e3 : A.eval (.tmp 60) = .slice p1 k.length p3 := (hT 60 19 (by simp) rfl).trans (hd ⟨19, .data⟩ (by simp) rfl)
    refine wp_callFn rfl ek6 (args := #[.agg #[.int .i64 x.table, .slice a1 x.lo.length a2, .slice a3 x.hi.length a4, .bool x.isOpen], .int .i64 t, .slice p1 k.length p3]) (by simp only [List.map_toArray, List.map_cons, List.map_nil, e1, e2, e3]) ((rIn_any w' (t := t) (hxq.below hb) (hkq.below hb)).mono ?_)
    rintro e w2 ⟨rfl, hb2⟩
    exact ⟨_, rfl, _, rfl, rfl, hb2⟩
  case o21 =>
    refine GdOp.taken rfl ⟨_, _, rfl, rfl, by simp⟩ (by kernel_rfl) (fun w v h => h) (fun A vs w' hF hT hb hd => ?_)
    have e1 : A.eval (.tmp 57) = .bool (inT x t k) := (hT 57 16 (by simp) rfl).trans (hd ⟨16, .data⟩ (by simp) rfl)
    have e2 : A.eval (.tmp 61) = .bool (inT x t k) := (hT 61 20 (by simp) rfl).trans (hd ⟨20, .data⟩ (by simp) rfl)
    exact wp_eqlB (by kernel_rfl) rfl e1 e2 ⟨_, rfl, (congrArg Value.bool (beq_self_eq_true _)), Below.refl _ _⟩
  case o22 =>
    refine GdOp.plain rfl (fun A vs w' hF hT hb hd => ?_)
    have e1 : A.eval (.tmp 53) = .bool true := (hT 53 12 (by simp) rfl).trans (hd ⟨12, .data⟩ (by simp) rfl)
    have e2 : A.eval (.tmp 62) = .bool true := (hT 62 21 (by simp) rfl).trans (hd ⟨21, .data⟩ (by simp) rfl)
    exact wp_pk rfl e1 (fun _ => e2) (by simp) ⟨_, rfl, rfl, Below.refl _ _⟩
  case o23 =>
    refine GdOp.plain rfl (fun A vs w' hF hT hb hd => ?_)
    have e1 : A.eval (.tmp 63) = .bool true := (hT 63 22 (by simp) rfl).trans (hd ⟨22, .data⟩ (by simp) rfl)
    exact BigFrame.wp_assign _ rfl ⟨_, rfl, e1, Below.refl _ _⟩
  case fin =>
  intro vs9 W9 hb9 hG9
  have e0 : vs9 0 = .agg #[.int .i64 x.table, .slice a1 x.lo.length a2, .slice a3 x.hi.length a4, .bool x.isOpen] := hG9 0 (by decide)
  have e1 : vs9 1 = .bool (decide (mayS x)) := hG9 1 (by decide)
  have e2 : vs9 2 = .agg #[.int .i64 x.table, .slice a1 x.lo.length a2, .slice a3 x.hi.length a4, .bool x.isOpen] := hG9 2 (by decide)
  have e3 : vs9 3 = .bool (decide (mayS x)) := hG9 3 (by decide)
  have e4 : vs9 4 = .bool true := hG9 4 (by decide)
  have e5 : vs9 5 = .bool true := hG9 5 (by decide)
  have e6 : vs9 6 = .agg #[.int .i64 x.table, .slice a1 x.lo.length a2, .slice a3 x.hi.length a4, .bool x.isOpen] := hG9 6 (by decide)
  have e7 : vs9 7 = .bool (emptyS x) := hG9 7 (by decide)
  have e8 : vs9 8 = .agg #[.int .i64 x.table, .slice a1 x.lo.length a2, .slice a3 x.hi.length a4, .bool x.isOpen] := hG9 8 (by decide)
  have e9 : vs9 9 = .bool (emptyS x) := hG9 9 (by decide)
  have e10 : vs9 10 = .bool true := hG9 10 (by decide)
  have e11 : vs9 11 = .bool true := hG9 11 (by decide)
  have e12 : vs9 12 = .bool true := hG9 12 (by decide)
  have e13 : vs9 13 = .agg #[.int .i64 x.table, .slice a1 x.lo.length a2, .slice a3 x.hi.length a4, .bool x.isOpen] := hG9 13 (by decide)
  have e14 : vs9 14 = .int .i64 t := hG9 14 (by decide)
  have e15 : vs9 15 = .slice p1 k.length p3 := hG9 15 (by decide)
  have e16 : vs9 16 = .bool (inT x t k) := hG9 16 (by decide)
  have e17 : vs9 17 = .agg #[.int .i64 x.table, .slice a1 x.lo.length a2, .slice a3 x.hi.length a4, .bool x.isOpen] := hG9 17 (by decide)
  have e18 : vs9 18 = .int .i64 t := hG9 18 (by decide)
  have e19 : vs9 19 = .slice p1 k.length p3 := hG9 19 (by decide)
  have e20 : vs9 20 = .bool (inT x t k) := hG9 20 (by decide)
  have e21 : vs9 21 = .bool true := hG9 21 (by decide)
  have e22 : vs9 22 = .bool true := hG9 22 (by decide)
  have e23 : vs9 23 = .bool true := hG9 23 (by decide)
  simp only [putAll, e0, e1, e2, e3, e4, e5, e6, e7, e8, e9, e10, e11, e12, e13, e14, e15, e16, e17, e18, e19, e20, e21, e22, e23]
  clear hG9 e0 e1 e2 e3 e4 e5 e6 e7 e8 e9 e10 e11 e12 e13 e14 e15 e16 e17 e18 e19 e20 e21 e22 e23
  replace Bx := Bx.below hb9 Bx.lt
  replace By := By.below hb9 By.lt
  replace q := q.trans (hb9.mono q.size)
  clear hb9
  go_simp
  clear hxq hkq ek1 ek2 ek3 ek4 ek5 ek6
  go_upto_region 6 with (fail)
  have ek7 : ∀ args w, (callFunc 20 args).run Try.prog w = .ok (.enter 20 args) w := enters_of Try.func20 (by kernel_rfl) rfl
  have ek8 : ∀ args w, (callFunc 21 args).run Try.prog w = .ok (.enter 21 args) w := enters_of Try.func21 (by kernel_rfl) rfl
  have ek9 : ∀ args w, (callFunc 22 args).run Try.prog w = .ok (.enter 22 args) w := enters_of Try.func22 (by kernel_rfl) rfl
  have ek0 : ∀ args w, (callFunc 23 args).run Try.prog w = .ok (.enter 23 args) w := enters_of Try.func23 (by kernel_rfl) rfl
  have hxq := hx.below q
  have hyq := hy.below q
  refine wp_region_gsa (by kernel_rfl) (by kernel_rfl) [sgEq (.bool true), sgEq (.bool true), sgEq (.bool true), sgEq (.bool true), sgEq (.bool true), sgEq (.bool true), sgEq (.bool true), sgEq (.bool true), sgEq (.agg #[.int .i64 x.table, .slice a1 x.lo.length a2, .slice a3 x.hi.length a4, .bool x.isOpen]), sgEq (.agg #[.int .i64 y.table, .slice b1 y.lo.length b2, .slice b3 y.hi.length b4, .bool y.isOpen]), sgEq (.bool (meetsS x y)), sgEq (.agg #[.int .i64 x.table, .slice a1 x.lo.length a2, .slice a3 x.hi.length a4, .bool x.isOpen]), sgEq (.agg #[.int .i64 y.table, .slice b1 y.lo.length b2, .slice b3 y.hi.length b4, .bool y.isOpen]), sgEq (.bool (meetsS x y)), sgEq (.bool true), sgEq (.bool true), sgEq (.bool true), sgEq (.agg #[.int .i64 x.table, .slice a1 x.lo.length a2, .slice a3 x.hi.length a4, .bool x.isOpen]), sgEq (.agg #[.int .i64 y.table, .slice b1 y.lo.length b2, .slice b3 y.hi.length b4, .bool y.isOpen]), sgEq (.bool (coversS x y)), sgEq (.agg #[.int .i64 x.table, .slice a1 x.lo.length a2, .slice a3 x.hi.length a4, .bool x.isOpen]), sgEq (.agg #[.int .i64 y.table, .slice b1 y.lo.length b2, .slice b3 y.hi.length b4, .bool y.isOpen]), sgEq (.bool (coversS x y)), sgEq (.bool true), sgEq (.bool true), sgEq (.bool true)]
    ⟨?o0, ?o1, ?o2, ?o3, ?o4, ?o5, ?o6, ?o7, ?o8, ?o9, ?o10, ?o11, ?o12, ?o13, ?o14, ?o15, ?o16, ?o17, ?o18, ?o19, ?o20, ?o21, ?o22, ?o23, ?o24, ?o25, trivial⟩ ?fin
  case o0 =>
    refine GdOp.plain rfl (fun A vs w' hF hT hb hd => ?_)
    have e1 : A.eval (.tmp 9) = .bool true := hF 9 rfl
    exact BigFrame.wp_move _ rfl ⟨_, rfl, e1, Below.refl _ _⟩
  case o1 =>
    refine GdOp.plain rfl (fun A vs w' hF hT hb hd => ?_)
    have e1 : A.eval (.tmp 64) = .bool true := (hT 64 0 (by simp) rfl).trans (hd ⟨0, .data⟩ (by simp) rfl)
    exact BigFrame.wp_move _ rfl ⟨_, rfl, e1, Below.refl _ _⟩
  case o2 =>
    refine GdOp.taken rfl ⟨_, _, rfl, rfl, by simp⟩ (by kernel_rfl) (fun w v h => h) (fun A vs w' hF hT hb hd => ?_)
    have e1 : A.eval (.tmp 10) = .bool true := hF 10 rfl
    exact BigFrame.wp_move _ rfl ⟨_, rfl, e1, Below.refl _ _⟩
  case o3 =>
    refine GdOp.plain rfl (fun A vs w' hF hT hb hd => ?_)
    have e1 : A.eval (.tmp 65) = .bool true := (hT 65 1 (by simp) rfl).trans (hd ⟨1, .data⟩ (by simp) rfl)
    have e2 : A.eval (.tmp 66) = .bool true := (hT 66 2 (by simp) rfl).trans (hd ⟨2, .data⟩ (by simp) rfl)
    exact wp_pk rfl e1 (fun _ => e2) (by simp) ⟨_, rfl, rfl, Below.refl _ _⟩
  case o4 =>
    refine GdOp.plain rfl (fun A vs w' hF hT hb hd => ?_)
    have e1 : A.eval (.tmp 67) = .bool true := (hT 67 3 (by simp) rfl).trans (hd ⟨3, .data⟩ (by simp) rfl)
    exact BigFrame.wp_move _ rfl ⟨_, rfl, e1, Below.refl _ _⟩
  case o5 =>
    refine GdOp.taken rfl ⟨_, _, rfl, rfl, by simp⟩ (by kernel_rfl) (fun w v h => h) (fun A vs w' hF hT hb hd => ?_)
    have e1 : A.eval (.tmp 11) = .bool true := hF 11 rfl
    exact BigFrame.wp_move _ rfl ⟨_, rfl, e1, Below.refl _ _⟩
  case o6 =>
    refine GdOp.plain rfl (fun A vs w' hF hT hb hd => ?_)
    have e1 : A.eval (.tmp 68) = .bool true := (hT 68 4 (by simp) rfl).trans (hd ⟨4, .data⟩ (by simp) rfl)
    have e2 : A.eval (.tmp 69) = .bool true := (hT 69 5 (by simp) rfl).trans (hd ⟨5, .data⟩ (by simp) rfl)
    exact wp_pk rfl e1 (fun _ => e2) (by simp) ⟨_, rfl, rfl, Below.refl _ _⟩
  case o7 =>
    refine GdOp.plain rfl (fun A vs w' hF hT hb hd => ?_)
    have e1 : A.eval (.tmp 70) = .bool true := (hT 70 6 (by simp) rfl).trans (hd ⟨6, .data⟩ (by simp) rfl)
    exact BigFrame.wp_move _ rfl ⟨_, rfl, e1, Below.refl _ _⟩
  case o8 =>
    refine GdOp.taken rfl ⟨_, _, rfl, rfl, by simp⟩ (by kernel_rfl) (fun w v h => h) (fun A vs w' hF hT hb hd => ?_)
    have e1 : A.eval (.tmp 4) = .pointer (some ⟨w.heap.size, 0, none⟩) := hF 4 rfl
    exact wp_load4 spS rfl e1 ((Bx.below hb Bx.lt).cell (i := 0) rfl) ((Bx.below hb Bx.lt).cell (i := 1) rfl) ((Bx.below hb Bx.lt).cell (i := 2) rfl) ((Bx.below hb Bx.lt).cell (i := 3) rfl) ⟨_, rfl, rfl, Below.refl _ _⟩
  case o9 =>
    refine GdOp.taken rfl ⟨_, _, rfl, rfl, by simp⟩ (by kernel_rfl) (fun w v h => h) (fun A vs w' hF hT hb hd => ?_)
    have e1 : A.eval (.tmp 5) = .pointer (some ⟨w.heap.size + 1, 0, none⟩) := hF 5 rfl
    exact wp_load4 spS rfl e1 ((By.below hb By.lt).cell (i := 0) rfl) ((By.below hb By.lt).cell (i := 1) rfl) ((By.below hb By.lt).cell (i := 2) rfl) ((By.below hb By.lt).cell (i := 3) rfl) ⟨_, rfl, rfl, Below.refl _ _⟩
  case o10 =>
    refine GdOp.taken rfl ⟨_, _, rfl, rfl, by simp⟩ (by kernel_rfl) (fun w v h => h) (fun A vs w' hF hT hb hd => ?_)
    have e1 : A.eval (.tmp 72) = .agg #[.int .i64 x.table, .slice a1 x.lo.length a2, .slice a3 x.hi.length a4, .bool x.isOpen] := (hT 72 8 (by simp) rfl).trans (hd ⟨8, .data⟩ (by simp) rfl)
    have e2 : A.eval (.tmp 73) = .agg #[.int .i64 y.table, .slice b1 y.lo.length b2, .slice b3 y.hi.length b4, .bool y.isOpen] := (hT 73 9 (by simp) rfl).trans (hd ⟨9, .data⟩ (by simp) rfl)
    refine wp_callFn rfl ek7 (args := #[.agg #[.int .i64 x.table, .slice a1 x.lo.length a2, .slice a3 x.hi.length a4, .bool x.isOpen], .agg #[.int .i64 y.table, .slice b1 y.lo.length b2, .slice b3 y.hi.length b4, .bool y.isOpen]]) (by simp only [List.map_toArray, List.map_cons, List.map_nil, e1, e2]) ((sMeets_any w' (hxq.below hb) (hyq.below hb)).mono ?_)
    rintro e w2 ⟨rfl, hb2⟩
    exact ⟨_, rfl, _, rfl, rfl, hb2⟩
  case o11 =>
    refine GdOp.taken rfl ⟨_, _, rfl, rfl, by simp⟩ (by kernel_rfl) (fun w v h => h) (fun A vs w' hF hT hb hd => ?_)
    have e1 : A.eval (.tmp 4) = .pointer (some ⟨w.heap.size, 0, none⟩) := hF 4 rfl
    exact wp_load4 spS rfl e1 ((Bx.below hb Bx.lt).cell (i := 0) rfl) ((Bx.below hb Bx.lt).cell (i := 1) rfl) ((Bx.below hb Bx.lt).cell (i := 2) rfl) ((Bx.below hb Bx.lt).cell (i := 3) rfl) ⟨_, rfl, rfl, Below.refl _ _⟩
  case o12 =>
    refine GdOp.taken rfl ⟨_, _, rfl, rfl, by simp⟩ (by kernel_rfl) (fun w v h => h) (fun A vs w' hF hT hb hd => ?_)
    have e1 : A.eval (.tmp 5) = .pointer (some ⟨w.heap.size + 1, 0, none⟩) := hF 5 rfl
    exact wp_load4 spS rfl e1 ((By.below hb By.lt).cell (i := 0) rfl) ((By.below hb By.lt).cell (i := 1) rfl) ((By.below hb By.lt).cell (i := 2) rfl) ((By.below hb By.lt).cell (i := 3) rfl) ⟨_, rfl, rfl, Below.refl _ _⟩
  case o13 =>
    refine GdOp.taken rfl ⟨_, _, rfl, rfl, by simp⟩ (by kernel_rfl) (fun w v h => h) (fun A vs w' hF hT hb hd => ?_)
    have e1 : A.eval (.tmp 75) = .agg #[.int .i64 x.table, .slice a1 x.lo.length a2, .slice a3 x.hi.length a4, .bool x.isOpen] := (hT 75 11 (by simp) rfl).trans (hd ⟨11, .data⟩ (by simp) rfl)
    have e2 : A.eval (.tmp 76) = .agg #[.int .i64 y.table, .slice b1 y.lo.length b2, .slice b3 y.hi.length b4, .bool y.isOpen] := (hT 76 12 (by simp) rfl).trans (hd ⟨12, .data⟩ (by simp) rfl)
    refine wp_callFn rfl ek8 (args := #[.agg #[.int .i64 x.table, .slice a1 x.lo.length a2, .slice a3 x.hi.length a4, .bool x.isOpen], .agg #[.int .i64 y.table, .slice b1 y.lo.length b2, .slice b3 y.hi.length b4, .bool y.isOpen]]) (by simp only [List.map_toArray, List.map_cons, List.map_nil, e1, e2]) ((rMeets_any w' (hxq.below hb) (hyq.below hb)).mono ?_)
    rintro e w2 ⟨rfl, hb2⟩
    exact ⟨_, rfl, _, rfl, rfl, hb2⟩
  case o14 =>
    refine GdOp.taken rfl ⟨_, _, rfl, rfl, by simp⟩ (by kernel_rfl) (fun w v h => h) (fun A vs w' hF hT hb hd => ?_)
    have e1 : A.eval (.tmp 74) = .bool (meetsS x y) := (hT 74 10 (by simp) rfl).trans (hd ⟨10, .data⟩ (by simp) rfl)
    have e2 : A.eval (.tmp 77) = .bool (meetsS x y) := (hT 77 13 (by simp) rfl).trans (hd ⟨13, .data⟩ (by simp) rfl)
    exact wp_eqlB (by kernel_rfl) rfl e1 e2 ⟨_, rfl, (congrArg Value.bool (beq_self_eq_true _)), Below.refl _ _⟩
  case o15 =>
    refine GdOp.plain rfl (fun A vs w' hF hT hb hd => ?_)
    have e1 : A.eval (.tmp 71) = .bool true := (hT 71 7 (by simp) rfl).trans (hd ⟨7, .data⟩ (by simp) rfl)
    have e2 : A.eval (.tmp 78) = .bool true := (hT 78 14 (by simp) rfl).trans (hd ⟨14, .data⟩ (by simp) rfl)
    exact wp_pk rfl e1 (fun _ => e2) (by simp) ⟨_, rfl, rfl, Below.refl _ _⟩
  case o16 =>
    refine GdOp.plain rfl (fun A vs w' hF hT hb hd => ?_)
    have e1 : A.eval (.tmp 79) = .bool true := (hT 79 15 (by simp) rfl).trans (hd ⟨15, .data⟩ (by simp) rfl)
    exact BigFrame.wp_move _ rfl ⟨_, rfl, e1, Below.refl _ _⟩
  case o17 =>
    refine GdOp.taken rfl ⟨_, _, rfl, rfl, by simp⟩ (by kernel_rfl) (fun w v h => h) (fun A vs w' hF hT hb hd => ?_)
    have e1 : A.eval (.tmp 4) = .pointer (some ⟨w.heap.size, 0, none⟩) := hF 4 rfl
    exact wp_load4 spS rfl e1 ((Bx.below hb Bx.lt).cell (i := 0) rfl) ((Bx.below hb Bx.lt).cell (i := 1) rfl) ((Bx.below hb Bx.lt).cell (i := 2) rfl) ((Bx.below hb Bx.lt).cell (i := 3) rfl) ⟨_, rfl, rfl, Below.refl _ _⟩
  case o18 =>
    refine GdOp.taken rfl ⟨_, _, rfl, rfl, by simp⟩ (by kernel_rfl) (fun w v h => h) (fun A vs w' hF hT hb hd => ?_)
    have e1 : A.eval (.tmp 5) = .pointer (some ⟨w.heap.size + 1, 0, none⟩) := hF 5 rfl
    exact wp_load4 spS rfl e1 ((By.below hb By.lt).cell (i := 0) rfl) ((By.below hb By.lt).cell (i := 1) rfl) ((By.below hb By.lt).cell (i := 2) rfl) ((By.below hb By.lt).cell (i := 3) rfl) ⟨_, rfl, rfl, Below.refl _ _⟩
  case o19 =>
    refine GdOp.taken rfl ⟨_, _, rfl, rfl, by simp⟩ (by kernel_rfl) (fun w v h => h) (fun A vs w' hF hT hb hd => ?_)
    have e1 : A.eval (.tmp 81) = .agg #[.int .i64 x.table, .slice a1 x.lo.length a2, .slice a3 x.hi.length a4, .bool x.isOpen] := (hT 81 17 (by simp) rfl).trans (hd ⟨17, .data⟩ (by simp) rfl)
    have e2 : A.eval (.tmp 82) = .agg #[.int .i64 y.table, .slice b1 y.lo.length b2, .slice b3 y.hi.length b4, .bool y.isOpen] := (hT 82 18 (by simp) rfl).trans (hd ⟨18, .data⟩ (by simp) rfl)
    refine wp_callFn rfl ek9 (args := #[.agg #[.int .i64 x.table, .slice a1 x.lo.length a2, .slice a3 x.hi.length a4, .bool x.isOpen], .agg #[.int .i64 y.table, .slice b1 y.lo.length b2, .slice b3 y.hi.length b4, .bool y.isOpen]]) (by simp only [List.map_toArray, List.map_cons, List.map_nil, e1, e2]) ((sCovers_any w' (hxq.below hb) (hyq.below hb)).mono ?_)
    rintro e w2 ⟨rfl, hb2⟩
    exact ⟨_, rfl, _, rfl, rfl, hb2⟩
  case o20 =>
    refine GdOp.taken rfl ⟨_, _, rfl, rfl, by simp⟩ (by kernel_rfl) (fun w v h => h) (fun A vs w' hF hT hb hd => ?_)
    have e1 : A.eval (.tmp 4) = .pointer (some ⟨w.heap.size, 0, none⟩) := hF 4 rfl
    exact wp_load4 spS rfl e1 ((Bx.below hb Bx.lt).cell (i := 0) rfl) ((Bx.below hb Bx.lt).cell (i := 1) rfl) ((Bx.below hb Bx.lt).cell (i := 2) rfl) ((Bx.below hb Bx.lt).cell (i := 3) rfl) ⟨_, rfl, rfl, Below.refl _ _⟩
  case o21 =>
    refine GdOp.taken rfl ⟨_, _, rfl, rfl, by simp⟩ (by kernel_rfl) (fun w v h => h) (fun A vs w' hF hT hb hd => ?_)
    have e1 : A.eval (.tmp 5) = .pointer (some ⟨w.heap.size + 1, 0, none⟩) := hF 5 rfl
    exact wp_load4 spS rfl e1 ((By.below hb By.lt).cell (i := 0) rfl) ((By.below hb By.lt).cell (i := 1) rfl) ((By.below hb By.lt).cell (i := 2) rfl) ((By.below hb By.lt).cell (i := 3) rfl) ⟨_, rfl, rfl, Below.refl _ _⟩
  case o22 =>
    refine GdOp.taken rfl ⟨_, _, rfl, rfl, by simp⟩ (by kernel_rfl) (fun w v h => h) (fun A vs w' hF hT hb hd => ?_)
    have e1 : A.eval (.tmp 84) = .agg #[.int .i64 x.table, .slice a1 x.lo.length a2, .slice a3 x.hi.length a4, .bool x.isOpen] := (hT 84 20 (by simp) rfl).trans (hd ⟨20, .data⟩ (by simp) rfl)
    have e2 : A.eval (.tmp 85) = .agg #[.int .i64 y.table, .slice b1 y.lo.length b2, .slice b3 y.hi.length b4, .bool y.isOpen] := (hT 85 21 (by simp) rfl).trans (hd ⟨21, .data⟩ (by simp) rfl)
    refine wp_callFn rfl ek0 (args := #[.agg #[.int .i64 x.table, .slice a1 x.lo.length a2, .slice a3 x.hi.length a4, .bool x.isOpen], .agg #[.int .i64 y.table, .slice b1 y.lo.length b2, .slice b3 y.hi.length b4, .bool y.isOpen]]) (by simp only [List.map_toArray, List.map_cons, List.map_nil, e1, e2]) ((rCovers_any w' (hxq.below hb) (hyq.below hb)).mono ?_)
    rintro e w2 ⟨rfl, hb2⟩
    exact ⟨_, rfl, _, rfl, rfl, hb2⟩
  case o23 =>
    refine GdOp.taken rfl ⟨_, _, rfl, rfl, by simp⟩ (by kernel_rfl) (fun w v h => h) (fun A vs w' hF hT hb hd => ?_)
    have e1 : A.eval (.tmp 83) = .bool (coversS x y) := (hT 83 19 (by simp) rfl).trans (hd ⟨19, .data⟩ (by simp) rfl)
    have e2 : A.eval (.tmp 86) = .bool (coversS x y) := (hT 86 22 (by simp) rfl).trans (hd ⟨22, .data⟩ (by simp) rfl)
    exact wp_eqlB (by kernel_rfl) rfl e1 e2 ⟨_, rfl, (congrArg Value.bool (beq_self_eq_true _)), Below.refl _ _⟩
  case o24 =>
    refine GdOp.plain rfl (fun A vs w' hF hT hb hd => ?_)
    have e1 : A.eval (.tmp 80) = .bool true := (hT 80 16 (by simp) rfl).trans (hd ⟨16, .data⟩ (by simp) rfl)
    have e2 : A.eval (.tmp 87) = .bool true := (hT 87 23 (by simp) rfl).trans (hd ⟨23, .data⟩ (by simp) rfl)
    exact wp_pk rfl e1 (fun _ => e2) (by simp) ⟨_, rfl, rfl, Below.refl _ _⟩
  case o25 =>
    refine GdOp.plain rfl (fun A vs w' hF hT hb hd => ?_)
    have e1 : A.eval (.tmp 88) = .bool true := (hT 88 24 (by simp) rfl).trans (hd ⟨24, .data⟩ (by simp) rfl)
    exact BigFrame.wp_assign _ rfl ⟨_, rfl, e1, Below.refl _ _⟩
  case fin =>
    intro A vs w' hA hb hG
    have e6 : A.eval (.tmp 8) = .bool true := (hA.2.2.2 8 25 (by simp) rfl).trans (hG 25 (by decide))
    have hdf : A.defers = [] := hA.1
    clear hG hA
    go_wp2
    refine bodyPost_ret (v := .bool true) ?_ hdf ⟨rfl, q.trans (hb.mono q.size)⟩
    rw [← e6]
    exact results_tmp rfl _ _ _
end Go.Proofs.Ytcopdnigfnmnkaa
