/-
  TEXTS OF ONE PROOF, merged: SpanKeysW.
-/
import Derived.Test.YtcopdnigfnmnkaaMs6
namespace Go.Proofs.Ytcopdnigfnmnkaa
open Go.RowKit Go.Shelf
def sgVSp (x : Sp) : SG := ⟨fun w v => RdSp (fun _ => True) w v x, fun _ _ _ h hb => h.below hb⟩
set_option maxRecDepth 100000 in
set_option maxHeartbeats 32000000 in
theorem SpanKeys_w (w : World) {cs0 cs1 : Array Value} {t : Int} {p1 r1 : Option Addr} {p2 p3 r2 r3 : Nat} {x y : Sp} {k l : List UInt8} (h0 : RdSp (· < w.heap.size) w (.agg cs0) x) (h1 : RdSp (· < w.heap.size) w (.agg cs1) y) (h2 : (Lit.int .i64 t).wf = true) (h3 : Rd w.heap.size w (.slice p1 p2 p3) k) (h4 : Rd w.heap.size w (.slice r1 r2 r3) l) :
    Calls Try.prog 5 #[.agg cs0, .agg cs1, .int .i64 t, .slice p1 p2 p3, .slice r1 r2 r3] w fun e w' => e = .returned (.bool true) ∧ Below w.heap.size w w' := by
  have hx := h0
  obtain ⟨a1, a2, a3, a4, e, hlx, hhx, htx⟩ := h0
  injection e with e
  subst e
  clear hlx hhx
  have hy := h1
  obtain ⟨b1, b2, b3, b4, e, hly, hhy, hty⟩ := h1
  injection e with e
  subst e
  clear hly hhy
  have ht := w64w h2
  have hk := h3.s
  have hl := h4.s
  obtain ⟨rfl, _, km⟩ := hk.len
  obtain ⟨rfl, _, lm⟩ := hl.len
  have kb : k.length ≤ 9223372036854775807 := by unfold maxLen at km; omega
  have lb : l.length ≤ 9223372036854775807 := by unfold maxLen at lm; omega
  clear km lm h2 h3 h4
  obtain ⟨W0, hW, q, Bx, By, hsz⟩ := spBoxes2 w 24 24 [.int .i64 x.table, .slice a1 x.lo.length a2, .slice a3 x.hi.length a4, .bool x.isOpen] [.int .i64 y.table, .slice b1 y.lo.length b2, .slice b3 y.hi.length b4, .bool y.isOpen]
  clear hsz
  go_enter Try.func5, Try.ntmps5
  go_upto_region 1 with (fail)
  rw [show (w.alloc (.cells #[.int .i64 x.table, .slice a1 x.lo.length a2, .slice a3 x.hi.length a4, .bool x.isOpen] 24)).alloc (.cells #[.int .i64 y.table, .slice b1 y.lo.length b2, .slice b3 y.hi.length b4, .bool y.isOpen] 24) = W0 from hW.symm]
  clear hW
  go_wp2_with fail
  refine (awake10_any W0).mono ?_
  rintro e w1 ⟨rfl, hb⟩
  replace Bx := Bx.below hb Bx.lt
  replace By := By.below hb By.lt
  replace q := q.trans (hb.mono q.size)
  clear hb
  have cx0 := Bx.cell (i := 0) rfl
  have cx1 := Bx.cell (i := 1) rfl
  have cx2 := Bx.cell (i := 2) rfl
  have cx3 := Bx.cell (i := 3) rfl
  have hcl := short_any _ (hx.below q)
  go_wp2_with fail
  refine hcl.mono ?_
  rintro e wq1 ⟨rfl, hb⟩
  clear hcl cx0 cx1 cx2 cx3
  replace Bx := Bx.below hb Bx.lt
  replace By := By.below hb By.lt
  replace q := q.trans (hb.mono q.size)
  clear hb
  by_cases sx : shortS x
  case neg =>
    rw [decide_eq_false sx]
    go_wp2_with fail
    go_ret
    exact ⟨rfl, q⟩
  rw [decide_eq_true sx]
  clear sx
  have cy0 := By.cell (i := 0) rfl
  have cy1 := By.cell (i := 1) rfl
  have cy2 := By.cell (i := 2) rfl
  have cy3 := By.cell (i := 3) rfl
  have hcl := short_any _ (hy.below q)
  go_wp2_with fail
  refine hcl.mono ?_
  rintro e wq2 ⟨rfl, hb⟩
  clear hcl cy0 cy1 cy2 cy3
  replace Bx := Bx.below hb Bx.lt
  replace By := By.below hb By.lt
  replace q := q.trans (hb.mono q.size)
  clear hb
  by_cases sy : shortS y
  case neg =>
    rw [decide_eq_false sy]
    go_wp2_with fail
    go_ret
    exact ⟨rfl, q⟩
  rw [decide_eq_true sy]
  clear sy
  rcases Nat.lt_or_ge 100 k.length with g0 | g0
  · have d0 : decide ((100 : Int) < (k.length : Int)) = true := decide_eq_true (by omega)
    go_wp2_with fail
    go_ret
    exact ⟨rfl, q⟩
  have d0 : decide ((100 : Int) < (k.length : Int)) = false := decide_eq_false (by omega)
  rcases Nat.lt_or_ge 100 l.length with g1 | g1
  · have d1 : decide ((100 : Int) < (l.length : Int)) = true := decide_eq_true (by omega)
    go_wp2_with fail
    go_ret
    exact ⟨rfl, q⟩
  have d1 : decide ((100 : Int) < (l.length : Int)) = false := decide_eq_false (by omega)
  clear kb lb
  have cx0 := Bx.cell (i := 0) rfl
  have cx1 := Bx.cell (i := 1) rfl
  have cx2 := Bx.cell (i := 2) rfl
  have cx3 := Bx.cell (i := 3) rfl
  have hcl := sIn_any _ (t := t) (hx.below q) (hk.below q)
  go_wp2_with fail
  refine hcl.mono ?_
  rintro e wq3 ⟨rfl, hb⟩
  clear hcl cx0 cx1 cx2 cx3
  replace Bx := Bx.below hb Bx.lt
  replace By := By.below hb By.lt
  replace q := q.trans (hb.mono q.size)
  clear hb
  clear d0 d1
  have cy0 := By.cell (i := 0) rfl
  have cy1 := By.cell (i := 1) rfl
  have cy2 := By.cell (i := 2) rfl
  have cy3 := By.cell (i := 3) rfl
  have hcl := sIn_any _ (t := t) (hy.below q) (hk.below q)
  go_wp2_with fail
  refine hcl.mono ?_
  rintro e wq4 ⟨rfl, hb⟩
  clear hcl cy0 cy1 cy2 cy3
  replace Bx := Bx.below hb Bx.lt
  replace By := By.below hb By.lt
  replace q := q.trans (hb.mono q.size)
  clear hb
  obtain ⟨vi, hvi⟩ : ∃ b, b = inT x t k := ⟨_, rfl⟩
  obtain ⟨vt, hvt⟩ : ∃ b, b = inT y t k := ⟨_, rfl⟩
  rw [← hvi, ← hvt]
  replace hvi := Lib.hid hvi
  replace hvt := Lib.hid hvt
  go_upto_region 6 with (fail)
  have eP : ∀ args w, (callFunc 11 args).run Try.prog w = .ok (.enter 11 args) w := enters_of Try.func11 (by kernel_rfl) rfl
  have eI : ∀ args w, (callFunc 18 args).run Try.prog w = .ok (.enter 18 args) w := enters_of Try.func18 (by kernel_rfl) rfl
  have hkq := hk.below q
  have hlq := hl.below q
  refine wp_region_gsg (by kernel_rfl) (by kernel_rfl) [sgEq (.int .i64 t), sgEq (.slice p1 k.length p3), sgVSp (pointS t k), sgEq (.int .i64 t), sgEq (.slice r1 l.length r3), sgEq (.bool (inT (pointS t k) t l)), sgEq (.slice p1 k.length p3), sgEq (.string (strOf k)), sgEq (.slice r1 l.length r3), sgEq (.string (strOf l)), sgEq (.bool (decide (k = l))), sgEq (.bool true), sgEq (.bool true)]
    ⟨?o0, ?o1, ?o2, ?o3, ?o4, ?o5, ?o6, ?o7, ?o8, ?o9, ?o10, ?o11, ?o12, trivial⟩ ?fin
  case o0 =>
    refine GdOp.plain rfl (fun A vs w' hF hT hb hd => ?_)
    have e1 : A.eval (.tmp 2) = .int .i64 t := hF 2 rfl
    exact BigFrame.wp_move _ rfl ⟨_, rfl, e1, Below.refl _ _⟩
  case o1 =>
    refine GdOp.plain rfl (fun A vs w' hF hT hb hd => ?_)
    have e1 : A.eval (.tmp 3) = .slice p1 k.length p3 := hF 3 rfl
    exact BigFrame.wp_move _ rfl ⟨_, rfl, e1, Below.refl _ _⟩
  case o2 =>
    refine GdOp.plain rfl (fun A vs w' hF hT hb hd => ?_)
    have e1 : A.eval (.tmp 43) = .int .i64 t := (hT 43 0 (by simp) rfl).trans (hd ⟨0, .data⟩ (by simp) rfl)
    have e2 : A.eval (.tmp 44) = .slice p1 k.length p3 := (hT 44 1 (by simp) rfl).trans (hd ⟨1, .data⟩ (by simp) rfl)
    refine wp_callFn rfl eP (args := #[.int .i64 t, .slice p1 k.length p3]) (by simp only [List.map_toArray, List.map_cons, List.map_nil, e1, e2]) ((sPoint_any w' (hkq.below hb) ht (by omega)).mono ?_)
    rintro e w2 ⟨v, rfl, hrd, hb2⟩
    exact ⟨_, rfl, _, rfl, hrd.weak fun _ _ => trivial, hb2⟩
  case o3 =>
    refine GdOp.plain rfl (fun A vs w' hF hT hb hd => ?_)
    have e1 : A.eval (.tmp 2) = .int .i64 t := hF 2 rfl
    exact BigFrame.wp_move _ rfl ⟨_, rfl, e1, Below.refl _ _⟩
  case o4 =>
    refine GdOp.plain rfl (fun A vs w' hF hT hb hd => ?_)
    have e1 : A.eval (.tmp 4) = .slice r1 l.length r3 := hF 4 rfl
    exact BigFrame.wp_move _ rfl ⟨_, rfl, e1, Below.refl _ _⟩
  case o5 =>
    refine GdOp.plain rfl (fun A vs w' hF hT hb hd => ?_)
    have e2 : A.eval (.tmp 46) = .int .i64 t := (hT 46 3 (by simp) rfl).trans (hd ⟨3, .data⟩ (by simp) rfl)
    have e3 : A.eval (.tmp 47) = .slice r1 l.length r3 := (hT 47 4 (by simp) rfl).trans (hd ⟨4, .data⟩ (by simp) rfl)
    have z1 : RdSp (fun _ => True) w' (vs 2) (pointS t k) := hd ⟨2, .data⟩ (by simp) rfl
    have e1 : A.eval (.tmp 45) = vs 2 := hT 45 2 (by simp) rfl
    refine wp_callFn rfl eI (args := #[vs 2, .int .i64 t, .slice r1 l.length r3]) (by simp only [List.map_toArray, List.map_cons, List.map_nil, e1, e2, e3]) ((sIn_any w' (t := t) z1 (hlq.below hb)).mono ?_)
    rintro e w2 ⟨rfl, hb2⟩
    exact ⟨_, rfl, _, rfl, rfl, hb2⟩
  case o6 =>
    refine GdOp.plain rfl (fun A vs w' hF hT hb hd => ?_)
    have e1 : A.eval (.tmp 3) = .slice p1 k.length p3 := hF 3 rfl
    exact BigFrame.wp_move _ rfl ⟨_, rfl, e1, Below.refl _ _⟩
  case o7 =>
    refine GdOp.plain rfl (fun A vs w' hF hT hb hd => ?_)
    have e1 : A.eval (.tmp 49) = .slice p1 k.length p3 := (hT 49 6 (by simp) rfl).trans (hd ⟨6, .data⟩ (by simp) rfl)
    exact wp_conv byP rfl e1 (hkq.below hb).rd ⟨_, rfl, rfl, Below.refl _ _⟩
  case o8 =>
    refine GdOp.plain rfl (fun A vs w' hF hT hb hd => ?_)
    have e1 : A.eval (.tmp 4) = .slice r1 l.length r3 := hF 4 rfl
    exact BigFrame.wp_move _ rfl ⟨_, rfl, e1, Below.refl _ _⟩
  case o9 =>
    refine GdOp.plain rfl (fun A vs w' hF hT hb hd => ?_)
    have e1 : A.eval (.tmp 51) = .slice r1 l.length r3 := (hT 51 8 (by simp) rfl).trans (hd ⟨8, .data⟩ (by simp) rfl)
    exact wp_conv byP rfl e1 (hlq.below hb).rd ⟨_, rfl, rfl, Below.refl _ _⟩
  case o10 =>
    refine GdOp.plain rfl (fun A vs w' hF hT hb hd => ?_)
    have e1 : A.eval (.tmp 50) = .string (strOf k) := (hT 50 7 (by simp) rfl).trans (hd ⟨7, .data⟩ (by simp) rfl)
    have e2 : A.eval (.tmp 52) = .string (strOf l) := (hT 52 9 (by simp) rfl).trans (hd ⟨9, .data⟩ (by simp) rfl)
    exact wp_eqlS rfl e1 e2 ⟨_, rfl, rfl, Below.refl _ _⟩
  case o11 =>
    refine GdOp.plain rfl (fun A vs w' hF hT hb hd => ?_)
    have e1 : A.eval (.tmp 48) = .bool (inT (pointS t k) t l) := (hT 48 5 (by simp) rfl).trans (hd ⟨5, .data⟩ (by simp) rfl)
    have e2 : A.eval (.tmp 53) = .bool (decide (k = l)) := (hT 53 10 (by simp) rfl).trans (hd ⟨10, .data⟩ (by simp) rfl)
    exact wp_eqlB (by kernel_rfl) rfl e1 e2 ⟨_, rfl, (congrArg Value.bool (by rw [point_in, beq_self_eq_true])), Below.refl _ _⟩
  case o12 =>
    refine GdOp.plain rfl (fun A vs w' hF hT hb hd => ?_)
    have e1 : A.eval (.tmp 54) = .bool true := (hT 54 11 (by simp) rfl).trans (hd ⟨11, .data⟩ (by simp) rfl)
    exact BigFrame.wp_assign _ rfl ⟨_, rfl, e1, Below.refl _ _⟩
  case fin =>
  intro vs9 W9 hb9 hG9
  have e0 : vs9 0 = .int .i64 t := hG9 0 (by decide)
  have e1 : vs9 1 = .slice p1 k.length p3 := hG9 1 (by decide)
  obtain ⟨y1, y2, y3, y4, e2, _⟩ := hG9 2 (by decide)
  have e3 : vs9 3 = .int .i64 t := hG9 3 (by decide)
  have e4 : vs9 4 = .slice r1 l.length r3 := hG9 4 (by decide)
  have e5 : vs9 5 = .bool (inT (pointS t k) t l) := hG9 5 (by decide)
  have e6 : vs9 6 = .slice p1 k.length p3 := hG9 6 (by decide)
  have e7 : vs9 7 = .string (strOf k) := hG9 7 (by decide)
  have e8 : vs9 8 = .slice r1 l.length r3 := hG9 8 (by decide)
  have e9 : vs9 9 = .string (strOf l) := hG9 9 (by decide)
  have e10 : vs9 10 = .bool (decide (k = l)) := hG9 10 (by decide)
  have e11 : vs9 11 = .bool true := hG9 11 (by decide)
  have e12 : vs9 12 = .bool true := hG9 12 (by decide)
  simp only [putAll, e0, e1, e2, e3, e4, e5, e6, e7, e8, e9, e10, e11, e12]
  clear hG9 hkq hlq e0 e1 e2 e3 e4 e5 e6 e7 e8 e9 e10 e11 e12
  replace Bx := Bx.below hb9 Bx.lt
  replace By := By.below hb9 By.lt
  replace q := q.trans (hb9.mono q.size)
  clear hb9
  generalize Value.bool (decide (k = l)) = z53
  generalize Value.string (strOf k) = z50
  generalize Value.string (strOf l) = z52
  generalize Value.bool (inT (pointS t k) t l) = z48
  obtain ⟨z45, hz45⟩ : ∃ z, z = Value.agg #[.int .i64 (pointS t k).table, .slice y1 (pointS t k).lo.length y2, .slice y3 (pointS t k).hi.length y4, .bool (pointS t k).isOpen] := ⟨_, rfl⟩
  rw [← hz45]
  clear hz45 eP eI
  go_simp
  go_upto_region 7 with (fail)
  have eM : ∀ args w, (callFunc 20 args).run Try.prog w = .ok (.enter 20 args) w := enters_of Try.func20 (by kernel_rfl) rfl
  have eV : ∀ args w, (callFunc 22 args).run Try.prog w = .ok (.enter 22 args) w := enters_of Try.func22 (by kernel_rfl) rfl
  have eE : ∀ args w, (callFunc 16 args).run Try.prog w = .ok (.enter 16 args) w := enters_of Try.func16 (by kernel_rfl) rfl
  have hxq := hx.below q
  have hyq := hy.below q
  cases hin : vi with
  | true =>
    have hvi2 : inT x t k = true := by rw [← hvi.out, hin]
    cases htoo : vt with
    | true =>
      have hvt2 : inT y t k = true := by rw [← hvt.out, htoo]
      cases h_cv : coversS x y with
      | true =>
        cases h_em : emptyS x with
        | true =>
          exfalso
          rw [inT_iff] at hvi2
          rw [empty_in h_em] at hvi2
          exact absurd hvi2.2 (by simp)
        | false =>
          have hmt : meetsS x y = true := meets_iff.2 ⟨(inT_iff.1 hvi2).1.trans (inT_iff.1 hvt2).1.symm, k, (inT_iff.1 hvi2).2, (inT_iff.1 hvt2).2⟩
          refine wp_region_gsa (by kernel_rfl) (by kernel_rfl) [sgEq (.bool true), sgEq (.bool true), sgEq (.bool true), sgEq (.bool false), sgEq (.bool false), sgEq (.bool true), sgEq (.bool false), sgEq (.bool false), sgEq (.bool false), sgEq (.agg #[.int .i64 x.table, .slice a1 x.lo.length a2, .slice a3 x.hi.length a4, .bool x.isOpen]), sgEq (.agg #[.int .i64 y.table, .slice b1 y.lo.length b2, .slice b3 y.hi.length b4, .bool y.isOpen]), sgEq (.bool true), sgEq (.bool true), sgEq (.bool true), sgEq (.bool true), sgEq (.agg #[.int .i64 x.table, .slice a1 x.lo.length a2, .slice a3 x.hi.length a4, .bool x.isOpen]), sgEq (.agg #[.int .i64 y.table, .slice b1 y.lo.length b2, .slice b3 y.hi.length b4, .bool y.isOpen]), sgEq (.bool true), sgEq (.bool false), sgEq (.bool false), sgEq (.bool true), sgEq (.bool false), sgEq (.bool false), sgEq (.bool false), sgEq (.bool true), sgEq (.bool true), sgEq (.bool true), sgEq (.bool true), sgEq (.agg #[.int .i64 x.table, .slice a1 x.lo.length a2, .slice a3 x.hi.length a4, .bool x.isOpen]), sgEq (.bool false), sgEq (.bool true), sgEq (.bool true), sgEq undef, sgEq undef, sgEq (.bool true), sgEq (.bool true), sgEq (.bool true), sgEq (.agg #[.int .i64 x.table, .slice a1 x.lo.length a2, .slice a3 x.hi.length a4, .bool x.isOpen]), sgEq (.agg #[.int .i64 y.table, .slice b1 y.lo.length b2, .slice b3 y.hi.length b4, .bool y.isOpen]), sgEq (.bool (meetsS x y)), sgEq (.agg #[.int .i64 y.table, .slice b1 y.lo.length b2, .slice b3 y.hi.length b4, .bool y.isOpen]), sgEq (.agg #[.int .i64 x.table, .slice a1 x.lo.length a2, .slice a3 x.hi.length a4, .bool x.isOpen]), sgEq (.bool (meetsS y x)), sgEq (.bool true), sgEq (.bool true), sgEq (.bool true), sgEq (.agg #[.int .i64 x.table, .slice a1 x.lo.length a2, .slice a3 x.hi.length a4, .bool x.isOpen]), sgEq (.agg #[.int .i64 x.table, .slice a1 x.lo.length a2, .slice a3 x.hi.length a4, .bool x.isOpen]), sgEq (.bool true), sgEq (.bool true), sgEq (.bool true), sgEq (.bool true), sgEq (.bool true), sgEq (.bool true)]
            ⟨?o0, ?o1, ?o2, ?o3, ?o4, ?o5, ?o6, ?o7, ?o8, ?o9, ?o10, ?o11, ?o12, ?o13, ?o14, ?o15, ?o16, ?o17, ?o18, ?o19, ?o20, ?o21, ?o22, ?o23, ?o24, ?o25, ?o26, ?o27, ?o28, ?o29, ?o30, ?o31, ?o32, ?o33, ?o34, ?o35, ?o36, ?o37, ?o38, ?o39, ?o40, ?o41, ?o42, ?o43, ?o44, ?o45, ?o46, ?o47, ?o48, ?o49, ?o50, ?o51, ?o52, ?o53, trivial⟩ ?fin
          case o0 =>
            refine GdOp.plain rfl (fun A vs w' hF hT hb hd => ?_)
            have e1 : A.eval (.tmp 11) = .bool true := hF 11 rfl
            exact BigFrame.wp_move _ rfl ⟨_, rfl, e1, Below.refl _ _⟩
          case o1 =>
            refine GdOp.plain rfl (fun A vs w' hF hT hb hd => ?_)
            have e1 : A.eval (.tmp 55) = .bool true := (hT 55 0 (by simp) rfl).trans (hd ⟨0, .data⟩ (by simp) rfl)
            exact BigFrame.wp_move _ rfl ⟨_, rfl, e1, Below.refl _ _⟩
          case o2 =>
            refine GdOp.taken rfl ⟨_, _, rfl, rfl, by simp⟩ (by kernel_rfl) (fun w v h => h) (fun A vs w' hF hT hb hd => ?_)
            have e1 : A.eval (.tmp 12) = .bool true := hF 12 rfl
            exact BigFrame.wp_move _ rfl ⟨_, rfl, e1, Below.refl _ _⟩
          case o3 =>
            refine GdOp.taken rfl ⟨_, _, rfl, rfl, by simp⟩ (by kernel_rfl) (fun w v h => h) (fun A vs w' hF hT hb hd => ?_)
            have e1 : A.eval (.tmp 57) = .bool true := (hT 57 2 (by simp) rfl).trans (hd ⟨2, .data⟩ (by simp) rfl)
            exact wp_notB rfl e1 ⟨_, rfl, rfl, Below.refl _ _⟩
          case o4 =>
            refine GdOp.taken rfl ⟨_, _, rfl, rfl, by simp⟩ (by kernel_rfl) (fun w v h => h) (fun A vs w' hF hT hb hd => ?_)
            have e1 : A.eval (.tmp 58) = .bool false := (hT 58 3 (by simp) rfl).trans (hd ⟨3, .data⟩ (by simp) rfl)
            exact BigFrame.wp_move _ rfl ⟨_, rfl, e1, Below.refl _ _⟩
          case o5 =>
            refine GdOp.taken rfl ⟨_, _, rfl, rfl, by simp⟩ (by kernel_rfl) (fun w v h => h) (fun A vs w' hF hT hb hd => ?_)
            have e1 : A.eval (.tmp 13) = .bool true := hF 13 rfl
            exact BigFrame.wp_move _ rfl ⟨_, rfl, e1, Below.refl _ _⟩
          case o6 =>
            refine GdOp.taken rfl ⟨_, _, rfl, rfl, by simp⟩ (by kernel_rfl) (fun w v h => h) (fun A vs w' hF hT hb hd => ?_)
            have e1 : A.eval (.tmp 60) = .bool true := (hT 60 5 (by simp) rfl).trans (hd ⟨5, .data⟩ (by simp) rfl)
            exact wp_notB rfl e1 ⟨_, rfl, rfl, Below.refl _ _⟩
          case o7 =>
            refine GdOp.taken rfl ⟨_, _, rfl, rfl, by simp⟩ (by kernel_rfl) (fun w v h => h) (fun A vs w' hF hT hb hd => ?_)
            have e1 : A.eval (.tmp 59) = .bool false := (hT 59 4 (by simp) rfl).trans (hd ⟨4, .data⟩ (by simp) rfl)
            have e3 : A.eval (.tmp 61) = .bool false := (hT 61 6 (by simp) rfl).trans (hd ⟨6, .data⟩ (by simp) rfl)
            exact wp_pk rfl e1 (by simp) (fun _ => e3) ⟨_, rfl, rfl, Below.refl _ _⟩
          case o8 =>
            refine GdOp.taken rfl ⟨_, _, rfl, rfl, by simp⟩ (by kernel_rfl) (fun w v h => h) (fun A vs w' hF hT hb hd => ?_)
            have e1 : A.eval (.tmp 62) = .bool false := (hT 62 7 (by simp) rfl).trans (hd ⟨7, .data⟩ (by simp) rfl)
            exact BigFrame.wp_move _ rfl ⟨_, rfl, e1, Below.refl _ _⟩
          case o9 =>
            refine GdOp.taken rfl ⟨_, _, rfl, rfl, by simp⟩ (by kernel_rfl) (fun w v h => h) (fun A vs w' hF hT hb hd => ?_)
            have e1 : A.eval (.tmp 5) = .pointer (some ⟨w.heap.size, 0, none⟩) := hF 5 rfl
            exact wp_load4 spS rfl e1 ((Bx.below hb Bx.lt).cell (i := 0) rfl) ((Bx.below hb Bx.lt).cell (i := 1) rfl) ((Bx.below hb Bx.lt).cell (i := 2) rfl) ((Bx.below hb Bx.lt).cell (i := 3) rfl) ⟨_, rfl, rfl, Below.refl _ _⟩
          case o10 =>
            refine GdOp.taken rfl ⟨_, _, rfl, rfl, by simp⟩ (by kernel_rfl) (fun w v h => h) (fun A vs w' hF hT hb hd => ?_)
            have e1 : A.eval (.tmp 6) = .pointer (some ⟨w.heap.size + 1, 0, none⟩) := hF 6 rfl
            exact wp_load4 spS rfl e1 ((By.below hb By.lt).cell (i := 0) rfl) ((By.below hb By.lt).cell (i := 1) rfl) ((By.below hb By.lt).cell (i := 2) rfl) ((By.below hb By.lt).cell (i := 3) rfl) ⟨_, rfl, rfl, Below.refl _ _⟩
          case o11 =>
            refine GdOp.taken rfl ⟨_, _, rfl, rfl, by simp⟩ (by kernel_rfl) (fun w v h => h) (fun A vs w' hF hT hb hd => ?_)
            have e1 : A.eval (.tmp 64) = .agg #[.int .i64 x.table, .slice a1 x.lo.length a2, .slice a3 x.hi.length a4, .bool x.isOpen] := (hT 64 9 (by simp) rfl).trans (hd ⟨9, .data⟩ (by simp) rfl)
            have e2 : A.eval (.tmp 65) = .agg #[.int .i64 y.table, .slice b1 y.lo.length b2, .slice b3 y.hi.length b4, .bool y.isOpen] := (hT 65 10 (by simp) rfl).trans (hd ⟨10, .data⟩ (by simp) rfl)
            refine wp_callFn rfl eM (args := #[.agg #[.int .i64 x.table, .slice a1 x.lo.length a2, .slice a3 x.hi.length a4, .bool x.isOpen], .agg #[.int .i64 y.table, .slice b1 y.lo.length b2, .slice b3 y.hi.length b4, .bool y.isOpen]]) (by simp only [List.map_toArray, List.map_cons, List.map_nil, e1, e2]) ((sMeets_any w' (hxq.below hb) (hyq.below hb)).mono ?_)
            rintro e w2 ⟨rfl, hb2⟩
            exact ⟨_, rfl, _, rfl, congrArg Value.bool hmt, hb2⟩
          case o12 =>
            refine GdOp.taken rfl ⟨_, _, rfl, rfl, by simp⟩ (by kernel_rfl) (fun w v h => h) (fun A vs w' hF hT hb hd => ?_)
            have e1 : A.eval (.tmp 63) = .bool false := (hT 63 8 (by simp) rfl).trans (hd ⟨8, .data⟩ (by simp) rfl)
            have e3 : A.eval (.tmp 66) = .bool true := (hT 66 11 (by simp) rfl).trans (hd ⟨11, .data⟩ (by simp) rfl)
            exact wp_pk rfl e1 (by simp) (fun _ => e3) ⟨_, rfl, rfl, Below.refl _ _⟩
          case o13 =>
            refine GdOp.plain rfl (fun A vs w' hF hT hb hd => ?_)
            have e1 : A.eval (.tmp 56) = .bool true := (hT 56 1 (by simp) rfl).trans (hd ⟨1, .data⟩ (by simp) rfl)
            have e2 : A.eval (.tmp 67) = .bool true := (hT 67 12 (by simp) rfl).trans (hd ⟨12, .data⟩ (by simp) rfl)
            exact wp_pk rfl e1 (fun _ => e2) (by simp) ⟨_, rfl, rfl, Below.refl _ _⟩
          case o14 =>
            refine GdOp.plain rfl (fun A vs w' hF hT hb hd => ?_)
            have e1 : A.eval (.tmp 68) = .bool true := (hT 68 13 (by simp) rfl).trans (hd ⟨13, .data⟩ (by simp) rfl)
            exact BigFrame.wp_move _ rfl ⟨_, rfl, e1, Below.refl _ _⟩
          case o15 =>
            refine GdOp.taken rfl ⟨_, _, rfl, rfl, by simp⟩ (by kernel_rfl) (fun w v h => h) (fun A vs w' hF hT hb hd => ?_)
            have e1 : A.eval (.tmp 5) = .pointer (some ⟨w.heap.size, 0, none⟩) := hF 5 rfl
            exact wp_load4 spS rfl e1 ((Bx.below hb Bx.lt).cell (i := 0) rfl) ((Bx.below hb Bx.lt).cell (i := 1) rfl) ((Bx.below hb Bx.lt).cell (i := 2) rfl) ((Bx.below hb Bx.lt).cell (i := 3) rfl) ⟨_, rfl, rfl, Below.refl _ _⟩
          case o16 =>
            refine GdOp.taken rfl ⟨_, _, rfl, rfl, by simp⟩ (by kernel_rfl) (fun w v h => h) (fun A vs w' hF hT hb hd => ?_)
            have e1 : A.eval (.tmp 6) = .pointer (some ⟨w.heap.size + 1, 0, none⟩) := hF 6 rfl
            exact wp_load4 spS rfl e1 ((By.below hb By.lt).cell (i := 0) rfl) ((By.below hb By.lt).cell (i := 1) rfl) ((By.below hb By.lt).cell (i := 2) rfl) ((By.below hb By.lt).cell (i := 3) rfl) ⟨_, rfl, rfl, Below.refl _ _⟩
          case o17 =>
            refine GdOp.taken rfl ⟨_, _, rfl, rfl, by simp⟩ (by kernel_rfl) (fun w v h => h) (fun A vs w' hF hT hb hd => ?_)
            have e1 : A.eval (.tmp 70) = .agg #[.int .i64 x.table, .slice a1 x.lo.length a2, .slice a3 x.hi.length a4, .bool x.isOpen] := (hT 70 15 (by simp) rfl).trans (hd ⟨15, .data⟩ (by simp) rfl)
            have e2 : A.eval (.tmp 71) = .agg #[.int .i64 y.table, .slice b1 y.lo.length b2, .slice b3 y.hi.length b4, .bool y.isOpen] := (hT 71 16 (by simp) rfl).trans (hd ⟨16, .data⟩ (by simp) rfl)
            refine wp_callFn rfl eV (args := #[.agg #[.int .i64 x.table, .slice a1 x.lo.length a2, .slice a3 x.hi.length a4, .bool x.isOpen], .agg #[.int .i64 y.table, .slice b1 y.lo.length b2, .slice b3 y.hi.length b4, .bool y.isOpen]]) (by simp only [List.map_toArray, List.map_cons, List.map_nil, e1, e2]) ((sCovers_any w' (hxq.below hb) (hyq.below hb)).mono ?_)
            rintro e w2 ⟨rfl, hb2⟩
            exact ⟨_, rfl, _, rfl, congrArg Value.bool h_cv, hb2⟩
          case o18 =>
            refine GdOp.taken rfl ⟨_, _, rfl, rfl, by simp⟩ (by kernel_rfl) (fun w v h => h) (fun A vs w' hF hT hb hd => ?_)
            have e1 : A.eval (.tmp 72) = .bool true := (hT 72 17 (by simp) rfl).trans (hd ⟨17, .data⟩ (by simp) rfl)
            exact wp_notB rfl e1 ⟨_, rfl, rfl, Below.refl _ _⟩
          case o19 =>
            refine GdOp.taken rfl ⟨_, _, rfl, rfl, by simp⟩ (by kernel_rfl) (fun w v h => h) (fun A vs w' hF hT hb hd => ?_)
            have e1 : A.eval (.tmp 73) = .bool false := (hT 73 18 (by simp) rfl).trans (hd ⟨18, .data⟩ (by simp) rfl)
            exact BigFrame.wp_move _ rfl ⟨_, rfl, e1, Below.refl _ _⟩
          case o20 =>
            refine GdOp.taken rfl ⟨_, _, rfl, rfl, by simp⟩ (by kernel_rfl) (fun w v h => h) (fun A vs w' hF hT hb hd => ?_)
            have e1 : A.eval (.tmp 13) = .bool true := hF 13 rfl
            exact BigFrame.wp_move _ rfl ⟨_, rfl, e1, Below.refl _ _⟩
          case o21 =>
            refine GdOp.taken rfl ⟨_, _, rfl, rfl, by simp⟩ (by kernel_rfl) (fun w v h => h) (fun A vs w' hF hT hb hd => ?_)
            have e1 : A.eval (.tmp 75) = .bool true := (hT 75 20 (by simp) rfl).trans (hd ⟨20, .data⟩ (by simp) rfl)
            exact wp_notB rfl e1 ⟨_, rfl, rfl, Below.refl _ _⟩
          case o22 =>
            refine GdOp.taken rfl ⟨_, _, rfl, rfl, by simp⟩ (by kernel_rfl) (fun w v h => h) (fun A vs w' hF hT hb hd => ?_)
            have e1 : A.eval (.tmp 74) = .bool false := (hT 74 19 (by simp) rfl).trans (hd ⟨19, .data⟩ (by simp) rfl)
            have e3 : A.eval (.tmp 76) = .bool false := (hT 76 21 (by simp) rfl).trans (hd ⟨21, .data⟩ (by simp) rfl)
            exact wp_pk rfl e1 (by simp) (fun _ => e3) ⟨_, rfl, rfl, Below.refl _ _⟩
          case o23 =>
            refine GdOp.taken rfl ⟨_, _, rfl, rfl, by simp⟩ (by kernel_rfl) (fun w v h => h) (fun A vs w' hF hT hb hd => ?_)
            have e1 : A.eval (.tmp 77) = .bool false := (hT 77 22 (by simp) rfl).trans (hd ⟨22, .data⟩ (by simp) rfl)
            exact BigFrame.wp_move _ rfl ⟨_, rfl, e1, Below.refl _ _⟩
          case o24 =>
            refine GdOp.taken rfl ⟨_, _, rfl, rfl, by simp⟩ (by kernel_rfl) (fun w v h => h) (fun A vs w' hF hT hb hd => ?_)
            have e1 : A.eval (.tmp 12) = .bool true := hF 12 rfl
            exact BigFrame.wp_move _ rfl ⟨_, rfl, e1, Below.refl _ _⟩
          case o25 =>
            refine GdOp.taken rfl ⟨_, _, rfl, rfl, by simp⟩ (by kernel_rfl) (fun w v h => h) (fun A vs w' hF hT hb hd => ?_)
            have e1 : A.eval (.tmp 78) = .bool false := (hT 78 23 (by simp) rfl).trans (hd ⟨23, .data⟩ (by simp) rfl)
            have e3 : A.eval (.tmp 79) = .bool true := (hT 79 24 (by simp) rfl).trans (hd ⟨24, .data⟩ (by simp) rfl)
            exact wp_pk rfl e1 (by simp) (fun _ => e3) ⟨_, rfl, rfl, Below.refl _ _⟩
          case o26 =>
            refine GdOp.plain rfl (fun A vs w' hF hT hb hd => ?_)
            have e1 : A.eval (.tmp 69) = .bool true := (hT 69 14 (by simp) rfl).trans (hd ⟨14, .data⟩ (by simp) rfl)
            have e2 : A.eval (.tmp 80) = .bool true := (hT 80 25 (by simp) rfl).trans (hd ⟨25, .data⟩ (by simp) rfl)
            exact wp_pk rfl e1 (fun _ => e2) (by simp) ⟨_, rfl, rfl, Below.refl _ _⟩
          case o27 =>
            refine GdOp.plain rfl (fun A vs w' hF hT hb hd => ?_)
            have e1 : A.eval (.tmp 81) = .bool true := (hT 81 26 (by simp) rfl).trans (hd ⟨26, .data⟩ (by simp) rfl)
            exact BigFrame.wp_move _ rfl ⟨_, rfl, e1, Below.refl _ _⟩
          case o28 =>
            refine GdOp.taken rfl ⟨_, _, rfl, rfl, by simp⟩ (by kernel_rfl) (fun w v h => h) (fun A vs w' hF hT hb hd => ?_)
            have e1 : A.eval (.tmp 5) = .pointer (some ⟨w.heap.size, 0, none⟩) := hF 5 rfl
            exact wp_load4 spS rfl e1 ((Bx.below hb Bx.lt).cell (i := 0) rfl) ((Bx.below hb Bx.lt).cell (i := 1) rfl) ((Bx.below hb Bx.lt).cell (i := 2) rfl) ((Bx.below hb Bx.lt).cell (i := 3) rfl) ⟨_, rfl, rfl, Below.refl _ _⟩
          case o29 =>
            refine GdOp.taken rfl ⟨_, _, rfl, rfl, by simp⟩ (by kernel_rfl) (fun w v h => h) (fun A vs w' hF hT hb hd => ?_)
            have e1 : A.eval (.tmp 83) = .agg #[.int .i64 x.table, .slice a1 x.lo.length a2, .slice a3 x.hi.length a4, .bool x.isOpen] := (hT 83 28 (by simp) rfl).trans (hd ⟨28, .data⟩ (by simp) rfl)
            refine wp_callFn rfl eE (args := #[.agg #[.int .i64 x.table, .slice a1 x.lo.length a2, .slice a3 x.hi.length a4, .bool x.isOpen]]) (by simp only [List.map_toArray, List.map_cons, List.map_nil, e1]) ((sEmpty_any w' (hxq.below hb)).mono ?_)
            rintro e w2 ⟨rfl, hb2⟩
            exact ⟨_, rfl, _, rfl, congrArg Value.bool h_em, hb2⟩
          case o30 =>
            refine GdOp.taken rfl ⟨_, _, rfl, rfl, by simp⟩ (by kernel_rfl) (fun w v h => h) (fun A vs w' hF hT hb hd => ?_)
            have e1 : A.eval (.tmp 84) = .bool false := (hT 84 29 (by simp) rfl).trans (hd ⟨29, .data⟩ (by simp) rfl)
            exact wp_notB rfl e1 ⟨_, rfl, rfl, Below.refl _ _⟩
          case o31 =>
            refine GdOp.taken rfl ⟨_, _, rfl, rfl, by simp⟩ (by kernel_rfl) (fun w v h => h) (fun A vs w' hF hT hb hd => ?_)
            have e1 : A.eval (.tmp 85) = .bool true := (hT 85 30 (by simp) rfl).trans (hd ⟨30, .data⟩ (by simp) rfl)
            exact BigFrame.wp_move _ rfl ⟨_, rfl, e1, Below.refl _ _⟩
          case o32 =>
            exact GdOp.left rfl ⟨_, _, rfl, rfl, by simp⟩ (by kernel_rfl) (fun w v h => .inl h) (fun w => rfl)
          case o33 =>
            exact GdOp.left rfl ⟨_, _, rfl, rfl, by simp⟩ (by kernel_rfl) (fun w v h => .inl h) (fun w => rfl)
          case o34 =>
            refine GdOp.taken rfl ⟨_, _, rfl, rfl, by simp⟩ (by kernel_rfl) (fun w v h => h) (fun A vs w' hF hT hb hd => ?_)
            have e1 : A.eval (.tmp 86) = .bool true := (hT 86 31 (by simp) rfl).trans (hd ⟨31, .data⟩ (by simp) rfl)
            have e3 : A.eval (.tmp 88) = undef := (hT 88 33 (by simp) rfl).trans (hd ⟨33, .data⟩ (by simp) rfl)
            exact wp_pk rfl e1 (fun _ => rfl) (by simp) ⟨_, rfl, rfl, Below.refl _ _⟩
          case o35 =>
            refine GdOp.plain rfl (fun A vs w' hF hT hb hd => ?_)
            have e1 : A.eval (.tmp 82) = .bool true := (hT 82 27 (by simp) rfl).trans (hd ⟨27, .data⟩ (by simp) rfl)
            have e2 : A.eval (.tmp 89) = .bool true := (hT 89 34 (by simp) rfl).trans (hd ⟨34, .data⟩ (by simp) rfl)
            exact wp_pk rfl e1 (fun _ => e2) (by simp) ⟨_, rfl, rfl, Below.refl _ _⟩
          case o36 =>
            refine GdOp.plain rfl (fun A vs w' hF hT hb hd => ?_)
            have e1 : A.eval (.tmp 90) = .bool true := (hT 90 35 (by simp) rfl).trans (hd ⟨35, .data⟩ (by simp) rfl)
            exact BigFrame.wp_move _ rfl ⟨_, rfl, e1, Below.refl _ _⟩
          case o37 =>
            refine GdOp.taken rfl ⟨_, _, rfl, rfl, by simp⟩ (by kernel_rfl) (fun w v h => h) (fun A vs w' hF hT hb hd => ?_)
            have e1 : A.eval (.tmp 5) = .pointer (some ⟨w.heap.size, 0, none⟩) := hF 5 rfl
            exact wp_load4 spS rfl e1 ((Bx.below hb Bx.lt).cell (i := 0) rfl) ((Bx.below hb Bx.lt).cell (i := 1) rfl) ((Bx.below hb Bx.lt).cell (i := 2) rfl) ((Bx.below hb Bx.lt).cell (i := 3) rfl) ⟨_, rfl, rfl, Below.refl _ _⟩
          case o38 =>
            refine GdOp.taken rfl ⟨_, _, rfl, rfl, by simp⟩ (by kernel_rfl) (fun w v h => h) (fun A vs w' hF hT hb hd => ?_)
            have e1 : A.eval (.tmp 6) = .pointer (some ⟨w.heap.size + 1, 0, none⟩) := hF 6 rfl
            exact wp_load4 spS rfl e1 ((By.below hb By.lt).cell (i := 0) rfl) ((By.below hb By.lt).cell (i := 1) rfl) ((By.below hb By.lt).cell (i := 2) rfl) ((By.below hb By.lt).cell (i := 3) rfl) ⟨_, rfl, rfl, Below.refl _ _⟩
          case o39 =>
            refine GdOp.taken rfl ⟨_, _, rfl, rfl, by simp⟩ (by kernel_rfl) (fun w v h => h) (fun A vs w' hF hT hb hd => ?_)
            have e1 : A.eval (.tmp 92) = .agg #[.int .i64 x.table, .slice a1 x.lo.length a2, .slice a3 x.hi.length a4, .bool x.isOpen] := (hT 92 37 (by simp) rfl).trans (hd ⟨37, .data⟩ (by simp) rfl)
            have e2 : A.eval (.tmp 93) = .agg #[.int .i64 y.table, .slice b1 y.lo.length b2, .slice b3 y.hi.length b4, .bool y.isOpen] := (hT 93 38 (by simp) rfl).trans (hd ⟨38, .data⟩ (by simp) rfl)
            refine wp_callFn rfl eM (args := #[.agg #[.int .i64 x.table, .slice a1 x.lo.length a2, .slice a3 x.hi.length a4, .bool x.isOpen], .agg #[.int .i64 y.table, .slice b1 y.lo.length b2, .slice b3 y.hi.length b4, .bool y.isOpen]]) (by simp only [List.map_toArray, List.map_cons, List.map_nil, e1, e2]) ((sMeets_any w' (hxq.below hb) (hyq.below hb)).mono ?_)
            rintro e w2 ⟨rfl, hb2⟩
            exact ⟨_, rfl, _, rfl, rfl, hb2⟩
          case o40 =>
            refine GdOp.taken rfl ⟨_, _, rfl, rfl, by simp⟩ (by kernel_rfl) (fun w v h => h) (fun A vs w' hF hT hb hd => ?_)
            have e1 : A.eval (.tmp 6) = .pointer (some ⟨w.heap.size + 1, 0, none⟩) := hF 6 rfl
            exact wp_load4 spS rfl e1 ((By.below hb By.lt).cell (i := 0) rfl) ((By.below hb By.lt).cell (i := 1) rfl) ((By.below hb By.lt).cell (i := 2) rfl) ((By.below hb By.lt).cell (i := 3) rfl) ⟨_, rfl, rfl, Below.refl _ _⟩
          case o41 =>
            refine GdOp.taken rfl ⟨_, _, rfl, rfl, by simp⟩ (by kernel_rfl) (fun w v h => h) (fun A vs w' hF hT hb hd => ?_)
            have e1 : A.eval (.tmp 5) = .pointer (some ⟨w.heap.size, 0, none⟩) := hF 5 rfl
            exact wp_load4 spS rfl e1 ((Bx.below hb Bx.lt).cell (i := 0) rfl) ((Bx.below hb Bx.lt).cell (i := 1) rfl) ((Bx.below hb Bx.lt).cell (i := 2) rfl) ((Bx.below hb Bx.lt).cell (i := 3) rfl) ⟨_, rfl, rfl, Below.refl _ _⟩
          case o42 =>
            refine GdOp.taken rfl ⟨_, _, rfl, rfl, by simp⟩ (by kernel_rfl) (fun w v h => h) (fun A vs w' hF hT hb hd => ?_)
            have e1 : A.eval (.tmp 95) = .agg #[.int .i64 y.table, .slice b1 y.lo.length b2, .slice b3 y.hi.length b4, .bool y.isOpen] := (hT 95 40 (by simp) rfl).trans (hd ⟨40, .data⟩ (by simp) rfl)
            have e2 : A.eval (.tmp 96) = .agg #[.int .i64 x.table, .slice a1 x.lo.length a2, .slice a3 x.hi.length a4, .bool x.isOpen] := (hT 96 41 (by simp) rfl).trans (hd ⟨41, .data⟩ (by simp) rfl)
            refine wp_callFn rfl eM (args := #[.agg #[.int .i64 y.table, .slice b1 y.lo.length b2, .slice b3 y.hi.length b4, .bool y.isOpen], .agg #[.int .i64 x.table, .slice a1 x.lo.length a2, .slice a3 x.hi.length a4, .bool x.isOpen]]) (by simp only [List.map_toArray, List.map_cons, List.map_nil, e1, e2]) ((sMeets_any w' (hyq.below hb) (hxq.below hb)).mono ?_)
            rintro e w2 ⟨rfl, hb2⟩
            exact ⟨_, rfl, _, rfl, rfl, hb2⟩
          case o43 =>
            refine GdOp.taken rfl ⟨_, _, rfl, rfl, by simp⟩ (by kernel_rfl) (fun w v h => h) (fun A vs w' hF hT hb hd => ?_)
            have e1 : A.eval (.tmp 94) = .bool (meetsS x y) := (hT 94 39 (by simp) rfl).trans (hd ⟨39, .data⟩ (by simp) rfl)
            have e2 : A.eval (.tmp 97) = .bool (meetsS y x) := (hT 97 42 (by simp) rfl).trans (hd ⟨42, .data⟩ (by simp) rfl)
            exact wp_eqlB (by kernel_rfl) rfl e1 e2 ⟨_, rfl, (congrArg Value.bool (by rw [meets_comm y x, beq_self_eq_true])), Below.refl _ _⟩
          case o44 =>
            refine GdOp.plain rfl (fun A vs w' hF hT hb hd => ?_)
            have e1 : A.eval (.tmp 91) = .bool true := (hT 91 36 (by simp) rfl).trans (hd ⟨36, .data⟩ (by simp) rfl)
            have e2 : A.eval (.tmp 98) = .bool true := (hT 98 43 (by simp) rfl).trans (hd ⟨43, .data⟩ (by simp) rfl)
            exact wp_pk rfl e1 (fun _ => e2) (by simp) ⟨_, rfl, rfl, Below.refl _ _⟩
          case o45 =>
            refine GdOp.plain rfl (fun A vs w' hF hT hb hd => ?_)
            have e1 : A.eval (.tmp 99) = .bool true := (hT 99 44 (by simp) rfl).trans (hd ⟨44, .data⟩ (by simp) rfl)
            exact BigFrame.wp_move _ rfl ⟨_, rfl, e1, Below.refl _ _⟩
          case o46 =>
            refine GdOp.taken rfl ⟨_, _, rfl, rfl, by simp⟩ (by kernel_rfl) (fun w v h => h) (fun A vs w' hF hT hb hd => ?_)
            have e1 : A.eval (.tmp 5) = .pointer (some ⟨w.heap.size, 0, none⟩) := hF 5 rfl
            exact wp_load4 spS rfl e1 ((Bx.below hb Bx.lt).cell (i := 0) rfl) ((Bx.below hb Bx.lt).cell (i := 1) rfl) ((Bx.below hb Bx.lt).cell (i := 2) rfl) ((Bx.below hb Bx.lt).cell (i := 3) rfl) ⟨_, rfl, rfl, Below.refl _ _⟩
          case o47 =>
            refine GdOp.taken rfl ⟨_, _, rfl, rfl, by simp⟩ (by kernel_rfl) (fun w v h => h) (fun A vs w' hF hT hb hd => ?_)
            have e1 : A.eval (.tmp 5) = .pointer (some ⟨w.heap.size, 0, none⟩) := hF 5 rfl
            exact wp_load4 spS rfl e1 ((Bx.below hb Bx.lt).cell (i := 0) rfl) ((Bx.below hb Bx.lt).cell (i := 1) rfl) ((Bx.below hb Bx.lt).cell (i := 2) rfl) ((Bx.below hb Bx.lt).cell (i := 3) rfl) ⟨_, rfl, rfl, Below.refl _ _⟩
          case o48 =>
            refine GdOp.taken rfl ⟨_, _, rfl, rfl, by simp⟩ (by kernel_rfl) (fun w v h => h) (fun A vs w' hF hT hb hd => ?_)
            have e1 : A.eval (.tmp 101) = .agg #[.int .i64 x.table, .slice a1 x.lo.length a2, .slice a3 x.hi.length a4, .bool x.isOpen] := (hT 101 46 (by simp) rfl).trans (hd ⟨46, .data⟩ (by simp) rfl)
            have e2 : A.eval (.tmp 102) = .agg #[.int .i64 x.table, .slice a1 x.lo.length a2, .slice a3 x.hi.length a4, .bool x.isOpen] := (hT 102 47 (by simp) rfl).trans (hd ⟨47, .data⟩ (by simp) rfl)
            refine wp_callFn rfl eV (args := #[.agg #[.int .i64 x.table, .slice a1 x.lo.length a2, .slice a3 x.hi.length a4, .bool x.isOpen], .agg #[.int .i64 x.table, .slice a1 x.lo.length a2, .slice a3 x.hi.length a4, .bool x.isOpen]]) (by simp only [List.map_toArray, List.map_cons, List.map_nil, e1, e2]) ((sCovers_any w' (hxq.below hb) (hxq.below hb)).mono ?_)
            rintro e w2 ⟨rfl, hb2⟩
            exact ⟨_, rfl, _, rfl, congrArg Value.bool (covers_self x), hb2⟩
          case o49 =>
            refine GdOp.plain rfl (fun A vs w' hF hT hb hd => ?_)
            have e1 : A.eval (.tmp 100) = .bool true := (hT 100 45 (by simp) rfl).trans (hd ⟨45, .data⟩ (by simp) rfl)
            have e2 : A.eval (.tmp 103) = .bool true := (hT 103 48 (by simp) rfl).trans (hd ⟨48, .data⟩ (by simp) rfl)
            exact wp_pk rfl e1 (fun _ => e2) (by simp) ⟨_, rfl, rfl, Below.refl _ _⟩
          case o50 =>
            refine GdOp.plain rfl (fun A vs w' hF hT hb hd => ?_)
            have e1 : A.eval (.tmp 104) = .bool true := (hT 104 49 (by simp) rfl).trans (hd ⟨49, .data⟩ (by simp) rfl)
            exact BigFrame.wp_move _ rfl ⟨_, rfl, e1, Below.refl _ _⟩
          case o51 =>
            refine GdOp.taken rfl ⟨_, _, rfl, rfl, by simp⟩ (by kernel_rfl) (fun w v h => h) (fun A vs w' hF hT hb hd => ?_)
            have e1 : A.eval (.tmp 14) = .bool true := hF 14 rfl
            exact BigFrame.wp_move _ rfl ⟨_, rfl, e1, Below.refl _ _⟩
          case o52 =>
            refine GdOp.plain rfl (fun A vs w' hF hT hb hd => ?_)
            have e1 : A.eval (.tmp 105) = .bool true := (hT 105 50 (by simp) rfl).trans (hd ⟨50, .data⟩ (by simp) rfl)
            have e2 : A.eval (.tmp 106) = .bool true := (hT 106 51 (by simp) rfl).trans (hd ⟨51, .data⟩ (by simp) rfl)
            exact wp_pk rfl e1 (fun _ => e2) (by simp) ⟨_, rfl, rfl, Below.refl _ _⟩
          case o53 =>
            refine GdOp.plain rfl (fun A vs w' hF hT hb hd => ?_)
            have e1 : A.eval (.tmp 107) = .bool true := (hT 107 52 (by simp) rfl).trans (hd ⟨52, .data⟩ (by simp) rfl)
            exact BigFrame.wp_assign _ rfl ⟨_, rfl, e1, Below.refl _ _⟩
          case fin =>
            intro A vs w' hA hb hG
            have e6 : A.eval (.tmp 10) = .bool true := (hA.2.2.2 10 53 (by simp) rfl).trans (hG 53 (by decide))
            have hdf : A.defers = [] := hA.1
            clear hG hA
            go_wp2
            refine bodyPost_ret (v := .bool true) ?_ hdf ⟨rfl, q.trans (hb.mono q.size)⟩
            rw [← e6]
            exact results_tmp rfl _ _ _
      | false =>
        cases h_em : emptyS x with
        | true =>
          exfalso
          rw [inT_iff] at hvi2
          rw [empty_in h_em] at hvi2
          exact absurd hvi2.2 (by simp)
        | false =>
          have hmt : meetsS x y = true := meets_iff.2 ⟨(inT_iff.1 hvi2).1.trans (inT_iff.1 hvt2).1.symm, k, (inT_iff.1 hvi2).2, (inT_iff.1 hvt2).2⟩
          refine wp_region_gsa (by kernel_rfl) (by kernel_rfl) [sgEq (.bool true), sgEq (.bool true), sgEq (.bool true), sgEq (.bool false), sgEq (.bool false), sgEq (.bool true), sgEq (.bool false), sgEq (.bool false), sgEq (.bool false), sgEq (.agg #[.int .i64 x.table, .slice a1 x.lo.length a2, .slice a3 x.hi.length a4, .bool x.isOpen]), sgEq (.agg #[.int .i64 y.table, .slice b1 y.lo.length b2, .slice b3 y.hi.length b4, .bool y.isOpen]), sgEq (.bool true), sgEq (.bool true), sgEq (.bool true), sgEq (.bool true), sgEq (.agg #[.int .i64 x.table, .slice a1 x.lo.length a2, .slice a3 x.hi.length a4, .bool x.isOpen]), sgEq (.agg #[.int .i64 y.table, .slice b1 y.lo.length b2, .slice b3 y.hi.length b4, .bool y.isOpen]), sgEq (.bool false), sgEq (.bool true), sgEq (.bool true), sgEq undef, sgEq undef, sgEq (.bool true), sgEq (.bool true), sgEq undef, sgEq (.bool true), sgEq (.bool true), sgEq (.bool true), sgEq (.agg #[.int .i64 x.table, .slice a1 x.lo.length a2, .slice a3 x.hi.length a4, .bool x.isOpen]), sgEq (.bool false), sgEq (.bool true), sgEq (.bool true), sgEq undef, sgEq undef, sgEq (.bool true), sgEq (.bool true), sgEq (.bool true), sgEq (.agg #[.int .i64 x.table, .slice a1 x.lo.length a2, .slice a3 x.hi.length a4, .bool x.isOpen]), sgEq (.agg #[.int .i64 y.table, .slice b1 y.lo.length b2, .slice b3 y.hi.length b4, .bool y.isOpen]), sgEq (.bool (meetsS x y)), sgEq (.agg #[.int .i64 y.table, .slice b1 y.lo.length b2, .slice b3 y.hi.length b4, .bool y.isOpen]), sgEq (.agg #[.int .i64 x.table, .slice a1 x.lo.length a2, .slice a3 x.hi.length a4, .bool x.isOpen]), sgEq (.bool (meetsS y x)), sgEq (.bool true), sgEq (.bool true), sgEq (.bool true), sgEq (.agg #[.int .i64 x.table, .slice a1 x.lo.length a2, .slice a3 x.hi.length a4, .bool x.isOpen]), sgEq (.agg #[.int .i64 x.table, .slice a1 x.lo.length a2, .slice a3 x.hi.length a4, .bool x.isOpen]), sgEq (.bool true), sgEq (.bool true), sgEq (.bool true), sgEq (.bool true), sgEq (.bool true), sgEq (.bool true)]
            ⟨?o0, ?o1, ?o2, ?o3, ?o4, ?o5, ?o6, ?o7, ?o8, ?o9, ?o10, ?o11, ?o12, ?o13, ?o14, ?o15, ?o16, ?o17, ?o18, ?o19, ?o20, ?o21, ?o22, ?o23, ?o24, ?o25, ?o26, ?o27, ?o28, ?o29, ?o30, ?o31, ?o32, ?o33, ?o34, ?o35, ?o36, ?o37, ?o38, ?o39, ?o40, ?o41, ?o42, ?o43, ?o44, ?o45, ?o46, ?o47, ?o48, ?o49, ?o50, ?o51, ?o52, ?o53, trivial⟩ ?fin
          case o0 =>
            refine GdOp.plain rfl (fun A vs w' hF hT hb hd => ?_)
            have e1 : A.eval (.tmp 11) = .bool true := hF 11 rfl
            exact BigFrame.wp_move _ rfl ⟨_, rfl, e1, Below.refl _ _⟩
          case o1 =>
            refine GdOp.plain rfl (fun A vs w' hF hT hb hd => ?_)
            have e1 : A.eval (.tmp 55) = .bool true := (hT 55 0 (by simp) rfl).trans (hd ⟨0, .data⟩ (by simp) rfl)
            exact BigFrame.wp_move _ rfl ⟨_, rfl, e1, Below.refl _ _⟩
          case o2 =>
            refine GdOp.taken rfl ⟨_, _, rfl, rfl, by simp⟩ (by kernel_rfl) (fun w v h => h) (fun A vs w' hF hT hb hd => ?_)
            have e1 : A.eval (.tmp 12) = .bool true := hF 12 rfl
            exact BigFrame.wp_move _ rfl ⟨_, rfl, e1, Below.refl _ _⟩
          case o3 =>
            refine GdOp.taken rfl ⟨_, _, rfl, rfl, by simp⟩ (by kernel_rfl) (fun w v h => h) (fun A vs w' hF hT hb hd => ?_)
            have e1 : A.eval (.tmp 57) = .bool true := (hT 57 2 (by simp) rfl).trans (hd ⟨2, .data⟩ (by simp) rfl)
            exact wp_notB rfl e1 ⟨_, rfl, rfl, Below.refl _ _⟩
          case o4 =>
            refine GdOp.taken rfl ⟨_, _, rfl, rfl, by simp⟩ (by kernel_rfl) (fun w v h => h) (fun A vs w' hF hT hb hd => ?_)
            have e1 : A.eval (.tmp 58) = .bool false := (hT 58 3 (by simp) rfl).trans (hd ⟨3, .data⟩ (by simp) rfl)
            exact BigFrame.wp_move _ rfl ⟨_, rfl, e1, Below.refl _ _⟩
          case o5 =>
            refine GdOp.taken rfl ⟨_, _, rfl, rfl, by simp⟩ (by kernel_rfl) (fun w v h => h) (fun A vs w' hF hT hb hd => ?_)
            have e1 : A.eval (.tmp 13) = .bool true := hF 13 rfl
            exact BigFrame.wp_move _ rfl ⟨_, rfl, e1, Below.refl _ _⟩
          case o6 =>
            refine GdOp.taken rfl ⟨_, _, rfl, rfl, by simp⟩ (by kernel_rfl) (fun w v h => h) (fun A vs w' hF hT hb hd => ?_)
            have e1 : A.eval (.tmp 60) = .bool true := (hT 60 5 (by simp) rfl).trans (hd ⟨5, .data⟩ (by simp) rfl)
            exact wp_notB rfl e1 ⟨_, rfl, rfl, Below.refl _ _⟩
          case o7 =>
            refine GdOp.taken rfl ⟨_, _, rfl, rfl, by simp⟩ (by kernel_rfl) (fun w v h => h) (fun A vs w' hF hT hb hd => ?_)
            have e1 : A.eval (.tmp 59) = .bool false := (hT 59 4 (by simp) rfl).trans (hd ⟨4, .data⟩ (by simp) rfl)
            have e3 : A.eval (.tmp 61) = .bool false := (hT 61 6 (by simp) rfl).trans (hd ⟨6, .data⟩ (by simp) rfl)
            exact wp_pk rfl e1 (by simp) (fun _ => e3) ⟨_, rfl, rfl, Below.refl _ _⟩
          case o8 =>
            refine GdOp.taken rfl ⟨_, _, rfl, rfl, by simp⟩ (by kernel_rfl) (fun w v h => h) (fun A vs w' hF hT hb hd => ?_)
            have e1 : A.eval (.tmp 62) = .bool false := (hT 62 7 (by simp) rfl).trans (hd ⟨7, .data⟩ (by simp) rfl)
            exact BigFrame.wp_move _ rfl ⟨_, rfl, e1, Below.refl _ _⟩
          case o9 =>
            refine GdOp.taken rfl ⟨_, _, rfl, rfl, by simp⟩ (by kernel_rfl) (fun w v h => h) (fun A vs w' hF hT hb hd => ?_)
            have e1 : A.eval (.tmp 5) = .pointer (some ⟨w.heap.size, 0, none⟩) := hF 5 rfl
            exact wp_load4 spS rfl e1 ((Bx.below hb Bx.lt).cell (i := 0) rfl) ((Bx.below hb Bx.lt).cell (i := 1) rfl) ((Bx.below hb Bx.lt).cell (i := 2) rfl) ((Bx.below hb Bx.lt).cell (i := 3) rfl) ⟨_, rfl, rfl, Below.refl _ _⟩
          case o10 =>
            refine GdOp.taken rfl ⟨_, _, rfl, rfl, by simp⟩ (by kernel_rfl) (fun w v h => h) (fun A vs w' hF hT hb hd => ?_)
            have e1 : A.eval (.tmp 6) = .pointer (some ⟨w.heap.size + 1, 0, none⟩) := hF 6 rfl
            exact wp_load4 spS rfl e1 ((By.below hb By.lt).cell (i := 0) rfl) ((By.below hb By.lt).cell (i := 1) rfl) ((By.below hb By.lt).cell (i := 2) rfl) ((By.below hb By.lt).cell (i := 3) rfl) ⟨_, rfl, rfl, Below.refl _ _⟩
          case o11 =>
            refine GdOp.taken rfl ⟨_, _, rfl, rfl, by simp⟩ (by kernel_rfl) (fun w v h => h) (fun A vs w' hF hT hb hd => ?_)
            have e1 : A.eval (.tmp 64) = .agg #[.int .i64 x.table, .slice a1 x.lo.length a2, .slice a3 x.hi.length a4, .bool x.isOpen] := (hT 64 9 (by simp) rfl).trans (hd ⟨9, .data⟩ (by simp) rfl)
            have e2 : A.eval (.tmp 65) = .agg #[.int .i64 y.table, .slice b1 y.lo.length b2, .slice b3 y.hi.length b4, .bool y.isOpen] := (hT 65 10 (by simp) rfl).trans (hd ⟨10, .data⟩ (by simp) rfl)
            refine wp_callFn rfl eM (args := #[.agg #[.int .i64 x.table, .slice a1 x.lo.length a2, .slice a3 x.hi.length a4, .bool x.isOpen], .agg #[.int .i64 y.table, .slice b1 y.lo.length b2, .slice b3 y.hi.length b4, .bool y.isOpen]]) (by simp only [List.map_toArray, List.map_cons, List.map_nil, e1, e2]) ((sMeets_any w' (hxq.below hb) (hyq.below hb)).mono ?_)
            rintro e w2 ⟨rfl, hb2⟩
            exact ⟨_, rfl, _, rfl, congrArg Value.bool hmt, hb2⟩
          case o12 =>
            refine GdOp.taken rfl ⟨_, _, rfl, rfl, by simp⟩ (by kernel_rfl) (fun w v h => h) (fun A vs w' hF hT hb hd => ?_)
            have e1 : A.eval (.tmp 63) = .bool false := (hT 63 8 (by simp) rfl).trans (hd ⟨8, .data⟩ (by simp) rfl)
            have e3 : A.eval (.tmp 66) = .bool true := (hT 66 11 (by simp) rfl).trans (hd ⟨11, .data⟩ (by simp) rfl)
            exact wp_pk rfl e1 (by simp) (fun _ => e3) ⟨_, rfl, rfl, Below.refl _ _⟩
          case o13 =>
            refine GdOp.plain rfl (fun A vs w' hF hT hb hd => ?_)
            have e1 : A.eval (.tmp 56) = .bool true := (hT 56 1 (by simp) rfl).trans (hd ⟨1, .data⟩ (by simp) rfl)
            have e2 : A.eval (.tmp 67) = .bool true := (hT 67 12 (by simp) rfl).trans (hd ⟨12, .data⟩ (by simp) rfl)
            exact wp_pk rfl e1 (fun _ => e2) (by simp) ⟨_, rfl, rfl, Below.refl _ _⟩
          case o14 =>
            refine GdOp.plain rfl (fun A vs w' hF hT hb hd => ?_)
            have e1 : A.eval (.tmp 68) = .bool true := (hT 68 13 (by simp) rfl).trans (hd ⟨13, .data⟩ (by simp) rfl)
            exact BigFrame.wp_move _ rfl ⟨_, rfl, e1, Below.refl _ _⟩
          case o15 =>
            refine GdOp.taken rfl ⟨_, _, rfl, rfl, by simp⟩ (by kernel_rfl) (fun w v h => h) (fun A vs w' hF hT hb hd => ?_)
            have e1 : A.eval (.tmp 5) = .pointer (some ⟨w.heap.size, 0, none⟩) := hF 5 rfl
            exact wp_load4 spS rfl e1 ((Bx.below hb Bx.lt).cell (i := 0) rfl) ((Bx.below hb Bx.lt).cell (i := 1) rfl) ((Bx.below hb Bx.lt).cell (i := 2) rfl) ((Bx.below hb Bx.lt).cell (i := 3) rfl) ⟨_, rfl, rfl, Below.refl _ _⟩
          case o16 =>
            refine GdOp.taken rfl ⟨_, _, rfl, rfl, by simp⟩ (by kernel_rfl) (fun w v h => h) (fun A vs w' hF hT hb hd => ?_)
            have e1 : A.eval (.tmp 6) = .pointer (some ⟨w.heap.size + 1, 0, none⟩) := hF 6 rfl
            exact wp_load4 spS rfl e1 ((By.below hb By.lt).cell (i := 0) rfl) ((By.below hb By.lt).cell (i := 1) rfl) ((By.below hb By.lt).cell (i := 2) rfl) ((By.below hb By.lt).cell (i := 3) rfl) ⟨_, rfl, rfl, Below.refl _ _⟩
          case o17 =>
            refine GdOp.taken rfl ⟨_, _, rfl, rfl, by simp⟩ (by kernel_rfl) (fun w v h => h) (fun A vs w' hF hT hb hd => ?_)
            have e1 : A.eval (.tmp 70) = .agg #[.int .i64 x.table, .slice a1 x.lo.length a2, .slice a3 x.hi.length a4, .bool x.isOpen] := (hT 70 15 (by simp) rfl).trans (hd ⟨15, .data⟩ (by simp) rfl)
            have e2 : A.eval (.tmp 71) = .agg #[.int .i64 y.table, .slice b1 y.lo.length b2, .slice b3 y.hi.length b4, .bool y.isOpen] := (hT 71 16 (by simp) rfl).trans (hd ⟨16, .data⟩ (by simp) rfl)
            refine wp_callFn rfl eV (args := #[.agg #[.int .i64 x.table, .slice a1 x.lo.length a2, .slice a3 x.hi.length a4, .bool x.isOpen], .agg #[.int .i64 y.table, .slice b1 y.lo.length b2, .slice b3 y.hi.length b4, .bool y.isOpen]]) (by simp only [List.map_toArray, List.map_cons, List.map_nil, e1, e2]) ((sCovers_any w' (hxq.below hb) (hyq.below hb)).mono ?_)
            rintro e w2 ⟨rfl, hb2⟩
            exact ⟨_, rfl, _, rfl, congrArg Value.bool h_cv, hb2⟩
          case o18 =>
            refine GdOp.taken rfl ⟨_, _, rfl, rfl, by simp⟩ (by kernel_rfl) (fun w v h => h) (fun A vs w' hF hT hb hd => ?_)
            have e1 : A.eval (.tmp 72) = .bool false := (hT 72 17 (by simp) rfl).trans (hd ⟨17, .data⟩ (by simp) rfl)
            exact wp_notB rfl e1 ⟨_, rfl, rfl, Below.refl _ _⟩
          case o19 =>
            refine GdOp.taken rfl ⟨_, _, rfl, rfl, by simp⟩ (by kernel_rfl) (fun w v h => h) (fun A vs w' hF hT hb hd => ?_)
            have e1 : A.eval (.tmp 73) = .bool true := (hT 73 18 (by simp) rfl).trans (hd ⟨18, .data⟩ (by simp) rfl)
            exact BigFrame.wp_move _ rfl ⟨_, rfl, e1, Below.refl _ _⟩
          case o20 =>
            exact GdOp.left rfl ⟨_, _, rfl, rfl, by simp⟩ (by kernel_rfl) (fun w v h => .inl h) (fun w => rfl)
          case o21 =>
            exact GdOp.left rfl ⟨_, _, rfl, rfl, by simp⟩ (by kernel_rfl) (fun w v h => .inl h) (fun w => rfl)
          case o22 =>
            refine GdOp.taken rfl ⟨_, _, rfl, rfl, by simp⟩ (by kernel_rfl) (fun w v h => h) (fun A vs w' hF hT hb hd => ?_)
            have e1 : A.eval (.tmp 74) = .bool true := (hT 74 19 (by simp) rfl).trans (hd ⟨19, .data⟩ (by simp) rfl)
            have e3 : A.eval (.tmp 76) = undef := (hT 76 21 (by simp) rfl).trans (hd ⟨21, .data⟩ (by simp) rfl)
            exact wp_pk rfl e1 (fun _ => rfl) (by simp) ⟨_, rfl, rfl, Below.refl _ _⟩
          case o23 =>
            refine GdOp.taken rfl ⟨_, _, rfl, rfl, by simp⟩ (by kernel_rfl) (fun w v h => h) (fun A vs w' hF hT hb hd => ?_)
            have e1 : A.eval (.tmp 77) = .bool true := (hT 77 22 (by simp) rfl).trans (hd ⟨22, .data⟩ (by simp) rfl)
            exact BigFrame.wp_move _ rfl ⟨_, rfl, e1, Below.refl _ _⟩
          case o24 =>
            exact GdOp.left rfl ⟨_, _, rfl, rfl, by simp⟩ (by kernel_rfl) (fun w v h => .inl h) (fun w => rfl)
          case o25 =>
            refine GdOp.taken rfl ⟨_, _, rfl, rfl, by simp⟩ (by kernel_rfl) (fun w v h => h) (fun A vs w' hF hT hb hd => ?_)
            have e1 : A.eval (.tmp 78) = .bool true := (hT 78 23 (by simp) rfl).trans (hd ⟨23, .data⟩ (by simp) rfl)
            have e3 : A.eval (.tmp 79) = undef := (hT 79 24 (by simp) rfl).trans (hd ⟨24, .data⟩ (by simp) rfl)
            exact wp_pk rfl e1 (fun _ => rfl) (by simp) ⟨_, rfl, rfl, Below.refl _ _⟩
          case o26 =>
            refine GdOp.plain rfl (fun A vs w' hF hT hb hd => ?_)
            have e1 : A.eval (.tmp 69) = .bool true := (hT 69 14 (by simp) rfl).trans (hd ⟨14, .data⟩ (by simp) rfl)
            have e2 : A.eval (.tmp 80) = .bool true := (hT 80 25 (by simp) rfl).trans (hd ⟨25, .data⟩ (by simp) rfl)
            exact wp_pk rfl e1 (fun _ => e2) (by simp) ⟨_, rfl, rfl, Below.refl _ _⟩
          case o27 =>
            refine GdOp.plain rfl (fun A vs w' hF hT hb hd => ?_)
            have e1 : A.eval (.tmp 81) = .bool true := (hT 81 26 (by simp) rfl).trans (hd ⟨26, .data⟩ (by simp) rfl)
            exact BigFrame.wp_move _ rfl ⟨_, rfl, e1, Below.refl _ _⟩
          case o28 =>
            refine GdOp.taken rfl ⟨_, _, rfl, rfl, by simp⟩ (by kernel_rfl) (fun w v h => h) (fun A vs w' hF hT hb hd => ?_)
            have e1 : A.eval (.tmp 5) = .pointer (some ⟨w.heap.size, 0, none⟩) := hF 5 rfl
            exact wp_load4 spS rfl e1 ((Bx.below hb Bx.lt).cell (i := 0) rfl) ((Bx.below hb Bx.lt).cell (i := 1) rfl) ((Bx.below hb Bx.lt).cell (i := 2) rfl) ((Bx.below hb Bx.lt).cell (i := 3) rfl) ⟨_, rfl, rfl, Below.refl _ _⟩
          case o29 =>
            refine GdOp.taken rfl ⟨_, _, rfl, rfl, by simp⟩ (by kernel_rfl) (fun w v h => h) (fun A vs w' hF hT hb hd => ?_)
            have e1 : A.eval (.tmp 83) = .agg #[.int .i64 x.table, .slice a1 x.lo.length a2, .slice a3 x.hi.length a4, .bool x.isOpen] := (hT 83 28 (by simp) rfl).trans (hd ⟨28, .data⟩ (by simp) rfl)
            refine wp_callFn rfl eE (args := #[.agg #[.int .i64 x.table, .slice a1 x.lo.length a2, .slice a3 x.hi.length a4, .bool x.isOpen]]) (by simp only [List.map_toArray, List.map_cons, List.map_nil, e1]) ((sEmpty_any w' (hxq.below hb)).mono ?_)
            rintro e w2 ⟨rfl, hb2⟩
            exact ⟨_, rfl, _, rfl, congrArg Value.bool h_em, hb2⟩
          case o30 =>
            refine GdOp.taken rfl ⟨_, _, rfl, rfl, by simp⟩ (by kernel_rfl) (fun w v h => h) (fun A vs w' hF hT hb hd => ?_)
            have e1 : A.eval (.tmp 84) = .bool false := (hT 84 29 (by simp) rfl).trans (hd ⟨29, .data⟩ (by simp) rfl)
            exact wp_notB rfl e1 ⟨_, rfl, rfl, Below.refl _ _⟩
          case o31 =>
            refine GdOp.taken rfl ⟨_, _, rfl, rfl, by simp⟩ (by kernel_rfl) (fun w v h => h) (fun A vs w' hF hT hb hd => ?_)
            have e1 : A.eval (.tmp 85) = .bool true := (hT 85 30 (by simp) rfl).trans (hd ⟨30, .data⟩ (by simp) rfl)
            exact BigFrame.wp_move _ rfl ⟨_, rfl, e1, Below.refl _ _⟩
          case o32 =>
            exact GdOp.left rfl ⟨_, _, rfl, rfl, by simp⟩ (by kernel_rfl) (fun w v h => .inl h) (fun w => rfl)
          case o33 =>
            exact GdOp.left rfl ⟨_, _, rfl, rfl, by simp⟩ (by kernel_rfl) (fun w v h => .inl h) (fun w => rfl)
          case o34 =>
            refine GdOp.taken rfl ⟨_, _, rfl, rfl, by simp⟩ (by kernel_rfl) (fun w v h => h) (fun A vs w' hF hT hb hd => ?_)
            have e1 : A.eval (.tmp 86) = .bool true := (hT 86 31 (by simp) rfl).trans (hd ⟨31, .data⟩ (by simp) rfl)
            have e3 : A.eval (.tmp 88) = undef := (hT 88 33 (by simp) rfl).trans (hd ⟨33, .data⟩ (by simp) rfl)
            exact wp_pk rfl e1 (fun _ => rfl) (by simp) ⟨_, rfl, rfl, Below.refl _ _⟩
          case o35 =>
            refine GdOp.plain rfl (fun A vs w' hF hT hb hd => ?_)
            have e1 : A.eval (.tmp 82) = .bool true := (hT 82 27 (by simp) rfl).trans (hd ⟨27, .data⟩ (by simp) rfl)
            have e2 : A.eval (.tmp 89) = .bool true := (hT 89 34 (by simp) rfl).trans (hd ⟨34, .data⟩ (by simp) rfl)
            exact wp_pk rfl e1 (fun _ => e2) (by simp) ⟨_, rfl, rfl, Below.refl _ _⟩
          case o36 =>
            refine GdOp.plain rfl (fun A vs w' hF hT hb hd => ?_)
            have e1 : A.eval (.tmp 90) = .bool true := (hT 90 35 (by simp) rfl).trans (hd ⟨35, .data⟩ (by simp) rfl)
            exact BigFrame.wp_move _ rfl ⟨_, rfl, e1, Below.refl _ _⟩
          case o37 =>
            refine GdOp.taken rfl ⟨_, _, rfl, rfl, by simp⟩ (by kernel_rfl) (fun w v h => h) (fun A vs w' hF hT hb hd => ?_)
            have e1 : A.eval (.tmp 5) = .pointer (some ⟨w.heap.size, 0, none⟩) := hF 5 rfl
            exact wp_load4 spS rfl e1 ((Bx.below hb Bx.lt).cell (i := 0) rfl) ((Bx.below hb Bx.lt).cell (i := 1) rfl) ((Bx.below hb Bx.lt).cell (i := 2) rfl) ((Bx.below hb Bx.lt).cell (i := 3) rfl) ⟨_, rfl, rfl, Below.refl _ _⟩
          case o38 =>
            refine GdOp.taken rfl ⟨_, _, rfl, rfl, by simp⟩ (by kernel_rfl) (fun w v h => h) (fun A vs w' hF hT hb hd => ?_)
            have e1 : A.eval (.tmp 6) = .pointer (some ⟨w.heap.size + 1, 0, none⟩) := hF 6 rfl
            exact wp_load4 spS rfl e1 ((By.below hb By.lt).cell (i := 0) rfl) ((By.below hb By.lt).cell (i := 1) rfl) ((By.below hb By.lt).cell (i := 2) rfl) ((By.below hb By.lt).cell (i := 3) rfl) ⟨_, rfl, rfl, Below.refl _ _⟩
          case o39 =>
            refine GdOp.taken rfl ⟨_, _, rfl, rfl, by simp⟩ (by kernel_rfl) (fun w v h => h) (fun A vs w' hF hT hb hd => ?_)
            have e1 : A.eval (.tmp 92) = .agg #[.int .i64 x.table, .slice a1 x.lo.length a2, .slice a3 x.hi.length a4, .bool x.isOpen] := (hT 92 37 (by simp) rfl).trans (hd ⟨37, .data⟩ (by simp) rfl)
            have e2 : A.eval (.tmp 93) = .agg #[.int .i64 y.table, .slice b1 y.lo.length b2, .slice b3 y.hi.length b4, .bool y.isOpen] := (hT 93 38 (by simp) rfl).trans (hd ⟨38, .data⟩ (by simp) rfl)
            refine wp_callFn rfl eM (args := #[.agg #[.int .i64 x.table, .slice a1 x.lo.length a2, .slice a3 x.hi.length a4, .bool x.isOpen], .agg #[.int .i64 y.table, .slice b1 y.lo.length b2, .slice b3 y.hi.length b4, .bool y.isOpen]]) (by simp only [List.map_toArray, List.map_cons, List.map_nil, e1, e2]) ((sMeets_any w' (hxq.below hb) (hyq.below hb)).mono ?_)
            rintro e w2 ⟨rfl, hb2⟩
            exact ⟨_, rfl, _, rfl, rfl, hb2⟩
          case o40 =>
            refine GdOp.taken rfl ⟨_, _, rfl, rfl, by simp⟩ (by kernel_rfl) (fun w v h => h) (fun A vs w' hF hT hb hd => ?_)
            have e1 : A.eval (.tmp 6) = .pointer (some ⟨w.heap.size + 1, 0, none⟩) := hF 6 rfl
            exact wp_load4 spS rfl e1 ((By.below hb By.lt).cell (i := 0) rfl) ((By.below hb By.lt).cell (i := 1) rfl) ((By.below hb By.lt).cell (i := 2) rfl) ((By.below hb By.lt).cell (i := 3) rfl) ⟨_, rfl, rfl, Below.refl _ _⟩
          case o41 =>
            refine GdOp.taken rfl ⟨_, _, rfl, rfl, by simp⟩ (by kernel_rfl) (fun w v h => h) (fun A vs w' hF hT hb hd => ?_)
            have e1 : A.eval (.tmp 5) = .pointer (some ⟨w.heap.size, 0, none⟩) := hF 5 rfl
            exact wp_load4 spS rfl e1 ((Bx.below hb Bx.lt).cell (i := 0) rfl) ((Bx.below hb Bx.lt).cell (i := 1) rfl) ((Bx.below hb Bx.lt).cell (i := 2) rfl) ((Bx.below hb Bx.lt).cell (i := 3) rfl) ⟨_, rfl, rfl, Below.refl _ _⟩
          case o42 =>
            refine GdOp.taken rfl ⟨_, _, rfl, rfl, by simp⟩ (by kernel_rfl) (fun w v h => h) (fun A vs w' hF hT hb hd => ?_)
            have e1 : A.eval (.tmp 95) = .agg #[.int .i64 y.table, .slice b1 y.lo.length b2, .slice b3 y.hi.length b4, .bool y.isOpen] := (hT 95 40 (by simp) rfl).trans (hd ⟨40, .data⟩ (by simp) rfl)
            have e2 : A.eval (.tmp 96) = .agg #[.int .i64 x.table, .slice a1 x.lo.length a2, .slice a3 x.hi.length a4, .bool x.isOpen] := (hT 96 41 (by simp) rfl).trans (hd ⟨41, .data⟩ (by simp) rfl)
            refine wp_callFn rfl eM (args := #[.agg #[.int .i64 y.table, .slice b1 y.lo.length b2, .slice b3 y.hi.length b4, .bool y.isOpen], .agg #[.int .i64 x.table, .slice a1 x.lo.length a2, .slice a3 x.hi.length a4, .bool x.isOpen]]) (by simp only [List.map_toArray, List.map_cons, List.map_nil, e1, e2]) ((sMeets_any w' (hyq.below hb) (hxq.below hb)).mono ?_)
            rintro e w2 ⟨rfl, hb2⟩
            exact ⟨_, rfl, _, rfl, rfl, hb2⟩
          case o43 =>
            refine GdOp.taken rfl ⟨_, _, rfl, rfl, by simp⟩ (by kernel_rfl) (fun w v h => h) (fun A vs w' hF hT hb hd => ?_)
            have e1 : A.eval (.tmp 94) = .bool (meetsS x y) := (hT 94 39 (by simp) rfl).trans (hd ⟨39, .data⟩ (by simp) rfl)
            have e2 : A.eval (.tmp 97) = .bool (meetsS y x) := (hT 97 42 (by simp) rfl).trans (hd ⟨42, .data⟩ (by simp) rfl)
            exact wp_eqlB (by kernel_rfl) rfl e1 e2 ⟨_, rfl, (congrArg Value.bool (by rw [meets_comm y x, beq_self_eq_true])), Below.refl _ _⟩
          case o44 =>
            refine GdOp.plain rfl (fun A vs w' hF hT hb hd => ?_)
            have e1 : A.eval (.tmp 91) = .bool true := (hT 91 36 (by simp) rfl).trans (hd ⟨36, .data⟩ (by simp) rfl)
            have e2 : A.eval (.tmp 98) = .bool true := (hT 98 43 (by simp) rfl).trans (hd ⟨43, .data⟩ (by simp) rfl)
            exact wp_pk rfl e1 (fun _ => e2) (by simp) ⟨_, rfl, rfl, Below.refl _ _⟩
          case o45 =>
            refine GdOp.plain rfl (fun A vs w' hF hT hb hd => ?_)
            have e1 : A.eval (.tmp 99) = .bool true := (hT 99 44 (by simp) rfl).trans (hd ⟨44, .data⟩ (by simp) rfl)
            exact BigFrame.wp_move _ rfl ⟨_, rfl, e1, Below.refl _ _⟩
          case o46 =>
            refine GdOp.taken rfl ⟨_, _, rfl, rfl, by simp⟩ (by kernel_rfl) (fun w v h => h) (fun A vs w' hF hT hb hd => ?_)
            have e1 : A.eval (.tmp 5) = .pointer (some ⟨w.heap.size, 0, none⟩) := hF 5 rfl
            exact wp_load4 spS rfl e1 ((Bx.below hb Bx.lt).cell (i := 0) rfl) ((Bx.below hb Bx.lt).cell (i := 1) rfl) ((Bx.below hb Bx.lt).cell (i := 2) rfl) ((Bx.below hb Bx.lt).cell (i := 3) rfl) ⟨_, rfl, rfl, Below.refl _ _⟩
          case o47 =>
            refine GdOp.taken rfl ⟨_, _, rfl, rfl, by simp⟩ (by kernel_rfl) (fun w v h => h) (fun A vs w' hF hT hb hd => ?_)
            have e1 : A.eval (.tmp 5) = .pointer (some ⟨w.heap.size, 0, none⟩) := hF 5 rfl
            exact wp_load4 spS rfl e1 ((Bx.below hb Bx.lt).cell (i := 0) rfl) ((Bx.below hb Bx.lt).cell (i := 1) rfl) ((Bx.below hb Bx.lt).cell (i := 2) rfl) ((Bx.below hb Bx.lt).cell (i := 3) rfl) ⟨_, rfl, rfl, Below.refl _ _⟩
          case o48 =>
            refine GdOp.taken rfl ⟨_, _, rfl, rfl, by simp⟩ (by kernel_rfl) (fun w v h => h) (fun A vs w' hF hT hb hd => ?_)
            have e1 : A.eval (.tmp 101) = .agg #[.int .i64 x.table, .slice a1 x.lo.length a2, .slice a3 x.hi.length a4, .bool x.isOpen] := (hT 101 46 (by simp) rfl).trans (hd ⟨46, .data⟩ (by simp) rfl)
            have e2 : A.eval (.tmp 102) = .agg #[.int .i64 x.table, .slice a1 x.lo.length a2, .slice a3 x.hi.length a4, .bool x.isOpen] := (hT 102 47 (by simp) rfl).trans (hd ⟨47, .data⟩ (by simp) rfl)
            refine wp_callFn rfl eV (args := #[.agg #[.int .i64 x.table, .slice a1 x.lo.length a2, .slice a3 x.hi.length a4, .bool x.isOpen], .agg #[.int .i64 x.table, .slice a1 x.lo.length a2, .slice a3 x.hi.length a4, .bool x.isOpen]]) (by simp only [List.map_toArray, List.map_cons, List.map_nil, e1, e2]) ((sCovers_any w' (hxq.below hb) (hxq.below hb)).mono ?_)
            rintro e w2 ⟨rfl, hb2⟩
            exact ⟨_, rfl, _, rfl, congrArg Value.bool (covers_self x), hb2⟩
          case o49 =>
            refine GdOp.plain rfl (fun A vs w' hF hT hb hd => ?_)
            have e1 : A.eval (.tmp 100) = .bool true := (hT 100 45 (by simp) rfl).trans (hd ⟨45, .data⟩ (by simp) rfl)
            have e2 : A.eval (.tmp 103) = .bool true := (hT 103 48 (by simp) rfl).trans (hd ⟨48, .data⟩ (by simp) rfl)
            exact wp_pk rfl e1 (fun _ => e2) (by simp) ⟨_, rfl, rfl, Below.refl _ _⟩
          case o50 =>
            refine GdOp.plain rfl (fun A vs w' hF hT hb hd => ?_)
            have e1 : A.eval (.tmp 104) = .bool true := (hT 104 49 (by simp) rfl).trans (hd ⟨49, .data⟩ (by simp) rfl)
            exact BigFrame.wp_move _ rfl ⟨_, rfl, e1, Below.refl _ _⟩
          case o51 =>
            refine GdOp.taken rfl ⟨_, _, rfl, rfl, by simp⟩ (by kernel_rfl) (fun w v h => h) (fun A vs w' hF hT hb hd => ?_)
            have e1 : A.eval (.tmp 14) = .bool true := hF 14 rfl
            exact BigFrame.wp_move _ rfl ⟨_, rfl, e1, Below.refl _ _⟩
          case o52 =>
            refine GdOp.plain rfl (fun A vs w' hF hT hb hd => ?_)
            have e1 : A.eval (.tmp 105) = .bool true := (hT 105 50 (by simp) rfl).trans (hd ⟨50, .data⟩ (by simp) rfl)
            have e2 : A.eval (.tmp 106) = .bool true := (hT 106 51 (by simp) rfl).trans (hd ⟨51, .data⟩ (by simp) rfl)
            exact wp_pk rfl e1 (fun _ => e2) (by simp) ⟨_, rfl, rfl, Below.refl _ _⟩
          case o53 =>
            refine GdOp.plain rfl (fun A vs w' hF hT hb hd => ?_)
            have e1 : A.eval (.tmp 107) = .bool true := (hT 107 52 (by simp) rfl).trans (hd ⟨52, .data⟩ (by simp) rfl)
            exact BigFrame.wp_assign _ rfl ⟨_, rfl, e1, Below.refl _ _⟩
          case fin =>
            intro A vs w' hA hb hG
            have e6 : A.eval (.tmp 10) = .bool true := (hA.2.2.2 10 53 (by simp) rfl).trans (hG 53 (by decide))
            have hdf : A.defers = [] := hA.1
            clear hG hA
            go_wp2
            refine bodyPost_ret (v := .bool true) ?_ hdf ⟨rfl, q.trans (hb.mono q.size)⟩
            rw [← e6]
            exact results_tmp rfl _ _ _
    | false =>
      have hvt2 : inT y t k = false := by rw [← hvt.out, htoo]
      cases h_cv : coversS x y with
      | true =>
        cases h_em : emptyS x with
        | true =>
          exfalso
          rw [inT_iff] at hvi2
          rw [empty_in h_em] at hvi2
          exact absurd hvi2.2 (by simp)
        | false =>
          refine wp_region_gsa (by kernel_rfl) (by kernel_rfl) [sgEq (.bool true), sgEq (.bool true), sgEq (.bool true), sgEq (.bool false), sgEq (.bool false), sgEq (.bool false), sgEq (.bool true), sgEq (.bool true), sgEq (.bool true), sgEq undef, sgEq undef, sgEq undef, sgEq (.bool true), sgEq (.bool true), sgEq (.bool true), sgEq (.agg #[.int .i64 x.table, .slice a1 x.lo.length a2, .slice a3 x.hi.length a4, .bool x.isOpen]), sgEq (.agg #[.int .i64 y.table, .slice b1 y.lo.length b2, .slice b3 y.hi.length b4, .bool y.isOpen]), sgEq (.bool true), sgEq (.bool false), sgEq (.bool false), sgEq (.bool false), sgEq (.bool true), sgEq (.bool true), sgEq (.bool true), sgEq undef, sgEq (.bool true), sgEq (.bool true), sgEq (.bool true), sgEq (.agg #[.int .i64 x.table, .slice a1 x.lo.length a2, .slice a3 x.hi.length a4, .bool x.isOpen]), sgEq (.bool false), sgEq (.bool true), sgEq (.bool true), sgEq undef, sgEq undef, sgEq (.bool true), sgEq (.bool true), sgEq (.bool true), sgEq (.agg #[.int .i64 x.table, .slice a1 x.lo.length a2, .slice a3 x.hi.length a4, .bool x.isOpen]), sgEq (.agg #[.int .i64 y.table, .slice b1 y.lo.length b2, .slice b3 y.hi.length b4, .bool y.isOpen]), sgEq (.bool (meetsS x y)), sgEq (.agg #[.int .i64 y.table, .slice b1 y.lo.length b2, .slice b3 y.hi.length b4, .bool y.isOpen]), sgEq (.agg #[.int .i64 x.table, .slice a1 x.lo.length a2, .slice a3 x.hi.length a4, .bool x.isOpen]), sgEq (.bool (meetsS y x)), sgEq (.bool true), sgEq (.bool true), sgEq (.bool true), sgEq (.agg #[.int .i64 x.table, .slice a1 x.lo.length a2, .slice a3 x.hi.length a4, .bool x.isOpen]), sgEq (.agg #[.int .i64 x.table, .slice a1 x.lo.length a2, .slice a3 x.hi.length a4, .bool x.isOpen]), sgEq (.bool true), sgEq (.bool true), sgEq (.bool true), sgEq (.bool true), sgEq (.bool true), sgEq (.bool true)]
            ⟨?o0, ?o1, ?o2, ?o3, ?o4, ?o5, ?o6, ?o7, ?o8, ?o9, ?o10, ?o11, ?o12, ?o13, ?o14, ?o15, ?o16, ?o17, ?o18, ?o19, ?o20, ?o21, ?o22, ?o23, ?o24, ?o25, ?o26, ?o27, ?o28, ?o29, ?o30, ?o31, ?o32, ?o33, ?o34, ?o35, ?o36, ?o37, ?o38, ?o39, ?o40, ?o41, ?o42, ?o43, ?o44, ?o45, ?o46, ?o47, ?o48, ?o49, ?o50, ?o51, ?o52, ?o53, trivial⟩ ?fin
          case o0 =>
            refine GdOp.plain rfl (fun A vs w' hF hT hb hd => ?_)
            have e1 : A.eval (.tmp 11) = .bool true := hF 11 rfl
            exact BigFrame.wp_move _ rfl ⟨_, rfl, e1, Below.refl _ _⟩
          case o1 =>
            refine GdOp.plain rfl (fun A vs w' hF hT hb hd => ?_)
            have e1 : A.eval (.tmp 55) = .bool true := (hT 55 0 (by simp) rfl).trans (hd ⟨0, .data⟩ (by simp) rfl)
            exact BigFrame.wp_move _ rfl ⟨_, rfl, e1, Below.refl _ _⟩
          case o2 =>
            refine GdOp.taken rfl ⟨_, _, rfl, rfl, by simp⟩ (by kernel_rfl) (fun w v h => h) (fun A vs w' hF hT hb hd => ?_)
            have e1 : A.eval (.tmp 12) = .bool true := hF 12 rfl
            exact BigFrame.wp_move _ rfl ⟨_, rfl, e1, Below.refl _ _⟩
          case o3 =>
            refine GdOp.taken rfl ⟨_, _, rfl, rfl, by simp⟩ (by kernel_rfl) (fun w v h => h) (fun A vs w' hF hT hb hd => ?_)
            have e1 : A.eval (.tmp 57) = .bool true := (hT 57 2 (by simp) rfl).trans (hd ⟨2, .data⟩ (by simp) rfl)
            exact wp_notB rfl e1 ⟨_, rfl, rfl, Below.refl _ _⟩
          case o4 =>
            refine GdOp.taken rfl ⟨_, _, rfl, rfl, by simp⟩ (by kernel_rfl) (fun w v h => h) (fun A vs w' hF hT hb hd => ?_)
            have e1 : A.eval (.tmp 58) = .bool false := (hT 58 3 (by simp) rfl).trans (hd ⟨3, .data⟩ (by simp) rfl)
            exact BigFrame.wp_move _ rfl ⟨_, rfl, e1, Below.refl _ _⟩
          case o5 =>
            refine GdOp.taken rfl ⟨_, _, rfl, rfl, by simp⟩ (by kernel_rfl) (fun w v h => h) (fun A vs w' hF hT hb hd => ?_)
            have e1 : A.eval (.tmp 13) = .bool false := hF 13 rfl
            exact BigFrame.wp_move _ rfl ⟨_, rfl, e1, Below.refl _ _⟩
          case o6 =>
            refine GdOp.taken rfl ⟨_, _, rfl, rfl, by simp⟩ (by kernel_rfl) (fun w v h => h) (fun A vs w' hF hT hb hd => ?_)
            have e1 : A.eval (.tmp 60) = .bool false := (hT 60 5 (by simp) rfl).trans (hd ⟨5, .data⟩ (by simp) rfl)
            exact wp_notB rfl e1 ⟨_, rfl, rfl, Below.refl _ _⟩
          case o7 =>
            refine GdOp.taken rfl ⟨_, _, rfl, rfl, by simp⟩ (by kernel_rfl) (fun w v h => h) (fun A vs w' hF hT hb hd => ?_)
            have e1 : A.eval (.tmp 59) = .bool false := (hT 59 4 (by simp) rfl).trans (hd ⟨4, .data⟩ (by simp) rfl)
            have e3 : A.eval (.tmp 61) = .bool true := (hT 61 6 (by simp) rfl).trans (hd ⟨6, .data⟩ (by simp) rfl)
            exact wp_pk rfl e1 (by simp) (fun _ => e3) ⟨_, rfl, rfl, Below.refl _ _⟩
          case o8 =>
            refine GdOp.taken rfl ⟨_, _, rfl, rfl, by simp⟩ (by kernel_rfl) (fun w v h => h) (fun A vs w' hF hT hb hd => ?_)
            have e1 : A.eval (.tmp 62) = .bool true := (hT 62 7 (by simp) rfl).trans (hd ⟨7, .data⟩ (by simp) rfl)
            exact BigFrame.wp_move _ rfl ⟨_, rfl, e1, Below.refl _ _⟩
          case o9 =>
            exact GdOp.left rfl ⟨_, _, rfl, rfl, by simp⟩ (by kernel_rfl) (fun w v h => .inl h) (fun w => rfl)
          case o10 =>
            exact GdOp.left rfl ⟨_, _, rfl, rfl, by simp⟩ (by kernel_rfl) (fun w v h => .inl h) (fun w => rfl)
          case o11 =>
            exact GdOp.left rfl ⟨_, _, rfl, rfl, by simp⟩ (by kernel_rfl) (fun w v h => .inl h) (fun w => rfl)
          case o12 =>
            refine GdOp.taken rfl ⟨_, _, rfl, rfl, by simp⟩ (by kernel_rfl) (fun w v h => h) (fun A vs w' hF hT hb hd => ?_)
            have e1 : A.eval (.tmp 63) = .bool true := (hT 63 8 (by simp) rfl).trans (hd ⟨8, .data⟩ (by simp) rfl)
            have e3 : A.eval (.tmp 66) = undef := (hT 66 11 (by simp) rfl).trans (hd ⟨11, .data⟩ (by simp) rfl)
            exact wp_pk rfl e1 (fun _ => rfl) (by simp) ⟨_, rfl, rfl, Below.refl _ _⟩
          case o13 =>
            refine GdOp.plain rfl (fun A vs w' hF hT hb hd => ?_)
            have e1 : A.eval (.tmp 56) = .bool true := (hT 56 1 (by simp) rfl).trans (hd ⟨1, .data⟩ (by simp) rfl)
            have e2 : A.eval (.tmp 67) = .bool true := (hT 67 12 (by simp) rfl).trans (hd ⟨12, .data⟩ (by simp) rfl)
            exact wp_pk rfl e1 (fun _ => e2) (by simp) ⟨_, rfl, rfl, Below.refl _ _⟩
          case o14 =>
            refine GdOp.plain rfl (fun A vs w' hF hT hb hd => ?_)
            have e1 : A.eval (.tmp 68) = .bool true := (hT 68 13 (by simp) rfl).trans (hd ⟨13, .data⟩ (by simp) rfl)
            exact BigFrame.wp_move _ rfl ⟨_, rfl, e1, Below.refl _ _⟩
          case o15 =>
            refine GdOp.taken rfl ⟨_, _, rfl, rfl, by simp⟩ (by kernel_rfl) (fun w v h => h) (fun A vs w' hF hT hb hd => ?_)
            have e1 : A.eval (.tmp 5) = .pointer (some ⟨w.heap.size, 0, none⟩) := hF 5 rfl
            exact wp_load4 spS rfl e1 ((Bx.below hb Bx.lt).cell (i := 0) rfl) ((Bx.below hb Bx.lt).cell (i := 1) rfl) ((Bx.below hb Bx.lt).cell (i := 2) rfl) ((Bx.below hb Bx.lt).cell (i := 3) rfl) ⟨_, rfl, rfl, Below.refl _ _⟩
          case o16 =>
            refine GdOp.taken rfl ⟨_, _, rfl, rfl, by simp⟩ (by kernel_rfl) (fun w v h => h) (fun A vs w' hF hT hb hd => ?_)
            have e1 : A.eval (.tmp 6) = .pointer (some ⟨w.heap.size + 1, 0, none⟩) := hF 6 rfl
            exact wp_load4 spS rfl e1 ((By.below hb By.lt).cell (i := 0) rfl) ((By.below hb By.lt).cell (i := 1) rfl) ((By.below hb By.lt).cell (i := 2) rfl) ((By.below hb By.lt).cell (i := 3) rfl) ⟨_, rfl, rfl, Below.refl _ _⟩
          case o17 =>
            refine GdOp.taken rfl ⟨_, _, rfl, rfl, by simp⟩ (by kernel_rfl) (fun w v h => h) (fun A vs w' hF hT hb hd => ?_)
            have e1 : A.eval (.tmp 70) = .agg #[.int .i64 x.table, .slice a1 x.lo.length a2, .slice a3 x.hi.length a4, .bool x.isOpen] := (hT 70 15 (by simp) rfl).trans (hd ⟨15, .data⟩ (by simp) rfl)
            have e2 : A.eval (.tmp 71) = .agg #[.int .i64 y.table, .slice b1 y.lo.length b2, .slice b3 y.hi.length b4, .bool y.isOpen] := (hT 71 16 (by simp) rfl).trans (hd ⟨16, .data⟩ (by simp) rfl)
            refine wp_callFn rfl eV (args := #[.agg #[.int .i64 x.table, .slice a1 x.lo.length a2, .slice a3 x.hi.length a4, .bool x.isOpen], .agg #[.int .i64 y.table, .slice b1 y.lo.length b2, .slice b3 y.hi.length b4, .bool y.isOpen]]) (by simp only [List.map_toArray, List.map_cons, List.map_nil, e1, e2]) ((sCovers_any w' (hxq.below hb) (hyq.below hb)).mono ?_)
            rintro e w2 ⟨rfl, hb2⟩
            exact ⟨_, rfl, _, rfl, congrArg Value.bool h_cv, hb2⟩
          case o18 =>
            refine GdOp.taken rfl ⟨_, _, rfl, rfl, by simp⟩ (by kernel_rfl) (fun w v h => h) (fun A vs w' hF hT hb hd => ?_)
            have e1 : A.eval (.tmp 72) = .bool true := (hT 72 17 (by simp) rfl).trans (hd ⟨17, .data⟩ (by simp) rfl)
            exact wp_notB rfl e1 ⟨_, rfl, rfl, Below.refl _ _⟩
          case o19 =>
            refine GdOp.taken rfl ⟨_, _, rfl, rfl, by simp⟩ (by kernel_rfl) (fun w v h => h) (fun A vs w' hF hT hb hd => ?_)
            have e1 : A.eval (.tmp 73) = .bool false := (hT 73 18 (by simp) rfl).trans (hd ⟨18, .data⟩ (by simp) rfl)
            exact BigFrame.wp_move _ rfl ⟨_, rfl, e1, Below.refl _ _⟩
          case o20 =>
            refine GdOp.taken rfl ⟨_, _, rfl, rfl, by simp⟩ (by kernel_rfl) (fun w v h => h) (fun A vs w' hF hT hb hd => ?_)
            have e1 : A.eval (.tmp 13) = .bool false := hF 13 rfl
            exact BigFrame.wp_move _ rfl ⟨_, rfl, e1, Below.refl _ _⟩
          case o21 =>
            refine GdOp.taken rfl ⟨_, _, rfl, rfl, by simp⟩ (by kernel_rfl) (fun w v h => h) (fun A vs w' hF hT hb hd => ?_)
            have e1 : A.eval (.tmp 75) = .bool false := (hT 75 20 (by simp) rfl).trans (hd ⟨20, .data⟩ (by simp) rfl)
            exact wp_notB rfl e1 ⟨_, rfl, rfl, Below.refl _ _⟩
          case o22 =>
            refine GdOp.taken rfl ⟨_, _, rfl, rfl, by simp⟩ (by kernel_rfl) (fun w v h => h) (fun A vs w' hF hT hb hd => ?_)
            have e1 : A.eval (.tmp 74) = .bool false := (hT 74 19 (by simp) rfl).trans (hd ⟨19, .data⟩ (by simp) rfl)
            have e3 : A.eval (.tmp 76) = .bool true := (hT 76 21 (by simp) rfl).trans (hd ⟨21, .data⟩ (by simp) rfl)
            exact wp_pk rfl e1 (by simp) (fun _ => e3) ⟨_, rfl, rfl, Below.refl _ _⟩
          case o23 =>
            refine GdOp.taken rfl ⟨_, _, rfl, rfl, by simp⟩ (by kernel_rfl) (fun w v h => h) (fun A vs w' hF hT hb hd => ?_)
            have e1 : A.eval (.tmp 77) = .bool true := (hT 77 22 (by simp) rfl).trans (hd ⟨22, .data⟩ (by simp) rfl)
            exact BigFrame.wp_move _ rfl ⟨_, rfl, e1, Below.refl _ _⟩
          case o24 =>
            exact GdOp.left rfl ⟨_, _, rfl, rfl, by simp⟩ (by kernel_rfl) (fun w v h => .inl h) (fun w => rfl)
          case o25 =>
            refine GdOp.taken rfl ⟨_, _, rfl, rfl, by simp⟩ (by kernel_rfl) (fun w v h => h) (fun A vs w' hF hT hb hd => ?_)
            have e1 : A.eval (.tmp 78) = .bool true := (hT 78 23 (by simp) rfl).trans (hd ⟨23, .data⟩ (by simp) rfl)
            have e3 : A.eval (.tmp 79) = undef := (hT 79 24 (by simp) rfl).trans (hd ⟨24, .data⟩ (by simp) rfl)
            exact wp_pk rfl e1 (fun _ => rfl) (by simp) ⟨_, rfl, rfl, Below.refl _ _⟩
          case o26 =>
            refine GdOp.plain rfl (fun A vs w' hF hT hb hd => ?_)
            have e1 : A.eval (.tmp 69) = .bool true := (hT 69 14 (by simp) rfl).trans (hd ⟨14, .data⟩ (by simp) rfl)
            have e2 : A.eval (.tmp 80) = .bool true := (hT 80 25 (by simp) rfl).trans (hd ⟨25, .data⟩ (by simp) rfl)
            exact wp_pk rfl e1 (fun _ => e2) (by simp) ⟨_, rfl, rfl, Below.refl _ _⟩
          case o27 =>
            refine GdOp.plain rfl (fun A vs w' hF hT hb hd => ?_)
            have e1 : A.eval (.tmp 81) = .bool true := (hT 81 26 (by simp) rfl).trans (hd ⟨26, .data⟩ (by simp) rfl)
            exact BigFrame.wp_move _ rfl ⟨_, rfl, e1, Below.refl _ _⟩
          case o28 =>
            refine GdOp.taken rfl ⟨_, _, rfl, rfl, by simp⟩ (by kernel_rfl) (fun w v h => h) (fun A vs w' hF hT hb hd => ?_)
            have e1 : A.eval (.tmp 5) = .pointer (some ⟨w.heap.size, 0, none⟩) := hF 5 rfl
            exact wp_load4 spS rfl e1 ((Bx.below hb Bx.lt).cell (i := 0) rfl) ((Bx.below hb Bx.lt).cell (i := 1) rfl) ((Bx.below hb Bx.lt).cell (i := 2) rfl) ((Bx.below hb Bx.lt).cell (i := 3) rfl) ⟨_, rfl, rfl, Below.refl _ _⟩
          case o29 =>
            refine GdOp.taken rfl ⟨_, _, rfl, rfl, by simp⟩ (by kernel_rfl) (fun w v h => h) (fun A vs w' hF hT hb hd => ?_)
            have e1 : A.eval (.tmp 83) = .agg #[.int .i64 x.table, .slice a1 x.lo.length a2, .slice a3 x.hi.length a4, .bool x.isOpen] := (hT 83 28 (by simp) rfl).trans (hd ⟨28, .data⟩ (by simp) rfl)
            refine wp_callFn rfl eE (args := #[.agg #[.int .i64 x.table, .slice a1 x.lo.length a2, .slice a3 x.hi.length a4, .bool x.isOpen]]) (by simp only [List.map_toArray, List.map_cons, List.map_nil, e1]) ((sEmpty_any w' (hxq.below hb)).mono ?_)
            rintro e w2 ⟨rfl, hb2⟩
            exact ⟨_, rfl, _, rfl, congrArg Value.bool h_em, hb2⟩
          case o30 =>
            refine GdOp.taken rfl ⟨_, _, rfl, rfl, by simp⟩ (by kernel_rfl) (fun w v h => h) (fun A vs w' hF hT hb hd => ?_)
            have e1 : A.eval (.tmp 84) = .bool false := (hT 84 29 (by simp) rfl).trans (hd ⟨29, .data⟩ (by simp) rfl)
            exact wp_notB rfl e1 ⟨_, rfl, rfl, Below.refl _ _⟩
          case o31 =>
            refine GdOp.taken rfl ⟨_, _, rfl, rfl, by simp⟩ (by kernel_rfl) (fun w v h => h) (fun A vs w' hF hT hb hd => ?_)
            have e1 : A.eval (.tmp 85) = .bool true := (hT 85 30 (by simp) rfl).trans (hd ⟨30, .data⟩ (by simp) rfl)
            exact BigFrame.wp_move _ rfl ⟨_, rfl, e1, Below.refl _ _⟩
          case o32 =>
            exact GdOp.left rfl ⟨_, _, rfl, rfl, by simp⟩ (by kernel_rfl) (fun w v h => .inl h) (fun w => rfl)
          case o33 =>
            exact GdOp.left rfl ⟨_, _, rfl, rfl, by simp⟩ (by kernel_rfl) (fun w v h => .inl h) (fun w => rfl)
          case o34 =>
            refine GdOp.taken rfl ⟨_, _, rfl, rfl, by simp⟩ (by kernel_rfl) (fun w v h => h) (fun A vs w' hF hT hb hd => ?_)
            have e1 : A.eval (.tmp 86) = .bool true := (hT 86 31 (by simp) rfl).trans (hd ⟨31, .data⟩ (by simp) rfl)
            have e3 : A.eval (.tmp 88) = undef := (hT 88 33 (by simp) rfl).trans (hd ⟨33, .data⟩ (by simp) rfl)
            exact wp_pk rfl e1 (fun _ => rfl) (by simp) ⟨_, rfl, rfl, Below.refl _ _⟩
          case o35 =>
            refine GdOp.plain rfl (fun A vs w' hF hT hb hd => ?_)
            have e1 : A.eval (.tmp 82) = .bool true := (hT 82 27 (by simp) rfl).trans (hd ⟨27, .data⟩ (by simp) rfl)
            have e2 : A.eval (.tmp 89) = .bool true := (hT 89 34 (by simp) rfl).trans (hd ⟨34, .data⟩ (by simp) rfl)
            exact wp_pk rfl e1 (fun _ => e2) (by simp) ⟨_, rfl, rfl, Below.refl _ _⟩
          case o36 =>
            refine GdOp.plain rfl (fun A vs w' hF hT hb hd => ?_)
            have e1 : A.eval (.tmp 90) = .bool true := (hT 90 35 (by simp) rfl).trans (hd ⟨35, .data⟩ (by simp) rfl)
            exact BigFrame.wp_move _ rfl ⟨_, rfl, e1, Below.refl _ _⟩
          case o37 =>
            refine GdOp.taken rfl ⟨_, _, rfl, rfl, by simp⟩ (by kernel_rfl) (fun w v h => h) (fun A vs w' hF hT hb hd => ?_)
            have e1 : A.eval (.tmp 5) = .pointer (some ⟨w.heap.size, 0, none⟩) := hF 5 rfl
            exact wp_load4 spS rfl e1 ((Bx.below hb Bx.lt).cell (i := 0) rfl) ((Bx.below hb Bx.lt).cell (i := 1) rfl) ((Bx.below hb Bx.lt).cell (i := 2) rfl) ((Bx.below hb Bx.lt).cell (i := 3) rfl) ⟨_, rfl, rfl, Below.refl _ _⟩
          case o38 =>
            refine GdOp.taken rfl ⟨_, _, rfl, rfl, by simp⟩ (by kernel_rfl) (fun w v h => h) (fun A vs w' hF hT hb hd => ?_)
            have e1 : A.eval (.tmp 6) = .pointer (some ⟨w.heap.size + 1, 0, none⟩) := hF 6 rfl
            exact wp_load4 spS rfl e1 ((By.below hb By.lt).cell (i := 0) rfl) ((By.below hb By.lt).cell (i := 1) rfl) ((By.below hb By.lt).cell (i := 2) rfl) ((By.below hb By.lt).cell (i := 3) rfl) ⟨_, rfl, rfl, Below.refl _ _⟩
          case o39 =>
            refine GdOp.taken rfl ⟨_, _, rfl, rfl, by simp⟩ (by kernel_rfl) (fun w v h => h) (fun A vs w' hF hT hb hd => ?_)
            have e1 : A.eval (.tmp 92) = .agg #[.int .i64 x.table, .slice a1 x.lo.length a2, .slice a3 x.hi.length a4, .bool x.isOpen] := (hT 92 37 (by simp) rfl).trans (hd ⟨37, .data⟩ (by simp) rfl)
            have e2 : A.eval (.tmp 93) = .agg #[.int .i64 y.table, .slice b1 y.lo.length b2, .slice b3 y.hi.length b4, .bool y.isOpen] := (hT 93 38 (by simp) rfl).trans (hd ⟨38, .data⟩ (by simp) rfl)
            refine wp_callFn rfl eM (args := #[.agg #[.int .i64 x.table, .slice a1 x.lo.length a2, .slice a3 x.hi.length a4, .bool x.isOpen], .agg #[.int .i64 y.table, .slice b1 y.lo.length b2, .slice b3 y.hi.length b4, .bool y.isOpen]]) (by simp only [List.map_toArray, List.map_cons, List.map_nil, e1, e2]) ((sMeets_any w' (hxq.below hb) (hyq.below hb)).mono ?_)
            rintro e w2 ⟨rfl, hb2⟩
            exact ⟨_, rfl, _, rfl, rfl, hb2⟩
          case o40 =>
            refine GdOp.taken rfl ⟨_, _, rfl, rfl, by simp⟩ (by kernel_rfl) (fun w v h => h) (fun A vs w' hF hT hb hd => ?_)
            have e1 : A.eval (.tmp 6) = .pointer (some ⟨w.heap.size + 1, 0, none⟩) := hF 6 rfl
            exact wp_load4 spS rfl e1 ((By.below hb By.lt).cell (i := 0) rfl) ((By.below hb By.lt).cell (i := 1) rfl) ((By.below hb By.lt).cell (i := 2) rfl) ((By.below hb By.lt).cell (i := 3) rfl) ⟨_, rfl, rfl, Below.refl _ _⟩
          case o41 =>
            refine GdOp.taken rfl ⟨_, _, rfl, rfl, by simp⟩ (by kernel_rfl) (fun w v h => h) (fun A vs w' hF hT hb hd => ?_)
            have e1 : A.eval (.tmp 5) = .pointer (some ⟨w.heap.size, 0, none⟩) := hF 5 rfl
            exact wp_load4 spS rfl e1 ((Bx.below hb Bx.lt).cell (i := 0) rfl) ((Bx.below hb Bx.lt).cell (i := 1) rfl) ((Bx.below hb Bx.lt).cell (i := 2) rfl) ((Bx.below hb Bx.lt).cell (i := 3) rfl) ⟨_, rfl, rfl, Below.refl _ _⟩
          case o42 =>
            refine GdOp.taken rfl ⟨_, _, rfl, rfl, by simp⟩ (by kernel_rfl) (fun w v h => h) (fun A vs w' hF hT hb hd => ?_)
            have e1 : A.eval (.tmp 95) = .agg #[.int .i64 y.table, .slice b1 y.lo.length b2, .slice b3 y.hi.length b4, .bool y.isOpen] := (hT 95 40 (by simp) rfl).trans (hd ⟨40, .data⟩ (by simp) rfl)
            have e2 : A.eval (.tmp 96) = .agg #[.int .i64 x.table, .slice a1 x.lo.length a2, .slice a3 x.hi.length a4, .bool x.isOpen] := (hT 96 41 (by simp) rfl).trans (hd ⟨41, .data⟩ (by simp) rfl)
            refine wp_callFn rfl eM (args := #[.agg #[.int .i64 y.table, .slice b1 y.lo.length b2, .slice b3 y.hi.length b4, .bool y.isOpen], .agg #[.int .i64 x.table, .slice a1 x.lo.length a2, .slice a3 x.hi.length a4, .bool x.isOpen]]) (by simp only [List.map_toArray, List.map_cons, List.map_nil, e1, e2]) ((sMeets_any w' (hyq.below hb) (hxq.below hb)).mono ?_)
            rintro e w2 ⟨rfl, hb2⟩
            exact ⟨_, rfl, _, rfl, rfl, hb2⟩
          case o43 =>
            refine GdOp.taken rfl ⟨_, _, rfl, rfl, by simp⟩ (by kernel_rfl) (fun w v h => h) (fun A vs w' hF hT hb hd => ?_)
            have e1 : A.eval (.tmp 94) = .bool (meetsS x y) := (hT 94 39 (by simp) rfl).trans (hd ⟨39, .data⟩ (by simp) rfl)
            have e2 : A.eval (.tmp 97) = .bool (meetsS y x) := (hT 97 42 (by simp) rfl).trans (hd ⟨42, .data⟩ (by simp) rfl)
            exact wp_eqlB (by kernel_rfl) rfl e1 e2 ⟨_, rfl, (congrArg Value.bool (by rw [meets_comm y x, beq_self_eq_true])), Below.refl _ _⟩
          case o44 =>
            refine GdOp.plain rfl (fun A vs w' hF hT hb hd => ?_)
            have e1 : A.eval (.tmp 91) = .bool true := (hT 91 36 (by simp) rfl).trans (hd ⟨36, .data⟩ (by simp) rfl)
            have e2 : A.eval (.tmp 98) = .bool true := (hT 98 43 (by simp) rfl).trans (hd ⟨43, .data⟩ (by simp) rfl)
            exact wp_pk rfl e1 (fun _ => e2) (by simp) ⟨_, rfl, rfl, Below.refl _ _⟩
          case o45 =>
            refine GdOp.plain rfl (fun A vs w' hF hT hb hd => ?_)
            have e1 : A.eval (.tmp 99) = .bool true := (hT 99 44 (by simp) rfl).trans (hd ⟨44, .data⟩ (by simp) rfl)
            exact BigFrame.wp_move _ rfl ⟨_, rfl, e1, Below.refl _ _⟩
          case o46 =>
            refine GdOp.taken rfl ⟨_, _, rfl, rfl, by simp⟩ (by kernel_rfl) (fun w v h => h) (fun A vs w' hF hT hb hd => ?_)
            have e1 : A.eval (.tmp 5) = .pointer (some ⟨w.heap.size, 0, none⟩) := hF 5 rfl
            exact wp_load4 spS rfl e1 ((Bx.below hb Bx.lt).cell (i := 0) rfl) ((Bx.below hb Bx.lt).cell (i := 1) rfl) ((Bx.below hb Bx.lt).cell (i := 2) rfl) ((Bx.below hb Bx.lt).cell (i := 3) rfl) ⟨_, rfl, rfl, Below.refl _ _⟩
          case o47 =>
            refine GdOp.taken rfl ⟨_, _, rfl, rfl, by simp⟩ (by kernel_rfl) (fun w v h => h) (fun A vs w' hF hT hb hd => ?_)
            have e1 : A.eval (.tmp 5) = .pointer (some ⟨w.heap.size, 0, none⟩) := hF 5 rfl
            exact wp_load4 spS rfl e1 ((Bx.below hb Bx.lt).cell (i := 0) rfl) ((Bx.below hb Bx.lt).cell (i := 1) rfl) ((Bx.below hb Bx.lt).cell (i := 2) rfl) ((Bx.below hb Bx.lt).cell (i := 3) rfl) ⟨_, rfl, rfl, Below.refl _ _⟩
          case o48 =>
            refine GdOp.taken rfl ⟨_, _, rfl, rfl, by simp⟩ (by kernel_rfl) (fun w v h => h) (fun A vs w' hF hT hb hd => ?_)
            have e1 : A.eval (.tmp 101) = .agg #[.int .i64 x.table, .slice a1 x.lo.length a2, .slice a3 x.hi.length a4, .bool x.isOpen] := (hT 101 46 (by simp) rfl).trans (hd ⟨46, .data⟩ (by simp) rfl)
            have e2 : A.eval (.tmp 102) = .agg #[.int .i64 x.table, .slice a1 x.lo.length a2, .slice a3 x.hi.length a4, .bool x.isOpen] := (hT 102 47 (by simp) rfl).trans (hd ⟨47, .data⟩ (by simp) rfl)
            refine wp_callFn rfl eV (args := #[.agg #[.int .i64 x.table, .slice a1 x.lo.length a2, .slice a3 x.hi.length a4, .bool x.isOpen], .agg #[.int .i64 x.table, .slice a1 x.lo.length a2, .slice a3 x.hi.length a4, .bool x.isOpen]]) (by simp only [List.map_toArray, List.map_cons, List.map_nil, e1, e2]) ((sCovers_any w' (hxq.below hb) (hxq.below hb)).mono ?_)
            rintro e w2 ⟨rfl, hb2⟩
            exact ⟨_, rfl, _, rfl, congrArg Value.bool (covers_self x), hb2⟩
          case o49 =>
            refine GdOp.plain rfl (fun A vs w' hF hT hb hd => ?_)
            have e1 : A.eval (.tmp 100) = .bool true := (hT 100 45 (by simp) rfl).trans (hd ⟨45, .data⟩ (by simp) rfl)
            have e2 : A.eval (.tmp 103) = .bool true := (hT 103 48 (by simp) rfl).trans (hd ⟨48, .data⟩ (by simp) rfl)
            exact wp_pk rfl e1 (fun _ => e2) (by simp) ⟨_, rfl, rfl, Below.refl _ _⟩
          case o50 =>
            refine GdOp.plain rfl (fun A vs w' hF hT hb hd => ?_)
            have e1 : A.eval (.tmp 104) = .bool true := (hT 104 49 (by simp) rfl).trans (hd ⟨49, .data⟩ (by simp) rfl)
            exact BigFrame.wp_move _ rfl ⟨_, rfl, e1, Below.refl _ _⟩
          case o51 =>
            refine GdOp.taken rfl ⟨_, _, rfl, rfl, by simp⟩ (by kernel_rfl) (fun w v h => h) (fun A vs w' hF hT hb hd => ?_)
            have e1 : A.eval (.tmp 14) = .bool true := hF 14 rfl
            exact BigFrame.wp_move _ rfl ⟨_, rfl, e1, Below.refl _ _⟩
          case o52 =>
            refine GdOp.plain rfl (fun A vs w' hF hT hb hd => ?_)
            have e1 : A.eval (.tmp 105) = .bool true := (hT 105 50 (by simp) rfl).trans (hd ⟨50, .data⟩ (by simp) rfl)
            have e2 : A.eval (.tmp 106) = .bool true := (hT 106 51 (by simp) rfl).trans (hd ⟨51, .data⟩ (by simp) rfl)
            exact wp_pk rfl e1 (fun _ => e2) (by simp) ⟨_, rfl, rfl, Below.refl _ _⟩
          case o53 =>
            refine GdOp.plain rfl (fun A vs w' hF hT hb hd => ?_)
            have e1 : A.eval (.tmp 107) = .bool true := (hT 107 52 (by simp) rfl).trans (hd ⟨52, .data⟩ (by simp) rfl)
            exact BigFrame.wp_assign _ rfl ⟨_, rfl, e1, Below.refl _ _⟩
          case fin =>
            intro A vs w' hA hb hG
            have e6 : A.eval (.tmp 10) = .bool true := (hA.2.2.2 10 53 (by simp) rfl).trans (hG 53 (by decide))
            have hdf : A.defers = [] := hA.1
            clear hG hA
            go_wp2
            refine bodyPost_ret (v := .bool true) ?_ hdf ⟨rfl, q.trans (hb.mono q.size)⟩
            rw [← e6]
            exact results_tmp rfl _ _ _
      | false =>
        cases h_em : emptyS x with
        | true =>
          exfalso
          rw [inT_iff] at hvi2
          rw [empty_in h_em] at hvi2
          exact absurd hvi2.2 (by simp)
        | false =>
          refine wp_region_gsa (by kernel_rfl) (by kernel_rfl) [sgEq (.bool true), sgEq (.bool true), sgEq (.bool true), sgEq (.bool false), sgEq (.bool false), sgEq (.bool false), sgEq (.bool true), sgEq (.bool true), sgEq (.bool true), sgEq undef, sgEq undef, sgEq undef, sgEq (.bool true), sgEq (.bool true), sgEq (.bool true), sgEq (.agg #[.int .i64 x.table, .slice a1 x.lo.length a2, .slice a3 x.hi.length a4, .bool x.isOpen]), sgEq (.agg #[.int .i64 y.table, .slice b1 y.lo.length b2, .slice b3 y.hi.length b4, .bool y.isOpen]), sgEq (.bool false), sgEq (.bool true), sgEq (.bool true), sgEq undef, sgEq undef, sgEq (.bool true), sgEq (.bool true), sgEq undef, sgEq (.bool true), sgEq (.bool true), sgEq (.bool true), sgEq (.agg #[.int .i64 x.table, .slice a1 x.lo.length a2, .slice a3 x.hi.length a4, .bool x.isOpen]), sgEq (.bool false), sgEq (.bool true), sgEq (.bool true), sgEq undef, sgEq undef, sgEq (.bool true), sgEq (.bool true), sgEq (.bool true), sgEq (.agg #[.int .i64 x.table, .slice a1 x.lo.length a2, .slice a3 x.hi.length a4, .bool x.isOpen]), sgEq (.agg #[.int .i64 y.table, .slice b1 y.lo.length b2, .slice b3 y.hi.length b4, .bool y.isOpen]), sgEq (.bool (meetsS x y)), sgEq (.agg #[.int .i64 y.table, .slice b1 y.lo.length b2, .slice b3 y.hi.length b4, .bool y.isOpen]), sgEq (.agg #[.int .i64 x.table, .slice a1 x.lo.length a2, .slice a3 x.hi.length a4, .bool x.isOpen]), sgEq (.bool (meetsS y x)), sgEq (.bool true), sgEq (.bool true), sgEq (.bool true), sgEq (.agg #[.int .i64 x.table, .slice a1 x.lo.length a2, .slice a3 x.hi.length a4, .bool x.isOpen]), sgEq (.agg #[.int .i64 x.table, .slice a1 x.lo.length a2, .slice a3 x.hi.length a4, .bool x.isOpen]), sgEq (.bool true), sgEq (.bool true), sgEq (.bool true), sgEq (.bool true), sgEq (.bool true), sgEq (.bool true)]
            ⟨?o0, ?o1, ?o2, ?o3, ?o4, ?o5, ?o6, ?o7, ?o8, ?o9, ?o10, ?o11, ?o12, ?o13, ?o14, ?o15, ?o16, ?o17, ?o18, ?o19, ?o20, ?o21, ?o22, ?o23, ?o24, ?o25, ?o26, ?o27, ?o28, ?o29, ?o30, ?o31, ?o32, ?o33, ?o34, ?o35, ?o36, ?o37, ?o38, ?o39, ?o40, ?o41, ?o42, ?o43, ?o44, ?o45, ?o46, ?o47, ?o48, ?o49, ?o50, ?o51, ?o52, ?o53, trivial⟩ ?fin
          case o0 =>
            refine GdOp.plain rfl (fun A vs w' hF hT hb hd => ?_)
            have e1 : A.eval (.tmp 11) = .bool true := hF 11 rfl
            exact BigFrame.wp_move _ rfl ⟨_, rfl, e1, Below.refl _ _⟩
          case o1 =>
            refine GdOp.plain rfl (fun A vs w' hF hT hb hd => ?_)
            have e1 : A.eval (.tmp 55) = .bool true := (hT 55 0 (by simp) rfl).trans (hd ⟨0, .data⟩ (by simp) rfl)
            exact BigFrame.wp_move _ rfl ⟨_, rfl, e1, Below.refl _ _⟩
          case o2 =>
            refine GdOp.taken rfl ⟨_, _, rfl, rfl, by simp⟩ (by kernel_rfl) (fun w v h => h) (fun A vs w' hF hT hb hd => ?_)
            have e1 : A.eval (.tmp 12) = .bool true := hF 12 rfl
            exact BigFrame.wp_move _ rfl ⟨_, rfl, e1, Below.refl _ _⟩
          case o3 =>
            refine GdOp.taken rfl ⟨_, _, rfl, rfl, by simp⟩ (by kernel_rfl) (fun w v h => h) (fun A vs w' hF hT hb hd => ?_)
            have e1 : A.eval (.tmp 57) = .bool true := (hT 57 2 (by simp) rfl).trans (hd ⟨2, .data⟩ (by simp) rfl)
            exact wp_notB rfl e1 ⟨_, rfl, rfl, Below.refl _ _⟩
          case o4 =>
            refine GdOp.taken rfl ⟨_, _, rfl, rfl, by simp⟩ (by kernel_rfl) (fun w v h => h) (fun A vs w' hF hT hb hd => ?_)
            have e1 : A.eval (.tmp 58) = .bool false := (hT 58 3 (by simp) rfl).trans (hd ⟨3, .data⟩ (by simp) rfl)
            exact BigFrame.wp_move _ rfl ⟨_, rfl, e1, Below.refl _ _⟩
          case o5 =>
            refine GdOp.taken rfl ⟨_, _, rfl, rfl, by simp⟩ (by kernel_rfl) (fun w v h => h) (fun A vs w' hF hT hb hd => ?_)
            have e1 : A.eval (.tmp 13) = .bool false := hF 13 rfl
            exact BigFrame.wp_move _ rfl ⟨_, rfl, e1, Below.refl _ _⟩
          case o6 =>
            refine GdOp.taken rfl ⟨_, _, rfl, rfl, by simp⟩ (by kernel_rfl) (fun w v h => h) (fun A vs w' hF hT hb hd => ?_)
            have e1 : A.eval (.tmp 60) = .bool false := (hT 60 5 (by simp) rfl).trans (hd ⟨5, .data⟩ (by simp) rfl)
            exact wp_notB rfl e1 ⟨_, rfl, rfl, Below.refl _ _⟩
          case o7 =>
            refine GdOp.taken rfl ⟨_, _, rfl, rfl, by simp⟩ (by kernel_rfl) (fun w v h => h) (fun A vs w' hF hT hb hd => ?_)
            have e1 : A.eval (.tmp 59) = .bool false := (hT 59 4 (by simp) rfl).trans (hd ⟨4, .data⟩ (by simp) rfl)
            have e3 : A.eval (.tmp 61) = .bool true := (hT 61 6 (by simp) rfl).trans (hd ⟨6, .data⟩ (by simp) rfl)
            exact wp_pk rfl e1 (by simp) (fun _ => e3) ⟨_, rfl, rfl, Below.refl _ _⟩
          case o8 =>
            refine GdOp.taken rfl ⟨_, _, rfl, rfl, by simp⟩ (by kernel_rfl) (fun w v h => h) (fun A vs w' hF hT hb hd => ?_)
            have e1 : A.eval (.tmp 62) = .bool true := (hT 62 7 (by simp) rfl).trans (hd ⟨7, .data⟩ (by simp) rfl)
            exact BigFrame.wp_move _ rfl ⟨_, rfl, e1, Below.refl _ _⟩
          case o9 =>
            exact GdOp.left rfl ⟨_, _, rfl, rfl, by simp⟩ (by kernel_rfl) (fun w v h => .inl h) (fun w => rfl)
          case o10 =>
            exact GdOp.left rfl ⟨_, _, rfl, rfl, by simp⟩ (by kernel_rfl) (fun w v h => .inl h) (fun w => rfl)
          case o11 =>
            exact GdOp.left rfl ⟨_, _, rfl, rfl, by simp⟩ (by kernel_rfl) (fun w v h => .inl h) (fun w => rfl)
          case o12 =>
            refine GdOp.taken rfl ⟨_, _, rfl, rfl, by simp⟩ (by kernel_rfl) (fun w v h => h) (fun A vs w' hF hT hb hd => ?_)
            have e1 : A.eval (.tmp 63) = .bool true := (hT 63 8 (by simp) rfl).trans (hd ⟨8, .data⟩ (by simp) rfl)
            have e3 : A.eval (.tmp 66) = undef := (hT 66 11 (by simp) rfl).trans (hd ⟨11, .data⟩ (by simp) rfl)
            exact wp_pk rfl e1 (fun _ => rfl) (by simp) ⟨_, rfl, rfl, Below.refl _ _⟩
          case o13 =>
            refine GdOp.plain rfl (fun A vs w' hF hT hb hd => ?_)
            have e1 : A.eval (.tmp 56) = .bool true := (hT 56 1 (by simp) rfl).trans (hd ⟨1, .data⟩ (by simp) rfl)
            have e2 : A.eval (.tmp 67) = .bool true := (hT 67 12 (by simp) rfl).trans (hd ⟨12, .data⟩ (by simp) rfl)
            exact wp_pk rfl e1 (fun _ => e2) (by simp) ⟨_, rfl, rfl, Below.refl _ _⟩
          case o14 =>
            refine GdOp.plain rfl (fun A vs w' hF hT hb hd => ?_)
            have e1 : A.eval (.tmp 68) = .bool true := (hT 68 13 (by simp) rfl).trans (hd ⟨13, .data⟩ (by simp) rfl)
            exact BigFrame.wp_move _ rfl ⟨_, rfl, e1, Below.refl _ _⟩
          case o15 =>
            refine GdOp.taken rfl ⟨_, _, rfl, rfl, by simp⟩ (by kernel_rfl) (fun w v h => h) (fun A vs w' hF hT hb hd => ?_)
            have e1 : A.eval (.tmp 5) = .pointer (some ⟨w.heap.size, 0, none⟩) := hF 5 rfl
            exact wp_load4 spS rfl e1 ((Bx.below hb Bx.lt).cell (i := 0) rfl) ((Bx.below hb Bx.lt).cell (i := 1) rfl) ((Bx.below hb Bx.lt).cell (i := 2) rfl) ((Bx.below hb Bx.lt).cell (i := 3) rfl) ⟨_, rfl, rfl, Below.refl _ _⟩
          case o16 =>
            refine GdOp.taken rfl ⟨_, _, rfl, rfl, by simp⟩ (by kernel_rfl) (fun w v h => h) (fun A vs w' hF hT hb hd => ?_)
            have e1 : A.eval (.tmp 6) = .pointer (some ⟨w.heap.size + 1, 0, none⟩) := hF 6 rfl
            exact wp_load4 spS rfl e1 ((By.below hb By.lt).cell (i := 0) rfl) ((By.below hb By.lt).cell (i := 1) rfl) ((By.below hb By.lt).cell (i := 2) rfl) ((By.below hb By.lt).cell (i := 3) rfl) ⟨_, rfl, rfl, Below.refl _ _⟩
          case o17 =>
            refine GdOp.taken rfl ⟨_, _, rfl, rfl, by simp⟩ (by kernel_rfl) (fun w v h => h) (fun A vs w' hF hT hb hd => ?_)
            have e1 : A.eval (.tmp 70) = .agg #[.int .i64 x.table, .slice a1 x.lo.length a2, .slice a3 x.hi.length a4, .bool x.isOpen] := (hT 70 15 (by simp) rfl).trans (hd ⟨15, .data⟩ (by simp) rfl)
            have e2 : A.eval (.tmp 71) = .agg #[.int .i64 y.table, .slice b1 y.lo.length b2, .slice b3 y.hi.length b4, .bool y.isOpen] := (hT 71 16 (by simp) rfl).trans (hd ⟨16, .data⟩ (by simp) rfl)
            refine wp_callFn rfl eV (args := #[.agg #[.int .i64 x.table, .slice a1 x.lo.length a2, .slice a3 x.hi.length a4, .bool x.isOpen], .agg #[.int .i64 y.table, .slice b1 y.lo.length b2, .slice b3 y.hi.length b4, .bool y.isOpen]]) (by simp only [List.map_toArray, List.map_cons, List.map_nil, e1, e2]) ((sCovers_any w' (hxq.below hb) (hyq.below hb)).mono ?_)
            rintro e w2 ⟨rfl, hb2⟩
            exact ⟨_, rfl, _, rfl, congrArg Value.bool h_cv, hb2⟩
          case o18 =>
            refine GdOp.taken rfl ⟨_, _, rfl, rfl, by simp⟩ (by kernel_rfl) (fun w v h => h) (fun A vs w' hF hT hb hd => ?_)
            have e1 : A.eval (.tmp 72) = .bool false := (hT 72 17 (by simp) rfl).trans (hd ⟨17, .data⟩ (by simp) rfl)
            exact wp_notB rfl e1 ⟨_, rfl, rfl, Below.refl _ _⟩
          case o19 =>
            refine GdOp.taken rfl ⟨_, _, rfl, rfl, by simp⟩ (by kernel_rfl) (fun w v h => h) (fun A vs w' hF hT hb hd => ?_)
            have e1 : A.eval (.tmp 73) = .bool true := (hT 73 18 (by simp) rfl).trans (hd ⟨18, .data⟩ (by simp) rfl)
            exact BigFrame.wp_move _ rfl ⟨_, rfl, e1, Below.refl _ _⟩
          case o20 =>
            exact GdOp.left rfl ⟨_, _, rfl, rfl, by simp⟩ (by kernel_rfl) (fun w v h => .inl h) (fun w => rfl)
          case o21 =>
            exact GdOp.left rfl ⟨_, _, rfl, rfl, by simp⟩ (by kernel_rfl) (fun w v h => .inl h) (fun w => rfl)
          case o22 =>
            refine GdOp.taken rfl ⟨_, _, rfl, rfl, by simp⟩ (by kernel_rfl) (fun w v h => h) (fun A vs w' hF hT hb hd => ?_)
            have e1 : A.eval (.tmp 74) = .bool true := (hT 74 19 (by simp) rfl).trans (hd ⟨19, .data⟩ (by simp) rfl)
            have e3 : A.eval (.tmp 76) = undef := (hT 76 21 (by simp) rfl).trans (hd ⟨21, .data⟩ (by simp) rfl)
            exact wp_pk rfl e1 (fun _ => rfl) (by simp) ⟨_, rfl, rfl, Below.refl _ _⟩
          case o23 =>
            refine GdOp.taken rfl ⟨_, _, rfl, rfl, by simp⟩ (by kernel_rfl) (fun w v h => h) (fun A vs w' hF hT hb hd => ?_)
            have e1 : A.eval (.tmp 77) = .bool true := (hT 77 22 (by simp) rfl).trans (hd ⟨22, .data⟩ (by simp) rfl)
            exact BigFrame.wp_move _ rfl ⟨_, rfl, e1, Below.refl _ _⟩
          case o24 =>
            exact GdOp.left rfl ⟨_, _, rfl, rfl, by simp⟩ (by kernel_rfl) (fun w v h => .inl h) (fun w => rfl)
          case o25 =>
            refine GdOp.taken rfl ⟨_, _, rfl, rfl, by simp⟩ (by kernel_rfl) (fun w v h => h) (fun A vs w' hF hT hb hd => ?_)
            have e1 : A.eval (.tmp 78) = .bool true := (hT 78 23 (by simp) rfl).trans (hd ⟨23, .data⟩ (by simp) rfl)
            have e3 : A.eval (.tmp 79) = undef := (hT 79 24 (by simp) rfl).trans (hd ⟨24, .data⟩ (by simp) rfl)
            exact wp_pk rfl e1 (fun _ => rfl) (by simp) ⟨_, rfl, rfl, Below.refl _ _⟩
          case o26 =>
            refine GdOp.plain rfl (fun A vs w' hF hT hb hd => ?_)
            have e1 : A.eval (.tmp 69) = .bool true := (hT 69 14 (by simp) rfl).trans (hd ⟨14, .data⟩ (by simp) rfl)
            have e2 : A.eval (.tmp 80) = .bool true := (hT 80 25 (by simp) rfl).trans (hd ⟨25, .data⟩ (by simp) rfl)
            exact wp_pk rfl e1 (fun _ => e2) (by simp) ⟨_, rfl, rfl, Below.refl _ _⟩
          case o27 =>
            refine GdOp.plain rfl (fun A vs w' hF hT hb hd => ?_)
            have e1 : A.eval (.tmp 81) = .bool true := (hT 81 26 (by simp) rfl).trans (hd ⟨26, .data⟩ (by simp) rfl)
            exact BigFrame.wp_move _ rfl ⟨_, rfl, e1, Below.refl _ _⟩
          case o28 =>
            refine GdOp.taken rfl ⟨_, _, rfl, rfl, by simp⟩ (by kernel_rfl) (fun w v h => h) (fun A vs w' hF hT hb hd => ?_)
            have e1 : A.eval (.tmp 5) = .pointer (some ⟨w.heap.size, 0, none⟩) := hF 5 rfl
            exact wp_load4 spS rfl e1 ((Bx.below hb Bx.lt).cell (i := 0) rfl) ((Bx.below hb Bx.lt).cell (i := 1) rfl) ((Bx.below hb Bx.lt).cell (i := 2) rfl) ((Bx.below hb Bx.lt).cell (i := 3) rfl) ⟨_, rfl, rfl, Below.refl _ _⟩
          case o29 =>
            refine GdOp.taken rfl ⟨_, _, rfl, rfl, by simp⟩ (by kernel_rfl) (fun w v h => h) (fun A vs w' hF hT hb hd => ?_)
            have e1 : A.eval (.tmp 83) = .agg #[.int .i64 x.table, .slice a1 x.lo.length a2, .slice a3 x.hi.length a4, .bool x.isOpen] := (hT 83 28 (by simp) rfl).trans (hd ⟨28, .data⟩ (by simp) rfl)
            refine wp_callFn rfl eE (args := #[.agg #[.int .i64 x.table, .slice a1 x.lo.length a2, .slice a3 x.hi.length a4, .bool x.isOpen]]) (by simp only [List.map_toArray, List.map_cons, List.map_nil, e1]) ((sEmpty_any w' (hxq.below hb)).mono ?_)
            rintro e w2 ⟨rfl, hb2⟩
            exact ⟨_, rfl, _, rfl, congrArg Value.bool h_em, hb2⟩
          case o30 =>
            refine GdOp.taken rfl ⟨_, _, rfl, rfl, by simp⟩ (by kernel_rfl) (fun w v h => h) (fun A vs w' hF hT hb hd => ?_)
            have e1 : A.eval (.tmp 84) = .bool false := (hT 84 29 (by simp) rfl).trans (hd ⟨29, .data⟩ (by simp) rfl)
            exact wp_notB rfl e1 ⟨_, rfl, rfl, Below.refl _ _⟩
          case o31 =>
            refine GdOp.taken rfl ⟨_, _, rfl, rfl, by simp⟩ (by kernel_rfl) (fun w v h => h) (fun A vs w' hF hT hb hd => ?_)
            have e1 : A.eval (.tmp 85) = .bool true := (hT 85 30 (by simp) rfl).trans (hd ⟨30, .data⟩ (by simp) rfl)
            exact BigFrame.wp_move _ rfl ⟨_, rfl, e1, Below.refl _ _⟩
          case o32 =>
            exact GdOp.left rfl ⟨_, _, rfl, rfl, by simp⟩ (by kernel_rfl) (fun w v h => .inl h) (fun w => rfl)
          case o33 =>
            exact GdOp.left rfl ⟨_, _, rfl, rfl, by simp⟩ (by kernel_rfl) (fun w v h => .inl h) (fun w => rfl)
          case o34 =>
            refine GdOp.taken rfl ⟨_, _, rfl, rfl, by simp⟩ (by kernel_rfl) (fun w v h => h) (fun A vs w' hF hT hb hd => ?_)
            have e1 : A.eval (.tmp 86) = .bool true := (hT 86 31 (by simp) rfl).trans (hd ⟨31, .data⟩ (by simp) rfl)
            have e3 : A.eval (.tmp 88) = undef := (hT 88 33 (by simp) rfl).trans (hd ⟨33, .data⟩ (by simp) rfl)
            exact wp_pk rfl e1 (fun _ => rfl) (by simp) ⟨_, rfl, rfl, Below.refl _ _⟩
          case o35 =>
            refine GdOp.plain rfl (fun A vs w' hF hT hb hd => ?_)
            have e1 : A.eval (.tmp 82) = .bool true := (hT 82 27 (by simp) rfl).trans (hd ⟨27, .data⟩ (by simp) rfl)
            have e2 : A.eval (.tmp 89) = .bool true := (hT 89 34 (by simp) rfl).trans (hd ⟨34, .data⟩ (by simp) rfl)
            exact wp_pk rfl e1 (fun _ => e2) (by simp) ⟨_, rfl, rfl, Below.refl _ _⟩
          case o36 =>
            refine GdOp.plain rfl (fun A vs w' hF hT hb hd => ?_)
            have e1 : A.eval (.tmp 90) = .bool true := (hT 90 35 (by simp) rfl).trans (hd ⟨35, .data⟩ (by simp) rfl)
            exact BigFrame.wp_move _ rfl ⟨_, rfl, e1, Below.refl _ _⟩
          case o37 =>
            refine GdOp.taken rfl ⟨_, _, rfl, rfl, by simp⟩ (by kernel_rfl) (fun w v h => h) (fun A vs w' hF hT hb hd => ?_)
            have e1 : A.eval (.tmp 5) = .pointer (some ⟨w.heap.size, 0, none⟩) := hF 5 rfl
            exact wp_load4 spS rfl e1 ((Bx.below hb Bx.lt).cell (i := 0) rfl) ((Bx.below hb Bx.lt).cell (i := 1) rfl) ((Bx.below hb Bx.lt).cell (i := 2) rfl) ((Bx.below hb Bx.lt).cell (i := 3) rfl) ⟨_, rfl, rfl, Below.refl _ _⟩
          case o38 =>
            refine GdOp.taken rfl ⟨_, _, rfl, rfl, by simp⟩ (by kernel_rfl) (fun w v h => h) (fun A vs w' hF hT hb hd => ?_)
            have e1 : A.eval (.tmp 6) = .pointer (some ⟨w.heap.size + 1, 0, none⟩) := hF 6 rfl
            exact wp_load4 spS rfl e1 ((By.below hb By.lt).cell (i := 0) rfl) ((By.below hb By.lt).cell (i := 1) rfl) ((By.below hb By.lt).cell (i := 2) rfl) ((By.below hb By.lt).cell (i := 3) rfl) ⟨_, rfl, rfl, Below.refl _ _⟩
          case o39 =>
            refine GdOp.taken rfl ⟨_, _, rfl, rfl, by simp⟩ (by kernel_rfl) (fun w v h => h) (fun A vs w' hF hT hb hd => ?_)
            have e1 : A.eval (.tmp 92) = .agg #[.int .i64 x.table, .slice a1 x.lo.length a2, .slice a3 x.hi.length a4, .bool x.isOpen] := (hT 92 37 (by simp) rfl).trans (hd ⟨37, .data⟩ (by simp) rfl)
            have e2 : A.eval (.tmp 93) = .agg #[.int .i64 y.table, .slice b1 y.lo.length b2, .slice b3 y.hi.length b4, .bool y.isOpen] := (hT 93 38 (by simp) rfl).trans (hd ⟨38, .data⟩ (by simp) rfl)
            refine wp_callFn rfl eM (args := #[.agg #[.int .i64 x.table, .slice a1 x.lo.length a2, .slice a3 x.hi.length a4, .bool x.isOpen], .agg #[.int .i64 y.table, .slice b1 y.lo.length b2, .slice b3 y.hi.length b4, .bool y.isOpen]]) (by simp only [List.map_toArray, List.map_cons, List.map_nil, e1, e2]) ((sMeets_any w' (hxq.below hb) (hyq.below hb)).mono ?_)
            rintro e w2 ⟨rfl, hb2⟩
            exact ⟨_, rfl, _, rfl, rfl, hb2⟩
          case o40 =>
            refine GdOp.taken rfl ⟨_, _, rfl, rfl, by simp⟩ (by kernel_rfl) (fun w v h => h) (fun A vs w' hF hT hb hd => ?_)
            have e1 : A.eval (.tmp 6) = .pointer (some ⟨w.heap.size + 1, 0, none⟩) := hF 6 rfl
            exact wp_load4 spS rfl e1 ((By.below hb By.lt).cell (i := 0) rfl) ((By.below hb By.lt).cell (i := 1) rfl) ((By.below hb By.lt).cell (i := 2) rfl) ((By.below hb By.lt).cell (i := 3) rfl) ⟨_, rfl, rfl, Below.refl _ _⟩
          case o41 =>
            refine GdOp.taken rfl ⟨_, _, rfl, rfl, by simp⟩ (by kernel_rfl) (fun w v h => h) (fun A vs w' hF hT hb hd => ?_)
            have e1 : A.eval (.tmp 5) = .pointer (some ⟨w.heap.size, 0, none⟩) := hF 5 rfl
            exact wp_load4 spS rfl e1 ((Bx.below hb Bx.lt).cell (i := 0) rfl) ((Bx.below hb Bx.lt).cell (i := 1) rfl) ((Bx.below hb Bx.lt).cell (i := 2) rfl) ((Bx.below hb Bx.lt).cell (i := 3) rfl) ⟨_, rfl, rfl, Below.refl _ _⟩
          case o42 =>
            refine GdOp.taken rfl ⟨_, _, rfl, rfl, by simp⟩ (by kernel_rfl) (fun w v h => h) (fun A vs w' hF hT hb hd => ?_)
            have e1 : A.eval (.tmp 95) = .agg #[.int .i64 y.table, .slice b1 y.lo.length b2, .slice b3 y.hi.length b4, .bool y.isOpen] := (hT 95 40 (by simp) rfl).trans (hd ⟨40, .data⟩ (by simp) rfl)
            have e2 : A.eval (.tmp 96) = .agg #[.int .i64 x.table, .slice a1 x.lo.length a2, .slice a3 x.hi.length a4, .bool x.isOpen] := (hT 96 41 (by simp) rfl).trans (hd ⟨41, .data⟩ (by simp) rfl)
            refine wp_callFn rfl eM (args := #[.agg #[.int .i64 y.table, .slice b1 y.lo.length b2, .slice b3 y.hi.length b4, .bool y.isOpen], .agg #[.int .i64 x.table, .slice a1 x.lo.length a2, .slice a3 x.hi.length a4, .bool x.isOpen]]) (by simp only [List.map_toArray, List.map_cons, List.map_nil, e1, e2]) ((sMeets_any w' (hyq.below hb) (hxq.below hb)).mono ?_)
            rintro e w2 ⟨rfl, hb2⟩
            exact ⟨_, rfl, _, rfl, rfl, hb2⟩
          case o43 =>
            refine GdOp.taken rfl ⟨_, _, rfl, rfl, by simp⟩ (by kernel_rfl) (fun w v h => h) (fun A vs w' hF hT hb hd => ?_)
            have e1 : A.eval (.tmp 94) = .bool (meetsS x y) := (hT 94 39 (by simp) rfl).trans (hd ⟨39, .data⟩ (by simp) rfl)
            have e2 : A.eval (.tmp 97) = .bool (meetsS y x) := (hT 97 42 (by simp) rfl).trans (hd ⟨42, .data⟩ (by simp) rfl)
            exact wp_eqlB (by kernel_rfl) rfl e1 e2 ⟨_, rfl, (congrArg Value.bool (by rw [meets_comm y x, beq_self_eq_true])), Below.refl _ _⟩
          case o44 =>
            refine GdOp.plain rfl (fun A vs w' hF hT hb hd => ?_)
            have e1 : A.eval (.tmp 91) = .bool true := (hT 91 36 (by simp) rfl).trans (hd ⟨36, .data⟩ (by simp) rfl)
            have e2 : A.eval (.tmp 98) = .bool true := (hT 98 43 (by simp) rfl).trans (hd ⟨43, .data⟩ (by simp) rfl)
            exact wp_pk rfl e1 (fun _ => e2) (by simp) ⟨_, rfl, rfl, Below.refl _ _⟩
          case o45 =>
            refine GdOp.plain rfl (fun A vs w' hF hT hb hd => ?_)
            have e1 : A.eval (.tmp 99) = .bool true := (hT 99 44 (by simp) rfl).trans (hd ⟨44, .data⟩ (by simp) rfl)
            exact BigFrame.wp_move _ rfl ⟨_, rfl, e1, Below.refl _ _⟩
          case o46 =>
            refine GdOp.taken rfl ⟨_, _, rfl, rfl, by simp⟩ (by kernel_rfl) (fun w v h => h) (fun A vs w' hF hT hb hd => ?_)
            have e1 : A.eval (.tmp 5) = .pointer (some ⟨w.heap.size, 0, none⟩) := hF 5 rfl
            exact wp_load4 spS rfl e1 ((Bx.below hb Bx.lt).cell (i := 0) rfl) ((Bx.below hb Bx.lt).cell (i := 1) rfl) ((Bx.below hb Bx.lt).cell (i := 2) rfl) ((Bx.below hb Bx.lt).cell (i := 3) rfl) ⟨_, rfl, rfl, Below.refl _ _⟩
          case o47 =>
            refine GdOp.taken rfl ⟨_, _, rfl, rfl, by simp⟩ (by kernel_rfl) (fun w v h => h) (fun A vs w' hF hT hb hd => ?_)
            have e1 : A.eval (.tmp 5) = .pointer (some ⟨w.heap.size, 0, none⟩) := hF 5 rfl
            exact wp_load4 spS rfl e1 ((Bx.below hb Bx.lt).cell (i := 0) rfl) ((Bx.below hb Bx.lt).cell (i := 1) rfl) ((Bx.below hb Bx.lt).cell (i := 2) rfl) ((Bx.below hb Bx.lt).cell (i := 3) rfl) ⟨_, rfl, rfl, Below.refl _ _⟩
          case o48 =>
            refine GdOp.taken rfl ⟨_, _, rfl, rfl, by simp⟩ (by kernel_rfl) (fun w v h => h) (fun A vs w' hF hT hb hd => ?_)
            have e1 : A.eval (.tmp 101) = .agg #[.int .i64 x.table, .slice a1 x.lo.length a2, .slice a3 x.hi.length a4, .bool x.isOpen] := (hT 101 46 (by simp) rfl).trans (hd ⟨46, .data⟩ (by simp) rfl)
            have e2 : A.eval (.tmp 102) = .agg #[.int .i64 x.table, .slice a1 x.lo.length a2, .slice a3 x.hi.length a4, .bool x.isOpen] := (hT 102 47 (by simp) rfl).trans (hd ⟨47, .data⟩ (by simp) rfl)
            refine wp_callFn rfl eV (args := #[.agg #[.int .i64 x.table, .slice a1 x.lo.length a2, .slice a3 x.hi.length a4, .bool x.isOpen], .agg #[.int .i64 x.table, .slice a1 x.lo.length a2, .slice a3 x.hi.length a4, .bool x.isOpen]]) (by simp only [List.map_toArray, List.map_cons, List.map_nil, e1, e2]) ((sCovers_any w' (hxq.below hb) (hxq.below hb)).mono ?_)
            rintro e w2 ⟨rfl, hb2⟩
            exact ⟨_, rfl, _, rfl, congrArg Value.bool (covers_self x), hb2⟩
          case o49 =>
            refine GdOp.plain rfl (fun A vs w' hF hT hb hd => ?_)
            have e1 : A.eval (.tmp 100) = .bool true := (hT 100 45 (by simp) rfl).trans (hd ⟨45, .data⟩ (by simp) rfl)
            have e2 : A.eval (.tmp 103) = .bool true := (hT 103 48 (by simp) rfl).trans (hd ⟨48, .data⟩ (by simp) rfl)
            exact wp_pk rfl e1 (fun _ => e2) (by simp) ⟨_, rfl, rfl, Below.refl _ _⟩
          case o50 =>
            refine GdOp.plain rfl (fun A vs w' hF hT hb hd => ?_)
            have e1 : A.eval (.tmp 104) = .bool true := (hT 104 49 (by simp) rfl).trans (hd ⟨49, .data⟩ (by simp) rfl)
            exact BigFrame.wp_move _ rfl ⟨_, rfl, e1, Below.refl _ _⟩
          case o51 =>
            refine GdOp.taken rfl ⟨_, _, rfl, rfl, by simp⟩ (by kernel_rfl) (fun w v h => h) (fun A vs w' hF hT hb hd => ?_)
            have e1 : A.eval (.tmp 14) = .bool true := hF 14 rfl
            exact BigFrame.wp_move _ rfl ⟨_, rfl, e1, Below.refl _ _⟩
          case o52 =>
            refine GdOp.plain rfl (fun A vs w' hF hT hb hd => ?_)
            have e1 : A.eval (.tmp 105) = .bool true := (hT 105 50 (by simp) rfl).trans (hd ⟨50, .data⟩ (by simp) rfl)
            have e2 : A.eval (.tmp 106) = .bool true := (hT 106 51 (by simp) rfl).trans (hd ⟨51, .data⟩ (by simp) rfl)
            exact wp_pk rfl e1 (fun _ => e2) (by simp) ⟨_, rfl, rfl, Below.refl _ _⟩
          case o53 =>
            refine GdOp.plain rfl (fun A vs w' hF hT hb hd => ?_)
            have e1 : A.eval (.tmp 107) = .bool true := (hT 107 52 (by simp) rfl).trans (hd ⟨52, .data⟩ (by simp) rfl)
            exact BigFrame.wp_assign _ rfl ⟨_, rfl, e1, Below.refl _ _⟩
          case fin =>
            intro A vs w' hA hb hG
            have e6 : A.eval (.tmp 10) = .bool true := (hA.2.2.2 10 53 (by simp) rfl).trans (hG 53 (by decide))
            have hdf : A.defers = [] := hA.1
            clear hG hA
            go_wp2
            refine bodyPost_ret (v := .bool true) ?_ hdf ⟨rfl, q.trans (hb.mono q.size)⟩
            rw [← e6]
            exact results_tmp rfl _ _ _
  | false =>
    have hvi2 : inT x t k = false := by rw [← hvi.out, hin]
    cases h_cv : coversS x y with
    | true =>
      cases htoo : vt with
      | true =>
        have hvt2 : inT y t k = true := by rw [← hvt.out, htoo]
        exfalso
        have hz := covers_in h_cv (inT_iff.1 hvt2).2
        rw [inT_iff.2 ⟨hz.1.trans (inT_iff.1 hvt2).1, hz.2⟩] at hvi2
        cases hvi2
      | false =>
        have hvt2 : inT y t k = false := by rw [← hvt.out, htoo]
        cases h_em : emptyS x with
        | true =>
          refine wp_region_gsa (by kernel_rfl) (by kernel_rfl) [sgEq (.bool true), sgEq (.bool true), sgEq (.bool false), sgEq (.bool true), sgEq (.bool true), sgEq undef, sgEq undef, sgEq (.bool true), sgEq (.bool true), sgEq undef, sgEq undef, sgEq undef, sgEq (.bool true), sgEq (.bool true), sgEq (.bool true), sgEq (.agg #[.int .i64 x.table, .slice a1 x.lo.length a2, .slice a3 x.hi.length a4, .bool x.isOpen]), sgEq (.agg #[.int .i64 y.table, .slice b1 y.lo.length b2, .slice b3 y.hi.length b4, .bool y.isOpen]), sgEq (.bool true), sgEq (.bool false), sgEq (.bool false), sgEq (.bool false), sgEq (.bool true), sgEq (.bool true), sgEq (.bool true), sgEq undef, sgEq (.bool true), sgEq (.bool true), sgEq (.bool true), sgEq (.agg #[.int .i64 x.table, .slice a1 x.lo.length a2, .slice a3 x.hi.length a4, .bool x.isOpen]), sgEq (.bool true), sgEq (.bool false), sgEq (.bool false), sgEq (.bool false), sgEq (.bool true), sgEq (.bool true), sgEq (.bool true), sgEq (.bool true), sgEq (.agg #[.int .i64 x.table, .slice a1 x.lo.length a2, .slice a3 x.hi.length a4, .bool x.isOpen]), sgEq (.agg #[.int .i64 y.table, .slice b1 y.lo.length b2, .slice b3 y.hi.length b4, .bool y.isOpen]), sgEq (.bool (meetsS x y)), sgEq (.agg #[.int .i64 y.table, .slice b1 y.lo.length b2, .slice b3 y.hi.length b4, .bool y.isOpen]), sgEq (.agg #[.int .i64 x.table, .slice a1 x.lo.length a2, .slice a3 x.hi.length a4, .bool x.isOpen]), sgEq (.bool (meetsS y x)), sgEq (.bool true), sgEq (.bool true), sgEq (.bool true), sgEq (.agg #[.int .i64 x.table, .slice a1 x.lo.length a2, .slice a3 x.hi.length a4, .bool x.isOpen]), sgEq (.agg #[.int .i64 x.table, .slice a1 x.lo.length a2, .slice a3 x.hi.length a4, .bool x.isOpen]), sgEq (.bool true), sgEq (.bool true), sgEq (.bool true), sgEq (.bool true), sgEq (.bool true), sgEq (.bool true)]
            ⟨?o0, ?o1, ?o2, ?o3, ?o4, ?o5, ?o6, ?o7, ?o8, ?o9, ?o10, ?o11, ?o12, ?o13, ?o14, ?o15, ?o16, ?o17, ?o18, ?o19, ?o20, ?o21, ?o22, ?o23, ?o24, ?o25, ?o26, ?o27, ?o28, ?o29, ?o30, ?o31, ?o32, ?o33, ?o34, ?o35, ?o36, ?o37, ?o38, ?o39, ?o40, ?o41, ?o42, ?o43, ?o44, ?o45, ?o46, ?o47, ?o48, ?o49, ?o50, ?o51, ?o52, ?o53, trivial⟩ ?fin
          case o0 =>
            refine GdOp.plain rfl (fun A vs w' hF hT hb hd => ?_)
            have e1 : A.eval (.tmp 11) = .bool true := hF 11 rfl
            exact BigFrame.wp_move _ rfl ⟨_, rfl, e1, Below.refl _ _⟩
          case o1 =>
            refine GdOp.plain rfl (fun A vs w' hF hT hb hd => ?_)
            have e1 : A.eval (.tmp 55) = .bool true := (hT 55 0 (by simp) rfl).trans (hd ⟨0, .data⟩ (by simp) rfl)
            exact BigFrame.wp_move _ rfl ⟨_, rfl, e1, Below.refl _ _⟩
          case o2 =>
            refine GdOp.taken rfl ⟨_, _, rfl, rfl, by simp⟩ (by kernel_rfl) (fun w v h => h) (fun A vs w' hF hT hb hd => ?_)
            have e1 : A.eval (.tmp 12) = .bool false := hF 12 rfl
            exact BigFrame.wp_move _ rfl ⟨_, rfl, e1, Below.refl _ _⟩
          case o3 =>
            refine GdOp.taken rfl ⟨_, _, rfl, rfl, by simp⟩ (by kernel_rfl) (fun w v h => h) (fun A vs w' hF hT hb hd => ?_)
            have e1 : A.eval (.tmp 57) = .bool false := (hT 57 2 (by simp) rfl).trans (hd ⟨2, .data⟩ (by simp) rfl)
            exact wp_notB rfl e1 ⟨_, rfl, rfl, Below.refl _ _⟩
          case o4 =>
            refine GdOp.taken rfl ⟨_, _, rfl, rfl, by simp⟩ (by kernel_rfl) (fun w v h => h) (fun A vs w' hF hT hb hd => ?_)
            have e1 : A.eval (.tmp 58) = .bool true := (hT 58 3 (by simp) rfl).trans (hd ⟨3, .data⟩ (by simp) rfl)
            exact BigFrame.wp_move _ rfl ⟨_, rfl, e1, Below.refl _ _⟩
          case o5 =>
            exact GdOp.left rfl ⟨_, _, rfl, rfl, by simp⟩ (by kernel_rfl) (fun w v h => .inl h) (fun w => rfl)
          case o6 =>
            exact GdOp.left rfl ⟨_, _, rfl, rfl, by simp⟩ (by kernel_rfl) (fun w v h => .inl h) (fun w => rfl)
          case o7 =>
            refine GdOp.taken rfl ⟨_, _, rfl, rfl, by simp⟩ (by kernel_rfl) (fun w v h => h) (fun A vs w' hF hT hb hd => ?_)
            have e1 : A.eval (.tmp 59) = .bool true := (hT 59 4 (by simp) rfl).trans (hd ⟨4, .data⟩ (by simp) rfl)
            have e3 : A.eval (.tmp 61) = undef := (hT 61 6 (by simp) rfl).trans (hd ⟨6, .data⟩ (by simp) rfl)
            exact wp_pk rfl e1 (fun _ => rfl) (by simp) ⟨_, rfl, rfl, Below.refl _ _⟩
          case o8 =>
            refine GdOp.taken rfl ⟨_, _, rfl, rfl, by simp⟩ (by kernel_rfl) (fun w v h => h) (fun A vs w' hF hT hb hd => ?_)
            have e1 : A.eval (.tmp 62) = .bool true := (hT 62 7 (by simp) rfl).trans (hd ⟨7, .data⟩ (by simp) rfl)
            exact BigFrame.wp_move _ rfl ⟨_, rfl, e1, Below.refl _ _⟩
          case o9 =>
            exact GdOp.left rfl ⟨_, _, rfl, rfl, by simp⟩ (by kernel_rfl) (fun w v h => .inl h) (fun w => rfl)
          case o10 =>
            exact GdOp.left rfl ⟨_, _, rfl, rfl, by simp⟩ (by kernel_rfl) (fun w v h => .inl h) (fun w => rfl)
          case o11 =>
            exact GdOp.left rfl ⟨_, _, rfl, rfl, by simp⟩ (by kernel_rfl) (fun w v h => .inl h) (fun w => rfl)
          case o12 =>
            refine GdOp.taken rfl ⟨_, _, rfl, rfl, by simp⟩ (by kernel_rfl) (fun w v h => h) (fun A vs w' hF hT hb hd => ?_)
            have e1 : A.eval (.tmp 63) = .bool true := (hT 63 8 (by simp) rfl).trans (hd ⟨8, .data⟩ (by simp) rfl)
            have e3 : A.eval (.tmp 66) = undef := (hT 66 11 (by simp) rfl).trans (hd ⟨11, .data⟩ (by simp) rfl)
            exact wp_pk rfl e1 (fun _ => rfl) (by simp) ⟨_, rfl, rfl, Below.refl _ _⟩
          case o13 =>
            refine GdOp.plain rfl (fun A vs w' hF hT hb hd => ?_)
            have e1 : A.eval (.tmp 56) = .bool true := (hT 56 1 (by simp) rfl).trans (hd ⟨1, .data⟩ (by simp) rfl)
            have e2 : A.eval (.tmp 67) = .bool true := (hT 67 12 (by simp) rfl).trans (hd ⟨12, .data⟩ (by simp) rfl)
            exact wp_pk rfl e1 (fun _ => e2) (by simp) ⟨_, rfl, rfl, Below.refl _ _⟩
          case o14 =>
            refine GdOp.plain rfl (fun A vs w' hF hT hb hd => ?_)
            have e1 : A.eval (.tmp 68) = .bool true := (hT 68 13 (by simp) rfl).trans (hd ⟨13, .data⟩ (by simp) rfl)
            exact BigFrame.wp_move _ rfl ⟨_, rfl, e1, Below.refl _ _⟩
          case o15 =>
            refine GdOp.taken rfl ⟨_, _, rfl, rfl, by simp⟩ (by kernel_rfl) (fun w v h => h) (fun A vs w' hF hT hb hd => ?_)
            have e1 : A.eval (.tmp 5) = .pointer (some ⟨w.heap.size, 0, none⟩) := hF 5 rfl
            exact wp_load4 spS rfl e1 ((Bx.below hb Bx.lt).cell (i := 0) rfl) ((Bx.below hb Bx.lt).cell (i := 1) rfl) ((Bx.below hb Bx.lt).cell (i := 2) rfl) ((Bx.below hb Bx.lt).cell (i := 3) rfl) ⟨_, rfl, rfl, Below.refl _ _⟩
          case o16 =>
            refine GdOp.taken rfl ⟨_, _, rfl, rfl, by simp⟩ (by kernel_rfl) (fun w v h => h) (fun A vs w' hF hT hb hd => ?_)
            have e1 : A.eval (.tmp 6) = .pointer (some ⟨w.heap.size + 1, 0, none⟩) := hF 6 rfl
            exact wp_load4 spS rfl e1 ((By.below hb By.lt).cell (i := 0) rfl) ((By.below hb By.lt).cell (i := 1) rfl) ((By.below hb By.lt).cell (i := 2) rfl) ((By.below hb By.lt).cell (i := 3) rfl) ⟨_, rfl, rfl, Below.refl _ _⟩
          case o17 =>
            refine GdOp.taken rfl ⟨_, _, rfl, rfl, by simp⟩ (by kernel_rfl) (fun w v h => h) (fun A vs w' hF hT hb hd => ?_)
            have e1 : A.eval (.tmp 70) = .agg #[.int .i64 x.table, .slice a1 x.lo.length a2, .slice a3 x.hi.length a4, .bool x.isOpen] := (hT 70 15 (by simp) rfl).trans (hd ⟨15, .data⟩ (by simp) rfl)
            have e2 : A.eval (.tmp 71) = .agg #[.int .i64 y.table, .slice b1 y.lo.length b2, .slice b3 y.hi.length b4, .bool y.isOpen] := (hT 71 16 (by simp) rfl).trans (hd ⟨16, .data⟩ (by simp) rfl)
            refine wp_callFn rfl eV (args := #[.agg #[.int .i64 x.table, .slice a1 x.lo.length a2, .slice a3 x.hi.length a4, .bool x.isOpen], .agg #[.int .i64 y.table, .slice b1 y.lo.length b2, .slice b3 y.hi.length b4, .bool y.isOpen]]) (by simp only [List.map_toArray, List.map_cons, List.map_nil, e1, e2]) ((sCovers_any w' (hxq.below hb) (hyq.below hb)).mono ?_)
            rintro e w2 ⟨rfl, hb2⟩
            exact ⟨_, rfl, _, rfl, congrArg Value.bool h_cv, hb2⟩
          case o18 =>
            refine GdOp.taken rfl ⟨_, _, rfl, rfl, by simp⟩ (by kernel_rfl) (fun w v h => h) (fun A vs w' hF hT hb hd => ?_)
            have e1 : A.eval (.tmp 72) = .bool true := (hT 72 17 (by simp) rfl).trans (hd ⟨17, .data⟩ (by simp) rfl)
            exact wp_notB rfl e1 ⟨_, rfl, rfl, Below.refl _ _⟩
          case o19 =>
            refine GdOp.taken rfl ⟨_, _, rfl, rfl, by simp⟩ (by kernel_rfl) (fun w v h => h) (fun A vs w' hF hT hb hd => ?_)
            have e1 : A.eval (.tmp 73) = .bool false := (hT 73 18 (by simp) rfl).trans (hd ⟨18, .data⟩ (by simp) rfl)
            exact BigFrame.wp_move _ rfl ⟨_, rfl, e1, Below.refl _ _⟩
          case o20 =>
            refine GdOp.taken rfl ⟨_, _, rfl, rfl, by simp⟩ (by kernel_rfl) (fun w v h => h) (fun A vs w' hF hT hb hd => ?_)
            have e1 : A.eval (.tmp 13) = .bool false := hF 13 rfl
            exact BigFrame.wp_move _ rfl ⟨_, rfl, e1, Below.refl _ _⟩
          case o21 =>
            refine GdOp.taken rfl ⟨_, _, rfl, rfl, by simp⟩ (by kernel_rfl) (fun w v h => h) (fun A vs w' hF hT hb hd => ?_)
            have e1 : A.eval (.tmp 75) = .bool false := (hT 75 20 (by simp) rfl).trans (hd ⟨20, .data⟩ (by simp) rfl)
            exact wp_notB rfl e1 ⟨_, rfl, rfl, Below.refl _ _⟩
          case o22 =>
            refine GdOp.taken rfl ⟨_, _, rfl, rfl, by simp⟩ (by kernel_rfl) (fun w v h => h) (fun A vs w' hF hT hb hd => ?_)
            have e1 : A.eval (.tmp 74) = .bool false := (hT 74 19 (by simp) rfl).trans (hd ⟨19, .data⟩ (by simp) rfl)
            have e3 : A.eval (.tmp 76) = .bool true := (hT 76 21 (by simp) rfl).trans (hd ⟨21, .data⟩ (by simp) rfl)
            exact wp_pk rfl e1 (by simp) (fun _ => e3) ⟨_, rfl, rfl, Below.refl _ _⟩
          case o23 =>
            refine GdOp.taken rfl ⟨_, _, rfl, rfl, by simp⟩ (by kernel_rfl) (fun w v h => h) (fun A vs w' hF hT hb hd => ?_)
            have e1 : A.eval (.tmp 77) = .bool true := (hT 77 22 (by simp) rfl).trans (hd ⟨22, .data⟩ (by simp) rfl)
            exact BigFrame.wp_move _ rfl ⟨_, rfl, e1, Below.refl _ _⟩
          case o24 =>
            exact GdOp.left rfl ⟨_, _, rfl, rfl, by simp⟩ (by kernel_rfl) (fun w v h => .inl h) (fun w => rfl)
          case o25 =>
            refine GdOp.taken rfl ⟨_, _, rfl, rfl, by simp⟩ (by kernel_rfl) (fun w v h => h) (fun A vs w' hF hT hb hd => ?_)
            have e1 : A.eval (.tmp 78) = .bool true := (hT 78 23 (by simp) rfl).trans (hd ⟨23, .data⟩ (by simp) rfl)
            have e3 : A.eval (.tmp 79) = undef := (hT 79 24 (by simp) rfl).trans (hd ⟨24, .data⟩ (by simp) rfl)
            exact wp_pk rfl e1 (fun _ => rfl) (by simp) ⟨_, rfl, rfl, Below.refl _ _⟩
          case o26 =>
            refine GdOp.plain rfl (fun A vs w' hF hT hb hd => ?_)
            have e1 : A.eval (.tmp 69) = .bool true := (hT 69 14 (by simp) rfl).trans (hd ⟨14, .data⟩ (by simp) rfl)
            have e2 : A.eval (.tmp 80) = .bool true := (hT 80 25 (by simp) rfl).trans (hd ⟨25, .data⟩ (by simp) rfl)
            exact wp_pk rfl e1 (fun _ => e2) (by simp) ⟨_, rfl, rfl, Below.refl _ _⟩
          case o27 =>
            refine GdOp.plain rfl (fun A vs w' hF hT hb hd => ?_)
            have e1 : A.eval (.tmp 81) = .bool true := (hT 81 26 (by simp) rfl).trans (hd ⟨26, .data⟩ (by simp) rfl)
            exact BigFrame.wp_move _ rfl ⟨_, rfl, e1, Below.refl _ _⟩
          case o28 =>
            refine GdOp.taken rfl ⟨_, _, rfl, rfl, by simp⟩ (by kernel_rfl) (fun w v h => h) (fun A vs w' hF hT hb hd => ?_)
            have e1 : A.eval (.tmp 5) = .pointer (some ⟨w.heap.size, 0, none⟩) := hF 5 rfl
            exact wp_load4 spS rfl e1 ((Bx.below hb Bx.lt).cell (i := 0) rfl) ((Bx.below hb Bx.lt).cell (i := 1) rfl) ((Bx.below hb Bx.lt).cell (i := 2) rfl) ((Bx.below hb Bx.lt).cell (i := 3) rfl) ⟨_, rfl, rfl, Below.refl _ _⟩
          case o29 =>
            refine GdOp.taken rfl ⟨_, _, rfl, rfl, by simp⟩ (by kernel_rfl) (fun w v h => h) (fun A vs w' hF hT hb hd => ?_)
            have e1 : A.eval (.tmp 83) = .agg #[.int .i64 x.table, .slice a1 x.lo.length a2, .slice a3 x.hi.length a4, .bool x.isOpen] := (hT 83 28 (by simp) rfl).trans (hd ⟨28, .data⟩ (by simp) rfl)
            refine wp_callFn rfl eE (args := #[.agg #[.int .i64 x.table, .slice a1 x.lo.length a2, .slice a3 x.hi.length a4, .bool x.isOpen]]) (by simp only [List.map_toArray, List.map_cons, List.map_nil, e1]) ((sEmpty_any w' (hxq.below hb)).mono ?_)
            rintro e w2 ⟨rfl, hb2⟩
            exact ⟨_, rfl, _, rfl, congrArg Value.bool h_em, hb2⟩
          case o30 =>
            refine GdOp.taken rfl ⟨_, _, rfl, rfl, by simp⟩ (by kernel_rfl) (fun w v h => h) (fun A vs w' hF hT hb hd => ?_)
            have e1 : A.eval (.tmp 84) = .bool true := (hT 84 29 (by simp) rfl).trans (hd ⟨29, .data⟩ (by simp) rfl)
            exact wp_notB rfl e1 ⟨_, rfl, rfl, Below.refl _ _⟩
          case o31 =>
            refine GdOp.taken rfl ⟨_, _, rfl, rfl, by simp⟩ (by kernel_rfl) (fun w v h => h) (fun A vs w' hF hT hb hd => ?_)
            have e1 : A.eval (.tmp 85) = .bool false := (hT 85 30 (by simp) rfl).trans (hd ⟨30, .data⟩ (by simp) rfl)
            exact BigFrame.wp_move _ rfl ⟨_, rfl, e1, Below.refl _ _⟩
          case o32 =>
            refine GdOp.taken rfl ⟨_, _, rfl, rfl, by simp⟩ (by kernel_rfl) (fun w v h => h) (fun A vs w' hF hT hb hd => ?_)
            have e1 : A.eval (.tmp 12) = .bool false := hF 12 rfl
            exact BigFrame.wp_move _ rfl ⟨_, rfl, e1, Below.refl _ _⟩
          case o33 =>
            refine GdOp.taken rfl ⟨_, _, rfl, rfl, by simp⟩ (by kernel_rfl) (fun w v h => h) (fun A vs w' hF hT hb hd => ?_)
            have e1 : A.eval (.tmp 87) = .bool false := (hT 87 32 (by simp) rfl).trans (hd ⟨32, .data⟩ (by simp) rfl)
            exact wp_notB rfl e1 ⟨_, rfl, rfl, Below.refl _ _⟩
          case o34 =>
            refine GdOp.taken rfl ⟨_, _, rfl, rfl, by simp⟩ (by kernel_rfl) (fun w v h => h) (fun A vs w' hF hT hb hd => ?_)
            have e1 : A.eval (.tmp 86) = .bool false := (hT 86 31 (by simp) rfl).trans (hd ⟨31, .data⟩ (by simp) rfl)
            have e3 : A.eval (.tmp 88) = .bool true := (hT 88 33 (by simp) rfl).trans (hd ⟨33, .data⟩ (by simp) rfl)
            exact wp_pk rfl e1 (by simp) (fun _ => e3) ⟨_, rfl, rfl, Below.refl _ _⟩
          case o35 =>
            refine GdOp.plain rfl (fun A vs w' hF hT hb hd => ?_)
            have e1 : A.eval (.tmp 82) = .bool true := (hT 82 27 (by simp) rfl).trans (hd ⟨27, .data⟩ (by simp) rfl)
            have e2 : A.eval (.tmp 89) = .bool true := (hT 89 34 (by simp) rfl).trans (hd ⟨34, .data⟩ (by simp) rfl)
            exact wp_pk rfl e1 (fun _ => e2) (by simp) ⟨_, rfl, rfl, Below.refl _ _⟩
          case o36 =>
            refine GdOp.plain rfl (fun A vs w' hF hT hb hd => ?_)
            have e1 : A.eval (.tmp 90) = .bool true := (hT 90 35 (by simp) rfl).trans (hd ⟨35, .data⟩ (by simp) rfl)
            exact BigFrame.wp_move _ rfl ⟨_, rfl, e1, Below.refl _ _⟩
          case o37 =>
            refine GdOp.taken rfl ⟨_, _, rfl, rfl, by simp⟩ (by kernel_rfl) (fun w v h => h) (fun A vs w' hF hT hb hd => ?_)
            have e1 : A.eval (.tmp 5) = .pointer (some ⟨w.heap.size, 0, none⟩) := hF 5 rfl
            exact wp_load4 spS rfl e1 ((Bx.below hb Bx.lt).cell (i := 0) rfl) ((Bx.below hb Bx.lt).cell (i := 1) rfl) ((Bx.below hb Bx.lt).cell (i := 2) rfl) ((Bx.below hb Bx.lt).cell (i := 3) rfl) ⟨_, rfl, rfl, Below.refl _ _⟩
          case o38 =>
            refine GdOp.taken rfl ⟨_, _, rfl, rfl, by simp⟩ (by kernel_rfl) (fun w v h => h) (fun A vs w' hF hT hb hd => ?_)
            have e1 : A.eval (.tmp 6) = .pointer (some ⟨w.heap.size + 1, 0, none⟩) := hF 6 rfl
            exact wp_load4 spS rfl e1 ((By.below hb By.lt).cell (i := 0) rfl) ((By.below hb By.lt).cell (i := 1) rfl) ((By.below hb By.lt).cell (i := 2) rfl) ((By.below hb By.lt).cell (i := 3) rfl) ⟨_, rfl, rfl, Below.refl _ _⟩
          case o39 =>
            refine GdOp.taken rfl ⟨_, _, rfl, rfl, by simp⟩ (by kernel_rfl) (fun w v h => h) (fun A vs w' hF hT hb hd => ?_)
            have e1 : A.eval (.tmp 92) = .agg #[.int .i64 x.table, .slice a1 x.lo.length a2, .slice a3 x.hi.length a4, .bool x.isOpen] := (hT 92 37 (by simp) rfl).trans (hd ⟨37, .data⟩ (by simp) rfl)
            have e2 : A.eval (.tmp 93) = .agg #[.int .i64 y.table, .slice b1 y.lo.length b2, .slice b3 y.hi.length b4, .bool y.isOpen] := (hT 93 38 (by simp) rfl).trans (hd ⟨38, .data⟩ (by simp) rfl)
            refine wp_callFn rfl eM (args := #[.agg #[.int .i64 x.table, .slice a1 x.lo.length a2, .slice a3 x.hi.length a4, .bool x.isOpen], .agg #[.int .i64 y.table, .slice b1 y.lo.length b2, .slice b3 y.hi.length b4, .bool y.isOpen]]) (by simp only [List.map_toArray, List.map_cons, List.map_nil, e1, e2]) ((sMeets_any w' (hxq.below hb) (hyq.below hb)).mono ?_)
            rintro e w2 ⟨rfl, hb2⟩
            exact ⟨_, rfl, _, rfl, rfl, hb2⟩
          case o40 =>
            refine GdOp.taken rfl ⟨_, _, rfl, rfl, by simp⟩ (by kernel_rfl) (fun w v h => h) (fun A vs w' hF hT hb hd => ?_)
            have e1 : A.eval (.tmp 6) = .pointer (some ⟨w.heap.size + 1, 0, none⟩) := hF 6 rfl
            exact wp_load4 spS rfl e1 ((By.below hb By.lt).cell (i := 0) rfl) ((By.below hb By.lt).cell (i := 1) rfl) ((By.below hb By.lt).cell (i := 2) rfl) ((By.below hb By.lt).cell (i := 3) rfl) ⟨_, rfl, rfl, Below.refl _ _⟩
          case o41 =>
            refine GdOp.taken rfl ⟨_, _, rfl, rfl, by simp⟩ (by kernel_rfl) (fun w v h => h) (fun A vs w' hF hT hb hd => ?_)
            have e1 : A.eval (.tmp 5) = .pointer (some ⟨w.heap.size, 0, none⟩) := hF 5 rfl
            exact wp_load4 spS rfl e1 ((Bx.below hb Bx.lt).cell (i := 0) rfl) ((Bx.below hb Bx.lt).cell (i := 1) rfl) ((Bx.below hb Bx.lt).cell (i := 2) rfl) ((Bx.below hb Bx.lt).cell (i := 3) rfl) ⟨_, rfl, rfl, Below.refl _ _⟩
          case o42 =>
            refine GdOp.taken rfl ⟨_, _, rfl, rfl, by simp⟩ (by kernel_rfl) (fun w v h => h) (fun A vs w' hF hT hb hd => ?_)
            have e1 : A.eval (.tmp 95) = .agg #[.int .i64 y.table, .slice b1 y.lo.length b2, .slice b3 y.hi.length b4, .bool y.isOpen] := (hT 95 40 (by simp) rfl).trans (hd ⟨40, .data⟩ (by simp) rfl)
            have e2 : A.eval (.tmp 96) = .agg #[.int .i64 x.table, .slice a1 x.lo.length a2, .slice a3 x.hi.length a4, .bool x.isOpen] := (hT 96 41 (by simp) rfl).trans (hd ⟨41, .data⟩ (by simp) rfl)
            refine wp_callFn rfl eM (args := #[.agg #[.int .i64 y.table, .slice b1 y.lo.length b2, .slice b3 y.hi.length b4, .bool y.isOpen], .agg #[.int .i64 x.table, .slice a1 x.lo.length a2, .slice a3 x.hi.length a4, .bool x.isOpen]]) (by simp only [List.map_toArray, List.map_cons, List.map_nil, e1, e2]) ((sMeets_any w' (hyq.below hb) (hxq.below hb)).mono ?_)
            rintro e w2 ⟨rfl, hb2⟩
            exact ⟨_, rfl, _, rfl, rfl, hb2⟩
          case o43 =>
            refine GdOp.taken rfl ⟨_, _, rfl, rfl, by simp⟩ (by kernel_rfl) (fun w v h => h) (fun A vs w' hF hT hb hd => ?_)
            have e1 : A.eval (.tmp 94) = .bool (meetsS x y) := (hT 94 39 (by simp) rfl).trans (hd ⟨39, .data⟩ (by simp) rfl)
            have e2 : A.eval (.tmp 97) = .bool (meetsS y x) := (hT 97 42 (by simp) rfl).trans (hd ⟨42, .data⟩ (by simp) rfl)
            exact wp_eqlB (by kernel_rfl) rfl e1 e2 ⟨_, rfl, (congrArg Value.bool (by rw [meets_comm y x, beq_self_eq_true])), Below.refl _ _⟩
          case o44 =>
            refine GdOp.plain rfl (fun A vs w' hF hT hb hd => ?_)
            have e1 : A.eval (.tmp 91) = .bool true := (hT 91 36 (by simp) rfl).trans (hd ⟨36, .data⟩ (by simp) rfl)
            have e2 : A.eval (.tmp 98) = .bool true := (hT 98 43 (by simp) rfl).trans (hd ⟨43, .data⟩ (by simp) rfl)
            exact wp_pk rfl e1 (fun _ => e2) (by simp) ⟨_, rfl, rfl, Below.refl _ _⟩
          case o45 =>
            refine GdOp.plain rfl (fun A vs w' hF hT hb hd => ?_)
            have e1 : A.eval (.tmp 99) = .bool true := (hT 99 44 (by simp) rfl).trans (hd ⟨44, .data⟩ (by simp) rfl)
            exact BigFrame.wp_move _ rfl ⟨_, rfl, e1, Below.refl _ _⟩
          case o46 =>
            refine GdOp.taken rfl ⟨_, _, rfl, rfl, by simp⟩ (by kernel_rfl) (fun w v h => h) (fun A vs w' hF hT hb hd => ?_)
            have e1 : A.eval (.tmp 5) = .pointer (some ⟨w.heap.size, 0, none⟩) := hF 5 rfl
            exact wp_load4 spS rfl e1 ((Bx.below hb Bx.lt).cell (i := 0) rfl) ((Bx.below hb Bx.lt).cell (i := 1) rfl) ((Bx.below hb Bx.lt).cell (i := 2) rfl) ((Bx.below hb Bx.lt).cell (i := 3) rfl) ⟨_, rfl, rfl, Below.refl _ _⟩
          case o47 =>
            refine GdOp.taken rfl ⟨_, _, rfl, rfl, by simp⟩ (by kernel_rfl) (fun w v h => h) (fun A vs w' hF hT hb hd => ?_)
            have e1 : A.eval (.tmp 5) = .pointer (some ⟨w.heap.size, 0, none⟩) := hF 5 rfl
            exact wp_load4 spS rfl e1 ((Bx.below hb Bx.lt).cell (i := 0) rfl) ((Bx.below hb Bx.lt).cell (i := 1) rfl) ((Bx.below hb Bx.lt).cell (i := 2) rfl) ((Bx.below hb Bx.lt).cell (i := 3) rfl) ⟨_, rfl, rfl, Below.refl _ _⟩
          case o48 =>
            refine GdOp.taken rfl ⟨_, _, rfl, rfl, by simp⟩ (by kernel_rfl) (fun w v h => h) (fun A vs w' hF hT hb hd => ?_)
            have e1 : A.eval (.tmp 101) = .agg #[.int .i64 x.table, .slice a1 x.lo.length a2, .slice a3 x.hi.length a4, .bool x.isOpen] := (hT 101 46 (by simp) rfl).trans (hd ⟨46, .data⟩ (by simp) rfl)
            have e2 : A.eval (.tmp 102) = .agg #[.int .i64 x.table, .slice a1 x.lo.length a2, .slice a3 x.hi.length a4, .bool x.isOpen] := (hT 102 47 (by simp) rfl).trans (hd ⟨47, .data⟩ (by simp) rfl)
            refine wp_callFn rfl eV (args := #[.agg #[.int .i64 x.table, .slice a1 x.lo.length a2, .slice a3 x.hi.length a4, .bool x.isOpen], .agg #[.int .i64 x.table, .slice a1 x.lo.length a2, .slice a3 x.hi.length a4, .bool x.isOpen]]) (by simp only [List.map_toArray, List.map_cons, List.map_nil, e1, e2]) ((sCovers_any w' (hxq.below hb) (hxq.below hb)).mono ?_)
            rintro e w2 ⟨rfl, hb2⟩
            exact ⟨_, rfl, _, rfl, congrArg Value.bool (covers_self x), hb2⟩
          case o49 =>
            refine GdOp.plain rfl (fun A vs w' hF hT hb hd => ?_)
            have e1 : A.eval (.tmp 100) = .bool true := (hT 100 45 (by simp) rfl).trans (hd ⟨45, .data⟩ (by simp) rfl)
            have e2 : A.eval (.tmp 103) = .bool true := (hT 103 48 (by simp) rfl).trans (hd ⟨48, .data⟩ (by simp) rfl)
            exact wp_pk rfl e1 (fun _ => e2) (by simp) ⟨_, rfl, rfl, Below.refl _ _⟩
          case o50 =>
            refine GdOp.plain rfl (fun A vs w' hF hT hb hd => ?_)
            have e1 : A.eval (.tmp 104) = .bool true := (hT 104 49 (by simp) rfl).trans (hd ⟨49, .data⟩ (by simp) rfl)
            exact BigFrame.wp_move _ rfl ⟨_, rfl, e1, Below.refl _ _⟩
          case o51 =>
            refine GdOp.taken rfl ⟨_, _, rfl, rfl, by simp⟩ (by kernel_rfl) (fun w v h => h) (fun A vs w' hF hT hb hd => ?_)
            have e1 : A.eval (.tmp 14) = .bool true := hF 14 rfl
            exact BigFrame.wp_move _ rfl ⟨_, rfl, e1, Below.refl _ _⟩
          case o52 =>
            refine GdOp.plain rfl (fun A vs w' hF hT hb hd => ?_)
            have e1 : A.eval (.tmp 105) = .bool true := (hT 105 50 (by simp) rfl).trans (hd ⟨50, .data⟩ (by simp) rfl)
            have e2 : A.eval (.tmp 106) = .bool true := (hT 106 51 (by simp) rfl).trans (hd ⟨51, .data⟩ (by simp) rfl)
            exact wp_pk rfl e1 (fun _ => e2) (by simp) ⟨_, rfl, rfl, Below.refl _ _⟩
          case o53 =>
            refine GdOp.plain rfl (fun A vs w' hF hT hb hd => ?_)
            have e1 : A.eval (.tmp 107) = .bool true := (hT 107 52 (by simp) rfl).trans (hd ⟨52, .data⟩ (by simp) rfl)
            exact BigFrame.wp_assign _ rfl ⟨_, rfl, e1, Below.refl _ _⟩
          case fin =>
            intro A vs w' hA hb hG
            have e6 : A.eval (.tmp 10) = .bool true := (hA.2.2.2 10 53 (by simp) rfl).trans (hG 53 (by decide))
            have hdf : A.defers = [] := hA.1
            clear hG hA
            go_wp2
            refine bodyPost_ret (v := .bool true) ?_ hdf ⟨rfl, q.trans (hb.mono q.size)⟩
            rw [← e6]
            exact results_tmp rfl _ _ _
        | false =>
          refine wp_region_gsa (by kernel_rfl) (by kernel_rfl) [sgEq (.bool true), sgEq (.bool true), sgEq (.bool false), sgEq (.bool true), sgEq (.bool true), sgEq undef, sgEq undef, sgEq (.bool true), sgEq (.bool true), sgEq undef, sgEq undef, sgEq undef, sgEq (.bool true), sgEq (.bool true), sgEq (.bool true), sgEq (.agg #[.int .i64 x.table, .slice a1 x.lo.length a2, .slice a3 x.hi.length a4, .bool x.isOpen]), sgEq (.agg #[.int .i64 y.table, .slice b1 y.lo.length b2, .slice b3 y.hi.length b4, .bool y.isOpen]), sgEq (.bool true), sgEq (.bool false), sgEq (.bool false), sgEq (.bool false), sgEq (.bool true), sgEq (.bool true), sgEq (.bool true), sgEq undef, sgEq (.bool true), sgEq (.bool true), sgEq (.bool true), sgEq (.agg #[.int .i64 x.table, .slice a1 x.lo.length a2, .slice a3 x.hi.length a4, .bool x.isOpen]), sgEq (.bool false), sgEq (.bool true), sgEq (.bool true), sgEq undef, sgEq undef, sgEq (.bool true), sgEq (.bool true), sgEq (.bool true), sgEq (.agg #[.int .i64 x.table, .slice a1 x.lo.length a2, .slice a3 x.hi.length a4, .bool x.isOpen]), sgEq (.agg #[.int .i64 y.table, .slice b1 y.lo.length b2, .slice b3 y.hi.length b4, .bool y.isOpen]), sgEq (.bool (meetsS x y)), sgEq (.agg #[.int .i64 y.table, .slice b1 y.lo.length b2, .slice b3 y.hi.length b4, .bool y.isOpen]), sgEq (.agg #[.int .i64 x.table, .slice a1 x.lo.length a2, .slice a3 x.hi.length a4, .bool x.isOpen]), sgEq (.bool (meetsS y x)), sgEq (.bool true), sgEq (.bool true), sgEq (.bool true), sgEq (.agg #[.int .i64 x.table, .slice a1 x.lo.length a2, .slice a3 x.hi.length a4, .bool x.isOpen]), sgEq (.agg #[.int .i64 x.table, .slice a1 x.lo.length a2, .slice a3 x.hi.length a4, .bool x.isOpen]), sgEq (.bool true), sgEq (.bool true), sgEq (.bool true), sgEq (.bool true), sgEq (.bool true), sgEq (.bool true)]
            ⟨?o0, ?o1, ?o2, ?o3, ?o4, ?o5, ?o6, ?o7, ?o8, ?o9, ?o10, ?o11, ?o12, ?o13, ?o14, ?o15, ?o16, ?o17, ?o18, ?o19, ?o20, ?o21, ?o22, ?o23, ?o24, ?o25, ?o26, ?o27, ?o28, ?o29, ?o30, ?o31, ?o32, ?o33, ?o34, ?o35, ?o36, ?o37, ?o38, ?o39, ?o40, ?o41, ?o42, ?o43, ?o44, ?o45, ?o46, ?o47, ?o48, ?o49, ?o50, ?o51, ?o52, ?o53, trivial⟩ ?fin
          case o0 =>
            refine GdOp.plain rfl (fun A vs w' hF hT hb hd => ?_)
            have e1 : A.eval (.tmp 11) = .bool true := hF 11 rfl
            exact BigFrame.wp_move _ rfl ⟨_, rfl, e1, Below.refl _ _⟩
          case o1 =>
            refine GdOp.plain rfl (fun A vs w' hF hT hb hd => ?_)
            have e1 : A.eval (.tmp 55) = .bool true := (hT 55 0 (by simp) rfl).trans (hd ⟨0, .data⟩ (by simp) rfl)
            exact BigFrame.wp_move _ rfl ⟨_, rfl, e1, Below.refl _ _⟩
          case o2 =>
            refine GdOp.taken rfl ⟨_, _, rfl, rfl, by simp⟩ (by kernel_rfl) (fun w v h => h) (fun A vs w' hF hT hb hd => ?_)
            have e1 : A.eval (.tmp 12) = .bool false := hF 12 rfl
            exact BigFrame.wp_move _ rfl ⟨_, rfl, e1, Below.refl _ _⟩
          case o3 =>
            refine GdOp.taken rfl ⟨_, _, rfl, rfl, by simp⟩ (by kernel_rfl) (fun w v h => h) (fun A vs w' hF hT hb hd => ?_)
            have e1 : A.eval (.tmp 57) = .bool false := (hT 57 2 (by simp) rfl).trans (hd ⟨2, .data⟩ (by simp) rfl)
            exact wp_notB rfl e1 ⟨_, rfl, rfl, Below.refl _ _⟩
          case o4 =>
            refine GdOp.taken rfl ⟨_, _, rfl, rfl, by simp⟩ (by kernel_rfl) (fun w v h => h) (fun A vs w' hF hT hb hd => ?_)
            have e1 : A.eval (.tmp 58) = .bool true := (hT 58 3 (by simp) rfl).trans (hd ⟨3, .data⟩ (by simp) rfl)
            exact BigFrame.wp_move _ rfl ⟨_, rfl, e1, Below.refl _ _⟩
          case o5 =>
            exact GdOp.left rfl ⟨_, _, rfl, rfl, by simp⟩ (by kernel_rfl) (fun w v h => .inl h) (fun w => rfl)
          case o6 =>
            exact GdOp.left rfl ⟨_, _, rfl, rfl, by simp⟩ (by kernel_rfl) (fun w v h => .inl h) (fun w => rfl)
          case o7 =>
            refine GdOp.taken rfl ⟨_, _, rfl, rfl, by simp⟩ (by kernel_rfl) (fun w v h => h) (fun A vs w' hF hT hb hd => ?_)
            have e1 : A.eval (.tmp 59) = .bool true := (hT 59 4 (by simp) rfl).trans (hd ⟨4, .data⟩ (by simp) rfl)
            have e3 : A.eval (.tmp 61) = undef := (hT 61 6 (by simp) rfl).trans (hd ⟨6, .data⟩ (by simp) rfl)
            exact wp_pk rfl e1 (fun _ => rfl) (by simp) ⟨_, rfl, rfl, Below.refl _ _⟩
          case o8 =>
            refine GdOp.taken rfl ⟨_, _, rfl, rfl, by simp⟩ (by kernel_rfl) (fun w v h => h) (fun A vs w' hF hT hb hd => ?_)
            have e1 : A.eval (.tmp 62) = .bool true := (hT 62 7 (by simp) rfl).trans (hd ⟨7, .data⟩ (by simp) rfl)
            exact BigFrame.wp_move _ rfl ⟨_, rfl, e1, Below.refl _ _⟩
          case o9 =>
            exact GdOp.left rfl ⟨_, _, rfl, rfl, by simp⟩ (by kernel_rfl) (fun w v h => .inl h) (fun w => rfl)
          case o10 =>
            exact GdOp.left rfl ⟨_, _, rfl, rfl, by simp⟩ (by kernel_rfl) (fun w v h => .inl h) (fun w => rfl)
          case o11 =>
            exact GdOp.left rfl ⟨_, _, rfl, rfl, by simp⟩ (by kernel_rfl) (fun w v h => .inl h) (fun w => rfl)
          case o12 =>
            refine GdOp.taken rfl ⟨_, _, rfl, rfl, by simp⟩ (by kernel_rfl) (fun w v h => h) (fun A vs w' hF hT hb hd => ?_)
            have e1 : A.eval (.tmp 63) = .bool true := (hT 63 8 (by simp) rfl).trans (hd ⟨8, .data⟩ (by simp) rfl)
            have e3 : A.eval (.tmp 66) = undef := (hT 66 11 (by simp) rfl).trans (hd ⟨11, .data⟩ (by simp) rfl)
            exact wp_pk rfl e1 (fun _ => rfl) (by simp) ⟨_, rfl, rfl, Below.refl _ _⟩
          case o13 =>
            refine GdOp.plain rfl (fun A vs w' hF hT hb hd => ?_)
            have e1 : A.eval (.tmp 56) = .bool true := (hT 56 1 (by simp) rfl).trans (hd ⟨1, .data⟩ (by simp) rfl)
            have e2 : A.eval (.tmp 67) = .bool true := (hT 67 12 (by simp) rfl).trans (hd ⟨12, .data⟩ (by simp) rfl)
            exact wp_pk rfl e1 (fun _ => e2) (by simp) ⟨_, rfl, rfl, Below.refl _ _⟩
          case o14 =>
            refine GdOp.plain rfl (fun A vs w' hF hT hb hd => ?_)
            have e1 : A.eval (.tmp 68) = .bool true := (hT 68 13 (by simp) rfl).trans (hd ⟨13, .data⟩ (by simp) rfl)
            exact BigFrame.wp_move _ rfl ⟨_, rfl, e1, Below.refl _ _⟩
          case o15 =>
            refine GdOp.taken rfl ⟨_, _, rfl, rfl, by simp⟩ (by kernel_rfl) (fun w v h => h) (fun A vs w' hF hT hb hd => ?_)
            have e1 : A.eval (.tmp 5) = .pointer (some ⟨w.heap.size, 0, none⟩) := hF 5 rfl
            exact wp_load4 spS rfl e1 ((Bx.below hb Bx.lt).cell (i := 0) rfl) ((Bx.below hb Bx.lt).cell (i := 1) rfl) ((Bx.below hb Bx.lt).cell (i := 2) rfl) ((Bx.below hb Bx.lt).cell (i := 3) rfl) ⟨_, rfl, rfl, Below.refl _ _⟩
          case o16 =>
            refine GdOp.taken rfl ⟨_, _, rfl, rfl, by simp⟩ (by kernel_rfl) (fun w v h => h) (fun A vs w' hF hT hb hd => ?_)
            have e1 : A.eval (.tmp 6) = .pointer (some ⟨w.heap.size + 1, 0, none⟩) := hF 6 rfl
            exact wp_load4 spS rfl e1 ((By.below hb By.lt).cell (i := 0) rfl) ((By.below hb By.lt).cell (i := 1) rfl) ((By.below hb By.lt).cell (i := 2) rfl) ((By.below hb By.lt).cell (i := 3) rfl) ⟨_, rfl, rfl, Below.refl _ _⟩
          case o17 =>
            refine GdOp.taken rfl ⟨_, _, rfl, rfl, by simp⟩ (by kernel_rfl) (fun w v h => h) (fun A vs w' hF hT hb hd => ?_)
            have e1 : A.eval (.tmp 70) = .agg #[.int .i64 x.table, .slice a1 x.lo.length a2, .slice a3 x.hi.length a4, .bool x.isOpen] := (hT 70 15 (by simp) rfl).trans (hd ⟨15, .data⟩ (by simp) rfl)
            have e2 : A.eval (.tmp 71) = .agg #[.int .i64 y.table, .slice b1 y.lo.length b2, .slice b3 y.hi.length b4, .bool y.isOpen] := (hT 71 16 (by simp) rfl).trans (hd ⟨16, .data⟩ (by simp) rfl)
            refine wp_callFn rfl eV (args := #[.agg #[.int .i64 x.table, .slice a1 x.lo.length a2, .slice a3 x.hi.length a4, .bool x.isOpen], .agg #[.int .i64 y.table, .slice b1 y.lo.length b2, .slice b3 y.hi.length b4, .bool y.isOpen]]) (by simp only [List.map_toArray, List.map_cons, List.map_nil, e1, e2]) ((sCovers_any w' (hxq.below hb) (hyq.below hb)).mono ?_)
            rintro e w2 ⟨rfl, hb2⟩
            exact ⟨_, rfl, _, rfl, congrArg Value.bool h_cv, hb2⟩
          case o18 =>
            refine GdOp.taken rfl ⟨_, _, rfl, rfl, by simp⟩ (by kernel_rfl) (fun w v h => h) (fun A vs w' hF hT hb hd => ?_)
            have e1 : A.eval (.tmp 72) = .bool true := (hT 72 17 (by simp) rfl).trans (hd ⟨17, .data⟩ (by simp) rfl)
            exact wp_notB rfl e1 ⟨_, rfl, rfl, Below.refl _ _⟩
          case o19 =>
            refine GdOp.taken rfl ⟨_, _, rfl, rfl, by simp⟩ (by kernel_rfl) (fun w v h => h) (fun A vs w' hF hT hb hd => ?_)
            have e1 : A.eval (.tmp 73) = .bool false := (hT 73 18 (by simp) rfl).trans (hd ⟨18, .data⟩ (by simp) rfl)
            exact BigFrame.wp_move _ rfl ⟨_, rfl, e1, Below.refl _ _⟩
          case o20 =>
            refine GdOp.taken rfl ⟨_, _, rfl, rfl, by simp⟩ (by kernel_rfl) (fun w v h => h) (fun A vs w' hF hT hb hd => ?_)
            have e1 : A.eval (.tmp 13) = .bool false := hF 13 rfl
            exact BigFrame.wp_move _ rfl ⟨_, rfl, e1, Below.refl _ _⟩
          case o21 =>
            refine GdOp.taken rfl ⟨_, _, rfl, rfl, by simp⟩ (by kernel_rfl) (fun w v h => h) (fun A vs w' hF hT hb hd => ?_)
            have e1 : A.eval (.tmp 75) = .bool false := (hT 75 20 (by simp) rfl).trans (hd ⟨20, .data⟩ (by simp) rfl)
            exact wp_notB rfl e1 ⟨_, rfl, rfl, Below.refl _ _⟩
          case o22 =>
            refine GdOp.taken rfl ⟨_, _, rfl, rfl, by simp⟩ (by kernel_rfl) (fun w v h => h) (fun A vs w' hF hT hb hd => ?_)
            have e1 : A.eval (.tmp 74) = .bool false := (hT 74 19 (by simp) rfl).trans (hd ⟨19, .data⟩ (by simp) rfl)
            have e3 : A.eval (.tmp 76) = .bool true := (hT 76 21 (by simp) rfl).trans (hd ⟨21, .data⟩ (by simp) rfl)
            exact wp_pk rfl e1 (by simp) (fun _ => e3) ⟨_, rfl, rfl, Below.refl _ _⟩
          case o23 =>
            refine GdOp.taken rfl ⟨_, _, rfl, rfl, by simp⟩ (by kernel_rfl) (fun w v h => h) (fun A vs w' hF hT hb hd => ?_)
            have e1 : A.eval (.tmp 77) = .bool true := (hT 77 22 (by simp) rfl).trans (hd ⟨22, .data⟩ (by simp) rfl)
            exact BigFrame.wp_move _ rfl ⟨_, rfl, e1, Below.refl _ _⟩
          case o24 =>
            exact GdOp.left rfl ⟨_, _, rfl, rfl, by simp⟩ (by kernel_rfl) (fun w v h => .inl h) (fun w => rfl)
          case o25 =>
            refine GdOp.taken rfl ⟨_, _, rfl, rfl, by simp⟩ (by kernel_rfl) (fun w v h => h) (fun A vs w' hF hT hb hd => ?_)
            have e1 : A.eval (.tmp 78) = .bool true := (hT 78 23 (by simp) rfl).trans (hd ⟨23, .data⟩ (by simp) rfl)
            have e3 : A.eval (.tmp 79) = undef := (hT 79 24 (by simp) rfl).trans (hd ⟨24, .data⟩ (by simp) rfl)
            exact wp_pk rfl e1 (fun _ => rfl) (by simp) ⟨_, rfl, rfl, Below.refl _ _⟩
          case o26 =>
            refine GdOp.plain rfl (fun A vs w' hF hT hb hd => ?_)
            have e1 : A.eval (.tmp 69) = .bool true := (hT 69 14 (by simp) rfl).trans (hd ⟨14, .data⟩ (by simp) rfl)
            have e2 : A.eval (.tmp 80) = .bool true := (hT 80 25 (by simp) rfl).trans (hd ⟨25, .data⟩ (by simp) rfl)
            exact wp_pk rfl e1 (fun _ => e2) (by simp) ⟨_, rfl, rfl, Below.refl _ _⟩
          case o27 =>
            refine GdOp.plain rfl (fun A vs w' hF hT hb hd => ?_)
            have e1 : A.eval (.tmp 81) = .bool true := (hT 81 26 (by simp) rfl).trans (hd ⟨26, .data⟩ (by simp) rfl)
            exact BigFrame.wp_move _ rfl ⟨_, rfl, e1, Below.refl _ _⟩
          case o28 =>
            refine GdOp.taken rfl ⟨_, _, rfl, rfl, by simp⟩ (by kernel_rfl) (fun w v h => h) (fun A vs w' hF hT hb hd => ?_)
            have e1 : A.eval (.tmp 5) = .pointer (some ⟨w.heap.size, 0, none⟩) := hF 5 rfl
            exact wp_load4 spS rfl e1 ((Bx.below hb Bx.lt).cell (i := 0) rfl) ((Bx.below hb Bx.lt).cell (i := 1) rfl) ((Bx.below hb Bx.lt).cell (i := 2) rfl) ((Bx.below hb Bx.lt).cell (i := 3) rfl) ⟨_, rfl, rfl, Below.refl _ _⟩
          case o29 =>
            refine GdOp.taken rfl ⟨_, _, rfl, rfl, by simp⟩ (by kernel_rfl) (fun w v h => h) (fun A vs w' hF hT hb hd => ?_)
            have e1 : A.eval (.tmp 83) = .agg #[.int .i64 x.table, .slice a1 x.lo.length a2, .slice a3 x.hi.length a4, .bool x.isOpen] := (hT 83 28 (by simp) rfl).trans (hd ⟨28, .data⟩ (by simp) rfl)
            refine wp_callFn rfl eE (args := #[.agg #[.int .i64 x.table, .slice a1 x.lo.length a2, .slice a3 x.hi.length a4, .bool x.isOpen]]) (by simp only [List.map_toArray, List.map_cons, List.map_nil, e1]) ((sEmpty_any w' (hxq.below hb)).mono ?_)
            rintro e w2 ⟨rfl, hb2⟩
            exact ⟨_, rfl, _, rfl, congrArg Value.bool h_em, hb2⟩
          case o30 =>
            refine GdOp.taken rfl ⟨_, _, rfl, rfl, by simp⟩ (by kernel_rfl) (fun w v h => h) (fun A vs w' hF hT hb hd => ?_)
            have e1 : A.eval (.tmp 84) = .bool false := (hT 84 29 (by simp) rfl).trans (hd ⟨29, .data⟩ (by simp) rfl)
            exact wp_notB rfl e1 ⟨_, rfl, rfl, Below.refl _ _⟩
          case o31 =>
            refine GdOp.taken rfl ⟨_, _, rfl, rfl, by simp⟩ (by kernel_rfl) (fun w v h => h) (fun A vs w' hF hT hb hd => ?_)
            have e1 : A.eval (.tmp 85) = .bool true := (hT 85 30 (by simp) rfl).trans (hd ⟨30, .data⟩ (by simp) rfl)
            exact BigFrame.wp_move _ rfl ⟨_, rfl, e1, Below.refl _ _⟩
          case o32 =>
            exact GdOp.left rfl ⟨_, _, rfl, rfl, by simp⟩ (by kernel_rfl) (fun w v h => .inl h) (fun w => rfl)
          case o33 =>
            exact GdOp.left rfl ⟨_, _, rfl, rfl, by simp⟩ (by kernel_rfl) (fun w v h => .inl h) (fun w => rfl)
          case o34 =>
            refine GdOp.taken rfl ⟨_, _, rfl, rfl, by simp⟩ (by kernel_rfl) (fun w v h => h) (fun A vs w' hF hT hb hd => ?_)
            have e1 : A.eval (.tmp 86) = .bool true := (hT 86 31 (by simp) rfl).trans (hd ⟨31, .data⟩ (by simp) rfl)
            have e3 : A.eval (.tmp 88) = undef := (hT 88 33 (by simp) rfl).trans (hd ⟨33, .data⟩ (by simp) rfl)
            exact wp_pk rfl e1 (fun _ => rfl) (by simp) ⟨_, rfl, rfl, Below.refl _ _⟩
          case o35 =>
            refine GdOp.plain rfl (fun A vs w' hF hT hb hd => ?_)
            have e1 : A.eval (.tmp 82) = .bool true := (hT 82 27 (by simp) rfl).trans (hd ⟨27, .data⟩ (by simp) rfl)
            have e2 : A.eval (.tmp 89) = .bool true := (hT 89 34 (by simp) rfl).trans (hd ⟨34, .data⟩ (by simp) rfl)
            exact wp_pk rfl e1 (fun _ => e2) (by simp) ⟨_, rfl, rfl, Below.refl _ _⟩
          case o36 =>
            refine GdOp.plain rfl (fun A vs w' hF hT hb hd => ?_)
            have e1 : A.eval (.tmp 90) = .bool true := (hT 90 35 (by simp) rfl).trans (hd ⟨35, .data⟩ (by simp) rfl)
            exact BigFrame.wp_move _ rfl ⟨_, rfl, e1, Below.refl _ _⟩
          case o37 =>
            refine GdOp.taken rfl ⟨_, _, rfl, rfl, by simp⟩ (by kernel_rfl) (fun w v h => h) (fun A vs w' hF hT hb hd => ?_)
            have e1 : A.eval (.tmp 5) = .pointer (some ⟨w.heap.size, 0, none⟩) := hF 5 rfl
            exact wp_load4 spS rfl e1 ((Bx.below hb Bx.lt).cell (i := 0) rfl) ((Bx.below hb Bx.lt).cell (i := 1) rfl) ((Bx.below hb Bx.lt).cell (i := 2) rfl) ((Bx.below hb Bx.lt).cell (i := 3) rfl) ⟨_, rfl, rfl, Below.refl _ _⟩
          case o38 =>
            refine GdOp.taken rfl ⟨_, _, rfl, rfl, by simp⟩ (by kernel_rfl) (fun w v h => h) (fun A vs w' hF hT hb hd => ?_)
            have e1 : A.eval (.tmp 6) = .pointer (some ⟨w.heap.size + 1, 0, none⟩) := hF 6 rfl
            exact wp_load4 spS rfl e1 ((By.below hb By.lt).cell (i := 0) rfl) ((By.below hb By.lt).cell (i := 1) rfl) ((By.below hb By.lt).cell (i := 2) rfl) ((By.below hb By.lt).cell (i := 3) rfl) ⟨_, rfl, rfl, Below.refl _ _⟩
          case o39 =>
            refine GdOp.taken rfl ⟨_, _, rfl, rfl, by simp⟩ (by kernel_rfl) (fun w v h => h) (fun A vs w' hF hT hb hd => ?_)
            have e1 : A.eval (.tmp 92) = .agg #[.int .i64 x.table, .slice a1 x.lo.length a2, .slice a3 x.hi.length a4, .bool x.isOpen] := (hT 92 37 (by simp) rfl).trans (hd ⟨37, .data⟩ (by simp) rfl)
            have e2 : A.eval (.tmp 93) = .agg #[.int .i64 y.table, .slice b1 y.lo.length b2, .slice b3 y.hi.length b4, .bool y.isOpen] := (hT 93 38 (by simp) rfl).trans (hd ⟨38, .data⟩ (by simp) rfl)
            refine wp_callFn rfl eM (args := #[.agg #[.int .i64 x.table, .slice a1 x.lo.length a2, .slice a3 x.hi.length a4, .bool x.isOpen], .agg #[.int .i64 y.table, .slice b1 y.lo.length b2, .slice b3 y.hi.length b4, .bool y.isOpen]]) (by simp only [List.map_toArray, List.map_cons, List.map_nil, e1, e2]) ((sMeets_any w' (hxq.below hb) (hyq.below hb)).mono ?_)
            rintro e w2 ⟨rfl, hb2⟩
            exact ⟨_, rfl, _, rfl, rfl, hb2⟩
          case o40 =>
            refine GdOp.taken rfl ⟨_, _, rfl, rfl, by simp⟩ (by kernel_rfl) (fun w v h => h) (fun A vs w' hF hT hb hd => ?_)
            have e1 : A.eval (.tmp 6) = .pointer (some ⟨w.heap.size + 1, 0, none⟩) := hF 6 rfl
            exact wp_load4 spS rfl e1 ((By.below hb By.lt).cell (i := 0) rfl) ((By.below hb By.lt).cell (i := 1) rfl) ((By.below hb By.lt).cell (i := 2) rfl) ((By.below hb By.lt).cell (i := 3) rfl) ⟨_, rfl, rfl, Below.refl _ _⟩
          case o41 =>
            refine GdOp.taken rfl ⟨_, _, rfl, rfl, by simp⟩ (by kernel_rfl) (fun w v h => h) (fun A vs w' hF hT hb hd => ?_)
            have e1 : A.eval (.tmp 5) = .pointer (some ⟨w.heap.size, 0, none⟩) := hF 5 rfl
            exact wp_load4 spS rfl e1 ((Bx.below hb Bx.lt).cell (i := 0) rfl) ((Bx.below hb Bx.lt).cell (i := 1) rfl) ((Bx.below hb Bx.lt).cell (i := 2) rfl) ((Bx.below hb Bx.lt).cell (i := 3) rfl) ⟨_, rfl, rfl, Below.refl _ _⟩
          case o42 =>
            refine GdOp.taken rfl ⟨_, _, rfl, rfl, by simp⟩ (by kernel_rfl) (fun w v h => h) (fun A vs w' hF hT hb hd => ?_)
            have e1 : A.eval (.tmp 95) = .agg #[.int .i64 y.table, .slice b1 y.lo.length b2, .slice b3 y.hi.length b4, .bool y.isOpen] := (hT 95 40 (by simp) rfl).trans (hd ⟨40, .data⟩ (by simp) rfl)
            have e2 : A.eval (.tmp 96) = .agg #[.int .i64 x.table, .slice a1 x.lo.length a2, .slice a3 x.hi.length a4, .bool x.isOpen] := (hT 96 41 (by simp) rfl).trans (hd ⟨41, .data⟩ (by simp) rfl)
            refine wp_callFn rfl eM (args := #[.agg #[.int .i64 y.table, .slice b1 y.lo.length b2, .slice b3 y.hi.length b4, .bool y.isOpen], .agg #[.int .i64 x.table, .slice a1 x.lo.length a2, .slice a3 x.hi.length a4, .bool x.isOpen]]) (by simp only [List.map_toArray, List.map_cons, List.map_nil, e1, e2]) ((sMeets_any w' (hyq.below hb) (hxq.below hb)).mono ?_)
            rintro e w2 ⟨rfl, hb2⟩
            exact ⟨_, rfl, _, rfl, rfl, hb2⟩
          case o43 =>
            refine GdOp.taken rfl ⟨_, _, rfl, rfl, by simp⟩ (by kernel_rfl) (fun w v h => h) (fun A vs w' hF hT hb hd => ?_)
            have e1 : A.eval (.tmp 94) = .bool (meetsS x y) := (hT 94 39 (by simp) rfl).trans (hd ⟨39, .data⟩ (by simp) rfl)
            have e2 : A.eval (.tmp 97) = .bool (meetsS y x) := (hT 97 42 (by simp) rfl).trans (hd ⟨42, .data⟩ (by simp) rfl)
            exact wp_eqlB (by kernel_rfl) rfl e1 e2 ⟨_, rfl, (congrArg Value.bool (by rw [meets_comm y x, beq_self_eq_true])), Below.refl _ _⟩
          case o44 =>
            refine GdOp.plain rfl (fun A vs w' hF hT hb hd => ?_)
            have e1 : A.eval (.tmp 91) = .bool true := (hT 91 36 (by simp) rfl).trans (hd ⟨36, .data⟩ (by simp) rfl)
            have e2 : A.eval (.tmp 98) = .bool true := (hT 98 43 (by simp) rfl).trans (hd ⟨43, .data⟩ (by simp) rfl)
            exact wp_pk rfl e1 (fun _ => e2) (by simp) ⟨_, rfl, rfl, Below.refl _ _⟩
          case o45 =>
            refine GdOp.plain rfl (fun A vs w' hF hT hb hd => ?_)
            have e1 : A.eval (.tmp 99) = .bool true := (hT 99 44 (by simp) rfl).trans (hd ⟨44, .data⟩ (by simp) rfl)
            exact BigFrame.wp_move _ rfl ⟨_, rfl, e1, Below.refl _ _⟩
          case o46 =>
            refine GdOp.taken rfl ⟨_, _, rfl, rfl, by simp⟩ (by kernel_rfl) (fun w v h => h) (fun A vs w' hF hT hb hd => ?_)
            have e1 : A.eval (.tmp 5) = .pointer (some ⟨w.heap.size, 0, none⟩) := hF 5 rfl
            exact wp_load4 spS rfl e1 ((Bx.below hb Bx.lt).cell (i := 0) rfl) ((Bx.below hb Bx.lt).cell (i := 1) rfl) ((Bx.below hb Bx.lt).cell (i := 2) rfl) ((Bx.below hb Bx.lt).cell (i := 3) rfl) ⟨_, rfl, rfl, Below.refl _ _⟩
          case o47 =>
            refine GdOp.taken rfl ⟨_, _, rfl, rfl, by simp⟩ (by kernel_rfl) (fun w v h => h) (fun A vs w' hF hT hb hd => ?_)
            have e1 : A.eval (.tmp 5) = .pointer (some ⟨w.heap.size, 0, none⟩) := hF 5 rfl
            exact wp_load4 spS rfl e1 ((Bx.below hb Bx.lt).cell (i := 0) rfl) ((Bx.below hb Bx.lt).cell (i := 1) rfl) ((Bx.below hb Bx.lt).cell (i := 2) rfl) ((Bx.below hb Bx.lt).cell (i := 3) rfl) ⟨_, rfl, rfl, Below.refl _ _⟩
          case o48 =>
            refine GdOp.taken rfl ⟨_, _, rfl, rfl, by simp⟩ (by kernel_rfl) (fun w v h => h) (fun A vs w' hF hT hb hd => ?_)
            have e1 : A.eval (.tmp 101) = .agg #[.int .i64 x.table, .slice a1 x.lo.length a2, .slice a3 x.hi.length a4, .bool x.isOpen] := (hT 101 46 (by simp) rfl).trans (hd ⟨46, .data⟩ (by simp) rfl)
            have e2 : A.eval (.tmp 102) = .agg #[.int .i64 x.table, .slice a1 x.lo.length a2, .slice a3 x.hi.length a4, .bool x.isOpen] := (hT 102 47 (by simp) rfl).trans (hd ⟨47, .data⟩ (by simp) rfl)
            refine wp_callFn rfl eV (args := #[.agg #[.int .i64 x.table, .slice a1 x.lo.length a2, .slice a3 x.hi.length a4, .bool x.isOpen], .agg #[.int .i64 x.table, .slice a1 x.lo.length a2, .slice a3 x.hi.length a4, .bool x.isOpen]]) (by simp only [List.map_toArray, List.map_cons, List.map_nil, e1, e2]) ((sCovers_any w' (hxq.below hb) (hxq.below hb)).mono ?_)
            rintro e w2 ⟨rfl, hb2⟩
            exact ⟨_, rfl, _, rfl, congrArg Value.bool (covers_self x), hb2⟩
          case o49 =>
            refine GdOp.plain rfl (fun A vs w' hF hT hb hd => ?_)
            have e1 : A.eval (.tmp 100) = .bool true := (hT 100 45 (by simp) rfl).trans (hd ⟨45, .data⟩ (by simp) rfl)
            have e2 : A.eval (.tmp 103) = .bool true := (hT 103 48 (by simp) rfl).trans (hd ⟨48, .data⟩ (by simp) rfl)
            exact wp_pk rfl e1 (fun _ => e2) (by simp) ⟨_, rfl, rfl, Below.refl _ _⟩
          case o50 =>
            refine GdOp.plain rfl (fun A vs w' hF hT hb hd => ?_)
            have e1 : A.eval (.tmp 104) = .bool true := (hT 104 49 (by simp) rfl).trans (hd ⟨49, .data⟩ (by simp) rfl)
            exact BigFrame.wp_move _ rfl ⟨_, rfl, e1, Below.refl _ _⟩
          case o51 =>
            refine GdOp.taken rfl ⟨_, _, rfl, rfl, by simp⟩ (by kernel_rfl) (fun w v h => h) (fun A vs w' hF hT hb hd => ?_)
            have e1 : A.eval (.tmp 14) = .bool true := hF 14 rfl
            exact BigFrame.wp_move _ rfl ⟨_, rfl, e1, Below.refl _ _⟩
          case o52 =>
            refine GdOp.plain rfl (fun A vs w' hF hT hb hd => ?_)
            have e1 : A.eval (.tmp 105) = .bool true := (hT 105 50 (by simp) rfl).trans (hd ⟨50, .data⟩ (by simp) rfl)
            have e2 : A.eval (.tmp 106) = .bool true := (hT 106 51 (by simp) rfl).trans (hd ⟨51, .data⟩ (by simp) rfl)
            exact wp_pk rfl e1 (fun _ => e2) (by simp) ⟨_, rfl, rfl, Below.refl _ _⟩
          case o53 =>
            refine GdOp.plain rfl (fun A vs w' hF hT hb hd => ?_)
            have e1 : A.eval (.tmp 107) = .bool true := (hT 107 52 (by simp) rfl).trans (hd ⟨52, .data⟩ (by simp) rfl)
            exact BigFrame.wp_assign _ rfl ⟨_, rfl, e1, Below.refl _ _⟩
          case fin =>
            intro A vs w' hA hb hG
            have e6 : A.eval (.tmp 10) = .bool true := (hA.2.2.2 10 53 (by simp) rfl).trans (hG 53 (by decide))
            have hdf : A.defers = [] := hA.1
            clear hG hA
            go_wp2
            refine bodyPost_ret (v := .bool true) ?_ hdf ⟨rfl, q.trans (hb.mono q.size)⟩
            rw [← e6]
            exact results_tmp rfl _ _ _
    | false =>
      cases h_em : emptyS x with
      | true =>
        refine wp_region_gsa (by kernel_rfl) (by kernel_rfl) [sgEq (.bool true), sgEq (.bool true), sgEq (.bool false), sgEq (.bool true), sgEq (.bool true), sgEq undef, sgEq undef, sgEq (.bool true), sgEq (.bool true), sgEq undef, sgEq undef, sgEq undef, sgEq (.bool true), sgEq (.bool true), sgEq (.bool true), sgEq (.agg #[.int .i64 x.table, .slice a1 x.lo.length a2, .slice a3 x.hi.length a4, .bool x.isOpen]), sgEq (.agg #[.int .i64 y.table, .slice b1 y.lo.length b2, .slice b3 y.hi.length b4, .bool y.isOpen]), sgEq (.bool false), sgEq (.bool true), sgEq (.bool true), sgEq undef, sgEq undef, sgEq (.bool true), sgEq (.bool true), sgEq undef, sgEq (.bool true), sgEq (.bool true), sgEq (.bool true), sgEq (.agg #[.int .i64 x.table, .slice a1 x.lo.length a2, .slice a3 x.hi.length a4, .bool x.isOpen]), sgEq (.bool true), sgEq (.bool false), sgEq (.bool false), sgEq (.bool false), sgEq (.bool true), sgEq (.bool true), sgEq (.bool true), sgEq (.bool true), sgEq (.agg #[.int .i64 x.table, .slice a1 x.lo.length a2, .slice a3 x.hi.length a4, .bool x.isOpen]), sgEq (.agg #[.int .i64 y.table, .slice b1 y.lo.length b2, .slice b3 y.hi.length b4, .bool y.isOpen]), sgEq (.bool (meetsS x y)), sgEq (.agg #[.int .i64 y.table, .slice b1 y.lo.length b2, .slice b3 y.hi.length b4, .bool y.isOpen]), sgEq (.agg #[.int .i64 x.table, .slice a1 x.lo.length a2, .slice a3 x.hi.length a4, .bool x.isOpen]), sgEq (.bool (meetsS y x)), sgEq (.bool true), sgEq (.bool true), sgEq (.bool true), sgEq (.agg #[.int .i64 x.table, .slice a1 x.lo.length a2, .slice a3 x.hi.length a4, .bool x.isOpen]), sgEq (.agg #[.int .i64 x.table, .slice a1 x.lo.length a2, .slice a3 x.hi.length a4, .bool x.isOpen]), sgEq (.bool true), sgEq (.bool true), sgEq (.bool true), sgEq (.bool true), sgEq (.bool true), sgEq (.bool true)]
          ⟨?o0, ?o1, ?o2, ?o3, ?o4, ?o5, ?o6, ?o7, ?o8, ?o9, ?o10, ?o11, ?o12, ?o13, ?o14, ?o15, ?o16, ?o17, ?o18, ?o19, ?o20, ?o21, ?o22, ?o23, ?o24, ?o25, ?o26, ?o27, ?o28, ?o29, ?o30, ?o31, ?o32, ?o33, ?o34, ?o35, ?o36, ?o37, ?o38, ?o39, ?o40, ?o41, ?o42, ?o43, ?o44, ?o45, ?o46, ?o47, ?o48, ?o49, ?o50, ?o51, ?o52, ?o53, trivial⟩ ?fin
        case o0 =>
          refine GdOp.plain rfl (fun A vs w' hF hT hb hd => ?_)
          have e1 : A.eval (.tmp 11) = .bool true := hF 11 rfl
          exact BigFrame.wp_move _ rfl ⟨_, rfl, e1, Below.refl _ _⟩
        case o1 =>
          refine GdOp.plain rfl (fun A vs w' hF hT hb hd => ?_)
          have e1 : A.eval (.tmp 55) = .bool true := (hT 55 0 (by simp) rfl).trans (hd ⟨0, .data⟩ (by simp) rfl)
          exact BigFrame.wp_move _ rfl ⟨_, rfl, e1, Below.refl _ _⟩
        case o2 =>
          refine GdOp.taken rfl ⟨_, _, rfl, rfl, by simp⟩ (by kernel_rfl) (fun w v h => h) (fun A vs w' hF hT hb hd => ?_)
          have e1 : A.eval (.tmp 12) = .bool false := hF 12 rfl
          exact BigFrame.wp_move _ rfl ⟨_, rfl, e1, Below.refl _ _⟩
        case o3 =>
          refine GdOp.taken rfl ⟨_, _, rfl, rfl, by simp⟩ (by kernel_rfl) (fun w v h => h) (fun A vs w' hF hT hb hd => ?_)
          have e1 : A.eval (.tmp 57) = .bool false := (hT 57 2 (by simp) rfl).trans (hd ⟨2, .data⟩ (by simp) rfl)
          exact wp_notB rfl e1 ⟨_, rfl, rfl, Below.refl _ _⟩
        case o4 =>
          refine GdOp.taken rfl ⟨_, _, rfl, rfl, by simp⟩ (by kernel_rfl) (fun w v h => h) (fun A vs w' hF hT hb hd => ?_)
          have e1 : A.eval (.tmp 58) = .bool true := (hT 58 3 (by simp) rfl).trans (hd ⟨3, .data⟩ (by simp) rfl)
          exact BigFrame.wp_move _ rfl ⟨_, rfl, e1, Below.refl _ _⟩
        case o5 =>
          exact GdOp.left rfl ⟨_, _, rfl, rfl, by simp⟩ (by kernel_rfl) (fun w v h => .inl h) (fun w => rfl)
        case o6 =>
          exact GdOp.left rfl ⟨_, _, rfl, rfl, by simp⟩ (by kernel_rfl) (fun w v h => .inl h) (fun w => rfl)
        case o7 =>
          refine GdOp.taken rfl ⟨_, _, rfl, rfl, by simp⟩ (by kernel_rfl) (fun w v h => h) (fun A vs w' hF hT hb hd => ?_)
          have e1 : A.eval (.tmp 59) = .bool true := (hT 59 4 (by simp) rfl).trans (hd ⟨4, .data⟩ (by simp) rfl)
          have e3 : A.eval (.tmp 61) = undef := (hT 61 6 (by simp) rfl).trans (hd ⟨6, .data⟩ (by simp) rfl)
          exact wp_pk rfl e1 (fun _ => rfl) (by simp) ⟨_, rfl, rfl, Below.refl _ _⟩
        case o8 =>
          refine GdOp.taken rfl ⟨_, _, rfl, rfl, by simp⟩ (by kernel_rfl) (fun w v h => h) (fun A vs w' hF hT hb hd => ?_)
          have e1 : A.eval (.tmp 62) = .bool true := (hT 62 7 (by simp) rfl).trans (hd ⟨7, .data⟩ (by simp) rfl)
          exact BigFrame.wp_move _ rfl ⟨_, rfl, e1, Below.refl _ _⟩
        case o9 =>
          exact GdOp.left rfl ⟨_, _, rfl, rfl, by simp⟩ (by kernel_rfl) (fun w v h => .inl h) (fun w => rfl)
        case o10 =>
          exact GdOp.left rfl ⟨_, _, rfl, rfl, by simp⟩ (by kernel_rfl) (fun w v h => .inl h) (fun w => rfl)
        case o11 =>
          exact GdOp.left rfl ⟨_, _, rfl, rfl, by simp⟩ (by kernel_rfl) (fun w v h => .inl h) (fun w => rfl)
        case o12 =>
          refine GdOp.taken rfl ⟨_, _, rfl, rfl, by simp⟩ (by kernel_rfl) (fun w v h => h) (fun A vs w' hF hT hb hd => ?_)
          have e1 : A.eval (.tmp 63) = .bool true := (hT 63 8 (by simp) rfl).trans (hd ⟨8, .data⟩ (by simp) rfl)
          have e3 : A.eval (.tmp 66) = undef := (hT 66 11 (by simp) rfl).trans (hd ⟨11, .data⟩ (by simp) rfl)
          exact wp_pk rfl e1 (fun _ => rfl) (by simp) ⟨_, rfl, rfl, Below.refl _ _⟩
        case o13 =>
          refine GdOp.plain rfl (fun A vs w' hF hT hb hd => ?_)
          have e1 : A.eval (.tmp 56) = .bool true := (hT 56 1 (by simp) rfl).trans (hd ⟨1, .data⟩ (by simp) rfl)
          have e2 : A.eval (.tmp 67) = .bool true := (hT 67 12 (by simp) rfl).trans (hd ⟨12, .data⟩ (by simp) rfl)
          exact wp_pk rfl e1 (fun _ => e2) (by simp) ⟨_, rfl, rfl, Below.refl _ _⟩
        case o14 =>
          refine GdOp.plain rfl (fun A vs w' hF hT hb hd => ?_)
          have e1 : A.eval (.tmp 68) = .bool true := (hT 68 13 (by simp) rfl).trans (hd ⟨13, .data⟩ (by simp) rfl)
          exact BigFrame.wp_move _ rfl ⟨_, rfl, e1, Below.refl _ _⟩
        case o15 =>
          refine GdOp.taken rfl ⟨_, _, rfl, rfl, by simp⟩ (by kernel_rfl) (fun w v h => h) (fun A vs w' hF hT hb hd => ?_)
          have e1 : A.eval (.tmp 5) = .pointer (some ⟨w.heap.size, 0, none⟩) := hF 5 rfl
          exact wp_load4 spS rfl e1 ((Bx.below hb Bx.lt).cell (i := 0) rfl) ((Bx.below hb Bx.lt).cell (i := 1) rfl) ((Bx.below hb Bx.lt).cell (i := 2) rfl) ((Bx.below hb Bx.lt).cell (i := 3) rfl) ⟨_, rfl, rfl, Below.refl _ _⟩
        case o16 =>
          refine GdOp.taken rfl ⟨_, _, rfl, rfl, by simp⟩ (by kernel_rfl) (fun w v h => h) (fun A vs w' hF hT hb hd => ?_)
          have e1 : A.eval (.tmp 6) = .pointer (some ⟨w.heap.size + 1, 0, none⟩) := hF 6 rfl
          exact wp_load4 spS rfl e1 ((By.below hb By.lt).cell (i := 0) rfl) ((By.below hb By.lt).cell (i := 1) rfl) ((By.below hb By.lt).cell (i := 2) rfl) ((By.below hb By.lt).cell (i := 3) rfl) ⟨_, rfl, rfl, Below.refl _ _⟩
        case o17 =>
          refine GdOp.taken rfl ⟨_, _, rfl, rfl, by simp⟩ (by kernel_rfl) (fun w v h => h) (fun A vs w' hF hT hb hd => ?_)
          have e1 : A.eval (.tmp 70) = .agg #[.int .i64 x.table, .slice a1 x.lo.length a2, .slice a3 x.hi.length a4, .bool x.isOpen] := (hT 70 15 (by simp) rfl).trans (hd ⟨15, .data⟩ (by simp) rfl)
          have e2 : A.eval (.tmp 71) = .agg #[.int .i64 y.table, .slice b1 y.lo.length b2, .slice b3 y.hi.length b4, .bool y.isOpen] := (hT 71 16 (by simp) rfl).trans (hd ⟨16, .data⟩ (by simp) rfl)
          refine wp_callFn rfl eV (args := #[.agg #[.int .i64 x.table, .slice a1 x.lo.length a2, .slice a3 x.hi.length a4, .bool x.isOpen], .agg #[.int .i64 y.table, .slice b1 y.lo.length b2, .slice b3 y.hi.length b4, .bool y.isOpen]]) (by simp only [List.map_toArray, List.map_cons, List.map_nil, e1, e2]) ((sCovers_any w' (hxq.below hb) (hyq.below hb)).mono ?_)
          rintro e w2 ⟨rfl, hb2⟩
          exact ⟨_, rfl, _, rfl, congrArg Value.bool h_cv, hb2⟩
        case o18 =>
          refine GdOp.taken rfl ⟨_, _, rfl, rfl, by simp⟩ (by kernel_rfl) (fun w v h => h) (fun A vs w' hF hT hb hd => ?_)
          have e1 : A.eval (.tmp 72) = .bool false := (hT 72 17 (by simp) rfl).trans (hd ⟨17, .data⟩ (by simp) rfl)
          exact wp_notB rfl e1 ⟨_, rfl, rfl, Below.refl _ _⟩
        case o19 =>
          refine GdOp.taken rfl ⟨_, _, rfl, rfl, by simp⟩ (by kernel_rfl) (fun w v h => h) (fun A vs w' hF hT hb hd => ?_)
          have e1 : A.eval (.tmp 73) = .bool true := (hT 73 18 (by simp) rfl).trans (hd ⟨18, .data⟩ (by simp) rfl)
          exact BigFrame.wp_move _ rfl ⟨_, rfl, e1, Below.refl _ _⟩
        case o20 =>
          exact GdOp.left rfl ⟨_, _, rfl, rfl, by simp⟩ (by kernel_rfl) (fun w v h => .inl h) (fun w => rfl)
        case o21 =>
          exact GdOp.left rfl ⟨_, _, rfl, rfl, by simp⟩ (by kernel_rfl) (fun w v h => .inl h) (fun w => rfl)
        case o22 =>
          refine GdOp.taken rfl ⟨_, _, rfl, rfl, by simp⟩ (by kernel_rfl) (fun w v h => h) (fun A vs w' hF hT hb hd => ?_)
          have e1 : A.eval (.tmp 74) = .bool true := (hT 74 19 (by simp) rfl).trans (hd ⟨19, .data⟩ (by simp) rfl)
          have e3 : A.eval (.tmp 76) = undef := (hT 76 21 (by simp) rfl).trans (hd ⟨21, .data⟩ (by simp) rfl)
          exact wp_pk rfl e1 (fun _ => rfl) (by simp) ⟨_, rfl, rfl, Below.refl _ _⟩
        case o23 =>
          refine GdOp.taken rfl ⟨_, _, rfl, rfl, by simp⟩ (by kernel_rfl) (fun w v h => h) (fun A vs w' hF hT hb hd => ?_)
          have e1 : A.eval (.tmp 77) = .bool true := (hT 77 22 (by simp) rfl).trans (hd ⟨22, .data⟩ (by simp) rfl)
          exact BigFrame.wp_move _ rfl ⟨_, rfl, e1, Below.refl _ _⟩
        case o24 =>
          exact GdOp.left rfl ⟨_, _, rfl, rfl, by simp⟩ (by kernel_rfl) (fun w v h => .inl h) (fun w => rfl)
        case o25 =>
          refine GdOp.taken rfl ⟨_, _, rfl, rfl, by simp⟩ (by kernel_rfl) (fun w v h => h) (fun A vs w' hF hT hb hd => ?_)
          have e1 : A.eval (.tmp 78) = .bool true := (hT 78 23 (by simp) rfl).trans (hd ⟨23, .data⟩ (by simp) rfl)
          have e3 : A.eval (.tmp 79) = undef := (hT 79 24 (by simp) rfl).trans (hd ⟨24, .data⟩ (by simp) rfl)
          exact wp_pk rfl e1 (fun _ => rfl) (by simp) ⟨_, rfl, rfl, Below.refl _ _⟩
        case o26 =>
          refine GdOp.plain rfl (fun A vs w' hF hT hb hd => ?_)
          have e1 : A.eval (.tmp 69) = .bool true := (hT 69 14 (by simp) rfl).trans (hd ⟨14, .data⟩ (by simp) rfl)
          have e2 : A.eval (.tmp 80) = .bool true := (hT 80 25 (by simp) rfl).trans (hd ⟨25, .data⟩ (by simp) rfl)
          exact wp_pk rfl e1 (fun _ => e2) (by simp) ⟨_, rfl, rfl, Below.refl _ _⟩
        case o27 =>
          refine GdOp.plain rfl (fun A vs w' hF hT hb hd => ?_)
          have e1 : A.eval (.tmp 81) = .bool true := (hT 81 26 (by simp) rfl).trans (hd ⟨26, .data⟩ (by simp) rfl)
          exact BigFrame.wp_move _ rfl ⟨_, rfl, e1, Below.refl _ _⟩
        case o28 =>
          refine GdOp.taken rfl ⟨_, _, rfl, rfl, by simp⟩ (by kernel_rfl) (fun w v h => h) (fun A vs w' hF hT hb hd => ?_)
          have e1 : A.eval (.tmp 5) = .pointer (some ⟨w.heap.size, 0, none⟩) := hF 5 rfl
          exact wp_load4 spS rfl e1 ((Bx.below hb Bx.lt).cell (i := 0) rfl) ((Bx.below hb Bx.lt).cell (i := 1) rfl) ((Bx.below hb Bx.lt).cell (i := 2) rfl) ((Bx.below hb Bx.lt).cell (i := 3) rfl) ⟨_, rfl, rfl, Below.refl _ _⟩
        case o29 =>
          refine GdOp.taken rfl ⟨_, _, rfl, rfl, by simp⟩ (by kernel_rfl) (fun w v h => h) (fun A vs w' hF hT hb hd => ?_)
          have e1 : A.eval (.tmp 83) = .agg #[.int .i64 x.table, .slice a1 x.lo.length a2, .slice a3 x.hi.length a4, .bool x.isOpen] := (hT 83 28 (by simp) rfl).trans (hd ⟨28, .data⟩ (by simp) rfl)
          refine wp_callFn rfl eE (args := #[.agg #[.int .i64 x.table, .slice a1 x.lo.length a2, .slice a3 x.hi.length a4, .bool x.isOpen]]) (by simp only [List.map_toArray, List.map_cons, List.map_nil, e1]) ((sEmpty_any w' (hxq.below hb)).mono ?_)
          rintro e w2 ⟨rfl, hb2⟩
          exact ⟨_, rfl, _, rfl, congrArg Value.bool h_em, hb2⟩
        case o30 =>
          refine GdOp.taken rfl ⟨_, _, rfl, rfl, by simp⟩ (by kernel_rfl) (fun w v h => h) (fun A vs w' hF hT hb hd => ?_)
          have e1 : A.eval (.tmp 84) = .bool true := (hT 84 29 (by simp) rfl).trans (hd ⟨29, .data⟩ (by simp) rfl)
          exact wp_notB rfl e1 ⟨_, rfl, rfl, Below.refl _ _⟩
        case o31 =>
          refine GdOp.taken rfl ⟨_, _, rfl, rfl, by simp⟩ (by kernel_rfl) (fun w v h => h) (fun A vs w' hF hT hb hd => ?_)
          have e1 : A.eval (.tmp 85) = .bool false := (hT 85 30 (by simp) rfl).trans (hd ⟨30, .data⟩ (by simp) rfl)
          exact BigFrame.wp_move _ rfl ⟨_, rfl, e1, Below.refl _ _⟩
        case o32 =>
          refine GdOp.taken rfl ⟨_, _, rfl, rfl, by simp⟩ (by kernel_rfl) (fun w v h => h) (fun A vs w' hF hT hb hd => ?_)
          have e1 : A.eval (.tmp 12) = .bool false := hF 12 rfl
          exact BigFrame.wp_move _ rfl ⟨_, rfl, e1, Below.refl _ _⟩
        case o33 =>
          refine GdOp.taken rfl ⟨_, _, rfl, rfl, by simp⟩ (by kernel_rfl) (fun w v h => h) (fun A vs w' hF hT hb hd => ?_)
          have e1 : A.eval (.tmp 87) = .bool false := (hT 87 32 (by simp) rfl).trans (hd ⟨32, .data⟩ (by simp) rfl)
          exact wp_notB rfl e1 ⟨_, rfl, rfl, Below.refl _ _⟩
        case o34 =>
          refine GdOp.taken rfl ⟨_, _, rfl, rfl, by simp⟩ (by kernel_rfl) (fun w v h => h) (fun A vs w' hF hT hb hd => ?_)
          have e1 : A.eval (.tmp 86) = .bool false := (hT 86 31 (by simp) rfl).trans (hd ⟨31, .data⟩ (by simp) rfl)
          have e3 : A.eval (.tmp 88) = .bool true := (hT 88 33 (by simp) rfl).trans (hd ⟨33, .data⟩ (by simp) rfl)
          exact wp_pk rfl e1 (by simp) (fun _ => e3) ⟨_, rfl, rfl, Below.refl _ _⟩
        case o35 =>
          refine GdOp.plain rfl (fun A vs w' hF hT hb hd => ?_)
          have e1 : A.eval (.tmp 82) = .bool true := (hT 82 27 (by simp) rfl).trans (hd ⟨27, .data⟩ (by simp) rfl)
          have e2 : A.eval (.tmp 89) = .bool true := (hT 89 34 (by simp) rfl).trans (hd ⟨34, .data⟩ (by simp) rfl)
          exact wp_pk rfl e1 (fun _ => e2) (by simp) ⟨_, rfl, rfl, Below.refl _ _⟩
        case o36 =>
          refine GdOp.plain rfl (fun A vs w' hF hT hb hd => ?_)
          have e1 : A.eval (.tmp 90) = .bool true := (hT 90 35 (by simp) rfl).trans (hd ⟨35, .data⟩ (by simp) rfl)
          exact BigFrame.wp_move _ rfl ⟨_, rfl, e1, Below.refl _ _⟩
        case o37 =>
          refine GdOp.taken rfl ⟨_, _, rfl, rfl, by simp⟩ (by kernel_rfl) (fun w v h => h) (fun A vs w' hF hT hb hd => ?_)
          have e1 : A.eval (.tmp 5) = .pointer (some ⟨w.heap.size, 0, none⟩) := hF 5 rfl
          exact wp_load4 spS rfl e1 ((Bx.below hb Bx.lt).cell (i := 0) rfl) ((Bx.below hb Bx.lt).cell (i := 1) rfl) ((Bx.below hb Bx.lt).cell (i := 2) rfl) ((Bx.below hb Bx.lt).cell (i := 3) rfl) ⟨_, rfl, rfl, Below.refl _ _⟩
        case o38 =>
          refine GdOp.taken rfl ⟨_, _, rfl, rfl, by simp⟩ (by kernel_rfl) (fun w v h => h) (fun A vs w' hF hT hb hd => ?_)
          have e1 : A.eval (.tmp 6) = .pointer (some ⟨w.heap.size + 1, 0, none⟩) := hF 6 rfl
          exact wp_load4 spS rfl e1 ((By.below hb By.lt).cell (i := 0) rfl) ((By.below hb By.lt).cell (i := 1) rfl) ((By.below hb By.lt).cell (i := 2) rfl) ((By.below hb By.lt).cell (i := 3) rfl) ⟨_, rfl, rfl, Below.refl _ _⟩
        case o39 =>
          refine GdOp.taken rfl ⟨_, _, rfl, rfl, by simp⟩ (by kernel_rfl) (fun w v h => h) (fun A vs w' hF hT hb hd => ?_)
          have e1 : A.eval (.tmp 92) = .agg #[.int .i64 x.table, .slice a1 x.lo.length a2, .slice a3 x.hi.length a4, .bool x.isOpen] := (hT 92 37 (by simp) rfl).trans (hd ⟨37, .data⟩ (by simp) rfl)
          have e2 : A.eval (.tmp 93) = .agg #[.int .i64 y.table, .slice b1 y.lo.length b2, .slice b3 y.hi.length b4, .bool y.isOpen] := (hT 93 38 (by simp) rfl).trans (hd ⟨38, .data⟩ (by simp) rfl)
          refine wp_callFn rfl eM (args := #[.agg #[.int .i64 x.table, .slice a1 x.lo.length a2, .slice a3 x.hi.length a4, .bool x.isOpen], .agg #[.int .i64 y.table, .slice b1 y.lo.length b2, .slice b3 y.hi.length b4, .bool y.isOpen]]) (by simp only [List.map_toArray, List.map_cons, List.map_nil, e1, e2]) ((sMeets_any w' (hxq.below hb) (hyq.below hb)).mono ?_)
          rintro e w2 ⟨rfl, hb2⟩
          exact ⟨_, rfl, _, rfl, rfl, hb2⟩
        case o40 =>
          refine GdOp.taken rfl ⟨_, _, rfl, rfl, by simp⟩ (by kernel_rfl) (fun w v h => h) (fun A vs w' hF hT hb hd => ?_)
          have e1 : A.eval (.tmp 6) = .pointer (some ⟨w.heap.size + 1, 0, none⟩) := hF 6 rfl
          exact wp_load4 spS rfl e1 ((By.below hb By.lt).cell (i := 0) rfl) ((By.below hb By.lt).cell (i := 1) rfl) ((By.below hb By.lt).cell (i := 2) rfl) ((By.below hb By.lt).cell (i := 3) rfl) ⟨_, rfl, rfl, Below.refl _ _⟩
        case o41 =>
          refine GdOp.taken rfl ⟨_, _, rfl, rfl, by simp⟩ (by kernel_rfl) (fun w v h => h) (fun A vs w' hF hT hb hd => ?_)
          have e1 : A.eval (.tmp 5) = .pointer (some ⟨w.heap.size, 0, none⟩) := hF 5 rfl
          exact wp_load4 spS rfl e1 ((Bx.below hb Bx.lt).cell (i := 0) rfl) ((Bx.below hb Bx.lt).cell (i := 1) rfl) ((Bx.below hb Bx.lt).cell (i := 2) rfl) ((Bx.below hb Bx.lt).cell (i := 3) rfl) ⟨_, rfl, rfl, Below.refl _ _⟩
        case o42 =>
          refine GdOp.taken rfl ⟨_, _, rfl, rfl, by simp⟩ (by kernel_rfl) (fun w v h => h) (fun A vs w' hF hT hb hd => ?_)
          have e1 : A.eval (.tmp 95) = .agg #[.int .i64 y.table, .slice b1 y.lo.length b2, .slice b3 y.hi.length b4, .bool y.isOpen] := (hT 95 40 (by simp) rfl).trans (hd ⟨40, .data⟩ (by simp) rfl)
          have e2 : A.eval (.tmp 96) = .agg #[.int .i64 x.table, .slice a1 x.lo.length a2, .slice a3 x.hi.length a4, .bool x.isOpen] := (hT 96 41 (by simp) rfl).trans (hd ⟨41, .data⟩ (by simp) rfl)
          refine wp_callFn rfl eM (args := #[.agg #[.int .i64 y.table, .slice b1 y.lo.length b2, .slice b3 y.hi.length b4, .bool y.isOpen], .agg #[.int .i64 x.table, .slice a1 x.lo.length a2, .slice a3 x.hi.length a4, .bool x.isOpen]]) (by simp only [List.map_toArray, List.map_cons, List.map_nil, e1, e2]) ((sMeets_any w' (hyq.below hb) (hxq.below hb)).mono ?_)
          rintro e w2 ⟨rfl, hb2⟩
          exact ⟨_, rfl, _, rfl, rfl, hb2⟩
        case o43 =>
          refine GdOp.taken rfl ⟨_, _, rfl, rfl, by simp⟩ (by kernel_rfl) (fun w v h => h) (fun A vs w' hF hT hb hd => ?_)
          have e1 : A.eval (.tmp 94) = .bool (meetsS x y) := (hT 94 39 (by simp) rfl).trans (hd ⟨39, .data⟩ (by simp) rfl)
          have e2 : A.eval (.tmp 97) = .bool (meetsS y x) := (hT 97 42 (by simp) rfl).trans (hd ⟨42, .data⟩ (by simp) rfl)
          exact wp_eqlB (by kernel_rfl) rfl e1 e2 ⟨_, rfl, (congrArg Value.bool (by rw [meets_comm y x, beq_self_eq_true])), Below.refl _ _⟩
        case o44 =>
          refine GdOp.plain rfl (fun A vs w' hF hT hb hd => ?_)
          have e1 : A.eval (.tmp 91) = .bool true := (hT 91 36 (by simp) rfl).trans (hd ⟨36, .data⟩ (by simp) rfl)
          have e2 : A.eval (.tmp 98) = .bool true := (hT 98 43 (by simp) rfl).trans (hd ⟨43, .data⟩ (by simp) rfl)
          exact wp_pk rfl e1 (fun _ => e2) (by simp) ⟨_, rfl, rfl, Below.refl _ _⟩
        case o45 =>
          refine GdOp.plain rfl (fun A vs w' hF hT hb hd => ?_)
          have e1 : A.eval (.tmp 99) = .bool true := (hT 99 44 (by simp) rfl).trans (hd ⟨44, .data⟩ (by simp) rfl)
          exact BigFrame.wp_move _ rfl ⟨_, rfl, e1, Below.refl _ _⟩
        case o46 =>
          refine GdOp.taken rfl ⟨_, _, rfl, rfl, by simp⟩ (by kernel_rfl) (fun w v h => h) (fun A vs w' hF hT hb hd => ?_)
          have e1 : A.eval (.tmp 5) = .pointer (some ⟨w.heap.size, 0, none⟩) := hF 5 rfl
          exact wp_load4 spS rfl e1 ((Bx.below hb Bx.lt).cell (i := 0) rfl) ((Bx.below hb Bx.lt).cell (i := 1) rfl) ((Bx.below hb Bx.lt).cell (i := 2) rfl) ((Bx.below hb Bx.lt).cell (i := 3) rfl) ⟨_, rfl, rfl, Below.refl _ _⟩
        case o47 =>
          refine GdOp.taken rfl ⟨_, _, rfl, rfl, by simp⟩ (by kernel_rfl) (fun w v h => h) (fun A vs w' hF hT hb hd => ?_)
          have e1 : A.eval (.tmp 5) = .pointer (some ⟨w.heap.size, 0, none⟩) := hF 5 rfl
          exact wp_load4 spS rfl e1 ((Bx.below hb Bx.lt).cell (i := 0) rfl) ((Bx.below hb Bx.lt).cell (i := 1) rfl) ((Bx.below hb Bx.lt).cell (i := 2) rfl) ((Bx.below hb Bx.lt).cell (i := 3) rfl) ⟨_, rfl, rfl, Below.refl _ _⟩
        case o48 =>
          refine GdOp.taken rfl ⟨_, _, rfl, rfl, by simp⟩ (by kernel_rfl) (fun w v h => h) (fun A vs w' hF hT hb hd => ?_)
          have e1 : A.eval (.tmp 101) = .agg #[.int .i64 x.table, .slice a1 x.lo.length a2, .slice a3 x.hi.length a4, .bool x.isOpen] := (hT 101 46 (by simp) rfl).trans (hd ⟨46, .data⟩ (by simp) rfl)
          have e2 : A.eval (.tmp 102) = .agg #[.int .i64 x.table, .slice a1 x.lo.length a2, .slice a3 x.hi.length a4, .bool x.isOpen] := (hT 102 47 (by simp) rfl).trans (hd ⟨47, .data⟩ (by simp) rfl)
          refine wp_callFn rfl eV (args := #[.agg #[.int .i64 x.table, .slice a1 x.lo.length a2, .slice a3 x.hi.length a4, .bool x.isOpen], .agg #[.int .i64 x.table, .slice a1 x.lo.length a2, .slice a3 x.hi.length a4, .bool x.isOpen]]) (by simp only [List.map_toArray, List.map_cons, List.map_nil, e1, e2]) ((sCovers_any w' (hxq.below hb) (hxq.below hb)).mono ?_)
          rintro e w2 ⟨rfl, hb2⟩
          exact ⟨_, rfl, _, rfl, congrArg Value.bool (covers_self x), hb2⟩
        case o49 =>
          refine GdOp.plain rfl (fun A vs w' hF hT hb hd => ?_)
          have e1 : A.eval (.tmp 100) = .bool true := (hT 100 45 (by simp) rfl).trans (hd ⟨45, .data⟩ (by simp) rfl)
          have e2 : A.eval (.tmp 103) = .bool true := (hT 103 48 (by simp) rfl).trans (hd ⟨48, .data⟩ (by simp) rfl)
          exact wp_pk rfl e1 (fun _ => e2) (by simp) ⟨_, rfl, rfl, Below.refl _ _⟩
        case o50 =>
          refine GdOp.plain rfl (fun A vs w' hF hT hb hd => ?_)
          have e1 : A.eval (.tmp 104) = .bool true := (hT 104 49 (by simp) rfl).trans (hd ⟨49, .data⟩ (by simp) rfl)
          exact BigFrame.wp_move _ rfl ⟨_, rfl, e1, Below.refl _ _⟩
        case o51 =>
          refine GdOp.taken rfl ⟨_, _, rfl, rfl, by simp⟩ (by kernel_rfl) (fun w v h => h) (fun A vs w' hF hT hb hd => ?_)
          have e1 : A.eval (.tmp 14) = .bool true := hF 14 rfl
          exact BigFrame.wp_move _ rfl ⟨_, rfl, e1, Below.refl _ _⟩
        case o52 =>
          refine GdOp.plain rfl (fun A vs w' hF hT hb hd => ?_)
          have e1 : A.eval (.tmp 105) = .bool true := (hT 105 50 (by simp) rfl).trans (hd ⟨50, .data⟩ (by simp) rfl)
          have e2 : A.eval (.tmp 106) = .bool true := (hT 106 51 (by simp) rfl).trans (hd ⟨51, .data⟩ (by simp) rfl)
          exact wp_pk rfl e1 (fun _ => e2) (by simp) ⟨_, rfl, rfl, Below.refl _ _⟩
        case o53 =>
          refine GdOp.plain rfl (fun A vs w' hF hT hb hd => ?_)
          have e1 : A.eval (.tmp 107) = .bool true := (hT 107 52 (by simp) rfl).trans (hd ⟨52, .data⟩ (by simp) rfl)
          exact BigFrame.wp_assign _ rfl ⟨_, rfl, e1, Below.refl _ _⟩
        case fin =>
          intro A vs w' hA hb hG
          have e6 : A.eval (.tmp 10) = .bool true := (hA.2.2.2 10 53 (by simp) rfl).trans (hG 53 (by decide))
          have hdf : A.defers = [] := hA.1
          clear hG hA
          go_wp2
          refine bodyPost_ret (v := .bool true) ?_ hdf ⟨rfl, q.trans (hb.mono q.size)⟩
          rw [← e6]
          exact results_tmp rfl _ _ _
      | false =>
        refine wp_region_gsa (by kernel_rfl) (by kernel_rfl) [sgEq (.bool true), sgEq (.bool true), sgEq (.bool false), sgEq (.bool true), sgEq (.bool true), sgEq undef, sgEq undef, sgEq (.bool true), sgEq (.bool true), sgEq undef, sgEq undef, sgEq undef, sgEq (.bool true), sgEq (.bool true), sgEq (.bool true), sgEq (.agg #[.int .i64 x.table, .slice a1 x.lo.length a2, .slice a3 x.hi.length a4, .bool x.isOpen]), sgEq (.agg #[.int .i64 y.table, .slice b1 y.lo.length b2, .slice b3 y.hi.length b4, .bool y.isOpen]), sgEq (.bool false), sgEq (.bool true), sgEq (.bool true), sgEq undef, sgEq undef, sgEq (.bool true), sgEq (.bool true), sgEq undef, sgEq (.bool true), sgEq (.bool true), sgEq (.bool true), sgEq (.agg #[.int .i64 x.table, .slice a1 x.lo.length a2, .slice a3 x.hi.length a4, .bool x.isOpen]), sgEq (.bool false), sgEq (.bool true), sgEq (.bool true), sgEq undef, sgEq undef, sgEq (.bool true), sgEq (.bool true), sgEq (.bool true), sgEq (.agg #[.int .i64 x.table, .slice a1 x.lo.length a2, .slice a3 x.hi.length a4, .bool x.isOpen]), sgEq (.agg #[.int .i64 y.table, .slice b1 y.lo.length b2, .slice b3 y.hi.length b4, .bool y.isOpen]), sgEq (.bool (meetsS x y)), sgEq (.agg #[.int .i64 y.table, .slice b1 y.lo.length b2, .slice b3 y.hi.length b4, .bool y.isOpen]), sgEq (.agg #[.int .i64 x.table, .slice a1 x.lo.length a2, .slice a3 x.hi.length a4, .bool x.isOpen]), sgEq (.bool (meetsS y x)), sgEq (.bool true), sgEq (.bool true), sgEq (.bool true), sgEq (.agg #[.int .i64 x.table, .slice a1 x.lo.length a2, .slice a3 x.hi.length a4, .bool x.isOpen]), sgEq (.agg #[.int .i64 x.table, .slice a1 x.lo.length a2, .slice a3 x.hi.length a4, .bool x.isOpen]), sgEq (.bool true), sgEq (.bool true), sgEq (.bool true), sgEq (.bool true), sgEq (.bool true), sgEq (.bool true)]
          ⟨?o0, ?o1, ?o2, ?o3, ?o4, ?o5, ?o6, ?o7, ?o8, ?o9, ?o10, ?o11, ?o12, ?o13, ?o14, ?o15, ?o16, ?o17, ?o18, ?o19, ?o20, ?o21, ?o22, ?o23, ?o24, ?o25, ?o26, ?o27, ?o28, ?o29, ?o30, ?o31, ?o32, ?o33, ?o34, ?o35, ?o36, ?o37, ?o38, ?o39, ?o40, ?o41, ?o42, ?o43, ?o44, ?o45, ?o46, ?o47, ?o48, ?o49, ?o50, ?o51, ?o52, ?o53, trivial⟩ ?fin
        case o0 =>
          refine GdOp.plain rfl (fun A vs w' hF hT hb hd => ?_)
          have e1 : A.eval (.tmp 11) = .bool true := hF 11 rfl
          exact BigFrame.wp_move _ rfl ⟨_, rfl, e1, Below.refl _ _⟩
        case o1 =>
          refine GdOp.plain rfl (fun A vs w' hF hT hb hd => ?_)
          have e1 : A.eval (.tmp 55) = .bool true := (hT 55 0 (by simp) rfl).trans (hd ⟨0, .data⟩ (by simp) rfl)
          exact BigFrame.wp_move _ rfl ⟨_, rfl, e1, Below.refl _ _⟩
        case o2 =>
          refine GdOp.taken rfl ⟨_, _, rfl, rfl, by simp⟩ (by kernel_rfl) (fun w v h => h) (fun A vs w' hF hT hb hd => ?_)
          have e1 : A.eval (.tmp 12) = .bool false := hF 12 rfl
          exact BigFrame.wp_move _ rfl ⟨_, rfl, e1, Below.refl _ _⟩
        case o3 =>
          refine GdOp.taken rfl ⟨_, _, rfl, rfl, by simp⟩ (by kernel_rfl) (fun w v h => h) (fun A vs w' hF hT hb hd => ?_)
          have e1 : A.eval (.tmp 57) = .bool false := (hT 57 2 (by simp) rfl).trans (hd ⟨2, .data⟩ (by simp) rfl)
          exact wp_notB rfl e1 ⟨_, rfl, rfl, Below.refl _ _⟩
        case o4 =>
          refine GdOp.taken rfl ⟨_, _, rfl, rfl, by simp⟩ (by kernel_rfl) (fun w v h => h) (fun A vs w' hF hT hb hd => ?_)
          have e1 : A.eval (.tmp 58) = .bool true := (hT 58 3 (by simp) rfl).trans (hd ⟨3, .data⟩ (by simp) rfl)
          exact BigFrame.wp_move _ rfl ⟨_, rfl, e1, Below.refl _ _⟩
        case o5 =>
          exact GdOp.left rfl ⟨_, _, rfl, rfl, by simp⟩ (by kernel_rfl) (fun w v h => .inl h) (fun w => rfl)
        case o6 =>
          exact GdOp.left rfl ⟨_, _, rfl, rfl, by simp⟩ (by kernel_rfl) (fun w v h => .inl h) (fun w => rfl)
        case o7 =>
          refine GdOp.taken rfl ⟨_, _, rfl, rfl, by simp⟩ (by kernel_rfl) (fun w v h => h) (fun A vs w' hF hT hb hd => ?_)
          have e1 : A.eval (.tmp 59) = .bool true := (hT 59 4 (by simp) rfl).trans (hd ⟨4, .data⟩ (by simp) rfl)
          have e3 : A.eval (.tmp 61) = undef := (hT 61 6 (by simp) rfl).trans (hd ⟨6, .data⟩ (by simp) rfl)
          exact wp_pk rfl e1 (fun _ => rfl) (by simp) ⟨_, rfl, rfl, Below.refl _ _⟩
        case o8 =>
          refine GdOp.taken rfl ⟨_, _, rfl, rfl, by simp⟩ (by kernel_rfl) (fun w v h => h) (fun A vs w' hF hT hb hd => ?_)
          have e1 : A.eval (.tmp 62) = .bool true := (hT 62 7 (by simp) rfl).trans (hd ⟨7, .data⟩ (by simp) rfl)
          exact BigFrame.wp_move _ rfl ⟨_, rfl, e1, Below.refl _ _⟩
        case o9 =>
          exact GdOp.left rfl ⟨_, _, rfl, rfl, by simp⟩ (by kernel_rfl) (fun w v h => .inl h) (fun w => rfl)
        case o10 =>
          exact GdOp.left rfl ⟨_, _, rfl, rfl, by simp⟩ (by kernel_rfl) (fun w v h => .inl h) (fun w => rfl)
        case o11 =>
          exact GdOp.left rfl ⟨_, _, rfl, rfl, by simp⟩ (by kernel_rfl) (fun w v h => .inl h) (fun w => rfl)
        case o12 =>
          refine GdOp.taken rfl ⟨_, _, rfl, rfl, by simp⟩ (by kernel_rfl) (fun w v h => h) (fun A vs w' hF hT hb hd => ?_)
          have e1 : A.eval (.tmp 63) = .bool true := (hT 63 8 (by simp) rfl).trans (hd ⟨8, .data⟩ (by simp) rfl)
          have e3 : A.eval (.tmp 66) = undef := (hT 66 11 (by simp) rfl).trans (hd ⟨11, .data⟩ (by simp) rfl)
          exact wp_pk rfl e1 (fun _ => rfl) (by simp) ⟨_, rfl, rfl, Below.refl _ _⟩
        case o13 =>
          refine GdOp.plain rfl (fun A vs w' hF hT hb hd => ?_)
          have e1 : A.eval (.tmp 56) = .bool true := (hT 56 1 (by simp) rfl).trans (hd ⟨1, .data⟩ (by simp) rfl)
          have e2 : A.eval (.tmp 67) = .bool true := (hT 67 12 (by simp) rfl).trans (hd ⟨12, .data⟩ (by simp) rfl)
          exact wp_pk rfl e1 (fun _ => e2) (by simp) ⟨_, rfl, rfl, Below.refl _ _⟩
        case o14 =>
          refine GdOp.plain rfl (fun A vs w' hF hT hb hd => ?_)
          have e1 : A.eval (.tmp 68) = .bool true := (hT 68 13 (by simp) rfl).trans (hd ⟨13, .data⟩ (by simp) rfl)
          exact BigFrame.wp_move _ rfl ⟨_, rfl, e1, Below.refl _ _⟩
        case o15 =>
          refine GdOp.taken rfl ⟨_, _, rfl, rfl, by simp⟩ (by kernel_rfl) (fun w v h => h) (fun A vs w' hF hT hb hd => ?_)
          have e1 : A.eval (.tmp 5) = .pointer (some ⟨w.heap.size, 0, none⟩) := hF 5 rfl
          exact wp_load4 spS rfl e1 ((Bx.below hb Bx.lt).cell (i := 0) rfl) ((Bx.below hb Bx.lt).cell (i := 1) rfl) ((Bx.below hb Bx.lt).cell (i := 2) rfl) ((Bx.below hb Bx.lt).cell (i := 3) rfl) ⟨_, rfl, rfl, Below.refl _ _⟩
        case o16 =>
          refine GdOp.taken rfl ⟨_, _, rfl, rfl, by simp⟩ (by kernel_rfl) (fun w v h => h) (fun A vs w' hF hT hb hd => ?_)
          have e1 : A.eval (.tmp 6) = .pointer (some ⟨w.heap.size + 1, 0, none⟩) := hF 6 rfl
          exact wp_load4 spS rfl e1 ((By.below hb By.lt).cell (i := 0) rfl) ((By.below hb By.lt).cell (i := 1) rfl) ((By.below hb By.lt).cell (i := 2) rfl) ((By.below hb By.lt).cell (i := 3) rfl) ⟨_, rfl, rfl, Below.refl _ _⟩
        case o17 =>
          refine GdOp.taken rfl ⟨_, _, rfl, rfl, by simp⟩ (by kernel_rfl) (fun w v h => h) (fun A vs w' hF hT hb hd => ?_)
          have e1 : A.eval (.tmp 70) = .agg #[.int .i64 x.table, .slice a1 x.lo.length a2, .slice a3 x.hi.length a4, .bool x.isOpen] := (hT 70 15 (by simp) rfl).trans (hd ⟨15, .data⟩ (by simp) rfl)
          have e2 : A.eval (.tmp 71) = .agg #[.int .i64 y.table, .slice b1 y.lo.length b2, .slice b3 y.hi.length b4, .bool y.isOpen] := (hT 71 16 (by simp) rfl).trans (hd ⟨16, .data⟩ (by simp) rfl)
          refine wp_callFn rfl eV (args := #[.agg #[.int .i64 x.table, .slice a1 x.lo.length a2, .slice a3 x.hi.length a4, .bool x.isOpen], .agg #[.int .i64 y.table, .slice b1 y.lo.length b2, .slice b3 y.hi.length b4, .bool y.isOpen]]) (by simp only [List.map_toArray, List.map_cons, List.map_nil, e1, e2]) ((sCovers_any w' (hxq.below hb) (hyq.below hb)).mono ?_)
          rintro e w2 ⟨rfl, hb2⟩
          exact ⟨_, rfl, _, rfl, congrArg Value.bool h_cv, hb2⟩
        case o18 =>
          refine GdOp.taken rfl ⟨_, _, rfl, rfl, by simp⟩ (by kernel_rfl) (fun w v h => h) (fun A vs w' hF hT hb hd => ?_)
          have e1 : A.eval (.tmp 72) = .bool false := (hT 72 17 (by simp) rfl).trans (hd ⟨17, .data⟩ (by simp) rfl)
          exact wp_notB rfl e1 ⟨_, rfl, rfl, Below.refl _ _⟩
        case o19 =>
          refine GdOp.taken rfl ⟨_, _, rfl, rfl, by simp⟩ (by kernel_rfl) (fun w v h => h) (fun A vs w' hF hT hb hd => ?_)
          have e1 : A.eval (.tmp 73) = .bool true := (hT 73 18 (by simp) rfl).trans (hd ⟨18, .data⟩ (by simp) rfl)
          exact BigFrame.wp_move _ rfl ⟨_, rfl, e1, Below.refl _ _⟩
        case o20 =>
          exact GdOp.left rfl ⟨_, _, rfl, rfl, by simp⟩ (by kernel_rfl) (fun w v h => .inl h) (fun w => rfl)
        case o21 =>
          exact GdOp.left rfl ⟨_, _, rfl, rfl, by simp⟩ (by kernel_rfl) (fun w v h => .inl h) (fun w => rfl)
        case o22 =>
          refine GdOp.taken rfl ⟨_, _, rfl, rfl, by simp⟩ (by kernel_rfl) (fun w v h => h) (fun A vs w' hF hT hb hd => ?_)
          have e1 : A.eval (.tmp 74) = .bool true := (hT 74 19 (by simp) rfl).trans (hd ⟨19, .data⟩ (by simp) rfl)
          have e3 : A.eval (.tmp 76) = undef := (hT 76 21 (by simp) rfl).trans (hd ⟨21, .data⟩ (by simp) rfl)
          exact wp_pk rfl e1 (fun _ => rfl) (by simp) ⟨_, rfl, rfl, Below.refl _ _⟩
        case o23 =>
          refine GdOp.taken rfl ⟨_, _, rfl, rfl, by simp⟩ (by kernel_rfl) (fun w v h => h) (fun A vs w' hF hT hb hd => ?_)
          have e1 : A.eval (.tmp 77) = .bool true := (hT 77 22 (by simp) rfl).trans (hd ⟨22, .data⟩ (by simp) rfl)
          exact BigFrame.wp_move _ rfl ⟨_, rfl, e1, Below.refl _ _⟩
        case o24 =>
          exact GdOp.left rfl ⟨_, _, rfl, rfl, by simp⟩ (by kernel_rfl) (fun w v h => .inl h) (fun w => rfl)
        case o25 =>
          refine GdOp.taken rfl ⟨_, _, rfl, rfl, by simp⟩ (by kernel_rfl) (fun w v h => h) (fun A vs w' hF hT hb hd => ?_)
          have e1 : A.eval (.tmp 78) = .bool true := (hT 78 23 (by simp) rfl).trans (hd ⟨23, .data⟩ (by simp) rfl)
          have e3 : A.eval (.tmp 79) = undef := (hT 79 24 (by simp) rfl).trans (hd ⟨24, .data⟩ (by simp) rfl)
          exact wp_pk rfl e1 (fun _ => rfl) (by simp) ⟨_, rfl, rfl, Below.refl _ _⟩
        case o26 =>
          refine GdOp.plain rfl (fun A vs w' hF hT hb hd => ?_)
          have e1 : A.eval (.tmp 69) = .bool true := (hT 69 14 (by simp) rfl).trans (hd ⟨14, .data⟩ (by simp) rfl)
          have e2 : A.eval (.tmp 80) = .bool true := (hT 80 25 (by simp) rfl).trans (hd ⟨25, .data⟩ (by simp) rfl)
          exact wp_pk rfl e1 (fun _ => e2) (by simp) ⟨_, rfl, rfl, Below.refl _ _⟩
        case o27 =>
          refine GdOp.plain rfl (fun A vs w' hF hT hb hd => ?_)
          have e1 : A.eval (.tmp 81) = .bool true := (hT 81 26 (by simp) rfl).trans (hd ⟨26, .data⟩ (by simp) rfl)
          exact BigFrame.wp_move _ rfl ⟨_, rfl, e1, Below.refl _ _⟩
        case o28 =>
          refine GdOp.taken rfl ⟨_, _, rfl, rfl, by simp⟩ (by kernel_rfl) (fun w v h => h) (fun A vs w' hF hT hb hd => ?_)
          have e1 : A.eval (.tmp 5) = .pointer (some ⟨w.heap.size, 0, none⟩) := hF 5 rfl
          exact wp_load4 spS rfl e1 ((Bx.below hb Bx.lt).cell (i := 0) rfl) ((Bx.below hb Bx.lt).cell (i := 1) rfl) ((Bx.below hb Bx.lt).cell (i := 2) rfl) ((Bx.below hb Bx.lt).cell (i := 3) rfl) ⟨_, rfl, rfl, Below.refl _ _⟩
        case o29 =>
          refine GdOp.taken rfl ⟨_, _, rfl, rfl, by simp⟩ (by kernel_rfl) (fun w v h => h) (fun A vs w' hF hT hb hd => ?_)
          have e1 : A.eval (.tmp 83) = .agg #[.int .i64 x.table, .slice a1 x.lo.length a2, .slice a3 x.hi.length a4, .bool x.isOpen] := (hT 83 28 (by simp) rfl).trans (hd ⟨28, .data⟩ (by simp) rfl)
          refine wp_callFn rfl eE (args := #[.agg #[.int .i64 x.table, .slice a1 x.lo.length a2, .slice a3 x.hi.length a4, .bool x.isOpen]]) (by simp only [List.map_toArray, List.map_cons, List.map_nil, e1]) ((sEmpty_any w' (hxq.below hb)).mono ?_)
          rintro e w2 ⟨rfl, hb2⟩
          exact ⟨_, rfl, _, rfl, congrArg Value.bool h_em, hb2⟩
        case o30 =>
          refine GdOp.taken rfl ⟨_, _, rfl, rfl, by simp⟩ (by kernel_rfl) (fun w v h => h) (fun A vs w' hF hT hb hd => ?_)
          have e1 : A.eval (.tmp 84) = .bool false := (hT 84 29 (by simp) rfl).trans (hd ⟨29, .data⟩ (by simp) rfl)
          exact wp_notB rfl e1 ⟨_, rfl, rfl, Below.refl _ _⟩
        case o31 =>
          refine GdOp.taken rfl ⟨_, _, rfl, rfl, by simp⟩ (by kernel_rfl) (fun w v h => h) (fun A vs w' hF hT hb hd => ?_)
          have e1 : A.eval (.tmp 85) = .bool true := (hT 85 30 (by simp) rfl).trans (hd ⟨30, .data⟩ (by simp) rfl)
          exact BigFrame.wp_move _ rfl ⟨_, rfl, e1, Below.refl _ _⟩
        case o32 =>
          exact GdOp.left rfl ⟨_, _, rfl, rfl, by simp⟩ (by kernel_rfl) (fun w v h => .inl h) (fun w => rfl)
        case o33 =>
          exact GdOp.left rfl ⟨_, _, rfl, rfl, by simp⟩ (by kernel_rfl) (fun w v h => .inl h) (fun w => rfl)
        case o34 =>
          refine GdOp.taken rfl ⟨_, _, rfl, rfl, by simp⟩ (by kernel_rfl) (fun w v h => h) (fun A vs w' hF hT hb hd => ?_)
          have e1 : A.eval (.tmp 86) = .bool true := (hT 86 31 (by simp) rfl).trans (hd ⟨31, .data⟩ (by simp) rfl)
          have e3 : A.eval (.tmp 88) = undef := (hT 88 33 (by simp) rfl).trans (hd ⟨33, .data⟩ (by simp) rfl)
          exact wp_pk rfl e1 (fun _ => rfl) (by simp) ⟨_, rfl, rfl, Below.refl _ _⟩
        case o35 =>
          refine GdOp.plain rfl (fun A vs w' hF hT hb hd => ?_)
          have e1 : A.eval (.tmp 82) = .bool true := (hT 82 27 (by simp) rfl).trans (hd ⟨27, .data⟩ (by simp) rfl)
          have e2 : A.eval (.tmp 89) = .bool true := (hT 89 34 (by simp) rfl).trans (hd ⟨34, .data⟩ (by simp) rfl)
          exact wp_pk rfl e1 (fun _ => e2) (by simp) ⟨_, rfl, rfl, Below.refl _ _⟩
        case o36 =>
          refine GdOp.plain rfl (fun A vs w' hF hT hb hd => ?_)
          have e1 : A.eval (.tmp 90) = .bool true := (hT 90 35 (by simp) rfl).trans (hd ⟨35, .data⟩ (by simp) rfl)
          exact BigFrame.wp_move _ rfl ⟨_, rfl, e1, Below.refl _ _⟩
        case o37 =>
          refine GdOp.taken rfl ⟨_, _, rfl, rfl, by simp⟩ (by kernel_rfl) (fun w v h => h) (fun A vs w' hF hT hb hd => ?_)
          have e1 : A.eval (.tmp 5) = .pointer (some ⟨w.heap.size, 0, none⟩) := hF 5 rfl
          exact wp_load4 spS rfl e1 ((Bx.below hb Bx.lt).cell (i := 0) rfl) ((Bx.below hb Bx.lt).cell (i := 1) rfl) ((Bx.below hb Bx.lt).cell (i := 2) rfl) ((Bx.below hb Bx.lt).cell (i := 3) rfl) ⟨_, rfl, rfl, Below.refl _ _⟩
        case o38 =>
          refine GdOp.taken rfl ⟨_, _, rfl, rfl, by simp⟩ (by kernel_rfl) (fun w v h => h) (fun A vs w' hF hT hb hd => ?_)
          have e1 : A.eval (.tmp 6) = .pointer (some ⟨w.heap.size + 1, 0, none⟩) := hF 6 rfl
          exact wp_load4 spS rfl e1 ((By.below hb By.lt).cell (i := 0) rfl) ((By.below hb By.lt).cell (i := 1) rfl) ((By.below hb By.lt).cell (i := 2) rfl) ((By.below hb By.lt).cell (i := 3) rfl) ⟨_, rfl, rfl, Below.refl _ _⟩
        case o39 =>
          refine GdOp.taken rfl ⟨_, _, rfl, rfl, by simp⟩ (by kernel_rfl) (fun w v h => h) (fun A vs w' hF hT hb hd => ?_)
          have e1 : A.eval (.tmp 92) = .agg #[.int .i64 x.table, .slice a1 x.lo.length a2, .slice a3 x.hi.length a4, .bool x.isOpen] := (hT 92 37 (by simp) rfl).trans (hd ⟨37, .data⟩ (by simp) rfl)
          have e2 : A.eval (.tmp 93) = .agg #[.int .i64 y.table, .slice b1 y.lo.length b2, .slice b3 y.hi.length b4, .bool y.isOpen] := (hT 93 38 (by simp) rfl).trans (hd ⟨38, .data⟩ (by simp) rfl)
          refine wp_callFn rfl eM (args := #[.agg #[.int .i64 x.table, .slice a1 x.lo.length a2, .slice a3 x.hi.length a4, .bool x.isOpen], .agg #[.int .i64 y.table, .slice b1 y.lo.length b2, .slice b3 y.hi.length b4, .bool y.isOpen]]) (by simp only [List.map_toArray, List.map_cons, List.map_nil, e1, e2]) ((sMeets_any w' (hxq.below hb) (hyq.below hb)).mono ?_)
          rintro e w2 ⟨rfl, hb2⟩
          exact ⟨_, rfl, _, rfl, rfl, hb2⟩
        case o40 =>
          refine GdOp.taken rfl ⟨_, _, rfl, rfl, by simp⟩ (by kernel_rfl) (fun w v h => h) (fun A vs w' hF hT hb hd => ?_)
          have e1 : A.eval (.tmp 6) = .pointer (some ⟨w.heap.size + 1, 0, none⟩) := hF 6 rfl
          exact wp_load4 spS rfl e1 ((By.below hb By.lt).cell (i := 0) rfl) ((By.below hb By.lt).cell (i := 1) rfl) ((By.below hb By.lt).cell (i := 2) rfl) ((By.below hb By.lt).cell (i := 3) rfl) ⟨_, rfl, rfl, Below.refl _ _⟩
        case o41 =>
          refine GdOp.taken rfl ⟨_, _, rfl, rfl, by simp⟩ (by kernel_rfl) (fun w v h => h) (fun A vs w' hF hT hb hd => ?_)
          have e1 : A.eval (.tmp 5) = .pointer (some ⟨w.heap.size, 0, none⟩) := hF 5 rfl
          exact wp_load4 spS rfl e1 ((Bx.below hb Bx.lt).cell (i := 0) rfl) ((Bx.below hb Bx.lt).cell (i := 1) rfl) ((Bx.below hb Bx.lt).cell (i := 2) rfl) ((Bx.below hb Bx.lt).cell (i := 3) rfl) ⟨_, rfl, rfl, Below.refl _ _⟩
        case o42 =>
          refine GdOp.taken rfl ⟨_, _, rfl, rfl, by simp⟩ (by kernel_rfl) (fun w v h => h) (fun A vs w' hF hT hb hd => ?_)
          have e1 : A.eval (.tmp 95) = .agg #[.int .i64 y.table, .slice b1 y.lo.length b2, .slice b3 y.hi.length b4, .bool y.isOpen] := (hT 95 40 (by simp) rfl).trans (hd ⟨40, .data⟩ (by simp) rfl)
          have e2 : A.eval (.tmp 96) = .agg #[.int .i64 x.table, .slice a1 x.lo.length a2, .slice a3 x.hi.length a4, .bool x.isOpen] := (hT 96 41 (by simp) rfl).trans (hd ⟨41, .data⟩ (by simp) rfl)
          refine wp_callFn rfl eM (args := #[.agg #[.int .i64 y.table, .slice b1 y.lo.length b2, .slice b3 y.hi.length b4, .bool y.isOpen], .agg #[.int .i64 x.table, .slice a1 x.lo.length a2, .slice a3 x.hi.length a4, .bool x.isOpen]]) (by simp only [List.map_toArray, List.map_cons, List.map_nil, e1, e2]) ((sMeets_any w' (hyq.below hb) (hxq.below hb)).mono ?_)
          rintro e w2 ⟨rfl, hb2⟩
          exact ⟨_, rfl, _, rfl, rfl, hb2⟩
        case o43 =>
          refine GdOp.taken rfl ⟨_, _, rfl, rfl, by simp⟩ (by kernel_rfl) (fun w v h => h) (fun A vs w' hF hT hb hd => ?_)
          have e1 : A.eval (.tmp 94) = .bool (meetsS x y) := (hT 94 39 (by simp) rfl).trans (hd ⟨39, .data⟩ (by simp) rfl)
          have e2 : A.eval (.tmp 97) = .bool (meetsS y x) := (hT 97 42 (by simp) rfl).trans (hd ⟨42, .data⟩ (by simp) rfl)
          exact wp_eqlB (by kernel_rfl) rfl e1 e2 ⟨_, rfl, (congrArg Value.bool (by rw [meets_comm y x, beq_self_eq_true])), Below.refl _ _⟩
        case o44 =>
          refine GdOp.plain rfl (fun A vs w' hF hT hb hd => ?_)
          have e1 : A.eval (.tmp 91) = .bool true := (hT 91 36 (by simp) rfl).trans (hd ⟨36, .data⟩ (by simp) rfl)
          have e2 : A.eval (.tmp 98) = .bool true := (hT 98 43 (by simp) rfl).trans (hd ⟨43, .data⟩ (by simp) rfl)
          exact wp_pk rfl e1 (fun _ => e2) (by simp) ⟨_, rfl, rfl, Below.refl _ _⟩
        case o45 =>
          refine GdOp.plain rfl (fun A vs w' hF hT hb hd => ?_)
          have e1 : A.eval (.tmp 99) = .bool true := (hT 99 44 (by simp) rfl).trans (hd ⟨44, .data⟩ (by simp) rfl)
          exact BigFrame.wp_move _ rfl ⟨_, rfl, e1, Below.refl _ _⟩
        case o46 =>
          refine GdOp.taken rfl ⟨_, _, rfl, rfl, by simp⟩ (by kernel_rfl) (fun w v h => h) (fun A vs w' hF hT hb hd => ?_)
          have e1 : A.eval (.tmp 5) = .pointer (some ⟨w.heap.size, 0, none⟩) := hF 5 rfl
          exact wp_load4 spS rfl e1 ((Bx.below hb Bx.lt).cell (i := 0) rfl) ((Bx.below hb Bx.lt).cell (i := 1) rfl) ((Bx.below hb Bx.lt).cell (i := 2) rfl) ((Bx.below hb Bx.lt).cell (i := 3) rfl) ⟨_, rfl, rfl, Below.refl _ _⟩
        case o47 =>
          refine GdOp.taken rfl ⟨_, _, rfl, rfl, by simp⟩ (by kernel_rfl) (fun w v h => h) (fun A vs w' hF hT hb hd => ?_)
          have e1 : A.eval (.tmp 5) = .pointer (some ⟨w.heap.size, 0, none⟩) := hF 5 rfl
          exact wp_load4 spS rfl e1 ((Bx.below hb Bx.lt).cell (i := 0) rfl) ((Bx.below hb Bx.lt).cell (i := 1) rfl) ((Bx.below hb Bx.lt).cell (i := 2) rfl) ((Bx.below hb Bx.lt).cell (i := 3) rfl) ⟨_, rfl, rfl, Below.refl _ _⟩
        case o48 =>
          refine GdOp.taken rfl ⟨_, _, rfl, rfl, by simp⟩ (by kernel_rfl) (fun w v h => h) (fun A vs w' hF hT hb hd => ?_)
          have e1 : A.eval (.tmp 101) = .agg #[.int .i64 x.table, .slice a1 x.lo.length a2, .slice a3 x.hi.length a4, .bool x.isOpen] := (hT 101 46 (by simp) rfl).trans (hd ⟨46, .data⟩ (by simp) rfl)
          have e2 : A.eval (.tmp 102) = .agg #[.int .i64 x.table, .slice a1 x.lo.length a2, .slice a3 x.hi.length a4, .bool x.isOpen] := (hT 102 47 (by simp) rfl).trans (hd ⟨47, .data⟩ (by simp) rfl)
          refine wp_callFn rfl eV (args := #[.agg #[.int .i64 x.table, .slice a1 x.lo.length a2, .slice a3 x.hi.length a4, .bool x.isOpen], .agg #[.int .i64 x.table, .slice a1 x.lo.length a2, .slice a3 x.hi.length a4, .bool x.isOpen]]) (by simp only [List.map_toArray, List.map_cons, List.map_nil, e1, e2]) ((sCovers_any w' (hxq.below hb) (hxq.below hb)).mono ?_)
          rintro e w2 ⟨rfl, hb2⟩
          exact ⟨_, rfl, _, rfl, congrArg Value.bool (covers_self x), hb2⟩
        case o49 =>
          refine GdOp.plain rfl (fun A vs w' hF hT hb hd => ?_)
          have e1 : A.eval (.tmp 100) = .bool true := (hT 100 45 (by simp) rfl).trans (hd ⟨45, .data⟩ (by simp) rfl)
          have e2 : A.eval (.tmp 103) = .bool true := (hT 103 48 (by simp) rfl).trans (hd ⟨48, .data⟩ (by simp) rfl)
          exact wp_pk rfl e1 (fun _ => e2) (by simp) ⟨_, rfl, rfl, Below.refl _ _⟩
        case o50 =>
          refine GdOp.plain rfl (fun A vs w' hF hT hb hd => ?_)
          have e1 : A.eval (.tmp 104) = .bool true := (hT 104 49 (by simp) rfl).trans (hd ⟨49, .data⟩ (by simp) rfl)
          exact BigFrame.wp_move _ rfl ⟨_, rfl, e1, Below.refl _ _⟩
        case o51 =>
          refine GdOp.taken rfl ⟨_, _, rfl, rfl, by simp⟩ (by kernel_rfl) (fun w v h => h) (fun A vs w' hF hT hb hd => ?_)
          have e1 : A.eval (.tmp 14) = .bool true := hF 14 rfl
          exact BigFrame.wp_move _ rfl ⟨_, rfl, e1, Below.refl _ _⟩
        case o52 =>
          refine GdOp.plain rfl (fun A vs w' hF hT hb hd => ?_)
          have e1 : A.eval (.tmp 105) = .bool true := (hT 105 50 (by simp) rfl).trans (hd ⟨50, .data⟩ (by simp) rfl)
          have e2 : A.eval (.tmp 106) = .bool true := (hT 106 51 (by simp) rfl).trans (hd ⟨51, .data⟩ (by simp) rfl)
          exact wp_pk rfl e1 (fun _ => e2) (by simp) ⟨_, rfl, rfl, Below.refl _ _⟩
        case o53 =>
          refine GdOp.plain rfl (fun A vs w' hF hT hb hd => ?_)
          have e1 : A.eval (.tmp 107) = .bool true := (hT 107 52 (by simp) rfl).trans (hd ⟨52, .data⟩ (by simp) rfl)
          exact BigFrame.wp_assign _ rfl ⟨_, rfl, e1, Below.refl _ _⟩
        case fin =>
          intro A vs w' hA hb hG
          have e6 : A.eval (.tmp 10) = .bool true := (hA.2.2.2 10 53 (by simp) rfl).trans (hG 53 (by decide))
          have hdf : A.defers = [] := hA.1
          clear hG hA
          go_wp2
          refine bodyPost_ret (v := .bool true) ?_ hdf ⟨rfl, q.trans (hb.mono q.size)⟩
          rw [← e6]
          exact results_tmp rfl _ _ _
end Go.Proofs.Ytcopdnigfnmnkaa
