/-
  TEXTS OF ONE PROOF, merged: LkA, LkD, LkE, LkF.
-/
import Derived.Test.YtpdnehgboafgpaaDoorKt4
namespace Go.Proofs.YtpdnehgboafgpaaDoor
open Go.RowKit Go.Shelf
theorem TabAt.below {w w' : World} (h : TabAt w) (hb : Below w.heap.size w w') : TabAt w' := fun a b ha hb2 => by
  have hc := h a b ha hb2
  rw [cell_keep (hb.block _ (cell_lt hc))]
  exact hc
theorem may_kn {a : Int} (h : 0 < mayM a) : kn a = true := by
  cases h1 : kn a with
  | true => rfl
  | false => rw [may_none h1] at h; omega
theorem may_pos {a : Int} (h : kn a = true) : 0 < mayM a := by
  rcases md_cases a with rfl | rfl | rfl | rfl | rfl | h1
  case inr.inr.inr.inr.inr => rw [h1] at h; cases h
  all_goals decide
set_option maxRecDepth 100000 in
set_option maxHeartbeats 4000000 in
theorem owns_any (w : World) {S S2 : Nat → Prop} {u v : Value} {x y : Lk} (hx : RdLk S w u x) (hy : RdLk S2 w v y) :
    Calls Tryd.prog 43 #[u, v] w fun e w' => e = .returned (.bool (ownsL x y)) ∧ Below w.heap.size w w' := by
  obtain ⟨a1, a2, a3, a4, rfl, hlx, hhx, hwx⟩ := hx
  have m1x : x.span.lo.length ≤ 9223372036854775807 := by have := hlx.len; unfold maxLen at this; omega
  have m2x : x.span.hi.length ≤ 9223372036854775807 := by have := hhx.len; unfold maxLen at this; omega
  obtain ⟨b1, b2, b3, b4, rfl, hly, hhy, hwy⟩ := hy
  have m1y : y.span.lo.length ≤ 9223372036854775807 := by have := hly.len; unfold maxLen at this; omega
  have m2y : y.span.hi.length ≤ 9223372036854775807 := by have := hhy.len; unfold maxLen at this; omega
  obtain ⟨W, hW, q, Bx, By, hsz⟩ := spBoxes2 w 59 29 [.int .i64 x.owner, .bool x.whole, .int .i64 x.span.table, .slice a1 x.span.lo.length a2, .slice a3 x.span.hi.length a4, .bool x.span.isOpen, .int .i64 x.mode] [.int .i64 y.owner, .bool y.whole, .int .i64 y.span.table, .slice b1 y.span.lo.length b2, .slice b3 y.span.hi.length b4, .bool y.span.isOpen, .int .i64 y.mode]
  clear hsz
  go_enter Tryd.func43, Tryd.ntmps43
  go_upto_region 1 with (fail)
  rw [show (w.alloc (.cells #[.int .i64 x.owner, .bool x.whole, .int .i64 x.span.table, .slice a1 x.span.lo.length a2, .slice a3 x.span.hi.length a4, .bool x.span.isOpen, .int .i64 x.mode] 59)).alloc (.cells #[.int .i64 y.owner, .bool y.whole, .int .i64 y.span.table, .slice b1 y.span.lo.length b2, .slice b3 y.span.hi.length b4, .bool y.span.isOpen, .int .i64 y.mode] 29) = W from hW.symm]
  clear hW
  have rxx := hlx.below q
  have ryx := hhx.below q
  clear hlx hhx
  have rxy := hly.below q
  have ryy := hhy.below q
  clear hly hhy
  have cx0 := Bx.cell (i := 0) rfl
  have cx1 := Bx.cell (i := 1) rfl
  have cx2 := Bx.cell (i := 2) rfl
  have cx3 := Bx.cell (i := 3) rfl
  have cx4 := Bx.cell (i := 4) rfl
  have cx5 := Bx.cell (i := 5) rfl
  have cx6 := Bx.cell (i := 6) rfl
  have cy0 := By.cell (i := 0) rfl
  have cy1 := By.cell (i := 1) rfl
  have cy2 := By.cell (i := 2) rfl
  have cy3 := By.cell (i := 3) rfl
  have cy4 := By.cell (i := 4) rfl
  have cy5 := By.cell (i := 5) rfl
  have cy6 := By.cell (i := 6) rfl
  by_cases h_ow : y.owner = x.owner
  · have daow : (y.owner == x.owner) = true := beq_iff_eq.2 h_ow
    have dbow : decide (y.owner = x.owner) = true := decide_eq_true h_ow
    have dcow : (y.owner = x.owner) = True := eq_true h_ow
    have ddow : (y.owner != x.owner) = false := by rw [bne_eq_false_iff_eq]; exact h_ow
    replace h_ow := Lib.hid h_ow
    replace h_ow := h_ow.out
    have H := Lib.hid (show (ownsL x y) = true from by unfold ownsL; simp [h_ow])
    clear h_ow
    go_wp2_with fail
    go_ret
    exact ⟨by first | (rw [H.out]; done) | (rw [H.out]; rfl), q⟩
  · have daow : (y.owner == x.owner) = false := beq_eq_false_iff_ne.2 h_ow
    have dbow : decide (y.owner = x.owner) = false := decide_eq_false h_ow
    have dcow : (y.owner = x.owner) = False := eq_false h_ow
    have ddow : (y.owner != x.owner) = true := bne_iff_ne.2 h_ow
    replace h_ow := Lib.hid h_ow
    replace h_ow := h_ow.out
    have H := Lib.hid (show (ownsL x y) = false from by unfold ownsL; simp [h_ow])
    clear h_ow
    go_wp2_with fail
    go_ret
    exact ⟨by first | (rw [H.out]; done) | (rw [H.out]; rfl), q⟩
set_option maxRecDepth 100000 in
set_option maxHeartbeats 4000000 in
theorem clash_any (w : World) (hT : TabAt w) {S S2 : Nat → Prop} {u v : Value} {x y : Lk} (hx : RdLk S w u x) (hy : RdLk S2 w v y) :
    Calls Tryd.prog 16 #[u, v] w fun e w' => e = .returned (.bool (clashL x y)) ∧ Below w.heap.size w w' := by
  obtain ⟨a1, a2, a3, a4, rfl, hlx, hhx, hwx⟩ := hx
  have m1x : x.span.lo.length ≤ 9223372036854775807 := by have := hlx.len; unfold maxLen at this; omega
  have m2x : x.span.hi.length ≤ 9223372036854775807 := by have := hhx.len; unfold maxLen at this; omega
  obtain ⟨b1, b2, b3, b4, rfl, hly, hhy, hwy⟩ := hy
  have m1y : y.span.lo.length ≤ 9223372036854775807 := by have := hly.len; unfold maxLen at this; omega
  have m2y : y.span.hi.length ≤ 9223372036854775807 := by have := hhy.len; unfold maxLen at this; omega
  obtain ⟨W, hW, q, Bx, By, hsz⟩ := spBoxes2 w 29 29 [.int .i64 x.owner, .bool x.whole, .int .i64 x.span.table, .slice a1 x.span.lo.length a2, .slice a3 x.span.hi.length a4, .bool x.span.isOpen, .int .i64 x.mode] [.int .i64 y.owner, .bool y.whole, .int .i64 y.span.table, .slice b1 y.span.lo.length b2, .slice b3 y.span.hi.length b4, .bool y.span.isOpen, .int .i64 y.mode]
  clear hsz
  go_enter Tryd.func16, Tryd.ntmps16
  go_upto_region 1 with (fail)
  rw [show (w.alloc (.cells #[.int .i64 x.owner, .bool x.whole, .int .i64 x.span.table, .slice a1 x.span.lo.length a2, .slice a3 x.span.hi.length a4, .bool x.span.isOpen, .int .i64 x.mode] 29)).alloc (.cells #[.int .i64 y.owner, .bool y.whole, .int .i64 y.span.table, .slice b1 y.span.lo.length b2, .slice b3 y.span.hi.length b4, .bool y.span.isOpen, .int .i64 y.mode] 29) = W from hW.symm]
  clear hW
  have rxx := hlx.below q
  have ryx := hhx.below q
  clear hlx hhx
  have rxy := hly.below q
  have ryy := hhy.below q
  clear hly hhy
  replace hT := hT.below q
  have cx0 := Bx.cell (i := 0) rfl
  have cx1 := Bx.cell (i := 1) rfl
  have cx2 := Bx.cell (i := 2) rfl
  have cx3 := Bx.cell (i := 3) rfl
  have cx4 := Bx.cell (i := 4) rfl
  have cx5 := Bx.cell (i := 5) rfl
  have cx6 := Bx.cell (i := 6) rfl
  have cy0 := By.cell (i := 0) rfl
  have cy1 := By.cell (i := 1) rfl
  have cy2 := By.cell (i := 2) rfl
  have cy3 := By.cell (i := 3) rfl
  have cy4 := By.cell (i := 4) rfl
  have cy5 := By.cell (i := 5) rfl
  have cy6 := By.cell (i := 6) rfl
  by_cases h_ow : x.owner = y.owner
  · have daow : (x.owner == y.owner) = true := beq_iff_eq.2 h_ow
    have dbow : decide (x.owner = y.owner) = true := decide_eq_true h_ow
    have dcow : (x.owner = y.owner) = True := eq_true h_ow
    have ddow : (x.owner != y.owner) = false := by rw [bne_eq_false_iff_eq]; exact h_ow
    replace h_ow := Lib.hid h_ow
    replace h_ow := h_ow.out
    have H := Lib.hid (show (clashL x y) = false from by unfold clashL; simp [h_ow])
    clear h_ow
    go_wp2_with fail
    go_ret
    exact ⟨by first | (rw [H.out]; done) | (rw [H.out]; rfl), q⟩
  · have daow : (x.owner == y.owner) = false := beq_eq_false_iff_ne.2 h_ow
    have dbow : decide (x.owner = y.owner) = false := decide_eq_false h_ow
    have dcow : (x.owner = y.owner) = False := eq_false h_ow
    have ddow : (x.owner != y.owner) = true := bne_iff_ne.2 h_ow
    replace h_ow := Lib.hid h_ow
    by_cases h_tb : x.span.table = y.span.table
    · have datb : (x.span.table == y.span.table) = true := beq_iff_eq.2 h_tb
      have dbtb : decide (x.span.table = y.span.table) = true := decide_eq_true h_tb
      have dctb : (x.span.table = y.span.table) = True := eq_true h_tb
      have ddtb : (x.span.table != y.span.table) = false := by rw [bne_eq_false_iff_eq]; exact h_tb
      replace h_tb := Lib.hid h_tb
      cases h_wx : x.whole with
      | true =>
        rw [h_wx] at cx1
        replace h_wx := Lib.hid h_wx
        cases h_wy : y.whole with
        | true =>
          rw [h_wy] at cy1
          replace h_wy := Lib.hid h_wy
          have hcl := fits_any _ hT x.mode y.mode
          go_wp2_with fail
          refine hcl.mono ?_
          rintro e _ ⟨rfl, rfl⟩
          clear hcl
          cases h_ft : fitM x.mode y.mode with
          | true =>
            replace h_ft := Lib.hid h_ft
            replace h_ow := h_ow.out
            replace h_tb := h_tb.out
            replace h_wx := h_wx.out
            replace h_wy := h_wy.out
            replace h_ft := h_ft.out
            have H := Lib.hid (show (clashL x y) = false from by unfold clashL; simp [h_ow, h_tb, h_wx, h_wy, h_ft])
            clear h_ow h_tb h_wx h_wy h_ft
            go_wp2_with fail
            go_ret
            exact ⟨by first | (rw [H.out]; done) | (rw [H.out]; rfl), q⟩
          | false =>
            replace h_ft := Lib.hid h_ft
            replace h_ow := h_ow.out
            replace h_tb := h_tb.out
            replace h_wx := h_wx.out
            replace h_wy := h_wy.out
            replace h_ft := h_ft.out
            have H := Lib.hid (show (clashL x y) = true from by unfold clashL; simp [h_ow, h_tb, h_wx, h_wy, h_ft])
            clear h_ow h_tb h_wx h_wy h_ft
            go_wp2_with fail
            go_ret
            exact ⟨by first | (rw [H.out]; done) | (rw [H.out]; rfl), q⟩
        | false =>
          rw [h_wy] at cy1
          replace h_wy := Lib.hid h_wy
          replace h_ow := h_ow.out
          replace h_tb := h_tb.out
          replace h_wx := h_wx.out
          replace h_wy := h_wy.out
          have H := Lib.hid (show (clashL x y) = false from by unfold clashL; simp [h_ow, h_tb, h_wx, h_wy])
          clear h_ow h_tb h_wx h_wy
          go_wp2_with fail
          go_ret
          exact ⟨by first | (rw [H.out]; done) | (rw [H.out]; rfl), q⟩
      | false =>
        rw [h_wx] at cx1
        replace h_wx := Lib.hid h_wx
        cases h_wy : y.whole with
        | true =>
          rw [h_wy] at cy1
          replace h_wy := Lib.hid h_wy
          replace h_ow := h_ow.out
          replace h_tb := h_tb.out
          replace h_wx := h_wx.out
          replace h_wy := h_wy.out
          have H := Lib.hid (show (clashL x y) = false from by unfold clashL; simp [h_ow, h_tb, h_wx, h_wy])
          clear h_ow h_tb h_wx h_wy
          go_wp2_with fail
          go_ret
          exact ⟨by first | (rw [H.out]; done) | (rw [H.out]; rfl), q⟩
        | false =>
          rw [h_wy] at cy1
          replace h_wy := Lib.hid h_wy
          have hcl := sMeets_any _ (RdLk.sp (show RdLk _ _ (.agg #[.int .i64 x.owner, .bool x.whole, .int .i64 x.span.table, .slice a1 x.span.lo.length a2, .slice a3 x.span.hi.length a4, .bool x.span.isOpen, .int .i64 x.mode]) x from ⟨_, _, _, _, rfl, rxx, ryx, hwx⟩)) (RdLk.sp (show RdLk _ _ (.agg #[.int .i64 y.owner, .bool y.whole, .int .i64 y.span.table, .slice b1 y.span.lo.length b2, .slice b3 y.span.hi.length b4, .bool y.span.isOpen, .int .i64 y.mode]) y from ⟨_, _, _, _, rfl, rxy, ryy, hwy⟩))
          go_wp2_with fail
          refine hcl.mono ?_
          rintro e w1 ⟨rfl, hb⟩
          clear hcl
          clear cx0 cx1 cx2 cx3 cx4 cx5 cx6 cy0 cy1 cy2 cy3 cy4 cy5 cy6
          replace Bx := Bx.below hb Bx.lt
          replace By := By.below hb By.lt
          replace rxx := rxx.below hb
          replace ryx := ryx.below hb
          replace rxy := rxy.below hb
          replace ryy := ryy.below hb
          replace hT := hT.below hb
          replace q := q.trans (hb.mono q.size)
          clear hb
          have cx0 := Bx.cell (i := 0) rfl
          have cx1 := Bx.cell (i := 1) rfl
          have cx2 := Bx.cell (i := 2) rfl
          have cx3 := Bx.cell (i := 3) rfl
          have cx4 := Bx.cell (i := 4) rfl
          have cx5 := Bx.cell (i := 5) rfl
          have cx6 := Bx.cell (i := 6) rfl
          have cy0 := By.cell (i := 0) rfl
          have cy1 := By.cell (i := 1) rfl
          have cy2 := By.cell (i := 2) rfl
          have cy3 := By.cell (i := 3) rfl
          have cy4 := By.cell (i := 4) rfl
          have cy5 := By.cell (i := 5) rfl
          have cy6 := By.cell (i := 6) rfl
          cases h_mt : meetsS x.span y.span with
          | true =>
            replace h_mt := Lib.hid h_mt
            by_cases h_m5 : x.mode = 5
            · have dam5 : (x.mode == 5) = true := beq_iff_eq.2 h_m5
              have dbm5 : decide (x.mode = 5) = true := decide_eq_true h_m5
              have dcm5 : (x.mode = 5) = True := eq_true h_m5
              have ddm5 : (x.mode != 5) = false := by rw [bne_eq_false_iff_eq]; exact h_m5
              replace h_m5 := Lib.hid h_m5
              replace h_ow := h_ow.out
              replace h_tb := h_tb.out
              replace h_wx := h_wx.out
              replace h_wy := h_wy.out
              replace h_mt := h_mt.out
              replace h_m5 := h_m5.out
              have H := Lib.hid (show (clashL x y) = true from by unfold clashL; simp [h_ow, h_tb, h_wx, h_wy, h_mt, h_m5])
              clear h_ow h_tb h_wx h_wy h_mt h_m5
              go_wp2_with fail
              go_ret
              exact ⟨by first | (rw [H.out]; done) | (rw [H.out]; rfl), q⟩
            · have dam5 : (x.mode == 5) = false := beq_eq_false_iff_ne.2 h_m5
              have dbm5 : decide (x.mode = 5) = false := decide_eq_false h_m5
              have dcm5 : (x.mode = 5) = False := eq_false h_m5
              have ddm5 : (x.mode != 5) = true := bne_iff_ne.2 h_m5
              replace h_m5 := Lib.hid h_m5
              by_cases h_n5 : y.mode = 5
              · have dan5 : (y.mode == 5) = true := beq_iff_eq.2 h_n5
                have dbn5 : decide (y.mode = 5) = true := decide_eq_true h_n5
                have dcn5 : (y.mode = 5) = True := eq_true h_n5
                have ddn5 : (y.mode != 5) = false := by rw [bne_eq_false_iff_eq]; exact h_n5
                replace h_n5 := Lib.hid h_n5
                replace h_ow := h_ow.out
                replace h_tb := h_tb.out
                replace h_wx := h_wx.out
                replace h_wy := h_wy.out
                replace h_mt := h_mt.out
                replace h_m5 := h_m5.out
                replace h_n5 := h_n5.out
                have H := Lib.hid (show (clashL x y) = true from by unfold clashL; simp [h_ow, h_tb, h_wx, h_wy, h_mt, h_n5])
                clear h_ow h_tb h_wx h_wy h_mt h_m5 h_n5
                go_wp2_with fail
                go_ret
                exact ⟨by first | (rw [H.out]; done) | (rw [H.out]; rfl), q⟩
              · have dan5 : (y.mode == 5) = false := beq_eq_false_iff_ne.2 h_n5
                have dbn5 : decide (y.mode = 5) = false := decide_eq_false h_n5
                have dcn5 : (y.mode = 5) = False := eq_false h_n5
                have ddn5 : (y.mode != 5) = true := bne_iff_ne.2 h_n5
                replace h_n5 := Lib.hid h_n5
                replace h_ow := h_ow.out
                replace h_tb := h_tb.out
                replace h_wx := h_wx.out
                replace h_wy := h_wy.out
                replace h_mt := h_mt.out
                replace h_m5 := h_m5.out
                replace h_n5 := h_n5.out
                have H := Lib.hid (show (clashL x y) = false from by unfold clashL; simp [h_ow, h_tb, h_wx, h_wy, h_mt, h_m5, h_n5])
                clear h_ow h_tb h_wx h_wy h_mt h_m5 h_n5
                go_wp2_with fail
                go_ret
                exact ⟨by first | (rw [H.out]; done) | (rw [H.out]; rfl), q⟩
          | false =>
            replace h_mt := Lib.hid h_mt
            replace h_ow := h_ow.out
            replace h_tb := h_tb.out
            replace h_wx := h_wx.out
            replace h_wy := h_wy.out
            replace h_mt := h_mt.out
            have H := Lib.hid (show (clashL x y) = false from by unfold clashL; simp [h_ow, h_tb, h_wx, h_wy, h_mt])
            clear h_ow h_tb h_wx h_wy h_mt
            go_wp2_with fail
            go_ret
            exact ⟨by first | (rw [H.out]; done) | (rw [H.out]; rfl), q⟩
    · have datb : (x.span.table == y.span.table) = false := beq_eq_false_iff_ne.2 h_tb
      have dbtb : decide (x.span.table = y.span.table) = false := decide_eq_false h_tb
      have dctb : (x.span.table = y.span.table) = False := eq_false h_tb
      have ddtb : (x.span.table != y.span.table) = true := bne_iff_ne.2 h_tb
      replace h_tb := Lib.hid h_tb
      replace h_ow := h_ow.out
      replace h_tb := h_tb.out
      have H := Lib.hid (show (clashL x y) = false from by unfold clashL; simp [h_ow, h_tb])
      clear h_ow h_tb
      go_wp2_with fail
      go_ret
      exact ⟨by first | (rw [H.out]; done) | (rw [H.out]; rfl), q⟩
set_option maxRecDepth 100000 in
set_option maxHeartbeats 4000000 in
theorem rClash_any (w : World) {S S2 : Nat → Prop} {u v : Value} {x y : Lk} (hx : RdLk S w u x) (hy : RdLk S2 w v y) :
    Calls Tryd.prog 17 #[u, v] w fun e w' => e = .returned (.bool (clashL x y)) ∧ Below w.heap.size w w' := by
  obtain ⟨a1, a2, a3, a4, rfl, hlx, hhx, hwx⟩ := hx
  have m1x : x.span.lo.length ≤ 9223372036854775807 := by have := hlx.len; unfold maxLen at this; omega
  have m2x : x.span.hi.length ≤ 9223372036854775807 := by have := hhx.len; unfold maxLen at this; omega
  obtain ⟨b1, b2, b3, b4, rfl, hly, hhy, hwy⟩ := hy
  have m1y : y.span.lo.length ≤ 9223372036854775807 := by have := hly.len; unfold maxLen at this; omega
  have m2y : y.span.hi.length ≤ 9223372036854775807 := by have := hhy.len; unfold maxLen at this; omega
  obtain ⟨W, hW, q, Bx, By, hsz⟩ := spBoxes2 w 29 29 [.int .i64 x.owner, .bool x.whole, .int .i64 x.span.table, .slice a1 x.span.lo.length a2, .slice a3 x.span.hi.length a4, .bool x.span.isOpen, .int .i64 x.mode] [.int .i64 y.owner, .bool y.whole, .int .i64 y.span.table, .slice b1 y.span.lo.length b2, .slice b3 y.span.hi.length b4, .bool y.span.isOpen, .int .i64 y.mode]
  clear hsz
  go_enter Tryd.func17, Tryd.ntmps17
  go_upto_region 1 with (fail)
  rw [show (w.alloc (.cells #[.int .i64 x.owner, .bool x.whole, .int .i64 x.span.table, .slice a1 x.span.lo.length a2, .slice a3 x.span.hi.length a4, .bool x.span.isOpen, .int .i64 x.mode] 29)).alloc (.cells #[.int .i64 y.owner, .bool y.whole, .int .i64 y.span.table, .slice b1 y.span.lo.length b2, .slice b3 y.span.hi.length b4, .bool y.span.isOpen, .int .i64 y.mode] 29) = W from hW.symm]
  clear hW
  have rxx := hlx.below q
  have ryx := hhx.below q
  clear hlx hhx
  have rxy := hly.below q
  have ryy := hhy.below q
  clear hly hhy
  have cx0 := Bx.cell (i := 0) rfl
  have cx1 := Bx.cell (i := 1) rfl
  have cx2 := Bx.cell (i := 2) rfl
  have cx3 := Bx.cell (i := 3) rfl
  have cx4 := Bx.cell (i := 4) rfl
  have cx5 := Bx.cell (i := 5) rfl
  have cx6 := Bx.cell (i := 6) rfl
  have cy0 := By.cell (i := 0) rfl
  have cy1 := By.cell (i := 1) rfl
  have cy2 := By.cell (i := 2) rfl
  have cy3 := By.cell (i := 3) rfl
  have cy4 := By.cell (i := 4) rfl
  have cy5 := By.cell (i := 5) rfl
  have cy6 := By.cell (i := 6) rfl
  by_cases h_ow : x.owner = y.owner
  · have daow : (x.owner == y.owner) = true := beq_iff_eq.2 h_ow
    have dbow : decide (x.owner = y.owner) = true := decide_eq_true h_ow
    have dcow : (x.owner = y.owner) = True := eq_true h_ow
    have ddow : (x.owner != y.owner) = false := by rw [bne_eq_false_iff_eq]; exact h_ow
    replace h_ow := Lib.hid h_ow
    replace h_ow := h_ow.out
    have H := Lib.hid (show (clashL x y) = false from by unfold clashL; simp [h_ow])
    clear h_ow
    go_wp2_with fail
    go_ret
    exact ⟨by first | (rw [H.out]; done) | (rw [H.out]; rfl), q⟩
  · have daow : (x.owner == y.owner) = false := beq_eq_false_iff_ne.2 h_ow
    have dbow : decide (x.owner = y.owner) = false := decide_eq_false h_ow
    have dcow : (x.owner = y.owner) = False := eq_false h_ow
    have ddow : (x.owner != y.owner) = true := bne_iff_ne.2 h_ow
    replace h_ow := Lib.hid h_ow
    by_cases h_tb : x.span.table = y.span.table
    · have datb : (x.span.table == y.span.table) = true := beq_iff_eq.2 h_tb
      have dbtb : decide (x.span.table = y.span.table) = true := decide_eq_true h_tb
      have dctb : (x.span.table = y.span.table) = True := eq_true h_tb
      have ddtb : (x.span.table != y.span.table) = false := by rw [bne_eq_false_iff_eq]; exact h_tb
      replace h_tb := Lib.hid h_tb
      cases h_wx : x.whole with
      | true =>
        rw [h_wx] at cx1
        replace h_wx := Lib.hid h_wx
        cases h_wy : y.whole with
        | true =>
          rw [h_wy] at cy1
          replace h_wy := Lib.hid h_wy
          have hcl := refFits_any W x.mode y.mode
          go_wp2_with fail
          refine hcl.mono ?_
          rintro e _ ⟨rfl, rfl⟩
          clear hcl
          cases h_ft : fitM x.mode y.mode with
          | true =>
            replace h_ft := Lib.hid h_ft
            replace h_ow := h_ow.out
            replace h_tb := h_tb.out
            replace h_wx := h_wx.out
            replace h_wy := h_wy.out
            replace h_ft := h_ft.out
            have H := Lib.hid (show (clashL x y) = false from by unfold clashL; simp [h_ow, h_tb, h_wx, h_wy, h_ft])
            clear h_ow h_tb h_wx h_wy h_ft
            go_wp2_with fail
            go_ret
            exact ⟨by first | (rw [H.out]; done) | (rw [H.out]; rfl), q⟩
          | false =>
            replace h_ft := Lib.hid h_ft
            replace h_ow := h_ow.out
            replace h_tb := h_tb.out
            replace h_wx := h_wx.out
            replace h_wy := h_wy.out
            replace h_ft := h_ft.out
            have H := Lib.hid (show (clashL x y) = true from by unfold clashL; simp [h_ow, h_tb, h_wx, h_wy, h_ft])
            clear h_ow h_tb h_wx h_wy h_ft
            go_wp2_with fail
            go_ret
            exact ⟨by first | (rw [H.out]; done) | (rw [H.out]; rfl), q⟩
        | false =>
          rw [h_wy] at cy1
          replace h_wy := Lib.hid h_wy
          replace h_ow := h_ow.out
          replace h_tb := h_tb.out
          replace h_wx := h_wx.out
          replace h_wy := h_wy.out
          have H := Lib.hid (show (clashL x y) = false from by unfold clashL; simp [h_ow, h_tb, h_wx, h_wy])
          clear h_ow h_tb h_wx h_wy
          go_wp2_with fail
          go_ret
          exact ⟨by first | (rw [H.out]; done) | (rw [H.out]; rfl), q⟩
      | false =>
        rw [h_wx] at cx1
        replace h_wx := Lib.hid h_wx
        cases h_wy : y.whole with
        | true =>
          rw [h_wy] at cy1
          replace h_wy := Lib.hid h_wy
          replace h_ow := h_ow.out
          replace h_tb := h_tb.out
          replace h_wx := h_wx.out
          replace h_wy := h_wy.out
          have H := Lib.hid (show (clashL x y) = false from by unfold clashL; simp [h_ow, h_tb, h_wx, h_wy])
          clear h_ow h_tb h_wx h_wy
          go_wp2_with fail
          go_ret
          exact ⟨by first | (rw [H.out]; done) | (rw [H.out]; rfl), q⟩
        | false =>
          rw [h_wy] at cy1
          replace h_wy := Lib.hid h_wy
          have hcl := rMeets_any _ (RdLk.sp (show RdLk _ _ (.agg #[.int .i64 x.owner, .bool x.whole, .int .i64 x.span.table, .slice a1 x.span.lo.length a2, .slice a3 x.span.hi.length a4, .bool x.span.isOpen, .int .i64 x.mode]) x from ⟨_, _, _, _, rfl, rxx, ryx, hwx⟩)) (RdLk.sp (show RdLk _ _ (.agg #[.int .i64 y.owner, .bool y.whole, .int .i64 y.span.table, .slice b1 y.span.lo.length b2, .slice b3 y.span.hi.length b4, .bool y.span.isOpen, .int .i64 y.mode]) y from ⟨_, _, _, _, rfl, rxy, ryy, hwy⟩))
          go_wp2_with fail
          refine hcl.mono ?_
          rintro e w1 ⟨rfl, hb⟩
          clear hcl
          clear cx0 cx1 cx2 cx3 cx4 cx5 cx6 cy0 cy1 cy2 cy3 cy4 cy5 cy6
          replace Bx := Bx.below hb Bx.lt
          replace By := By.below hb By.lt
          replace rxx := rxx.below hb
          replace ryx := ryx.below hb
          replace rxy := rxy.below hb
          replace ryy := ryy.below hb
          replace q := q.trans (hb.mono q.size)
          clear hb
          have cx0 := Bx.cell (i := 0) rfl
          have cx1 := Bx.cell (i := 1) rfl
          have cx2 := Bx.cell (i := 2) rfl
          have cx3 := Bx.cell (i := 3) rfl
          have cx4 := Bx.cell (i := 4) rfl
          have cx5 := Bx.cell (i := 5) rfl
          have cx6 := Bx.cell (i := 6) rfl
          have cy0 := By.cell (i := 0) rfl
          have cy1 := By.cell (i := 1) rfl
          have cy2 := By.cell (i := 2) rfl
          have cy3 := By.cell (i := 3) rfl
          have cy4 := By.cell (i := 4) rfl
          have cy5 := By.cell (i := 5) rfl
          have cy6 := By.cell (i := 6) rfl
          cases h_mt : meetsS x.span y.span with
          | true =>
            replace h_mt := Lib.hid h_mt
            by_cases h_m5 : x.mode = 5
            · have dam5 : (x.mode == 5) = true := beq_iff_eq.2 h_m5
              have dbm5 : decide (x.mode = 5) = true := decide_eq_true h_m5
              have dcm5 : (x.mode = 5) = True := eq_true h_m5
              have ddm5 : (x.mode != 5) = false := by rw [bne_eq_false_iff_eq]; exact h_m5
              replace h_m5 := Lib.hid h_m5
              replace h_ow := h_ow.out
              replace h_tb := h_tb.out
              replace h_wx := h_wx.out
              replace h_wy := h_wy.out
              replace h_mt := h_mt.out
              replace h_m5 := h_m5.out
              have H := Lib.hid (show (clashL x y) = true from by unfold clashL; simp [h_ow, h_tb, h_wx, h_wy, h_mt, h_m5])
              clear h_ow h_tb h_wx h_wy h_mt h_m5
              go_wp2_with fail
              go_ret
              exact ⟨by first | (rw [H.out]; done) | (rw [H.out]; rfl), q⟩
            · have dam5 : (x.mode == 5) = false := beq_eq_false_iff_ne.2 h_m5
              have dbm5 : decide (x.mode = 5) = false := decide_eq_false h_m5
              have dcm5 : (x.mode = 5) = False := eq_false h_m5
              have ddm5 : (x.mode != 5) = true := bne_iff_ne.2 h_m5
              replace h_m5 := Lib.hid h_m5
              by_cases h_n5 : y.mode = 5
              · have dan5 : (y.mode == 5) = true := beq_iff_eq.2 h_n5
                have dbn5 : decide (y.mode = 5) = true := decide_eq_true h_n5
                have dcn5 : (y.mode = 5) = True := eq_true h_n5
                have ddn5 : (y.mode != 5) = false := by rw [bne_eq_false_iff_eq]; exact h_n5
                replace h_n5 := Lib.hid h_n5
                replace h_ow := h_ow.out
                replace h_tb := h_tb.out
                replace h_wx := h_wx.out
                replace h_wy := h_wy.out
                replace h_mt := h_mt.out
                replace h_m5 := h_m5.out
                replace h_n5 := h_n5.out
                have H := Lib.hid (show (clashL x y) = true from by unfold clashL; simp [h_ow, h_tb, h_wx, h_wy, h_mt, h_n5])
                clear h_ow h_tb h_wx h_wy h_mt h_m5 h_n5
                go_wp2_with fail
                go_ret
                exact ⟨by first | (rw [H.out]; done) | (rw [H.out]; rfl), q⟩
              · have dan5 : (y.mode == 5) = false := beq_eq_false_iff_ne.2 h_n5
                have dbn5 : decide (y.mode = 5) = false := decide_eq_false h_n5
                have dcn5 : (y.mode = 5) = False := eq_false h_n5
                have ddn5 : (y.mode != 5) = true := bne_iff_ne.2 h_n5
                replace h_n5 := Lib.hid h_n5
                replace h_ow := h_ow.out
                replace h_tb := h_tb.out
                replace h_wx := h_wx.out
                replace h_wy := h_wy.out
                replace h_mt := h_mt.out
                replace h_m5 := h_m5.out
                replace h_n5 := h_n5.out
                have H := Lib.hid (show (clashL x y) = false from by unfold clashL; simp [h_ow, h_tb, h_wx, h_wy, h_mt, h_m5, h_n5])
                clear h_ow h_tb h_wx h_wy h_mt h_m5 h_n5
                go_wp2_with fail
                go_ret
                exact ⟨by first | (rw [H.out]; done) | (rw [H.out]; rfl), q⟩
          | false =>
            replace h_mt := Lib.hid h_mt
            replace h_ow := h_ow.out
            replace h_tb := h_tb.out
            replace h_wx := h_wx.out
            replace h_wy := h_wy.out
            replace h_mt := h_mt.out
            have H := Lib.hid (show (clashL x y) = false from by unfold clashL; simp [h_ow, h_tb, h_wx, h_wy, h_mt])
            clear h_ow h_tb h_wx h_wy h_mt
            go_wp2_with fail
            go_ret
            exact ⟨by first | (rw [H.out]; done) | (rw [H.out]; rfl), q⟩
    · have datb : (x.span.table == y.span.table) = false := beq_eq_false_iff_ne.2 h_tb
      have dbtb : decide (x.span.table = y.span.table) = false := decide_eq_false h_tb
      have dctb : (x.span.table = y.span.table) = False := eq_false h_tb
      have ddtb : (x.span.table != y.span.table) = true := bne_iff_ne.2 h_tb
      replace h_tb := Lib.hid h_tb
      replace h_ow := h_ow.out
      replace h_tb := h_tb.out
      have H := Lib.hid (show (clashL x y) = false from by unfold clashL; simp [h_ow, h_tb])
      clear h_ow h_tb
      go_wp2_with fail
      go_ret
      exact ⟨by first | (rw [H.out]; done) | (rw [H.out]; rfl), q⟩
set_option maxRecDepth 100000 in
set_option maxHeartbeats 4000000 in
theorem same_any (w : World) {S S2 : Nat → Prop} {u v : Value} {x y : Lk} (hx : RdLk S w u x) (hy : RdLk S2 w v y) :
    Calls Tryd.prog 40 #[u, v] w fun e w' => e = .returned (.bool (sameL x y)) ∧ Below w.heap.size w w' := by
  obtain ⟨a1, a2, a3, a4, rfl, hlx, hhx, hwx⟩ := hx
  have m1x : x.span.lo.length ≤ 9223372036854775807 := by have := hlx.len; unfold maxLen at this; omega
  have m2x : x.span.hi.length ≤ 9223372036854775807 := by have := hhx.len; unfold maxLen at this; omega
  obtain ⟨b1, b2, b3, b4, rfl, hly, hhy, hwy⟩ := hy
  have m1y : y.span.lo.length ≤ 9223372036854775807 := by have := hly.len; unfold maxLen at this; omega
  have m2y : y.span.hi.length ≤ 9223372036854775807 := by have := hhy.len; unfold maxLen at this; omega
  obtain ⟨W, hW, q, Bx, By, hsz⟩ := spBoxes2 w 59 29 [.int .i64 x.owner, .bool x.whole, .int .i64 x.span.table, .slice a1 x.span.lo.length a2, .slice a3 x.span.hi.length a4, .bool x.span.isOpen, .int .i64 x.mode] [.int .i64 y.owner, .bool y.whole, .int .i64 y.span.table, .slice b1 y.span.lo.length b2, .slice b3 y.span.hi.length b4, .bool y.span.isOpen, .int .i64 y.mode]
  clear hsz
  go_enter Tryd.func40, Tryd.ntmps40
  go_upto_region 1 with (fail)
  rw [show (w.alloc (.cells #[.int .i64 x.owner, .bool x.whole, .int .i64 x.span.table, .slice a1 x.span.lo.length a2, .slice a3 x.span.hi.length a4, .bool x.span.isOpen, .int .i64 x.mode] 59)).alloc (.cells #[.int .i64 y.owner, .bool y.whole, .int .i64 y.span.table, .slice b1 y.span.lo.length b2, .slice b3 y.span.hi.length b4, .bool y.span.isOpen, .int .i64 y.mode] 29) = W from hW.symm]
  clear hW
  have rxx := hlx.below q
  have ryx := hhx.below q
  clear hlx hhx
  have rxy := hly.below q
  have ryy := hhy.below q
  clear hly hhy
  have cx0 := Bx.cell (i := 0) rfl
  have cx1 := Bx.cell (i := 1) rfl
  have cx2 := Bx.cell (i := 2) rfl
  have cx3 := Bx.cell (i := 3) rfl
  have cx4 := Bx.cell (i := 4) rfl
  have cx5 := Bx.cell (i := 5) rfl
  have cx6 := Bx.cell (i := 6) rfl
  have cy0 := By.cell (i := 0) rfl
  have cy1 := By.cell (i := 1) rfl
  have cy2 := By.cell (i := 2) rfl
  have cy3 := By.cell (i := 3) rfl
  have cy4 := By.cell (i := 4) rfl
  have cy5 := By.cell (i := 5) rfl
  have cy6 := By.cell (i := 6) rfl
  have hcl := owns_any _ (show RdLk _ _ (.agg #[.int .i64 x.owner, .bool x.whole, .int .i64 x.span.table, .slice a1 x.span.lo.length a2, .slice a3 x.span.hi.length a4, .bool x.span.isOpen, .int .i64 x.mode]) x from ⟨_, _, _, _, rfl, rxx, ryx, hwx⟩) (show RdLk _ _ (.agg #[.int .i64 y.owner, .bool y.whole, .int .i64 y.span.table, .slice b1 y.span.lo.length b2, .slice b3 y.span.hi.length b4, .bool y.span.isOpen, .int .i64 y.mode]) y from ⟨_, _, _, _, rfl, rxy, ryy, hwy⟩)
  go_wp2_with fail
  refine hcl.mono ?_
  rintro e w1 ⟨rfl, hb⟩
  clear hcl
  clear cx0 cx1 cx2 cx3 cx4 cx5 cx6 cy0 cy1 cy2 cy3 cy4 cy5 cy6
  replace Bx := Bx.below hb Bx.lt
  replace By := By.below hb By.lt
  replace rxx := rxx.below hb
  replace ryx := ryx.below hb
  replace rxy := rxy.below hb
  replace ryy := ryy.below hb
  replace q := q.trans (hb.mono q.size)
  clear hb
  have cx0 := Bx.cell (i := 0) rfl
  have cx1 := Bx.cell (i := 1) rfl
  have cx2 := Bx.cell (i := 2) rfl
  have cx3 := Bx.cell (i := 3) rfl
  have cx4 := Bx.cell (i := 4) rfl
  have cx5 := Bx.cell (i := 5) rfl
  have cx6 := Bx.cell (i := 6) rfl
  have cy0 := By.cell (i := 0) rfl
  have cy1 := By.cell (i := 1) rfl
  have cy2 := By.cell (i := 2) rfl
  have cy3 := By.cell (i := 3) rfl
  have cy4 := By.cell (i := 4) rfl
  have cy5 := By.cell (i := 5) rfl
  have cy6 := By.cell (i := 6) rfl
  cases h_ow : ownsL x y with
  | true =>
    replace h_ow := Lib.hid h_ow
    cases h_wx : x.whole with
    | true =>
      rw [h_wx] at cx1
      replace h_wx := Lib.hid h_wx
      cases h_wy : y.whole with
      | true =>
        rw [h_wy] at cy1
        replace h_wy := Lib.hid h_wy
        by_cases h_tb : x.span.table = y.span.table
        · have datb : (x.span.table == y.span.table) = true := beq_iff_eq.2 h_tb
          have dbtb : decide (x.span.table = y.span.table) = true := decide_eq_true h_tb
          have dctb : (x.span.table = y.span.table) = True := eq_true h_tb
          have ddtb : (x.span.table != y.span.table) = false := by rw [bne_eq_false_iff_eq]; exact h_tb
          replace h_tb := Lib.hid h_tb
          replace h_ow := h_ow.out
          replace h_wx := h_wx.out
          replace h_wy := h_wy.out
          replace h_tb := h_tb.out
          have H := Lib.hid (show (sameL x y) = true from by have h9 := h_ow; unfold ownsL at h9; unfold sameL; simp at h9; simp [h9, h_wx, h_wy, h_tb])
          clear h_ow h_wx h_wy h_tb
          go_wp2_with fail
          go_ret
          exact ⟨by first | (rw [H.out]; done) | (rw [H.out]; rfl), q⟩
        · have datb : (x.span.table == y.span.table) = false := beq_eq_false_iff_ne.2 h_tb
          have dbtb : decide (x.span.table = y.span.table) = false := decide_eq_false h_tb
          have dctb : (x.span.table = y.span.table) = False := eq_false h_tb
          have ddtb : (x.span.table != y.span.table) = true := bne_iff_ne.2 h_tb
          replace h_tb := Lib.hid h_tb
          replace h_ow := h_ow.out
          replace h_wx := h_wx.out
          replace h_wy := h_wy.out
          replace h_tb := h_tb.out
          have H := Lib.hid (show (sameL x y) = false from by have h9 := h_ow; unfold ownsL at h9; unfold sameL; simp at h9; simp [h9, h_wx, h_wy, h_tb])
          clear h_ow h_wx h_wy h_tb
          go_wp2_with fail
          go_ret
          exact ⟨by first | (rw [H.out]; done) | (rw [H.out]; rfl), q⟩
      | false =>
        rw [h_wy] at cy1
        replace h_wy := Lib.hid h_wy
        replace h_ow := h_ow.out
        replace h_wx := h_wx.out
        replace h_wy := h_wy.out
        have H := Lib.hid (show (sameL x y) = false from by have h9 := h_ow; unfold ownsL at h9; unfold sameL; simp at h9; simp [h9, h_wx, h_wy])
        clear h_ow h_wx h_wy
        go_wp2_with fail
        go_ret
        exact ⟨by first | (rw [H.out]; done) | (rw [H.out]; rfl), q⟩
    | false =>
      rw [h_wx] at cx1
      replace h_wx := Lib.hid h_wx
      replace h_ow := h_ow.out
      replace h_wx := h_wx.out
      have H := Lib.hid (show (sameL x y) = false from by have h9 := h_ow; unfold ownsL at h9; unfold sameL; simp at h9; simp [h9, h_wx])
      clear h_ow h_wx
      go_wp2_with fail
      go_ret
      exact ⟨by first | (rw [H.out]; done) | (rw [H.out]; rfl), q⟩
  | false =>
    replace h_ow := Lib.hid h_ow
    replace h_ow := h_ow.out
    have H := Lib.hid (show (sameL x y) = false from by have h9 := h_ow; unfold ownsL at h9; unfold sameL; simp at h9; simp [h9])
    clear h_ow
    go_wp2_with fail
    go_ret
    exact ⟨by first | (rw [H.out]; done) | (rw [H.out]; rfl), q⟩
set_option maxRecDepth 100000 in
set_option maxHeartbeats 4000000 in
theorem clashes_any (w : World) (hT : TabAt w) {S S2 : Nat → Prop} {u v : Value} {x y : Lk} (hx : RdLk S w u x) (hy : RdLk S2 w v y) :
    Calls Tryd.prog 65 #[u, v] w fun e w' => e = .returned (.bool (clashL x y)) ∧ Below w.heap.size w w' := by
  obtain ⟨a1, a2, a3, a4, rfl, hlx, hhx, hwx⟩ := hx
  have m1x : x.span.lo.length ≤ 9223372036854775807 := by have := hlx.len; unfold maxLen at this; omega
  have m2x : x.span.hi.length ≤ 9223372036854775807 := by have := hhx.len; unfold maxLen at this; omega
  obtain ⟨b1, b2, b3, b4, rfl, hly, hhy, hwy⟩ := hy
  have m1y : y.span.lo.length ≤ 9223372036854775807 := by have := hly.len; unfold maxLen at this; omega
  have m2y : y.span.hi.length ≤ 9223372036854775807 := by have := hhy.len; unfold maxLen at this; omega
  obtain ⟨W, hW, q, Bx, By, hsz⟩ := spBoxes2 w 59 29 [.int .i64 x.owner, .bool x.whole, .int .i64 x.span.table, .slice a1 x.span.lo.length a2, .slice a3 x.span.hi.length a4, .bool x.span.isOpen, .int .i64 x.mode] [.int .i64 y.owner, .bool y.whole, .int .i64 y.span.table, .slice b1 y.span.lo.length b2, .slice b3 y.span.hi.length b4, .bool y.span.isOpen, .int .i64 y.mode]
  clear hsz
  go_enter Tryd.func65, Tryd.ntmps65
  go_upto_region 1 with (fail)
  rw [show (w.alloc (.cells #[.int .i64 x.owner, .bool x.whole, .int .i64 x.span.table, .slice a1 x.span.lo.length a2, .slice a3 x.span.hi.length a4, .bool x.span.isOpen, .int .i64 x.mode] 59)).alloc (.cells #[.int .i64 y.owner, .bool y.whole, .int .i64 y.span.table, .slice b1 y.span.lo.length b2, .slice b3 y.span.hi.length b4, .bool y.span.isOpen, .int .i64 y.mode] 29) = W from hW.symm]
  clear hW
  have rxx := hlx.below q
  have ryx := hhx.below q
  clear hlx hhx
  have rxy := hly.below q
  have ryy := hhy.below q
  clear hly hhy
  replace hT := hT.below q
  have cx0 := Bx.cell (i := 0) rfl
  have cx1 := Bx.cell (i := 1) rfl
  have cx2 := Bx.cell (i := 2) rfl
  have cx3 := Bx.cell (i := 3) rfl
  have cx4 := Bx.cell (i := 4) rfl
  have cx5 := Bx.cell (i := 5) rfl
  have cx6 := Bx.cell (i := 6) rfl
  have cy0 := By.cell (i := 0) rfl
  have cy1 := By.cell (i := 1) rfl
  have cy2 := By.cell (i := 2) rfl
  have cy3 := By.cell (i := 3) rfl
  have cy4 := By.cell (i := 4) rfl
  have cy5 := By.cell (i := 5) rfl
  have cy6 := By.cell (i := 6) rfl
  have hcl := clash_any _ hT (show RdLk _ _ (.agg #[.int .i64 x.owner, .bool x.whole, .int .i64 x.span.table, .slice a1 x.span.lo.length a2, .slice a3 x.span.hi.length a4, .bool x.span.isOpen, .int .i64 x.mode]) x from ⟨_, _, _, _, rfl, rxx, ryx, hwx⟩) (show RdLk _ _ (.agg #[.int .i64 y.owner, .bool y.whole, .int .i64 y.span.table, .slice b1 y.span.lo.length b2, .slice b3 y.span.hi.length b4, .bool y.span.isOpen, .int .i64 y.mode]) y from ⟨_, _, _, _, rfl, rxy, ryy, hwy⟩)
  go_wp2_with fail
  refine hcl.mono ?_
  rintro e w1 ⟨rfl, hb⟩
  clear hcl
  clear cx0 cx1 cx2 cx3 cx4 cx5 cx6 cy0 cy1 cy2 cy3 cy4 cy5 cy6
  replace Bx := Bx.below hb Bx.lt
  replace By := By.below hb By.lt
  replace rxx := rxx.below hb
  replace ryx := ryx.below hb
  replace rxy := rxy.below hb
  replace ryy := ryy.below hb
  replace hT := hT.below hb
  replace q := q.trans (hb.mono q.size)
  clear hb
  have cx0 := Bx.cell (i := 0) rfl
  have cx1 := Bx.cell (i := 1) rfl
  have cx2 := Bx.cell (i := 2) rfl
  have cx3 := Bx.cell (i := 3) rfl
  have cx4 := Bx.cell (i := 4) rfl
  have cx5 := Bx.cell (i := 5) rfl
  have cx6 := Bx.cell (i := 6) rfl
  have cy0 := By.cell (i := 0) rfl
  have cy1 := By.cell (i := 1) rfl
  have cy2 := By.cell (i := 2) rfl
  have cy3 := By.cell (i := 3) rfl
  have cy4 := By.cell (i := 4) rfl
  have cy5 := By.cell (i := 5) rfl
  have cy6 := By.cell (i := 6) rfl
  cases h_cl : clashL x y with
  | true =>
    replace h_cl := Lib.hid h_cl
    replace h_cl := h_cl.out
    have H := Lib.hid (show (clashL x y) = true from h_cl)
    clear h_cl
    go_wp2_with fail
    go_ret
    exact ⟨by first | (rw [H.out]; done) | (rw [H.out]; rfl), q⟩
  | false =>
    replace h_cl := Lib.hid h_cl
    replace h_cl := h_cl.out
    have H := Lib.hid (show (clashL x y) = false from h_cl)
    clear h_cl
    go_wp2_with fail
    go_ret
    exact ⟨by first | (rw [H.out]; done) | (rw [H.out]; rfl), q⟩
set_option maxRecDepth 100000 in
set_option maxHeartbeats 4000000 in
theorem served_any (w : World) {S S2 : Nat → Prop} {u v : Value} {x y : Lk} (hx : RdLk S w u x) (hy : RdLk S2 w v y) :
    Calls Tryd.prog 59 #[u, v] w fun e w' => e = .returned (.bool (servesL x y)) ∧ Below w.heap.size w w' := by
  obtain ⟨a1, a2, a3, a4, rfl, hlx, hhx, hwx⟩ := hx
  have m1x : x.span.lo.length ≤ 9223372036854775807 := by have := hlx.len; unfold maxLen at this; omega
  have m2x : x.span.hi.length ≤ 9223372036854775807 := by have := hhx.len; unfold maxLen at this; omega
  obtain ⟨b1, b2, b3, b4, rfl, hly, hhy, hwy⟩ := hy
  have m1y : y.span.lo.length ≤ 9223372036854775807 := by have := hly.len; unfold maxLen at this; omega
  have m2y : y.span.hi.length ≤ 9223372036854775807 := by have := hhy.len; unfold maxLen at this; omega
  obtain ⟨W, hW, q, Bx, By, hsz⟩ := spBoxes2 w 59 29 [.int .i64 x.owner, .bool x.whole, .int .i64 x.span.table, .slice a1 x.span.lo.length a2, .slice a3 x.span.hi.length a4, .bool x.span.isOpen, .int .i64 x.mode] [.int .i64 y.owner, .bool y.whole, .int .i64 y.span.table, .slice b1 y.span.lo.length b2, .slice b3 y.span.hi.length b4, .bool y.span.isOpen, .int .i64 y.mode]
  clear hsz
  go_enter Tryd.func59, Tryd.ntmps59
  go_upto_region 1 with (fail)
  rw [show (w.alloc (.cells #[.int .i64 x.owner, .bool x.whole, .int .i64 x.span.table, .slice a1 x.span.lo.length a2, .slice a3 x.span.hi.length a4, .bool x.span.isOpen, .int .i64 x.mode] 59)).alloc (.cells #[.int .i64 y.owner, .bool y.whole, .int .i64 y.span.table, .slice b1 y.span.lo.length b2, .slice b3 y.span.hi.length b4, .bool y.span.isOpen, .int .i64 y.mode] 29) = W from hW.symm]
  clear hW
  have rxx := hlx.below q
  have ryx := hhx.below q
  clear hlx hhx
  have rxy := hly.below q
  have ryy := hhy.below q
  clear hly hhy
  have cx0 := Bx.cell (i := 0) rfl
  have cx1 := Bx.cell (i := 1) rfl
  have cx2 := Bx.cell (i := 2) rfl
  have cx3 := Bx.cell (i := 3) rfl
  have cx4 := Bx.cell (i := 4) rfl
  have cx5 := Bx.cell (i := 5) rfl
  have cx6 := Bx.cell (i := 6) rfl
  have cy0 := By.cell (i := 0) rfl
  have cy1 := By.cell (i := 1) rfl
  have cy2 := By.cell (i := 2) rfl
  have cy3 := By.cell (i := 3) rfl
  have cy4 := By.cell (i := 4) rfl
  have cy5 := By.cell (i := 5) rfl
  have cy6 := By.cell (i := 6) rfl
  have hcl := owns_any _ (show RdLk _ _ (.agg #[.int .i64 x.owner, .bool x.whole, .int .i64 x.span.table, .slice a1 x.span.lo.length a2, .slice a3 x.span.hi.length a4, .bool x.span.isOpen, .int .i64 x.mode]) x from ⟨_, _, _, _, rfl, rxx, ryx, hwx⟩) (show RdLk _ _ (.agg #[.int .i64 y.owner, .bool y.whole, .int .i64 y.span.table, .slice b1 y.span.lo.length b2, .slice b3 y.span.hi.length b4, .bool y.span.isOpen, .int .i64 y.mode]) y from ⟨_, _, _, _, rfl, rxy, ryy, hwy⟩)
  go_wp2_with fail
  refine hcl.mono ?_
  rintro e w1 ⟨rfl, hb⟩
  clear hcl
  clear cx0 cx1 cx2 cx3 cx4 cx5 cx6 cy0 cy1 cy2 cy3 cy4 cy5 cy6
  replace Bx := Bx.below hb Bx.lt
  replace By := By.below hb By.lt
  replace rxx := rxx.below hb
  replace ryx := ryx.below hb
  replace rxy := rxy.below hb
  replace ryy := ryy.below hb
  replace q := q.trans (hb.mono q.size)
  clear hb
  have cx0 := Bx.cell (i := 0) rfl
  have cx1 := Bx.cell (i := 1) rfl
  have cx2 := Bx.cell (i := 2) rfl
  have cx3 := Bx.cell (i := 3) rfl
  have cx4 := Bx.cell (i := 4) rfl
  have cx5 := Bx.cell (i := 5) rfl
  have cx6 := Bx.cell (i := 6) rfl
  have cy0 := By.cell (i := 0) rfl
  have cy1 := By.cell (i := 1) rfl
  have cy2 := By.cell (i := 2) rfl
  have cy3 := By.cell (i := 3) rfl
  have cy4 := By.cell (i := 4) rfl
  have cy5 := By.cell (i := 5) rfl
  have cy6 := By.cell (i := 6) rfl
  cases h_ow : ownsL x y with
  | true =>
    replace h_ow := Lib.hid h_ow
    by_cases h_tb : y.span.table = x.span.table
    · have datb : (y.span.table == x.span.table) = true := beq_iff_eq.2 h_tb
      have dbtb : decide (y.span.table = x.span.table) = true := decide_eq_true h_tb
      have dctb : (y.span.table = x.span.table) = True := eq_true h_tb
      have ddtb : (y.span.table != x.span.table) = false := by rw [bne_eq_false_iff_eq]; exact h_tb
      replace h_tb := Lib.hid h_tb
      have hcl := covers_any w1 y.mode x.mode
      go_wp2_with fail
      refine hcl.mono ?_
      rintro e _ ⟨rfl, rfl⟩
      clear hcl
      cases h_cv : covM y.mode x.mode with
      | true =>
        replace h_cv := Lib.hid h_cv
        cases h_wy : y.whole with
        | true =>
          rw [h_wy] at cy1
          replace h_wy := Lib.hid h_wy
          replace h_ow := h_ow.out
          replace h_tb := h_tb.out
          replace h_cv := h_cv.out
          replace h_wy := h_wy.out
          have H := Lib.hid (show (servesL x y) = true from by have h9 := h_ow; unfold ownsL at h9; unfold servesL; simp at h9; simp [h9, h_tb, h_cv, h_wy])
          clear h_ow h_tb h_cv h_wy
          go_wp2_with fail
          go_ret
          exact ⟨by first | (rw [H.out]; done) | (rw [H.out]; rfl), q⟩
        | false =>
          rw [h_wy] at cy1
          replace h_wy := Lib.hid h_wy
          cases h_wx : x.whole with
          | true =>
            rw [h_wx] at cx1
            replace h_wx := Lib.hid h_wx
            replace h_ow := h_ow.out
            replace h_tb := h_tb.out
            replace h_cv := h_cv.out
            replace h_wy := h_wy.out
            replace h_wx := h_wx.out
            have H := Lib.hid (show (servesL x y) = false from by have h9 := h_ow; unfold ownsL at h9; unfold servesL; simp at h9; simp [h9, h_tb, h_cv, h_wy, h_wx])
            clear h_ow h_tb h_cv h_wy h_wx
            go_wp2_with fail
            go_ret
            exact ⟨by first | (rw [H.out]; done) | (rw [H.out]; rfl), q⟩
          | false =>
            rw [h_wx] at cx1
            replace h_wx := Lib.hid h_wx
            have hcl := sCovers_any _ (RdLk.sp (show RdLk _ _ (.agg #[.int .i64 y.owner, .bool y.whole, .int .i64 y.span.table, .slice b1 y.span.lo.length b2, .slice b3 y.span.hi.length b4, .bool y.span.isOpen, .int .i64 y.mode]) y from ⟨_, _, _, _, rfl, rxy, ryy, hwy⟩)) (RdLk.sp (show RdLk _ _ (.agg #[.int .i64 x.owner, .bool x.whole, .int .i64 x.span.table, .slice a1 x.span.lo.length a2, .slice a3 x.span.hi.length a4, .bool x.span.isOpen, .int .i64 x.mode]) x from ⟨_, _, _, _, rfl, rxx, ryx, hwx⟩))
            go_wp2_with fail
            refine hcl.mono ?_
            rintro e w1 ⟨rfl, hb⟩
            clear hcl
            clear cx0 cx1 cx2 cx3 cx4 cx5 cx6 cy0 cy1 cy2 cy3 cy4 cy5 cy6
            replace Bx := Bx.below hb Bx.lt
            replace By := By.below hb By.lt
            replace rxx := rxx.below hb
            replace ryx := ryx.below hb
            replace rxy := rxy.below hb
            replace ryy := ryy.below hb
            replace q := q.trans (hb.mono q.size)
            clear hb
            have cx0 := Bx.cell (i := 0) rfl
            have cx1 := Bx.cell (i := 1) rfl
            have cx2 := Bx.cell (i := 2) rfl
            have cx3 := Bx.cell (i := 3) rfl
            have cx4 := Bx.cell (i := 4) rfl
            have cx5 := Bx.cell (i := 5) rfl
            have cx6 := Bx.cell (i := 6) rfl
            have cy0 := By.cell (i := 0) rfl
            have cy1 := By.cell (i := 1) rfl
            have cy2 := By.cell (i := 2) rfl
            have cy3 := By.cell (i := 3) rfl
            have cy4 := By.cell (i := 4) rfl
            have cy5 := By.cell (i := 5) rfl
            have cy6 := By.cell (i := 6) rfl
            cases h_cs : coversS y.span x.span with
            | true =>
              replace h_cs := Lib.hid h_cs
              replace h_ow := h_ow.out
              replace h_tb := h_tb.out
              replace h_cv := h_cv.out
              replace h_wy := h_wy.out
              replace h_wx := h_wx.out
              replace h_cs := h_cs.out
              have H := Lib.hid (show (servesL x y) = true from by have h9 := h_ow; unfold ownsL at h9; unfold servesL; simp at h9; simp [h9, h_tb, h_cv, h_wy, h_wx, h_cs])
              clear h_ow h_tb h_cv h_wy h_wx h_cs
              go_wp2_with fail
              go_ret
              exact ⟨by first | (rw [H.out]; done) | (rw [H.out]; rfl), q⟩
            | false =>
              replace h_cs := Lib.hid h_cs
              replace h_ow := h_ow.out
              replace h_tb := h_tb.out
              replace h_cv := h_cv.out
              replace h_wy := h_wy.out
              replace h_wx := h_wx.out
              replace h_cs := h_cs.out
              have H := Lib.hid (show (servesL x y) = false from by have h9 := h_ow; unfold ownsL at h9; unfold servesL; simp at h9; simp [h9, h_tb, h_cv, h_wy, h_wx, h_cs])
              clear h_ow h_tb h_cv h_wy h_wx h_cs
              go_wp2_with fail
              go_ret
              exact ⟨by first | (rw [H.out]; done) | (rw [H.out]; rfl), q⟩
      | false =>
        replace h_cv := Lib.hid h_cv
        replace h_ow := h_ow.out
        replace h_tb := h_tb.out
        replace h_cv := h_cv.out
        have H := Lib.hid (show (servesL x y) = false from by have h9 := h_ow; unfold ownsL at h9; unfold servesL; simp at h9; simp [h9, h_tb, h_cv])
        clear h_ow h_tb h_cv
        go_wp2_with fail
        go_ret
        exact ⟨by first | (rw [H.out]; done) | (rw [H.out]; rfl), q⟩
    · have datb : (y.span.table == x.span.table) = false := beq_eq_false_iff_ne.2 h_tb
      have dbtb : decide (y.span.table = x.span.table) = false := decide_eq_false h_tb
      have dctb : (y.span.table = x.span.table) = False := eq_false h_tb
      have ddtb : (y.span.table != x.span.table) = true := bne_iff_ne.2 h_tb
      replace h_tb := Lib.hid h_tb
      replace h_ow := h_ow.out
      replace h_tb := h_tb.out
      have H := Lib.hid (show (servesL x y) = false from by have h9 := h_ow; unfold ownsL at h9; unfold servesL; simp at h9; simp [h9, h_tb])
      clear h_ow h_tb
      go_wp2_with fail
      go_ret
      exact ⟨by first | (rw [H.out]; done) | (rw [H.out]; rfl), q⟩
  | false =>
    replace h_ow := Lib.hid h_ow
    replace h_ow := h_ow.out
    have H := Lib.hid (show (servesL x y) = false from by have h9 := h_ow; unfold ownsL at h9; unfold servesL; simp at h9; simp [h9])
    clear h_ow
    go_wp2_with fail
    go_ret
    exact ⟨by first | (rw [H.out]; done) | (rw [H.out]; rfl), q⟩
set_option maxRecDepth 100000 in
set_option maxHeartbeats 4000000 in
theorem wrong_any (w : World) {S : Nat → Prop} {u : Value} {x : Lk} (hx : RdLk S w u x) :
    Calls Tryd.prog 38 #[u] w fun e w' => e = .returned (.bool (!fine x)) ∧ Below w.heap.size w w' := by
  obtain ⟨a1, a2, a3, a4, rfl, hlx, hhx, hwx⟩ := hx
  have m1x : x.span.lo.length ≤ 9223372036854775807 := by have := hlx.len; unfold maxLen at this; omega
  have m2x : x.span.hi.length ≤ 9223372036854775807 := by have := hhx.len; unfold maxLen at this; omega
  obtain ⟨W, hW, q, Bx, hsz⟩ := spBox w 29 [.int .i64 x.owner, .bool x.whole, .int .i64 x.span.table, .slice a1 x.span.lo.length a2, .slice a3 x.span.hi.length a4, .bool x.span.isOpen, .int .i64 x.mode]
  clear hsz
  go_enter Tryd.func38, Tryd.ntmps38
  go_upto_region 1 with (fail)
  rw [show w.alloc (.cells #[.int .i64 x.owner, .bool x.whole, .int .i64 x.span.table, .slice a1 x.span.lo.length a2, .slice a3 x.span.hi.length a4, .bool x.span.isOpen, .int .i64 x.mode] 29) = W from hW.symm]
  clear hW
  have rxx := hlx.below q
  have ryx := hhx.below q
  clear hlx hhx
  have cx0 := Bx.cell (i := 0) rfl
  have cx1 := Bx.cell (i := 1) rfl
  have cx2 := Bx.cell (i := 2) rfl
  have cx3 := Bx.cell (i := 3) rfl
  have cx4 := Bx.cell (i := 4) rfl
  have cx5 := Bx.cell (i := 5) rfl
  have cx6 := Bx.cell (i := 6) rfl
  by_cases h_o0 : 0 ≤ x.owner
  · have do0a : decide (x.owner < 0) = false := decide_eq_false (by omega)
    replace h_o0 := Lib.hid h_o0
    by_cases h_o4 : x.owner < 4
    · have do4a : decide (4 ≤ x.owner) = false := decide_eq_false (by omega)
      replace h_o4 := Lib.hid h_o4
      have hcl := sCheck_any _ (RdLk.sp (show RdLk _ _ (.agg #[.int .i64 x.owner, .bool x.whole, .int .i64 x.span.table, .slice a1 x.span.lo.length a2, .slice a3 x.span.hi.length a4, .bool x.span.isOpen, .int .i64 x.mode]) x from ⟨_, _, _, _, rfl, rxx, ryx, hwx⟩))
      go_wp2_with fail
      refine hcl.mono ?_
      rintro e w1 ⟨rfl, hb⟩
      clear hcl
      clear cx0 cx1 cx2 cx3 cx4 cx5 cx6
      replace Bx := Bx.below hb Bx.lt
      replace rxx := rxx.below hb
      replace ryx := ryx.below hb
      replace q := q.trans (hb.mono q.size)
      clear hb
      have cx0 := Bx.cell (i := 0) rfl
      have cx1 := Bx.cell (i := 1) rfl
      have cx2 := Bx.cell (i := 2) rfl
      have cx3 := Bx.cell (i := 3) rfl
      have cx4 := Bx.cell (i := 4) rfl
      have cx5 := Bx.cell (i := 5) rfl
      have cx6 := Bx.cell (i := 6) rfl
      cases h_ck : decide (mayS x.span) with
      | true =>
        have k1 := (of_decide_eq_true h_ck).2.2.1
        have k2 := (of_decide_eq_true h_ck).2.2.2.1
        replace h_ck := Lib.hid h_ck
        cases h_wx : x.whole with
        | true =>
          rw [h_wx] at cx1
          replace h_wx := Lib.hid h_wx
          by_cases h_m1 : 1 ≤ x.mode
          · have dm1a : decide (x.mode < 1) = false := decide_eq_false (by omega)
            replace h_m1 := Lib.hid h_m1
            by_cases h_m5w : x.mode ≤ 5
            · have dm5a : decide (5 < x.mode) = false := decide_eq_false (by omega)
              replace h_m5w := Lib.hid h_m5w
              cases h_op : x.span.isOpen with
              | true =>
                rw [h_op] at cx5
                replace h_op := Lib.hid h_op
                replace h_o0 := h_o0.out
                replace h_o4 := h_o4.out
                replace h_ck := h_ck.out
                replace h_wx := h_wx.out
                replace h_m1 := h_m1.out
                replace h_m5w := h_m5w.out
                replace h_op := h_op.out
                have H := Lib.hid (show (!fine x) = true from by
      rw [show fine x = false from eq_false_of_ne_true fun h0 => by
        have h := fine_iff.1 h0
        rcases h.2.2 with ⟨_, _, h1, _⟩ | ⟨h1, _⟩ <;> simp_all]; rfl)
                clear h_o0 h_o4 h_ck h_wx h_m1 h_m5w h_op
                go_wp2_with fail
                go_ret
                exact ⟨by first | (rw [H.out]; done) | (rw [H.out]; rfl), q⟩
              | false =>
                rw [h_op] at cx5
                replace h_op := Lib.hid h_op
                by_cases h_ln : x.span.lo.length + x.span.hi.length = 0
                · have dlna : decide (0 < (x.span.lo.length : Int) + (x.span.hi.length : Int)) = false := decide_eq_false (by omega)
                  replace h_ln := Lib.hid h_ln
                  replace h_o0 := h_o0.out
                  replace h_o4 := h_o4.out
                  replace h_ck := h_ck.out
                  replace h_wx := h_wx.out
                  replace h_m1 := h_m1.out
                  replace h_m5w := h_m5w.out
                  replace h_op := h_op.out
                  replace h_ln := h_ln.out
                  have H := Lib.hid (show (!fine x) = false from by rw [show fine x = true from fine_iff.2 ⟨⟨by omega, by omega⟩, of_decide_eq_true h_ck, .inl ⟨h_wx, (kn_iff.2 ⟨by omega, by omega⟩), h_op, by omega⟩⟩]; rfl)
                  clear h_o0 h_o4 h_ck h_wx h_m1 h_m5w h_op h_ln
                  go_wp2_with fail
                  go_ret
                  exact ⟨by first | (rw [H.out]; done) | (rw [H.out]; rfl), q⟩
                · have dlna : decide (0 < (x.span.lo.length : Int) + (x.span.hi.length : Int)) = true := decide_eq_true (by omega)
                  replace h_ln := Lib.hid h_ln
                  replace h_o0 := h_o0.out
                  replace h_o4 := h_o4.out
                  replace h_ck := h_ck.out
                  replace h_wx := h_wx.out
                  replace h_m1 := h_m1.out
                  replace h_m5w := h_m5w.out
                  replace h_op := h_op.out
                  replace h_ln := h_ln.out
                  have H := Lib.hid (show (!fine x) = true from by
      rw [show fine x = false from eq_false_of_ne_true fun h0 => by
        have h := fine_iff.1 h0
        rcases h.2.2 with ⟨_, _, _, h1⟩ | ⟨h1, _⟩
        · omega
        · rw [h_wx] at h1; cases h1]; rfl)
                  clear h_o0 h_o4 h_ck h_wx h_m1 h_m5w h_op h_ln
                  go_wp2_with fail
                  go_ret
                  exact ⟨by first | (rw [H.out]; done) | (rw [H.out]; rfl), q⟩
            · have dm5a : decide (5 < x.mode) = true := decide_eq_true (by omega)
              replace h_m5w := Lib.hid h_m5w
              replace h_o0 := h_o0.out
              replace h_o4 := h_o4.out
              replace h_ck := h_ck.out
              replace h_wx := h_wx.out
              replace h_m1 := h_m1.out
              replace h_m5w := h_m5w.out
              have H := Lib.hid (show (!fine x) = true from by
      rw [show fine x = false from eq_false_of_ne_true fun h0 => by
        have h := fine_iff.1 h0
        have := kn_iff.1 (fine_kn (fine_iff.2 h)); omega]; rfl)
              clear h_o0 h_o4 h_ck h_wx h_m1 h_m5w
              go_wp2_with fail
              go_ret
              exact ⟨by first | (rw [H.out]; done) | (rw [H.out]; rfl), q⟩
          · have dm1a : decide (x.mode < 1) = true := decide_eq_true (by omega)
            replace h_m1 := Lib.hid h_m1
            replace h_o0 := h_o0.out
            replace h_o4 := h_o4.out
            replace h_ck := h_ck.out
            replace h_wx := h_wx.out
            replace h_m1 := h_m1.out
            have H := Lib.hid (show (!fine x) = true from by
      rw [show fine x = false from eq_false_of_ne_true fun h0 => by
        have h := fine_iff.1 h0
        have := kn_iff.1 (fine_kn (fine_iff.2 h)); omega]; rfl)
            clear h_o0 h_o4 h_ck h_wx h_m1
            go_wp2_with fail
            go_ret
            exact ⟨by first | (rw [H.out]; done) | (rw [H.out]; rfl), q⟩
        | false =>
          rw [h_wx] at cx1
          replace h_wx := Lib.hid h_wx
          have hcl := sEmpty_any _ (RdLk.sp (show RdLk _ _ (.agg #[.int .i64 x.owner, .bool x.whole, .int .i64 x.span.table, .slice a1 x.span.lo.length a2, .slice a3 x.span.hi.length a4, .bool x.span.isOpen, .int .i64 x.mode]) x from ⟨_, _, _, _, rfl, rxx, ryx, hwx⟩))
          go_wp2_with fail
          refine hcl.mono ?_
          rintro e w1 ⟨rfl, hb⟩
          clear hcl
          clear cx0 cx1 cx2 cx3 cx4 cx5 cx6
          replace Bx := Bx.below hb Bx.lt
          replace rxx := rxx.below hb
          replace ryx := ryx.below hb
          replace q := q.trans (hb.mono q.size)
          clear hb
          have cx0 := Bx.cell (i := 0) rfl
          have cx1 := Bx.cell (i := 1) rfl
          have cx2 := Bx.cell (i := 2) rfl
          have cx3 := Bx.cell (i := 3) rfl
          have cx4 := Bx.cell (i := 4) rfl
          have cx5 := Bx.cell (i := 5) rfl
          have cx6 := Bx.cell (i := 6) rfl
          cases h_em : emptyS x.span with
          | true =>
            replace h_em := Lib.hid h_em
            replace h_o0 := h_o0.out
            replace h_o4 := h_o4.out
            replace h_ck := h_ck.out
            replace h_wx := h_wx.out
            replace h_em := h_em.out
            have H := Lib.hid (show (!fine x) = true from by
      rw [show fine x = false from eq_false_of_ne_true fun h0 => by
        have h := fine_iff.1 h0
        rcases h.2.2 with ⟨h1, _⟩ | ⟨_, h1, _⟩ <;> simp_all]; rfl)
            clear h_o0 h_o4 h_ck h_wx h_em
            go_wp2_with fail
            go_ret
            exact ⟨by first | (rw [H.out]; done) | (rw [H.out]; rfl), q⟩
          | false =>
            replace h_em := Lib.hid h_em
            by_cases h_m3 : x.mode = 3
            · have dam3 : (x.mode == 3) = true := beq_iff_eq.2 h_m3
              have dbm3 : decide (x.mode = 3) = true := decide_eq_true h_m3
              have dcm3 : (x.mode = 3) = True := eq_true h_m3
              have ddm3 : (x.mode != 3) = false := by rw [bne_eq_false_iff_eq]; exact h_m3
              replace h_m3 := Lib.hid h_m3
              replace h_o0 := h_o0.out
              replace h_o4 := h_o4.out
              replace h_ck := h_ck.out
              replace h_wx := h_wx.out
              replace h_em := h_em.out
              replace h_m3 := h_m3.out
              have H := Lib.hid (show (!fine x) = false from by rw [show fine x = true from fine_iff.2 ⟨⟨by omega, by omega⟩, of_decide_eq_true h_ck, .inr ⟨h_wx, h_em, .inl h_m3⟩⟩]; rfl)
              clear h_o0 h_o4 h_ck h_wx h_em h_m3
              go_wp2_with fail
              go_ret
              exact ⟨by first | (rw [H.out]; done) | (rw [H.out]; rfl), q⟩
            · have dam3 : (x.mode == 3) = false := beq_eq_false_iff_ne.2 h_m3
              have dbm3 : decide (x.mode = 3) = false := decide_eq_false h_m3
              have dcm3 : (x.mode = 3) = False := eq_false h_m3
              have ddm3 : (x.mode != 3) = true := bne_iff_ne.2 h_m3
              replace h_m3 := Lib.hid h_m3
              by_cases h_m5 : x.mode = 5
              · have dam5 : (x.mode == 5) = true := beq_iff_eq.2 h_m5
                have dbm5 : decide (x.mode = 5) = true := decide_eq_true h_m5
                have dcm5 : (x.mode = 5) = True := eq_true h_m5
                have ddm5 : (x.mode != 5) = false := by rw [bne_eq_false_iff_eq]; exact h_m5
                replace h_m5 := Lib.hid h_m5
                replace h_o0 := h_o0.out
                replace h_o4 := h_o4.out
                replace h_ck := h_ck.out
                replace h_wx := h_wx.out
                replace h_em := h_em.out
                replace h_m3 := h_m3.out
                replace h_m5 := h_m5.out
                have H := Lib.hid (show (!fine x) = false from by rw [show fine x = true from fine_iff.2 ⟨⟨by omega, by omega⟩, of_decide_eq_true h_ck, .inr ⟨h_wx, h_em, .inr h_m5⟩⟩]; rfl)
                clear h_o0 h_o4 h_ck h_wx h_em h_m3 h_m5
                go_wp2_with fail
                go_ret
                exact ⟨by first | (rw [H.out]; done) | (rw [H.out]; rfl), q⟩
              · have dam5 : (x.mode == 5) = false := beq_eq_false_iff_ne.2 h_m5
                have dbm5 : decide (x.mode = 5) = false := decide_eq_false h_m5
                have dcm5 : (x.mode = 5) = False := eq_false h_m5
                have ddm5 : (x.mode != 5) = true := bne_iff_ne.2 h_m5
                replace h_m5 := Lib.hid h_m5
                replace h_o0 := h_o0.out
                replace h_o4 := h_o4.out
                replace h_ck := h_ck.out
                replace h_wx := h_wx.out
                replace h_em := h_em.out
                replace h_m3 := h_m3.out
                replace h_m5 := h_m5.out
                have H := Lib.hid (show (!fine x) = true from by
      rw [show fine x = false from eq_false_of_ne_true fun h0 => by
        have h := fine_iff.1 h0
        rcases h.2.2 with ⟨h1, _⟩ | ⟨_, _, h1⟩ <;> simp_all]; rfl)
                clear h_o0 h_o4 h_ck h_wx h_em h_m3 h_m5
                go_wp2_with fail
                go_ret
                exact ⟨by first | (rw [H.out]; done) | (rw [H.out]; rfl), q⟩
      | false =>
        replace h_ck := Lib.hid h_ck
        replace h_o0 := h_o0.out
        replace h_o4 := h_o4.out
        replace h_ck := h_ck.out
        have H := Lib.hid (show (!fine x) = true from by
      rw [show fine x = false from eq_false_of_ne_true fun h0 => by
        have h := fine_iff.1 h0
        exact absurd h.2.1 (of_decide_eq_false h_ck)]; rfl)
        clear h_o0 h_o4 h_ck
        go_wp2_with fail
        go_ret
        exact ⟨by first | (rw [H.out]; done) | (rw [H.out]; rfl), q⟩
    · have do4a : decide (4 ≤ x.owner) = true := decide_eq_true (by omega)
      replace h_o4 := Lib.hid h_o4
      replace h_o0 := h_o0.out
      replace h_o4 := h_o4.out
      have H := Lib.hid (show (!fine x) = true from by
      rw [show fine x = false from eq_false_of_ne_true fun h0 => by
        have h := fine_iff.1 h0
        have := h.1; omega]; rfl)
      clear h_o0 h_o4
      go_wp2_with fail
      go_ret
      exact ⟨by first | (rw [H.out]; done) | (rw [H.out]; rfl), q⟩
  · have do0a : decide (x.owner < 0) = true := decide_eq_true (by omega)
    replace h_o0 := Lib.hid h_o0
    replace h_o0 := h_o0.out
    have H := Lib.hid (show (!fine x) = true from by
      rw [show fine x = false from eq_false_of_ne_true fun h0 => by
        have h := fine_iff.1 h0
        have := h.1; omega]; rfl)
    clear h_o0
    go_wp2_with fail
    go_ret
    exact ⟨by first | (rw [H.out]; done) | (rw [H.out]; rfl), q⟩
set_option maxRecDepth 100000 in
set_option maxHeartbeats 4000000 in
theorem rMay_any (w : World) {S : Nat → Prop} {u : Value} {x : Lk} (hx : RdLk S w u x) :
    Calls Tryd.prog 44 #[u] w fun e w' => e = .returned (.bool (fine x)) ∧ Below w.heap.size w w' := by
  obtain ⟨a1, a2, a3, a4, rfl, hlx, hhx, hwx⟩ := hx
  have m1x : x.span.lo.length ≤ 9223372036854775807 := by have := hlx.len; unfold maxLen at this; omega
  have m2x : x.span.hi.length ≤ 9223372036854775807 := by have := hhx.len; unfold maxLen at this; omega
  obtain ⟨W, hW, q, Bx, hsz⟩ := spBox w 29 [.int .i64 x.owner, .bool x.whole, .int .i64 x.span.table, .slice a1 x.span.lo.length a2, .slice a3 x.span.hi.length a4, .bool x.span.isOpen, .int .i64 x.mode]
  clear hsz
  go_enter Tryd.func44, Tryd.ntmps44
  go_upto_region 1 with (fail)
  rw [show w.alloc (.cells #[.int .i64 x.owner, .bool x.whole, .int .i64 x.span.table, .slice a1 x.span.lo.length a2, .slice a3 x.span.hi.length a4, .bool x.span.isOpen, .int .i64 x.mode] 29) = W from hW.symm]
  clear hW
  have rxx := hlx.below q
  have ryx := hhx.below q
  clear hlx hhx
  have cx0 := Bx.cell (i := 0) rfl
  have cx1 := Bx.cell (i := 1) rfl
  have cx2 := Bx.cell (i := 2) rfl
  have cx3 := Bx.cell (i := 3) rfl
  have cx4 := Bx.cell (i := 4) rfl
  have cx5 := Bx.cell (i := 5) rfl
  have cx6 := Bx.cell (i := 6) rfl
  by_cases h_o0 : 0 ≤ x.owner
  · have do0a : decide (x.owner < 0) = false := decide_eq_false (by omega)
    replace h_o0 := Lib.hid h_o0
    by_cases h_o4 : x.owner < 4
    · have do4a : decide (3 < x.owner) = false := decide_eq_false (by omega)
      replace h_o4 := Lib.hid h_o4
      cases h_wx : x.whole with
      | true =>
        rw [h_wx] at cx1
        replace h_wx := Lib.hid h_wx
        by_cases h_lo : x.span.lo.length = 0
        · have dla : ((x.span.lo.length : Int) == 0) = true := beq_iff_eq.2 (by omega)
          have dlb : decide ((x.span.lo.length : Int) = 0) = true := decide_eq_true (by omega)
          replace h_lo := Lib.hid h_lo
          by_cases h_hi : x.span.hi.length = 0
          · have dha : ((x.span.hi.length : Int) == 0) = true := beq_iff_eq.2 (by omega)
            have dhb : decide ((x.span.hi.length : Int) = 0) = true := decide_eq_true (by omega)
            replace h_hi := Lib.hid h_hi
            cases h_op : x.span.isOpen with
            | true =>
              rw [h_op] at cx5
              replace h_op := Lib.hid h_op
              replace h_o0 := h_o0.out
              replace h_o4 := h_o4.out
              replace h_wx := h_wx.out
              replace h_lo := h_lo.out
              replace h_hi := h_hi.out
              replace h_op := h_op.out
              have H := Lib.hid (show (fine x) = false from by
      rw [show fine x = false from eq_false_of_ne_true fun h0 => by
        have h := fine_iff.1 h0
        rcases h.2.2 with ⟨_, _, h1, _⟩ | ⟨h1, _⟩ <;> simp_all])
              clear h_o0 h_o4 h_wx h_lo h_hi h_op
              go_wp2_with fail
              go_ret
              exact ⟨by first | (rw [H.out]; done) | (rw [H.out]; rfl), q⟩
            | false =>
              rw [h_op] at cx5
              replace h_op := Lib.hid h_op
              by_cases h_t0 : 0 ≤ x.span.table
              · have dt0a : decide (0 ≤ x.span.table) = true := decide_eq_true (by omega)
                replace h_t0 := Lib.hid h_t0
                by_cases h_t3 : x.span.table ≤ 3
                · have dt3a : decide (x.span.table ≤ 3) = true := decide_eq_true (by omega)
                  replace h_t3 := Lib.hid h_t3
                  have hcl := may_any W x.mode
                  go_wp2_with fail
                  refine hcl.mono ?_
                  rintro e _ ⟨rfl, rfl⟩
                  clear hcl
                  by_cases h_mm : 0 < mayM x.mode
                  · have dmma : decide (0 < mayM x.mode) = true := decide_eq_true (by omega)
                    replace h_mm := Lib.hid h_mm
                    replace h_o0 := h_o0.out
                    replace h_o4 := h_o4.out
                    replace h_wx := h_wx.out
                    replace h_lo := h_lo.out
                    replace h_hi := h_hi.out
                    replace h_op := h_op.out
                    replace h_t0 := h_t0.out
                    replace h_t3 := h_t3.out
                    replace h_mm := h_mm.out
                    have H := Lib.hid (show (fine x) = true from by rw [show fine x = true from fine_iff.2 ⟨⟨by omega, by omega⟩, (by unfold mayS; have e1 : x.span.hi = [] := List.eq_nil_of_length_eq_zero (by omega); rw [e1]; simp; omega), .inl ⟨h_wx, (by have h9 := h_mm; exact may_kn (by omega)), h_op, by omega⟩⟩])
                    clear h_o0 h_o4 h_wx h_lo h_hi h_op h_t0 h_t3 h_mm
                    go_wp2_with fail
                    go_ret
                    exact ⟨by first | (rw [H.out]; done) | (rw [H.out]; rfl), q⟩
                  · have dmma : decide (0 < mayM x.mode) = false := decide_eq_false (by omega)
                    replace h_mm := Lib.hid h_mm
                    replace h_o0 := h_o0.out
                    replace h_o4 := h_o4.out
                    replace h_wx := h_wx.out
                    replace h_lo := h_lo.out
                    replace h_hi := h_hi.out
                    replace h_op := h_op.out
                    replace h_t0 := h_t0.out
                    replace h_t3 := h_t3.out
                    replace h_mm := h_mm.out
                    have H := Lib.hid (show (fine x) = false from by
      rw [show fine x = false from eq_false_of_ne_true fun h0 => by
        have h := fine_iff.1 h0
        have h1 := fine_kn (fine_iff.2 h); have := may_pos h1; omega])
                    clear h_o0 h_o4 h_wx h_lo h_hi h_op h_t0 h_t3 h_mm
                    go_wp2_with fail
                    go_ret
                    exact ⟨by first | (rw [H.out]; done) | (rw [H.out]; rfl), q⟩
                · have dt3a : decide (x.span.table ≤ 3) = false := decide_eq_false (by omega)
                  replace h_t3 := Lib.hid h_t3
                  replace h_o0 := h_o0.out
                  replace h_o4 := h_o4.out
                  replace h_wx := h_wx.out
                  replace h_lo := h_lo.out
                  replace h_hi := h_hi.out
                  replace h_op := h_op.out
                  replace h_t0 := h_t0.out
                  replace h_t3 := h_t3.out
                  have H := Lib.hid (show (fine x) = false from by
      rw [show fine x = false from eq_false_of_ne_true fun h0 => by
        have h := fine_iff.1 h0
        have h1 := h.2.1.2.1; omega])
                  clear h_o0 h_o4 h_wx h_lo h_hi h_op h_t0 h_t3
                  go_wp2_with fail
                  go_ret
                  exact ⟨by first | (rw [H.out]; done) | (rw [H.out]; rfl), q⟩
              · have dt0a : decide (0 ≤ x.span.table) = false := decide_eq_false (by omega)
                replace h_t0 := Lib.hid h_t0
                replace h_o0 := h_o0.out
                replace h_o4 := h_o4.out
                replace h_wx := h_wx.out
                replace h_lo := h_lo.out
                replace h_hi := h_hi.out
                replace h_op := h_op.out
                replace h_t0 := h_t0.out
                have H := Lib.hid (show (fine x) = false from by
      rw [show fine x = false from eq_false_of_ne_true fun h0 => by
        have h := fine_iff.1 h0
        have h1 := h.2.1.1; omega])
                clear h_o0 h_o4 h_wx h_lo h_hi h_op h_t0
                go_wp2_with fail
                go_ret
                exact ⟨by first | (rw [H.out]; done) | (rw [H.out]; rfl), q⟩
          · have dha : ((x.span.hi.length : Int) == 0) = false := beq_eq_false_iff_ne.2 (by omega)
            have dhb : decide ((x.span.hi.length : Int) = 0) = false := decide_eq_false (by omega)
            replace h_hi := Lib.hid h_hi
            replace h_o0 := h_o0.out
            replace h_o4 := h_o4.out
            replace h_wx := h_wx.out
            replace h_lo := h_lo.out
            replace h_hi := h_hi.out
            have H := Lib.hid (show (fine x) = false from by
      rw [show fine x = false from eq_false_of_ne_true fun h0 => by
        have h := fine_iff.1 h0
        rcases h.2.2 with ⟨_, _, _, h1⟩ | ⟨h1, _⟩
        · omega
        · rw [h_wx] at h1; cases h1])
            clear h_o0 h_o4 h_wx h_lo h_hi
            go_wp2_with fail
            go_ret
            exact ⟨by first | (rw [H.out]; done) | (rw [H.out]; rfl), q⟩
        · have dla : ((x.span.lo.length : Int) == 0) = false := beq_eq_false_iff_ne.2 (by omega)
          have dlb : decide ((x.span.lo.length : Int) = 0) = false := decide_eq_false (by omega)
          replace h_lo := Lib.hid h_lo
          replace h_o0 := h_o0.out
          replace h_o4 := h_o4.out
          replace h_wx := h_wx.out
          replace h_lo := h_lo.out
          have H := Lib.hid (show (fine x) = false from by
      rw [show fine x = false from eq_false_of_ne_true fun h0 => by
        have h := fine_iff.1 h0
        rcases h.2.2 with ⟨_, _, _, h1⟩ | ⟨h1, _⟩
        · omega
        · rw [h_wx] at h1; cases h1])
          clear h_o0 h_o4 h_wx h_lo
          go_wp2_with fail
          go_ret
          exact ⟨by first | (rw [H.out]; done) | (rw [H.out]; rfl), q⟩
      | false =>
        rw [h_wx] at cx1
        replace h_wx := Lib.hid h_wx
        have hcl := rCheck_any _ (RdLk.sp (show RdLk _ _ (.agg #[.int .i64 x.owner, .bool x.whole, .int .i64 x.span.table, .slice a1 x.span.lo.length a2, .slice a3 x.span.hi.length a4, .bool x.span.isOpen, .int .i64 x.mode]) x from ⟨_, _, _, _, rfl, rxx, ryx, hwx⟩))
        go_wp2_with fail
        refine hcl.mono ?_
        rintro e w1 ⟨rfl, hb⟩
        clear hcl
        clear cx0 cx1 cx2 cx3 cx4 cx5 cx6
        replace Bx := Bx.below hb Bx.lt
        replace rxx := rxx.below hb
        replace ryx := ryx.below hb
        replace q := q.trans (hb.mono q.size)
        clear hb
        have cx0 := Bx.cell (i := 0) rfl
        have cx1 := Bx.cell (i := 1) rfl
        have cx2 := Bx.cell (i := 2) rfl
        have cx3 := Bx.cell (i := 3) rfl
        have cx4 := Bx.cell (i := 4) rfl
        have cx5 := Bx.cell (i := 5) rfl
        have cx6 := Bx.cell (i := 6) rfl
        cases h_ck : decide (mayS x.span) with
        | true =>
          replace h_ck := Lib.hid h_ck
          have hcl := rEmpty_any _ (RdLk.sp (show RdLk _ _ (.agg #[.int .i64 x.owner, .bool x.whole, .int .i64 x.span.table, .slice a1 x.span.lo.length a2, .slice a3 x.span.hi.length a4, .bool x.span.isOpen, .int .i64 x.mode]) x from ⟨_, _, _, _, rfl, rxx, ryx, hwx⟩))
          go_wp2_with fail
          refine hcl.mono ?_
          rintro e w1 ⟨rfl, hb⟩
          clear hcl
          clear cx0 cx1 cx2 cx3 cx4 cx5 cx6
          replace Bx := Bx.below hb Bx.lt
          replace rxx := rxx.below hb
          replace ryx := ryx.below hb
          replace q := q.trans (hb.mono q.size)
          clear hb
          have cx0 := Bx.cell (i := 0) rfl
          have cx1 := Bx.cell (i := 1) rfl
          have cx2 := Bx.cell (i := 2) rfl
          have cx3 := Bx.cell (i := 3) rfl
          have cx4 := Bx.cell (i := 4) rfl
          have cx5 := Bx.cell (i := 5) rfl
          have cx6 := Bx.cell (i := 6) rfl
          cases h_em : emptyS x.span with
          | true =>
            replace h_em := Lib.hid h_em
            replace h_o0 := h_o0.out
            replace h_o4 := h_o4.out
            replace h_wx := h_wx.out
            replace h_ck := h_ck.out
            replace h_em := h_em.out
            have H := Lib.hid (show (fine x) = false from by
      rw [show fine x = false from eq_false_of_ne_true fun h0 => by
        have h := fine_iff.1 h0
        rcases h.2.2 with ⟨h1, _⟩ | ⟨_, h1, _⟩ <;> simp_all])
            clear h_o0 h_o4 h_wx h_ck h_em
            go_wp2_with fail
            go_ret
            exact ⟨by first | (rw [H.out]; done) | (rw [H.out]; rfl), q⟩
          | false =>
            replace h_em := Lib.hid h_em
            by_cases h_m3 : x.mode = 3
            · have dam3 : (x.mode == 3) = true := beq_iff_eq.2 h_m3
              have dbm3 : decide (x.mode = 3) = true := decide_eq_true h_m3
              have dcm3 : (x.mode = 3) = True := eq_true h_m3
              have ddm3 : (x.mode != 3) = false := by rw [bne_eq_false_iff_eq]; exact h_m3
              replace h_m3 := Lib.hid h_m3
              replace h_o0 := h_o0.out
              replace h_o4 := h_o4.out
              replace h_wx := h_wx.out
              replace h_ck := h_ck.out
              replace h_em := h_em.out
              replace h_m3 := h_m3.out
              have H := Lib.hid (show (fine x) = true from by rw [show fine x = true from fine_iff.2 ⟨⟨by omega, by omega⟩, of_decide_eq_true h_ck, .inr ⟨h_wx, h_em, .inl h_m3⟩⟩])
              clear h_o0 h_o4 h_wx h_ck h_em h_m3
              go_wp2_with fail
              go_ret
              exact ⟨by first | (rw [H.out]; done) | (rw [H.out]; rfl), q⟩
            · have dam3 : (x.mode == 3) = false := beq_eq_false_iff_ne.2 h_m3
              have dbm3 : decide (x.mode = 3) = false := decide_eq_false h_m3
              have dcm3 : (x.mode = 3) = False := eq_false h_m3
              have ddm3 : (x.mode != 3) = true := bne_iff_ne.2 h_m3
              replace h_m3 := Lib.hid h_m3
              by_cases h_m5 : x.mode = 5
              · have dam5 : (x.mode == 5) = true := beq_iff_eq.2 h_m5
                have dbm5 : decide (x.mode = 5) = true := decide_eq_true h_m5
                have dcm5 : (x.mode = 5) = True := eq_true h_m5
                have ddm5 : (x.mode != 5) = false := by rw [bne_eq_false_iff_eq]; exact h_m5
                replace h_m5 := Lib.hid h_m5
                replace h_o0 := h_o0.out
                replace h_o4 := h_o4.out
                replace h_wx := h_wx.out
                replace h_ck := h_ck.out
                replace h_em := h_em.out
                replace h_m3 := h_m3.out
                replace h_m5 := h_m5.out
                have H := Lib.hid (show (fine x) = true from by rw [show fine x = true from fine_iff.2 ⟨⟨by omega, by omega⟩, of_decide_eq_true h_ck, .inr ⟨h_wx, h_em, .inr h_m5⟩⟩])
                clear h_o0 h_o4 h_wx h_ck h_em h_m3 h_m5
                go_wp2_with fail
                go_ret
                exact ⟨by first | (rw [H.out]; done) | (rw [H.out]; rfl), q⟩
              · have dam5 : (x.mode == 5) = false := beq_eq_false_iff_ne.2 h_m5
                have dbm5 : decide (x.mode = 5) = false := decide_eq_false h_m5
                have dcm5 : (x.mode = 5) = False := eq_false h_m5
                have ddm5 : (x.mode != 5) = true := bne_iff_ne.2 h_m5
                replace h_m5 := Lib.hid h_m5
                replace h_o0 := h_o0.out
                replace h_o4 := h_o4.out
                replace h_wx := h_wx.out
                replace h_ck := h_ck.out
                replace h_em := h_em.out
                replace h_m3 := h_m3.out
                replace h_m5 := h_m5.out
                have H := Lib.hid (show (fine x) = false from by
      rw [show fine x = false from eq_false_of_ne_true fun h0 => by
        have h := fine_iff.1 h0
        rcases h.2.2 with ⟨h1, _⟩ | ⟨_, _, h1⟩ <;> simp_all])
                clear h_o0 h_o4 h_wx h_ck h_em h_m3 h_m5
                go_wp2_with fail
                go_ret
                exact ⟨by first | (rw [H.out]; done) | (rw [H.out]; rfl), q⟩
        | false =>
          replace h_ck := Lib.hid h_ck
          replace h_o0 := h_o0.out
          replace h_o4 := h_o4.out
          replace h_wx := h_wx.out
          replace h_ck := h_ck.out
          have H := Lib.hid (show (fine x) = false from by
      rw [show fine x = false from eq_false_of_ne_true fun h0 => by
        have h := fine_iff.1 h0
        exact absurd h.2.1 (of_decide_eq_false h_ck)])
          clear h_o0 h_o4 h_wx h_ck
          go_wp2_with fail
          go_ret
          exact ⟨by first | (rw [H.out]; done) | (rw [H.out]; rfl), q⟩
    · have do4a : decide (3 < x.owner) = true := decide_eq_true (by omega)
      replace h_o4 := Lib.hid h_o4
      replace h_o0 := h_o0.out
      replace h_o4 := h_o4.out
      have H := Lib.hid (show (fine x) = false from by
      rw [show fine x = false from eq_false_of_ne_true fun h0 => by
        have h := fine_iff.1 h0
        have := h.1; omega])
      clear h_o0 h_o4
      go_wp2_with fail
      go_ret
      exact ⟨by first | (rw [H.out]; done) | (rw [H.out]; rfl), q⟩
  · have do0a : decide (x.owner < 0) = true := decide_eq_true (by omega)
    replace h_o0 := Lib.hid h_o0
    replace h_o0 := h_o0.out
    have H := Lib.hid (show (fine x) = false from by
      rw [show fine x = false from eq_false_of_ne_true fun h0 => by
        have h := fine_iff.1 h0
        have := h.1; omega])
    clear h_o0
    go_wp2_with fail
    go_ret
    exact ⟨by first | (rw [H.out]; done) | (rw [H.out]; rfl), q⟩
set_option maxRecDepth 100000 in
set_option maxHeartbeats 4000000 in
theorem shortL_any (w : World) {S : Nat → Prop} {u : Value} {x : Lk} (hx : RdLk S w u x) :
    Calls Tryd.prog 10 #[u] w fun e w' => e = .returned (.bool (decide (shortS x.span))) ∧ Below w.heap.size w w' := by
  obtain ⟨a1, a2, a3, a4, rfl, hlx, hhx, hwx⟩ := hx
  have m1x : x.span.lo.length ≤ 9223372036854775807 := by have := hlx.len; unfold maxLen at this; omega
  have m2x : x.span.hi.length ≤ 9223372036854775807 := by have := hhx.len; unfold maxLen at this; omega
  obtain ⟨W, hW, q, Bx, hsz⟩ := spBox w 29 [.int .i64 x.owner, .bool x.whole, .int .i64 x.span.table, .slice a1 x.span.lo.length a2, .slice a3 x.span.hi.length a4, .bool x.span.isOpen, .int .i64 x.mode]
  clear hsz
  go_enter Tryd.func10, Tryd.ntmps10
  go_upto_region 1 with (fail)
  rw [show w.alloc (.cells #[.int .i64 x.owner, .bool x.whole, .int .i64 x.span.table, .slice a1 x.span.lo.length a2, .slice a3 x.span.hi.length a4, .bool x.span.isOpen, .int .i64 x.mode] 29) = W from hW.symm]
  clear hW
  have rxx := hlx.below q
  have ryx := hhx.below q
  clear hlx hhx
  have cx0 := Bx.cell (i := 0) rfl
  have cx1 := Bx.cell (i := 1) rfl
  have cx2 := Bx.cell (i := 2) rfl
  have cx3 := Bx.cell (i := 3) rfl
  have cx4 := Bx.cell (i := 4) rfl
  have cx5 := Bx.cell (i := 5) rfl
  have cx6 := Bx.cell (i := 6) rfl
  by_cases h_lo : x.span.lo.length ≤ 100
  · have dloa : decide ((x.span.lo.length : Int) ≤ 100) = true := decide_eq_true (by omega)
    replace h_lo := Lib.hid h_lo
    by_cases h_hi : x.span.hi.length ≤ 100
    · have dhia : decide ((x.span.hi.length : Int) ≤ 100) = true := decide_eq_true (by omega)
      replace h_hi := Lib.hid h_hi
      replace h_lo := h_lo.out
      replace h_hi := h_hi.out
      have H := Lib.hid (show (decide (shortS x.span)) = true from decide_eq_true ⟨by omega, by omega⟩)
      clear h_lo h_hi
      go_wp2_with fail
      go_ret
      exact ⟨by first | (rw [H.out]; done) | (rw [H.out]; rfl), q⟩
    · have dhia : decide ((x.span.hi.length : Int) ≤ 100) = false := decide_eq_false (by omega)
      replace h_hi := Lib.hid h_hi
      replace h_lo := h_lo.out
      replace h_hi := h_hi.out
      have H := Lib.hid (show (decide (shortS x.span)) = false from decide_eq_false fun h => by have := h.1; have := h.2; omega)
      clear h_lo h_hi
      go_wp2_with fail
      go_ret
      exact ⟨by first | (rw [H.out]; done) | (rw [H.out]; rfl), q⟩
  · have dloa : decide ((x.span.lo.length : Int) ≤ 100) = false := decide_eq_false (by omega)
    replace h_lo := Lib.hid h_lo
    replace h_lo := h_lo.out
    have H := Lib.hid (show (decide (shortS x.span)) = false from decide_eq_false fun h => by have := h.1; have := h.2; omega)
    clear h_lo
    go_wp2_with fail
    go_ret
    exact ⟨by first | (rw [H.out]; done) | (rw [H.out]; rfl), q⟩
end Go.Proofs.YtpdnehgboafgpaaDoor
namespace Go.Proofs.YtpdnehgboafgpaaDoor
open Go.RowKit Go.Shelf
def FndK (p : Lk → Bool) (l : List Lk) (v : Int) : Prop := (v = -1 ∧ ∀ y ∈ l, p y = false) ∨ ∃ (j : Nat) (h : j < l.length), v = (j : Int) ∧ p l[j] = true ∧ ∀ y ∈ l.take j, p y = false
def TellsK (F : FuncId) (bs caps : Array Value) (S : Nat → Prop) (w : World) (p : Lk → Bool) : Prop :=
  ∀ (W : World) (v : Value) (x : Lk), Below w.heap.size w W → RdLk S W v x → Calls Tryd.prog F (bs ++ #[v] ++ caps) W fun e W' => e = .returned (.bool (p x)) ∧ Below W.heap.size W W'
set_option maxRecDepth 100000 in
set_option maxHeartbeats 4000000 in
theorem lIndex_any (w : World) {S : Nat → Prop} {a : Option Addr} {n c : Nat} {l : List Lk} (hl : RdL Elt.lk S w (.slice a n c) l) (F : FuncId) (bs caps : Array Value) (hE : Enters Tryd.prog F) (p : Lk → Bool) (hF : TellsK F bs caps S w p) :
    Calls Tryd.prog 60 #[.slice a n c, .func (.func F) bs caps] w fun e w' => ∃ i : Int, e = .returned (.int .i64 i) ∧ FndK p l i ∧ Below w.heap.size w w' := by
  obtain ⟨rfl, hnc, hcm⟩ := hl.len
  have hlm : l.length ≤ 9223372036854775807 := by unfold maxLen at hcm; omega
  have hEE := hE
  unfold Enters at hEE
  have q := Below.refl w.heap.size w
  go_enter Tryd.func60, Tryd.ntmps60
  go_upto_region 2 with (fail)
  go_loopw [5, 8] (fun _ iv wr => ∃ (k : Nat), iv = .int .i64 k ∧ k ≤ l.length ∧ (∀ x ∈ l.take k, p x = false) ∧ Below w.heap.size w wr)
    (fun _ i _ => l.length - (intOf i).toNat)
  case atStart => exact ⟨0, rfl, Nat.zero_le _, by simp, q⟩
  case round =>
    clear q
    obtain ⟨k, rfl, hkl, hall, q⟩ := hrel
    replace hall := Lib.hid hall
    rcases Nat.lt_or_ge k l.length with hlt | hge
    · obtain ⟨b, off, A, C, A2, C2, rfl, hb, c0, c1, c2, c3, c4, c5, c6, hk1, hk2, hw64⟩ := (hl.below q).lk k hlt
      have hw : RdLk S wr (.agg #[.int .i64 l[k].owner, .bool l[k].whole, .int .i64 l[k].span.table, .slice A l[k].span.lo.length C, .slice A2 l[k].span.hi.length C2, .bool l[k].span.isOpen, .int .i64 l[k].mode]) l[k] := ⟨A, C, A2, C2, rfl, hk1, hk2, hw64⟩
      go_upto_region 4 with (fail)
      go_wp2_with fail
      refine (hF wr _ _ q hw).mono ?_
      rintro e w1 ⟨rfl, hb1⟩
      replace q := q.trans (hb1.mono q.size)
      clear c0 c1 c2 c3 c4 c5 c6 hk1 hk2 hw
      cases hm : p l[k] with
      | false =>
        have hall2 := Lib.hid (show ∀ x ∈ l.take (k + 1), p x = false from fun x hx => by
          rw [List.take_succ_eq_append_getElem hlt] at hx
          rcases List.mem_append.1 hx with h | h
          · exact hall.out x h
          · simp at h; rw [h]; exact hm)
        clear hall hm
        go_wp2_with fail
        go_roundw
        case rel => exact ⟨k + 1, by go_num, by omega, hall2.out, q⟩
        case measure => simp [intOf]; omega
      | true =>
        replace hm := Lib.hid hm
        go_wp2_with fail
        go_ret
        exact ⟨_, rfl, .inr ⟨k, hlt, rfl, hm.out, hall.out⟩, q⟩
    · obtain rfl : k = l.length := by omega
      have hno := Lib.hid (show ∀ x ∈ l, p x = false from fun x hx => hall.out x (by rw [List.take_length]; exact hx))
      clear hall
      go_wp2_with fail
      go_ret
      exact ⟨_, rfl, .inl ⟨rfl, hno.out⟩, q⟩
theorem fnd_any {p : Lk → Bool} {l : List Lk} {i : Int} (h : FndK p l i) : decide (0 ≤ i) = l.any p := by
  rcases h with ⟨h1, h2⟩ | ⟨j, h1, h2, h3, _⟩
  · rw [decide_eq_false (by omega), List.any_eq_false.2 fun x hx => by simp [h2 x hx]]
  · rw [decide_eq_true (by omega), List.any_eq_true.2 ⟨_, List.getElem_mem h1, h3⟩]
set_option maxRecDepth 100000 in
set_option maxHeartbeats 4000000 in
theorem lContains_any (w : World) {S : Nat → Prop} {a : Option Addr} {n c : Nat} {l : List Lk} (hl : RdL Elt.lk S w (.slice a n c) l) (F : FuncId) (bs caps : Array Value) (hE : Enters Tryd.prog F) (p : Lk → Bool) (hF : TellsK F bs caps S w p) :
    Calls Tryd.prog 37 #[.slice a n c, .func (.func F) bs caps] w fun e w' => e = .returned (.bool (l.any p)) ∧ Below w.heap.size w w' := by
  go_enter Tryd.func37, Tryd.ntmps37
  go_wp2_with fail
  refine (lIndex_any w hl F bs caps hE p hF).mono ?_
  rintro e w1 ⟨i, rfl, hi, hb⟩
  have hd := Lib.hid (fnd_any hi)
  clear hi
  go_wp2_with fail
  go_ret
  exact ⟨by first | (rw [hd.out]; done) | (rw [← hd.out]; rfl), hb⟩
end Go.Proofs.YtpdnehgboafgpaaDoor
namespace Go.Proofs.YtpdnehgboafgpaaDoor
open Go.RowKit Go.Shelf
theorem lks1 : ∀ i z, Tryd.prog.info? 29 = some i → i.zero = some z → ∀ u ∈ z.cells.toList, u.oneCell' = true := ones_of (z0 := .agg #[.int .i64 0, .bool false, .int .i64 0, .slice none 0 0, .slice none 0 0, .bool false, .int .i64 0]) (by kernel_rfl) (fun u hu => by
  simp [Value.cells] at hu
  rcases hu with rfl | rfl | rfl | rfl | rfl | rfl <;> rfl)
theorem Flat.dropK {α : Type} {E : Elt α} {S : Nat → Prop} {w : World} : ∀ {xs : List α} {vs : List Value} (_ : Flat E S w xs vs) (k : Nat), Flat E S w (xs.drop k) (vs.drop (k * E.size))
  | [], _, h, k => by cases h; simp [Flat]
  | x :: xs, _, h, 0 => by simpa using h
  | x :: xs, _, ⟨us, ws, rfl, h1, h2⟩, k + 1 => by
    have hl := E.len h1
    rw [show (k + 1) * E.size = us.length + k * E.size by rw [hl, Nat.add_mul]; omega, List.drop_length_add_append]
    exact Flat.dropK h2 k
theorem putU_take {α : Type} {vs us : List α} {f : Nat} (hf : f ≤ vs.length) : (vs.take f ++ (us ++ vs.drop (f + us.length))).take (f + us.length) = vs.take f ++ us := by
  have h : (vs.take f).length = f := by rw [List.length_take]; omega
  conv => lhs; rw [show f + us.length = (vs.take f).length + us.length by omega]
  rw [List.take_length_add_append, List.take_append_of_le_length (by omega), List.take_length]
theorem putU_drop {α : Type} {vs us : List α} {f m : Nat} (hm : f + us.length ≤ m) (hf : f ≤ vs.length) : (vs.take f ++ (us ++ vs.drop (f + us.length))).drop m = vs.drop m := by
  have h : (vs.take f).length = f := by rw [List.length_take]; omega
  conv => lhs; rw [show m = (vs.take f).length + (us.length + (m - (f + us.length))) by omega]
  rw [List.drop_length_add_append, List.drop_length_add_append, List.drop_drop]
  congr 1; omega
def TellsA (F : FuncId) (bs caps : Array Value) (p : Lk → Bool) : Prop :=
  ∀ (W : World) (S : Nat → Prop) (v : Value) (x : Lk), RdLk S W v x → Calls Tryd.prog F (bs ++ #[v] ++ caps) W fun e W' => e = .returned (.bool (p x)) ∧ Below W.heap.size W W'
theorem TellsA.k {F : FuncId} {bs caps : Array Value} {p : Lk → Bool} (h : TellsA F bs caps p) (S : Nat → Prop) (w : World) : TellsK F bs caps S w p := fun W v x _ hx => h W S v x hx
def notK (p : Lk → Bool) (l : List Lk) : List Lk := l.filter fun s => !p s
def DelK (w1 : World) (g cap : Nat) (S : Nat → Prop) (p : Lk → Bool) (l : List Lk) (iv jv : Value) (wr : World) : Prop :=
  ∃ (i j : Nat) (vs : List Value), iv = .int .i64 (i : Int) ∧ jv = .int .i64 (j : Int) ∧ i < j ∧ j ≤ l.length ∧ RowQ 29 7 wr (.slice (some ⟨g, 0, none⟩) l.length cap) l.length vs ∧
    Flat Elt.lk S wr (notK p (l.take j)) (vs.take (i * 7)) ∧ Flat Elt.lk S wr (l.drop j) (vs.drop (j * 7)) ∧ w1.grownBy wr (some g)
theorem notK_snoc {p : Lk → Bool} {l : List Lk} {j : Nat} (h : j < l.length) : notK p (l.take (j + 1)) = notK p (l.take j) ++ (if p l[j] = true then [] else [l[j]]) := by
  unfold notK
  rw [List.take_succ_eq_append_getElem h, List.filter_append]
  congr 1
  by_cases e : p l[j] = true <;> simp [e]
set_option maxRecDepth 100000 in
set_option maxHeartbeats 8000000 in
theorem lDelete_any (w : World) {S : Nat → Prop} {a : Option Addr} {n c : Nat} {l : List Lk} (hO : OwnF Elt.lk 29 S w (.slice a n c) l) (hS : ∀ k, S k → k < w.heap.size ∧ (Value.slice a n c).ownBlock ≠ some k) (hn : l.length ≤ 1000000) (F : FuncId) (bs caps : Array Value) (hE : Enters Tryd.prog F) (p : Lk → Bool) (hF : TellsA F bs caps p) :
    Calls Tryd.prog 55 #[.slice a n c, .func (.func F) bs caps] w fun e w' => ∃ k, e = .returned (.slice a k c) ∧ OwnF Elt.lk 29 S w' (.slice a k c) (notK p l) ∧ w.grownBy w' (Value.slice a n c).ownBlock := by
  obtain rfl : n = l.length := hO.len
  have hlm : l.length ≤ 9223372036854775807 := by omega
  have hEE := hE
  unfold Enters at hEE
  go_enter Tryd.func55, Tryd.ntmps55
  go_wp2_with fail
  refine (lIndex_any w hO.rdL F bs caps hE p (hF.k _ _)).mono ?_
  rintro e w1 ⟨i0, rfl, hi, hb⟩
  rcases hi with ⟨rfl, hno⟩ | ⟨j0, hj0, rfl, hy, hno⟩
  · have hfl := Lib.hid (show notK p l = l from List.filter_eq_self.2 fun x hx => by have := hno x hx; simpa using this)
    clear hno
    go_wp2_with fail
    go_ret
    exact ⟨_, rfl, by rw [hfl.out]; exact hO.below hb fun k hk => (hS k hk).1, grownB hb _⟩
  replace hO := hO.below hb fun k hk => (hS k hk).1
  obtain ⟨ns, hR, hflat⟩ := hO
  rcases hR.cases with ⟨_, h2, _⟩ | ⟨g, cap, cur, h1, h2, _⟩
  · omega
  injection h1 with h1 _ h1c
  subst h1 h1c
  have hgl : g < w1.heap.size := (Array.getElem?_eq_some_iff.1 h2).1
  have hSg : ∀ k, S k → k ≠ g := fun k hk e => (hS k hk).2 (by rw [e]; rfl)
  have r0 : DelK w1 g c S p l (.int .i64 ((j0 : Nat) : Int)) (.int .i64 ((j0 : Int) + 1)) w1 := by
    refine ⟨j0, j0 + 1, ns, rfl, by go_num, by omega, by omega, hR, ?_, hflat.dropK (j0 + 1), grownB (Below.refl _ _) _⟩
    rw [notK_snoc hj0, if_pos hy, List.append_nil, show notK p (l.take j0) = l.take j0 from List.filter_eq_self.2 fun x hx => by have := hno x hx; simpa using this]
    exact hflat.take j0
  have dj : decide ((j0 : Int) = -1) = false := decide_eq_false (by omega)
  have dj2 : ((j0 : Int) == -1) = false := beq_eq_false_iff_ne.2 (by omega)
  have hgb : w.grownBy w1 (some g) := grownB hb _
  have hS1 : ∀ k, S k → k < w1.heap.size := fun k hk => Nat.lt_of_lt_of_le (hS k hk).1 hb.size
  clear hy hno h2 hR hflat hb hS
  go_upto_region 5 with (fail)
  go_loopw [5, 6] (fun iv jv wr => DelK w1 g c S p l iv jv wr) (fun _ jv _ => l.length - (intOf jv).toNat)
  case atStart => exact r0
  case round =>
    clear r0 dj dj2
    obtain ⟨i, j, vs, rfl, rfl, hij, hjl, hR, hF1, hG, q⟩ := hrel
    rcases Nat.lt_or_ge j l.length with hlt | hge
    · rw [List.drop_eq_getElem_cons hlt] at hG
      obtain ⟨us, rest, eus, ⟨kv, hv, rfl, hk1, hk2, hw64⟩, hG⟩ := hG
      obtain ⟨A1, C1, rfl, _, _⟩ := hk1.shape
      obtain ⟨A2, C2, rfl, _, _⟩ := hk2.shape
      obtain ⟨x, ex⟩ : ∃ x, x = l[j] := ⟨_, rfl⟩
      have hns := Lib.hid (show notK p (l.take (j + 1)) = notK p (l.take j) ++ (if p x = true then [] else [x]) by rw [ex]; exact notK_snoc hlt)
      rw [← ex] at hk1 hk2 hw64 eus
      clear ex
      have hcq : ∀ q u, (lkC x (.slice A1 x.span.lo.length C1) (.slice A2 x.span.hi.length C2))[q]? = some u → wr.cell? ⟨g, j * 7 + q, none⟩ = some u := fun q u hq => hR.cell rfl (by
        rw [← List.getElem?_drop, eus, List.getElem?_append_left (List.getElem?_eq_some_iff.1 hq).1]; exact hq)
      have c0 : wr.cell? ⟨g, j * 7, none⟩ = some (.int .i64 x.owner) := hcq 0 _ rfl
      have c1 := hcq 1 _ rfl
      have c2 := hcq 2 _ rfl
      have c3 := hcq 3 _ rfl
      have c4 := hcq 4 _ rfl
      have c5 := hcq 5 _ rfl
      have c6 := hcq 6 _ rfl
      have hG2 := Lib.hid (show rest = vs.drop ((j + 1) * 7) by
        rw [show (j + 1) * 7 = j * 7 + 7 by omega, ← List.drop_drop, eus]; rfl)
      have zr := hR.lt rfl
      clear hcq eus
      go_upto_region 8 with (first | (refine wpList_boxNew (vs := [.int .i64 0, .bool false, .int .i64 0, .slice none 0 0, .slice none 0 0, .bool false, .int .i64 0]) (by kernel_rfl) rfl rfl ?_; intro wa hba hBa) | (refine wpList_boxStore (us := [.int .i64 x.owner, .bool x.whole, .int .i64 x.span.table, .slice A1 x.span.lo.length C1, .slice A2 x.span.hi.length C2, .bool x.span.isOpen, .int .i64 x.mode]) (by kernel_rfl) rfl rfl rfl rfl rfl rfl hBa rfl ?_; intro W hgw hXW) | fail)
      go_simp
      have hbw : Below wr.heap.size wr W := hba.grown hgw hba.size fun k hk => by injection hk with hk; omega
      have zq := q.size
      have hkp : ∀ k, S k → W.heap[k]? = wr.heap[k]? := fun k hk => hbw.block k (by have := hS1 k hk; omega)
      have hx : RdLk S W (.agg #[.int .i64 x.owner, .bool x.whole, .int .i64 x.span.table, .slice A1 x.span.lo.length C1, .slice A2 x.span.hi.length C2, .bool x.span.isOpen, .int .i64 x.mode]) x := ⟨_, _, _, _, rfl, hk1.keep hkp, hk2.keep hkp, hw64⟩
      replace hR := hR.below hbw
      replace hF1 := hF1.keep hkp
      replace hG := hG.keep hkp
      replace q := grownT q (grownB hbw (some g))
      clear c0 c1 c2 c3 c4 c5 c6 hk1 hk2 hba hBa hgw hbw hkp zq zr
      have f0 := hXW.cell (i := 0) rfl
      have f1 := hXW.cell (i := 1) rfl
      have f2 := hXW.cell (i := 2) rfl
      have f3 := hXW.cell (i := 3) rfl
      have f4 := hXW.cell (i := 4) rfl
      have f5 := hXW.cell (i := 5) rfl
      have f6 := hXW.cell (i := 6) rfl
      go_wp2_with fail
      refine (hF W S _ _ hx).mono ?_
      rintro e w3 ⟨rfl, hb3⟩
      have zq := q.size
      have hkp : ∀ k, S k → w3.heap[k]? = W.heap[k]? := fun k hk => hb3.block k (by have := hS1 k hk; omega)
      have hx3 : RdLk S w3 (.agg #[.int .i64 x.owner, .bool x.whole, .int .i64 x.span.table, .slice A1 x.span.lo.length C1, .slice A2 x.span.hi.length C2, .bool x.span.isOpen, .int .i64 x.mode]) x := hx.keep hkp
      replace hR := hR.below hb3
      replace hF1 := hF1.keep hkp
      replace hG := hG.keep hkp
      replace hXW := hXW.below hb3 hXW.lt
      replace q := grownT q (grownB hb3 (some g))
      have hvl := hR.len
      clear f0 f1 f2 f3 f4 f5 f6 hx hb3 hkp
      cases hxt : p x with
      | true =>
        have hns2 := Lib.hid (show notK p (l.take (j + 1)) = notK p (l.take j) by rw [hns.out, if_pos hxt, List.append_nil])
        clear hxt hns hx3 hXW
        go_wp2_with fail
        go_roundw
        case rel => exact ⟨i, j + 1, vs, rfl, by go_num, by omega, by omega, hR, by rw [hns2.out]; exact hF1, by rw [← hG2.out]; exact hG, q⟩
        case measure => simp [intOf]; omega
      | false =>
        have hns2 := Lib.hid (show notK p (l.take (j + 1)) = notK p (l.take j) ++ [x] by rw [hns.out, if_neg (by rw [hxt]; decide)])
        clear hxt hns
        have f0 := hXW.cell (i := 0) rfl
        have f1 := hXW.cell (i := 1) rfl
        have f2 := hXW.cell (i := 2) rfl
        have f3 := hXW.cell (i := 3) rfl
        have f4 := hXW.cell (i := 4) rfl
        have f5 := hXW.cell (i := 5) rfl
        have f6 := hXW.cell (i := 6) rfl
        have hil : ((i : Nat) : Int) < (l.length : Int) := by omega
        go_wp2_with (first | (refine wpList_putU (us := [.int .i64 x.owner, .bool x.whole, .int .i64 x.span.table, .slice A1 x.span.lo.length C1, .slice A2 x.span.hi.length C2, .bool x.span.isOpen, .int .i64 x.mode]) (f := i * 7) (by kernel_rfl) rfl rfl rfl rfl rfl rfl hR rfl (by simp only [List.length_cons, List.length_nil]; omega) ?_; intro w4 hg4 hR4) | fail)
        have hkp : ∀ k, S k → w4.heap[k]? = w3.heap[k]? := fun k hk => hg4.block k (by have := q.size; have := hS1 k hk; omega) fun e => by injection e with e; exact hSg k hk e
        have hxR : Elt.lk.R S w4 x [.int .i64 x.owner, .bool x.whole, .int .i64 x.span.table, .slice A1 x.span.lo.length C1, .slice A2 x.span.hi.length C2, .bool x.span.isOpen, .int .i64 x.mode] := (hx3.keep hkp).R
        replace q := grownT q hg4
        replace hF1 := (hF1.keep hkp).append (Flat.single hxR)
        replace hG := hG.keep hkp
        clear f0 f1 f2 f3 f4 f5 f6 hXW hx3 hR hg4 hkp hxR
        go_roundw
        case rel => exact ⟨i + 1, j + 1, _, by go_num, by go_num, by omega, by omega, hR4, by
          have h9 := putU_take (vs := vs) (us := [Value.int .i64 x.owner, .bool x.whole, .int .i64 x.span.table, .slice A1 x.span.lo.length C1, .slice A2 x.span.hi.length C2, .bool x.span.isOpen, .int .i64 x.mode]) (f := i * 7) (by omega)
          rw [hns2.out, show (i + 1) * 7 = i * 7 + 7 by omega]
          exact h9 ▸ hF1, by rw [putU_drop (by simp only [List.length_cons, List.length_nil]; omega) (by omega), ← hG2.out]; exact hG, q⟩
        case measure => simp [intOf]; omega
    · obtain rfl : j = l.length := by omega
      rw [List.take_length] at hF1
      have hvl := hR.len
      have hil : (notK p l).length = i := by
        have h := hF1.len
        rw [List.length_take, hvl] at h
        have h2 : Elt.lk.size = 7 := rfl
        rw [h2] at h
        omega
      rcases hR.cases with ⟨h1, _, _⟩ | ⟨g', cap', cur', h1, hg3, h3', h4', h5', h6'⟩
      · cases h1
      injection h1 with h1 _ h1c
      injection h1 with h1
      injection h1 with h1 _ _
      subst h1 h1c
      have hcne : c ≠ i := by omega
      have d0 : decide ((l.length : Int) < (l.length : Int)) = false := decide_eq_false (by omega)
      clear hG
      go_wp2_with (go_big_may; first
        | (refine wpList_sliceFrom lkP.toLsP rfl rfl rfl (l := i) (r := l.length) (run_bounds_l' _ (by omega) (by omega)) hcne ?_)
        | (refine wpList_clearQ lkP lks1 rfl rfl rfl rfl hg3 (.inr rfl) (.inr (by rw [h5', Nat.zero_add, ← Nat.add_mul]; exact Nat.mul_le_mul_right _ (by omega))) ?_; intro W4 C4 hg4 hs4 ht4 _ hgr4)
        | (refine wpList_sliceTo lkP.toLsP rfl rfl rfl (run_bounds_h _ (by omega)) ?_)
        | fail)
      go_ret
      have zq := q.size
      have z4 := hgr4.size
      have hF4 := hF1.keep (w' := W4) fun k hk => hgr4.block k (by have := hS1 k hk; omega) fun e => by injection e with e; exact hSg k hk e
      refine ⟨i, rfl, ⟨vs.take (i * 7), ?_, hF4⟩, grownT (grownT hgb q) hgr4⟩
      rw [hil]
      refine RowQ.of hg4 (by omega) h4' (by rw [hs4, h5']; rfl) ?_ fun u hu => hR.2 u (List.mem_of_mem_take hu)
      show C4.toList.take (i * 7) = _
      have h7 := ht4 (by omega)
      have h8 : C4.toList.take (i * 7) = cur'.toList.take (i * 7) := by
        first
          | exact h7
          | simpa using h7
      rw [h8, ← h6', List.take_take]
      congr 1
      omega
end Go.Proofs.YtpdnehgboafgpaaDoor
namespace Go.Proofs.YtpdnehgboafgpaaDoor
open Go.RowKit Go.Shelf
theorem eClashes : Enters Tryd.prog 65 := enters_of Tryd.func65 (by kernel_rfl) rfl
theorem eSame : Enters Tryd.prog 40 := enters_of Tryd.func40 (by kernel_rfl) rfl
theorem eOwns : Enters Tryd.prog 43 := enters_of Tryd.func43 (by kernel_rfl) rfl
theorem eServed : Enters Tryd.prog 59 := enters_of Tryd.func59 (by kernel_rfl) rfl
theorem eWrong : Enters Tryd.prog 38 := enters_of Tryd.func38 (by kernel_rfl) rfl
section
variable {S S2 : Nat → Prop} {w : World} {u : Value} {x : Lk}
theorem tClashes (hT : TabAt w) (hx : RdLk S w u x) : TellsK 65 #[u] #[] S2 w (clashL x) := fun W _ _ hb hy => clashes_any W (hT.below hb) (hx.below hb) hy
theorem tSame (hx : RdLk S w u x) : TellsK 40 #[u] #[] S2 w (sameL x) := fun W _ _ hb hy => same_any W (hx.below hb) hy
theorem tServed (hx : RdLk S w u x) : TellsK 59 #[u] #[] S2 w (servesL x) := fun W _ _ hb hy => served_any W (hx.below hb) hy
theorem tOwns (hx : RdLk S w u x) : TellsK 43 #[u] #[] S2 w (ownsL x) := fun W _ _ hb hy => owns_any W (hx.below hb) hy
theorem tWrong : TellsK 38 #[] #[] S2 w (fun y => !fine y) := fun W _ _ _ hy => wrong_any W hy
end
set_option maxRecDepth 100000 in
set_option maxHeartbeats 4000000 in
theorem blocked_any (w : World) (hT : TabAt w) {S S2 S3 : Nat → Prop} {x : Lk} {x1 x3 aH aQ : Option Addr} {x2 x4 cH cQ : Nat} {H Q : List Lk} (hx : RdLk S w (.agg #[.int .i64 x.owner, .bool x.whole, .int .i64 x.span.table, .slice x1 x.span.lo.length x2, .slice x3 x.span.hi.length x4, .bool x.span.isOpen, .int .i64 x.mode]) x)
    (hH : RdL Elt.lk S2 w (.slice aH H.length cH) H) (hQ : RdL Elt.lk S3 w (.slice aQ Q.length cQ) Q) :
    Calls Tryd.prog 39 #[.agg #[.int .i64 x.owner, .bool x.whole, .int .i64 x.span.table, .slice x1 x.span.lo.length x2, .slice x3 x.span.hi.length x4, .bool x.span.isOpen, .int .i64 x.mode, .slice aH H.length cH, .slice aQ Q.length cQ]] w fun e w' => e = .returned (.bool (blk x H Q)) ∧ Below w.heap.size w w' := by
  obtain ⟨W, hW, q, Bx, hsz⟩ := spBox w 61 [.int .i64 x.owner, .bool x.whole, .int .i64 x.span.table, .slice x1 x.span.lo.length x2, .slice x3 x.span.hi.length x4, .bool x.span.isOpen, .int .i64 x.mode, .slice aH H.length cH, .slice aQ Q.length cQ]
  clear hsz
  have hC1 := lContains_any W (hH.below q) _ _ _ eClashes _ (tClashes (hT.below q) (hx.below q))
  go_enter Tryd.func39, Tryd.ntmps39
  go_upto_region 1 with (fail)
  rw [show w.alloc (.cells #[.int .i64 x.owner, .bool x.whole, .int .i64 x.span.table, .slice x1 x.span.lo.length x2, .slice x3 x.span.hi.length x4, .bool x.span.isOpen, .int .i64 x.mode, .slice aH H.length cH, .slice aQ Q.length cQ] 61) = W from hW.symm]
  clear hW
  have c0 := Bx.cell (i := 0) rfl
  have c1 := Bx.cell (i := 1) rfl
  have c2 := Bx.cell (i := 2) rfl
  have c3 := Bx.cell (i := 3) rfl
  have c4 := Bx.cell (i := 4) rfl
  have c5 := Bx.cell (i := 5) rfl
  have c6 := Bx.cell (i := 6) rfl
  have c7 := Bx.cell (i := 7) rfl
  have c8 := Bx.cell (i := 8) rfl
  go_wp2_with fail
  refine hC1.mono ?_
  rintro e w1 ⟨rfl, hb⟩
  replace q := q.trans (hb.mono q.size)
  replace Bx := Bx.below hb Bx.lt
  clear c0 c1 c2 c3 c4 c5 c6 c7 c8 hC1 hb
  cases h1 : H.any (clashL x) with
  | true =>
    have Hh := Lib.hid (show blk x H Q = true by unfold blk; rw [h1]; rfl)
    clear h1
    go_wp2_with fail
    go_ret
    exact ⟨by first | (rw [Hh.out]; done) | (rw [Hh.out]; rfl), q⟩
  | false =>
    have Hh := Lib.hid (show blk x H Q = Q.any (clashL x) by unfold blk; rw [h1]; rfl)
    clear h1
    have hC2 := lContains_any w1 (hQ.below q) _ _ _ eClashes _ (tClashes (hT.below q) (hx.below q))
    have c0 := Bx.cell (i := 0) rfl
    have c1 := Bx.cell (i := 1) rfl
    have c2 := Bx.cell (i := 2) rfl
    have c3 := Bx.cell (i := 3) rfl
    have c4 := Bx.cell (i := 4) rfl
    have c5 := Bx.cell (i := 5) rfl
    have c6 := Bx.cell (i := 6) rfl
    have c7 := Bx.cell (i := 7) rfl
    have c8 := Bx.cell (i := 8) rfl
    go_wp2_with fail
    refine hC2.mono ?_
    rintro e w2 ⟨rfl, hb⟩
    replace q := q.trans (hb.mono q.size)
    clear c0 c1 c2 c3 c4 c5 c6 c7 c8 hC2 hb
    go_wp2_with fail
    go_ret
    exact ⟨by first | (rw [Hh.out]; done) | (rw [Hh.out]; rfl), q⟩
end Go.Proofs.YtpdnehgboafgpaaDoor
