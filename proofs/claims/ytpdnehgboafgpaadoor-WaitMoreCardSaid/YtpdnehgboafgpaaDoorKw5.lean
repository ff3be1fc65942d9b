/-
  TEXTS OF ONE PROOF, merged: LkA, Quo, Slg.
-/
import Derived.Laws.Externs
import Derived.Lib.AppendZerosOnto
import Derived.Lib.Overlaps
import Derived.Test.YtpdnehgboafgpaaDoorKw3
import Derived.Test.YtpdnehgboafgpaaDoorKw4
namespace Go.Proofs.YtpdnehgboafgpaaDoor
open Go.RowKit Go.Shelf
theorem TabAt.below {w w' : World} (h : TabAt w) (hb : Below w.heap.size w w') : TabAt w' := fun a b ha hb2 => by
  have hc := h a b ha hb2
  rw [cell_keep (hb.block _ (cell_lt hc))]
  exact hc
theorem may_kn {a : Int} (h : 0 < mayM a) : kn a = true := by
  cases h1 : kn a with
  | true => rfl
  | false => rw [may_none h1] at h; omega
theorem may_pos {a : Int} (h : kn a = true) : 0 < mayM a := by
  rcases md_cases a with rfl | rfl | rfl | rfl | rfl | h1
  case inr.inr.inr.inr.inr => rw [h1] at h; cases h
  all_goals decide
set_option maxRecDepth 100000 in
set_option maxHeartbeats 4000000 in
theorem owns_any (w : World) {S S2 : Nat → Prop} {u v : Value} {x y : Lk} (hx : RdLk S w u x) (hy : RdLk S2 w v y) :
    Calls Tryd.prog 43 #[u, v] w fun e w' => e = .returned (.bool (ownsL x y)) ∧ Below w.heap.size w w' := by
  obtain ⟨a1, a2, a3, a4, rfl, hlx, hhx, hwx⟩ := hx
  have m1x : x.span.lo.length ≤ 9223372036854775807 := by have := hlx.len; unfold maxLen at this; omega
  have m2x : x.span.hi.length ≤ 9223372036854775807 := by have := hhx.len; unfold maxLen at this; omega
  obtain ⟨b1, b2, b3, b4, rfl, hly, hhy, hwy⟩ := hy
  have m1y : y.span.lo.length ≤ 9223372036854775807 := by have := hly.len; unfold maxLen at this; omega
  have m2y : y.span.hi.length ≤ 9223372036854775807 := by have := hhy.len; unfold maxLen at this; omega
  obtain ⟨W, hW, q, Bx, By, hsz⟩ := spBoxes2 w 59 29 [.int .i64 x.owner, .bool x.whole, .int .i64 x.span.table, .slice a1 x.span.lo.length a2, .slice a3 x.span.hi.length a4, .bool x.span.isOpen, .int .i64 x.mode] [.int .i64 y.owner, .bool y.whole, .int .i64 y.span.table, .slice b1 y.span.lo.length b2, .slice b3 y.span.hi.length b4, .bool y.span.isOpen, .int .i64 y.mode]
  clear hsz
  go_enter Tryd.func43, Tryd.ntmps43
  go_upto_region 1 with (fail)
  rw [show (w.alloc (.cells #[.int .i64 x.owner, .bool x.whole, .int .i64 x.span.table, .slice a1 x.span.lo.length a2, .slice a3 x.span.hi.length a4, .bool x.span.isOpen, .int .i64 x.mode] 59)).alloc (.cells #[.int .i64 y.owner, .bool y.whole, .int .i64 y.span.table, .slice b1 y.span.lo.length b2, .slice b3 y.span.hi.length b4, .bool y.span.isOpen, .int .i64 y.mode] 29) = W from hW.symm]
  clear hW
  have rxx := hlx.below q
  have ryx := hhx.below q
  clear hlx hhx
  have rxy := hly.below q
  have ryy := hhy.below q
  clear hly hhy
  have cx0 := Bx.cell (i := 0) rfl
  have cx1 := Bx.cell (i := 1) rfl
  have cx2 := Bx.cell (i := 2) rfl
  have cx3 := Bx.cell (i := 3) rfl
  have cx4 := Bx.cell (i := 4) rfl
  have cx5 := Bx.cell (i := 5) rfl
  have cx6 := Bx.cell (i := 6) rfl
  have cy0 := By.cell (i := 0) rfl
  have cy1 := By.cell (i := 1) rfl
  have cy2 := By.cell (i := 2) rfl
  have cy3 := By.cell (i := 3) rfl
  have cy4 := By.cell (i := 4) rfl
  have cy5 := By.cell (i := 5) rfl
  have cy6 := By.cell (i := 6) rfl
  by_cases h_ow : y.owner = x.owner
  · have daow : (y.owner == x.owner) = true := beq_iff_eq.2 h_ow
    have dbow : decide (y.owner = x.owner) = true := decide_eq_true h_ow
    have dcow : (y.owner = x.owner) = True := eq_true h_ow
    have ddow : (y.owner != x.owner) = false := by rw [bne_eq_false_iff_eq]; exact h_ow
    replace h_ow := Lib.hid h_ow
    replace h_ow := h_ow.out
    have H := Lib.hid (show (ownsL x y) = true from by unfold ownsL; simp [h_ow])
    clear h_ow
    go_wp2_with fail
    go_ret
    exact ⟨by first | (rw [H.out]; done) | (rw [H.out]; rfl), q⟩
  · have daow : (y.owner == x.owner) = false := beq_eq_false_iff_ne.2 h_ow
    have dbow : decide (y.owner = x.owner) = false := decide_eq_false h_ow
    have dcow : (y.owner = x.owner) = False := eq_false h_ow
    have ddow : (y.owner != x.owner) = true := bne_iff_ne.2 h_ow
    replace h_ow := Lib.hid h_ow
    replace h_ow := h_ow.out
    have H := Lib.hid (show (ownsL x y) = false from by unfold ownsL; simp [h_ow])
    clear h_ow
    go_wp2_with fail
    go_ret
    exact ⟨by first | (rw [H.out]; done) | (rw [H.out]; rfl), q⟩
set_option maxRecDepth 100000 in
set_option maxHeartbeats 4000000 in
theorem clash_any (w : World) (hT : TabAt w) {S S2 : Nat → Prop} {u v : Value} {x y : Lk} (hx : RdLk S w u x) (hy : RdLk S2 w v y) :
    Calls Tryd.prog 16 #[u, v] w fun e w' => e = .returned (.bool (clashL x y)) ∧ Below w.heap.size w w' := by
  obtain ⟨a1, a2, a3, a4, rfl, hlx, hhx, hwx⟩ := hx
  have m1x : x.span.lo.length ≤ 9223372036854775807 := by have := hlx.len; unfold maxLen at this; omega
  have m2x : x.span.hi.length ≤ 9223372036854775807 := by have := hhx.len; unfold maxLen at this; omega
  obtain ⟨b1, b2, b3, b4, rfl, hly, hhy, hwy⟩ := hy
  have m1y : y.span.lo.length ≤ 9223372036854775807 := by have := hly.len; unfold maxLen at this; omega
  have m2y : y.span.hi.length ≤ 9223372036854775807 := by have := hhy.len; unfold maxLen at this; omega
  obtain ⟨W, hW, q, Bx, By, hsz⟩ := spBoxes2 w 29 29 [.int .i64 x.owner, .bool x.whole, .int .i64 x.span.table, .slice a1 x.span.lo.length a2, .slice a3 x.span.hi.length a4, .bool x.span.isOpen, .int .i64 x.mode] [.int .i64 y.owner, .bool y.whole, .int .i64 y.span.table, .slice b1 y.span.lo.length b2, .slice b3 y.span.hi.length b4, .bool y.span.isOpen, .int .i64 y.mode]
  clear hsz
  go_enter Tryd.func16, Tryd.ntmps16
  go_upto_region 1 with (fail)
  rw [show (w.alloc (.cells #[.int .i64 x.owner, .bool x.whole, .int .i64 x.span.table, .slice a1 x.span.lo.length a2, .slice a3 x.span.hi.length a4, .bool x.span.isOpen, .int .i64 x.mode] 29)).alloc (.cells #[.int .i64 y.owner, .bool y.whole, .int .i64 y.span.table, .slice b1 y.span.lo.length b2, .slice b3 y.span.hi.length b4, .bool y.span.isOpen, .int .i64 y.mode] 29) = W from hW.symm]
  clear hW
  have rxx := hlx.below q
  have ryx := hhx.below q
  clear hlx hhx
  have rxy := hly.below q
  have ryy := hhy.below q
  clear hly hhy
  replace hT := hT.below q
  have cx0 := Bx.cell (i := 0) rfl
  have cx1 := Bx.cell (i := 1) rfl
  have cx2 := Bx.cell (i := 2) rfl
  have cx3 := Bx.cell (i := 3) rfl
  have cx4 := Bx.cell (i := 4) rfl
  have cx5 := Bx.cell (i := 5) rfl
  have cx6 := Bx.cell (i := 6) rfl
  have cy0 := By.cell (i := 0) rfl
  have cy1 := By.cell (i := 1) rfl
  have cy2 := By.cell (i := 2) rfl
  have cy3 := By.cell (i := 3) rfl
  have cy4 := By.cell (i := 4) rfl
  have cy5 := By.cell (i := 5) rfl
  have cy6 := By.cell (i := 6) rfl
  by_cases h_ow : x.owner = y.owner
  · have daow : (x.owner == y.owner) = true := beq_iff_eq.2 h_ow
    have dbow : decide (x.owner = y.owner) = true := decide_eq_true h_ow
    have dcow : (x.owner = y.owner) = True := eq_true h_ow
    have ddow : (x.owner != y.owner) = false := by rw [bne_eq_false_iff_eq]; exact h_ow
    replace h_ow := Lib.hid h_ow
    replace h_ow := h_ow.out
    have H := Lib.hid (show (clashL x y) = false from by unfold clashL; simp [h_ow])
    clear h_ow
    go_wp2_with fail
    go_ret
    exact ⟨by first | (rw [H.out]; done) | (rw [H.out]; rfl), q⟩
  · have daow : (x.owner == y.owner) = false := beq_eq_false_iff_ne.2 h_ow
    have dbow : decide (x.owner = y.owner) = false := decide_eq_false h_ow
    have dcow : (x.owner = y.owner) = False := eq_false h_ow
    have ddow : (x.owner != y.owner) = true := bne_iff_ne.2 h_ow
    replace h_ow := Lib.hid h_ow
    by_cases h_tb : x.span.table = y.span.table
    · have datb : (x.span.table == y.span.table) = true := beq_iff_eq.2 h_tb
      have dbtb : decide (x.span.table = y.span.table) = true := decide_eq_true h_tb
      have dctb : (x.span.table = y.span.table) = True := eq_true h_tb
      have ddtb : (x.span.table != y.span.table) = false := by rw [bne_eq_false_iff_eq]; exact h_tb
      replace h_tb := Lib.hid h_tb
      cases h_wx : x.whole with
      | true =>
        rw [h_wx] at cx1
        replace h_wx := Lib.hid h_wx
        cases h_wy : y.whole with
        | true =>
          rw [h_wy] at cy1
          replace h_wy := Lib.hid h_wy
          have hcl := fits_any _ hT x.mode y.mode
          go_wp2_with fail
          refine hcl.mono ?_
          rintro e _ ⟨rfl, rfl⟩
          clear hcl
          cases h_ft : fitM x.mode y.mode with
          | true =>
            replace h_ft := Lib.hid h_ft
            replace h_ow := h_ow.out
            replace h_tb := h_tb.out
            replace h_wx := h_wx.out
            replace h_wy := h_wy.out
            replace h_ft := h_ft.out
            have H := Lib.hid (show (clashL x y) = false from by unfold clashL; simp [h_ow, h_tb, h_wx, h_wy, h_ft])
            clear h_ow h_tb h_wx h_wy h_ft
            go_wp2_with fail
            go_ret
            exact ⟨by first | (rw [H.out]; done) | (rw [H.out]; rfl), q⟩
          | false =>
            replace h_ft := Lib.hid h_ft
            replace h_ow := h_ow.out
            replace h_tb := h_tb.out
            replace h_wx := h_wx.out
            replace h_wy := h_wy.out
            replace h_ft := h_ft.out
            have H := Lib.hid (show (clashL x y) = true from by unfold clashL; simp [h_ow, h_tb, h_wx, h_wy, h_ft])
            clear h_ow h_tb h_wx h_wy h_ft
            go_wp2_with fail
            go_ret
            exact ⟨by first | (rw [H.out]; done) | (rw [H.out]; rfl), q⟩
        | false =>
          rw [h_wy] at cy1
          replace h_wy := Lib.hid h_wy
          replace h_ow := h_ow.out
          replace h_tb := h_tb.out
          replace h_wx := h_wx.out
          replace h_wy := h_wy.out
          have H := Lib.hid (show (clashL x y) = false from by unfold clashL; simp [h_ow, h_tb, h_wx, h_wy])
          clear h_ow h_tb h_wx h_wy
          go_wp2_with fail
          go_ret
          exact ⟨by first | (rw [H.out]; done) | (rw [H.out]; rfl), q⟩
      | false =>
        rw [h_wx] at cx1
        replace h_wx := Lib.hid h_wx
        cases h_wy : y.whole with
        | true =>
          rw [h_wy] at cy1
          replace h_wy := Lib.hid h_wy
          replace h_ow := h_ow.out
          replace h_tb := h_tb.out
          replace h_wx := h_wx.out
          replace h_wy := h_wy.out
          have H := Lib.hid (show (clashL x y) = false from by unfold clashL; simp [h_ow, h_tb, h_wx, h_wy])
          clear h_ow h_tb h_wx h_wy
          go_wp2_with fail
          go_ret
          exact ⟨by first | (rw [H.out]; done) | (rw [H.out]; rfl), q⟩
        | false =>
          rw [h_wy] at cy1
          replace h_wy := Lib.hid h_wy
          have hcl := sMeets_any _ (RdLk.sp (show RdLk _ _ (.agg #[.int .i64 x.owner, .bool x.whole, .int .i64 x.span.table, .slice a1 x.span.lo.length a2, .slice a3 x.span.hi.length a4, .bool x.span.isOpen, .int .i64 x.mode]) x from ⟨_, _, _, _, rfl, rxx, ryx, hwx⟩)) (RdLk.sp (show RdLk _ _ (.agg #[.int .i64 y.owner, .bool y.whole, .int .i64 y.span.table, .slice b1 y.span.lo.length b2, .slice b3 y.span.hi.length b4, .bool y.span.isOpen, .int .i64 y.mode]) y from ⟨_, _, _, _, rfl, rxy, ryy, hwy⟩))
          go_wp2_with fail
          refine hcl.mono ?_
          rintro e w1 ⟨rfl, hb⟩
          clear hcl
          clear cx0 cx1 cx2 cx3 cx4 cx5 cx6 cy0 cy1 cy2 cy3 cy4 cy5 cy6
          replace Bx := Bx.below hb Bx.lt
          replace By := By.below hb By.lt
          replace rxx := rxx.below hb
          replace ryx := ryx.below hb
          replace rxy := rxy.below hb
          replace ryy := ryy.below hb
          replace hT := hT.below hb
          replace q := q.trans (hb.mono q.size)
          clear hb
          have cx0 := Bx.cell (i := 0) rfl
          have cx1 := Bx.cell (i := 1) rfl
          have cx2 := Bx.cell (i := 2) rfl
          have cx3 := Bx.cell (i := 3) rfl
          have cx4 := Bx.cell (i := 4) rfl
          have cx5 := Bx.cell (i := 5) rfl
          have cx6 := Bx.cell (i := 6) rfl
          have cy0 := By.cell (i := 0) rfl
          have cy1 := By.cell (i := 1) rfl
          have cy2 := By.cell (i := 2) rfl
          have cy3 := By.cell (i := 3) rfl
          have cy4 := By.cell (i := 4) rfl
          have cy5 := By.cell (i := 5) rfl
          have cy6 := By.cell (i := 6) rfl
          cases h_mt : meetsS x.span y.span with
          | true =>
            replace h_mt := Lib.hid h_mt
            by_cases h_m5 : x.mode = 5
            · have dam5 : (x.mode == 5) = true := beq_iff_eq.2 h_m5
              have dbm5 : decide (x.mode = 5) = true := decide_eq_true h_m5
              have dcm5 : (x.mode = 5) = True := eq_true h_m5
              have ddm5 : (x.mode != 5) = false := by rw [bne_eq_false_iff_eq]; exact h_m5
              replace h_m5 := Lib.hid h_m5
              replace h_ow := h_ow.out
              replace h_tb := h_tb.out
              replace h_wx := h_wx.out
              replace h_wy := h_wy.out
              replace h_mt := h_mt.out
              replace h_m5 := h_m5.out
              have H := Lib.hid (show (clashL x y) = true from by unfold clashL; simp [h_ow, h_tb, h_wx, h_wy, h_mt, h_m5])
              clear h_ow h_tb h_wx h_wy h_mt h_m5
              go_wp2_with fail
              go_ret
              exact ⟨by first | (rw [H.out]; done) | (rw [H.out]; rfl), q⟩
            · have dam5 : (x.mode == 5) = false := beq_eq_false_iff_ne.2 h_m5
              have dbm5 : decide (x.mode = 5) = false := decide_eq_false h_m5
              have dcm5 : (x.mode = 5) = False := eq_false h_m5
              have ddm5 : (x.mode != 5) = true := bne_iff_ne.2 h_m5
              replace h_m5 := Lib.hid h_m5
              by_cases h_n5 : y.mode = 5
              · have dan5 : (y.mode == 5) = true := beq_iff_eq.2 h_n5
                have dbn5 : decide (y.mode = 5) = true := decide_eq_true h_n5
                have dcn5 : (y.mode = 5) = True := eq_true h_n5
                have ddn5 : (y.mode != 5) = false := by rw [bne_eq_false_iff_eq]; exact h_n5
                replace h_n5 := Lib.hid h_n5
                replace h_ow := h_ow.out
                replace h_tb := h_tb.out
                replace h_wx := h_wx.out
                replace h_wy := h_wy.out
                replace h_mt := h_mt.out
                replace h_m5 := h_m5.out
                replace h_n5 := h_n5.out
                have H := Lib.hid (show (clashL x y) = true from by unfold clashL; simp [h_ow, h_tb, h_wx, h_wy, h_mt, h_n5])
                clear h_ow h_tb h_wx h_wy h_mt h_m5 h_n5
                go_wp2_with fail
                go_ret
                exact ⟨by first | (rw [H.out]; done) | (rw [H.out]; rfl), q⟩
              · have dan5 : (y.mode == 5) = false := beq_eq_false_iff_ne.2 h_n5
                have dbn5 : decide (y.mode = 5) = false := decide_eq_false h_n5
                have dcn5 : (y.mode = 5) = False := eq_false h_n5
                have ddn5 : (y.mode != 5) = true := bne_iff_ne.2 h_n5
                replace h_n5 := Lib.hid h_n5
                replace h_ow := h_ow.out
                replace h_tb := h_tb.out
                replace h_wx := h_wx.out
                replace h_wy := h_wy.out
                replace h_mt := h_mt.out
                replace h_m5 := h_m5.out
                replace h_n5 := h_n5.out
                have H := Lib.hid (show (clashL x y) = false from by unfold clashL; simp [h_ow, h_tb, h_wx, h_wy, h_mt, h_m5, h_n5])
                clear h_ow h_tb h_wx h_wy h_mt h_m5 h_n5
                go_wp2_with fail
                go_ret
                exact ⟨by first | (rw [H.out]; done) | (rw [H.out]; rfl), q⟩
          | false =>
            replace h_mt := Lib.hid h_mt
            replace h_ow := h_ow.out
            replace h_tb := h_tb.out
            replace h_wx := h_wx.out
            replace h_wy := h_wy.out
            replace h_mt := h_mt.out
            have H := Lib.hid (show (clashL x y) = false from by unfold clashL; simp [h_ow, h_tb, h_wx, h_wy, h_mt])
            clear h_ow h_tb h_wx h_wy h_mt
            go_wp2_with fail
            go_ret
            exact ⟨by first | (rw [H.out]; done) | (rw [H.out]; rfl), q⟩
    · have datb : (x.span.table == y.span.table) = false := beq_eq_false_iff_ne.2 h_tb
      have dbtb : decide (x.span.table = y.span.table) = false := decide_eq_false h_tb
      have dctb : (x.span.table = y.span.table) = False := eq_false h_tb
      have ddtb : (x.span.table != y.span.table) = true := bne_iff_ne.2 h_tb
      replace h_tb := Lib.hid h_tb
      replace h_ow := h_ow.out
      replace h_tb := h_tb.out
      have H := Lib.hid (show (clashL x y) = false from by unfold clashL; simp [h_ow, h_tb])
      clear h_ow h_tb
      go_wp2_with fail
      go_ret
      exact ⟨by first | (rw [H.out]; done) | (rw [H.out]; rfl), q⟩
set_option maxRecDepth 100000 in
set_option maxHeartbeats 4000000 in
theorem rClash_any (w : World) {S S2 : Nat → Prop} {u v : Value} {x y : Lk} (hx : RdLk S w u x) (hy : RdLk S2 w v y) :
    Calls Tryd.prog 17 #[u, v] w fun e w' => e = .returned (.bool (clashL x y)) ∧ Below w.heap.size w w' := by
  obtain ⟨a1, a2, a3, a4, rfl, hlx, hhx, hwx⟩ := hx
  have m1x : x.span.lo.length ≤ 9223372036854775807 := by have := hlx.len; unfold maxLen at this; omega
  have m2x : x.span.hi.length ≤ 9223372036854775807 := by have := hhx.len; unfold maxLen at this; omega
  obtain ⟨b1, b2, b3, b4, rfl, hly, hhy, hwy⟩ := hy
  have m1y : y.span.lo.length ≤ 9223372036854775807 := by have := hly.len; unfold maxLen at this; omega
  have m2y : y.span.hi.length ≤ 9223372036854775807 := by have := hhy.len; unfold maxLen at this; omega
  obtain ⟨W, hW, q, Bx, By, hsz⟩ := spBoxes2 w 29 29 [.int .i64 x.owner, .bool x.whole, .int .i64 x.span.table, .slice a1 x.span.lo.length a2, .slice a3 x.span.hi.length a4, .bool x.span.isOpen, .int .i64 x.mode] [.int .i64 y.owner, .bool y.whole, .int .i64 y.span.table, .slice b1 y.span.lo.length b2, .slice b3 y.span.hi.length b4, .bool y.span.isOpen, .int .i64 y.mode]
  clear hsz
  go_enter Tryd.func17, Tryd.ntmps17
  go_upto_region 1 with (fail)
  rw [show (w.alloc (.cells #[.int .i64 x.owner, .bool x.whole, .int .i64 x.span.table, .slice a1 x.span.lo.length a2, .slice a3 x.span.hi.length a4, .bool x.span.isOpen, .int .i64 x.mode] 29)).alloc (.cells #[.int .i64 y.owner, .bool y.whole, .int .i64 y.span.table, .slice b1 y.span.lo.length b2, .slice b3 y.span.hi.length b4, .bool y.span.isOpen, .int .i64 y.mode] 29) = W from hW.symm]
  clear hW
  have rxx := hlx.below q
  have ryx := hhx.below q
  clear hlx hhx
  have rxy := hly.below q
  have ryy := hhy.below q
  clear hly hhy
  have cx0 := Bx.cell (i := 0) rfl
  have cx1 := Bx.cell (i := 1) rfl
  have cx2 := Bx.cell (i := 2) rfl
  have cx3 := Bx.cell (i := 3) rfl
  have cx4 := Bx.cell (i := 4) rfl
  have cx5 := Bx.cell (i := 5) rfl
  have cx6 := Bx.cell (i := 6) rfl
  have cy0 := By.cell (i := 0) rfl
  have cy1 := By.cell (i := 1) rfl
  have cy2 := By.cell (i := 2) rfl
  have cy3 := By.cell (i := 3) rfl
  have cy4 := By.cell (i := 4) rfl
  have cy5 := By.cell (i := 5) rfl
  have cy6 := By.cell (i := 6) rfl
  by_cases h_ow : x.owner = y.owner
  · have daow : (x.owner == y.owner) = true := beq_iff_eq.2 h_ow
    have dbow : decide (x.owner = y.owner) = true := decide_eq_true h_ow
    have dcow : (x.owner = y.owner) = True := eq_true h_ow
    have ddow : (x.owner != y.owner) = false := by rw [bne_eq_false_iff_eq]; exact h_ow
    replace h_ow := Lib.hid h_ow
    replace h_ow := h_ow.out
    have H := Lib.hid (show (clashL x y) = false from by unfold clashL; simp [h_ow])
    clear h_ow
    go_wp2_with fail
    go_ret
    exact ⟨by first | (rw [H.out]; done) | (rw [H.out]; rfl), q⟩
  · have daow : (x.owner == y.owner) = false := beq_eq_false_iff_ne.2 h_ow
    have dbow : decide (x.owner = y.owner) = false := decide_eq_false h_ow
    have dcow : (x.owner = y.owner) = False := eq_false h_ow
    have ddow : (x.owner != y.owner) = true := bne_iff_ne.2 h_ow
    replace h_ow := Lib.hid h_ow
    by_cases h_tb : x.span.table = y.span.table
    · have datb : (x.span.table == y.span.table) = true := beq_iff_eq.2 h_tb
      have dbtb : decide (x.span.table = y.span.table) = true := decide_eq_true h_tb
      have dctb : (x.span.table = y.span.table) = True := eq_true h_tb
      have ddtb : (x.span.table != y.span.table) = false := by rw [bne_eq_false_iff_eq]; exact h_tb
      replace h_tb := Lib.hid h_tb
      cases h_wx : x.whole with
      | true =>
        rw [h_wx] at cx1
        replace h_wx := Lib.hid h_wx
        cases h_wy : y.whole with
        | true =>
          rw [h_wy] at cy1
          replace h_wy := Lib.hid h_wy
          have hcl := refFits_any W x.mode y.mode
          go_wp2_with fail
          refine hcl.mono ?_
          rintro e _ ⟨rfl, rfl⟩
          clear hcl
          cases h_ft : fitM x.mode y.mode with
          | true =>
            replace h_ft := Lib.hid h_ft
            replace h_ow := h_ow.out
            replace h_tb := h_tb.out
            replace h_wx := h_wx.out
            replace h_wy := h_wy.out
            replace h_ft := h_ft.out
            have H := Lib.hid (show (clashL x y) = false from by unfold clashL; simp [h_ow, h_tb, h_wx, h_wy, h_ft])
            clear h_ow h_tb h_wx h_wy h_ft
            go_wp2_with fail
            go_ret
            exact ⟨by first | (rw [H.out]; done) | (rw [H.out]; rfl), q⟩
          | false =>
            replace h_ft := Lib.hid h_ft
            replace h_ow := h_ow.out
            replace h_tb := h_tb.out
            replace h_wx := h_wx.out
            replace h_wy := h_wy.out
            replace h_ft := h_ft.out
            have H := Lib.hid (show (clashL x y) = true from by unfold clashL; simp [h_ow, h_tb, h_wx, h_wy, h_ft])
            clear h_ow h_tb h_wx h_wy h_ft
            go_wp2_with fail
            go_ret
            exact ⟨by first | (rw [H.out]; done) | (rw [H.out]; rfl), q⟩
        | false =>
          rw [h_wy] at cy1
          replace h_wy := Lib.hid h_wy
          replace h_ow := h_ow.out
          replace h_tb := h_tb.out
          replace h_wx := h_wx.out
          replace h_wy := h_wy.out
          have H := Lib.hid (show (clashL x y) = false from by unfold clashL; simp [h_ow, h_tb, h_wx, h_wy])
          clear h_ow h_tb h_wx h_wy
          go_wp2_with fail
          go_ret
          exact ⟨by first | (rw [H.out]; done) | (rw [H.out]; rfl), q⟩
      | false =>
        rw [h_wx] at cx1
        replace h_wx := Lib.hid h_wx
        cases h_wy : y.whole with
        | true =>
          rw [h_wy] at cy1
          replace h_wy := Lib.hid h_wy
          replace h_ow := h_ow.out
          replace h_tb := h_tb.out
          replace h_wx := h_wx.out
          replace h_wy := h_wy.out
          have H := Lib.hid (show (clashL x y) = false from by unfold clashL; simp [h_ow, h_tb, h_wx, h_wy])
          clear h_ow h_tb h_wx h_wy
          go_wp2_with fail
          go_ret
          exact ⟨by first | (rw [H.out]; done) | (rw [H.out]; rfl), q⟩
        | false =>
          rw [h_wy] at cy1
          replace h_wy := Lib.hid h_wy
          have hcl := rMeets_any _ (RdLk.sp (show RdLk _ _ (.agg #[.int .i64 x.owner, .bool x.whole, .int .i64 x.span.table, .slice a1 x.span.lo.length a2, .slice a3 x.span.hi.length a4, .bool x.span.isOpen, .int .i64 x.mode]) x from ⟨_, _, _, _, rfl, rxx, ryx, hwx⟩)) (RdLk.sp (show RdLk _ _ (.agg #[.int .i64 y.owner, .bool y.whole, .int .i64 y.span.table, .slice b1 y.span.lo.length b2, .slice b3 y.span.hi.length b4, .bool y.span.isOpen, .int .i64 y.mode]) y from ⟨_, _, _, _, rfl, rxy, ryy, hwy⟩))
          go_wp2_with fail
          refine hcl.mono ?_
          rintro e w1 ⟨rfl, hb⟩
          clear hcl
          clear cx0 cx1 cx2 cx3 cx4 cx5 cx6 cy0 cy1 cy2 cy3 cy4 cy5 cy6
          replace Bx := Bx.below hb Bx.lt
          replace By := By.below hb By.lt
          replace rxx := rxx.below hb
          replace ryx := ryx.below hb
          replace rxy := rxy.below hb
          replace ryy := ryy.below hb
          replace q := q.trans (hb.mono q.size)
          clear hb
          have cx0 := Bx.cell (i := 0) rfl
          have cx1 := Bx.cell (i := 1) rfl
          have cx2 := Bx.cell (i := 2) rfl
          have cx3 := Bx.cell (i := 3) rfl
          have cx4 := Bx.cell (i := 4) rfl
          have cx5 := Bx.cell (i := 5) rfl
          have cx6 := Bx.cell (i := 6) rfl
          have cy0 := By.cell (i := 0) rfl
          have cy1 := By.cell (i := 1) rfl
          have cy2 := By.cell (i := 2) rfl
          have cy3 := By.cell (i := 3) rfl
          have cy4 := By.cell (i := 4) rfl
          have cy5 := By.cell (i := 5) rfl
          have cy6 := By.cell (i := 6) rfl
          cases h_mt : meetsS x.span y.span with
          | true =>
            replace h_mt := Lib.hid h_mt
            by_cases h_m5 : x.mode = 5
            · have dam5 : (x.mode == 5) = true := beq_iff_eq.2 h_m5
              have dbm5 : decide (x.mode = 5) = true := decide_eq_true h_m5
              have dcm5 : (x.mode = 5) = True := eq_true h_m5
              have ddm5 : (x.mode != 5) = false := by rw [bne_eq_false_iff_eq]; exact h_m5
              replace h_m5 := Lib.hid h_m5
              replace h_ow := h_ow.out
              replace h_tb := h_tb.out
              replace h_wx := h_wx.out
              replace h_wy := h_wy.out
              replace h_mt := h_mt.out
              replace h_m5 := h_m5.out
              have H := Lib.hid (show (clashL x y) = true from by unfold clashL; simp [h_ow, h_tb, h_wx, h_wy, h_mt, h_m5])
              clear h_ow h_tb h_wx h_wy h_mt h_m5
              go_wp2_with fail
              go_ret
              exact ⟨by first | (rw [H.out]; done) | (rw [H.out]; rfl), q⟩
            · have dam5 : (x.mode == 5) = false := beq_eq_false_iff_ne.2 h_m5
              have dbm5 : decide (x.mode = 5) = false := decide_eq_false h_m5
              have dcm5 : (x.mode = 5) = False := eq_false h_m5
              have ddm5 : (x.mode != 5) = true := bne_iff_ne.2 h_m5
              replace h_m5 := Lib.hid h_m5
              by_cases h_n5 : y.mode = 5
              · have dan5 : (y.mode == 5) = true := beq_iff_eq.2 h_n5
                have dbn5 : decide (y.mode = 5) = true := decide_eq_true h_n5
                have dcn5 : (y.mode = 5) = True := eq_true h_n5
                have ddn5 : (y.mode != 5) = false := by rw [bne_eq_false_iff_eq]; exact h_n5
                replace h_n5 := Lib.hid h_n5
                replace h_ow := h_ow.out
                replace h_tb := h_tb.out
                replace h_wx := h_wx.out
                replace h_wy := h_wy.out
                replace h_mt := h_mt.out
                replace h_m5 := h_m5.out
                replace h_n5 := h_n5.out
                have H := Lib.hid (show (clashL x y) = true from by unfold clashL; simp [h_ow, h_tb, h_wx, h_wy, h_mt, h_n5])
                clear h_ow h_tb h_wx h_wy h_mt h_m5 h_n5
                go_wp2_with fail
                go_ret
                exact ⟨by first | (rw [H.out]; done) | (rw [H.out]; rfl), q⟩
              · have dan5 : (y.mode == 5) = false := beq_eq_false_iff_ne.2 h_n5
                have dbn5 : decide (y.mode = 5) = false := decide_eq_false h_n5
                have dcn5 : (y.mode = 5) = False := eq_false h_n5
                have ddn5 : (y.mode != 5) = true := bne_iff_ne.2 h_n5
                replace h_n5 := Lib.hid h_n5
                replace h_ow := h_ow.out
                replace h_tb := h_tb.out
                replace h_wx := h_wx.out
                replace h_wy := h_wy.out
                replace h_mt := h_mt.out
                replace h_m5 := h_m5.out
                replace h_n5 := h_n5.out
                have H := Lib.hid (show (clashL x y) = false from by unfold clashL; simp [h_ow, h_tb, h_wx, h_wy, h_mt, h_m5, h_n5])
                clear h_ow h_tb h_wx h_wy h_mt h_m5 h_n5
                go_wp2_with fail
                go_ret
                exact ⟨by first | (rw [H.out]; done) | (rw [H.out]; rfl), q⟩
          | false =>
            replace h_mt := Lib.hid h_mt
            replace h_ow := h_ow.out
            replace h_tb := h_tb.out
            replace h_wx := h_wx.out
            replace h_wy := h_wy.out
            replace h_mt := h_mt.out
            have H := Lib.hid (show (clashL x y) = false from by unfold clashL; simp [h_ow, h_tb, h_wx, h_wy, h_mt])
            clear h_ow h_tb h_wx h_wy h_mt
            go_wp2_with fail
            go_ret
            exact ⟨by first | (rw [H.out]; done) | (rw [H.out]; rfl), q⟩
    · have datb : (x.span.table == y.span.table) = false := beq_eq_false_iff_ne.2 h_tb
      have dbtb : decide (x.span.table = y.span.table) = false := decide_eq_false h_tb
      have dctb : (x.span.table = y.span.table) = False := eq_false h_tb
      have ddtb : (x.span.table != y.span.table) = true := bne_iff_ne.2 h_tb
      replace h_tb := Lib.hid h_tb
      replace h_ow := h_ow.out
      replace h_tb := h_tb.out
      have H := Lib.hid (show (clashL x y) = false from by unfold clashL; simp [h_ow, h_tb])
      clear h_ow h_tb
      go_wp2_with fail
      go_ret
      exact ⟨by first | (rw [H.out]; done) | (rw [H.out]; rfl), q⟩
set_option maxRecDepth 100000 in
set_option maxHeartbeats 4000000 in
theorem same_any (w : World) {S S2 : Nat → Prop} {u v : Value} {x y : Lk} (hx : RdLk S w u x) (hy : RdLk S2 w v y) :
    Calls Tryd.prog 40 #[u, v] w fun e w' => e = .returned (.bool (sameL x y)) ∧ Below w.heap.size w w' := by
  obtain ⟨a1, a2, a3, a4, rfl, hlx, hhx, hwx⟩ := hx
  have m1x : x.span.lo.length ≤ 9223372036854775807 := by have := hlx.len; unfold maxLen at this; omega
  have m2x : x.span.hi.length ≤ 9223372036854775807 := by have := hhx.len; unfold maxLen at this; omega
  obtain ⟨b1, b2, b3, b4, rfl, hly, hhy, hwy⟩ := hy
  have m1y : y.span.lo.length ≤ 9223372036854775807 := by have := hly.len; unfold maxLen at this; omega
  have m2y : y.span.hi.length ≤ 9223372036854775807 := by have := hhy.len; unfold maxLen at this; omega
  obtain ⟨W, hW, q, Bx, By, hsz⟩ := spBoxes2 w 59 29 [.int .i64 x.owner, .bool x.whole, .int .i64 x.span.table, .slice a1 x.span.lo.length a2, .slice a3 x.span.hi.length a4, .bool x.span.isOpen, .int .i64 x.mode] [.int .i64 y.owner, .bool y.whole, .int .i64 y.span.table, .slice b1 y.span.lo.length b2, .slice b3 y.span.hi.length b4, .bool y.span.isOpen, .int .i64 y.mode]
  clear hsz
  go_enter Tryd.func40, Tryd.ntmps40
  go_upto_region 1 with (fail)
  rw [show (w.alloc (.cells #[.int .i64 x.owner, .bool x.whole, .int .i64 x.span.table, .slice a1 x.span.lo.length a2, .slice a3 x.span.hi.length a4, .bool x.span.isOpen, .int .i64 x.mode] 59)).alloc (.cells #[.int .i64 y.owner, .bool y.whole, .int .i64 y.span.table, .slice b1 y.span.lo.length b2, .slice b3 y.span.hi.length b4, .bool y.span.isOpen, .int .i64 y.mode] 29) = W from hW.symm]
  clear hW
  have rxx := hlx.below q
  have ryx := hhx.below q
  clear hlx hhx
  have rxy := hly.below q
  have ryy := hhy.below q
  clear hly hhy
  have cx0 := Bx.cell (i := 0) rfl
  have cx1 := Bx.cell (i := 1) rfl
  have cx2 := Bx.cell (i := 2) rfl
  have cx3 := Bx.cell (i := 3) rfl
  have cx4 := Bx.cell (i := 4) rfl
  have cx5 := Bx.cell (i := 5) rfl
  have cx6 := Bx.cell (i := 6) rfl
  have cy0 := By.cell (i := 0) rfl
  have cy1 := By.cell (i := 1) rfl
  have cy2 := By.cell (i := 2) rfl
  have cy3 := By.cell (i := 3) rfl
  have cy4 := By.cell (i := 4) rfl
  have cy5 := By.cell (i := 5) rfl
  have cy6 := By.cell (i := 6) rfl
  have hcl := owns_any _ (show RdLk _ _ (.agg #[.int .i64 x.owner, .bool x.whole, .int .i64 x.span.table, .slice a1 x.span.lo.length a2, .slice a3 x.span.hi.length a4, .bool x.span.isOpen, .int .i64 x.mode]) x from ⟨_, _, _, _, rfl, rxx, ryx, hwx⟩) (show RdLk _ _ (.agg #[.int .i64 y.owner, .bool y.whole, .int .i64 y.span.table, .slice b1 y.span.lo.length b2, .slice b3 y.span.hi.length b4, .bool y.span.isOpen, .int .i64 y.mode]) y from ⟨_, _, _, _, rfl, rxy, ryy, hwy⟩)
  go_wp2_with fail
  refine hcl.mono ?_
  rintro e w1 ⟨rfl, hb⟩
  clear hcl
  clear cx0 cx1 cx2 cx3 cx4 cx5 cx6 cy0 cy1 cy2 cy3 cy4 cy5 cy6
  replace Bx := Bx.below hb Bx.lt
  replace By := By.below hb By.lt
  replace rxx := rxx.below hb
  replace ryx := ryx.below hb
  replace rxy := rxy.below hb
  replace ryy := ryy.below hb
  replace q := q.trans (hb.mono q.size)
  clear hb
  have cx0 := Bx.cell (i := 0) rfl
  have cx1 := Bx.cell (i := 1) rfl
  have cx2 := Bx.cell (i := 2) rfl
  have cx3 := Bx.cell (i := 3) rfl
  have cx4 := Bx.cell (i := 4) rfl
  have cx5 := Bx.cell (i := 5) rfl
  have cx6 := Bx.cell (i := 6) rfl
  have cy0 := By.cell (i := 0) rfl
  have cy1 := By.cell (i := 1) rfl
  have cy2 := By.cell (i := 2) rfl
  have cy3 := By.cell (i := 3) rfl
  have cy4 := By.cell (i := 4) rfl
  have cy5 := By.cell (i := 5) rfl
  have cy6 := By.cell (i := 6) rfl
  cases h_ow : ownsL x y with
  | true =>
    replace h_ow := Lib.hid h_ow
    cases h_wx : x.whole with
    | true =>
      rw [h_wx] at cx1
      replace h_wx := Lib.hid h_wx
      cases h_wy : y.whole with
      | true =>
        rw [h_wy] at cy1
        replace h_wy := Lib.hid h_wy
        by_cases h_tb : x.span.table = y.span.table
        · have datb : (x.span.table == y.span.table) = true := beq_iff_eq.2 h_tb
          have dbtb : decide (x.span.table = y.span.table) = true := decide_eq_true h_tb
          have dctb : (x.span.table = y.span.table) = True := eq_true h_tb
          have ddtb : (x.span.table != y.span.table) = false := by rw [bne_eq_false_iff_eq]; exact h_tb
          replace h_tb := Lib.hid h_tb
          replace h_ow := h_ow.out
          replace h_wx := h_wx.out
          replace h_wy := h_wy.out
          replace h_tb := h_tb.out
          have H := Lib.hid (show (sameL x y) = true from by have h9 := h_ow; unfold ownsL at h9; unfold sameL; simp at h9; simp [h9, h_wx, h_wy, h_tb])
          clear h_ow h_wx h_wy h_tb
          go_wp2_with fail
          go_ret
          exact ⟨by first | (rw [H.out]; done) | (rw [H.out]; rfl), q⟩
        · have datb : (x.span.table == y.span.table) = false := beq_eq_false_iff_ne.2 h_tb
          have dbtb : decide (x.span.table = y.span.table) = false := decide_eq_false h_tb
          have dctb : (x.span.table = y.span.table) = False := eq_false h_tb
          have ddtb : (x.span.table != y.span.table) = true := bne_iff_ne.2 h_tb
          replace h_tb := Lib.hid h_tb
          replace h_ow := h_ow.out
          replace h_wx := h_wx.out
          replace h_wy := h_wy.out
          replace h_tb := h_tb.out
          have H := Lib.hid (show (sameL x y) = false from by have h9 := h_ow; unfold ownsL at h9; unfold sameL; simp at h9; simp [h9, h_wx, h_wy, h_tb])
          clear h_ow h_wx h_wy h_tb
          go_wp2_with fail
          go_ret
          exact ⟨by first | (rw [H.out]; done) | (rw [H.out]; rfl), q⟩
      | false =>
        rw [h_wy] at cy1
        replace h_wy := Lib.hid h_wy
        replace h_ow := h_ow.out
        replace h_wx := h_wx.out
        replace h_wy := h_wy.out
        have H := Lib.hid (show (sameL x y) = false from by have h9 := h_ow; unfold ownsL at h9; unfold sameL; simp at h9; simp [h9, h_wx, h_wy])
        clear h_ow h_wx h_wy
        go_wp2_with fail
        go_ret
        exact ⟨by first | (rw [H.out]; done) | (rw [H.out]; rfl), q⟩
    | false =>
      rw [h_wx] at cx1
      replace h_wx := Lib.hid h_wx
      replace h_ow := h_ow.out
      replace h_wx := h_wx.out
      have H := Lib.hid (show (sameL x y) = false from by have h9 := h_ow; unfold ownsL at h9; unfold sameL; simp at h9; simp [h9, h_wx])
      clear h_ow h_wx
      go_wp2_with fail
      go_ret
      exact ⟨by first | (rw [H.out]; done) | (rw [H.out]; rfl), q⟩
  | false =>
    replace h_ow := Lib.hid h_ow
    replace h_ow := h_ow.out
    have H := Lib.hid (show (sameL x y) = false from by have h9 := h_ow; unfold ownsL at h9; unfold sameL; simp at h9; simp [h9])
    clear h_ow
    go_wp2_with fail
    go_ret
    exact ⟨by first | (rw [H.out]; done) | (rw [H.out]; rfl), q⟩
set_option maxRecDepth 100000 in
set_option maxHeartbeats 4000000 in
theorem clashes_any (w : World) (hT : TabAt w) {S S2 : Nat → Prop} {u v : Value} {x y : Lk} (hx : RdLk S w u x) (hy : RdLk S2 w v y) :
    Calls Tryd.prog 65 #[u, v] w fun e w' => e = .returned (.bool (clashL x y)) ∧ Below w.heap.size w w' := by
  obtain ⟨a1, a2, a3, a4, rfl, hlx, hhx, hwx⟩ := hx
  have m1x : x.span.lo.length ≤ 9223372036854775807 := by have := hlx.len; unfold maxLen at this; omega
  have m2x : x.span.hi.length ≤ 9223372036854775807 := by have := hhx.len; unfold maxLen at this; omega
  obtain ⟨b1, b2, b3, b4, rfl, hly, hhy, hwy⟩ := hy
  have m1y : y.span.lo.length ≤ 9223372036854775807 := by have := hly.len; unfold maxLen at this; omega
  have m2y : y.span.hi.length ≤ 9223372036854775807 := by have := hhy.len; unfold maxLen at this; omega
  obtain ⟨W, hW, q, Bx, By, hsz⟩ := spBoxes2 w 59 29 [.int .i64 x.owner, .bool x.whole, .int .i64 x.span.table, .slice a1 x.span.lo.length a2, .slice a3 x.span.hi.length a4, .bool x.span.isOpen, .int .i64 x.mode] [.int .i64 y.owner, .bool y.whole, .int .i64 y.span.table, .slice b1 y.span.lo.length b2, .slice b3 y.span.hi.length b4, .bool y.span.isOpen, .int .i64 y.mode]
  clear hsz
  go_enter Tryd.func65, Tryd.ntmps65
  go_upto_region 1 with (fail)
  rw [show (w.alloc (.cells #[.int .i64 x.owner, .bool x.whole, .int .i64 x.span.table, .slice a1 x.span.lo.length a2, .slice a3 x.span.hi.length a4, .bool x.span.isOpen, .int .i64 x.mode] 59)).alloc (.cells #[.int .i64 y.owner, .bool y.whole, .int .i64 y.span.table, .slice b1 y.span.lo.length b2, .slice b3 y.span.hi.length b4, .bool y.span.isOpen, .int .i64 y.mode] 29) = W from hW.symm]
  clear hW
  have rxx := hlx.below q
  have ryx := hhx.below q
  clear hlx hhx
  have rxy := hly.below q
  have ryy := hhy.below q
  clear hly hhy
  replace hT := hT.below q
  have cx0 := Bx.cell (i := 0) rfl
  have cx1 := Bx.cell (i := 1) rfl
  have cx2 := Bx.cell (i := 2) rfl
  have cx3 := Bx.cell (i := 3) rfl
  have cx4 := Bx.cell (i := 4) rfl
  have cx5 := Bx.cell (i := 5) rfl
  have cx6 := Bx.cell (i := 6) rfl
  have cy0 := By.cell (i := 0) rfl
  have cy1 := By.cell (i := 1) rfl
  have cy2 := By.cell (i := 2) rfl
  have cy3 := By.cell (i := 3) rfl
  have cy4 := By.cell (i := 4) rfl
  have cy5 := By.cell (i := 5) rfl
  have cy6 := By.cell (i := 6) rfl
  have hcl := clash_any _ hT (show RdLk _ _ (.agg #[.int .i64 x.owner, .bool x.whole, .int .i64 x.span.table, .slice a1 x.span.lo.length a2, .slice a3 x.span.hi.length a4, .bool x.span.isOpen, .int .i64 x.mode]) x from ⟨_, _, _, _, rfl, rxx, ryx, hwx⟩) (show RdLk _ _ (.agg #[.int .i64 y.owner, .bool y.whole, .int .i64 y.span.table, .slice b1 y.span.lo.length b2, .slice b3 y.span.hi.length b4, .bool y.span.isOpen, .int .i64 y.mode]) y from ⟨_, _, _, _, rfl, rxy, ryy, hwy⟩)
  go_wp2_with fail
  refine hcl.mono ?_
  rintro e w1 ⟨rfl, hb⟩
  clear hcl
  clear cx0 cx1 cx2 cx3 cx4 cx5 cx6 cy0 cy1 cy2 cy3 cy4 cy5 cy6
  replace Bx := Bx.below hb Bx.lt
  replace By := By.below hb By.lt
  replace rxx := rxx.below hb
  replace ryx := ryx.below hb
  replace rxy := rxy.below hb
  replace ryy := ryy.below hb
  replace hT := hT.below hb
  replace q := q.trans (hb.mono q.size)
  clear hb
  have cx0 := Bx.cell (i := 0) rfl
  have cx1 := Bx.cell (i := 1) rfl
  have cx2 := Bx.cell (i := 2) rfl
  have cx3 := Bx.cell (i := 3) rfl
  have cx4 := Bx.cell (i := 4) rfl
  have cx5 := Bx.cell (i := 5) rfl
  have cx6 := Bx.cell (i := 6) rfl
  have cy0 := By.cell (i := 0) rfl
  have cy1 := By.cell (i := 1) rfl
  have cy2 := By.cell (i := 2) rfl
  have cy3 := By.cell (i := 3) rfl
  have cy4 := By.cell (i := 4) rfl
  have cy5 := By.cell (i := 5) rfl
  have cy6 := By.cell (i := 6) rfl
  cases h_cl : clashL x y with
  | true =>
    replace h_cl := Lib.hid h_cl
    replace h_cl := h_cl.out
    have H := Lib.hid (show (clashL x y) = true from h_cl)
    clear h_cl
    go_wp2_with fail
    go_ret
    exact ⟨by first | (rw [H.out]; done) | (rw [H.out]; rfl), q⟩
  | false =>
    replace h_cl := Lib.hid h_cl
    replace h_cl := h_cl.out
    have H := Lib.hid (show (clashL x y) = false from h_cl)
    clear h_cl
    go_wp2_with fail
    go_ret
    exact ⟨by first | (rw [H.out]; done) | (rw [H.out]; rfl), q⟩
set_option maxRecDepth 100000 in
set_option maxHeartbeats 4000000 in
theorem served_any (w : World) {S S2 : Nat → Prop} {u v : Value} {x y : Lk} (hx : RdLk S w u x) (hy : RdLk S2 w v y) :
    Calls Tryd.prog 59 #[u, v] w fun e w' => e = .returned (.bool (servesL x y)) ∧ Below w.heap.size w w' := by
  obtain ⟨a1, a2, a3, a4, rfl, hlx, hhx, hwx⟩ := hx
  have m1x : x.span.lo.length ≤ 9223372036854775807 := by have := hlx.len; unfold maxLen at this; omega
  have m2x : x.span.hi.length ≤ 9223372036854775807 := by have := hhx.len; unfold maxLen at this; omega
  obtain ⟨b1, b2, b3, b4, rfl, hly, hhy, hwy⟩ := hy
  have m1y : y.span.lo.length ≤ 9223372036854775807 := by have := hly.len; unfold maxLen at this; omega
  have m2y : y.span.hi.length ≤ 9223372036854775807 := by have := hhy.len; unfold maxLen at this; omega
  obtain ⟨W, hW, q, Bx, By, hsz⟩ := spBoxes2 w 59 29 [.int .i64 x.owner, .bool x.whole, .int .i64 x.span.table, .slice a1 x.span.lo.length a2, .slice a3 x.span.hi.length a4, .bool x.span.isOpen, .int .i64 x.mode] [.int .i64 y.owner, .bool y.whole, .int .i64 y.span.table, .slice b1 y.span.lo.length b2, .slice b3 y.span.hi.length b4, .bool y.span.isOpen, .int .i64 y.mode]
  clear hsz
  go_enter Tryd.func59, Tryd.ntmps59
  go_upto_region 1 with (fail)
  rw [show (w.alloc (.cells #[.int .i64 x.owner, .bool x.whole, .int .i64 x.span.table, .slice a1 x.span.lo.length a2, .slice a3 x.span.hi.length a4, .bool x.span.isOpen, .int .i64 x.mode] 59)).alloc (.cells #[.int .i64 y.owner, .bool y.whole, .int .i64 y.span.table, .slice b1 y.span.lo.length b2, .slice b3 y.span.hi.length b4, .bool y.span.isOpen, .int .i64 y.mode] 29) = W from hW.symm]
  clear hW
  have rxx := hlx.below q
  have ryx := hhx.below q
  clear hlx hhx
  have rxy := hly.below q
  have ryy := hhy.below q
  clear hly hhy
  have cx0 := Bx.cell (i := 0) rfl
  have cx1 := Bx.cell (i := 1) rfl
  have cx2 := Bx.cell (i := 2) rfl
  have cx3 := Bx.cell (i := 3) rfl
  have cx4 := Bx.cell (i := 4) rfl
  have cx5 := Bx.cell (i := 5) rfl
  have cx6 := Bx.cell (i := 6) rfl
  have cy0 := By.cell (i := 0) rfl
  have cy1 := By.cell (i := 1) rfl
  have cy2 := By.cell (i := 2) rfl
  have cy3 := By.cell (i := 3) rfl
  have cy4 := By.cell (i := 4) rfl
  have cy5 := By.cell (i := 5) rfl
  have cy6 := By.cell (i := 6) rfl
  have hcl := owns_any _ (show RdLk _ _ (.agg #[.int .i64 x.owner, .bool x.whole, .int .i64 x.span.table, .slice a1 x.span.lo.length a2, .slice a3 x.span.hi.length a4, .bool x.span.isOpen, .int .i64 x.mode]) x from ⟨_, _, _, _, rfl, rxx, ryx, hwx⟩) (show RdLk _ _ (.agg #[.int .i64 y.owner, .bool y.whole, .int .i64 y.span.table, .slice b1 y.span.lo.length b2, .slice b3 y.span.hi.length b4, .bool y.span.isOpen, .int .i64 y.mode]) y from ⟨_, _, _, _, rfl, rxy, ryy, hwy⟩)
  go_wp2_with fail
  refine hcl.mono ?_
  rintro e w1 ⟨rfl, hb⟩
  clear hcl
  clear cx0 cx1 cx2 cx3 cx4 cx5 cx6 cy0 cy1 cy2 cy3 cy4 cy5 cy6
  replace Bx := Bx.below hb Bx.lt
  replace By := By.below hb By.lt
  replace rxx := rxx.below hb
  replace ryx := ryx.below hb
  replace rxy := rxy.below hb
  replace ryy := ryy.below hb
  replace q := q.trans (hb.mono q.size)
  clear hb
  have cx0 := Bx.cell (i := 0) rfl
  have cx1 := Bx.cell (i := 1) rfl
  have cx2 := Bx.cell (i := 2) rfl
  have cx3 := Bx.cell (i := 3) rfl
  have cx4 := Bx.cell (i := 4) rfl
  have cx5 := Bx.cell (i := 5) rfl
  have cx6 := Bx.cell (i := 6) rfl
  have cy0 := By.cell (i := 0) rfl
  have cy1 := By.cell (i := 1) rfl
  have cy2 := By.cell (i := 2) rfl
  have cy3 := By.cell (i := 3) rfl
  have cy4 := By.cell (i := 4) rfl
  have cy5 := By.cell (i := 5) rfl
  have cy6 := By.cell (i := 6) rfl
  cases h_ow : ownsL x y with
  | true =>
    replace h_ow := Lib.hid h_ow
    by_cases h_tb : y.span.table = x.span.table
    · have datb : (y.span.table == x.span.table) = true := beq_iff_eq.2 h_tb
      have dbtb : decide (y.span.table = x.span.table) = true := decide_eq_true h_tb
      have dctb : (y.span.table = x.span.table) = True := eq_true h_tb
      have ddtb : (y.span.table != x.span.table) = false := by rw [bne_eq_false_iff_eq]; exact h_tb
      replace h_tb := Lib.hid h_tb
      have hcl := covers_any w1 y.mode x.mode
      go_wp2_with fail
      refine hcl.mono ?_
      rintro e _ ⟨rfl, rfl⟩
      clear hcl
      cases h_cv : covM y.mode x.mode with
      | true =>
        replace h_cv := Lib.hid h_cv
        cases h_wy : y.whole with
        | true =>
          rw [h_wy] at cy1
          replace h_wy := Lib.hid h_wy
          replace h_ow := h_ow.out
          replace h_tb := h_tb.out
          replace h_cv := h_cv.out
          replace h_wy := h_wy.out
          have H := Lib.hid (show (servesL x y) = true from by have h9 := h_ow; unfold ownsL at h9; unfold servesL; simp at h9; simp [h9, h_tb, h_cv, h_wy])
          clear h_ow h_tb h_cv h_wy
          go_wp2_with fail
          go_ret
          exact ⟨by first | (rw [H.out]; done) | (rw [H.out]; rfl), q⟩
        | false =>
          rw [h_wy] at cy1
          replace h_wy := Lib.hid h_wy
          cases h_wx : x.whole with
          | true =>
            rw [h_wx] at cx1
            replace h_wx := Lib.hid h_wx
            replace h_ow := h_ow.out
            replace h_tb := h_tb.out
            replace h_cv := h_cv.out
            replace h_wy := h_wy.out
            replace h_wx := h_wx.out
            have H := Lib.hid (show (servesL x y) = false from by have h9 := h_ow; unfold ownsL at h9; unfold servesL; simp at h9; simp [h9, h_tb, h_cv, h_wy, h_wx])
            clear h_ow h_tb h_cv h_wy h_wx
            go_wp2_with fail
            go_ret
            exact ⟨by first | (rw [H.out]; done) | (rw [H.out]; rfl), q⟩
          | false =>
            rw [h_wx] at cx1
            replace h_wx := Lib.hid h_wx
            have hcl := sCovers_any _ (RdLk.sp (show RdLk _ _ (.agg #[.int .i64 y.owner, .bool y.whole, .int .i64 y.span.table, .slice b1 y.span.lo.length b2, .slice b3 y.span.hi.length b4, .bool y.span.isOpen, .int .i64 y.mode]) y from ⟨_, _, _, _, rfl, rxy, ryy, hwy⟩)) (RdLk.sp (show RdLk _ _ (.agg #[.int .i64 x.owner, .bool x.whole, .int .i64 x.span.table, .slice a1 x.span.lo.length a2, .slice a3 x.span.hi.length a4, .bool x.span.isOpen, .int .i64 x.mode]) x from ⟨_, _, _, _, rfl, rxx, ryx, hwx⟩))
            go_wp2_with fail
            refine hcl.mono ?_
            rintro e w1 ⟨rfl, hb⟩
            clear hcl
            clear cx0 cx1 cx2 cx3 cx4 cx5 cx6 cy0 cy1 cy2 cy3 cy4 cy5 cy6
            replace Bx := Bx.below hb Bx.lt
            replace By := By.below hb By.lt
            replace rxx := rxx.below hb
            replace ryx := ryx.below hb
            replace rxy := rxy.below hb
            replace ryy := ryy.below hb
            replace q := q.trans (hb.mono q.size)
            clear hb
            have cx0 := Bx.cell (i := 0) rfl
            have cx1 := Bx.cell (i := 1) rfl
            have cx2 := Bx.cell (i := 2) rfl
            have cx3 := Bx.cell (i := 3) rfl
            have cx4 := Bx.cell (i := 4) rfl
            have cx5 := Bx.cell (i := 5) rfl
            have cx6 := Bx.cell (i := 6) rfl
            have cy0 := By.cell (i := 0) rfl
            have cy1 := By.cell (i := 1) rfl
            have cy2 := By.cell (i := 2) rfl
            have cy3 := By.cell (i := 3) rfl
            have cy4 := By.cell (i := 4) rfl
            have cy5 := By.cell (i := 5) rfl
            have cy6 := By.cell (i := 6) rfl
            cases h_cs : coversS y.span x.span with
            | true =>
              replace h_cs := Lib.hid h_cs
              replace h_ow := h_ow.out
              replace h_tb := h_tb.out
              replace h_cv := h_cv.out
              replace h_wy := h_wy.out
              replace h_wx := h_wx.out
              replace h_cs := h_cs.out
              have H := Lib.hid (show (servesL x y) = true from by have h9 := h_ow; unfold ownsL at h9; unfold servesL; simp at h9; simp [h9, h_tb, h_cv, h_wy, h_wx, h_cs])
              clear h_ow h_tb h_cv h_wy h_wx h_cs
              go_wp2_with fail
              go_ret
              exact ⟨by first | (rw [H.out]; done) | (rw [H.out]; rfl), q⟩
            | false =>
              replace h_cs := Lib.hid h_cs
              replace h_ow := h_ow.out
              replace h_tb := h_tb.out
              replace h_cv := h_cv.out
              replace h_wy := h_wy.out
              replace h_wx := h_wx.out
              replace h_cs := h_cs.out
              have H := Lib.hid (show (servesL x y) = false from by have h9 := h_ow; unfold ownsL at h9; unfold servesL; simp at h9; simp [h9, h_tb, h_cv, h_wy, h_wx, h_cs])
              clear h_ow h_tb h_cv h_wy h_wx h_cs
              go_wp2_with fail
              go_ret
              exact ⟨by first | (rw [H.out]; done) | (rw [H.out]; rfl), q⟩
      | false =>
        replace h_cv := Lib.hid h_cv
        replace h_ow := h_ow.out
        replace h_tb := h_tb.out
        replace h_cv := h_cv.out
        have H := Lib.hid (show (servesL x y) = false from by have h9 := h_ow; unfold ownsL at h9; unfold servesL; simp at h9; simp [h9, h_tb, h_cv])
        clear h_ow h_tb h_cv
        go_wp2_with fail
        go_ret
        exact ⟨by first | (rw [H.out]; done) | (rw [H.out]; rfl), q⟩
    · have datb : (y.span.table == x.span.table) = false := beq_eq_false_iff_ne.2 h_tb
      have dbtb : decide (y.span.table = x.span.table) = false := decide_eq_false h_tb
      have dctb : (y.span.table = x.span.table) = False := eq_false h_tb
      have ddtb : (y.span.table != x.span.table) = true := bne_iff_ne.2 h_tb
      replace h_tb := Lib.hid h_tb
      replace h_ow := h_ow.out
      replace h_tb := h_tb.out
      have H := Lib.hid (show (servesL x y) = false from by have h9 := h_ow; unfold ownsL at h9; unfold servesL; simp at h9; simp [h9, h_tb])
      clear h_ow h_tb
      go_wp2_with fail
      go_ret
      exact ⟨by first | (rw [H.out]; done) | (rw [H.out]; rfl), q⟩
  | false =>
    replace h_ow := Lib.hid h_ow
    replace h_ow := h_ow.out
    have H := Lib.hid (show (servesL x y) = false from by have h9 := h_ow; unfold ownsL at h9; unfold servesL; simp at h9; simp [h9])
    clear h_ow
    go_wp2_with fail
    go_ret
    exact ⟨by first | (rw [H.out]; done) | (rw [H.out]; rfl), q⟩
set_option maxRecDepth 100000 in
set_option maxHeartbeats 4000000 in
theorem wrong_any (w : World) {S : Nat → Prop} {u : Value} {x : Lk} (hx : RdLk S w u x) :
    Calls Tryd.prog 38 #[u] w fun e w' => e = .returned (.bool (!fine x)) ∧ Below w.heap.size w w' := by
  obtain ⟨a1, a2, a3, a4, rfl, hlx, hhx, hwx⟩ := hx
  have m1x : x.span.lo.length ≤ 9223372036854775807 := by have := hlx.len; unfold maxLen at this; omega
  have m2x : x.span.hi.length ≤ 9223372036854775807 := by have := hhx.len; unfold maxLen at this; omega
  obtain ⟨W, hW, q, Bx, hsz⟩ := spBox w 29 [.int .i64 x.owner, .bool x.whole, .int .i64 x.span.table, .slice a1 x.span.lo.length a2, .slice a3 x.span.hi.length a4, .bool x.span.isOpen, .int .i64 x.mode]
  clear hsz
  go_enter Tryd.func38, Tryd.ntmps38
  go_upto_region 1 with (fail)
  rw [show w.alloc (.cells #[.int .i64 x.owner, .bool x.whole, .int .i64 x.span.table, .slice a1 x.span.lo.length a2, .slice a3 x.span.hi.length a4, .bool x.span.isOpen, .int .i64 x.mode] 29) = W from hW.symm]
  clear hW
  have rxx := hlx.below q
  have ryx := hhx.below q
  clear hlx hhx
  have cx0 := Bx.cell (i := 0) rfl
  have cx1 := Bx.cell (i := 1) rfl
  have cx2 := Bx.cell (i := 2) rfl
  have cx3 := Bx.cell (i := 3) rfl
  have cx4 := Bx.cell (i := 4) rfl
  have cx5 := Bx.cell (i := 5) rfl
  have cx6 := Bx.cell (i := 6) rfl
  by_cases h_o0 : 0 ≤ x.owner
  · have do0a : decide (x.owner < 0) = false := decide_eq_false (by omega)
    replace h_o0 := Lib.hid h_o0
    by_cases h_o4 : x.owner < 4
    · have do4a : decide (4 ≤ x.owner) = false := decide_eq_false (by omega)
      replace h_o4 := Lib.hid h_o4
      have hcl := sCheck_any _ (RdLk.sp (show RdLk _ _ (.agg #[.int .i64 x.owner, .bool x.whole, .int .i64 x.span.table, .slice a1 x.span.lo.length a2, .slice a3 x.span.hi.length a4, .bool x.span.isOpen, .int .i64 x.mode]) x from ⟨_, _, _, _, rfl, rxx, ryx, hwx⟩))
      go_wp2_with fail
      refine hcl.mono ?_
      rintro e w1 ⟨rfl, hb⟩
      clear hcl
      clear cx0 cx1 cx2 cx3 cx4 cx5 cx6
      replace Bx := Bx.below hb Bx.lt
      replace rxx := rxx.below hb
      replace ryx := ryx.below hb
      replace q := q.trans (hb.mono q.size)
      clear hb
      have cx0 := Bx.cell (i := 0) rfl
      have cx1 := Bx.cell (i := 1) rfl
      have cx2 := Bx.cell (i := 2) rfl
      have cx3 := Bx.cell (i := 3) rfl
      have cx4 := Bx.cell (i := 4) rfl
      have cx5 := Bx.cell (i := 5) rfl
      have cx6 := Bx.cell (i := 6) rfl
      cases h_ck : decide (mayS x.span) with
      | true =>
        have k1 := (of_decide_eq_true h_ck).2.2.1
        have k2 := (of_decide_eq_true h_ck).2.2.2.1
        replace h_ck := Lib.hid h_ck
        cases h_wx : x.whole with
        | true =>
          rw [h_wx] at cx1
          replace h_wx := Lib.hid h_wx
          by_cases h_m1 : 1 ≤ x.mode
          · have dm1a : decide (x.mode < 1) = false := decide_eq_false (by omega)
            replace h_m1 := Lib.hid h_m1
            by_cases h_m5w : x.mode ≤ 5
            · have dm5a : decide (5 < x.mode) = false := decide_eq_false (by omega)
              replace h_m5w := Lib.hid h_m5w
              cases h_op : x.span.isOpen with
              | true =>
                rw [h_op] at cx5
                replace h_op := Lib.hid h_op
                replace h_o0 := h_o0.out
                replace h_o4 := h_o4.out
                replace h_ck := h_ck.out
                replace h_wx := h_wx.out
                replace h_m1 := h_m1.out
                replace h_m5w := h_m5w.out
                replace h_op := h_op.out
                have H := Lib.hid (show (!fine x) = true from by
      rw [show fine x = false from eq_false_of_ne_true fun h0 => by
        have h := fine_iff.1 h0
        rcases h.2.2 with ⟨_, _, h1, _⟩ | ⟨h1, _⟩ <;> simp_all]; rfl)
                clear h_o0 h_o4 h_ck h_wx h_m1 h_m5w h_op
                go_wp2_with fail
                go_ret
                exact ⟨by first | (rw [H.out]; done) | (rw [H.out]; rfl), q⟩
              | false =>
                rw [h_op] at cx5
                replace h_op := Lib.hid h_op
                by_cases h_ln : x.span.lo.length + x.span.hi.length = 0
                · have dlna : decide (0 < (x.span.lo.length : Int) + (x.span.hi.length : Int)) = false := decide_eq_false (by omega)
                  replace h_ln := Lib.hid h_ln
                  replace h_o0 := h_o0.out
                  replace h_o4 := h_o4.out
                  replace h_ck := h_ck.out
                  replace h_wx := h_wx.out
                  replace h_m1 := h_m1.out
                  replace h_m5w := h_m5w.out
                  replace h_op := h_op.out
                  replace h_ln := h_ln.out
                  have H := Lib.hid (show (!fine x) = false from by rw [show fine x = true from fine_iff.2 ⟨⟨by omega, by omega⟩, of_decide_eq_true h_ck, .inl ⟨h_wx, (kn_iff.2 ⟨by omega, by omega⟩), h_op, by omega⟩⟩]; rfl)
                  clear h_o0 h_o4 h_ck h_wx h_m1 h_m5w h_op h_ln
                  go_wp2_with fail
                  go_ret
                  exact ⟨by first | (rw [H.out]; done) | (rw [H.out]; rfl), q⟩
                · have dlna : decide (0 < (x.span.lo.length : Int) + (x.span.hi.length : Int)) = true := decide_eq_true (by omega)
                  replace h_ln := Lib.hid h_ln
                  replace h_o0 := h_o0.out
                  replace h_o4 := h_o4.out
                  replace h_ck := h_ck.out
                  replace h_wx := h_wx.out
                  replace h_m1 := h_m1.out
                  replace h_m5w := h_m5w.out
                  replace h_op := h_op.out
                  replace h_ln := h_ln.out
                  have H := Lib.hid (show (!fine x) = true from by
      rw [show fine x = false from eq_false_of_ne_true fun h0 => by
        have h := fine_iff.1 h0
        rcases h.2.2 with ⟨_, _, _, h1⟩ | ⟨h1, _⟩
        · omega
        · rw [h_wx] at h1; cases h1]; rfl)
                  clear h_o0 h_o4 h_ck h_wx h_m1 h_m5w h_op h_ln
                  go_wp2_with fail
                  go_ret
                  exact ⟨by first | (rw [H.out]; done) | (rw [H.out]; rfl), q⟩
            · have dm5a : decide (5 < x.mode) = true := decide_eq_true (by omega)
              replace h_m5w := Lib.hid h_m5w
              replace h_o0 := h_o0.out
              replace h_o4 := h_o4.out
              replace h_ck := h_ck.out
              replace h_wx := h_wx.out
              replace h_m1 := h_m1.out
              replace h_m5w := h_m5w.out
              have H := Lib.hid (show (!fine x) = true from by
      rw [show fine x = false from eq_false_of_ne_true fun h0 => by
        have h := fine_iff.1 h0
        have := kn_iff.1 (fine_kn (fine_iff.2 h)); omega]; rfl)
              clear h_o0 h_o4 h_ck h_wx h_m1 h_m5w
              go_wp2_with fail
              go_ret
              exact ⟨by first | (rw [H.out]; done) | (rw [H.out]; rfl), q⟩
          · have dm1a : decide (x.mode < 1) = true := decide_eq_true (by omega)
            replace h_m1 := Lib.hid h_m1
            replace h_o0 := h_o0.out
            replace h_o4 := h_o4.out
            replace h_ck := h_ck.out
            replace h_wx := h_wx.out
            replace h_m1 := h_m1.out
            have H := Lib.hid (show (!fine x) = true from by
      rw [show fine x = false from eq_false_of_ne_true fun h0 => by
        have h := fine_iff.1 h0
        have := kn_iff.1 (fine_kn (fine_iff.2 h)); omega]; rfl)
            clear h_o0 h_o4 h_ck h_wx h_m1
            go_wp2_with fail
            go_ret
            exact ⟨by first | (rw [H.out]; done) | (rw [H.out]; rfl), q⟩
        | false =>
          rw [h_wx] at cx1
          replace h_wx := Lib.hid h_wx
          have hcl := sEmpty_any _ (RdLk.sp (show RdLk _ _ (.agg #[.int .i64 x.owner, .bool x.whole, .int .i64 x.span.table, .slice a1 x.span.lo.length a2, .slice a3 x.span.hi.length a4, .bool x.span.isOpen, .int .i64 x.mode]) x from ⟨_, _, _, _, rfl, rxx, ryx, hwx⟩))
          go_wp2_with fail
          refine hcl.mono ?_
          rintro e w1 ⟨rfl, hb⟩
          clear hcl
          clear cx0 cx1 cx2 cx3 cx4 cx5 cx6
          replace Bx := Bx.below hb Bx.lt
          replace rxx := rxx.below hb
          replace ryx := ryx.below hb
          replace q := q.trans (hb.mono q.size)
          clear hb
          have cx0 := Bx.cell (i := 0) rfl
          have cx1 := Bx.cell (i := 1) rfl
          have cx2 := Bx.cell (i := 2) rfl
          have cx3 := Bx.cell (i := 3) rfl
          have cx4 := Bx.cell (i := 4) rfl
          have cx5 := Bx.cell (i := 5) rfl
          have cx6 := Bx.cell (i := 6) rfl
          cases h_em : emptyS x.span with
          | true =>
            replace h_em := Lib.hid h_em
            replace h_o0 := h_o0.out
            replace h_o4 := h_o4.out
            replace h_ck := h_ck.out
            replace h_wx := h_wx.out
            replace h_em := h_em.out
            have H := Lib.hid (show (!fine x) = true from by
      rw [show fine x = false from eq_false_of_ne_true fun h0 => by
        have h := fine_iff.1 h0
        rcases h.2.2 with ⟨h1, _⟩ | ⟨_, h1, _⟩ <;> simp_all]; rfl)
            clear h_o0 h_o4 h_ck h_wx h_em
            go_wp2_with fail
            go_ret
            exact ⟨by first | (rw [H.out]; done) | (rw [H.out]; rfl), q⟩
          | false =>
            replace h_em := Lib.hid h_em
            by_cases h_m3 : x.mode = 3
            · have dam3 : (x.mode == 3) = true := beq_iff_eq.2 h_m3
              have dbm3 : decide (x.mode = 3) = true := decide_eq_true h_m3
              have dcm3 : (x.mode = 3) = True := eq_true h_m3
              have ddm3 : (x.mode != 3) = false := by rw [bne_eq_false_iff_eq]; exact h_m3
              replace h_m3 := Lib.hid h_m3
              replace h_o0 := h_o0.out
              replace h_o4 := h_o4.out
              replace h_ck := h_ck.out
              replace h_wx := h_wx.out
              replace h_em := h_em.out
              replace h_m3 := h_m3.out
              have H := Lib.hid (show (!fine x) = false from by rw [show fine x = true from fine_iff.2 ⟨⟨by omega, by omega⟩, of_decide_eq_true h_ck, .inr ⟨h_wx, h_em, .inl h_m3⟩⟩]; rfl)
              clear h_o0 h_o4 h_ck h_wx h_em h_m3
              go_wp2_with fail
              go_ret
              exact ⟨by first | (rw [H.out]; done) | (rw [H.out]; rfl), q⟩
            · have dam3 : (x.mode == 3) = false := beq_eq_false_iff_ne.2 h_m3
              have dbm3 : decide (x.mode = 3) = false := decide_eq_false h_m3
              have dcm3 : (x.mode = 3) = False := eq_false h_m3
              have ddm3 : (x.mode != 3) = true := bne_iff_ne.2 h_m3
              replace h_m3 := Lib.hid h_m3
              by_cases h_m5 : x.mode = 5
              · have dam5 : (x.mode == 5) = true := beq_iff_eq.2 h_m5
                have dbm5 : decide (x.mode = 5) = true := decide_eq_true h_m5
                have dcm5 : (x.mode = 5) = True := eq_true h_m5
                have ddm5 : (x.mode != 5) = false := by rw [bne_eq_false_iff_eq]; exact h_m5
                replace h_m5 := Lib.hid h_m5
                replace h_o0 := h_o0.out
                replace h_o4 := h_o4.out
                replace h_ck := h_ck.out
                replace h_wx := h_wx.out
                replace h_em := h_em.out
                replace h_m3 := h_m3.out
                replace h_m5 := h_m5.out
                have H := Lib.hid (show (!fine x) = false from by rw [show fine x = true from fine_iff.2 ⟨⟨by omega, by omega⟩, of_decide_eq_true h_ck, .inr ⟨h_wx, h_em, .inr h_m5⟩⟩]; rfl)
                clear h_o0 h_o4 h_ck h_wx h_em h_m3 h_m5
                go_wp2_with fail
                go_ret
                exact ⟨by first | (rw [H.out]; done) | (rw [H.out]; rfl), q⟩
              · have dam5 : (x.mode == 5) = false := beq_eq_false_iff_ne.2 h_m5
                have dbm5 : decide (x.mode = 5) = false := decide_eq_false h_m5
                have dcm5 : (x.mode = 5) = False := eq_false h_m5
                have ddm5 : (x.mode != 5) = true := bne_iff_ne.2 h_m5
                replace h_m5 := Lib.hid h_m5
                replace h_o0 := h_o0.out
                replace h_o4 := h_o4.out
                replace h_ck := h_ck.out
                replace h_wx := h_wx.out
                replace h_em := h_em.out
                replace h_m3 := h_m3.out
                replace h_m5 := h_m5.out
                have H := Lib.hid (show (!fine x) = true from by
      rw [show fine x = false from eq_false_of_ne_true fun h0 => by
        have h := fine_iff.1 h0
        rcases h.2.2 with ⟨h1, _⟩ | ⟨_, _, h1⟩ <;> simp_all]; rfl)
                clear h_o0 h_o4 h_ck h_wx h_em h_m3 h_m5
                go_wp2_with fail
                go_ret
                exact ⟨by first | (rw [H.out]; done) | (rw [H.out]; rfl), q⟩
      | false =>
        replace h_ck := Lib.hid h_ck
        replace h_o0 := h_o0.out
        replace h_o4 := h_o4.out
        replace h_ck := h_ck.out
        have H := Lib.hid (show (!fine x) = true from by
      rw [show fine x = false from eq_false_of_ne_true fun h0 => by
        have h := fine_iff.1 h0
        exact absurd h.2.1 (of_decide_eq_false h_ck)]; rfl)
        clear h_o0 h_o4 h_ck
        go_wp2_with fail
        go_ret
        exact ⟨by first | (rw [H.out]; done) | (rw [H.out]; rfl), q⟩
    · have do4a : decide (4 ≤ x.owner) = true := decide_eq_true (by omega)
      replace h_o4 := Lib.hid h_o4
      replace h_o0 := h_o0.out
      replace h_o4 := h_o4.out
      have H := Lib.hid (show (!fine x) = true from by
      rw [show fine x = false from eq_false_of_ne_true fun h0 => by
        have h := fine_iff.1 h0
        have := h.1; omega]; rfl)
      clear h_o0 h_o4
      go_wp2_with fail
      go_ret
      exact ⟨by first | (rw [H.out]; done) | (rw [H.out]; rfl), q⟩
  · have do0a : decide (x.owner < 0) = true := decide_eq_true (by omega)
    replace h_o0 := Lib.hid h_o0
    replace h_o0 := h_o0.out
    have H := Lib.hid (show (!fine x) = true from by
      rw [show fine x = false from eq_false_of_ne_true fun h0 => by
        have h := fine_iff.1 h0
        have := h.1; omega]; rfl)
    clear h_o0
    go_wp2_with fail
    go_ret
    exact ⟨by first | (rw [H.out]; done) | (rw [H.out]; rfl), q⟩
set_option maxRecDepth 100000 in
set_option maxHeartbeats 4000000 in
theorem rMay_any (w : World) {S : Nat → Prop} {u : Value} {x : Lk} (hx : RdLk S w u x) :
    Calls Tryd.prog 44 #[u] w fun e w' => e = .returned (.bool (fine x)) ∧ Below w.heap.size w w' := by
  obtain ⟨a1, a2, a3, a4, rfl, hlx, hhx, hwx⟩ := hx
  have m1x : x.span.lo.length ≤ 9223372036854775807 := by have := hlx.len; unfold maxLen at this; omega
  have m2x : x.span.hi.length ≤ 9223372036854775807 := by have := hhx.len; unfold maxLen at this; omega
  obtain ⟨W, hW, q, Bx, hsz⟩ := spBox w 29 [.int .i64 x.owner, .bool x.whole, .int .i64 x.span.table, .slice a1 x.span.lo.length a2, .slice a3 x.span.hi.length a4, .bool x.span.isOpen, .int .i64 x.mode]
  clear hsz
  go_enter Tryd.func44, Tryd.ntmps44
  go_upto_region 1 with (fail)
  rw [show w.alloc (.cells #[.int .i64 x.owner, .bool x.whole, .int .i64 x.span.table, .slice a1 x.span.lo.length a2, .slice a3 x.span.hi.length a4, .bool x.span.isOpen, .int .i64 x.mode] 29) = W from hW.symm]
  clear hW
  have rxx := hlx.below q
  have ryx := hhx.below q
  clear hlx hhx
  have cx0 := Bx.cell (i := 0) rfl
  have cx1 := Bx.cell (i := 1) rfl
  have cx2 := Bx.cell (i := 2) rfl
  have cx3 := Bx.cell (i := 3) rfl
  have cx4 := Bx.cell (i := 4) rfl
  have cx5 := Bx.cell (i := 5) rfl
  have cx6 := Bx.cell (i := 6) rfl
  by_cases h_o0 : 0 ≤ x.owner
  · have do0a : decide (x.owner < 0) = false := decide_eq_false (by omega)
    replace h_o0 := Lib.hid h_o0
    by_cases h_o4 : x.owner < 4
    · have do4a : decide (3 < x.owner) = false := decide_eq_false (by omega)
      replace h_o4 := Lib.hid h_o4
      cases h_wx : x.whole with
      | true =>
        rw [h_wx] at cx1
        replace h_wx := Lib.hid h_wx
        by_cases h_lo : x.span.lo.length = 0
        · have dla : ((x.span.lo.length : Int) == 0) = true := beq_iff_eq.2 (by omega)
          have dlb : decide ((x.span.lo.length : Int) = 0) = true := decide_eq_true (by omega)
          replace h_lo := Lib.hid h_lo
          by_cases h_hi : x.span.hi.length = 0
          · have dha : ((x.span.hi.length : Int) == 0) = true := beq_iff_eq.2 (by omega)
            have dhb : decide ((x.span.hi.length : Int) = 0) = true := decide_eq_true (by omega)
            replace h_hi := Lib.hid h_hi
            cases h_op : x.span.isOpen with
            | true =>
              rw [h_op] at cx5
              replace h_op := Lib.hid h_op
              replace h_o0 := h_o0.out
              replace h_o4 := h_o4.out
              replace h_wx := h_wx.out
              replace h_lo := h_lo.out
              replace h_hi := h_hi.out
              replace h_op := h_op.out
              have H := Lib.hid (show (fine x) = false from by
      rw [show fine x = false from eq_false_of_ne_true fun h0 => by
        have h := fine_iff.1 h0
        rcases h.2.2 with ⟨_, _, h1, _⟩ | ⟨h1, _⟩ <;> simp_all])
              clear h_o0 h_o4 h_wx h_lo h_hi h_op
              go_wp2_with fail
              go_ret
              exact ⟨by first | (rw [H.out]; done) | (rw [H.out]; rfl), q⟩
            | false =>
              rw [h_op] at cx5
              replace h_op := Lib.hid h_op
              by_cases h_t0 : 0 ≤ x.span.table
              · have dt0a : decide (0 ≤ x.span.table) = true := decide_eq_true (by omega)
                replace h_t0 := Lib.hid h_t0
                by_cases h_t3 : x.span.table ≤ 3
                · have dt3a : decide (x.span.table ≤ 3) = true := decide_eq_true (by omega)
                  replace h_t3 := Lib.hid h_t3
                  have hcl := may_any W x.mode
                  go_wp2_with fail
                  refine hcl.mono ?_
                  rintro e _ ⟨rfl, rfl⟩
                  clear hcl
                  by_cases h_mm : 0 < mayM x.mode
                  · have dmma : decide (0 < mayM x.mode) = true := decide_eq_true (by omega)
                    replace h_mm := Lib.hid h_mm
                    replace h_o0 := h_o0.out
                    replace h_o4 := h_o4.out
                    replace h_wx := h_wx.out
                    replace h_lo := h_lo.out
                    replace h_hi := h_hi.out
                    replace h_op := h_op.out
                    replace h_t0 := h_t0.out
                    replace h_t3 := h_t3.out
                    replace h_mm := h_mm.out
                    have H := Lib.hid (show (fine x) = true from by rw [show fine x = true from fine_iff.2 ⟨⟨by omega, by omega⟩, (by unfold mayS; have e1 : x.span.hi = [] := List.eq_nil_of_length_eq_zero (by omega); rw [e1]; simp; omega), .inl ⟨h_wx, (by have h9 := h_mm; exact may_kn (by omega)), h_op, by omega⟩⟩])
                    clear h_o0 h_o4 h_wx h_lo h_hi h_op h_t0 h_t3 h_mm
                    go_wp2_with fail
                    go_ret
                    exact ⟨by first | (rw [H.out]; done) | (rw [H.out]; rfl), q⟩
                  · have dmma : decide (0 < mayM x.mode) = false := decide_eq_false (by omega)
                    replace h_mm := Lib.hid h_mm
                    replace h_o0 := h_o0.out
                    replace h_o4 := h_o4.out
                    replace h_wx := h_wx.out
                    replace h_lo := h_lo.out
                    replace h_hi := h_hi.out
                    replace h_op := h_op.out
                    replace h_t0 := h_t0.out
                    replace h_t3 := h_t3.out
                    replace h_mm := h_mm.out
                    have H := Lib.hid (show (fine x) = false from by
      rw [show fine x = false from eq_false_of_ne_true fun h0 => by
        have h := fine_iff.1 h0
        have h1 := fine_kn (fine_iff.2 h); have := may_pos h1; omega])
                    clear h_o0 h_o4 h_wx h_lo h_hi h_op h_t0 h_t3 h_mm
                    go_wp2_with fail
                    go_ret
                    exact ⟨by first | (rw [H.out]; done) | (rw [H.out]; rfl), q⟩
                · have dt3a : decide (x.span.table ≤ 3) = false := decide_eq_false (by omega)
                  replace h_t3 := Lib.hid h_t3
                  replace h_o0 := h_o0.out
                  replace h_o4 := h_o4.out
                  replace h_wx := h_wx.out
                  replace h_lo := h_lo.out
                  replace h_hi := h_hi.out
                  replace h_op := h_op.out
                  replace h_t0 := h_t0.out
                  replace h_t3 := h_t3.out
                  have H := Lib.hid (show (fine x) = false from by
      rw [show fine x = false from eq_false_of_ne_true fun h0 => by
        have h := fine_iff.1 h0
        have h1 := h.2.1.2.1; omega])
                  clear h_o0 h_o4 h_wx h_lo h_hi h_op h_t0 h_t3
                  go_wp2_with fail
                  go_ret
                  exact ⟨by first | (rw [H.out]; done) | (rw [H.out]; rfl), q⟩
              · have dt0a : decide (0 ≤ x.span.table) = false := decide_eq_false (by omega)
                replace h_t0 := Lib.hid h_t0
                replace h_o0 := h_o0.out
                replace h_o4 := h_o4.out
                replace h_wx := h_wx.out
                replace h_lo := h_lo.out
                replace h_hi := h_hi.out
                replace h_op := h_op.out
                replace h_t0 := h_t0.out
                have H := Lib.hid (show (fine x) = false from by
      rw [show fine x = false from eq_false_of_ne_true fun h0 => by
        have h := fine_iff.1 h0
        have h1 := h.2.1.1; omega])
                clear h_o0 h_o4 h_wx h_lo h_hi h_op h_t0
                go_wp2_with fail
                go_ret
                exact ⟨by first | (rw [H.out]; done) | (rw [H.out]; rfl), q⟩
          · have dha : ((x.span.hi.length : Int) == 0) = false := beq_eq_false_iff_ne.2 (by omega)
            have dhb : decide ((x.span.hi.length : Int) = 0) = false := decide_eq_false (by omega)
            replace h_hi := Lib.hid h_hi
            replace h_o0 := h_o0.out
            replace h_o4 := h_o4.out
            replace h_wx := h_wx.out
            replace h_lo := h_lo.out
            replace h_hi := h_hi.out
            have H := Lib.hid (show (fine x) = false from by
      rw [show fine x = false from eq_false_of_ne_true fun h0 => by
        have h := fine_iff.1 h0
        rcases h.2.2 with ⟨_, _, _, h1⟩ | ⟨h1, _⟩
        · omega
        · rw [h_wx] at h1; cases h1])
            clear h_o0 h_o4 h_wx h_lo h_hi
            go_wp2_with fail
            go_ret
            exact ⟨by first | (rw [H.out]; done) | (rw [H.out]; rfl), q⟩
        · have dla : ((x.span.lo.length : Int) == 0) = false := beq_eq_false_iff_ne.2 (by omega)
          have dlb : decide ((x.span.lo.length : Int) = 0) = false := decide_eq_false (by omega)
          replace h_lo := Lib.hid h_lo
          replace h_o0 := h_o0.out
          replace h_o4 := h_o4.out
          replace h_wx := h_wx.out
          replace h_lo := h_lo.out
          have H := Lib.hid (show (fine x) = false from by
      rw [show fine x = false from eq_false_of_ne_true fun h0 => by
        have h := fine_iff.1 h0
        rcases h.2.2 with ⟨_, _, _, h1⟩ | ⟨h1, _⟩
        · omega
        · rw [h_wx] at h1; cases h1])
          clear h_o0 h_o4 h_wx h_lo
          go_wp2_with fail
          go_ret
          exact ⟨by first | (rw [H.out]; done) | (rw [H.out]; rfl), q⟩
      | false =>
        rw [h_wx] at cx1
        replace h_wx := Lib.hid h_wx
        have hcl := rCheck_any _ (RdLk.sp (show RdLk _ _ (.agg #[.int .i64 x.owner, .bool x.whole, .int .i64 x.span.table, .slice a1 x.span.lo.length a2, .slice a3 x.span.hi.length a4, .bool x.span.isOpen, .int .i64 x.mode]) x from ⟨_, _, _, _, rfl, rxx, ryx, hwx⟩))
        go_wp2_with fail
        refine hcl.mono ?_
        rintro e w1 ⟨rfl, hb⟩
        clear hcl
        clear cx0 cx1 cx2 cx3 cx4 cx5 cx6
        replace Bx := Bx.below hb Bx.lt
        replace rxx := rxx.below hb
        replace ryx := ryx.below hb
        replace q := q.trans (hb.mono q.size)
        clear hb
        have cx0 := Bx.cell (i := 0) rfl
        have cx1 := Bx.cell (i := 1) rfl
        have cx2 := Bx.cell (i := 2) rfl
        have cx3 := Bx.cell (i := 3) rfl
        have cx4 := Bx.cell (i := 4) rfl
        have cx5 := Bx.cell (i := 5) rfl
        have cx6 := Bx.cell (i := 6) rfl
        cases h_ck : decide (mayS x.span) with
        | true =>
          replace h_ck := Lib.hid h_ck
          have hcl := rEmpty_any _ (RdLk.sp (show RdLk _ _ (.agg #[.int .i64 x.owner, .bool x.whole, .int .i64 x.span.table, .slice a1 x.span.lo.length a2, .slice a3 x.span.hi.length a4, .bool x.span.isOpen, .int .i64 x.mode]) x from ⟨_, _, _, _, rfl, rxx, ryx, hwx⟩))
          go_wp2_with fail
          refine hcl.mono ?_
          rintro e w1 ⟨rfl, hb⟩
          clear hcl
          clear cx0 cx1 cx2 cx3 cx4 cx5 cx6
          replace Bx := Bx.below hb Bx.lt
          replace rxx := rxx.below hb
          replace ryx := ryx.below hb
          replace q := q.trans (hb.mono q.size)
          clear hb
          have cx0 := Bx.cell (i := 0) rfl
          have cx1 := Bx.cell (i := 1) rfl
          have cx2 := Bx.cell (i := 2) rfl
          have cx3 := Bx.cell (i := 3) rfl
          have cx4 := Bx.cell (i := 4) rfl
          have cx5 := Bx.cell (i := 5) rfl
          have cx6 := Bx.cell (i := 6) rfl
          cases h_em : emptyS x.span with
          | true =>
            replace h_em := Lib.hid h_em
            replace h_o0 := h_o0.out
            replace h_o4 := h_o4.out
            replace h_wx := h_wx.out
            replace h_ck := h_ck.out
            replace h_em := h_em.out
            have H := Lib.hid (show (fine x) = false from by
      rw [show fine x = false from eq_false_of_ne_true fun h0 => by
        have h := fine_iff.1 h0
        rcases h.2.2 with ⟨h1, _⟩ | ⟨_, h1, _⟩ <;> simp_all])
            clear h_o0 h_o4 h_wx h_ck h_em
            go_wp2_with fail
            go_ret
            exact ⟨by first | (rw [H.out]; done) | (rw [H.out]; rfl), q⟩
          | false =>
            replace h_em := Lib.hid h_em
            by_cases h_m3 : x.mode = 3
            · have dam3 : (x.mode == 3) = true := beq_iff_eq.2 h_m3
              have dbm3 : decide (x.mode = 3) = true := decide_eq_true h_m3
              have dcm3 : (x.mode = 3) = True := eq_true h_m3
              have ddm3 : (x.mode != 3) = false := by rw [bne_eq_false_iff_eq]; exact h_m3
              replace h_m3 := Lib.hid h_m3
              replace h_o0 := h_o0.out
              replace h_o4 := h_o4.out
              replace h_wx := h_wx.out
              replace h_ck := h_ck.out
              replace h_em := h_em.out
              replace h_m3 := h_m3.out
              have H := Lib.hid (show (fine x) = true from by rw [show fine x = true from fine_iff.2 ⟨⟨by omega, by omega⟩, of_decide_eq_true h_ck, .inr ⟨h_wx, h_em, .inl h_m3⟩⟩])
              clear h_o0 h_o4 h_wx h_ck h_em h_m3
              go_wp2_with fail
              go_ret
              exact ⟨by first | (rw [H.out]; done) | (rw [H.out]; rfl), q⟩
            · have dam3 : (x.mode == 3) = false := beq_eq_false_iff_ne.2 h_m3
              have dbm3 : decide (x.mode = 3) = false := decide_eq_false h_m3
              have dcm3 : (x.mode = 3) = False := eq_false h_m3
              have ddm3 : (x.mode != 3) = true := bne_iff_ne.2 h_m3
              replace h_m3 := Lib.hid h_m3
              by_cases h_m5 : x.mode = 5
              · have dam5 : (x.mode == 5) = true := beq_iff_eq.2 h_m5
                have dbm5 : decide (x.mode = 5) = true := decide_eq_true h_m5
                have dcm5 : (x.mode = 5) = True := eq_true h_m5
                have ddm5 : (x.mode != 5) = false := by rw [bne_eq_false_iff_eq]; exact h_m5
                replace h_m5 := Lib.hid h_m5
                replace h_o0 := h_o0.out
                replace h_o4 := h_o4.out
                replace h_wx := h_wx.out
                replace h_ck := h_ck.out
                replace h_em := h_em.out
                replace h_m3 := h_m3.out
                replace h_m5 := h_m5.out
                have H := Lib.hid (show (fine x) = true from by rw [show fine x = true from fine_iff.2 ⟨⟨by omega, by omega⟩, of_decide_eq_true h_ck, .inr ⟨h_wx, h_em, .inr h_m5⟩⟩])
                clear h_o0 h_o4 h_wx h_ck h_em h_m3 h_m5
                go_wp2_with fail
                go_ret
                exact ⟨by first | (rw [H.out]; done) | (rw [H.out]; rfl), q⟩
              · have dam5 : (x.mode == 5) = false := beq_eq_false_iff_ne.2 h_m5
                have dbm5 : decide (x.mode = 5) = false := decide_eq_false h_m5
                have dcm5 : (x.mode = 5) = False := eq_false h_m5
                have ddm5 : (x.mode != 5) = true := bne_iff_ne.2 h_m5
                replace h_m5 := Lib.hid h_m5
                replace h_o0 := h_o0.out
                replace h_o4 := h_o4.out
                replace h_wx := h_wx.out
                replace h_ck := h_ck.out
                replace h_em := h_em.out
                replace h_m3 := h_m3.out
                replace h_m5 := h_m5.out
                have H := Lib.hid (show (fine x) = false from by
      rw [show fine x = false from eq_false_of_ne_true fun h0 => by
        have h := fine_iff.1 h0
        rcases h.2.2 with ⟨h1, _⟩ | ⟨_, _, h1⟩ <;> simp_all])
                clear h_o0 h_o4 h_wx h_ck h_em h_m3 h_m5
                go_wp2_with fail
                go_ret
                exact ⟨by first | (rw [H.out]; done) | (rw [H.out]; rfl), q⟩
        | false =>
          replace h_ck := Lib.hid h_ck
          replace h_o0 := h_o0.out
          replace h_o4 := h_o4.out
          replace h_wx := h_wx.out
          replace h_ck := h_ck.out
          have H := Lib.hid (show (fine x) = false from by
      rw [show fine x = false from eq_false_of_ne_true fun h0 => by
        have h := fine_iff.1 h0
        exact absurd h.2.1 (of_decide_eq_false h_ck)])
          clear h_o0 h_o4 h_wx h_ck
          go_wp2_with fail
          go_ret
          exact ⟨by first | (rw [H.out]; done) | (rw [H.out]; rfl), q⟩
    · have do4a : decide (3 < x.owner) = true := decide_eq_true (by omega)
      replace h_o4 := Lib.hid h_o4
      replace h_o0 := h_o0.out
      replace h_o4 := h_o4.out
      have H := Lib.hid (show (fine x) = false from by
      rw [show fine x = false from eq_false_of_ne_true fun h0 => by
        have h := fine_iff.1 h0
        have := h.1; omega])
      clear h_o0 h_o4
      go_wp2_with fail
      go_ret
      exact ⟨by first | (rw [H.out]; done) | (rw [H.out]; rfl), q⟩
  · have do0a : decide (x.owner < 0) = true := decide_eq_true (by omega)
    replace h_o0 := Lib.hid h_o0
    replace h_o0 := h_o0.out
    have H := Lib.hid (show (fine x) = false from by
      rw [show fine x = false from eq_false_of_ne_true fun h0 => by
        have h := fine_iff.1 h0
        have := h.1; omega])
    clear h_o0
    go_wp2_with fail
    go_ret
    exact ⟨by first | (rw [H.out]; done) | (rw [H.out]; rfl), q⟩
end Go.Proofs.YtpdnehgboafgpaaDoor
namespace Go.Proofs.YtpdnehgboafgpaaDoor
open Go.RowKit
structure Trd (F : Nat → Prop) (w w' : World) : Prop where
  os : w'.os = w.os
  tape : w'.tape = w.tape
  output : w'.output = w.output
  size : w.heap.size ≤ w'.heap.size
  block : ∀ k, k < w.heap.size → ¬ F k → w'.heap[k]? = w.heap[k]?
section
variable {F F' : Nat → Prop} {a b c w w' : World}
theorem Trd.refl (F : Nat → Prop) (w : World) : Trd F w w := ⟨rfl, rfl, rfl, Nat.le_refl _, fun _ _ _ => rfl⟩
theorem Trd.trans (h : Trd F a b) (k : Trd F' b c) (hf : ∀ k, k < a.heap.size → F' k → F k) : Trd F a c :=
  ⟨k.os.trans h.os, k.tape.trans h.tape, k.output.trans h.output, Nat.le_trans h.size k.size, fun i hi hn => (k.block i (Nat.lt_of_lt_of_le hi h.size) fun hF => hn (hf i hi hF)).trans (h.block i hi hn)⟩
theorem Trd.of (h : Below w.heap.size w w') : Trd F w w' := ⟨h.os, h.tape, h.output, h.size, fun k hk _ => h.block k hk⟩
theorem Trd.ofGrown {r : Option Nat} (h : w.grownBy w' r) (hr : ∀ k, r = some k → F k) : Trd F w w' := ⟨h.os, h.tape, h.output, h.size, fun k hk hn => h.block k hk fun e => hn (hr k e.symm)⟩
theorem Trd.below {n : Nat} (h : Trd F w w') (hn : n ≤ w.heap.size) (hf : ∀ k, k < n → ¬ F k) : Below n w w' := ⟨h.os, h.tape, h.output, h.size, fun k hk => h.block k (Nat.lt_of_lt_of_le hk hn) (hf k hk)⟩
theorem Trd.cell (h : Trd F w w') {k o : Nat} {v : Value} (hc : w.cell? ⟨k, o, none⟩ = some v) (hn : ¬ F k) : w'.cell? ⟨k, o, none⟩ = some v :=
  (cell_keep (h.block k (cell_lt hc) hn) o).trans hc
end
def RowQ (Te : TypeId) (sz : Nat) (w : World) (v : Value) (n : Nat) (vs : List Value) : Prop := w.ownsRow 0 Te sz v n vs ∧ ∀ u ∈ vs, u.oneCell' = true
section
variable {Te : TypeId} {sz n : Nat} {w w' : World} {v : Value} {vs : List Value}
theorem RowQ.len (h : RowQ Te sz w v n vs) : vs.length = n * sz := h.1.1
theorem RowQ.cases (h : RowQ Te sz w v n vs) : (v = .slice none 0 0 ∧ n = 0 ∧ vs = []) ∨ ∃ g cap cur, v = .slice (some ⟨g, 0, none⟩) n cap ∧ w.heap[g]? = some (.cells cur Te (0, 0)) ∧ n ≤ cap ∧ cap ≤ maxLen ∧ cur.size = cap * sz ∧ cur.toList.take (n * sz) = vs := by
  rcases h.1.2 with ⟨h1, h2⟩ | ⟨g, cap, cur, h1, _, h2, h3, h4, h5, h6⟩
  · refine .inl ⟨h1, h2, List.eq_nil_of_length_eq_zero ?_⟩
    rw [h.len, h2, Nat.zero_mul]
  · exact .inr ⟨g, cap, cur, h1, h2, h3, h4, h5, h6⟩
theorem RowQ.of {g cap : Nat} {cur : Array Value} (hg : w.heap[g]? = some (.cells cur Te (0, 0))) (h1 : n ≤ cap) (h2 : cap ≤ maxLen) (h3 : cur.size = cap * sz) (h4 : cur.toList.take (n * sz) = vs) (h5 : ∀ u ∈ vs, u.oneCell' = true) : RowQ Te sz w (.slice (some ⟨g, 0, none⟩) n cap) n vs := by
  refine ⟨⟨?_, .inr ⟨g, cap, cur, rfl, Nat.zero_le _, hg, h1, h2, h3, h4⟩⟩, h5⟩
  rw [← h4, List.length_take, Array.length_toList, h3]
  exact Nat.min_eq_left (Nat.mul_le_mul_right _ h1)
theorem RowQ.nil (Te : TypeId) (sz : Nat) (w : World) : RowQ Te sz w (.slice none 0 0) 0 [] := ⟨World.ownsRow_nil _ _ _ _, fun _ h => by cases h⟩
theorem RowQ.shape (h : RowQ Te sz w v n vs) : ∃ a c, v = .slice a n c ∧ n ≤ c ∧ c ≤ maxLen := by
  rcases h.cases with ⟨rfl, rfl, _⟩ | ⟨g, cap, cur, rfl, _, h1, h2, _⟩
  · exact ⟨none, 0, rfl, Nat.le_refl _, by unfold maxLen; omega⟩
  · exact ⟨_, _, rfl, h1, h2⟩
theorem RowQ.block (h : RowQ Te sz w v n vs) {k : Nat} (hk : v.ownBlock = some k) : ∃ cur, w.heap[k]? = some (.cells cur Te (0, 0)) := by
  rcases h.cases with ⟨rfl, _, _⟩ | ⟨g, cap, cur, rfl, hg, _⟩
  · simp [Value.ownBlock] at hk
  · simp [Value.ownBlock] at hk
    subst hk
    exact ⟨_, hg⟩
theorem RowQ.lt (h : RowQ Te sz w v n vs) {k : Nat} (hk : v.ownBlock = some k) : k < w.heap.size := by
  obtain ⟨_, hg⟩ := h.block hk
  exact (Array.getElem?_eq_some_iff.1 hg).1
theorem RowQ.kept (h : RowQ Te sz w v n vs) (hk : ∀ k, v.ownBlock = some k → w'.heap[k]? = w.heap[k]?) : RowQ Te sz w' v n vs := by
  refine ⟨⟨h.1.1, ?_⟩, h.2⟩
  rcases h.1.2 with h | ⟨g, cap, cur, rfl, h1, h2, h3⟩
  · exact .inl h
  · exact .inr ⟨g, cap, cur, rfl, h1, (hk g rfl).trans h2, h3⟩
theorem RowQ.below (h : RowQ Te sz w v n vs) (hb : Below w.heap.size w w') : RowQ Te sz w' v n vs := h.kept fun k e => hb.block k (h.lt e)
theorem RowQ.cell (h : RowQ Te sz w v n vs) {g : Nat} (hg : v.ownBlock = some g) {j : Nat} {u : Value} (hj : vs[j]? = some u) : w.cell? ⟨g, j, none⟩ = some u := by
  rcases h.cases with ⟨rfl, _, _⟩ | ⟨g', cap, cur, rfl, hb, _, _, _, ht⟩
  · simp [Value.ownBlock] at hg
  · simp [Value.ownBlock] at hg
    subst hg
    subst ht
    rw [List.getElem?_take] at hj
    split at hj
    · simp [World.cell?, hb, ← Array.getElem?_toList, hj]
    · cases hj
end
section
variable {P : Program} {T Te : TypeId} {n : Nat} {ops : Array Oper} {rest : List Oper} {o : Oper} {a : Act} {Q : Exit → Act → World → Prop} {w : World} {K : Act → World → Prop}
theorem wp_sliceRaw (hP : LsP P T Te n) {x : Operand} {lo hi : Option Operand} (ho : o.op = .slice T x lo hi none) {ad : Option Addr} {k c : Nat} (hx : a.eval x = .slice ad k c) {lov hiv : Option Value} (hlo : lo.map a.eval = lov) (hhi : hi.map a.eval = hiv)
    {l r : Nat} (hb : (Instr.sliceBounds true k c lov hiv none).run P w = .ok (l, r, c) w)
    (h : K (a.put o.dst (.slice (if c = l then ad else ad.map (·.add (l * n))) (r - l) (c - l))) w) : o.wp P a w K Q := by
  subst hlo; subst hhi
  unfold Oper.wp execOp
  simp only [ho, hx, Option.map_none, Sem.run_bind, Sem.run_pure, Result.andThen_ok, run_sliceL hP hb]
  exact h
theorem wp_sliceFrom (hP : LsP P T Te n) {x : Operand} {lo hi : Option Operand} (ho : o.op = .slice T x lo hi none) {g off k c : Nat} (hx : a.eval x = .slice (some ⟨g, off, none⟩) k c) {lov hiv : Option Value} (hlo : lo.map a.eval = lov) (hhi : hi.map a.eval = hiv)
    {l r : Nat} (hb : (Instr.sliceBounds true k c lov hiv none).run P w = .ok (l, r, c) w) (hne : c ≠ l)
    (h : K (a.put o.dst (.slice (some ⟨g, off + l * n, none⟩) (r - l) (c - l))) w) : o.wp P a w K Q := by
  refine wp_sliceRaw hP ho hx hlo hhi hb ?_
  rw [if_neg hne]
  simpa [Addr.add_lit] using h
theorem wp_sliceTo (hP : LsP P T Te n) {x : Operand} {hi : Option Operand} (ho : o.op = .slice T x none hi none) {g off k c : Nat} (hx : a.eval x = .slice (some ⟨g, off, none⟩) k c) {hiv : Option Value} (hhi : hi.map a.eval = hiv)
    {r : Nat} (hb : (Instr.sliceBounds true k c none hiv none).run P w = .ok (0, r, c) w)
    (h : K (a.put o.dst (.slice (some ⟨g, off, none⟩) r c)) w) : o.wp P a w K Q := by
  refine wp_sliceRaw hP ho hx rfl hhi hb ?_
  simp only [Nat.sub_zero, Nat.zero_mul, Option.map_some, Addr.add_lit, Nat.add_zero]
  split <;> exact h
theorem wpList_sliceFrom (hP : LsP P T Te n) {x : Operand} {lo hi : Option Operand} (ho : o.op = .slice T x lo hi none) (hgd : Region.wanted o (yielded ops a.tmps) = true) {g off k c : Nat} (hx : a.eval x = .slice (some ⟨g, off, none⟩) k c)
    {l r : Nat} (hb : (Instr.sliceBounds true k c (lo.map a.eval) (hi.map a.eval) none).run P w = .ok (l, r, c) w) (hne : c ≠ l)
    (h : wpList P ops Q rest (a.put o.dst (.slice (some ⟨g, off + l * n, none⟩) (r - l) (c - l))) w) : wpList P ops Q (o :: rest) a w :=
  BigFrame.wpList_want hgd fun _ hK => wp_sliceFrom hP ho hx rfl rfl hb hne (hK _ _ h)
theorem wpList_sliceTo (hP : LsP P T Te n) {x : Operand} {hi : Option Operand} (ho : o.op = .slice T x none hi none) (hgd : Region.wanted o (yielded ops a.tmps) = true) {g off k c : Nat} (hx : a.eval x = .slice (some ⟨g, off, none⟩) k c)
    {r : Nat} (hb : (Instr.sliceBounds true k c none (hi.map a.eval) none).run P w = .ok (0, r, c) w)
    (h : wpList P ops Q rest (a.put o.dst (.slice (some ⟨g, off, none⟩) r c)) w) : wpList P ops Q (o :: rest) a w :=
  BigFrame.wpList_want hgd fun _ hK => wp_sliceTo hP ho hx rfl hb (hK _ _ h)
def RowTo (Te : TypeId) (sz : Nat) (w : World) (v : Value) (n' : Nat) (vs' : List Value) (v' : Value) (w' : World) : Prop :=
  RowQ Te sz w' v' n' vs' ∧ w.grownBy w' v.ownBlock ∧ (v'.ownBlock = v.ownBlock ∨ ∃ k, v'.ownBlock = some k ∧ w.heap.size ≤ k)
theorem run_appQ (hP : LoP P T Te n) (h0 : 0 < n) (w : World) (ty : TypeId) {v : Value} {k : Nat} {vs : List Value} (hv : RowQ Te n w v k vs) {p : Addr} {m c : Nat} {cs : List Value} (hl : cs.length = m * n) (hc : ∀ j u, cs[j]? = some u → w.cell? (p.add j) = some u) (h1 : ∀ u ∈ cs, u.oneCell' = true) (hlen : k + m ≤ 1073741824) :
    ∃ v' w', (Builtin.append_ #[T, T] ty #[v, .slice (some p) m c]).run P w = .ok v' w' ∧ RowTo Te n w v (k + m) (vs ++ cs) v' w' := by
  obtain ⟨i, z, hi, hz, hsz, hby, hzs⟩ := hP.all
  obtain ⟨v', w', hr, ho, hg, _, hb⟩ := run_append_own_at (P := P) (w := w) 0 T ty Te i z n i.bytes hP.hT hi hz hsz rfl hzs h0 v k vs hv.1 p m c cs hl hc h1 (by unfold maxLen; omega)
    (by have := Nat.mul_le_mul hlen hby; omega) (Nat.zero_le _)
  exact ⟨v', w', hr, ⟨ho, fun u hu => (List.mem_append.1 hu).elim (hv.2 u) (h1 u)⟩, hg, hb.imp id fun e => ⟨_, e, Nat.le_refl _⟩⟩
theorem wp_appQ (hP : LoP P T Te n) (h0 : 0 < n) {s x : Operand} (ho : o.op = .call { callee := .builtin .append, args := #[s, x], argTypes := #[T, T] }) {v : Value} {k : Nat} {vs : List Value} (hs : a.eval s = v) (hv : RowQ Te n w v k vs) {p : Addr} {m c : Nat} {cs : List Value} (hx : a.eval x = .slice (some p) m c)
    (hl : cs.length = m * n) (hc : ∀ j u, cs[j]? = some u → w.cell? (p.add j) = some u) (h1 : ∀ u ∈ cs, u.oneCell' = true) (hlen : k + m ≤ 1073741824)
    (h : ∀ ad cap w', RowTo Te n w v (k + m) (vs ++ cs) (.slice ad (k + m) cap) w' → K (a.put o.dst (.slice ad (k + m) cap)) w') : o.wp P a w K Q := by
  obtain ⟨v', w', hrun, h2⟩ := run_appQ hP h0 w o.type hv hl hc h1 hlen (c := c)
  obtain ⟨ad, cap, rfl, _⟩ := h2.1.shape
  unfold Oper.wp execOp
  simp only [ho, resolve, invoke, builtin, Sem.run_bind, Sem.run_pure, Result.andThen_ok, List.map_toArray, List.map_cons, List.map_nil, hs, hx, hrun]
  exact h _ _ _ h2
theorem wpList_appQ (hP : LoP P T Te n) (h0 : 0 < n) {s x : Operand} (ho : o.op = .call { callee := .builtin .append, args := #[s, x], argTypes := #[T, T] }) (hgd : Region.wanted o (yielded ops a.tmps) = true) {v : Value} {k : Nat} {vs : List Value} (hs : a.eval s = v) (hv : RowQ Te n w v k vs) {p : Addr} {m c : Nat} {cs : List Value} (hx : a.eval x = .slice (some p) m c)
    (hl : cs.length = m * n) (hc : ∀ j u, cs[j]? = some u → w.cell? (p.add j) = some u) (h1 : ∀ u ∈ cs, u.oneCell' = true) (hlen : k + m ≤ 1073741824)
    (h : ∀ ad cap w', RowTo Te n w v (k + m) (vs ++ cs) (.slice ad (k + m) cap) w' → wpList P ops Q rest (a.put o.dst (.slice ad (k + m) cap)) w') : wpList P ops Q (o :: rest) a w :=
  BigFrame.wpList_want hgd fun _ hK => wp_appQ hP h0 ho hs hv hx hl hc h1 hlen fun ad cap w' h2 => hK _ _ (h ad cap w' h2)
theorem run_appZ (hP : LoP P T Te n) (h0 : 0 < n) {Ti : TypeId} (hTi : P.underlying Ti = some (.int .i64)) (w : World) (ty : TypeId) {p : Option Addr} {k cap : Nat} {cs : List Value} (hl : cs.length = k * n) (hc : ∀ q, p = some q → ∀ j u, cs[j]? = some u → w.cell? (q.add j) = some u) (hm : p = none → k = 0) {m : Nat} (hm0 : 0 < m) (hg : cap < k + m) (hlen : k + m ≤ 1073741824) :
    ∃ (G : Nat) (cur : Array Value), k + m ≤ G ∧ G ≤ maxLen ∧ cur.size = G * n ∧ cur.toList.take (k * n) = cs ∧
      (Builtin.append_ #[T, Ti] ty #[.slice p k cap, .int .i64 m]).run P w = .ok (.slice (some ⟨w.heap.size, 0, none⟩) (k + m) G) (w.drew.alloc (.cells cur Te)) := by
  obtain ⟨i, z, hi, hz, hsz, hby, hzs⟩ := hP.all
  have hold : (Builtin.firstCells i.size k (.slice p k cap)).run P w.drew = .ok cs.toArray w.drew := by
    rw [hsz]
    cases p with
    | none =>
      obtain rfl := hm rfl
      obtain rfl : cs = [] := List.eq_nil_of_length_eq_zero (by omega)
      simp [Builtin.firstCells]
    | some q => exact run_firstCells_some w.drew n k q k cap cs hl (hc q rfl)
  have hbytes : (k + m) * i.bytes ≤ 1073741824 * 4096 := Nat.mul_le_mul hlen hby
  have hmb : m * i.bytes ≤ 1073741824 * 4096 := Nat.mul_le_mul (by omega) hby
  have hr := Lib.run_append_grow_zeros w T Ti ty Te i z .i64 .i64 hP.hT hTi hi hz p k cap cs hold m hm0 (by omega) hg (by omega) (by omega) (growslice_fits hg (by omega))
  refine ⟨_, _, grownCap_ge w (k + m) cap Te, grownCap_le_maxLen w _ _ _ (by unfold maxLen; omega), ?_, ?_, hr⟩
  · have hge := grownCap_ge w (k + m) cap Te
    simp only [Array.size_append, List.size_toArray, size_zeroCells, hzs, hl, ← Nat.add_mul]
    congr 1
    omega
  · simp only [Array.toList_append, List.append_assoc]
    rw [← hl]
    exact List.take_left
theorem wpList_appZ (hP : LoP P T Te n) (h0 : 0 < n) {Ti : TypeId} (hTi : P.underlying Ti = some (.int .i64)) {s x : Operand} (ho : o.op = .call { callee := .builtin .append, args := #[s, x], argTypes := #[T, Ti] }) (hgd : Region.wanted o (yielded ops a.tmps) = true) {p : Option Addr} {k cap m : Nat} {i : Int} (hs : a.eval s = .slice p k cap) (hx : a.eval x = .int .i64 i) (him : i = (m : Int))
    {cs : List Value} (hl : cs.length = k * n) (hc : ∀ q, p = some q → ∀ j u, cs[j]? = some u → w.cell? (q.add j) = some u) (hm : p = none → k = 0) (hm0 : 0 < m) (hg : cap < k + m) (hlen : k + m ≤ 1073741824)
    (h : ∀ (G : Nat) (cur : Array Value), k + m ≤ G → G ≤ maxLen → cur.size = G * n → cur.toList.take (k * n) = cs → wpList P ops Q rest (a.put o.dst (.slice (some ⟨w.heap.size, 0, none⟩) (k + m) G)) (w.drew.alloc (.cells cur Te))) : wpList P ops Q (o :: rest) a w := by
  subst him
  refine BigFrame.wpList_want hgd fun K hK => ?_
  obtain ⟨G, cur, h1, h2, h3, h4, hr⟩ := run_appZ hP h0 hTi w o.type hl hc hm hm0 hg hlen
  unfold Oper.wp execOp
  simp only [ho, resolve, invoke, builtin, Sem.run_bind, Sem.run_pure, Result.andThen_ok, List.map_toArray, List.map_cons, List.map_nil, hs, hx, hr]
  exact hK _ _ (h G cur h1 h2 h3 h4)
theorem run_clearQ (hP : LoP P T Te n) (hz1 : ∀ i z, P.info? Te = some i → i.zero = some z → ∀ u ∈ z.cells.toList, u.oneCell' = true) (w : World) (ty : TypeId) {ad : Option Addr} {m c : Nat} {g off : Nat} {cur : Array Value} {t : TypeId} (hg : w.heap[g]? = some (.cells cur t (0, 0))) (had : m = 0 ∨ ad = some ⟨g, off, none⟩) (hfit : m = 0 ∨ off + m * n ≤ cur.size) :
    ∃ w' cur', (Builtin.clear_ #[T] ty #[.slice ad m c]).run P w = .ok (.tuple #[]) w' ∧ w'.heap[g]? = some (.cells cur' t (0, 0)) ∧ cur'.size = cur.size ∧ (m ≠ 0 → cur'.toList.take off = cur.toList.take off) ∧ (m = 0 → cur' = cur) ∧ w.grownBy w' (some g) := by
  obtain ⟨i, z, hi, hz, hsz, hby, hzs⟩ := hP.all
  by_cases h0 : m = 0
  · subst h0
    refine ⟨w, cur, ?_, hg, rfl, fun _ => rfl, fun _ => rfl, ⟨rfl, rfl, rfl, Nat.le_refl _, fun _ _ _ => rfl⟩⟩
    cases ad <;> simp [Builtin.clear_, run_underlying hP.hT]
  · obtain rfl := had.resolve_left h0
    have hfit := hfit.resolve_left h0
    have hzl : (Builtin.zeroCells z.cells m).toList.length = m * n := by rw [Array.length_toList, size_zeroCells, hzs]
    have h1 : ∀ u ∈ (Builtin.zeroCells z.cells m).toList, u.oneCell' = true := by
      intro u hu
      simp only [Builtin.zeroCells, Array.toList_map, List.mem_map] at hu
      obtain ⟨j, hj, rfl⟩ := hu
      simp only [Array.toList_range, List.mem_range] at hj
      have h2 : 0 < z.cells.size := by
        rcases Nat.eq_zero_or_pos z.cells.size with h | h
        · rw [h, Nat.mul_zero] at hj; omega
        · exact h
      have h3 := Nat.mod_lt j h2
      rw [getElem!_pos z.cells _ h3]
      exact hz1 i z hi hz _ (by simp)
    have hst := run_storeCells_at P g off t _ 0 cur w hg (by rw [hzl]; simpa using hfit) h1
    simp only [Nat.add_zero] at hst
    refine ⟨_, (cur.toList.take off ++ (Builtin.zeroCells z.cells m).toList ++ cur.toList.drop (off + (Builtin.zeroCells z.cells m).toList.length)).toArray, ?_, setRow_heap w g cur _ t _ hg, ?_, ?_, fun h => absurd h h0, grown_setRow _ _ _⟩
    rotate_left
    · simp only [List.size_toArray, List.length_append, List.length_take, List.length_drop, hzl, Array.length_toList]
      omega
    · intro _
      simp only [List.append_assoc]
      rw [List.take_append_of_le_length (by rw [List.length_take, Array.length_toList]; omega), List.take_take, Nat.min_self]
    · obtain ⟨m', rfl⟩ : ∃ m', m = m' + 1 := ⟨m - 1, by omega⟩
      have hzv : (zeroValue Te).run P w = .ok z w := by simp [zeroValue, typeInfo, hi, hz]
      simp only [Builtin.clear_, List.getElem?_toArray, List.getElem?_cons_zero, Sem.run_bind, run_underlying hP.hT, Result.andThen_ok, hzv, hst, Sem.run_pure]
end
end Go.Proofs.YtpdnehgboafgpaaDoor
namespace Go.Proofs.YtpdnehgboafgpaaDoor
open Go.RowKit
section
variable {P : Program} {T Te : TypeId} {n : Nat} {ops : Array Oper} {rest : List Oper} {o : Oper} {a : Act} {Q : Exit → Act → World → Prop} {w : World} {K : Act → World → Prop}
theorem wpList_clearQ (hP : LoP P T Te n) (hz1 : ∀ i z, P.info? Te = some i → i.zero = some z → ∀ u ∈ z.cells.toList, u.oneCell' = true) {x : Operand} (ho : o.op = .call { callee := .builtin .clear, args := #[x], argTypes := #[T] }) (hd : o.dst = none) (hgd : Region.wanted o (yielded ops a.tmps) = true) {ad : Option Addr} {m c : Nat} (hx : a.eval x = .slice ad m c) {g off : Nat} {cur : Array Value} {t : TypeId} (hg : w.heap[g]? = some (.cells cur t (0, 0))) (had : m = 0 ∨ ad = some ⟨g, off, none⟩) (hfit : m = 0 ∨ off + m * n ≤ cur.size)
    (h : ∀ w' cur', w'.heap[g]? = some (.cells cur' t (0, 0)) → cur'.size = cur.size → (m ≠ 0 → cur'.toList.take off = cur.toList.take off) → (m = 0 → cur' = cur) → w.grownBy w' (some g) → wpList P ops Q rest a w') : wpList P ops Q (o :: rest) a w := by
  refine BigFrame.wpList_want hgd fun K hK => ?_
  obtain ⟨w', cur', hr, h1, h2, h3, h4, h5⟩ := run_clearQ hP hz1 w o.type hg had hfit (c := c)
  unfold Oper.wp execOp
  simp only [ho, resolve, invoke, builtin, Sem.run_bind, Sem.run_pure, Result.andThen_ok, List.map_toArray, List.map_cons, List.map_nil, hx, hr]
  refine hK _ _ ?_
  rw [hd]
  exact h w' cur' h1 h2 h3 h4 h5
end
theorem ones_of {t : TypeId} {z0 : Value} (h : (Tryd.prog.info? t).bind (·.zero) = some z0) (h1 : ∀ u ∈ z0.cells.toList, u.oneCell' = true) : ∀ i z, Tryd.prog.info? t = some i → i.zero = some z → ∀ u ∈ z.cells.toList, u.oneCell' = true := fun i z hi hz => by
  rw [hi] at h
  simp only [Option.bind_some, hz] at h
  cases h
  exact h1
end Go.Proofs.YtpdnehgboafgpaaDoor
