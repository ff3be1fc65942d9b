/-
  TEXTS OF ONE PROOF, merged: SpA.
-/
import Derived.Test.YtpdnehgboafgpaaDoorKw2
namespace Go.Proofs.YtpdnehgboafgpaaDoor
open Go.RowKit Go.Shelf
theorem str_ltS {a b : List UInt8} : Op.bytesLess (strOf a).toList (strOf b).toList = ltB a b := by
  rw [show (strOf a).toList = a by simp [strOf], show (strOf b).toList = b by simp [strOf]]; rfl
theorem str_eqS {a b : List UInt8} : ((strOf a).toList == (strOf b).toList) = decide (a = b) := by
  rw [show (strOf a).toList = a by simp [strOf], show (strOf b).toList = b by simp [strOf]]
  by_cases h : a = b <;> simp [h]
theorem str_leS {a b : List UInt8} : (Op.bytesLess (strOf a).toList (strOf b).toList || (strOf a).toList == (strOf b).toList) = !ltB b a := by
  rw [str_ltS, str_eqS]
  cases h : ltB a b with
  | true => rw [ltB_asymm h]; rfl
  | false =>
    by_cases e : a = b
    · subst e; rw [ltB_irrefl]; simp
    · rw [ltB_total e h]; simp [e]
theorem cmp_le (a b : List UInt8) : decide (Lib.compareBytes a b ≤ 0) = !ltB b a := by
  have h1 := cmp_lt a b
  have h2 := cmp_eq a b
  cases h : ltB a b with
  | true =>
    rw [h] at h1
    rw [ltB_asymm h]
    have := of_decide_eq_true h1
    exact decide_eq_true (by omega)
  | false =>
    rw [h] at h1
    have h3 := of_decide_eq_false h1
    by_cases e : a = b
    · rw [decide_eq_true e] at h2
      have := beq_iff_eq.1 h2
      subst e
      rw [ltB_irrefl]
      exact decide_eq_true (by omega)
    · rw [decide_eq_false e] at h2
      have := beq_eq_false_iff_ne.1 h2
      rw [ltB_total e h]
      exact decide_eq_false (by omega)
set_option maxRecDepth 100000 in
set_option maxHeartbeats 4000000 in
theorem sCheck_any (w : World) {S : Nat → Prop} {v : Value} {x : Sp} (hx : RdSp S w v x) :
    Calls Tryd.prog 66 #[v] w fun e w' => e = .returned (.bool (decide (mayS x))) ∧ Below w.heap.size w w' := by
  obtain ⟨a1, a2, a3, a4, rfl, hlx, hhx, htx⟩ := hx
  have m1x : x.lo.length ≤ 9223372036854775807 := by have := hlx.len; unfold maxLen at this; omega
  have m2x : x.hi.length ≤ 9223372036854775807 := by have := hhx.len; unfold maxLen at this; omega
  obtain ⟨W, hW, q, Bx, hsz⟩ := spBox w 27 [.int .i64 x.table, .slice a1 x.lo.length a2, .slice a3 x.hi.length a4, .bool x.isOpen]
  clear hsz
  go_enter Tryd.func66, Tryd.ntmps66
  go_upto_region 1 with (fail)
  rw [show w.alloc (.cells #[.int .i64 x.table, .slice a1 x.lo.length a2, .slice a3 x.hi.length a4, .bool x.isOpen] 27) = W from hW.symm]
  clear hW
  have cx0 := Bx.cell (i := 0) rfl
  have cx1 := Bx.cell (i := 1) rfl
  have cx2 := Bx.cell (i := 2) rfl
  have cx3 := Bx.cell (i := 3) rfl
  have rlx := hlx.below q
  have rhx := hhx.below q
  by_cases h_t0 : 0 ≤ x.table
  · have dt0a : decide (0 ≤ x.table) = true := decide_eq_true (by omega)
    have dt0b : decide (x.table < 0) = false := decide_eq_false (by omega)
    by_cases h_t3 : x.table ≤ 3
    · have dt3a : decide (x.table ≤ 3) = true := decide_eq_true (by omega)
      have dt3b : decide (4 ≤ x.table) = false := decide_eq_false (by omega)
      by_cases h_lo : x.lo.length ≤ 17
      · have dloa : decide ((x.lo.length : Int) ≤ 17) = true := decide_eq_true (by omega)
        have dlob : decide ((17 : Int) < (x.lo.length : Int)) = false := decide_eq_false (by omega)
        by_cases h_hi : x.hi.length ≤ 17
        · have dhia : decide ((x.hi.length : Int) ≤ 17) = true := decide_eq_true (by omega)
          have dhib : decide ((17 : Int) < (x.hi.length : Int)) = false := decide_eq_false (by omega)
          cases h_op : x.isOpen with
          | true =>
            rw [h_op] at cx3
            by_cases h_h0 : x.hi.length = 0
            · have d0a : ((x.hi.length : Int) == 0) = true := beq_iff_eq.2 (by omega)
              have d0b : decide ((x.hi.length : Int) = 0) = true := decide_eq_true (by omega)
              have H := Lib.hid (show decide (mayS x) = true from decide_eq_true ⟨by omega, by omega, by omega, by omega, fun _ => List.eq_nil_of_length_eq_zero (by omega)⟩)
              clear h_t0 h_t3 h_lo h_hi h_op h_h0
              go_wp2_with fail
              go_ret
              exact ⟨by first | (rw [H.out]; done) | (rw [H.out]; rfl), q⟩
            · have d0a : ((x.hi.length : Int) == 0) = false := beq_eq_false_iff_ne.2 (by omega)
              have d0b : decide ((x.hi.length : Int) = 0) = false := decide_eq_false (by omega)
              have H := Lib.hid (show decide (mayS x) = false from decide_eq_false fun h => by have := h.2.2.2.2 h_op; rw [this] at h_h0; simp at h_h0)
              clear h_t0 h_t3 h_lo h_hi h_op h_h0
              go_wp2_with fail
              go_ret
              exact ⟨by first | (rw [H.out]; done) | (rw [H.out]; rfl), q⟩
          | false =>
            rw [h_op] at cx3
            have H := Lib.hid (show decide (mayS x) = true from decide_eq_true ⟨by omega, by omega, by omega, by omega, fun h => by rw [h_op] at h; cases h⟩)
            clear h_t0 h_t3 h_lo h_hi h_op
            go_wp2_with fail
            go_ret
            exact ⟨by first | (rw [H.out]; done) | (rw [H.out]; rfl), q⟩
        · have dhia : decide ((x.hi.length : Int) ≤ 17) = false := decide_eq_false (by omega)
          have dhib : decide ((17 : Int) < (x.hi.length : Int)) = true := decide_eq_true (by omega)
          have H := Lib.hid (show decide (mayS x) = false from decide_eq_false fun h => by have := h.2.2.2.1; omega)
          clear h_t0 h_t3 h_lo h_hi
          go_wp2_with fail
          go_ret
          exact ⟨by first | (rw [H.out]; done) | (rw [H.out]; rfl), q⟩
      · have dloa : decide ((x.lo.length : Int) ≤ 17) = false := decide_eq_false (by omega)
        have dlob : decide ((17 : Int) < (x.lo.length : Int)) = true := decide_eq_true (by omega)
        have H := Lib.hid (show decide (mayS x) = false from decide_eq_false fun h => by have := h.2.2.1; omega)
        clear h_t0 h_t3 h_lo
        go_wp2_with fail
        go_ret
        exact ⟨by first | (rw [H.out]; done) | (rw [H.out]; rfl), q⟩
    · have dt3a : decide (x.table ≤ 3) = false := decide_eq_false (by omega)
      have dt3b : decide (4 ≤ x.table) = true := decide_eq_true (by omega)
      have H := Lib.hid (show decide (mayS x) = false from decide_eq_false fun h => by have := h.2.1; omega)
      clear h_t0 h_t3
      go_wp2_with fail
      go_ret
      exact ⟨by first | (rw [H.out]; done) | (rw [H.out]; rfl), q⟩
  · have dt0a : decide (0 ≤ x.table) = false := decide_eq_false (by omega)
    have dt0b : decide (x.table < 0) = true := decide_eq_true (by omega)
    have H := Lib.hid (show decide (mayS x) = false from decide_eq_false fun h => by have := h.1; omega)
    clear h_t0
    go_wp2_with fail
    go_ret
    exact ⟨by first | (rw [H.out]; done) | (rw [H.out]; rfl), q⟩
set_option maxRecDepth 100000 in
set_option maxHeartbeats 4000000 in
theorem rCheck_any (w : World) {S : Nat → Prop} {v : Value} {x : Sp} (hx : RdSp S w v x) :
    Calls Tryd.prog 69 #[v] w fun e w' => e = .returned (.bool (decide (mayS x))) ∧ Below w.heap.size w w' := by
  obtain ⟨a1, a2, a3, a4, rfl, hlx, hhx, htx⟩ := hx
  have m1x : x.lo.length ≤ 9223372036854775807 := by have := hlx.len; unfold maxLen at this; omega
  have m2x : x.hi.length ≤ 9223372036854775807 := by have := hhx.len; unfold maxLen at this; omega
  obtain ⟨W, hW, q, Bx, hsz⟩ := spBox w 27 [.int .i64 x.table, .slice a1 x.lo.length a2, .slice a3 x.hi.length a4, .bool x.isOpen]
  clear hsz
  go_enter Tryd.func69, Tryd.ntmps69
  go_upto_region 1 with (fail)
  rw [show w.alloc (.cells #[.int .i64 x.table, .slice a1 x.lo.length a2, .slice a3 x.hi.length a4, .bool x.isOpen] 27) = W from hW.symm]
  clear hW
  have cx0 := Bx.cell (i := 0) rfl
  have cx1 := Bx.cell (i := 1) rfl
  have cx2 := Bx.cell (i := 2) rfl
  have cx3 := Bx.cell (i := 3) rfl
  have rlx := hlx.below q
  have rhx := hhx.below q
  by_cases h_t0 : 0 ≤ x.table
  · have dt0a : decide (0 ≤ x.table) = true := decide_eq_true (by omega)
    have dt0b : decide (x.table < 0) = false := decide_eq_false (by omega)
    by_cases h_t3 : x.table ≤ 3
    · have dt3a : decide (x.table ≤ 3) = true := decide_eq_true (by omega)
      have dt3b : decide (4 ≤ x.table) = false := decide_eq_false (by omega)
      by_cases h_lo : x.lo.length ≤ 17
      · have dloa : decide ((x.lo.length : Int) ≤ 17) = true := decide_eq_true (by omega)
        have dlob : decide ((17 : Int) < (x.lo.length : Int)) = false := decide_eq_false (by omega)
        by_cases h_hi : x.hi.length ≤ 17
        · have dhia : decide ((x.hi.length : Int) ≤ 17) = true := decide_eq_true (by omega)
          have dhib : decide ((17 : Int) < (x.hi.length : Int)) = false := decide_eq_false (by omega)
          cases h_op : x.isOpen with
          | true =>
            rw [h_op] at cx3
            by_cases h_h0 : x.hi.length = 0
            · have d0a : ((x.hi.length : Int) == 0) = true := beq_iff_eq.2 (by omega)
              have d0b : decide ((x.hi.length : Int) = 0) = true := decide_eq_true (by omega)
              have H := Lib.hid (show decide (mayS x) = true from decide_eq_true ⟨by omega, by omega, by omega, by omega, fun _ => List.eq_nil_of_length_eq_zero (by omega)⟩)
              clear h_t0 h_t3 h_lo h_hi h_op h_h0
              go_wp2_with fail
              go_ret
              exact ⟨by first | (rw [H.out]; done) | (rw [H.out]; rfl), q⟩
            · have d0a : ((x.hi.length : Int) == 0) = false := beq_eq_false_iff_ne.2 (by omega)
              have d0b : decide ((x.hi.length : Int) = 0) = false := decide_eq_false (by omega)
              have H := Lib.hid (show decide (mayS x) = false from decide_eq_false fun h => by have := h.2.2.2.2 h_op; rw [this] at h_h0; simp at h_h0)
              clear h_t0 h_t3 h_lo h_hi h_op h_h0
              go_wp2_with fail
              go_ret
              exact ⟨by first | (rw [H.out]; done) | (rw [H.out]; rfl), q⟩
          | false =>
            rw [h_op] at cx3
            have H := Lib.hid (show decide (mayS x) = true from decide_eq_true ⟨by omega, by omega, by omega, by omega, fun h => by rw [h_op] at h; cases h⟩)
            clear h_t0 h_t3 h_lo h_hi h_op
            go_wp2_with fail
            go_ret
            exact ⟨by first | (rw [H.out]; done) | (rw [H.out]; rfl), q⟩
        · have dhia : decide ((x.hi.length : Int) ≤ 17) = false := decide_eq_false (by omega)
          have dhib : decide ((17 : Int) < (x.hi.length : Int)) = true := decide_eq_true (by omega)
          have H := Lib.hid (show decide (mayS x) = false from decide_eq_false fun h => by have := h.2.2.2.1; omega)
          clear h_t0 h_t3 h_lo h_hi
          go_wp2_with fail
          go_ret
          exact ⟨by first | (rw [H.out]; done) | (rw [H.out]; rfl), q⟩
      · have dloa : decide ((x.lo.length : Int) ≤ 17) = false := decide_eq_false (by omega)
        have dlob : decide ((17 : Int) < (x.lo.length : Int)) = true := decide_eq_true (by omega)
        have H := Lib.hid (show decide (mayS x) = false from decide_eq_false fun h => by have := h.2.2.1; omega)
        clear h_t0 h_t3 h_lo
        go_wp2_with fail
        go_ret
        exact ⟨by first | (rw [H.out]; done) | (rw [H.out]; rfl), q⟩
    · have dt3a : decide (x.table ≤ 3) = false := decide_eq_false (by omega)
      have dt3b : decide (4 ≤ x.table) = true := decide_eq_true (by omega)
      have H := Lib.hid (show decide (mayS x) = false from decide_eq_false fun h => by have := h.2.1; omega)
      clear h_t0 h_t3
      go_wp2_with fail
      go_ret
      exact ⟨by first | (rw [H.out]; done) | (rw [H.out]; rfl), q⟩
  · have dt0a : decide (0 ≤ x.table) = false := decide_eq_false (by omega)
    have dt0b : decide (x.table < 0) = true := decide_eq_true (by omega)
    have H := Lib.hid (show decide (mayS x) = false from decide_eq_false fun h => by have := h.1; omega)
    clear h_t0
    go_wp2_with fail
    go_ret
    exact ⟨by first | (rw [H.out]; done) | (rw [H.out]; rfl), q⟩
set_option maxRecDepth 100000 in
set_option maxHeartbeats 4000000 in
theorem sEmpty_any (w : World) {S : Nat → Prop} {v : Value} {x : Sp} (hx : RdSp S w v x) :
    Calls Tryd.prog 67 #[v] w fun e w' => e = .returned (.bool (emptyS x)) ∧ Below w.heap.size w w' := by
  obtain ⟨a1, a2, a3, a4, rfl, hlx, hhx, htx⟩ := hx
  have m1x : x.lo.length ≤ 9223372036854775807 := by have := hlx.len; unfold maxLen at this; omega
  have m2x : x.hi.length ≤ 9223372036854775807 := by have := hhx.len; unfold maxLen at this; omega
  obtain ⟨W, hW, q, Bx, hsz⟩ := spBox w 27 [.int .i64 x.table, .slice a1 x.lo.length a2, .slice a3 x.hi.length a4, .bool x.isOpen]
  clear hsz
  go_enter Tryd.func67, Tryd.ntmps67
  go_upto_region 1 with (fail)
  rw [show w.alloc (.cells #[.int .i64 x.table, .slice a1 x.lo.length a2, .slice a3 x.hi.length a4, .bool x.isOpen] 27) = W from hW.symm]
  clear hW
  have cx0 := Bx.cell (i := 0) rfl
  have cx1 := Bx.cell (i := 1) rfl
  have cx2 := Bx.cell (i := 2) rfl
  have cx3 := Bx.cell (i := 3) rfl
  have rlx := hlx.below q
  have rhx := hhx.below q
  cases h_op : x.isOpen with
  | true =>
    rw [h_op] at cx3
    have H := Lib.hid (show emptyS x = false from by unfold emptyS; simp [h_op])
    clear h_op
    go_wp2_with fail
    go_ret
    exact ⟨by first | (rw [H.out]; done) | (rw [H.out]; rfl), q⟩
  | false =>
    rw [h_op] at cx3
    cases h_lh : ltB x.lo x.hi with
    | true =>
      have dlh : decide (Lib.compareBytes x.hi x.lo ≤ 0) = false := by rw [cmp_le, h_lh]; rfl
      have H := Lib.hid (show emptyS x = false from by unfold emptyS; simp [h_op, h_lh])
      clear h_op h_lh
      go_wp2_with fail
      refine (compare_any _ rhx rlx).mono ?_
      rintro e _ ⟨rfl, rfl⟩
      go_wp2_with fail
      go_ret
      exact ⟨by first | (rw [H.out]; done) | (rw [H.out]; rfl), q⟩
    | false =>
      have dlh : decide (Lib.compareBytes x.hi x.lo ≤ 0) = true := by rw [cmp_le, h_lh]; rfl
      have H := Lib.hid (show emptyS x = true from by unfold emptyS; simp [h_op, h_lh])
      clear h_op h_lh
      go_wp2_with fail
      refine (compare_any _ rhx rlx).mono ?_
      rintro e _ ⟨rfl, rfl⟩
      go_wp2_with fail
      go_ret
      exact ⟨by first | (rw [H.out]; done) | (rw [H.out]; rfl), q⟩
set_option maxRecDepth 100000 in
set_option maxHeartbeats 4000000 in
theorem rEmpty_any (w : World) {S : Nat → Prop} {v : Value} {x : Sp} (hx : RdSp S w v x) :
    Calls Tryd.prog 70 #[v] w fun e w' => e = .returned (.bool (emptyS x)) ∧ Below w.heap.size w w' := by
  obtain ⟨a1, a2, a3, a4, rfl, hlx, hhx, htx⟩ := hx
  have m1x : x.lo.length ≤ 9223372036854775807 := by have := hlx.len; unfold maxLen at this; omega
  have m2x : x.hi.length ≤ 9223372036854775807 := by have := hhx.len; unfold maxLen at this; omega
  obtain ⟨W, hW, q, Bx, hsz⟩ := spBox w 27 [.int .i64 x.table, .slice a1 x.lo.length a2, .slice a3 x.hi.length a4, .bool x.isOpen]
  clear hsz
  go_enter Tryd.func70, Tryd.ntmps70
  go_upto_region 1 with (fail)
  rw [show w.alloc (.cells #[.int .i64 x.table, .slice a1 x.lo.length a2, .slice a3 x.hi.length a4, .bool x.isOpen] 27) = W from hW.symm]
  clear hW
  have cx0 := Bx.cell (i := 0) rfl
  have cx1 := Bx.cell (i := 1) rfl
  have cx2 := Bx.cell (i := 2) rfl
  have cx3 := Bx.cell (i := 3) rfl
  have rlx := hlx.below q
  have rhx := hhx.below q
  cases h_op : x.isOpen with
  | true =>
    rw [h_op] at cx3
    have H := Lib.hid (show emptyS x = false from by unfold emptyS; simp [h_op])
    clear h_op
    go_wp2_with fail
    go_ret
    exact ⟨by first | (rw [H.out]; done) | (rw [H.out]; rfl), q⟩
  | false =>
    rw [h_op] at cx3
    cases h_lh : ltB x.lo x.hi with
    | true =>
      have flh : (Op.bytesLess (strOf x.hi).toList (strOf x.lo).toList || (strOf x.hi).toList == (strOf x.lo).toList) = false := by rw [str_leS, h_lh]; rfl
      have H := Lib.hid (show emptyS x = false from by unfold emptyS; simp [h_op, h_lh])
      clear h_op h_lh
      go_wp2_with (refine wpList_conv (x := .tmp 8) byP rfl rfl rfl rhx.rd ?_; go_wp2_with (refine wpList_conv (x := .tmp 11) byP rfl rfl rfl rlx.rd ?_; go_wp2_with fail))
      go_ret
      exact ⟨by first | (rw [H.out]; done) | (rw [H.out]; rfl), q⟩
    | false =>
      have flh : (Op.bytesLess (strOf x.hi).toList (strOf x.lo).toList || (strOf x.hi).toList == (strOf x.lo).toList) = true := by rw [str_leS, h_lh]; rfl
      have H := Lib.hid (show emptyS x = true from by unfold emptyS; simp [h_op, h_lh])
      clear h_op h_lh
      go_wp2_with (refine wpList_conv (x := .tmp 8) byP rfl rfl rfl rhx.rd ?_; go_wp2_with (refine wpList_conv (x := .tmp 11) byP rfl rfl rfl rlx.rd ?_; go_wp2_with fail))
      go_ret
      exact ⟨by first | (rw [H.out]; done) | (rw [H.out]; rfl), q⟩
set_option maxRecDepth 100000 in
set_option maxHeartbeats 4000000 in
theorem sIn_any (w : World) {S S2 : Nat → Prop} {v : Value} {x : Sp} {t : Int} {A : Option Addr} {n C : Nat} {k : List UInt8} (hx : RdSp S w v x) (hk : RdS S2 w (.slice A n C) k) :
    Calls Tryd.prog 73 #[v, .int .i64 t, .slice A n C] w fun e w' => e = .returned (.bool (inT x t k)) ∧ Below w.heap.size w w' := by
  obtain ⟨a1, a2, a3, a4, rfl, hlx, hhx, htx⟩ := hx
  have m1x : x.lo.length ≤ 9223372036854775807 := by have := hlx.len; unfold maxLen at this; omega
  have m2x : x.hi.length ≤ 9223372036854775807 := by have := hhx.len; unfold maxLen at this; omega
  obtain ⟨W, hW, q, Bx, hsz⟩ := spBox w 27 [.int .i64 x.table, .slice a1 x.lo.length a2, .slice a3 x.hi.length a4, .bool x.isOpen]
  clear hsz
  go_enter Tryd.func73, Tryd.ntmps73
  go_upto_region 1 with (fail)
  rw [show w.alloc (.cells #[.int .i64 x.table, .slice a1 x.lo.length a2, .slice a3 x.hi.length a4, .bool x.isOpen] 27) = W from hW.symm]
  clear hW
  have cx0 := Bx.cell (i := 0) rfl
  have cx1 := Bx.cell (i := 1) rfl
  have cx2 := Bx.cell (i := 2) rfl
  have cx3 := Bx.cell (i := 3) rfl
  have rlx := hlx.below q
  have rhx := hhx.below q
  have rk := hk.below q
  by_cases h_tb : x.table = t
  · have datb : (x.table == t) = true := beq_iff_eq.2 h_tb
    have dbtb : decide (x.table = t) = true := decide_eq_true h_tb
    have dctb : (x.table = t) = True := eq_true h_tb
    have ddtb : (x.table != t) = false := by rw [bne_eq_false_iff_eq]; exact h_tb
    cases h_kl : ltB k x.lo with
    | true =>
      have dkl : decide (0 ≤ Lib.compareBytes k x.lo) = false := by rw [cmp_ge, h_kl]; rfl
      have H := Lib.hid (show inT x t k = false from by unfold inT inS; simp [h_tb, h_kl])
      clear h_tb h_kl
      go_wp2_with fail
      refine (compare_any _ rk rlx).mono ?_
      rintro e _ ⟨rfl, rfl⟩
      go_wp2_with fail
      go_ret
      exact ⟨by first | (rw [H.out]; done) | (rw [H.out]; rfl), q⟩
    | false =>
      have dkl : decide (0 ≤ Lib.compareBytes k x.lo) = true := by rw [cmp_ge, h_kl]; rfl
      cases h_op : x.isOpen with
      | true =>
        rw [h_op] at cx3
        have H := Lib.hid (show inT x t k = true from by unfold inT inS; simp [h_tb, h_kl, h_op])
        clear h_tb h_kl h_op
        go_wp2_with fail
        refine (compare_any _ rk rlx).mono ?_
        rintro e _ ⟨rfl, rfl⟩
        go_wp2_with fail
        go_ret
        exact ⟨by first | (rw [H.out]; done) | (rw [H.out]; rfl), q⟩
      | false =>
        rw [h_op] at cx3
        cases h_kh : ltB k x.hi with
        | true =>
          have dkh : decide (Lib.compareBytes k x.hi < 0) = true := (cmp_lt _ _).trans h_kh
          have H := Lib.hid (show inT x t k = true from by unfold inT inS; simp [h_tb, h_kl, h_op, h_kh])
          clear h_tb h_kl h_op h_kh
          go_wp2_with fail
          refine (compare_any _ rk rlx).mono ?_
          rintro e _ ⟨rfl, rfl⟩
          go_wp2_with fail
          refine (compare_any _ rk rhx).mono ?_
          rintro e _ ⟨rfl, rfl⟩
          go_wp2_with fail
          go_ret
          exact ⟨by first | (rw [H.out]; done) | (rw [H.out]; rfl), q⟩
        | false =>
          have dkh : decide (Lib.compareBytes k x.hi < 0) = false := (cmp_lt _ _).trans h_kh
          have H := Lib.hid (show inT x t k = false from by unfold inT inS; simp [h_tb, h_kl, h_op, h_kh])
          clear h_tb h_kl h_op h_kh
          go_wp2_with fail
          refine (compare_any _ rk rlx).mono ?_
          rintro e _ ⟨rfl, rfl⟩
          go_wp2_with fail
          refine (compare_any _ rk rhx).mono ?_
          rintro e _ ⟨rfl, rfl⟩
          go_wp2_with fail
          go_ret
          exact ⟨by first | (rw [H.out]; done) | (rw [H.out]; rfl), q⟩
  · have datb : (x.table == t) = false := beq_eq_false_iff_ne.2 h_tb
    have dbtb : decide (x.table = t) = false := decide_eq_false h_tb
    have dctb : (x.table = t) = False := eq_false h_tb
    have ddtb : (x.table != t) = true := bne_iff_ne.2 h_tb
    have H := Lib.hid (show inT x t k = false from by unfold inT inS; simp [h_tb])
    clear h_tb
    go_wp2_with fail
    go_ret
    exact ⟨by first | (rw [H.out]; done) | (rw [H.out]; rfl), q⟩
set_option maxRecDepth 100000 in
set_option maxHeartbeats 4000000 in
theorem rIn_any (w : World) {S S2 : Nat → Prop} {v : Value} {x : Sp} {t : Int} {A : Option Addr} {n C : Nat} {k : List UInt8} (hx : RdSp S w v x) (hk : RdS S2 w (.slice A n C) k) :
    Calls Tryd.prog 74 #[v, .int .i64 t, .slice A n C] w fun e w' => e = .returned (.bool (inT x t k)) ∧ Below w.heap.size w w' := by
  obtain ⟨a1, a2, a3, a4, rfl, hlx, hhx, htx⟩ := hx
  have m1x : x.lo.length ≤ 9223372036854775807 := by have := hlx.len; unfold maxLen at this; omega
  have m2x : x.hi.length ≤ 9223372036854775807 := by have := hhx.len; unfold maxLen at this; omega
  obtain ⟨W, hW, q, Bx, hsz⟩ := spBox w 27 [.int .i64 x.table, .slice a1 x.lo.length a2, .slice a3 x.hi.length a4, .bool x.isOpen]
  clear hsz
  go_enter Tryd.func74, Tryd.ntmps74
  go_upto_region 1 with (fail)
  rw [show w.alloc (.cells #[.int .i64 x.table, .slice a1 x.lo.length a2, .slice a3 x.hi.length a4, .bool x.isOpen] 27) = W from hW.symm]
  clear hW
  have cx0 := Bx.cell (i := 0) rfl
  have cx1 := Bx.cell (i := 1) rfl
  have cx2 := Bx.cell (i := 2) rfl
  have cx3 := Bx.cell (i := 3) rfl
  have rlx := hlx.below q
  have rhx := hhx.below q
  have rk := hk.below q
  by_cases h_tb : x.table = t
  · have datb : (x.table == t) = true := beq_iff_eq.2 h_tb
    have dbtb : decide (x.table = t) = true := decide_eq_true h_tb
    have dctb : (x.table = t) = True := eq_true h_tb
    have ddtb : (x.table != t) = false := by rw [bne_eq_false_iff_eq]; exact h_tb
    cases h_kl : ltB k x.lo with
    | true =>
      have dkl : Op.bytesLess (strOf k).toList (strOf x.lo).toList = true := str_ltS.trans h_kl
      have ekl : (!Op.bytesLess (strOf k).toList (strOf x.lo).toList) = false := by rw [dkl]; rfl
      have H := Lib.hid (show inT x t k = false from by unfold inT inS; simp [h_tb, h_kl])
      clear h_tb h_kl
      go_wp2_with (refine wpList_conv (x := .tmp 12) byP rfl rfl rfl rk.rd ?_; go_wp2_with (refine wpList_conv (x := .tmp 15) byP rfl rfl rfl rlx.rd ?_; go_wp2_with fail))
      go_ret
      exact ⟨by first | (rw [H.out]; done) | (rw [H.out]; rfl), q⟩
    | false =>
      have dkl : Op.bytesLess (strOf k).toList (strOf x.lo).toList = false := str_ltS.trans h_kl
      have ekl : (!Op.bytesLess (strOf k).toList (strOf x.lo).toList) = true := by rw [dkl]; rfl
      cases h_op : x.isOpen with
      | true =>
        rw [h_op] at cx3
        have H := Lib.hid (show inT x t k = true from by unfold inT inS; simp [h_tb, h_kl, h_op])
        clear h_tb h_kl h_op
        go_wp2_with (refine wpList_conv (x := .tmp 12) byP rfl rfl rfl rk.rd ?_; go_wp2_with (refine wpList_conv (x := .tmp 15) byP rfl rfl rfl rlx.rd ?_; go_wp2_with fail))
        go_ret
        exact ⟨by first | (rw [H.out]; done) | (rw [H.out]; rfl), q⟩
      | false =>
        rw [h_op] at cx3
        cases h_kh : ltB k x.hi with
        | true =>
          have dkh : Op.bytesLess (strOf k).toList (strOf x.hi).toList = true := str_ltS.trans h_kh
          have H := Lib.hid (show inT x t k = true from by unfold inT inS; simp [h_tb, h_kl, h_op, h_kh])
          clear h_tb h_kl h_op h_kh
          go_wp2_with (refine wpList_conv (x := .tmp 12) byP rfl rfl rfl rk.rd ?_; go_wp2_with (refine wpList_conv (x := .tmp 15) byP rfl rfl rfl rlx.rd ?_; go_wp2_with (refine wpList_conv (x := .tmp 23) byP rfl rfl rfl rk.rd ?_; go_wp2_with (refine wpList_conv (x := .tmp 26) byP rfl rfl rfl rhx.rd ?_; go_wp2_with fail))))
          go_ret
          exact ⟨by first | (rw [H.out]; done) | (rw [H.out]; rfl), q⟩
        | false =>
          have dkh : Op.bytesLess (strOf k).toList (strOf x.hi).toList = false := str_ltS.trans h_kh
          have H := Lib.hid (show inT x t k = false from by unfold inT inS; simp [h_tb, h_kl, h_op, h_kh])
          clear h_tb h_kl h_op h_kh
          go_wp2_with (refine wpList_conv (x := .tmp 12) byP rfl rfl rfl rk.rd ?_; go_wp2_with (refine wpList_conv (x := .tmp 15) byP rfl rfl rfl rlx.rd ?_; go_wp2_with (refine wpList_conv (x := .tmp 23) byP rfl rfl rfl rk.rd ?_; go_wp2_with (refine wpList_conv (x := .tmp 26) byP rfl rfl rfl rhx.rd ?_; go_wp2_with fail))))
          go_ret
          exact ⟨by first | (rw [H.out]; done) | (rw [H.out]; rfl), q⟩
  · have datb : (x.table == t) = false := beq_eq_false_iff_ne.2 h_tb
    have dbtb : decide (x.table = t) = false := decide_eq_false h_tb
    have dctb : (x.table = t) = False := eq_false h_tb
    have ddtb : (x.table != t) = true := bne_iff_ne.2 h_tb
    have H := Lib.hid (show inT x t k = false from by unfold inT inS; simp [h_tb])
    clear h_tb
    go_wp2_with fail
    go_ret
    exact ⟨by first | (rw [H.out]; done) | (rw [H.out]; rfl), q⟩
set_option maxRecDepth 100000 in
set_option maxHeartbeats 4000000 in
theorem sCovers_any (w : World) {S S2 : Nat → Prop} {u v : Value} {x y : Sp} (hx : RdSp S w u x) (hy : RdSp S2 w v y) :
    Calls Tryd.prog 82 #[u, v] w fun e w' => e = .returned (.bool (coversS x y)) ∧ Below w.heap.size w w' := by
  obtain ⟨a1, a2, a3, a4, rfl, hlx, hhx, htx⟩ := hx
  obtain ⟨b1, b2, b3, b4, rfl, hly, hhy, hty⟩ := hy
  have m1x : x.lo.length ≤ 9223372036854775807 := by have := hlx.len; unfold maxLen at this; omega
  have m2x : x.hi.length ≤ 9223372036854775807 := by have := hhx.len; unfold maxLen at this; omega
  have m1y : y.lo.length ≤ 9223372036854775807 := by have := hly.len; unfold maxLen at this; omega
  have m2y : y.hi.length ≤ 9223372036854775807 := by have := hhy.len; unfold maxLen at this; omega
  obtain ⟨W, hW, q, Bx, By, hsz⟩ := spBoxes2 w 27 27 [.int .i64 x.table, .slice a1 x.lo.length a2, .slice a3 x.hi.length a4, .bool x.isOpen] [.int .i64 y.table, .slice b1 y.lo.length b2, .slice b3 y.hi.length b4, .bool y.isOpen]
  clear hsz
  go_enter Tryd.func82, Tryd.ntmps82
  go_upto_region 1 with (fail)
  rw [show (w.alloc (.cells #[.int .i64 x.table, .slice a1 x.lo.length a2, .slice a3 x.hi.length a4, .bool x.isOpen] 27)).alloc (.cells #[.int .i64 y.table, .slice b1 y.lo.length b2, .slice b3 y.hi.length b4, .bool y.isOpen] 27) = W from hW.symm]
  clear hW
  have cy0 := By.cell (i := 0) rfl
  have cy1 := By.cell (i := 1) rfl
  have cy2 := By.cell (i := 2) rfl
  have cy3 := By.cell (i := 3) rfl
  have hcl := sEmpty_any W (x := y) ⟨_, _, _, _, rfl, hly.below q, hhy.below q, hty⟩
  go_wp2_with fail
  refine hcl.mono ?_
  rintro e w1 ⟨rfl, hb⟩
  clear hcl cy0 cy1 cy2 cy3
  replace Bx := Bx.below hb Bx.lt
  replace By := By.below hb By.lt
  replace q := q.trans (hb.mono q.size)
  clear hb
  have cx0 := Bx.cell (i := 0) rfl
  have cx1 := Bx.cell (i := 1) rfl
  have cx2 := Bx.cell (i := 2) rfl
  have cx3 := Bx.cell (i := 3) rfl
  have rlx := hlx.below q
  have rhx := hhx.below q
  have cy0 := By.cell (i := 0) rfl
  have cy1 := By.cell (i := 1) rfl
  have cy2 := By.cell (i := 2) rfl
  have cy3 := By.cell (i := 3) rfl
  have rly := hly.below q
  have rhy := hhy.below q
  cases h_em : emptyS y with
  | true =>
    have H := Lib.hid (show coversS x y = true from by unfold coversS; simp [h_em])
    clear h_em
    go_wp2_with fail
    go_ret
    exact ⟨by first | (rw [H.out]; done) | (rw [H.out]; rfl), q⟩
  | false =>
    by_cases h_tb : x.table = y.table
    · have datb : (x.table == y.table) = true := beq_iff_eq.2 h_tb
      have dbtb : decide (x.table = y.table) = true := decide_eq_true h_tb
      have dctb : (x.table = y.table) = True := eq_true h_tb
      have ddtb : (x.table != y.table) = false := by rw [bne_eq_false_iff_eq]; exact h_tb
      cases h_ll : ltB y.lo x.lo with
      | true =>
        have dll : decide (Lib.compareBytes y.lo x.lo < 0) = true := (cmp_lt _ _).trans h_ll
        have H := Lib.hid (show coversS x y = false from by unfold coversS; simp [h_em, h_tb, h_ll])
        clear h_em h_tb h_ll
        go_wp2_with fail
        refine (compare_any _ rly rlx).mono ?_
        rintro e _ ⟨rfl, rfl⟩
        go_wp2_with fail
        go_ret
        exact ⟨by first | (rw [H.out]; done) | (rw [H.out]; rfl), q⟩
      | false =>
        have dll : decide (Lib.compareBytes y.lo x.lo < 0) = false := (cmp_lt _ _).trans h_ll
        cases h_ox : x.isOpen with
        | true =>
          rw [h_ox] at cx3
          have H := Lib.hid (show coversS x y = true from by unfold coversS; simp [h_em, h_tb, h_ll, h_ox])
          clear h_em h_tb h_ll h_ox
          go_wp2_with fail
          refine (compare_any _ rly rlx).mono ?_
          rintro e _ ⟨rfl, rfl⟩
          go_wp2_with fail
          go_ret
          exact ⟨by first | (rw [H.out]; done) | (rw [H.out]; rfl), q⟩
        | false =>
          rw [h_ox] at cx3
          cases h_oy : y.isOpen with
          | true =>
            rw [h_oy] at cy3
            have H := Lib.hid (show coversS x y = false from by unfold coversS; simp [h_em, h_tb, h_ll, h_ox, h_oy])
            clear h_em h_tb h_ll h_ox h_oy
            go_wp2_with fail
            refine (compare_any _ rly rlx).mono ?_
            rintro e _ ⟨rfl, rfl⟩
            go_wp2_with fail
            go_ret
            exact ⟨by first | (rw [H.out]; done) | (rw [H.out]; rfl), q⟩
          | false =>
            rw [h_oy] at cy3
            cases h_hh : ltB x.hi y.hi with
            | true =>
              have dhh : decide (Lib.compareBytes y.hi x.hi ≤ 0) = false := by rw [cmp_le, h_hh]; rfl
              have H := Lib.hid (show coversS x y = false from by unfold coversS; simp [h_em, h_tb, h_ll, h_ox, h_oy, h_hh])
              clear h_em h_tb h_ll h_ox h_oy h_hh
              go_wp2_with fail
              refine (compare_any _ rly rlx).mono ?_
              rintro e _ ⟨rfl, rfl⟩
              go_wp2_with fail
              refine (compare_any _ rhy rhx).mono ?_
              rintro e _ ⟨rfl, rfl⟩
              go_wp2_with fail
              go_ret
              exact ⟨by first | (rw [H.out]; done) | (rw [H.out]; rfl), q⟩
            | false =>
              have dhh : decide (Lib.compareBytes y.hi x.hi ≤ 0) = true := by rw [cmp_le, h_hh]; rfl
              have H := Lib.hid (show coversS x y = true from by unfold coversS; simp [h_em, h_tb, h_ll, h_ox, h_oy, h_hh])
              clear h_em h_tb h_ll h_ox h_oy h_hh
              go_wp2_with fail
              refine (compare_any _ rly rlx).mono ?_
              rintro e _ ⟨rfl, rfl⟩
              go_wp2_with fail
              refine (compare_any _ rhy rhx).mono ?_
              rintro e _ ⟨rfl, rfl⟩
              go_wp2_with fail
              go_ret
              exact ⟨by first | (rw [H.out]; done) | (rw [H.out]; rfl), q⟩
    · have datb : (x.table == y.table) = false := beq_eq_false_iff_ne.2 h_tb
      have dbtb : decide (x.table = y.table) = false := decide_eq_false h_tb
      have dctb : (x.table = y.table) = False := eq_false h_tb
      have ddtb : (x.table != y.table) = true := bne_iff_ne.2 h_tb
      have H := Lib.hid (show coversS x y = false from by unfold coversS; simp [h_em, h_tb])
      clear h_em h_tb
      go_wp2_with fail
      go_ret
      exact ⟨by first | (rw [H.out]; done) | (rw [H.out]; rfl), q⟩
set_option maxRecDepth 100000 in
set_option maxHeartbeats 4000000 in
theorem sBoth_any (w : World) {S : Nat → Prop} {a1 a3 b1 b3 : Option Addr} {a2 a4 b2 b4 g1 g2 : Nat} {x y : Sp} {A : Option Addr} {n C : Nat} {k : List UInt8} (Bx : BoxN w g1 27 [.int .i64 x.table, .slice a1 x.lo.length a2, .slice a3 x.hi.length a4, .bool x.isOpen]) (By : BoxN w g2 27 [.int .i64 y.table, .slice b1 y.lo.length b2, .slice b3 y.hi.length b4, .bool y.isOpen]) (rlx : RdS S w (.slice a1 x.lo.length a2) x.lo) (rhx : RdS S w (.slice a3 x.hi.length a4) x.hi) (htx : W64 x.table) (rly : RdS S w (.slice b1 y.lo.length b2) y.lo) (rhy : RdS S w (.slice b3 y.hi.length b4) y.hi) (hty : W64 y.table) (hk : RdS S w (.slice A n C) k) :
    Calls Tryd.prog 72 #[.slice A n C, .pointer (some ⟨g1, 0, none⟩), .pointer (some ⟨g2, 0, none⟩)] w fun e w' => e = .returned (.bool (inT x x.table k && inT y x.table k)) ∧ Below w.heap.size w w' := by
  have q := Below.refl w.heap.size w
  go_enter Tryd.func72, Tryd.ntmps72
  have cx0 := Bx.cell (i := 0) rfl
  have cx1 := Bx.cell (i := 1) rfl
  have cx2 := Bx.cell (i := 2) rfl
  have cx3 := Bx.cell (i := 3) rfl
  have cy0 := By.cell (i := 0) rfl
  have cy1 := By.cell (i := 1) rfl
  have cy2 := By.cell (i := 2) rfl
  have cy3 := By.cell (i := 3) rfl
  have hcl := sIn_any _ (t := x.table) ⟨_, _, _, _, rfl, rlx, rhx, htx⟩ hk
  go_wp2_with fail
  refine hcl.mono ?_
  rintro e w1 ⟨rfl, hb⟩
  clear hcl cx0 cx1 cx2 cx3 cy0 cy1 cy2 cy3
  replace Bx := Bx.below hb Bx.lt
  replace By := By.below hb By.lt
  replace rlx := rlx.below hb
  replace rhx := rhx.below hb
  replace rly := rly.below hb
  replace rhy := rhy.below hb
  replace q := q.trans (hb.mono q.size)
  clear hb
  cases h_i1 : inT x x.table k with
  | true =>
    have cx0 := Bx.cell (i := 0) rfl
    have cx1 := Bx.cell (i := 1) rfl
    have cx2 := Bx.cell (i := 2) rfl
    have cx3 := Bx.cell (i := 3) rfl
    have cy0 := By.cell (i := 0) rfl
    have cy1 := By.cell (i := 1) rfl
    have cy2 := By.cell (i := 2) rfl
    have cy3 := By.cell (i := 3) rfl
    have hcl := sIn_any _ (t := x.table) ⟨_, _, _, _, rfl, rly, rhy, hty⟩ (hk.below q)
    go_wp2_with fail
    refine hcl.mono ?_
    rintro e w2 ⟨rfl, hb⟩
    clear hcl cx0 cx1 cx2 cx3 cy0 cy1 cy2 cy3
    replace Bx := Bx.below hb Bx.lt
    replace By := By.below hb By.lt
    replace rlx := rlx.below hb
    replace rhx := rhx.below hb
    replace rly := rly.below hb
    replace rhy := rhy.below hb
    replace q := q.trans (hb.mono q.size)
    clear hb
    cases h_i2 : inT y x.table k with
    | true =>
      have H := Lib.hid (show (inT x x.table k && inT y x.table k) = true by rw [h_i1, h_i2] <;> rfl)
      clear h_i1 h_i2
      go_wp2_with fail
      go_ret
      exact ⟨by first | (rw [H.out]; done) | (rw [H.out]; rfl), q⟩
    | false =>
      have H := Lib.hid (show (inT x x.table k && inT y x.table k) = false by rw [h_i1, h_i2] <;> rfl)
      clear h_i1 h_i2
      go_wp2_with fail
      go_ret
      exact ⟨by first | (rw [H.out]; done) | (rw [H.out]; rfl), q⟩
  | false =>
    have H := Lib.hid (show (inT x x.table k && inT y x.table k) = false by rw [h_i1] <;> rfl)
    clear h_i1
    go_wp2_with fail
    go_ret
    exact ⟨by first | (rw [H.out]; done) | (rw [H.out]; rfl), q⟩
set_option maxRecDepth 100000 in
set_option maxHeartbeats 4000000 in
theorem sMeets_any (w : World) {S S2 : Nat → Prop} {u v : Value} {x y : Sp} (hx : RdSp S w u x) (hy : RdSp S2 w v y) :
    Calls Tryd.prog 46 #[u, v] w fun e w' => e = .returned (.bool (meetsS x y)) ∧ Below w.heap.size w w' := by
  obtain ⟨a1, a2, a3, a4, rfl, hlx, hhx, htx⟩ := hx
  obtain ⟨b1, b2, b3, b4, rfl, hly, hhy, hty⟩ := hy
  obtain ⟨W, hW, q, Bx, By, hsz⟩ := spBoxes2 w 27 27 [.int .i64 x.table, .slice a1 x.lo.length a2, .slice a3 x.hi.length a4, .bool x.isOpen] [.int .i64 y.table, .slice b1 y.lo.length b2, .slice b3 y.hi.length b4, .bool y.isOpen]
  clear hsz
  go_enter Tryd.func46, Tryd.ntmps46
  go_upto_region 1 with (fail)
  rw [show (w.alloc (.cells #[.int .i64 x.table, .slice a1 x.lo.length a2, .slice a3 x.hi.length a4, .bool x.isOpen] 27)).alloc (.cells #[.int .i64 y.table, .slice b1 y.lo.length b2, .slice b3 y.hi.length b4, .bool y.isOpen] 27) = W from hW.symm]
  clear hW
  have rlx := hlx.below q
  have rhx := hhx.below q
  have rly := hly.below q
  have rhy := hhy.below q
  clear hlx hhx hly hhy
  have cx0 := Bx.cell (i := 0) rfl
  have cx1 := Bx.cell (i := 1) rfl
  have cx2 := Bx.cell (i := 2) rfl
  have cx3 := Bx.cell (i := 3) rfl
  have cy0 := By.cell (i := 0) rfl
  have cy1 := By.cell (i := 1) rfl
  have cy2 := By.cell (i := 2) rfl
  have cy3 := By.cell (i := 3) rfl
  have hcl := sBoth_any (S := fun _ => True) _ Bx By (rlx.weak (fun _ _ => trivial)) (rhx.weak (fun _ _ => trivial)) htx (rly.weak (fun _ _ => trivial)) (rhy.weak (fun _ _ => trivial)) hty (rlx.weak (fun _ _ => trivial))
  go_wp2_with fail
  refine hcl.mono ?_
  rintro e w1 ⟨rfl, hb⟩
  clear hcl cx0 cx1 cx2 cx3 cy0 cy1 cy2 cy3
  replace Bx := Bx.below hb Bx.lt
  replace By := By.below hb By.lt
  replace rlx := rlx.below hb
  replace rhx := rhx.below hb
  replace rly := rly.below hb
  replace rhy := rhy.below hb
  replace q := q.trans (hb.mono q.size)
  clear hb
  cases h_m1 : (inT x x.table x.lo && inT y x.table x.lo) with
  | true =>
    have H := Lib.hid (show meetsS x y = true by unfold meetsS; rw [h_m1] <;> rfl)
    clear h_m1
    go_wp2_with fail
    go_ret
    exact ⟨by first | (rw [H.out]; done) | (rw [H.out]; rfl), q⟩
  | false =>
    have cx0 := Bx.cell (i := 0) rfl
    have cx1 := Bx.cell (i := 1) rfl
    have cx2 := Bx.cell (i := 2) rfl
    have cx3 := Bx.cell (i := 3) rfl
    have cy0 := By.cell (i := 0) rfl
    have cy1 := By.cell (i := 1) rfl
    have cy2 := By.cell (i := 2) rfl
    have cy3 := By.cell (i := 3) rfl
    have hcl := sBoth_any (S := fun _ => True) _ Bx By (rlx.weak (fun _ _ => trivial)) (rhx.weak (fun _ _ => trivial)) htx (rly.weak (fun _ _ => trivial)) (rhy.weak (fun _ _ => trivial)) hty (rly.weak (fun _ _ => trivial))
    go_wp2_with fail
    refine hcl.mono ?_
    rintro e w2 ⟨rfl, hb⟩
    clear hcl cx0 cx1 cx2 cx3 cy0 cy1 cy2 cy3
    replace Bx := Bx.below hb Bx.lt
    replace By := By.below hb By.lt
    replace rlx := rlx.below hb
    replace rhx := rhx.below hb
    replace rly := rly.below hb
    replace rhy := rhy.below hb
    replace q := q.trans (hb.mono q.size)
    clear hb
    cases h_m2 : (inT x x.table y.lo && inT y x.table y.lo) with
    | true =>
      have H := Lib.hid (show meetsS x y = true by unfold meetsS; rw [h_m1, h_m2] <;> rfl)
      clear h_m1 h_m2
      go_wp2_with fail
      go_ret
      exact ⟨by first | (rw [H.out]; done) | (rw [H.out]; rfl), q⟩
    | false =>
      have H := Lib.hid (show meetsS x y = false by unfold meetsS; rw [h_m1, h_m2] <;> rfl)
      clear h_m1 h_m2
      go_wp2_with fail
      go_ret
      exact ⟨by first | (rw [H.out]; done) | (rw [H.out]; rfl), q⟩
theorem meets_ref (x y : Sp) : meetsS x y = (decide (x.table = y.table) && ((inT x y.table y.lo && inT y y.table y.lo) || (inT y x.table x.lo && inT x x.table x.lo))) := by
  unfold meetsS
  by_cases h : x.table = y.table
  · rw [decide_eq_true h, Bool.true_and, Bool.or_comm, Bool.and_comm (inT x x.table x.lo)]
    congr 1
    rw [h]
  · rw [decide_eq_false h, Bool.false_and]
    have h2 : ∀ k, inT y x.table k = false := fun k => by unfold inT; rw [decide_eq_false (fun e => h e.symm)]; rfl
    rw [h2, h2]; simp
set_option maxRecDepth 100000 in
set_option maxHeartbeats 4000000 in
theorem rMeets_any (w : World) {S S2 : Nat → Prop} {u v : Value} {x y : Sp} (hx : RdSp S w u x) (hy : RdSp S2 w v y) :
    Calls Tryd.prog 48 #[u, v] w fun e w' => e = .returned (.bool (meetsS x y)) ∧ Below w.heap.size w w' := by
  obtain ⟨a1, a2, a3, a4, rfl, hlx, hhx, htx⟩ := hx
  obtain ⟨b1, b2, b3, b4, rfl, hly, hhy, hty⟩ := hy
  obtain ⟨W, hW, q, Bx, By, hsz⟩ := spBoxes2 w 27 27 [.int .i64 x.table, .slice a1 x.lo.length a2, .slice a3 x.hi.length a4, .bool x.isOpen] [.int .i64 y.table, .slice b1 y.lo.length b2, .slice b3 y.hi.length b4, .bool y.isOpen]
  clear hsz
  go_enter Tryd.func48, Tryd.ntmps48
  go_upto_region 1 with (fail)
  rw [show (w.alloc (.cells #[.int .i64 x.table, .slice a1 x.lo.length a2, .slice a3 x.hi.length a4, .bool x.isOpen] 27)).alloc (.cells #[.int .i64 y.table, .slice b1 y.lo.length b2, .slice b3 y.hi.length b4, .bool y.isOpen] 27) = W from hW.symm]
  clear hW
  have rlx := hlx.below q
  have rhx := hhx.below q
  have rly := hly.below q
  have rhy := hhy.below q
  clear hlx hhx hly hhy
  by_cases h_tb : x.table = y.table
  · have datb : (x.table == y.table) = true := beq_iff_eq.2 h_tb
    have dbtb : decide (x.table = y.table) = true := decide_eq_true h_tb
    have dctb : (x.table = y.table) = True := eq_true h_tb
    have ddtb : (x.table != y.table) = false := by rw [bne_eq_false_iff_eq]; exact h_tb
    replace h_tb := Lib.hid h_tb
    have cx0 := Bx.cell (i := 0) rfl
    have cx1 := Bx.cell (i := 1) rfl
    have cx2 := Bx.cell (i := 2) rfl
    have cx3 := Bx.cell (i := 3) rfl
    have cy0 := By.cell (i := 0) rfl
    have cy1 := By.cell (i := 1) rfl
    have cy2 := By.cell (i := 2) rfl
    have cy3 := By.cell (i := 3) rfl
    have hcl := rIn_any _ (t := y.table) ⟨_, _, _, _, rfl, rlx, rhx, htx⟩ rly
    go_wp2_with fail
    refine hcl.mono ?_
    rintro e w1 ⟨rfl, hb⟩
    clear hcl cx0 cx1 cx2 cx3 cy0 cy1 cy2 cy3
    replace Bx := Bx.below hb Bx.lt
    replace By := By.below hb By.lt
    replace rlx := rlx.below hb
    replace rhx := rhx.below hb
    replace rly := rly.below hb
    replace rhy := rhy.below hb
    replace q := q.trans (hb.mono q.size)
    clear hb
    cases h_q1 : inT x y.table y.lo with
    | true =>
      have cx0 := Bx.cell (i := 0) rfl
      have cx1 := Bx.cell (i := 1) rfl
      have cx2 := Bx.cell (i := 2) rfl
      have cx3 := Bx.cell (i := 3) rfl
      have cy0 := By.cell (i := 0) rfl
      have cy1 := By.cell (i := 1) rfl
      have cy2 := By.cell (i := 2) rfl
      have cy3 := By.cell (i := 3) rfl
      have hcl := rIn_any _ (t := y.table) ⟨_, _, _, _, rfl, rly, rhy, hty⟩ rly
      go_wp2_with fail
      refine hcl.mono ?_
      rintro e w2 ⟨rfl, hb⟩
      clear hcl cx0 cx1 cx2 cx3 cy0 cy1 cy2 cy3
      replace Bx := Bx.below hb Bx.lt
      replace By := By.below hb By.lt
      replace rlx := rlx.below hb
      replace rhx := rhx.below hb
      replace rly := rly.below hb
      replace rhy := rhy.below hb
      replace q := q.trans (hb.mono q.size)
      clear hb
      cases h_q2 : inT y y.table y.lo with
      | true =>
        have H := Lib.hid (show meetsS x y = true by rw [meets_ref, decide_eq_true h_tb.out]; simp [h_q1, h_q2])
        clear h_q1 h_q2 h_tb
        go_wp2_with fail
        go_ret
        exact ⟨by first | (rw [H.out]; done) | (rw [H.out]; rfl), q⟩
      | false =>
        have cx0 := Bx.cell (i := 0) rfl
        have cx1 := Bx.cell (i := 1) rfl
        have cx2 := Bx.cell (i := 2) rfl
        have cx3 := Bx.cell (i := 3) rfl
        have cy0 := By.cell (i := 0) rfl
        have cy1 := By.cell (i := 1) rfl
        have cy2 := By.cell (i := 2) rfl
        have cy3 := By.cell (i := 3) rfl
        have hcl := rIn_any _ (t := x.table) ⟨_, _, _, _, rfl, rly, rhy, hty⟩ rlx
        go_wp2_with fail
        refine hcl.mono ?_
        rintro e w3 ⟨rfl, hb⟩
        clear hcl cx0 cx1 cx2 cx3 cy0 cy1 cy2 cy3
        replace Bx := Bx.below hb Bx.lt
        replace By := By.below hb By.lt
        replace rlx := rlx.below hb
        replace rhx := rhx.below hb
        replace rly := rly.below hb
        replace rhy := rhy.below hb
        replace q := q.trans (hb.mono q.size)
        clear hb
        cases h_q3 : inT y x.table x.lo with
        | true =>
          have cx0 := Bx.cell (i := 0) rfl
          have cx1 := Bx.cell (i := 1) rfl
          have cx2 := Bx.cell (i := 2) rfl
          have cx3 := Bx.cell (i := 3) rfl
          have cy0 := By.cell (i := 0) rfl
          have cy1 := By.cell (i := 1) rfl
          have cy2 := By.cell (i := 2) rfl
          have cy3 := By.cell (i := 3) rfl
          have hcl := rIn_any _ (t := x.table) ⟨_, _, _, _, rfl, rlx, rhx, htx⟩ rlx
          go_wp2_with fail
          refine hcl.mono ?_
          rintro e w4 ⟨rfl, hb⟩
          clear hcl cx0 cx1 cx2 cx3 cy0 cy1 cy2 cy3
          replace Bx := Bx.below hb Bx.lt
          replace By := By.below hb By.lt
          replace rlx := rlx.below hb
          replace rhx := rhx.below hb
          replace rly := rly.below hb
          replace rhy := rhy.below hb
          replace q := q.trans (hb.mono q.size)
          clear hb
          cases h_q4 : inT x x.table x.lo with
          | true =>
            have H := Lib.hid (show meetsS x y = true by rw [meets_ref, decide_eq_true h_tb.out]; simp [h_q1, h_q2, h_q3, h_q4])
            clear h_q1 h_q2 h_q3 h_q4 h_tb
            go_wp2_with fail
            go_ret
            exact ⟨by first | (rw [H.out]; done) | (rw [H.out]; rfl), q⟩
          | false =>
            have H := Lib.hid (show meetsS x y = false by rw [meets_ref, decide_eq_true h_tb.out]; simp [h_q1, h_q2, h_q3, h_q4])
            clear h_q1 h_q2 h_q3 h_q4 h_tb
            go_wp2_with fail
            go_ret
            exact ⟨by first | (rw [H.out]; done) | (rw [H.out]; rfl), q⟩
        | false =>
          have H := Lib.hid (show meetsS x y = false by rw [meets_ref, decide_eq_true h_tb.out]; simp [h_q1, h_q2, h_q3])
          clear h_q1 h_q2 h_q3 h_tb
          go_wp2_with fail
          go_ret
          exact ⟨by first | (rw [H.out]; done) | (rw [H.out]; rfl), q⟩
    | false =>
      have cx0 := Bx.cell (i := 0) rfl
      have cx1 := Bx.cell (i := 1) rfl
      have cx2 := Bx.cell (i := 2) rfl
      have cx3 := Bx.cell (i := 3) rfl
      have cy0 := By.cell (i := 0) rfl
      have cy1 := By.cell (i := 1) rfl
      have cy2 := By.cell (i := 2) rfl
      have cy3 := By.cell (i := 3) rfl
      have hcl := rIn_any _ (t := x.table) ⟨_, _, _, _, rfl, rly, rhy, hty⟩ rlx
      go_wp2_with fail
      refine hcl.mono ?_
      rintro e w2 ⟨rfl, hb⟩
      clear hcl cx0 cx1 cx2 cx3 cy0 cy1 cy2 cy3
      replace Bx := Bx.below hb Bx.lt
      replace By := By.below hb By.lt
      replace rlx := rlx.below hb
      replace rhx := rhx.below hb
      replace rly := rly.below hb
      replace rhy := rhy.below hb
      replace q := q.trans (hb.mono q.size)
      clear hb
      cases h_q3 : inT y x.table x.lo with
      | true =>
        have cx0 := Bx.cell (i := 0) rfl
        have cx1 := Bx.cell (i := 1) rfl
        have cx2 := Bx.cell (i := 2) rfl
        have cx3 := Bx.cell (i := 3) rfl
        have cy0 := By.cell (i := 0) rfl
        have cy1 := By.cell (i := 1) rfl
        have cy2 := By.cell (i := 2) rfl
        have cy3 := By.cell (i := 3) rfl
        have hcl := rIn_any _ (t := x.table) ⟨_, _, _, _, rfl, rlx, rhx, htx⟩ rlx
        go_wp2_with fail
        refine hcl.mono ?_
        rintro e w3 ⟨rfl, hb⟩
        clear hcl cx0 cx1 cx2 cx3 cy0 cy1 cy2 cy3
        replace Bx := Bx.below hb Bx.lt
        replace By := By.below hb By.lt
        replace rlx := rlx.below hb
        replace rhx := rhx.below hb
        replace rly := rly.below hb
        replace rhy := rhy.below hb
        replace q := q.trans (hb.mono q.size)
        clear hb
        cases h_q4 : inT x x.table x.lo with
        | true =>
          have H := Lib.hid (show meetsS x y = true by rw [meets_ref, decide_eq_true h_tb.out]; simp [h_q1, h_q3, h_q4])
          clear h_q1 h_q3 h_q4 h_tb
          go_wp2_with fail
          go_ret
          exact ⟨by first | (rw [H.out]; done) | (rw [H.out]; rfl), q⟩
        | false =>
          have H := Lib.hid (show meetsS x y = false by rw [meets_ref, decide_eq_true h_tb.out]; simp [h_q1, h_q3, h_q4])
          clear h_q1 h_q3 h_q4 h_tb
          go_wp2_with fail
          go_ret
          exact ⟨by first | (rw [H.out]; done) | (rw [H.out]; rfl), q⟩
      | false =>
        have H := Lib.hid (show meetsS x y = false by rw [meets_ref, decide_eq_true h_tb.out]; simp [h_q1, h_q3])
        clear h_q1 h_q3 h_tb
        go_wp2_with fail
        go_ret
        exact ⟨by first | (rw [H.out]; done) | (rw [H.out]; rfl), q⟩
  · have cx0 := Bx.cell (i := 0) rfl
    have cy0 := By.cell (i := 0) rfl
    have datb : (x.table == y.table) = false := beq_eq_false_iff_ne.2 h_tb
    have dbtb : decide (x.table = y.table) = false := decide_eq_false h_tb
    have dctb : (x.table = y.table) = False := eq_false h_tb
    have ddtb : (x.table != y.table) = true := bne_iff_ne.2 h_tb
    have H := Lib.hid (show meetsS x y = false by rw [meets_ref, decide_eq_false h_tb]; rfl)
    clear h_tb
    go_wp2_with fail
    go_ret
    exact ⟨by first | (rw [H.out]; done) | (rw [H.out]; rfl), q⟩
end Go.Proofs.YtpdnehgboafgpaaDoor
