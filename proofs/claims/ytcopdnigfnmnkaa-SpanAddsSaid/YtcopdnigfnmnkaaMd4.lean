/-
  TEXTS OF ONE PROOF, merged: SpA, SpB, SpD.
-/
import Derived.Test.YtcopdnigfnmnkaaMd3
namespace Go.Proofs.Ytcopdnigfnmnkaa
open Go.RowKit Go.Shelf
theorem str_ltS {a b : List UInt8} : Op.bytesLess (strOf a).toList (strOf b).toList = ltB a b := by
  rw [show (strOf a).toList = a by simp [strOf], show (strOf b).toList = b by simp [strOf]]; rfl
theorem str_eqS {a b : List UInt8} : ((strOf a).toList == (strOf b).toList) = decide (a = b) := by
  rw [show (strOf a).toList = a by simp [strOf], show (strOf b).toList = b by simp [strOf]]
  by_cases h : a = b <;> simp [h]
theorem str_leS {a b : List UInt8} : (Op.bytesLess (strOf a).toList (strOf b).toList || (strOf a).toList == (strOf b).toList) = !ltB b a := by
  rw [str_ltS, str_eqS]
  cases h : ltB a b with
  | true => rw [ltB_asymm h]; rfl
  | false =>
    by_cases e : a = b
    · subst e; rw [ltB_irrefl]; simp
    · rw [ltB_total e h]; simp [e]
theorem cmp_le (a b : List UInt8) : decide (Lib.compareBytes a b ≤ 0) = !ltB b a := by
  have h1 := cmp_lt a b
  have h2 := cmp_eq a b
  cases h : ltB a b with
  | true =>
    rw [h] at h1
    rw [ltB_asymm h]
    have := of_decide_eq_true h1
    exact decide_eq_true (by omega)
  | false =>
    rw [h] at h1
    have h3 := of_decide_eq_false h1
    by_cases e : a = b
    · rw [decide_eq_true e] at h2
      have := beq_iff_eq.1 h2
      subst e
      rw [ltB_irrefl]
      exact decide_eq_true (by omega)
    · rw [decide_eq_false e] at h2
      have := beq_eq_false_iff_ne.1 h2
      rw [ltB_total e h]
      exact decide_eq_false (by omega)
theorem sp_ext {x y : Sp} (h1 : x.table = y.table) (h2 : x.lo = y.lo) (h3 : x.hi = y.hi) (h4 : x.isOpen = y.isOpen) : x = y := by
  cases x; cases y
  simp only at h1 h2 h3 h4
  subst h1 h2 h3 h4
  rfl
set_option maxRecDepth 100000 in
set_option maxHeartbeats 4000000 in
theorem sCheck_any (w : World) {S : Nat → Prop} {v : Value} {x : Sp} (hx : RdSp S w v x) :
    Calls Try.prog 14 #[v] w fun e w' => e = .returned (.bool (decide (mayS x))) ∧ Below w.heap.size w w' := by
  obtain ⟨a1, a2, a3, a4, rfl, hlx, hhx, htx⟩ := hx
  have m1x : x.lo.length ≤ 9223372036854775807 := by have := hlx.len; unfold maxLen at this; omega
  have m2x : x.hi.length ≤ 9223372036854775807 := by have := hhx.len; unfold maxLen at this; omega
  obtain ⟨W, hW, q, Bx, hsz⟩ := spBox w 24 [.int .i64 x.table, .slice a1 x.lo.length a2, .slice a3 x.hi.length a4, .bool x.isOpen]
  clear hsz
  go_enter Try.func14, Try.ntmps14
  go_upto_region 1 with (fail)
  rw [show w.alloc (.cells #[.int .i64 x.table, .slice a1 x.lo.length a2, .slice a3 x.hi.length a4, .bool x.isOpen] 24) = W from hW.symm]
  clear hW
  have cx0 := Bx.cell (i := 0) rfl
  have cx1 := Bx.cell (i := 1) rfl
  have cx2 := Bx.cell (i := 2) rfl
  have cx3 := Bx.cell (i := 3) rfl
  have rlx := hlx.below q
  have rhx := hhx.below q
  by_cases h_t0 : 0 ≤ x.table
  · have dt0a : decide (0 ≤ x.table) = true := decide_eq_true (by omega)
    have dt0b : decide (x.table < 0) = false := decide_eq_false (by omega)
    by_cases h_t3 : x.table ≤ 3
    · have dt3a : decide (x.table ≤ 3) = true := decide_eq_true (by omega)
      have dt3b : decide (4 ≤ x.table) = false := decide_eq_false (by omega)
      by_cases h_lo : x.lo.length ≤ 17
      · have dloa : decide ((x.lo.length : Int) ≤ 17) = true := decide_eq_true (by omega)
        have dlob : decide ((17 : Int) < (x.lo.length : Int)) = false := decide_eq_false (by omega)
        by_cases h_hi : x.hi.length ≤ 17
        · have dhia : decide ((x.hi.length : Int) ≤ 17) = true := decide_eq_true (by omega)
          have dhib : decide ((17 : Int) < (x.hi.length : Int)) = false := decide_eq_false (by omega)
          cases h_op : x.isOpen with
          | true =>
            rw [h_op] at cx3
            by_cases h_h0 : x.hi.length = 0
            · have d0a : ((x.hi.length : Int) == 0) = true := beq_iff_eq.2 (by omega)
              have d0b : decide ((x.hi.length : Int) = 0) = true := decide_eq_true (by omega)
              have H := Lib.hid (show decide (mayS x) = true from decide_eq_true ⟨by omega, by omega, by omega, by omega, fun _ => List.eq_nil_of_length_eq_zero (by omega)⟩)
              clear h_t0 h_t3 h_lo h_hi h_op h_h0
              go_wp2_with fail
              go_ret
              exact ⟨by first | (rw [H.out]; done) | (rw [H.out]; rfl), q⟩
            · have d0a : ((x.hi.length : Int) == 0) = false := beq_eq_false_iff_ne.2 (by omega)
              have d0b : decide ((x.hi.length : Int) = 0) = false := decide_eq_false (by omega)
              have H := Lib.hid (show decide (mayS x) = false from decide_eq_false fun h => by have := h.2.2.2.2 h_op; rw [this] at h_h0; simp at h_h0)
              clear h_t0 h_t3 h_lo h_hi h_op h_h0
              go_wp2_with fail
              go_ret
              exact ⟨by first | (rw [H.out]; done) | (rw [H.out]; rfl), q⟩
          | false =>
            rw [h_op] at cx3
            have H := Lib.hid (show decide (mayS x) = true from decide_eq_true ⟨by omega, by omega, by omega, by omega, fun h => by rw [h_op] at h; cases h⟩)
            clear h_t0 h_t3 h_lo h_hi h_op
            go_wp2_with fail
            go_ret
            exact ⟨by first | (rw [H.out]; done) | (rw [H.out]; rfl), q⟩
        · have dhia : decide ((x.hi.length : Int) ≤ 17) = false := decide_eq_false (by omega)
          have dhib : decide ((17 : Int) < (x.hi.length : Int)) = true := decide_eq_true (by omega)
          have H := Lib.hid (show decide (mayS x) = false from decide_eq_false fun h => by have := h.2.2.2.1; omega)
          clear h_t0 h_t3 h_lo h_hi
          go_wp2_with fail
          go_ret
          exact ⟨by first | (rw [H.out]; done) | (rw [H.out]; rfl), q⟩
      · have dloa : decide ((x.lo.length : Int) ≤ 17) = false := decide_eq_false (by omega)
        have dlob : decide ((17 : Int) < (x.lo.length : Int)) = true := decide_eq_true (by omega)
        have H := Lib.hid (show decide (mayS x) = false from decide_eq_false fun h => by have := h.2.2.1; omega)
        clear h_t0 h_t3 h_lo
        go_wp2_with fail
        go_ret
        exact ⟨by first | (rw [H.out]; done) | (rw [H.out]; rfl), q⟩
    · have dt3a : decide (x.table ≤ 3) = false := decide_eq_false (by omega)
      have dt3b : decide (4 ≤ x.table) = true := decide_eq_true (by omega)
      have H := Lib.hid (show decide (mayS x) = false from decide_eq_false fun h => by have := h.2.1; omega)
      clear h_t0 h_t3
      go_wp2_with fail
      go_ret
      exact ⟨by first | (rw [H.out]; done) | (rw [H.out]; rfl), q⟩
  · have dt0a : decide (0 ≤ x.table) = false := decide_eq_false (by omega)
    have dt0b : decide (x.table < 0) = true := decide_eq_true (by omega)
    have H := Lib.hid (show decide (mayS x) = false from decide_eq_false fun h => by have := h.1; omega)
    clear h_t0
    go_wp2_with fail
    go_ret
    exact ⟨by first | (rw [H.out]; done) | (rw [H.out]; rfl), q⟩
set_option maxRecDepth 100000 in
set_option maxHeartbeats 4000000 in
theorem rCheck_any (w : World) {S : Nat → Prop} {v : Value} {x : Sp} (hx : RdSp S w v x) :
    Calls Try.prog 15 #[v] w fun e w' => e = .returned (.bool (decide (mayS x))) ∧ Below w.heap.size w w' := by
  obtain ⟨a1, a2, a3, a4, rfl, hlx, hhx, htx⟩ := hx
  have m1x : x.lo.length ≤ 9223372036854775807 := by have := hlx.len; unfold maxLen at this; omega
  have m2x : x.hi.length ≤ 9223372036854775807 := by have := hhx.len; unfold maxLen at this; omega
  obtain ⟨W, hW, q, Bx, hsz⟩ := spBox w 24 [.int .i64 x.table, .slice a1 x.lo.length a2, .slice a3 x.hi.length a4, .bool x.isOpen]
  clear hsz
  go_enter Try.func15, Try.ntmps15
  go_upto_region 1 with (fail)
  rw [show w.alloc (.cells #[.int .i64 x.table, .slice a1 x.lo.length a2, .slice a3 x.hi.length a4, .bool x.isOpen] 24) = W from hW.symm]
  clear hW
  have cx0 := Bx.cell (i := 0) rfl
  have cx1 := Bx.cell (i := 1) rfl
  have cx2 := Bx.cell (i := 2) rfl
  have cx3 := Bx.cell (i := 3) rfl
  have rlx := hlx.below q
  have rhx := hhx.below q
  by_cases h_t0 : 0 ≤ x.table
  · have dt0a : decide (0 ≤ x.table) = true := decide_eq_true (by omega)
    have dt0b : decide (x.table < 0) = false := decide_eq_false (by omega)
    by_cases h_t3 : x.table ≤ 3
    · have dt3a : decide (x.table ≤ 3) = true := decide_eq_true (by omega)
      have dt3b : decide (4 ≤ x.table) = false := decide_eq_false (by omega)
      by_cases h_lo : x.lo.length ≤ 17
      · have dloa : decide ((x.lo.length : Int) ≤ 17) = true := decide_eq_true (by omega)
        have dlob : decide ((17 : Int) < (x.lo.length : Int)) = false := decide_eq_false (by omega)
        by_cases h_hi : x.hi.length ≤ 17
        · have dhia : decide ((x.hi.length : Int) ≤ 17) = true := decide_eq_true (by omega)
          have dhib : decide ((17 : Int) < (x.hi.length : Int)) = false := decide_eq_false (by omega)
          cases h_op : x.isOpen with
          | true =>
            rw [h_op] at cx3
            by_cases h_h0 : x.hi.length = 0
            · have d0a : ((x.hi.length : Int) == 0) = true := beq_iff_eq.2 (by omega)
              have d0b : decide ((x.hi.length : Int) = 0) = true := decide_eq_true (by omega)
              have H := Lib.hid (show decide (mayS x) = true from decide_eq_true ⟨by omega, by omega, by omega, by omega, fun _ => List.eq_nil_of_length_eq_zero (by omega)⟩)
              clear h_t0 h_t3 h_lo h_hi h_op h_h0
              go_wp2_with fail
              go_ret
              exact ⟨by first | (rw [H.out]; done) | (rw [H.out]; rfl), q⟩
            · have d0a : ((x.hi.length : Int) == 0) = false := beq_eq_false_iff_ne.2 (by omega)
              have d0b : decide ((x.hi.length : Int) = 0) = false := decide_eq_false (by omega)
              have H := Lib.hid (show decide (mayS x) = false from decide_eq_false fun h => by have := h.2.2.2.2 h_op; rw [this] at h_h0; simp at h_h0)
              clear h_t0 h_t3 h_lo h_hi h_op h_h0
              go_wp2_with fail
              go_ret
              exact ⟨by first | (rw [H.out]; done) | (rw [H.out]; rfl), q⟩
          | false =>
            rw [h_op] at cx3
            have H := Lib.hid (show decide (mayS x) = true from decide_eq_true ⟨by omega, by omega, by omega, by omega, fun h => by rw [h_op] at h; cases h⟩)
            clear h_t0 h_t3 h_lo h_hi h_op
            go_wp2_with fail
            go_ret
            exact ⟨by first | (rw [H.out]; done) | (rw [H.out]; rfl), q⟩
        · have dhia : decide ((x.hi.length : Int) ≤ 17) = false := decide_eq_false (by omega)
          have dhib : decide ((17 : Int) < (x.hi.length : Int)) = true := decide_eq_true (by omega)
          have H := Lib.hid (show decide (mayS x) = false from decide_eq_false fun h => by have := h.2.2.2.1; omega)
          clear h_t0 h_t3 h_lo h_hi
          go_wp2_with fail
          go_ret
          exact ⟨by first | (rw [H.out]; done) | (rw [H.out]; rfl), q⟩
      · have dloa : decide ((x.lo.length : Int) ≤ 17) = false := decide_eq_false (by omega)
        have dlob : decide ((17 : Int) < (x.lo.length : Int)) = true := decide_eq_true (by omega)
        have H := Lib.hid (show decide (mayS x) = false from decide_eq_false fun h => by have := h.2.2.1; omega)
        clear h_t0 h_t3 h_lo
        go_wp2_with fail
        go_ret
        exact ⟨by first | (rw [H.out]; done) | (rw [H.out]; rfl), q⟩
    · have dt3a : decide (x.table ≤ 3) = false := decide_eq_false (by omega)
      have dt3b : decide (4 ≤ x.table) = true := decide_eq_true (by omega)
      have H := Lib.hid (show decide (mayS x) = false from decide_eq_false fun h => by have := h.2.1; omega)
      clear h_t0 h_t3
      go_wp2_with fail
      go_ret
      exact ⟨by first | (rw [H.out]; done) | (rw [H.out]; rfl), q⟩
  · have dt0a : decide (0 ≤ x.table) = false := decide_eq_false (by omega)
    have dt0b : decide (x.table < 0) = true := decide_eq_true (by omega)
    have H := Lib.hid (show decide (mayS x) = false from decide_eq_false fun h => by have := h.1; omega)
    clear h_t0
    go_wp2_with fail
    go_ret
    exact ⟨by first | (rw [H.out]; done) | (rw [H.out]; rfl), q⟩
set_option maxRecDepth 100000 in
set_option maxHeartbeats 4000000 in
theorem sEmpty_any (w : World) {S : Nat → Prop} {v : Value} {x : Sp} (hx : RdSp S w v x) :
    Calls Try.prog 16 #[v] w fun e w' => e = .returned (.bool (emptyS x)) ∧ Below w.heap.size w w' := by
  obtain ⟨a1, a2, a3, a4, rfl, hlx, hhx, htx⟩ := hx
  have m1x : x.lo.length ≤ 9223372036854775807 := by have := hlx.len; unfold maxLen at this; omega
  have m2x : x.hi.length ≤ 9223372036854775807 := by have := hhx.len; unfold maxLen at this; omega
  obtain ⟨W, hW, q, Bx, hsz⟩ := spBox w 24 [.int .i64 x.table, .slice a1 x.lo.length a2, .slice a3 x.hi.length a4, .bool x.isOpen]
  clear hsz
  go_enter Try.func16, Try.ntmps16
  go_upto_region 1 with (fail)
  rw [show w.alloc (.cells #[.int .i64 x.table, .slice a1 x.lo.length a2, .slice a3 x.hi.length a4, .bool x.isOpen] 24) = W from hW.symm]
  clear hW
  have cx0 := Bx.cell (i := 0) rfl
  have cx1 := Bx.cell (i := 1) rfl
  have cx2 := Bx.cell (i := 2) rfl
  have cx3 := Bx.cell (i := 3) rfl
  have rlx := hlx.below q
  have rhx := hhx.below q
  cases h_op : x.isOpen with
  | true =>
    rw [h_op] at cx3
    have H := Lib.hid (show emptyS x = false from by unfold emptyS; simp [h_op])
    clear h_op
    go_wp2_with fail
    go_ret
    exact ⟨by first | (rw [H.out]; done) | (rw [H.out]; rfl), q⟩
  | false =>
    rw [h_op] at cx3
    cases h_lh : ltB x.lo x.hi with
    | true =>
      have dlh : decide (Lib.compareBytes x.hi x.lo ≤ 0) = false := by rw [cmp_le, h_lh]; rfl
      have H := Lib.hid (show emptyS x = false from by unfold emptyS; simp [h_op, h_lh])
      clear h_op h_lh
      go_wp2_with fail
      refine (compare_any _ rhx rlx).mono ?_
      rintro e _ ⟨rfl, rfl⟩
      go_wp2_with fail
      go_ret
      exact ⟨by first | (rw [H.out]; done) | (rw [H.out]; rfl), q⟩
    | false =>
      have dlh : decide (Lib.compareBytes x.hi x.lo ≤ 0) = true := by rw [cmp_le, h_lh]; rfl
      have H := Lib.hid (show emptyS x = true from by unfold emptyS; simp [h_op, h_lh])
      clear h_op h_lh
      go_wp2_with fail
      refine (compare_any _ rhx rlx).mono ?_
      rintro e _ ⟨rfl, rfl⟩
      go_wp2_with fail
      go_ret
      exact ⟨by first | (rw [H.out]; done) | (rw [H.out]; rfl), q⟩
set_option maxRecDepth 100000 in
set_option maxHeartbeats 4000000 in
theorem rEmpty_any (w : World) {S : Nat → Prop} {v : Value} {x : Sp} (hx : RdSp S w v x) :
    Calls Try.prog 17 #[v] w fun e w' => e = .returned (.bool (emptyS x)) ∧ Below w.heap.size w w' := by
  obtain ⟨a1, a2, a3, a4, rfl, hlx, hhx, htx⟩ := hx
  have m1x : x.lo.length ≤ 9223372036854775807 := by have := hlx.len; unfold maxLen at this; omega
  have m2x : x.hi.length ≤ 9223372036854775807 := by have := hhx.len; unfold maxLen at this; omega
  obtain ⟨W, hW, q, Bx, hsz⟩ := spBox w 24 [.int .i64 x.table, .slice a1 x.lo.length a2, .slice a3 x.hi.length a4, .bool x.isOpen]
  clear hsz
  go_enter Try.func17, Try.ntmps17
  go_upto_region 1 with (fail)
  rw [show w.alloc (.cells #[.int .i64 x.table, .slice a1 x.lo.length a2, .slice a3 x.hi.length a4, .bool x.isOpen] 24) = W from hW.symm]
  clear hW
  have cx0 := Bx.cell (i := 0) rfl
  have cx1 := Bx.cell (i := 1) rfl
  have cx2 := Bx.cell (i := 2) rfl
  have cx3 := Bx.cell (i := 3) rfl
  have rlx := hlx.below q
  have rhx := hhx.below q
  cases h_op : x.isOpen with
  | true =>
    rw [h_op] at cx3
    have H := Lib.hid (show emptyS x = false from by unfold emptyS; simp [h_op])
    clear h_op
    go_wp2_with fail
    go_ret
    exact ⟨by first | (rw [H.out]; done) | (rw [H.out]; rfl), q⟩
  | false =>
    rw [h_op] at cx3
    cases h_lh : ltB x.lo x.hi with
    | true =>
      have flh : (Op.bytesLess (strOf x.hi).toList (strOf x.lo).toList || (strOf x.hi).toList == (strOf x.lo).toList) = false := by rw [str_leS, h_lh]; rfl
      have H := Lib.hid (show emptyS x = false from by unfold emptyS; simp [h_op, h_lh])
      clear h_op h_lh
      go_wp2_with (refine wpList_conv (x := .tmp 8) byP rfl rfl rfl rhx.rd ?_; go_wp2_with (refine wpList_conv (x := .tmp 11) byP rfl rfl rfl rlx.rd ?_; go_wp2_with fail))
      go_ret
      exact ⟨by first | (rw [H.out]; done) | (rw [H.out]; rfl), q⟩
    | false =>
      have flh : (Op.bytesLess (strOf x.hi).toList (strOf x.lo).toList || (strOf x.hi).toList == (strOf x.lo).toList) = true := by rw [str_leS, h_lh]; rfl
      have H := Lib.hid (show emptyS x = true from by unfold emptyS; simp [h_op, h_lh])
      clear h_op h_lh
      go_wp2_with (refine wpList_conv (x := .tmp 8) byP rfl rfl rfl rhx.rd ?_; go_wp2_with (refine wpList_conv (x := .tmp 11) byP rfl rfl rfl rlx.rd ?_; go_wp2_with fail))
      go_ret
      exact ⟨by first | (rw [H.out]; done) | (rw [H.out]; rfl), q⟩
set_option maxRecDepth 100000 in
set_option maxHeartbeats 4000000 in
theorem sIn_any (w : World) {S S2 : Nat → Prop} {v : Value} {x : Sp} {t : Int} {A : Option Addr} {n C : Nat} {k : List UInt8} (hx : RdSp S w v x) (hk : RdS S2 w (.slice A n C) k) :
    Calls Try.prog 18 #[v, .int .i64 t, .slice A n C] w fun e w' => e = .returned (.bool (inT x t k)) ∧ Below w.heap.size w w' := by
  obtain ⟨a1, a2, a3, a4, rfl, hlx, hhx, htx⟩ := hx
  have m1x : x.lo.length ≤ 9223372036854775807 := by have := hlx.len; unfold maxLen at this; omega
  have m2x : x.hi.length ≤ 9223372036854775807 := by have := hhx.len; unfold maxLen at this; omega
  obtain ⟨W, hW, q, Bx, hsz⟩ := spBox w 24 [.int .i64 x.table, .slice a1 x.lo.length a2, .slice a3 x.hi.length a4, .bool x.isOpen]
  clear hsz
  go_enter Try.func18, Try.ntmps18
  go_upto_region 1 with (fail)
  rw [show w.alloc (.cells #[.int .i64 x.table, .slice a1 x.lo.length a2, .slice a3 x.hi.length a4, .bool x.isOpen] 24) = W from hW.symm]
  clear hW
  have cx0 := Bx.cell (i := 0) rfl
  have cx1 := Bx.cell (i := 1) rfl
  have cx2 := Bx.cell (i := 2) rfl
  have cx3 := Bx.cell (i := 3) rfl
  have rlx := hlx.below q
  have rhx := hhx.below q
  have rk := hk.below q
  by_cases h_tb : x.table = t
  · have datb : (x.table == t) = true := beq_iff_eq.2 h_tb
    have dbtb : decide (x.table = t) = true := decide_eq_true h_tb
    have dctb : (x.table = t) = True := eq_true h_tb
    have ddtb : (x.table != t) = false := by rw [bne_eq_false_iff_eq]; exact h_tb
    cases h_kl : ltB k x.lo with
    | true =>
      have dkl : decide (0 ≤ Lib.compareBytes k x.lo) = false := by rw [cmp_ge, h_kl]; rfl
      have H := Lib.hid (show inT x t k = false from by unfold inT inS; simp [h_tb, h_kl])
      clear h_tb h_kl
      go_wp2_with fail
      refine (compare_any _ rk rlx).mono ?_
      rintro e _ ⟨rfl, rfl⟩
      go_wp2_with fail
      go_ret
      exact ⟨by first | (rw [H.out]; done) | (rw [H.out]; rfl), q⟩
    | false =>
      have dkl : decide (0 ≤ Lib.compareBytes k x.lo) = true := by rw [cmp_ge, h_kl]; rfl
      cases h_op : x.isOpen with
      | true =>
        rw [h_op] at cx3
        have H := Lib.hid (show inT x t k = true from by unfold inT inS; simp [h_tb, h_kl, h_op])
        clear h_tb h_kl h_op
        go_wp2_with fail
        refine (compare_any _ rk rlx).mono ?_
        rintro e _ ⟨rfl, rfl⟩
        go_wp2_with fail
        go_ret
        exact ⟨by first | (rw [H.out]; done) | (rw [H.out]; rfl), q⟩
      | false =>
        rw [h_op] at cx3
        cases h_kh : ltB k x.hi with
        | true =>
          have dkh : decide (Lib.compareBytes k x.hi < 0) = true := (cmp_lt _ _).trans h_kh
          have H := Lib.hid (show inT x t k = true from by unfold inT inS; simp [h_tb, h_kl, h_op, h_kh])
          clear h_tb h_kl h_op h_kh
          go_wp2_with fail
          refine (compare_any _ rk rlx).mono ?_
          rintro e _ ⟨rfl, rfl⟩
          go_wp2_with fail
          refine (compare_any _ rk rhx).mono ?_
          rintro e _ ⟨rfl, rfl⟩
          go_wp2_with fail
          go_ret
          exact ⟨by first | (rw [H.out]; done) | (rw [H.out]; rfl), q⟩
        | false =>
          have dkh : decide (Lib.compareBytes k x.hi < 0) = false := (cmp_lt _ _).trans h_kh
          have H := Lib.hid (show inT x t k = false from by unfold inT inS; simp [h_tb, h_kl, h_op, h_kh])
          clear h_tb h_kl h_op h_kh
          go_wp2_with fail
          refine (compare_any _ rk rlx).mono ?_
          rintro e _ ⟨rfl, rfl⟩
          go_wp2_with fail
          refine (compare_any _ rk rhx).mono ?_
          rintro e _ ⟨rfl, rfl⟩
          go_wp2_with fail
          go_ret
          exact ⟨by first | (rw [H.out]; done) | (rw [H.out]; rfl), q⟩
  · have datb : (x.table == t) = false := beq_eq_false_iff_ne.2 h_tb
    have dbtb : decide (x.table = t) = false := decide_eq_false h_tb
    have dctb : (x.table = t) = False := eq_false h_tb
    have ddtb : (x.table != t) = true := bne_iff_ne.2 h_tb
    have H := Lib.hid (show inT x t k = false from by unfold inT inS; simp [h_tb])
    clear h_tb
    go_wp2_with fail
    go_ret
    exact ⟨by first | (rw [H.out]; done) | (rw [H.out]; rfl), q⟩
set_option maxRecDepth 100000 in
set_option maxHeartbeats 4000000 in
theorem short_any (w : World) {S : Nat → Prop} {v : Value} {x : Sp} (hx : RdSp S w v x) :
    Calls Try.prog 9 #[v] w fun e w' => e = .returned (.bool (decide (shortS x))) ∧ Below w.heap.size w w' := by
  obtain ⟨a1, a2, a3, a4, rfl, hlx, hhx, htx⟩ := hx
  have m1x : x.lo.length ≤ 9223372036854775807 := by have := hlx.len; unfold maxLen at this; omega
  have m2x : x.hi.length ≤ 9223372036854775807 := by have := hhx.len; unfold maxLen at this; omega
  obtain ⟨W, hW, q, Bx, hsz⟩ := spBox w 24 [.int .i64 x.table, .slice a1 x.lo.length a2, .slice a3 x.hi.length a4, .bool x.isOpen]
  clear hsz
  go_enter Try.func9, Try.ntmps9
  go_upto_region 1 with (fail)
  rw [show w.alloc (.cells #[.int .i64 x.table, .slice a1 x.lo.length a2, .slice a3 x.hi.length a4, .bool x.isOpen] 24) = W from hW.symm]
  clear hW
  have cx0 := Bx.cell (i := 0) rfl
  have cx1 := Bx.cell (i := 1) rfl
  have cx2 := Bx.cell (i := 2) rfl
  have cx3 := Bx.cell (i := 3) rfl
  have rlx := hlx.below q
  have rhx := hhx.below q
  by_cases h_lo : x.lo.length ≤ 100
  · have dloa : decide ((x.lo.length : Int) ≤ 100) = true := decide_eq_true (by omega)
    by_cases h_hi : x.hi.length ≤ 100
    · have dhia : decide ((x.hi.length : Int) ≤ 100) = true := decide_eq_true (by omega)
      have H := Lib.hid (show decide (shortS x) = true from decide_eq_true ⟨by omega, by omega⟩)
      clear h_lo h_hi
      go_wp2_with fail
      go_ret
      exact ⟨by first | (rw [H.out]; done) | (rw [H.out]; rfl), q⟩
    · have dhia : decide ((x.hi.length : Int) ≤ 100) = false := decide_eq_false (by omega)
      have H := Lib.hid (show decide (shortS x) = false from decide_eq_false fun h => by have := h.1; have := h.2; omega)
      clear h_lo h_hi
      go_wp2_with fail
      go_ret
      exact ⟨by first | (rw [H.out]; done) | (rw [H.out]; rfl), q⟩
  · have dloa : decide ((x.lo.length : Int) ≤ 100) = false := decide_eq_false (by omega)
    have H := Lib.hid (show decide (shortS x) = false from decide_eq_false fun h => by have := h.1; have := h.2; omega)
    clear h_lo
    go_wp2_with fail
    go_ret
    exact ⟨by first | (rw [H.out]; done) | (rw [H.out]; rfl), q⟩
set_option maxRecDepth 100000 in
set_option maxHeartbeats 4000000 in
theorem rOne_any (w : World) {S S2 : Nat → Prop} {u v : Value} {x y : Sp} (hx : RdSp S w u x) (hy : RdSp S2 w v y) :
    Calls Try.prog 10 #[u, v] w fun e w' => e = .returned (.bool (decide (x = y))) ∧ Below w.heap.size w w' := by
  obtain ⟨a1, a2, a3, a4, rfl, hlx, hhx, htx⟩ := hx
  obtain ⟨b1, b2, b3, b4, rfl, hly, hhy, hty⟩ := hy
  have m1x : x.lo.length ≤ 9223372036854775807 := by have := hlx.len; unfold maxLen at this; omega
  have m2x : x.hi.length ≤ 9223372036854775807 := by have := hhx.len; unfold maxLen at this; omega
  have m1y : y.lo.length ≤ 9223372036854775807 := by have := hly.len; unfold maxLen at this; omega
  have m2y : y.hi.length ≤ 9223372036854775807 := by have := hhy.len; unfold maxLen at this; omega
  obtain ⟨W, hW, q, Bx, By, hsz⟩ := spBoxes2 w 24 24 [.int .i64 x.table, .slice a1 x.lo.length a2, .slice a3 x.hi.length a4, .bool x.isOpen] [.int .i64 y.table, .slice b1 y.lo.length b2, .slice b3 y.hi.length b4, .bool y.isOpen]
  clear hsz
  go_enter Try.func10, Try.ntmps10
  go_upto_region 1 with (fail)
  rw [show (w.alloc (.cells #[.int .i64 x.table, .slice a1 x.lo.length a2, .slice a3 x.hi.length a4, .bool x.isOpen] 24)).alloc (.cells #[.int .i64 y.table, .slice b1 y.lo.length b2, .slice b3 y.hi.length b4, .bool y.isOpen] 24) = W from hW.symm]
  clear hW
  have cx0 := Bx.cell (i := 0) rfl
  have cx1 := Bx.cell (i := 1) rfl
  have cx2 := Bx.cell (i := 2) rfl
  have cx3 := Bx.cell (i := 3) rfl
  have rlx := hlx.below q
  have rhx := hhx.below q
  have cy0 := By.cell (i := 0) rfl
  have cy1 := By.cell (i := 1) rfl
  have cy2 := By.cell (i := 2) rfl
  have cy3 := By.cell (i := 3) rfl
  have rly := hly.below q
  have rhy := hhy.below q
  by_cases h_tb : x.table = y.table
  · have datb : (x.table == y.table) = true := beq_iff_eq.2 h_tb
    have dbtb : decide (x.table = y.table) = true := decide_eq_true h_tb
    have dctb : (x.table = y.table) = True := eq_true h_tb
    have ddtb : (x.table != y.table) = false := by rw [bne_eq_false_iff_eq]; exact h_tb
    by_cases h_lo : x.lo = y.lo
    · have dlo : ((strOf x.lo).toList == (strOf y.lo).toList) = true := by rw [str_eqS]; exact decide_eq_true h_lo
      by_cases h_hi : x.hi = y.hi
      · have dhi : ((strOf x.hi).toList == (strOf y.hi).toList) = true := by rw [str_eqS]; exact decide_eq_true h_hi
        cases h_ox : x.isOpen with
        | true =>
          rw [h_ox] at cx3
          cases h_oy : y.isOpen with
          | true =>
            rw [h_oy] at cy3
            have H := Lib.hid (show decide (x = y) = true from decide_eq_true (sp_ext h_tb h_lo h_hi (h_ox.trans h_oy.symm)))
            clear h_tb h_lo h_hi h_ox h_oy
            go_wp2_with (refine wpList_conv (x := .tmp 12) byP rfl rfl rfl rlx.rd ?_; go_wp2_with (refine wpList_conv (x := .tmp 15) byP rfl rfl rfl rly.rd ?_; go_wp2_with (refine wpList_conv (x := .tmp 21) byP rfl rfl rfl rhx.rd ?_; go_wp2_with (refine wpList_conv (x := .tmp 24) byP rfl rfl rfl rhy.rd ?_; go_wp2_with fail))))
            go_ret
            exact ⟨by first | (rw [H.out]; done) | (rw [H.out]; rfl), q⟩
          | false =>
            rw [h_oy] at cy3
            have H := Lib.hid (show decide (x = y) = false from decide_eq_false (fun h => by rw [h, h_oy] at h_ox; cases h_ox))
            clear h_tb h_lo h_hi h_ox h_oy
            go_wp2_with (refine wpList_conv (x := .tmp 12) byP rfl rfl rfl rlx.rd ?_; go_wp2_with (refine wpList_conv (x := .tmp 15) byP rfl rfl rfl rly.rd ?_; go_wp2_with (refine wpList_conv (x := .tmp 21) byP rfl rfl rfl rhx.rd ?_; go_wp2_with (refine wpList_conv (x := .tmp 24) byP rfl rfl rfl rhy.rd ?_; go_wp2_with fail))))
            go_ret
            exact ⟨by first | (rw [H.out]; done) | (rw [H.out]; rfl), q⟩
        | false =>
          rw [h_ox] at cx3
          cases h_oy : y.isOpen with
          | true =>
            rw [h_oy] at cy3
            have H := Lib.hid (show decide (x = y) = false from decide_eq_false (fun h => by rw [h, h_oy] at h_ox; cases h_ox))
            clear h_tb h_lo h_hi h_ox h_oy
            go_wp2_with (refine wpList_conv (x := .tmp 12) byP rfl rfl rfl rlx.rd ?_; go_wp2_with (refine wpList_conv (x := .tmp 15) byP rfl rfl rfl rly.rd ?_; go_wp2_with (refine wpList_conv (x := .tmp 21) byP rfl rfl rfl rhx.rd ?_; go_wp2_with (refine wpList_conv (x := .tmp 24) byP rfl rfl rfl rhy.rd ?_; go_wp2_with fail))))
            go_ret
            exact ⟨by first | (rw [H.out]; done) | (rw [H.out]; rfl), q⟩
          | false =>
            rw [h_oy] at cy3
            have H := Lib.hid (show decide (x = y) = true from decide_eq_true (sp_ext h_tb h_lo h_hi (h_ox.trans h_oy.symm)))
            clear h_tb h_lo h_hi h_ox h_oy
            go_wp2_with (refine wpList_conv (x := .tmp 12) byP rfl rfl rfl rlx.rd ?_; go_wp2_with (refine wpList_conv (x := .tmp 15) byP rfl rfl rfl rly.rd ?_; go_wp2_with (refine wpList_conv (x := .tmp 21) byP rfl rfl rfl rhx.rd ?_; go_wp2_with (refine wpList_conv (x := .tmp 24) byP rfl rfl rfl rhy.rd ?_; go_wp2_with fail))))
            go_ret
            exact ⟨by first | (rw [H.out]; done) | (rw [H.out]; rfl), q⟩
      · have dhi : ((strOf x.hi).toList == (strOf y.hi).toList) = false := by rw [str_eqS]; exact decide_eq_false h_hi
        have H := Lib.hid (show decide (x = y) = false from decide_eq_false (fun h => h_hi (by rw [h])))
        clear h_tb h_lo h_hi
        go_wp2_with (refine wpList_conv (x := .tmp 12) byP rfl rfl rfl rlx.rd ?_; go_wp2_with (refine wpList_conv (x := .tmp 15) byP rfl rfl rfl rly.rd ?_; go_wp2_with (refine wpList_conv (x := .tmp 21) byP rfl rfl rfl rhx.rd ?_; go_wp2_with (refine wpList_conv (x := .tmp 24) byP rfl rfl rfl rhy.rd ?_; go_wp2_with fail))))
        go_ret
        exact ⟨by first | (rw [H.out]; done) | (rw [H.out]; rfl), q⟩
    · have dlo : ((strOf x.lo).toList == (strOf y.lo).toList) = false := by rw [str_eqS]; exact decide_eq_false h_lo
      have H := Lib.hid (show decide (x = y) = false from decide_eq_false (fun h => h_lo (by rw [h])))
      clear h_tb h_lo
      go_wp2_with (refine wpList_conv (x := .tmp 12) byP rfl rfl rfl rlx.rd ?_; go_wp2_with (refine wpList_conv (x := .tmp 15) byP rfl rfl rfl rly.rd ?_; go_wp2_with fail))
      go_ret
      exact ⟨by first | (rw [H.out]; done) | (rw [H.out]; rfl), q⟩
  · have datb : (x.table == y.table) = false := beq_eq_false_iff_ne.2 h_tb
    have dbtb : decide (x.table = y.table) = false := decide_eq_false h_tb
    have dctb : (x.table = y.table) = False := eq_false h_tb
    have ddtb : (x.table != y.table) = true := bne_iff_ne.2 h_tb
    have H := Lib.hid (show decide (x = y) = false from decide_eq_false (fun h => h_tb (by rw [h])))
    clear h_tb
    go_wp2_with fail
    go_ret
    exact ⟨by first | (rw [H.out]; done) | (rw [H.out]; rfl), q⟩
set_option maxRecDepth 100000 in
set_option maxHeartbeats 4000000 in
theorem sCovers_any (w : World) {S S2 : Nat → Prop} {u v : Value} {x y : Sp} (hx : RdSp S w u x) (hy : RdSp S2 w v y) :
    Calls Try.prog 22 #[u, v] w fun e w' => e = .returned (.bool (coversS x y)) ∧ Below w.heap.size w w' := by
  obtain ⟨a1, a2, a3, a4, rfl, hlx, hhx, htx⟩ := hx
  obtain ⟨b1, b2, b3, b4, rfl, hly, hhy, hty⟩ := hy
  have m1x : x.lo.length ≤ 9223372036854775807 := by have := hlx.len; unfold maxLen at this; omega
  have m2x : x.hi.length ≤ 9223372036854775807 := by have := hhx.len; unfold maxLen at this; omega
  have m1y : y.lo.length ≤ 9223372036854775807 := by have := hly.len; unfold maxLen at this; omega
  have m2y : y.hi.length ≤ 9223372036854775807 := by have := hhy.len; unfold maxLen at this; omega
  obtain ⟨W, hW, q, Bx, By, hsz⟩ := spBoxes2 w 24 24 [.int .i64 x.table, .slice a1 x.lo.length a2, .slice a3 x.hi.length a4, .bool x.isOpen] [.int .i64 y.table, .slice b1 y.lo.length b2, .slice b3 y.hi.length b4, .bool y.isOpen]
  clear hsz
  go_enter Try.func22, Try.ntmps22
  go_upto_region 1 with (fail)
  rw [show (w.alloc (.cells #[.int .i64 x.table, .slice a1 x.lo.length a2, .slice a3 x.hi.length a4, .bool x.isOpen] 24)).alloc (.cells #[.int .i64 y.table, .slice b1 y.lo.length b2, .slice b3 y.hi.length b4, .bool y.isOpen] 24) = W from hW.symm]
  clear hW
  have cy0 := By.cell (i := 0) rfl
  have cy1 := By.cell (i := 1) rfl
  have cy2 := By.cell (i := 2) rfl
  have cy3 := By.cell (i := 3) rfl
  have hcl := sEmpty_any W (x := y) ⟨_, _, _, _, rfl, hly.below q, hhy.below q, hty⟩
  go_wp2_with fail
  refine hcl.mono ?_
  rintro e w1 ⟨rfl, hb⟩
  clear hcl cy0 cy1 cy2 cy3
  replace Bx := Bx.below hb Bx.lt
  replace By := By.below hb By.lt
  replace q := q.trans (hb.mono q.size)
  clear hb
  have cx0 := Bx.cell (i := 0) rfl
  have cx1 := Bx.cell (i := 1) rfl
  have cx2 := Bx.cell (i := 2) rfl
  have cx3 := Bx.cell (i := 3) rfl
  have rlx := hlx.below q
  have rhx := hhx.below q
  have cy0 := By.cell (i := 0) rfl
  have cy1 := By.cell (i := 1) rfl
  have cy2 := By.cell (i := 2) rfl
  have cy3 := By.cell (i := 3) rfl
  have rly := hly.below q
  have rhy := hhy.below q
  cases h_em : emptyS y with
  | true =>
    have H := Lib.hid (show coversS x y = true from by unfold coversS; simp [h_em])
    clear h_em
    go_wp2_with fail
    go_ret
    exact ⟨by first | (rw [H.out]; done) | (rw [H.out]; rfl), q⟩
  | false =>
    by_cases h_tb : x.table = y.table
    · have datb : (x.table == y.table) = true := beq_iff_eq.2 h_tb
      have dbtb : decide (x.table = y.table) = true := decide_eq_true h_tb
      have dctb : (x.table = y.table) = True := eq_true h_tb
      have ddtb : (x.table != y.table) = false := by rw [bne_eq_false_iff_eq]; exact h_tb
      cases h_ll : ltB y.lo x.lo with
      | true =>
        have dll : decide (Lib.compareBytes y.lo x.lo < 0) = true := (cmp_lt _ _).trans h_ll
        have H := Lib.hid (show coversS x y = false from by unfold coversS; simp [h_em, h_tb, h_ll])
        clear h_em h_tb h_ll
        go_wp2_with fail
        refine (compare_any _ rly rlx).mono ?_
        rintro e _ ⟨rfl, rfl⟩
        go_wp2_with fail
        go_ret
        exact ⟨by first | (rw [H.out]; done) | (rw [H.out]; rfl), q⟩
      | false =>
        have dll : decide (Lib.compareBytes y.lo x.lo < 0) = false := (cmp_lt _ _).trans h_ll
        cases h_ox : x.isOpen with
        | true =>
          rw [h_ox] at cx3
          have H := Lib.hid (show coversS x y = true from by unfold coversS; simp [h_em, h_tb, h_ll, h_ox])
          clear h_em h_tb h_ll h_ox
          go_wp2_with fail
          refine (compare_any _ rly rlx).mono ?_
          rintro e _ ⟨rfl, rfl⟩
          go_wp2_with fail
          go_ret
          exact ⟨by first | (rw [H.out]; done) | (rw [H.out]; rfl), q⟩
        | false =>
          rw [h_ox] at cx3
          cases h_oy : y.isOpen with
          | true =>
            rw [h_oy] at cy3
            have H := Lib.hid (show coversS x y = false from by unfold coversS; simp [h_em, h_tb, h_ll, h_ox, h_oy])
            clear h_em h_tb h_ll h_ox h_oy
            go_wp2_with fail
            refine (compare_any _ rly rlx).mono ?_
            rintro e _ ⟨rfl, rfl⟩
            go_wp2_with fail
            go_ret
            exact ⟨by first | (rw [H.out]; done) | (rw [H.out]; rfl), q⟩
          | false =>
            rw [h_oy] at cy3
            cases h_hh : ltB x.hi y.hi with
            | true =>
              have dhh : decide (Lib.compareBytes y.hi x.hi ≤ 0) = false := by rw [cmp_le, h_hh]; rfl
              have H := Lib.hid (show coversS x y = false from by unfold coversS; simp [h_em, h_tb, h_ll, h_ox, h_oy, h_hh])
              clear h_em h_tb h_ll h_ox h_oy h_hh
              go_wp2_with fail
              refine (compare_any _ rly rlx).mono ?_
              rintro e _ ⟨rfl, rfl⟩
              go_wp2_with fail
              refine (compare_any _ rhy rhx).mono ?_
              rintro e _ ⟨rfl, rfl⟩
              go_wp2_with fail
              go_ret
              exact ⟨by first | (rw [H.out]; done) | (rw [H.out]; rfl), q⟩
            | false =>
              have dhh : decide (Lib.compareBytes y.hi x.hi ≤ 0) = true := by rw [cmp_le, h_hh]; rfl
              have H := Lib.hid (show coversS x y = true from by unfold coversS; simp [h_em, h_tb, h_ll, h_ox, h_oy, h_hh])
              clear h_em h_tb h_ll h_ox h_oy h_hh
              go_wp2_with fail
              refine (compare_any _ rly rlx).mono ?_
              rintro e _ ⟨rfl, rfl⟩
              go_wp2_with fail
              refine (compare_any _ rhy rhx).mono ?_
              rintro e _ ⟨rfl, rfl⟩
              go_wp2_with fail
              go_ret
              exact ⟨by first | (rw [H.out]; done) | (rw [H.out]; rfl), q⟩
    · have datb : (x.table == y.table) = false := beq_eq_false_iff_ne.2 h_tb
      have dbtb : decide (x.table = y.table) = false := decide_eq_false h_tb
      have dctb : (x.table = y.table) = False := eq_false h_tb
      have ddtb : (x.table != y.table) = true := bne_iff_ne.2 h_tb
      have H := Lib.hid (show coversS x y = false from by unfold coversS; simp [h_em, h_tb])
      clear h_em h_tb
      go_wp2_with fail
      go_ret
      exact ⟨by first | (rw [H.out]; done) | (rw [H.out]; rfl), q⟩
set_option maxRecDepth 100000 in
set_option maxHeartbeats 4000000 in
theorem rCovers_any (w : World) {S S2 : Nat → Prop} {u v : Value} {x y : Sp} (hx : RdSp S w u x) (hy : RdSp S2 w v y) :
    Calls Try.prog 23 #[u, v] w fun e w' => e = .returned (.bool (coversS x y)) ∧ Below w.heap.size w w' := by
  obtain ⟨a1, a2, a3, a4, rfl, hlx, hhx, htx⟩ := hx
  obtain ⟨b1, b2, b3, b4, rfl, hly, hhy, hty⟩ := hy
  have m1x : x.lo.length ≤ 9223372036854775807 := by have := hlx.len; unfold maxLen at this; omega
  have m2x : x.hi.length ≤ 9223372036854775807 := by have := hhx.len; unfold maxLen at this; omega
  have m1y : y.lo.length ≤ 9223372036854775807 := by have := hly.len; unfold maxLen at this; omega
  have m2y : y.hi.length ≤ 9223372036854775807 := by have := hhy.len; unfold maxLen at this; omega
  obtain ⟨W, hW, q, Bx, By, hsz⟩ := spBoxes2 w 24 24 [.int .i64 x.table, .slice a1 x.lo.length a2, .slice a3 x.hi.length a4, .bool x.isOpen] [.int .i64 y.table, .slice b1 y.lo.length b2, .slice b3 y.hi.length b4, .bool y.isOpen]
  clear hsz
  go_enter Try.func23, Try.ntmps23
  go_upto_region 1 with (fail)
  rw [show (w.alloc (.cells #[.int .i64 x.table, .slice a1 x.lo.length a2, .slice a3 x.hi.length a4, .bool x.isOpen] 24)).alloc (.cells #[.int .i64 y.table, .slice b1 y.lo.length b2, .slice b3 y.hi.length b4, .bool y.isOpen] 24) = W from hW.symm]
  clear hW
  have cy0 := By.cell (i := 0) rfl
  have cy1 := By.cell (i := 1) rfl
  have cy2 := By.cell (i := 2) rfl
  have cy3 := By.cell (i := 3) rfl
  have hcl := rEmpty_any W (x := y) ⟨_, _, _, _, rfl, hly.below q, hhy.below q, hty⟩
  go_wp2_with fail
  refine hcl.mono ?_
  rintro e w1 ⟨rfl, hb⟩
  clear hcl cy0 cy1 cy2 cy3
  replace Bx := Bx.below hb Bx.lt
  replace By := By.below hb By.lt
  replace q := q.trans (hb.mono q.size)
  clear hb
  have cx0 := Bx.cell (i := 0) rfl
  have cx1 := Bx.cell (i := 1) rfl
  have cx2 := Bx.cell (i := 2) rfl
  have cx3 := Bx.cell (i := 3) rfl
  have rlx := hlx.below q
  have rhx := hhx.below q
  have cy0 := By.cell (i := 0) rfl
  have cy1 := By.cell (i := 1) rfl
  have cy2 := By.cell (i := 2) rfl
  have cy3 := By.cell (i := 3) rfl
  have rly := hly.below q
  have rhy := hhy.below q
  cases h_em : emptyS y with
  | true =>
    have H := Lib.hid (show coversS x y = true from by unfold coversS; simp [h_em])
    clear h_em
    go_wp2_with fail
    go_ret
    exact ⟨by first | (rw [H.out]; done) | (rw [H.out]; rfl), q⟩
  | false =>
    by_cases h_tb : x.table = y.table
    · have datb : (x.table == y.table) = true := beq_iff_eq.2 h_tb
      have dbtb : decide (x.table = y.table) = true := decide_eq_true h_tb
      have dctb : (x.table = y.table) = True := eq_true h_tb
      have ddtb : (x.table != y.table) = false := by rw [bne_eq_false_iff_eq]; exact h_tb
      cases h_ll : ltB y.lo x.lo with
      | true =>
        have fll : (Op.bytesLess (strOf x.lo).toList (strOf y.lo).toList || (strOf x.lo).toList == (strOf y.lo).toList) = false := by rw [str_leS, h_ll]; rfl
        have gll : (!(Op.bytesLess (strOf x.lo).toList (strOf y.lo).toList || (strOf x.lo).toList == (strOf y.lo).toList)) = true := by rw [fll]; rfl
        have H := Lib.hid (show coversS x y = false from by unfold coversS; simp [h_em, h_tb, h_ll])
        clear h_em h_tb h_ll
        go_wp2_with (refine wpList_conv (x := .tmp 16) byP rfl rfl rfl rlx.rd ?_; go_wp2_with (refine wpList_conv (x := .tmp 19) byP rfl rfl rfl rly.rd ?_; go_wp2_with fail))
        go_ret
        exact ⟨by first | (rw [H.out]; done) | (rw [H.out]; rfl), q⟩
      | false =>
        have fll : (Op.bytesLess (strOf x.lo).toList (strOf y.lo).toList || (strOf x.lo).toList == (strOf y.lo).toList) = true := by rw [str_leS, h_ll]; rfl
        have gll : (!(Op.bytesLess (strOf x.lo).toList (strOf y.lo).toList || (strOf x.lo).toList == (strOf y.lo).toList)) = false := by rw [fll]; rfl
        cases h_ox : x.isOpen with
        | true =>
          rw [h_ox] at cx3
          have H := Lib.hid (show coversS x y = true from by unfold coversS; simp [h_em, h_tb, h_ll, h_ox])
          clear h_em h_tb h_ll h_ox
          go_wp2_with (refine wpList_conv (x := .tmp 16) byP rfl rfl rfl rlx.rd ?_; go_wp2_with (refine wpList_conv (x := .tmp 19) byP rfl rfl rfl rly.rd ?_; go_wp2_with fail))
          go_ret
          exact ⟨by first | (rw [H.out]; done) | (rw [H.out]; rfl), q⟩
        | false =>
          rw [h_ox] at cx3
          cases h_oy : y.isOpen with
          | true =>
            rw [h_oy] at cy3
            have H := Lib.hid (show coversS x y = false from by unfold coversS; simp [h_em, h_tb, h_ll, h_ox, h_oy])
            clear h_em h_tb h_ll h_ox h_oy
            go_wp2_with (refine wpList_conv (x := .tmp 16) byP rfl rfl rfl rlx.rd ?_; go_wp2_with (refine wpList_conv (x := .tmp 19) byP rfl rfl rfl rly.rd ?_; go_wp2_with fail))
            go_ret
            exact ⟨by first | (rw [H.out]; done) | (rw [H.out]; rfl), q⟩
          | false =>
            rw [h_oy] at cy3
            cases h_hh : ltB x.hi y.hi with
            | true =>
              have fhh : (Op.bytesLess (strOf y.hi).toList (strOf x.hi).toList || (strOf y.hi).toList == (strOf x.hi).toList) = false := by rw [str_leS, h_hh]; rfl
              have H := Lib.hid (show coversS x y = false from by unfold coversS; simp [h_em, h_tb, h_ll, h_ox, h_oy, h_hh])
              clear h_em h_tb h_ll h_ox h_oy h_hh
              go_wp2_with (refine wpList_conv (x := .tmp 16) byP rfl rfl rfl rlx.rd ?_; go_wp2_with (refine wpList_conv (x := .tmp 19) byP rfl rfl rfl rly.rd ?_; go_wp2_with (refine wpList_conv (x := .tmp 31) byP rfl rfl rfl rhy.rd ?_; go_wp2_with (refine wpList_conv (x := .tmp 34) byP rfl rfl rfl rhx.rd ?_; go_wp2_with fail))))
              go_ret
              exact ⟨by first | (rw [H.out]; done) | (rw [H.out]; rfl), q⟩
            | false =>
              have fhh : (Op.bytesLess (strOf y.hi).toList (strOf x.hi).toList || (strOf y.hi).toList == (strOf x.hi).toList) = true := by rw [str_leS, h_hh]; rfl
              have H := Lib.hid (show coversS x y = true from by unfold coversS; simp [h_em, h_tb, h_ll, h_ox, h_oy, h_hh])
              clear h_em h_tb h_ll h_ox h_oy h_hh
              go_wp2_with (refine wpList_conv (x := .tmp 16) byP rfl rfl rfl rlx.rd ?_; go_wp2_with (refine wpList_conv (x := .tmp 19) byP rfl rfl rfl rly.rd ?_; go_wp2_with (refine wpList_conv (x := .tmp 31) byP rfl rfl rfl rhy.rd ?_; go_wp2_with (refine wpList_conv (x := .tmp 34) byP rfl rfl rfl rhx.rd ?_; go_wp2_with fail))))
              go_ret
              exact ⟨by first | (rw [H.out]; done) | (rw [H.out]; rfl), q⟩
    · have datb : (x.table == y.table) = false := beq_eq_false_iff_ne.2 h_tb
      have dbtb : decide (x.table = y.table) = false := decide_eq_false h_tb
      have dctb : (x.table = y.table) = False := eq_false h_tb
      have ddtb : (x.table != y.table) = true := bne_iff_ne.2 h_tb
      have H := Lib.hid (show coversS x y = false from by unfold coversS; simp [h_em, h_tb])
      clear h_em h_tb
      go_wp2_with fail
      go_ret
      exact ⟨by first | (rw [H.out]; done) | (rw [H.out]; rfl), q⟩
set_option maxRecDepth 100000 in
set_option maxHeartbeats 4000000 in
theorem sBoth_any (w : World) {S : Nat → Prop} {a1 a3 b1 b3 : Option Addr} {a2 a4 b2 b4 g1 g2 : Nat} {x y : Sp} {A : Option Addr} {n C : Nat} {k : List UInt8} (Bx : BoxN w g1 24 [.int .i64 x.table, .slice a1 x.lo.length a2, .slice a3 x.hi.length a4, .bool x.isOpen]) (By : BoxN w g2 24 [.int .i64 y.table, .slice b1 y.lo.length b2, .slice b3 y.hi.length b4, .bool y.isOpen]) (rlx : RdS S w (.slice a1 x.lo.length a2) x.lo) (rhx : RdS S w (.slice a3 x.hi.length a4) x.hi) (htx : W64 x.table) (rly : RdS S w (.slice b1 y.lo.length b2) y.lo) (rhy : RdS S w (.slice b3 y.hi.length b4) y.hi) (hty : W64 y.table) (hk : RdS S w (.slice A n C) k) :
    Calls Try.prog 30 #[.slice A n C, .pointer (some ⟨g1, 0, none⟩), .pointer (some ⟨g2, 0, none⟩)] w fun e w' => e = .returned (.bool (inT x x.table k && inT y x.table k)) ∧ Below w.heap.size w w' := by
  have q := Below.refl w.heap.size w
  go_enter Try.func30, Try.ntmps30
  have cx0 := Bx.cell (i := 0) rfl
  have cx1 := Bx.cell (i := 1) rfl
  have cx2 := Bx.cell (i := 2) rfl
  have cx3 := Bx.cell (i := 3) rfl
  have cy0 := By.cell (i := 0) rfl
  have cy1 := By.cell (i := 1) rfl
  have cy2 := By.cell (i := 2) rfl
  have cy3 := By.cell (i := 3) rfl
  have hcl := sIn_any _ (t := x.table) ⟨_, _, _, _, rfl, rlx, rhx, htx⟩ hk
  go_wp2_with fail
  refine hcl.mono ?_
  rintro e w1 ⟨rfl, hb⟩
  clear hcl cx0 cx1 cx2 cx3 cy0 cy1 cy2 cy3
  replace Bx := Bx.below hb Bx.lt
  replace By := By.below hb By.lt
  replace rlx := rlx.below hb
  replace rhx := rhx.below hb
  replace rly := rly.below hb
  replace rhy := rhy.below hb
  replace q := q.trans (hb.mono q.size)
  clear hb
  cases h_i1 : inT x x.table k with
  | true =>
    have cx0 := Bx.cell (i := 0) rfl
    have cx1 := Bx.cell (i := 1) rfl
    have cx2 := Bx.cell (i := 2) rfl
    have cx3 := Bx.cell (i := 3) rfl
    have cy0 := By.cell (i := 0) rfl
    have cy1 := By.cell (i := 1) rfl
    have cy2 := By.cell (i := 2) rfl
    have cy3 := By.cell (i := 3) rfl
    have hcl := sIn_any _ (t := x.table) ⟨_, _, _, _, rfl, rly, rhy, hty⟩ (hk.below q)
    go_wp2_with fail
    refine hcl.mono ?_
    rintro e w2 ⟨rfl, hb⟩
    clear hcl cx0 cx1 cx2 cx3 cy0 cy1 cy2 cy3
    replace Bx := Bx.below hb Bx.lt
    replace By := By.below hb By.lt
    replace rlx := rlx.below hb
    replace rhx := rhx.below hb
    replace rly := rly.below hb
    replace rhy := rhy.below hb
    replace q := q.trans (hb.mono q.size)
    clear hb
    cases h_i2 : inT y x.table k with
    | true =>
      have H := Lib.hid (show (inT x x.table k && inT y x.table k) = true by rw [h_i1, h_i2] <;> rfl)
      clear h_i1 h_i2
      go_wp2_with fail
      go_ret
      exact ⟨by first | (rw [H.out]; done) | (rw [H.out]; rfl), q⟩
    | false =>
      have H := Lib.hid (show (inT x x.table k && inT y x.table k) = false by rw [h_i1, h_i2] <;> rfl)
      clear h_i1 h_i2
      go_wp2_with fail
      go_ret
      exact ⟨by first | (rw [H.out]; done) | (rw [H.out]; rfl), q⟩
  | false =>
    have H := Lib.hid (show (inT x x.table k && inT y x.table k) = false by rw [h_i1] <;> rfl)
    clear h_i1
    go_wp2_with fail
    go_ret
    exact ⟨by first | (rw [H.out]; done) | (rw [H.out]; rfl), q⟩
set_option maxRecDepth 100000 in
set_option maxHeartbeats 4000000 in
theorem sMeets_any (w : World) {S S2 : Nat → Prop} {u v : Value} {x y : Sp} (hx : RdSp S w u x) (hy : RdSp S2 w v y) :
    Calls Try.prog 20 #[u, v] w fun e w' => e = .returned (.bool (meetsS x y)) ∧ Below w.heap.size w w' := by
  obtain ⟨a1, a2, a3, a4, rfl, hlx, hhx, htx⟩ := hx
  obtain ⟨b1, b2, b3, b4, rfl, hly, hhy, hty⟩ := hy
  obtain ⟨W, hW, q, Bx, By, hsz⟩ := spBoxes2 w 24 24 [.int .i64 x.table, .slice a1 x.lo.length a2, .slice a3 x.hi.length a4, .bool x.isOpen] [.int .i64 y.table, .slice b1 y.lo.length b2, .slice b3 y.hi.length b4, .bool y.isOpen]
  clear hsz
  go_enter Try.func20, Try.ntmps20
  go_upto_region 1 with (fail)
  rw [show (w.alloc (.cells #[.int .i64 x.table, .slice a1 x.lo.length a2, .slice a3 x.hi.length a4, .bool x.isOpen] 24)).alloc (.cells #[.int .i64 y.table, .slice b1 y.lo.length b2, .slice b3 y.hi.length b4, .bool y.isOpen] 24) = W from hW.symm]
  clear hW
  have rlx := hlx.below q
  have rhx := hhx.below q
  have rly := hly.below q
  have rhy := hhy.below q
  clear hlx hhx hly hhy
  have cx0 := Bx.cell (i := 0) rfl
  have cx1 := Bx.cell (i := 1) rfl
  have cx2 := Bx.cell (i := 2) rfl
  have cx3 := Bx.cell (i := 3) rfl
  have cy0 := By.cell (i := 0) rfl
  have cy1 := By.cell (i := 1) rfl
  have cy2 := By.cell (i := 2) rfl
  have cy3 := By.cell (i := 3) rfl
  have hcl := sBoth_any (S := fun _ => True) _ Bx By (rlx.weak (fun _ _ => trivial)) (rhx.weak (fun _ _ => trivial)) htx (rly.weak (fun _ _ => trivial)) (rhy.weak (fun _ _ => trivial)) hty (rlx.weak (fun _ _ => trivial))
  go_wp2_with fail
  refine hcl.mono ?_
  rintro e w1 ⟨rfl, hb⟩
  clear hcl cx0 cx1 cx2 cx3 cy0 cy1 cy2 cy3
  replace Bx := Bx.below hb Bx.lt
  replace By := By.below hb By.lt
  replace rlx := rlx.below hb
  replace rhx := rhx.below hb
  replace rly := rly.below hb
  replace rhy := rhy.below hb
  replace q := q.trans (hb.mono q.size)
  clear hb
  cases h_m1 : (inT x x.table x.lo && inT y x.table x.lo) with
  | true =>
    have H := Lib.hid (show meetsS x y = true by unfold meetsS; rw [h_m1] <;> rfl)
    clear h_m1
    go_wp2_with fail
    go_ret
    exact ⟨by first | (rw [H.out]; done) | (rw [H.out]; rfl), q⟩
  | false =>
    have cx0 := Bx.cell (i := 0) rfl
    have cx1 := Bx.cell (i := 1) rfl
    have cx2 := Bx.cell (i := 2) rfl
    have cx3 := Bx.cell (i := 3) rfl
    have cy0 := By.cell (i := 0) rfl
    have cy1 := By.cell (i := 1) rfl
    have cy2 := By.cell (i := 2) rfl
    have cy3 := By.cell (i := 3) rfl
    have hcl := sBoth_any (S := fun _ => True) _ Bx By (rlx.weak (fun _ _ => trivial)) (rhx.weak (fun _ _ => trivial)) htx (rly.weak (fun _ _ => trivial)) (rhy.weak (fun _ _ => trivial)) hty (rly.weak (fun _ _ => trivial))
    go_wp2_with fail
    refine hcl.mono ?_
    rintro e w2 ⟨rfl, hb⟩
    clear hcl cx0 cx1 cx2 cx3 cy0 cy1 cy2 cy3
    replace Bx := Bx.below hb Bx.lt
    replace By := By.below hb By.lt
    replace rlx := rlx.below hb
    replace rhx := rhx.below hb
    replace rly := rly.below hb
    replace rhy := rhy.below hb
    replace q := q.trans (hb.mono q.size)
    clear hb
    cases h_m2 : (inT x x.table y.lo && inT y x.table y.lo) with
    | true =>
      have H := Lib.hid (show meetsS x y = true by unfold meetsS; rw [h_m1, h_m2] <;> rfl)
      clear h_m1 h_m2
      go_wp2_with fail
      go_ret
      exact ⟨by first | (rw [H.out]; done) | (rw [H.out]; rfl), q⟩
    | false =>
      have H := Lib.hid (show meetsS x y = false by unfold meetsS; rw [h_m1, h_m2] <;> rfl)
      clear h_m1 h_m2
      go_wp2_with fail
      go_ret
      exact ⟨by first | (rw [H.out]; done) | (rw [H.out]; rfl), q⟩
end Go.Proofs.Ytcopdnigfnmnkaa
namespace Go.Proofs.Ytcopdnigfnmnkaa
open Go.RowKit Go.Shelf
def SlnJ (W : World) (b : Nat) (x : Sp) : List Value → World → Prop
  | [], V => Below W.heap.size W V
  | [k], V => Below W.heap.size W V ∧ NewS W V k x.lo
  | [k, v], V => Below W.heap.size W V ∧ NewS W V k x.lo ∧ NewS W V v x.hi
  | [k, v, _], V => W.grownBy V (some b) ∧ (∃ v0, BoxN V b 24 [.int .i64 x.table, k, v0, .bool x.isOpen]) ∧ NewS W V k x.lo ∧ NewS W V v x.hi
  | _, V => W.grownBy V (some b) ∧ ∃ k v, BoxN V b 24 [.int .i64 x.table, k, v, .bool x.isOpen] ∧ NewS W V k x.lo ∧ NewS W V v x.hi
theorem SlnJ.below {W : World} {b : Nat} {x : Sp} : ∀ (l : List Value) (V V' : World), SlnJ W b x l V → Below V.heap.size V V' → SlnJ W b x l V'
  | [], _, _, h, hb => Below.trans h (hb.mono (Below.size h))
  | [_], _, _, ⟨h, h1⟩, hb => ⟨h.trans (hb.mono h.size), h1.below hb⟩
  | [_, _], _, _, ⟨h, h1, h2⟩, hb => ⟨h.trans (hb.mono h.size), h1.below hb, h2.below hb⟩
  | [_, _, _], _, _, ⟨h, ⟨v0, h0⟩, h1, h2⟩, hb => ⟨grown_trans h (grown_below' hb _), ⟨v0, h0.below hb h0.lt⟩, h1.below hb, h2.below hb⟩
  | _ :: _ :: _ :: _ :: _, _, _, ⟨h, k, v, h0, h1, h2⟩, hb => ⟨grown_trans h (grown_below' hb _), k, v, h0.below hb h0.lt, h1.below hb, h2.below hb⟩
set_option maxRecDepth 100000 in
set_option maxHeartbeats 4000000 in
theorem sAlone_any (w : World) {S : Nat → Prop} {v : Value} {x : Sp} (h : RdSp S w v x) (h1 : x.lo.length ≤ 1000000) (h2 : x.hi.length ≤ 1000000) :
    Calls Try.prog 36 #[v] w (SpEnd w x) := by
  obtain ⟨a, c, a2, c2, rfl, hk, hv, ht⟩ := h
  obtain ⟨W, hW, q, bn, bz, hsz⟩ := boxes2 w 24 24 [.int .i64 x.table, .slice a x.lo.length c, .slice a2 x.hi.length c2, .bool x.isOpen] [.int .i64 0, .slice none 0 0, .slice none 0 0, .bool false]
  have eK : ∀ args w, (callFunc 28 args).run Try.prog w = .ok (.enter 28 args) w := enters_of Try.func28 (by kernel_rfl) rfl
  go_enter Try.func36, Try.ntmps36
  go_upto_region 1 with (fail)
  rw [show (w.alloc (.cells #[.int .i64 x.table, .slice a x.lo.length c, .slice a2 x.hi.length c2, .bool x.isOpen] 24)).alloc (.cells #[.int .i64 0, .slice none 0 0, .slice none 0 0, .bool false] 24) = W from hW.symm]
  clear hW
  have hk' := hk.below q
  have hv' := hv.below q
  refine wp_region_lnl (K := fun A B => A.grownBy B (some w.heap.size)) (by kernel_rfl) (by kernel_rfl) [2, 5, 7, 9] (by kernel_rfl) [lEq (.pointer (some ⟨w.heap.size, 0 + 1, none⟩)), lEq (.slice a x.lo.length c), lAny, lEq (.pointer (some ⟨w.heap.size, 0 + 2, none⟩)), lEq (.slice a2 x.hi.length c2), lAny, lEq (.pointer (some ⟨w.heap.size, 0 + 1, none⟩)), lAny, lEq (.pointer (some ⟨w.heap.size, 0 + 2, none⟩)), lAny] (SlnJ W w.heap.size x) SlnJ.below (show Below W.heap.size W W from Below.refl _ _)
    ⟨?o0, ?o1, ?o2, ?o3, ?o4, ?o5, ?o6, ?o7, ?o8, ?o9, trivial⟩ ?fin
  case o0 =>
    refine LnOp.side rfl (by kernel_rfl) (fun A va w' k hF hT hk hJ hb hu hp hd => ?_)
    have e1 : A.eval (.tmp 1) = .pointer (some ⟨w.heap.size, 0, none⟩) := hF 1 rfl
    exact wp_fieldN spS rfl (e1) (by omega) ⟨_, rfl, rfl, Below.refl _ _⟩
  case o1 =>
    refine LnOp.side rfl (by kernel_rfl) (fun A va w' k hF hT hk hJ hb hu hp hd => ?_)
    have e1 : A.eval (.tmp 3) = .pointer (some ⟨w.heap.size, 0 + 1, none⟩) := (hT 3 0 (by simp) rfl).trans (hd ⟨0, .data⟩ (by simp) rfl rfl)
    obtain rfl : k = 0 := by have := hb 0 2 rfl (by kernel_rfl); omega
    have hJ0 : Below W.heap.size W w' := hJ
    exact wp_ld_slice (e := 5) rfl e1 (by kernel_rfl) ((bn.below (hJ0.mono (by omega)) bn.lt).cell (i := 1) rfl) ⟨_, rfl, rfl, Below.refl _ _⟩
  case o2 =>
    refine LnOp.line 0 rfl rfl (fun A va w' hF hT hJ hu hd => ?_)
    have e1 : A.eval (.tmp 4) = .slice a x.lo.length c := (hT 4 1 (by simp) rfl).trans (hd ⟨1, .data⟩ (by simp) rfl rfl)
    have hJ0 : Below W.heap.size W w' := hJ
    have hB : Below w.heap.size w w' := q.trans (hJ0.mono q.size)
    refine wp_callFn rfl eK (by simp only [List.map_toArray, List.map_cons, List.map_nil, e1]) ((clone_any w' (hk.below hB).rd (Nat.le_refl _) h1).mono ?_)
    rintro e w2 ⟨ad, k', c', rfl, hf⟩
    exact ⟨_, rfl, _, rfl, ⟨hJ0.trans (hf.1.mono hJ0.size), NewS.of hJ0 hf⟩, grown_below' hf.1 _⟩
  case o3 =>
    refine LnOp.side rfl (by kernel_rfl) (fun A va w' k hF hT hk hJ hb hu hp hd => ?_)
    have e1 : A.eval (.tmp 1) = .pointer (some ⟨w.heap.size, 0, none⟩) := hF 1 rfl
    exact wp_fieldN spS rfl (e1) (by omega) ⟨_, rfl, rfl, Below.refl _ _⟩
  case o4 =>
    refine LnOp.side rfl (by kernel_rfl) (fun A va w' k hF hT hk hJ hb hu hp hd => ?_)
    have e1 : A.eval (.tmp 6) = .pointer (some ⟨w.heap.size, 0 + 2, none⟩) := (hT 6 3 (by simp) rfl).trans (hd ⟨3, .data⟩ (by simp) rfl rfl)
    have hJ0 : Below W.heap.size W w' := by
      have h5 := hb 1 5 rfl (by kernel_rfl)
      rcases k with _ | _ | k
      · exact hJ
      · exact hJ.1
      · omega
    exact wp_ld_slice (e := 5) rfl e1 (by kernel_rfl) ((bn.below (hJ0.mono (by omega)) bn.lt).cell (i := 2) rfl) ⟨_, rfl, rfl, Below.refl _ _⟩
  case o5 =>
    refine LnOp.line 1 rfl rfl (fun A va w' hF hT hJ hu hd => ?_)
    have e1 : A.eval (.tmp 7) = .slice a2 x.hi.length c2 := (hT 7 4 (by simp) rfl).trans (hd ⟨4, .data⟩ (by simp) rfl rfl)
    obtain ⟨hJ0, hJ1⟩ := hJ
    have hB : Below w.heap.size w w' := q.trans (hJ0.mono q.size)
    refine wp_callFn rfl eK (by simp only [List.map_toArray, List.map_cons, List.map_nil, e1]) ((clone_any w' (hv.below hB).rd (Nat.le_refl _) h2).mono ?_)
    rintro e w2 ⟨ad, k', c', rfl, hf⟩
    exact ⟨_, rfl, _, rfl, ⟨hJ0.trans (hf.1.mono hJ0.size), hJ1.below hf.1, NewS.of hJ0 hf⟩, grown_below' hf.1 _⟩
  case o6 =>
    refine LnOp.side rfl (by kernel_rfl) (fun A va w' k hF hT hk hJ hb hu hp hd => ?_)
    have e1 : A.eval (.tmp 1) = .pointer (some ⟨w.heap.size, 0, none⟩) := hF 1 rfl
    exact wp_fieldN spS rfl (e1) (by omega) ⟨_, rfl, rfl, Below.refl _ _⟩
  case o7 =>
    refine LnOp.line 2 rfl rfl (fun A va w' hF hT hJ hu hd => ?_)
    have e1 : A.eval (.tmp 9) = .pointer (some ⟨w.heap.size, 0 + 1, none⟩) := (hT 9 6 (by simp) rfl).trans (hd ⟨6, .data⟩ (by simp) rfl rfl)
    have x2 : A.eval (.tmp 5) = va 2 := hT 5 2 (by simp) rfl
    obtain ⟨hJ0, ⟨ka, kc, ek, hkr⟩, hv1⟩ := hJ
    refine wp_boxSet (j := 1) rfl (by kernel_rfl) e1 (x2.trans ek) rfl rfl (bn.below hJ0 (by omega)) (by simp) (fun w2 hg hB2 => ?_)
    have hbW : w.heap.size < W.heap.size := by omega
    exact ⟨_, rfl, ⟨grown_trans (grown_below2 hJ0 rfl _) hg, ⟨_, by rw [ek]; exact hB2⟩, NewS.grown ⟨ka, kc, ek, hkr⟩ hg hbW, hv1.grown hg hbW⟩, hg⟩
  case o8 =>
    refine LnOp.side rfl (by kernel_rfl) (fun A va w' k hF hT hk hJ hb hu hp hd => ?_)
    have e1 : A.eval (.tmp 1) = .pointer (some ⟨w.heap.size, 0, none⟩) := hF 1 rfl
    exact wp_fieldN spS rfl (e1) (by omega) ⟨_, rfl, rfl, Below.refl _ _⟩
  case o9 =>
    refine LnOp.line 3 rfl rfl (fun A va w' hF hT hJ hu hd => ?_)
    have e1 : A.eval (.tmp 10) = .pointer (some ⟨w.heap.size, 0 + 2, none⟩) := (hT 10 8 (by simp) rfl).trans (hd ⟨8, .data⟩ (by simp) rfl rfl)
    have x2 : A.eval (.tmp 8) = va 5 := hT 8 5 (by simp) rfl
    obtain ⟨hg0, ⟨v0, hB0⟩, hk1, ⟨va2, vc, ev, hvr⟩⟩ := hJ
    refine wp_boxSet (j := 2) rfl (by kernel_rfl) e1 (x2.trans ev) rfl rfl hB0 (by simp) (fun w2 hg hB2 => ?_)
    have hbW : w.heap.size < W.heap.size := by omega
    exact ⟨_, rfl, ⟨grown_trans hg0 hg, _, _, by rw [ev]; exact hB2, hk1.grown hg hbW, NewS.grown ⟨va2, vc, ev, hvr⟩ hg hbW⟩, hg⟩
  case fin =>
    intro vs1 W9 hJ hG
    obtain ⟨hg9, k9, v9, hb9, ⟨ka, kc, rfl, hk9⟩, ⟨va, vc, rfl, hv9⟩⟩ := hJ
    have q9 : Below w.heap.size w W9 := q.grown hg9 q.size fun k e => by injection e with e; omega
    have bz9 := bz.other hg9 (by simp)
    clear hG
    simp only [putAll]
    go_simp
    have c0 := hb9.cell (i := 0) rfl
    have c1 := hb9.cell (i := 1) rfl
    have c2 := hb9.cell (i := 2) rfl
    have c3 := hb9.cell (i := 3) rfl
    go_wp2_with (first | (refine wpList_boxStore (us := [.int .i64 x.table, .slice ka x.lo.length kc, .slice va x.hi.length vc, .bool x.isOpen]) (by kernel_rfl) rfl rfl rfl rfl rfl rfl bz9 rfl ?_; intro wd hgd hBd) | fail)
    have d0 := hBd.cell (i := 0) rfl
    have d1 := hBd.cell (i := 1) rfl
    have d2 := hBd.cell (i := 2) rfl
    have d3 := hBd.cell (i := 3) rfl
    obtain ⟨fs, hu, _⟩ := spS.hu
    refine bodyPost_ret (v := .agg #[.int .i64 x.table, .slice ka x.lo.length kc, .slice va x.hi.length vc, .bool x.isOpen]) (by simp [results, Try.results36, go_sem, loadVar, isAgg, run_underlying hu, run_sizeOf' spS.hs, loadCellsFrom, Addr.add, d0, d1, d2, d3]) rfl ?_
    have hk0 : ∀ k, W.heap.size ≤ k ∧ k < W9.heap.size → wd.heap[k]? = W9.heap[k]? := fun k hk => hgd.block k hk.2 fun e => by injection e with e; omega
    exact ⟨_, rfl, ⟨ka, kc, va, vc, rfl, (hk9.keep hk0).weak fun k hk => ⟨by omega, Nat.lt_of_lt_of_le hk.2 hgd.size⟩, (hv9.keep hk0).weak fun k hk => ⟨by omega, Nat.lt_of_lt_of_le hk.2 hgd.size⟩, ht⟩, q9.grown hgd q9.size fun k e => by injection e with e; omega⟩
end Go.Proofs.Ytcopdnigfnmnkaa
namespace Go.Proofs.Ytcopdnigfnmnkaa
open Go.RowKit Go.Shelf
theorem take_bothS {α : Type} {l m : List α} {i : Nat} (h1 : i < l.length) (h2 : i < m.length) (h : l.take i = m.take i) (e : l[i] = m[i]) : l.take (i + 1) = m.take (i + 1) := by
  rw [List.take_succ_eq_append_getElem h1, List.take_succ_eq_append_getElem h2, h, e]
set_option maxRecDepth 100000 in
set_option maxHeartbeats 4000000 in
theorem rCopy_any (w : World) {S : Nat → Prop} {a : Option Addr} {n c : Nat} {l : List Sp} (hl : RdL Elt.sp S w (.slice a n c) l) (hs : smL l) : Calls Try.prog 38 #[.slice a n c] w (SlEnd w l) := by
  obtain ⟨rfl, hnc, hcm⟩ := hl.len
  have hlm : l.length ≤ 9223372036854775807 := by unfold maxLen at hcm; omega
  obtain ⟨hs1, hs2⟩ := hs
  replace hl := hl.fit
  have q := Below.refl w.heap.size w
  go_enter Try.func38, Try.ntmps38
  go_upto_region 3 with (fail)
  go_loopw [3, 4] (fun ov iv wr => ∃ (i0 : Nat) (ad : Option Addr) (ko : Nat), iv = .int .i64 i0 ∧ i0 ≤ l.length ∧ ov = .slice ad (l.take i0).length ko ∧ OwnL Elt.sp 24 w.heap.size w.heap.size wr (.slice ad (l.take i0).length ko) (l.take i0) ∧ Below w.heap.size w wr)
    (fun _ i _ => l.length - (intOf i).toNat)
  case atStart => exact ⟨0, none, 0, rfl, Nat.zero_le _, rfl, OwnL.nil _ _ _ _ _, q⟩
  case round =>
    clear q
    obtain ⟨i0, ad, ko, rfl, hkl, rfl, hO, q⟩ := hrel
    rcases Nat.lt_or_ge i0 l.length with hlt | hge
    · obtain ⟨b, off, KA, KC, VA, VC, rfl, hb, c0, c1, c2, c3, hk1, hk2, ht⟩ := (hl.below q).sp i0 hlt
      obtain ⟨hx1, hx2⟩ := hs2 _ (List.getElem_mem hlt)
      have hsn := Lib.hid (show l.take (i0 + 1) = l.take i0 ++ [l[i0]] from List.take_succ_eq_append_getElem hlt)
      obtain ⟨x, ex⟩ : ∃ x, x = l[i0] := ⟨_, rfl⟩
      obtain ⟨xs, exs⟩ : ∃ xs, xs = l.take i0 := ⟨_, rfl⟩
      have hxl : xs.length ≤ 1000000 := by rw [exs, List.length_take]; omega
      rw [← ex] at c0 c1 c2 c3 hk1 hk2 ht hx1 hx2 hsn
      rw [← exs] at hO hsn
      rw [← exs]
      clear ex exs
      go_upto_region 5 with (fail)
      go_simp
      have hrr : ∀ k, Value.ownBlock (.slice ad xs.length ko) = some k → w.heap.size ≤ k ∧ k < wr.heap.size := fun k hk => hO.block_lt k hk
      have hrW : ∀ k, Value.ownBlock (.slice ad xs.length ko) = some k → k < wr.heap.size := fun k hk => (hrr k hk).2
      have hS : ∀ k, (fun _ => False) k → some k ≠ Value.ownBlock (.slice ad xs.length ko) := fun _ h => h.elim
      have hrS : ∀ k, Value.ownBlock (.slice ad xs.length ko) = some k → ¬ (S k ∧ k < w.heap.size) := fun k hk h2 => by have := hrr k hk; omega
      have hbW : b < wr.heap.size := cell_lt c0
      have hbr : some b ≠ Value.ownBlock (.slice ad xs.length ko) := fun e => by have := hrr b e.symm; have := hb.2; omega
      have hlo : w.heap.size ≤ wr.heap.size := q.size
      refine wp_region_lnl (K := fun A B => A.grownBy B (Value.ownBlock (.slice ad xs.length ko))) (by kernel_rfl) (by kernel_rfl) [27, 28] (by kernel_rfl) [lEq (.slice ad xs.length ko), lEq (.slice (some ⟨b, off, none⟩) l.length c), lEq (.int .i64 (i0 : Nat)), lEq (.pointer (some ⟨b, off + i0 * 4, none⟩)), lEq (.pointer (some ⟨b, off + i0 * 4 + 0, none⟩)), lEq (.int .i64 x.table), aZb 5 wr (Value.ownBlock (.slice ad xs.length ko)) hrW, lEq (.slice (some ⟨b, off, none⟩) l.length c), lEq (.int .i64 (i0 : Nat)), lEq (.pointer (some ⟨b, off + i0 * 4, none⟩)), lEq (.pointer (some ⟨b, off + i0 * 4 + 1, none⟩)), lEq (.slice KA x.lo.length KC), aRd (wr) (Value.ownBlock (.slice ad xs.length ko)) (fun _ => False) (x.lo) hrW hS, aZb 5 wr (Value.ownBlock (.slice ad xs.length ko)) hrW, lEq (.slice (some ⟨b, off, none⟩) l.length c), lEq (.int .i64 (i0 : Nat)), lEq (.pointer (some ⟨b, off + i0 * 4, none⟩)), lEq (.pointer (some ⟨b, off + i0 * 4 + 2, none⟩)), lEq (.slice VA x.hi.length VC), aRd (wr) (Value.ownBlock (.slice ad xs.length ko)) (fun _ => False) (x.hi) hrW hS, lEq (.slice (some ⟨b, off, none⟩) l.length c), lEq (.int .i64 (i0 : Nat)), lEq (.pointer (some ⟨b, off + i0 * 4, none⟩)), lEq (.pointer (some ⟨b, off + i0 * 4 + 3, none⟩)), lEq (.bool x.isOpen), aElt Elt.sp (wr) (Value.ownBlock (.slice ad xs.length ko)) (fun _ => False) (x) hrW hS, aRow Elt.sp 24 (wr) (Value.ownBlock (.slice ad xs.length ko)) (fun _ => False) (x) hrW hS, lAny, lAny] (ApJ Elt.sp 24 (w.heap.size) (w.heap.size) (Value.ownBlock (.slice ad xs.length ko)) (wr) (xs) [x]) ApJ.below (show Below (wr).heap.size (wr) (wr) from Below.refl _ _)
        ⟨?o0, ?o1, ?o2, ?o3, ?o4, ?o5, ?o6, ?o7, ?o8, ?o9, ?o10, ?o11, ?o12, ?o13, ?o14, ?o15, ?o16, ?o17, ?o18, ?o19, ?o20, ?o21, ?o22, ?o23, ?o24, ?o25, ?o26, ?o27, ?o28, trivial⟩ ?fin
      case o0 =>
        refine LnOp.side rfl (by kernel_rfl) (fun A va w' k hF hT hk hJ hb hu hp hd => ?_)
        have e1 : A.eval (.tmp 3) = .slice ad xs.length ko := (hT 3 28 (by simp) rfl).trans (hu 1 28 3 (hb 1 28 rfl (by kernel_rfl)) rfl rfl)
        exact BigFrame.wp_move _ rfl ⟨_, rfl, e1, Below.refl _ _⟩
      case o1 =>
        refine LnOp.side rfl (by kernel_rfl) (fun A va w' k hF hT hk hJ hb hu hp hd => ?_)
        have e1 : A.eval (.tmp 0) = .slice (some ⟨b, off, none⟩) l.length c := hF 0 rfl
        exact BigFrame.wp_move _ rfl ⟨_, rfl, e1, Below.refl _ _⟩
      case o2 =>
        refine LnOp.side rfl (by kernel_rfl) (fun A va w' k hF hT hk hJ hb hu hp hd => ?_)
        have e1 : A.eval (.tmp 4) = .int .i64 (i0 : Nat) := hF 4 rfl
        exact BigFrame.wp_move _ rfl ⟨_, rfl, e1, Below.refl _ _⟩
      case o3 =>
        refine LnOp.side rfl (by kernel_rfl) (fun A va w' k hF hT hk hJ hb hu hp hd => ?_)
        have e1 : A.eval (.tmp 12) = .slice (some ⟨b, off, none⟩) l.length c := (hT 12 1 (by simp) rfl).trans (hd ⟨1, .data⟩ (by simp) rfl rfl)
        have e2 : A.eval (.tmp 13) = .int .i64 (i0 : Nat) := (hT 13 2 (by simp) rfl).trans (hd ⟨2, .data⟩ (by simp) rfl rfl)
        exact wp_ixN (e := 24) rfl (by kernel_rfl) (by kernel_rfl) (e1) (e2) rfl (by omega) ⟨_, rfl, rfl, Below.refl _ _⟩
      case o4 =>
        refine LnOp.side rfl (by kernel_rfl) (fun A va w' k hF hT hk hJ hb hu hp hd => ?_)
        have e1 : A.eval (.tmp 14) = .pointer (some ⟨b, off + i0 * 4, none⟩) := (hT 14 3 (by simp) rfl).trans (hd ⟨3, .data⟩ (by simp) rfl rfl)
        exact wp_fieldN spS rfl (e1) (by omega) ⟨_, rfl, rfl, Below.refl _ _⟩
      case o5 =>
        refine LnOp.side rfl (by kernel_rfl) (fun A va w' k hF hT hk hJ hb hu hp hd => ?_)
        have e1 : A.eval (.tmp 15) = .pointer (some ⟨b, off + i0 * 4 + 0, none⟩) := (hT 15 4 (by simp) rfl).trans (hd ⟨4, .data⟩ (by simp) rfl rfl)
        have hJg : (wr).grownBy w' (Value.ownBlock (.slice ad xs.length ko)) := ApJ.grown hJ
        have c9 := (cell_keep (hJg.block b hbW hbr) _).trans c0
        exact wp_ld_int (k := .i64) rfl e1 (by kernel_rfl) c9 ⟨_, rfl, rfl, Below.refl _ _⟩
      case o6 =>
        refine LnOp.side rfl (by kernel_rfl) (fun A va w' k hF hT hk hJ hb hu hp hd => ?_)
        have hJg : (wr).grownBy w' (Value.ownBlock (.slice ad xs.length ko)) := ApJ.grown hJ
        exact wp_buildZ byP rfl (fun w2 hf => ⟨_, rfl, ⟨_, rfl, hf.2.to hJg.size⟩, hf.1⟩)
      case o7 =>
        refine LnOp.side rfl (by kernel_rfl) (fun A va w' k hF hT hk hJ hb hu hp hd => ?_)
        have e1 : A.eval (.tmp 0) = .slice (some ⟨b, off, none⟩) l.length c := hF 0 rfl
        exact BigFrame.wp_move _ rfl ⟨_, rfl, e1, Below.refl _ _⟩
      case o8 =>
        refine LnOp.side rfl (by kernel_rfl) (fun A va w' k hF hT hk hJ hb hu hp hd => ?_)
        have e1 : A.eval (.tmp 4) = .int .i64 (i0 : Nat) := hF 4 rfl
        exact BigFrame.wp_move _ rfl ⟨_, rfl, e1, Below.refl _ _⟩
      case o9 =>
        refine LnOp.side rfl (by kernel_rfl) (fun A va w' k hF hT hk hJ hb hu hp hd => ?_)
        have e1 : A.eval (.tmp 18) = .slice (some ⟨b, off, none⟩) l.length c := (hT 18 7 (by simp) rfl).trans (hd ⟨7, .data⟩ (by simp) rfl rfl)
        have e2 : A.eval (.tmp 19) = .int .i64 (i0 : Nat) := (hT 19 8 (by simp) rfl).trans (hd ⟨8, .data⟩ (by simp) rfl rfl)
        exact wp_ixN (e := 24) rfl (by kernel_rfl) (by kernel_rfl) (e1) (e2) rfl (by omega) ⟨_, rfl, rfl, Below.refl _ _⟩
      case o10 =>
        refine LnOp.side rfl (by kernel_rfl) (fun A va w' k hF hT hk hJ hb hu hp hd => ?_)
        have e1 : A.eval (.tmp 20) = .pointer (some ⟨b, off + i0 * 4, none⟩) := (hT 20 9 (by simp) rfl).trans (hd ⟨9, .data⟩ (by simp) rfl rfl)
        exact wp_fieldN spS rfl (e1) (by omega) ⟨_, rfl, rfl, Below.refl _ _⟩
      case o11 =>
        refine LnOp.side rfl (by kernel_rfl) (fun A va w' k hF hT hk hJ hb hu hp hd => ?_)
        have e1 : A.eval (.tmp 21) = .pointer (some ⟨b, off + i0 * 4 + 1, none⟩) := (hT 21 10 (by simp) rfl).trans (hd ⟨10, .data⟩ (by simp) rfl rfl)
        have hJg : (wr).grownBy w' (Value.ownBlock (.slice ad xs.length ko)) := ApJ.grown hJ
        have c9 := (cell_keep (hJg.block b hbW hbr) _).trans c1
        exact wp_ld_slice (e := 5) rfl e1 (by kernel_rfl) c9 ⟨_, rfl, rfl, Below.refl _ _⟩
      case o12 =>
        refine LnOp.side rfl (by kernel_rfl) (fun A va w' k hF hT hk hJ hb hu hp hd => ?_)
        have x1 : A.eval (.tmp 17) = va 6 := hT 17 6 (by simp) rfl
        have y1 := hd ⟨6, .data⟩ (by simp) rfl rfl
        have e2 : A.eval (.tmp 22) = .slice KA x.lo.length KC := (hT 22 11 (by simp) rfl).trans (hd ⟨11, .data⟩ (by simp) rfl rfl)
        have hJg : (wr).grownBy w' (Value.ownBlock (.slice ad xs.length ko)) := ApJ.grown hJ
        obtain ⟨g0, eg, hO0⟩ : ∃ g, va 6 = .slice (some g) 0 0 ∧ Own 5 wr.heap.size w' (va 6) [] := y1
        refine wp_append_zero byP rfl (x1.trans eg) (by rw [← eg]; exact hO0) e2 (hk1.grownR hJg hrS).rd hJg.size (fun ad7 k7 c7 w2 hO2 hb2 => ?_) (by omega)
        obtain rfl : k7 = x.lo.length := hO2.len
        exact ⟨_, rfl, hO2.rdS.weak (fun k hk => ⟨.inr hk.1, hk.2⟩), hb2⟩
      case o13 =>
        refine LnOp.side rfl (by kernel_rfl) (fun A va w' k hF hT hk hJ hb hu hp hd => ?_)
        have hJg : (wr).grownBy w' (Value.ownBlock (.slice ad xs.length ko)) := ApJ.grown hJ
        exact wp_buildZ byP rfl (fun w2 hf => ⟨_, rfl, ⟨_, rfl, hf.2.to hJg.size⟩, hf.1⟩)
      case o14 =>
        refine LnOp.side rfl (by kernel_rfl) (fun A va w' k hF hT hk hJ hb hu hp hd => ?_)
        have e1 : A.eval (.tmp 0) = .slice (some ⟨b, off, none⟩) l.length c := hF 0 rfl
        exact BigFrame.wp_move _ rfl ⟨_, rfl, e1, Below.refl _ _⟩
      case o15 =>
        refine LnOp.side rfl (by kernel_rfl) (fun A va w' k hF hT hk hJ hb hu hp hd => ?_)
        have e1 : A.eval (.tmp 4) = .int .i64 (i0 : Nat) := hF 4 rfl
        exact BigFrame.wp_move _ rfl ⟨_, rfl, e1, Below.refl _ _⟩
      case o16 =>
        refine LnOp.side rfl (by kernel_rfl) (fun A va w' k hF hT hk hJ hb hu hp hd => ?_)
        have e1 : A.eval (.tmp 25) = .slice (some ⟨b, off, none⟩) l.length c := (hT 25 14 (by simp) rfl).trans (hd ⟨14, .data⟩ (by simp) rfl rfl)
        have e2 : A.eval (.tmp 26) = .int .i64 (i0 : Nat) := (hT 26 15 (by simp) rfl).trans (hd ⟨15, .data⟩ (by simp) rfl rfl)
        exact wp_ixN (e := 24) rfl (by kernel_rfl) (by kernel_rfl) (e1) (e2) rfl (by omega) ⟨_, rfl, rfl, Below.refl _ _⟩
      case o17 =>
        refine LnOp.side rfl (by kernel_rfl) (fun A va w' k hF hT hk hJ hb hu hp hd => ?_)
        have e1 : A.eval (.tmp 27) = .pointer (some ⟨b, off + i0 * 4, none⟩) := (hT 27 16 (by simp) rfl).trans (hd ⟨16, .data⟩ (by simp) rfl rfl)
        exact wp_fieldN spS rfl (e1) (by omega) ⟨_, rfl, rfl, Below.refl _ _⟩
      case o18 =>
        refine LnOp.side rfl (by kernel_rfl) (fun A va w' k hF hT hk hJ hb hu hp hd => ?_)
        have e1 : A.eval (.tmp 28) = .pointer (some ⟨b, off + i0 * 4 + 2, none⟩) := (hT 28 17 (by simp) rfl).trans (hd ⟨17, .data⟩ (by simp) rfl rfl)
        have hJg : (wr).grownBy w' (Value.ownBlock (.slice ad xs.length ko)) := ApJ.grown hJ
        have c9 := (cell_keep (hJg.block b hbW hbr) _).trans c2
        exact wp_ld_slice (e := 5) rfl e1 (by kernel_rfl) c9 ⟨_, rfl, rfl, Below.refl _ _⟩
      case o19 =>
        refine LnOp.side rfl (by kernel_rfl) (fun A va w' k hF hT hk hJ hb hu hp hd => ?_)
        have x1 : A.eval (.tmp 24) = va 13 := hT 24 13 (by simp) rfl
        have y1 := hd ⟨13, .data⟩ (by simp) rfl rfl
        have e2 : A.eval (.tmp 29) = .slice VA x.hi.length VC := (hT 29 18 (by simp) rfl).trans (hd ⟨18, .data⟩ (by simp) rfl rfl)
        have hJg : (wr).grownBy w' (Value.ownBlock (.slice ad xs.length ko)) := ApJ.grown hJ
        obtain ⟨g0, eg, hO0⟩ : ∃ g, va 13 = .slice (some g) 0 0 ∧ Own 5 wr.heap.size w' (va 13) [] := y1
        refine wp_append_zero byP rfl (x1.trans eg) (by rw [← eg]; exact hO0) e2 (hk2.grownR hJg hrS).rd hJg.size (fun ad7 k7 c7 w2 hO2 hb2 => ?_) (by omega)
        obtain rfl : k7 = x.hi.length := hO2.len
        exact ⟨_, rfl, hO2.rdS.weak (fun k hk => ⟨.inr hk.1, hk.2⟩), hb2⟩
      case o20 =>
        refine LnOp.side rfl (by kernel_rfl) (fun A va w' k hF hT hk hJ hb hu hp hd => ?_)
        have e1 : A.eval (.tmp 0) = .slice (some ⟨b, off, none⟩) l.length c := hF 0 rfl
        exact BigFrame.wp_move _ rfl ⟨_, rfl, e1, Below.refl _ _⟩
      case o21 =>
        refine LnOp.side rfl (by kernel_rfl) (fun A va w' k hF hT hk hJ hb hu hp hd => ?_)
        have e1 : A.eval (.tmp 4) = .int .i64 (i0 : Nat) := hF 4 rfl
        exact BigFrame.wp_move _ rfl ⟨_, rfl, e1, Below.refl _ _⟩
      case o22 =>
        refine LnOp.side rfl (by kernel_rfl) (fun A va w' k hF hT hk hJ hb hu hp hd => ?_)
        have e1 : A.eval (.tmp 31) = .slice (some ⟨b, off, none⟩) l.length c := (hT 31 20 (by simp) rfl).trans (hd ⟨20, .data⟩ (by simp) rfl rfl)
        have e2 : A.eval (.tmp 32) = .int .i64 (i0 : Nat) := (hT 32 21 (by simp) rfl).trans (hd ⟨21, .data⟩ (by simp) rfl rfl)
        exact wp_ixN (e := 24) rfl (by kernel_rfl) (by kernel_rfl) (e1) (e2) rfl (by omega) ⟨_, rfl, rfl, Below.refl _ _⟩
      case o23 =>
        refine LnOp.side rfl (by kernel_rfl) (fun A va w' k hF hT hk hJ hb hu hp hd => ?_)
        have e1 : A.eval (.tmp 33) = .pointer (some ⟨b, off + i0 * 4, none⟩) := (hT 33 22 (by simp) rfl).trans (hd ⟨22, .data⟩ (by simp) rfl rfl)
        exact wp_fieldN spS rfl (e1) (by omega) ⟨_, rfl, rfl, Below.refl _ _⟩
      case o24 =>
        refine LnOp.side rfl (by kernel_rfl) (fun A va w' k hF hT hk hJ hb hu hp hd => ?_)
        have e1 : A.eval (.tmp 34) = .pointer (some ⟨b, off + i0 * 4 + 3, none⟩) := (hT 34 23 (by simp) rfl).trans (hd ⟨23, .data⟩ (by simp) rfl rfl)
        have hJg : (wr).grownBy w' (Value.ownBlock (.slice ad xs.length ko)) := ApJ.grown hJ
        have c9 := (cell_keep (hJg.block b hbW hbr) _).trans c3
        exact wp_ld_bool rfl e1 (by kernel_rfl) c9 ⟨_, rfl, rfl, Below.refl _ _⟩
      case o25 =>
        refine LnOp.side rfl (by kernel_rfl) (fun A va w' k hF hT hk hJ hb hu hp hd => ?_)
        have e1 : A.eval (.tmp 16) = .int .i64 x.table := (hT 16 5 (by simp) rfl).trans (hd ⟨5, .data⟩ (by simp) rfl rfl)
        have x2 : A.eval (.tmp 23) = va 12 := hT 23 12 (by simp) rfl
        have y2 := hd ⟨12, .data⟩ (by simp) rfl rfl
        have x3 : A.eval (.tmp 30) = va 19 := hT 30 19 (by simp) rfl
        have y3 := hd ⟨19, .data⟩ (by simp) rfl rfl
        have e4 : A.eval (.tmp 35) = .bool x.isOpen := (hT 35 24 (by simp) rfl).trans (hd ⟨24, .data⟩ (by simp) rfl rfl)
        have z2 : RdS (inNew (fun _ => False) (wr) w') w' (va 12) (x.lo) := y2
        have z3 : RdS (inNew (fun _ => False) (wr) w') w' (va 19) (x.hi) := y3
        obtain ⟨A1, C1, q1, _, _⟩ := z2.shape
        obtain ⟨A2, C2, q2, _, _⟩ := z3.shape
        exact wp_build4 spS rfl e1 (x2.trans q1) (x3.trans q2) e4 rfl rfl rfl rfl ⟨_, rfl, ⟨_, rfl, _, _, rfl, q1 ▸ z2, q2 ▸ z3, ht⟩, Below.refl _ _⟩
      case o26 =>
        refine LnOp.side rfl (by kernel_rfl) (fun A va w' k hF hT hk hJ hb hu hp hd => ?_)
        have x1 : A.eval (.tmp 36) = va 25 := hT 36 25 (by simp) rfl
        have y1 := hd ⟨25, .data⟩ (by simp) rfl rfl
        obtain rfl : k = 0 := by have := hb 0 27 rfl (by kernel_rfl); omega
        have hJ0 : Below (wr).heap.size (wr) w' := hJ
        obtain ⟨us, eus, hR⟩ : ∃ us : List Value, (va 25).cells = us.toArray ∧ Elt.R Elt.sp (inNew (fun _ => False) (wr) w') w' (x) us := y1
        exact wp_buildOne spP rfl x1 eus (Elt.len _ hR) (by decide) (by decide) ⟨_, rfl, aRow.mk (hr := hrW) (hS := hS) hJ0.size hR, (Below.refl _ _).alloc (Nat.le_refl _) _⟩
      case o27 =>
        refine LnOp.line 0 rfl rfl (fun A va w' hF hT hJ hu hd => ?_)
        have e1 : A.eval (.tmp 11) = .slice ad xs.length ko := (hT 11 0 (by simp) rfl).trans (hd ⟨0, .data⟩ (by simp) rfl rfl)
        have x2 : A.eval (.tmp 37) = va 26 := hT 37 26 (by simp) rfl
        have y2 := hd ⟨26, .data⟩ (by simp) rfl rfl
        exact wp_apv (hr := hrW) (hS := hS) spP hJ rfl e1 x2 hO rfl y2 (fun _ h => h.elim) hlo hlo (by omega) (fun v' V' h1 h2 => ⟨_, rfl, h1, h2⟩)
      case o28 =>
        refine LnOp.line 1 rfl rfl (fun A va w' hF hT hJ hu hd => ?_)
        have x1 : A.eval (.tmp 38) = va 27 := hT 38 27 (by simp) rfl
        have hJ' : ApJ Elt.sp 24 (w.heap.size) (w.heap.size) (Value.ownBlock (.slice ad xs.length ko)) (wr) (xs) [x] [va 27, A.eval (.tmp 38)] w' := ⟨fun u hu => by obtain rfl := List.mem_singleton.1 hu; exact x1, hJ.2⟩
        exact BigFrame.wp_assign _ rfl ⟨_, rfl, hJ', grownB (Below.refl _ _) _⟩
      case fin =>
        intro vs1 W9 hJ hG
        obtain ⟨hsame, hg9, ad9, c9, e9, hO9⟩ := hJ
        have ea := hsame _ (List.mem_singleton.2 rfl)
        obtain ⟨L9, hL9⟩ : ∃ L9, L9 = (xs ++ [x]).length := ⟨_, rfl⟩
        rw [← hL9] at e9 hO9
        replace hL9 := Lib.hid hL9
        have g0 : vs1 0 = .slice ad xs.length ko := hG 0 (by decide) rfl
        have g1 : vs1 1 = .slice (some ⟨b, off, none⟩) l.length c := hG 1 (by decide) rfl
        have g2 : vs1 2 = .int .i64 (i0 : Nat) := hG 2 (by decide) rfl
        have g3 : vs1 3 = .pointer (some ⟨b, off + i0 * 4, none⟩) := hG 3 (by decide) rfl
        have g4 : vs1 4 = .pointer (some ⟨b, off + i0 * 4 + 0, none⟩) := hG 4 (by decide) rfl
        have g5 : vs1 5 = .int .i64 x.table := hG 5 (by decide) rfl
        have g7 : vs1 7 = .slice (some ⟨b, off, none⟩) l.length c := hG 7 (by decide) rfl
        have g8 : vs1 8 = .int .i64 (i0 : Nat) := hG 8 (by decide) rfl
        have g9 : vs1 9 = .pointer (some ⟨b, off + i0 * 4, none⟩) := hG 9 (by decide) rfl
        have g10 : vs1 10 = .pointer (some ⟨b, off + i0 * 4 + 1, none⟩) := hG 10 (by decide) rfl
        have g11 : vs1 11 = .slice KA x.lo.length KC := hG 11 (by decide) rfl
        have g14 : vs1 14 = .slice (some ⟨b, off, none⟩) l.length c := hG 14 (by decide) rfl
        have g15 : vs1 15 = .int .i64 (i0 : Nat) := hG 15 (by decide) rfl
        have g16 : vs1 16 = .pointer (some ⟨b, off + i0 * 4, none⟩) := hG 16 (by decide) rfl
        have g17 : vs1 17 = .pointer (some ⟨b, off + i0 * 4 + 2, none⟩) := hG 17 (by decide) rfl
        have g18 : vs1 18 = .slice VA x.hi.length VC := hG 18 (by decide) rfl
        have g20 : vs1 20 = .slice (some ⟨b, off, none⟩) l.length c := hG 20 (by decide) rfl
        have g21 : vs1 21 = .int .i64 (i0 : Nat) := hG 21 (by decide) rfl
        have g22 : vs1 22 = .pointer (some ⟨b, off + i0 * 4, none⟩) := hG 22 (by decide) rfl
        have g23 : vs1 23 = .pointer (some ⟨b, off + i0 * 4 + 3, none⟩) := hG 23 (by decide) rfl
        have g24 : vs1 24 = .bool x.isOpen := hG 24 (by decide) rfl
        clear hG hsame
        simp only [putAll, ea, e9, g0, g1, g2, g3, g4, g5, g7, g8, g9, g10, g11, g14, g15, g16, g17, g18, g20, g21, g22, g23, g24]
        clear ea e9 g0 g1 g2 g3 g4 g5 g7 g8 g9 g10 g11 g14 g15 g16 g17 g18 g20 g21 g22 g23 g24
        go_simp
        have q9 : Below w.heap.size w W9 := q.grown hg9 q.size fun k hk => (hrr k hk).1
        clear hO hk1 hk2 hg9 q
        go_wp2_with fail
        go_roundw
        case rel =>
          have e := hL9.out
          rw [← hsn.out] at e hO9
          subst e
          exact ⟨i0 + 1, ad9, c9, by go_num, by omega, rfl, hO9, q9⟩
        case measure => simp [intOf]; omega
    · obtain rfl : i0 = l.length := by omega
      rw [List.take_length] at hO
      rw [List.take_length]
      go_wp2_with fail
      go_ret
      exact ⟨_, _, rfl, hO, q⟩
set_option maxRecDepth 100000 in
set_option maxHeartbeats 4000000 in
theorem copied_any (w : World) {S : Nat → Prop} {a : Option Addr} {n c : Nat} {l : List Sp} (hl : RdL Elt.sp S w (.slice a n c) l) (hs : smL l) : Calls Try.prog 33 #[.slice a n c] w (SlEnd w l) := by
  obtain ⟨rfl, hnc, hcm⟩ := hl.len
  have hlm : l.length ≤ 9223372036854775807 := by unfold maxLen at hcm; omega
  obtain ⟨hs1, hs2⟩ := hs
  replace hl := hl.fit
  have q := Below.refl w.heap.size w
  go_enter Try.func33, Try.ntmps33
  go_upto_region 3 with (fail)
  go_loopw [3, 8] (fun ov iv wr => ∃ (i0 : Nat) (ad : Option Addr) (ko : Nat), iv = .int .i64 i0 ∧ i0 ≤ l.length ∧ ov = .slice ad (l.take i0).length ko ∧ OwnL Elt.sp 24 w.heap.size w.heap.size wr (.slice ad (l.take i0).length ko) (l.take i0) ∧ Below w.heap.size w wr)
    (fun _ i _ => l.length - (intOf i).toNat)
  case atStart => exact ⟨0, none, 0, rfl, Nat.zero_le _, rfl, OwnL.nil _ _ _ _ _, q⟩
  case round =>
    clear q
    obtain ⟨i0, ad, ko, rfl, hkl, rfl, hO, q⟩ := hrel
    rcases Nat.lt_or_ge i0 l.length with hlt | hge
    · obtain ⟨b, off, KA, KC, VA, VC, rfl, hb, c0, c1, c2, c3, hk1, hk2, ht⟩ := (hl.below q).sp i0 hlt
      obtain ⟨hx1, hx2⟩ := hs2 _ (List.getElem_mem hlt)
      have hsn := Lib.hid (show l.take (i0 + 1) = l.take i0 ++ [l[i0]] from List.take_succ_eq_append_getElem hlt)
      obtain ⟨x, ex⟩ : ∃ x, x = l[i0] := ⟨_, rfl⟩
      obtain ⟨xs, exs⟩ : ∃ xs, xs = l.take i0 := ⟨_, rfl⟩
      have hxl : xs.length ≤ 1000000 := by rw [exs, List.length_take]; omega
      rw [← ex] at c0 c1 c2 c3 hk1 hk2 ht hx1 hx2 hsn
      rw [← exs] at hO hsn
      rw [← exs]
      clear ex exs
      go_upto_region 5 with (first | (refine wpList_boxNew (vs := [.int .i64 0, .slice none 0 0, .slice none 0 0, .bool false]) (by kernel_rfl) rfl rfl ?_; intro wa hba hBa) | (refine wpList_boxStore (us := [.int .i64 x.table, .slice KA x.lo.length KC, .slice VA x.hi.length VC, .bool x.isOpen]) (by kernel_rfl) rfl rfl rfl rfl rfl rfl hBa rfl ?_; intro W hgw hXW) | fail)
      go_simp
      have hbw : Below wr.heap.size wr W := hba.grown hgw hba.size fun k hk => by injection hk with hk; omega
      have qW := q.trans (hbw.mono q.size)
      have hrr : ∀ k, Value.ownBlock (.slice ad xs.length ko) = some k → w.heap.size ≤ k ∧ k < wr.heap.size := fun k hk => hO.block_lt k hk
      have hx : RdSp (fun k => S k ∧ k < w.heap.size) W (.agg #[.int .i64 x.table, .slice KA x.lo.length KC, .slice VA x.hi.length VC, .bool x.isOpen]) x := ⟨_, _, _, _, rfl, hk1.below hbw, hk2.below hbw, ht⟩
      replace hO := hO.below hbw
      have zw := hbw.size
      clear c0 c1 c2 c3 hba hBa hgw hbw q hk1 hk2 hb
      have f0 := hXW.cell (i := 0) rfl
      have f1 := hXW.cell (i := 1) rfl
      have f2 := hXW.cell (i := 2) rfl
      have f3 := hXW.cell (i := 3) rfl
      go_wp2_with fail
      refine (sAlone_any W hx hx1 hx2).mono ?_
      rintro e w3 ⟨v2, rfl, ⟨ka, kc, va, vc, rfl, hk3, hv3, ht3⟩, hb3⟩
      have q3 := qW.trans (hb3.mono qW.size)
      have hO3 := hO.below hb3
      have hR : Elt.sp.R (fun k => W.heap.size ≤ k ∧ k < w3.heap.size) w3 x (spC x (.slice ka x.lo.length kc) (.slice va x.hi.length vc)) := ⟨_, _, rfl, hk3, hv3, ht3⟩
      have z3 := hb3.size
      have zq := qW.size
      clear f0 f1 f2 f3 hx hXW qW hb3 hO
      go_wp2_with (first
        | (refine wpList_buildOne spP rfl rfl rfl (us := spC x (.slice ka x.lo.length kc) (.slice va x.hi.length vc)) rfl rfl (by decide) (by decide) ?_; intro w4 hb4 hrow)
        | (refine wpList_apvRow (E := Elt.sp) (n := xs.length + 1) spP rfl rfl rfl rfl (hO3.below hb4) hrow (Elt.below hR hb4) (fun k hk => ⟨by omega, Nat.lt_of_lt_of_le hk.2 hb4.size, fun e => by have := hrr k e.symm; omega⟩) (by have := hb4.size; omega) (by omega) rfl ?_; intro ad9 c9 w5 hO9 hg5 _)
        | fail)
      have q4 := q3.trans (hb4.mono q3.size)
      have q9 := q4.grown hg5 q4.size fun k hk => (hrr k hk).1
      have hL9 := Lib.hid (show xs.length + 1 = (xs ++ [x]).length by simp)
      clear hO3 hR hk3 hv3 q3 q4 hg5 hrow hb4
      go_roundw
      case rel =>
        have e := hL9.out
        rw [e] at hO9
        rw [← hsn.out] at e hO9
        rw [e]
        exact ⟨i0 + 1, ad9, c9, by go_num, by omega, rfl, hO9, q9⟩
      case measure => simp [intOf]; omega
    · obtain rfl : i0 = l.length := by omega
      rw [List.take_length] at hO
      rw [List.take_length]
      go_wp2_with fail
      go_ret
      exact ⟨_, _, rfl, hO, q⟩
set_option maxRecDepth 100000 in
set_option maxHeartbeats 4000000 in
theorem rMay_any (w : World) {S : Nat → Prop} {a : Option Addr} {n c : Nat} {l : List Sp} (hl : RdL Elt.sp S w (.slice a n c) l) :
    Calls Try.prog 37 #[.slice a n c] w fun e w' => e = .returned (.bool (decide (∀ x ∈ l, mayS x))) ∧ Below w.heap.size w w' := by
  obtain ⟨rfl, hnc, hcm⟩ := hl.len
  have hlm : l.length ≤ 9223372036854775807 := by unfold maxLen at hcm; omega
  have q := Below.refl w.heap.size w
  go_enter Try.func37, Try.ntmps37
  go_upto_region 2 with (fail)
  go_loopw [3] (fun iv wr => ∃ (k : Nat), iv = .int .i64 k ∧ k ≤ l.length ∧ (∀ x ∈ l.take k, mayS x) ∧ Below w.heap.size w wr)
    (fun i _ => l.length - (intOf i).toNat)
  case atStart => exact ⟨0, rfl, Nat.zero_le _, by simp, q⟩
  case round =>
    clear q
    obtain ⟨k, rfl, hkl, hall, q⟩ := hrel
    rcases Nat.lt_or_ge k l.length with hlt | hge
    · obtain ⟨b, off, A, C, A2, C2, rfl, hb, c0, c1, c2, c3, hk1, hk2, hw64⟩ := (hl.below q).sp k hlt
      have hw : RdSp S wr (.agg #[.int .i64 l[k].table, .slice A l[k].lo.length C, .slice A2 l[k].hi.length C2, .bool l[k].isOpen]) l[k] := ⟨A, C, A2, C2, rfl, hk1, hk2, hw64⟩
      go_upto_region 4 with (fail)
      go_wp2_with fail
      refine (rCheck_any wr hw).mono ?_
      rintro e w1 ⟨rfl, hb1⟩
      replace q := q.trans (hb1.mono q.size)
      clear c0 c1 c2 c3 hk1 hk2 hw
      by_cases hm : mayS l[k]
      · have hall2 : ∀ x ∈ l.take (k + 1), mayS x := fun x hx => by
          rw [List.take_succ_eq_append_getElem hlt] at hx
          rcases List.mem_append.1 hx with h | h
          · exact hall x h
          · simp at h; rw [h]; exact hm
        rw [decide_eq_true hm]
        clear hall hm
        go_wp2_with fail
        go_roundw
        case rel => exact ⟨k + 1, by go_num, by omega, hall2, q⟩
        case measure => simp [intOf]; omega
      · rw [decide_eq_false hm]
        have hno := Lib.hid (show decide (∀ x ∈ l, mayS x) = false from decide_eq_false fun h => hm (h _ (List.getElem_mem hlt)))
        clear hall hm
        go_wp2_with fail
        go_ret
        exact ⟨by first | (rw [hno.out]; done) | (rw [hno.out]; rfl), q⟩
    · obtain rfl : k = l.length := by omega
      rw [List.take_length] at hall
      have hno := Lib.hid (show decide (∀ x ∈ l, mayS x) = true from decide_eq_true hall)
      clear hall
      go_wp2_with fail
      go_ret
      exact ⟨by first | (rw [hno.out]; done) | (rw [hno.out]; rfl), q⟩
set_option maxRecDepth 100000 in
set_option maxHeartbeats 4000000 in
theorem rFew_any (w : World) {S : Nat → Prop} {a : Option Addr} {n c : Nat} {l : List Sp} (hl : RdL Elt.sp S w (.slice a n c) l) :
    Calls Try.prog 24 #[.slice a n c] w fun e w' => e = .returned (.bool (decide (fewS l))) ∧ Below w.heap.size w w' := by
  obtain ⟨rfl, hnc, hcm⟩ := hl.len
  have hlm : l.length ≤ 9223372036854775807 := by unfold maxLen at hcm; omega
  have q := Below.refl w.heap.size w
  go_enter Try.func24, Try.ntmps24
  rcases Nat.lt_or_ge 100 l.length with h1 | h1
  · have d1 : decide ((100 : Int) < (l.length : Int)) = true := decide_eq_true (by omega)
    have HK := Lib.hid (show decide (fewS l) = false from decide_eq_false fun h => by have := h.1; omega)
    go_wp2_with fail
    go_ret
    exact ⟨by first | (rw [HK.out]; done) | (rw [HK.out]; rfl), q⟩
  have d1 : decide ((100 : Int) < (l.length : Int)) = false := decide_eq_false (by omega)
  go_upto_region 4 with (fail)
  go_loopw [3] (fun iv wr => ∃ (k : Nat), iv = .int .i64 k ∧ k ≤ l.length ∧ (∀ x ∈ l.take k, x.lo.length ≤ 100 ∧ x.hi.length ≤ 100) ∧ Below w.heap.size w wr)
    (fun i _ => l.length - (intOf i).toNat)
  case atStart => exact ⟨0, rfl, Nat.zero_le _, by simp, q⟩
  case round =>
    clear q
    obtain ⟨k, rfl, hkl, hall, q⟩ := hrel
    rcases Nat.lt_or_ge k l.length with hlt | hge
    · obtain ⟨b, off, A, C, A2, C2, rfl, hb, c0, c1, c2, c3, hk1, hk2, hw64⟩ := (hl.below q).sp k hlt
      have m1 : l[k].lo.length ≤ 9223372036854775807 := by have := hk1.len; unfold maxLen at this; omega
      have m2 : l[k].hi.length ≤ 9223372036854775807 := by have := hk2.len; unfold maxLen at this; omega
      have dk : decide ((k : Int) < (l.length : Int)) = true := decide_eq_true (by omega)
      clear hk1 hk2
      rcases Nat.lt_or_ge 100 l[k].lo.length with h2 | h2
      · have d2 : decide ((100 : Int) < (l[k].lo.length : Int)) = true := decide_eq_true (by omega)
        have HK := Lib.hid (show decide (fewS l) = false from decide_eq_false fun h => by have := (h.2 _ (List.getElem_mem hlt)).1; omega)
        clear hall
        go_wp2_with fail
        go_ret
        exact ⟨by first | (rw [HK.out]; done) | (rw [HK.out]; rfl), q⟩
      have d2 : decide ((100 : Int) < (l[k].lo.length : Int)) = false := decide_eq_false (by omega)
      rcases Nat.lt_or_ge 100 l[k].hi.length with h3 | h3
      · have d3 : decide ((100 : Int) < (l[k].hi.length : Int)) = true := decide_eq_true (by omega)
        have HK := Lib.hid (show decide (fewS l) = false from decide_eq_false fun h => by have := (h.2 _ (List.getElem_mem hlt)).2; omega)
        clear hall
        go_wp2_with fail
        go_ret
        exact ⟨by first | (rw [HK.out]; done) | (rw [HK.out]; rfl), q⟩
      have d3 : decide ((100 : Int) < (l[k].hi.length : Int)) = false := decide_eq_false (by omega)
      have hall2 := Lib.hid (show ∀ x ∈ l.take (k + 1), x.lo.length ≤ 100 ∧ x.hi.length ≤ 100 from fun x hx => by
        rw [List.take_succ_eq_append_getElem hlt] at hx
        rcases List.mem_append.1 hx with h | h
        · exact hall x h
        · simp at h; rw [h]; exact ⟨h2, h3⟩)
      clear hall
      go_wp2_with fail
      go_roundw
      case rel => exact ⟨k + 1, by go_num, by omega, hall2.out, q⟩
      case measure => simp [intOf]; omega
    · obtain rfl : k = l.length := by omega
      rw [List.take_length] at hall
      have dk : decide ((l.length : Int) < (l.length : Int)) = false := decide_eq_false (by omega)
      have HK := Lib.hid (show decide (fewS l) = true from decide_eq_true ⟨h1, hall⟩)
      clear hall
      go_wp2_with fail
      go_ret
      exact ⟨by first | (rw [HK.out]; done) | (rw [HK.out]; rfl), q⟩
set_option maxRecDepth 100000 in
set_option maxHeartbeats 4000000 in
theorem rSame_any (w : World) {S S2 : Nat → Prop} {a a2 : Option Addr} {n cx n2 cy : Nat} {l m : List Sp} (hl : RdL Elt.sp S w (.slice a n cx) l) (hm : RdL Elt.sp S2 w (.slice a2 n2 cy) m) :
    Calls Try.prog 27 #[.slice a n cx, .slice a2 n2 cy] w fun e w' => e = .returned (.bool (decide (l = m))) ∧ Below w.heap.size w w' := by
  obtain ⟨rfl, hnc, hcm⟩ := hl.len
  have hlm : l.length ≤ 9223372036854775807 := by unfold maxLen at hcm; omega
  obtain ⟨rfl, hnc2, hcm2⟩ := hm.len
  have hmm : m.length ≤ 9223372036854775807 := by unfold maxLen at hcm2; omega
  have q := Below.refl w.heap.size w
  have eO : ∀ args w, (callFunc 10 args).run Try.prog w = .ok (.enter 10 args) w := enters_of Try.func10 (by kernel_rfl) rfl
  go_enter Try.func27, Try.ntmps27
  by_cases hlen : l.length = m.length
  case neg =>
    have d1 : ((l.length : Int) == (m.length : Int)) = false := beq_eq_false_iff_ne.2 (by omega)
    have d2 : (l.length == m.length) = false := beq_eq_false_iff_ne.2 hlen
    have d3 : ((l.length : Int) != (m.length : Int)) = true := bne_iff_ne.2 (by omega)
    have HK := Lib.hid (show decide (l = m) = false from decide_eq_false fun h => hlen (by rw [h]))
    clear hlen
    go_wp2_with fail
    go_ret
    exact ⟨by first | (rw [HK.out]; done) | (rw [HK.out]; rfl), q⟩
  have d1 : ((l.length : Int) == (m.length : Int)) = true := beq_iff_eq.2 (by omega)
  have d2 : (l.length == m.length) = true := beq_iff_eq.2 hlen
  have d3 : ((l.length : Int) != (m.length : Int)) = false := by rw [bne, d1]; rfl
  replace hlen := Lib.hid hlen
  go_upto_region 4 with (fail)
  clear d1 d2 d3
  go_loopw [5] (fun iv wr => ∃ (k : Nat), iv = .int .i64 k ∧ k ≤ l.length ∧ l.take k = m.take k ∧ Below w.heap.size w wr)
    (fun i _ => l.length - (intOf i).toNat)
  case atStart => exact ⟨0, rfl, Nat.zero_le _, by simp, q⟩
  case round =>
    clear q
    obtain ⟨k, rfl, hkl, hall, q⟩ := hrel
    replace hall := Lib.hid hall
    rcases Nat.lt_or_ge k l.length with hlt | hge
    · have hltm : k < m.length := by have := hlen.out; omega
      have dk : decide ((k : Int) < (l.length : Int)) = true := decide_eq_true (by omega)
      obtain ⟨b1, o1, A1, A2, A3, A4, rfl, _, c0, c1, c2, c3, hk1, hk2, hw64⟩ := (hl.below q).sp k hlt
      obtain ⟨b2, o2, B1, B2, B3, B4, rfl, _, d0, d1, d2, d3, hk3, hk4, hw65⟩ := (hm.below q).sp k hltm
      have hx : RdSp S wr (.agg #[.int .i64 l[k].table, .slice A1 l[k].lo.length A2, .slice A3 l[k].hi.length A4, .bool l[k].isOpen]) l[k] := ⟨_, _, _, _, rfl, hk1, hk2, hw64⟩
      have hy : RdSp S2 wr (.agg #[.int .i64 m[k].table, .slice B1 m[k].lo.length B2, .slice B3 m[k].hi.length B4, .bool m[k].isOpen]) m[k] := ⟨_, _, _, _, rfl, hk3, hk4, hw65⟩
      clear hk1 hk2 hk3 hk4
      go_upto_region 6 with (fail)
      refine wp_region_gsg (by kernel_rfl) (by kernel_rfl) [sgEq (.slice (some ⟨b1, o1, none⟩) l.length cx), sgEq (.int .i64 (k : Nat)), sgEq (.pointer (some ⟨b1, o1 + k * 4, none⟩)), sgEq (.agg #[.int .i64 l[k].table, .slice A1 l[k].lo.length A2, .slice A3 l[k].hi.length A4, .bool l[k].isOpen]), sgEq (.slice (some ⟨b2, o2, none⟩) m.length cy), sgEq (.int .i64 (k : Nat)), sgEq (.pointer (some ⟨b2, o2 + k * 4, none⟩)), sgEq (.agg #[.int .i64 m[k].table, .slice B1 m[k].lo.length B2, .slice B3 m[k].hi.length B4, .bool m[k].isOpen]), sgEq (.bool (decide (l[k] = m[k]))), sgEq (.bool (decide (l[k] = m[k])))]
        ⟨?o0, ?o1, ?o2, ?o3, ?o4, ?o5, ?o6, ?o7, ?o8, ?o9, trivial⟩ ?fin
      case o0 =>
        refine GdOp.plain rfl (fun A vs w' hF hT hb hd => ?_)
        have e1 : A.eval (.tmp 0) = .slice (some ⟨b1, o1, none⟩) l.length cx := hF 0 rfl
        exact BigFrame.wp_move _ rfl ⟨_, rfl, e1, Below.refl _ _⟩
      case o1 =>
        refine GdOp.plain rfl (fun A vs w' hF hT hb hd => ?_)
        have e1 : A.eval (.tmp 5) = .int .i64 (k : Nat) := hF 5 rfl
        exact BigFrame.wp_move _ rfl ⟨_, rfl, e1, Below.refl _ _⟩
      case o2 =>
        refine GdOp.plain rfl (fun A vs w' hF hT hb hd => ?_)
        have e1 : A.eval (.tmp 18) = .slice (some ⟨b1, o1, none⟩) l.length cx := (hT 18 0 (by simp) rfl).trans (hd ⟨0, .data⟩ (by simp) rfl)
        have e2 : A.eval (.tmp 19) = .int .i64 (k : Nat) := (hT 19 1 (by simp) rfl).trans (hd ⟨1, .data⟩ (by simp) rfl)
        exact wp_ixN (e := 24) rfl (by kernel_rfl) (by kernel_rfl) (e1) (e2) rfl (by omega) ⟨_, rfl, rfl, Below.refl _ _⟩
      case o3 =>
        refine GdOp.plain rfl (fun A vs w' hF hT hb hd => ?_)
        have e1 : A.eval (.tmp 20) = .pointer (some ⟨b1, o1 + k * 4, none⟩) := (hT 20 2 (by simp) rfl).trans (hd ⟨2, .data⟩ (by simp) rfl)
        exact wp_load4 spS rfl e1 ((hb.cell (p := ⟨_, _, none⟩) (cell_lt c0)).trans c0) ((hb.cell (p := ⟨_, _, none⟩) (cell_lt c1)).trans c1) ((hb.cell (p := ⟨_, _, none⟩) (cell_lt c2)).trans c2) ((hb.cell (p := ⟨_, _, none⟩) (cell_lt c3)).trans c3) ⟨_, rfl, rfl, Below.refl _ _⟩
      case o4 =>
        refine GdOp.plain rfl (fun A vs w' hF hT hb hd => ?_)
        have e1 : A.eval (.tmp 1) = .slice (some ⟨b2, o2, none⟩) m.length cy := hF 1 rfl
        exact BigFrame.wp_move _ rfl ⟨_, rfl, e1, Below.refl _ _⟩
      case o5 =>
        refine GdOp.plain rfl (fun A vs w' hF hT hb hd => ?_)
        have e1 : A.eval (.tmp 5) = .int .i64 (k : Nat) := hF 5 rfl
        exact BigFrame.wp_move _ rfl ⟨_, rfl, e1, Below.refl _ _⟩
      case o6 =>
        refine GdOp.plain rfl (fun A vs w' hF hT hb hd => ?_)
        have e1 : A.eval (.tmp 22) = .slice (some ⟨b2, o2, none⟩) m.length cy := (hT 22 4 (by simp) rfl).trans (hd ⟨4, .data⟩ (by simp) rfl)
        have e2 : A.eval (.tmp 23) = .int .i64 (k : Nat) := (hT 23 5 (by simp) rfl).trans (hd ⟨5, .data⟩ (by simp) rfl)
        exact wp_ixN (e := 24) rfl (by kernel_rfl) (by kernel_rfl) (e1) (e2) rfl (by omega) ⟨_, rfl, rfl, Below.refl _ _⟩
      case o7 =>
        refine GdOp.plain rfl (fun A vs w' hF hT hb hd => ?_)
        have e1 : A.eval (.tmp 24) = .pointer (some ⟨b2, o2 + k * 4, none⟩) := (hT 24 6 (by simp) rfl).trans (hd ⟨6, .data⟩ (by simp) rfl)
        exact wp_load4 spS rfl e1 ((hb.cell (p := ⟨_, _, none⟩) (cell_lt d0)).trans d0) ((hb.cell (p := ⟨_, _, none⟩) (cell_lt d1)).trans d1) ((hb.cell (p := ⟨_, _, none⟩) (cell_lt d2)).trans d2) ((hb.cell (p := ⟨_, _, none⟩) (cell_lt d3)).trans d3) ⟨_, rfl, rfl, Below.refl _ _⟩
      case o8 =>
        refine GdOp.plain rfl (fun A vs w' hF hT hb hd => ?_)
        have e1 : A.eval (.tmp 21) = .agg #[.int .i64 l[k].table, .slice A1 l[k].lo.length A2, .slice A3 l[k].hi.length A4, .bool l[k].isOpen] := (hT 21 3 (by simp) rfl).trans (hd ⟨3, .data⟩ (by simp) rfl)
        have e2 : A.eval (.tmp 25) = .agg #[.int .i64 m[k].table, .slice B1 m[k].lo.length B2, .slice B3 m[k].hi.length B4, .bool m[k].isOpen] := (hT 25 7 (by simp) rfl).trans (hd ⟨7, .data⟩ (by simp) rfl)
        refine wp_callFn rfl eO (args := #[.agg #[.int .i64 l[k].table, .slice A1 l[k].lo.length A2, .slice A3 l[k].hi.length A4, .bool l[k].isOpen], .agg #[.int .i64 m[k].table, .slice B1 m[k].lo.length B2, .slice B3 m[k].hi.length B4, .bool m[k].isOpen]]) (by simp only [List.map_toArray, List.map_cons, List.map_nil, e1, e2]) ((rOne_any w' (hx.below hb) (hy.below hb)).mono ?_)
        rintro e w2 ⟨rfl, hb2⟩
        exact ⟨_, rfl, _, rfl, rfl, hb2⟩
      case o9 =>
        refine GdOp.plain rfl (fun A vs w' hF hT hb hd => ?_)
        have e1 : A.eval (.tmp 26) = .bool (decide (l[k] = m[k])) := (hT 26 8 (by simp) rfl).trans (hd ⟨8, .data⟩ (by simp) rfl)
        exact BigFrame.wp_assign _ rfl ⟨_, rfl, e1, Below.refl _ _⟩
      case fin =>
      intro vs9 W9 hb9 hG9
      have e0 : vs9 0 = .slice (some ⟨b1, o1, none⟩) l.length cx := hG9 0 (by decide)
      have e1 : vs9 1 = .int .i64 (k : Nat) := hG9 1 (by decide)
      have e2 : vs9 2 = .pointer (some ⟨b1, o1 + k * 4, none⟩) := hG9 2 (by decide)
      have e3 : vs9 3 = .agg #[.int .i64 l[k].table, .slice A1 l[k].lo.length A2, .slice A3 l[k].hi.length A4, .bool l[k].isOpen] := hG9 3 (by decide)
      have e4 : vs9 4 = .slice (some ⟨b2, o2, none⟩) m.length cy := hG9 4 (by decide)
      have e5 : vs9 5 = .int .i64 (k : Nat) := hG9 5 (by decide)
      have e6 : vs9 6 = .pointer (some ⟨b2, o2 + k * 4, none⟩) := hG9 6 (by decide)
      have e7 : vs9 7 = .agg #[.int .i64 m[k].table, .slice B1 m[k].lo.length B2, .slice B3 m[k].hi.length B4, .bool m[k].isOpen] := hG9 7 (by decide)
      have e8 : vs9 8 = .bool (decide (l[k] = m[k])) := hG9 8 (by decide)
      have e9 : vs9 9 = .bool (decide (l[k] = m[k])) := hG9 9 (by decide)
      simp only [putAll, e0, e1, e2, e3, e4, e5, e6, e7, e8, e9]
      clear hG9 e0 e1 e2 e3 e4 e5 e6 e7 e8 e9
      replace q := q.trans (hb9.mono q.size)
      clear hb9 hx hy c0 c1 c2 c3 d0 d1 d2 d3
      go_simp
      by_cases he : l[k] = m[k]
      · rw [decide_eq_true he]
        have hall2 := Lib.hid (take_bothS hlt hltm hall.out he)
        clear he hall
        go_wp2_with fail
        go_roundw
        case rel => exact ⟨k + 1, by go_num, by omega, hall2.out, q⟩
        case measure => simp [intOf]; omega
      · rw [decide_eq_false he]
        have HK := Lib.hid (show decide (l = m) = false from decide_eq_false fun h => he (by subst h; rfl))
        clear he hall
        go_wp2_with fail
        go_ret
        exact ⟨by first | (rw [HK.out]; done) | (rw [HK.out]; rfl), q⟩
    · obtain rfl : k = l.length := by omega
      have dk : decide ((l.length : Int) < (l.length : Int)) = false := decide_eq_false (by omega)
      have HK := Lib.hid (show decide (l = m) = true from decide_eq_true (by have h := hall.out; rw [List.take_length] at h; rw [hlen.out, List.take_length] at h; exact h))
      clear hall
      go_wp2_with fail
      go_ret
      exact ⟨by first | (rw [HK.out]; done) | (rw [HK.out]; rfl), q⟩
end Go.Proofs.Ytcopdnigfnmnkaa
