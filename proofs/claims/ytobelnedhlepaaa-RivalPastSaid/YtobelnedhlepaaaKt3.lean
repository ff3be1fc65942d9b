/-
  TEXTS OF ONE PROOF, merged: SpA, RpC, Bri, Setr, Bxe, Zro, OctB, DltD, DltU.
-/
import Derived.OrdersIn
import Derived.RangeFuncCalls
import Derived.TacticsIn
import Derived.Test.YtobelnedhlepaaaKt2
namespace Go.Proofs.Ytobelnedhlepaaa
open Go.RowKit Go.Shelf
theorem str_ltS {a b : List UInt8} : Op.bytesLess (strOf a).toList (strOf b).toList = ltB a b := by
  rw [show (strOf a).toList = a by simp [strOf], show (strOf b).toList = b by simp [strOf]]; rfl
theorem str_eqS {a b : List UInt8} : ((strOf a).toList == (strOf b).toList) = decide (a = b) := by
  rw [show (strOf a).toList = a by simp [strOf], show (strOf b).toList = b by simp [strOf]]
  by_cases h : a = b <;> simp [h]
theorem sp_ext {x y : Sp} (h1 : x.table = y.table) (h2 : x.lo = y.lo) (h3 : x.hi = y.hi) (h4 : x.isOpen = y.isOpen) : x = y := by
  cases x; cases y
  simp only at h1 h2 h3 h4
  subst h1 h2 h3 h4
  rfl
set_option maxRecDepth 100000 in
set_option maxHeartbeats 4000000 in
theorem sIn_any (w : World) {S S2 : Nat → Prop} {v : Value} {x : Sp} {t : Int} {A : Option Addr} {n C : Nat} {k : List UInt8} (hx : RdSp S w v x) (hk : RdS S2 w (.slice A n C) k) :
    Calls Try.prog 45 #[v, .int .i64 t, .slice A n C] w fun e w' => e = .returned (.bool (inT x t k)) ∧ Below w.heap.size w w' := by
  obtain ⟨a1, a2, a3, a4, rfl, hlx, hhx, htx⟩ := hx
  have m1x : x.lo.length ≤ 9223372036854775807 := by have := hlx.len; unfold maxLen at this; omega
  have m2x : x.hi.length ≤ 9223372036854775807 := by have := hhx.len; unfold maxLen at this; omega
  obtain ⟨W, hW, q, Bx, hsz⟩ := spBox w 57 [.int .i64 x.table, .slice a1 x.lo.length a2, .slice a3 x.hi.length a4, .bool x.isOpen]
  clear hsz
  go_enter Try.func45, Try.ntmps45
  go_upto_region 1 with (fail)
  rw [show w.alloc (.cells #[.int .i64 x.table, .slice a1 x.lo.length a2, .slice a3 x.hi.length a4, .bool x.isOpen] 57) = W from hW.symm]
  clear hW
  have cx0 := Bx.cell (i := 0) rfl
  have cx1 := Bx.cell (i := 1) rfl
  have cx2 := Bx.cell (i := 2) rfl
  have cx3 := Bx.cell (i := 3) rfl
  have rlx := hlx.below q
  have rhx := hhx.below q
  have rk := hk.below q
  by_cases h_tb : x.table = t
  · have datb : (x.table == t) = true := beq_iff_eq.2 h_tb
    have dbtb : decide (x.table = t) = true := decide_eq_true h_tb
    have dctb : (x.table = t) = True := eq_true h_tb
    have ddtb : (x.table != t) = false := by rw [bne_eq_false_iff_eq]; exact h_tb
    cases h_kl : ltB k x.lo with
    | true =>
      have dkl : decide (0 ≤ Lib.compareBytes k x.lo) = false := by rw [cmp_ge, h_kl]; rfl
      have H := Lib.hid (show inT x t k = false from by unfold inT inS; simp [h_tb, h_kl])
      clear h_tb h_kl
      go_wp2_with fail
      refine (compare_any _ rk rlx).mono ?_
      rintro e _ ⟨rfl, rfl⟩
      go_wp2_with fail
      go_ret
      exact ⟨by first | (rw [H.out]; done) | (rw [H.out]; rfl), q⟩
    | false =>
      have dkl : decide (0 ≤ Lib.compareBytes k x.lo) = true := by rw [cmp_ge, h_kl]; rfl
      cases h_op : x.isOpen with
      | true =>
        rw [h_op] at cx3
        have H := Lib.hid (show inT x t k = true from by unfold inT inS; simp [h_tb, h_kl, h_op])
        clear h_tb h_kl h_op
        go_wp2_with fail
        refine (compare_any _ rk rlx).mono ?_
        rintro e _ ⟨rfl, rfl⟩
        go_wp2_with fail
        go_ret
        exact ⟨by first | (rw [H.out]; done) | (rw [H.out]; rfl), q⟩
      | false =>
        rw [h_op] at cx3
        cases h_kh : ltB k x.hi with
        | true =>
          have dkh : decide (Lib.compareBytes k x.hi < 0) = true := (cmp_lt _ _).trans h_kh
          have H := Lib.hid (show inT x t k = true from by unfold inT inS; simp [h_tb, h_kl, h_op, h_kh])
          clear h_tb h_kl h_op h_kh
          go_wp2_with fail
          refine (compare_any _ rk rlx).mono ?_
          rintro e _ ⟨rfl, rfl⟩
          go_wp2_with fail
          refine (compare_any _ rk rhx).mono ?_
          rintro e _ ⟨rfl, rfl⟩
          go_wp2_with fail
          go_ret
          exact ⟨by first | (rw [H.out]; done) | (rw [H.out]; rfl), q⟩
        | false =>
          have dkh : decide (Lib.compareBytes k x.hi < 0) = false := (cmp_lt _ _).trans h_kh
          have H := Lib.hid (show inT x t k = false from by unfold inT inS; simp [h_tb, h_kl, h_op, h_kh])
          clear h_tb h_kl h_op h_kh
          go_wp2_with fail
          refine (compare_any _ rk rlx).mono ?_
          rintro e _ ⟨rfl, rfl⟩
          go_wp2_with fail
          refine (compare_any _ rk rhx).mono ?_
          rintro e _ ⟨rfl, rfl⟩
          go_wp2_with fail
          go_ret
          exact ⟨by first | (rw [H.out]; done) | (rw [H.out]; rfl), q⟩
  · have datb : (x.table == t) = false := beq_eq_false_iff_ne.2 h_tb
    have dbtb : decide (x.table = t) = false := decide_eq_false h_tb
    have dctb : (x.table = t) = False := eq_false h_tb
    have ddtb : (x.table != t) = true := bne_iff_ne.2 h_tb
    have H := Lib.hid (show inT x t k = false from by unfold inT inS; simp [h_tb])
    clear h_tb
    go_wp2_with fail
    go_ret
    exact ⟨by first | (rw [H.out]; done) | (rw [H.out]; rfl), q⟩
set_option maxRecDepth 100000 in
set_option maxHeartbeats 4000000 in
theorem rIn_any (w : World) {S S2 : Nat → Prop} {v : Value} {x : Sp} {t : Int} {A : Option Addr} {n C : Nat} {k : List UInt8} (hx : RdSp S w v x) (hk : RdS S2 w (.slice A n C) k) :
    Calls Try.prog 36 #[v, .int .i64 t, .slice A n C] w fun e w' => e = .returned (.bool (inT x t k)) ∧ Below w.heap.size w w' := by
  obtain ⟨a1, a2, a3, a4, rfl, hlx, hhx, htx⟩ := hx
  have m1x : x.lo.length ≤ 9223372036854775807 := by have := hlx.len; unfold maxLen at this; omega
  have m2x : x.hi.length ≤ 9223372036854775807 := by have := hhx.len; unfold maxLen at this; omega
  obtain ⟨W, hW, q, Bx, hsz⟩ := spBox w 57 [.int .i64 x.table, .slice a1 x.lo.length a2, .slice a3 x.hi.length a4, .bool x.isOpen]
  clear hsz
  go_enter Try.func36, Try.ntmps36
  go_upto_region 1 with (fail)
  rw [show w.alloc (.cells #[.int .i64 x.table, .slice a1 x.lo.length a2, .slice a3 x.hi.length a4, .bool x.isOpen] 57) = W from hW.symm]
  clear hW
  have cx0 := Bx.cell (i := 0) rfl
  have cx1 := Bx.cell (i := 1) rfl
  have cx2 := Bx.cell (i := 2) rfl
  have cx3 := Bx.cell (i := 3) rfl
  have rlx := hlx.below q
  have rhx := hhx.below q
  have rk := hk.below q
  by_cases h_tb : x.table = t
  · have datb : (x.table == t) = true := beq_iff_eq.2 h_tb
    have dbtb : decide (x.table = t) = true := decide_eq_true h_tb
    have dctb : (x.table = t) = True := eq_true h_tb
    have ddtb : (x.table != t) = false := by rw [bne_eq_false_iff_eq]; exact h_tb
    cases h_kl : ltB k x.lo with
    | true =>
      have dkl : Op.bytesLess (strOf k).toList (strOf x.lo).toList = true := str_ltS.trans h_kl
      have ekl : (!Op.bytesLess (strOf k).toList (strOf x.lo).toList) = false := by rw [dkl]; rfl
      have H := Lib.hid (show inT x t k = false from by unfold inT inS; simp [h_tb, h_kl])
      clear h_tb h_kl
      go_wp2_with (refine wpList_conv (x := .tmp 12) byP rfl rfl rfl rk.rd ?_; go_wp2_with (refine wpList_conv (x := .tmp 15) byP rfl rfl rfl rlx.rd ?_; go_wp2_with fail))
      go_ret
      exact ⟨by first | (rw [H.out]; done) | (rw [H.out]; rfl), q⟩
    | false =>
      have dkl : Op.bytesLess (strOf k).toList (strOf x.lo).toList = false := str_ltS.trans h_kl
      have ekl : (!Op.bytesLess (strOf k).toList (strOf x.lo).toList) = true := by rw [dkl]; rfl
      cases h_op : x.isOpen with
      | true =>
        rw [h_op] at cx3
        have H := Lib.hid (show inT x t k = true from by unfold inT inS; simp [h_tb, h_kl, h_op])
        clear h_tb h_kl h_op
        go_wp2_with (refine wpList_conv (x := .tmp 12) byP rfl rfl rfl rk.rd ?_; go_wp2_with (refine wpList_conv (x := .tmp 15) byP rfl rfl rfl rlx.rd ?_; go_wp2_with fail))
        go_ret
        exact ⟨by first | (rw [H.out]; done) | (rw [H.out]; rfl), q⟩
      | false =>
        rw [h_op] at cx3
        cases h_kh : ltB k x.hi with
        | true =>
          have dkh : Op.bytesLess (strOf k).toList (strOf x.hi).toList = true := str_ltS.trans h_kh
          have H := Lib.hid (show inT x t k = true from by unfold inT inS; simp [h_tb, h_kl, h_op, h_kh])
          clear h_tb h_kl h_op h_kh
          go_wp2_with (refine wpList_conv (x := .tmp 12) byP rfl rfl rfl rk.rd ?_; go_wp2_with (refine wpList_conv (x := .tmp 15) byP rfl rfl rfl rlx.rd ?_; go_wp2_with (refine wpList_conv (x := .tmp 23) byP rfl rfl rfl rk.rd ?_; go_wp2_with (refine wpList_conv (x := .tmp 26) byP rfl rfl rfl rhx.rd ?_; go_wp2_with fail))))
          go_ret
          exact ⟨by first | (rw [H.out]; done) | (rw [H.out]; rfl), q⟩
        | false =>
          have dkh : Op.bytesLess (strOf k).toList (strOf x.hi).toList = false := str_ltS.trans h_kh
          have H := Lib.hid (show inT x t k = false from by unfold inT inS; simp [h_tb, h_kl, h_op, h_kh])
          clear h_tb h_kl h_op h_kh
          go_wp2_with (refine wpList_conv (x := .tmp 12) byP rfl rfl rfl rk.rd ?_; go_wp2_with (refine wpList_conv (x := .tmp 15) byP rfl rfl rfl rlx.rd ?_; go_wp2_with (refine wpList_conv (x := .tmp 23) byP rfl rfl rfl rk.rd ?_; go_wp2_with (refine wpList_conv (x := .tmp 26) byP rfl rfl rfl rhx.rd ?_; go_wp2_with fail))))
          go_ret
          exact ⟨by first | (rw [H.out]; done) | (rw [H.out]; rfl), q⟩
  · have datb : (x.table == t) = false := beq_eq_false_iff_ne.2 h_tb
    have dbtb : decide (x.table = t) = false := decide_eq_false h_tb
    have dctb : (x.table = t) = False := eq_false h_tb
    have ddtb : (x.table != t) = true := bne_iff_ne.2 h_tb
    have H := Lib.hid (show inT x t k = false from by unfold inT inS; simp [h_tb])
    clear h_tb
    go_wp2_with fail
    go_ret
    exact ⟨by first | (rw [H.out]; done) | (rw [H.out]; rfl), q⟩
set_option maxRecDepth 100000 in
set_option maxHeartbeats 4000000 in
theorem rOne_any (w : World) {S S2 : Nat → Prop} {u v : Value} {x y : Sp} (hx : RdSp S w u x) (hy : RdSp S2 w v y) :
    Calls Try.prog 57 #[u, v] w fun e w' => e = .returned (.bool (decide (x = y))) ∧ Below w.heap.size w w' := by
  obtain ⟨a1, a2, a3, a4, rfl, hlx, hhx, htx⟩ := hx
  obtain ⟨b1, b2, b3, b4, rfl, hly, hhy, hty⟩ := hy
  have m1x : x.lo.length ≤ 9223372036854775807 := by have := hlx.len; unfold maxLen at this; omega
  have m2x : x.hi.length ≤ 9223372036854775807 := by have := hhx.len; unfold maxLen at this; omega
  have m1y : y.lo.length ≤ 9223372036854775807 := by have := hly.len; unfold maxLen at this; omega
  have m2y : y.hi.length ≤ 9223372036854775807 := by have := hhy.len; unfold maxLen at this; omega
  obtain ⟨W, hW, q, Bx, By, hsz⟩ := spBoxes2 w 57 57 [.int .i64 x.table, .slice a1 x.lo.length a2, .slice a3 x.hi.length a4, .bool x.isOpen] [.int .i64 y.table, .slice b1 y.lo.length b2, .slice b3 y.hi.length b4, .bool y.isOpen]
  clear hsz
  go_enter Try.func57, Try.ntmps57
  go_upto_region 1 with (fail)
  rw [show (w.alloc (.cells #[.int .i64 x.table, .slice a1 x.lo.length a2, .slice a3 x.hi.length a4, .bool x.isOpen] 57)).alloc (.cells #[.int .i64 y.table, .slice b1 y.lo.length b2, .slice b3 y.hi.length b4, .bool y.isOpen] 57) = W from hW.symm]
  clear hW
  have cx0 := Bx.cell (i := 0) rfl
  have cx1 := Bx.cell (i := 1) rfl
  have cx2 := Bx.cell (i := 2) rfl
  have cx3 := Bx.cell (i := 3) rfl
  have rlx := hlx.below q
  have rhx := hhx.below q
  have cy0 := By.cell (i := 0) rfl
  have cy1 := By.cell (i := 1) rfl
  have cy2 := By.cell (i := 2) rfl
  have cy3 := By.cell (i := 3) rfl
  have rly := hly.below q
  have rhy := hhy.below q
  by_cases h_tb : x.table = y.table
  · have datb : (x.table == y.table) = true := beq_iff_eq.2 h_tb
    have dbtb : decide (x.table = y.table) = true := decide_eq_true h_tb
    have dctb : (x.table = y.table) = True := eq_true h_tb
    have ddtb : (x.table != y.table) = false := by rw [bne_eq_false_iff_eq]; exact h_tb
    by_cases h_lo : x.lo = y.lo
    · have dlo : ((strOf x.lo).toList == (strOf y.lo).toList) = true := by rw [str_eqS]; exact decide_eq_true h_lo
      by_cases h_hi : x.hi = y.hi
      · have dhi : ((strOf x.hi).toList == (strOf y.hi).toList) = true := by rw [str_eqS]; exact decide_eq_true h_hi
        cases h_ox : x.isOpen with
        | true =>
          rw [h_ox] at cx3
          cases h_oy : y.isOpen with
          | true =>
            rw [h_oy] at cy3
            have H := Lib.hid (show decide (x = y) = true from decide_eq_true (sp_ext h_tb h_lo h_hi (h_ox.trans h_oy.symm)))
            clear h_tb h_lo h_hi h_ox h_oy
            go_wp2_with (refine wpList_conv (x := .tmp 12) byP rfl rfl rfl rlx.rd ?_; go_wp2_with (refine wpList_conv (x := .tmp 15) byP rfl rfl rfl rly.rd ?_; go_wp2_with (refine wpList_conv (x := .tmp 21) byP rfl rfl rfl rhx.rd ?_; go_wp2_with (refine wpList_conv (x := .tmp 24) byP rfl rfl rfl rhy.rd ?_; go_wp2_with fail))))
            go_ret
            exact ⟨by first | (rw [H.out]; done) | (rw [H.out]; rfl), q⟩
          | false =>
            rw [h_oy] at cy3
            have H := Lib.hid (show decide (x = y) = false from decide_eq_false (fun h => by rw [h, h_oy] at h_ox; cases h_ox))
            clear h_tb h_lo h_hi h_ox h_oy
            go_wp2_with (refine wpList_conv (x := .tmp 12) byP rfl rfl rfl rlx.rd ?_; go_wp2_with (refine wpList_conv (x := .tmp 15) byP rfl rfl rfl rly.rd ?_; go_wp2_with (refine wpList_conv (x := .tmp 21) byP rfl rfl rfl rhx.rd ?_; go_wp2_with (refine wpList_conv (x := .tmp 24) byP rfl rfl rfl rhy.rd ?_; go_wp2_with fail))))
            go_ret
            exact ⟨by first | (rw [H.out]; done) | (rw [H.out]; rfl), q⟩
        | false =>
          rw [h_ox] at cx3
          cases h_oy : y.isOpen with
          | true =>
            rw [h_oy] at cy3
            have H := Lib.hid (show decide (x = y) = false from decide_eq_false (fun h => by rw [h, h_oy] at h_ox; cases h_ox))
            clear h_tb h_lo h_hi h_ox h_oy
            go_wp2_with (refine wpList_conv (x := .tmp 12) byP rfl rfl rfl rlx.rd ?_; go_wp2_with (refine wpList_conv (x := .tmp 15) byP rfl rfl rfl rly.rd ?_; go_wp2_with (refine wpList_conv (x := .tmp 21) byP rfl rfl rfl rhx.rd ?_; go_wp2_with (refine wpList_conv (x := .tmp 24) byP rfl rfl rfl rhy.rd ?_; go_wp2_with fail))))
            go_ret
            exact ⟨by first | (rw [H.out]; done) | (rw [H.out]; rfl), q⟩
          | false =>
            rw [h_oy] at cy3
            have H := Lib.hid (show decide (x = y) = true from decide_eq_true (sp_ext h_tb h_lo h_hi (h_ox.trans h_oy.symm)))
            clear h_tb h_lo h_hi h_ox h_oy
            go_wp2_with (refine wpList_conv (x := .tmp 12) byP rfl rfl rfl rlx.rd ?_; go_wp2_with (refine wpList_conv (x := .tmp 15) byP rfl rfl rfl rly.rd ?_; go_wp2_with (refine wpList_conv (x := .tmp 21) byP rfl rfl rfl rhx.rd ?_; go_wp2_with (refine wpList_conv (x := .tmp 24) byP rfl rfl rfl rhy.rd ?_; go_wp2_with fail))))
            go_ret
            exact ⟨by first | (rw [H.out]; done) | (rw [H.out]; rfl), q⟩
      · have dhi : ((strOf x.hi).toList == (strOf y.hi).toList) = false := by rw [str_eqS]; exact decide_eq_false h_hi
        have H := Lib.hid (show decide (x = y) = false from decide_eq_false (fun h => h_hi (by rw [h])))
        clear h_tb h_lo h_hi
        go_wp2_with (refine wpList_conv (x := .tmp 12) byP rfl rfl rfl rlx.rd ?_; go_wp2_with (refine wpList_conv (x := .tmp 15) byP rfl rfl rfl rly.rd ?_; go_wp2_with (refine wpList_conv (x := .tmp 21) byP rfl rfl rfl rhx.rd ?_; go_wp2_with (refine wpList_conv (x := .tmp 24) byP rfl rfl rfl rhy.rd ?_; go_wp2_with fail))))
        go_ret
        exact ⟨by first | (rw [H.out]; done) | (rw [H.out]; rfl), q⟩
    · have dlo : ((strOf x.lo).toList == (strOf y.lo).toList) = false := by rw [str_eqS]; exact decide_eq_false h_lo
      have H := Lib.hid (show decide (x = y) = false from decide_eq_false (fun h => h_lo (by rw [h])))
      clear h_tb h_lo
      go_wp2_with (refine wpList_conv (x := .tmp 12) byP rfl rfl rfl rlx.rd ?_; go_wp2_with (refine wpList_conv (x := .tmp 15) byP rfl rfl rfl rly.rd ?_; go_wp2_with fail))
      go_ret
      exact ⟨by first | (rw [H.out]; done) | (rw [H.out]; rfl), q⟩
  · have datb : (x.table == y.table) = false := beq_eq_false_iff_ne.2 h_tb
    have dbtb : decide (x.table = y.table) = false := decide_eq_false h_tb
    have dctb : (x.table = y.table) = False := eq_false h_tb
    have ddtb : (x.table != y.table) = true := bne_iff_ne.2 h_tb
    have H := Lib.hid (show decide (x = y) = false from decide_eq_false (fun h => h_tb (by rw [h])))
    clear h_tb
    go_wp2_with fail
    go_ret
    exact ⟨by first | (rw [H.out]; done) | (rw [H.out]; rfl), q⟩
end Go.Proofs.Ytobelnedhlepaaa
namespace Go.Proofs.Ytobelnedhlepaaa
open Go.RowKit Go.Shelf
theorem all_snoc {α : Type} {P : α → Prop} {l : List α} {k : Nat} (hlt : k < l.length) (h : ∀ x ∈ l.take k, P x) (hk : P l[k]) : ∀ x ∈ l.take (k + 1), P x := fun x hx => by
  rw [List.take_succ_eq_append_getElem hlt] at hx
  rcases List.mem_append.1 hx with h2 | h2
  · exact h x h2
  · simp at h2; rw [h2]; exact hk
set_option maxRecDepth 100000 in
set_option maxHeartbeats 8000000 in
theorem rHit_any (w : World) {S S2 : Nat → Prop} {a a2 : Option Addr} {n cx n2 cy : Nat} {l : List Sp} {m : List Wr} (hl : RdL Elt.sp S w (.slice a n cx) l) (hm : RdL Elt.wr S2 w (.slice a2 n2 cy) m) :
    Calls Try.prog 19 #[.slice a n cx, .slice a2 n2 cy] w fun e w' => e = .returned (.bool (hitL l m)) ∧ Below w.heap.size w w' := by
  rw [hitL_ref]
  obtain ⟨rfl, hnc, hcm⟩ := hl.len
  have hlm : l.length ≤ 9223372036854775807 := by unfold maxLen at hcm; omega
  obtain ⟨rfl, hnc2, hcm2⟩ := hm.len
  have hmm : m.length ≤ 9223372036854775807 := by unfold maxLen at hcm2; omega
  have q := Below.refl w.heap.size w
  have eI : ∀ args w, (callFunc 36 args).run Try.prog w = .ok (.enter 36 args) w := enters_of Try.func36 (by kernel_rfl) rfl
  clear hnc hnc2 hcm hcm2
  go_enter Try.func19, Try.ntmps19
  go_upto_region 2 with (fail)
  go_loopw [5] (fun iv wr => ∃ (i : Nat), iv = .int .i64 i ∧ i ≤ l.length ∧ (∀ s ∈ l.take i, (m.any fun x => inT s x.table x.key) = false) ∧ Below w.heap.size w wr) (fun i _ => l.length - (intOf i).toNat)
  case atStart => exact ⟨0, rfl, Nat.zero_le _, by simp, q⟩
  case round =>
    clear q
    obtain ⟨i, rfl, hil, hall, q⟩ := hrel
    replace hall := Lib.hid hall
    rcases Nat.lt_or_ge i l.length with hlt | hge
    · have di : decide ((i : Int) < (l.length : Int)) = true := decide_eq_true (by omega)
      go_upto_region 5 with (fail)
      go_loopw [6] (fun kv wr => ∃ (k : Nat), kv = .int .i64 k ∧ k ≤ m.length ∧ (∀ x ∈ m.take k, inT l[i] x.table x.key = false) ∧ Below w.heap.size w wr) (fun i _ => m.length - (intOf i).toNat)
      case atStart => exact ⟨0, rfl, Nat.zero_le _, by simp, q⟩
      case round =>
        clear q
        obtain ⟨k, rfl, hkm, hno, q⟩ := hrel
        replace hno := Lib.hid hno
        rcases Nat.lt_or_ge k m.length with hlm2 | hge
        · have dk : decide ((k : Int) < (m.length : Int)) = true := decide_eq_true (by omega)
          obtain ⟨b1, o1, A1, A2, A3, A4, rfl, _, c0, c1, c2, c3, hk1, hk2, hw64⟩ := (hl.below q).sp i hlt
          obtain ⟨b2, o2, B1, B2, B3, B4, rfl, _, d0, d1, d2, d3, hk, _, _⟩ := (hm.below q).wr k hlm2
          have hyes := Lib.hid (fun h : inT l[i] m[k].table m[k].key = true => show (l.any fun s => m.any fun x => inT s x.table x.key) = true from List.any_eq_true.2 ⟨_, List.getElem_mem hlt, List.any_eq_true.2 ⟨_, List.getElem_mem hlm2, h⟩⟩)
          have hnext := Lib.hid (fun h : inT l[i] m[k].table m[k].key = false => all_snoc (P := fun x : Wr => inT l[i] x.table x.key = false) hlm2 hno.out h)
          obtain ⟨s, es⟩ : ∃ s, s = l[i] := ⟨_, rfl⟩
          obtain ⟨x, ex⟩ : ∃ x, x = m[k] := ⟨_, rfl⟩
          rw [← es] at c0 c1 c2 c3 hk1 hk2 hw64 hnext hyes
          rw [← ex] at d0 d1 d2 d3 hk hnext hyes
          have hs : RdSp S wr (.agg #[.int .i64 s.table, .slice A1 s.lo.length A2, .slice A3 s.hi.length A4, .bool s.isOpen]) s := ⟨_, _, _, _, rfl, hk1, hk2, hw64⟩
          replace es := Lib.hid es
          clear hk1 hk2 d2 d3 ex hw64
          go_upto_region 7 with (fail)
          refine wp_region_gsg (by kernel_rfl) (by kernel_rfl) [sgEq (.slice (some ⟨b1, o1, none⟩) l.length cx), sgEq (.int .i64 (i : Int)), sgEq (.pointer (some ⟨b1, o1 + i * 4, none⟩)), sgEq (.agg #[.int .i64 s.table, .slice A1 s.lo.length A2, .slice A3 s.hi.length A4, .bool s.isOpen]), sgEq (.slice (some ⟨b2, o2, none⟩) m.length cy), sgEq (.int .i64 (k : Int)), sgEq (.pointer (some ⟨b2, o2 + k * 4, none⟩)), sgEq (.pointer (some ⟨b2, o2 + k * 4, none⟩)), sgEq (.int .i64 x.table), sgEq (.slice (some ⟨b2, o2, none⟩) m.length cy), sgEq (.int .i64 (k : Int)), sgEq (.pointer (some ⟨b2, o2 + k * 4, none⟩)), sgEq (.pointer (some ⟨b2, o2 + k * 4 + 1, none⟩)), sgEq (.slice B1 x.key.length B2), sgEq (.bool (inT s x.table x.key)), sgEq (.bool (inT s x.table x.key))]
            ⟨?o0, ?o1, ?o2, ?o3, ?o4, ?o5, ?o6, ?o7, ?o8, ?o9, ?o10, ?o11, ?o12, ?o13, ?o14, ?o15, trivial⟩ ?fin
          case o0 =>
            refine GdOp.plain rfl (fun A vs w' hF hT hb hd => ?_)
            have e1 : A.eval (.tmp 0) = .slice (some ⟨b1, o1, none⟩) l.length cx := hF 0 rfl
            exact BigFrame.wp_move _ rfl ⟨_, rfl, e1, Below.refl _ _⟩
          case o1 =>
            refine GdOp.plain rfl (fun A vs w' hF hT hb hd => ?_)
            have e1 : A.eval (.tmp 5) = .int .i64 (i : Int) := hF 5 rfl
            exact BigFrame.wp_move _ rfl ⟨_, rfl, e1, Below.refl _ _⟩
          case o2 =>
            refine GdOp.plain rfl (fun A vs w' hF hT hb hd => ?_)
            have e1 : A.eval (.tmp 20) = .slice (some ⟨b1, o1, none⟩) l.length cx := (hT 20 0 (by simp) rfl).trans (hd ⟨0, .data⟩ (by simp) rfl)
            have e2 : A.eval (.tmp 21) = .int .i64 (i : Int) := (hT 21 1 (by simp) rfl).trans (hd ⟨1, .data⟩ (by simp) rfl)
            exact wp_ixN (e := 57) rfl (by kernel_rfl) (by kernel_rfl) (e1) (e2) rfl (by omega) ⟨_, rfl, rfl, Below.refl _ _⟩
          case o3 =>
            refine GdOp.plain rfl (fun A vs w' hF hT hb hd => ?_)
            have e1 : A.eval (.tmp 22) = .pointer (some ⟨b1, o1 + i * 4, none⟩) := (hT 22 2 (by simp) rfl).trans (hd ⟨2, .data⟩ (by simp) rfl)
            exact wp_load4 spS rfl e1 ((hb.cell (p := ⟨_, _, none⟩) (cell_lt c0)).trans c0) ((hb.cell (p := ⟨_, _, none⟩) (cell_lt c1)).trans c1) ((hb.cell (p := ⟨_, _, none⟩) (cell_lt c2)).trans c2) ((hb.cell (p := ⟨_, _, none⟩) (cell_lt c3)).trans c3) ⟨_, rfl, rfl, Below.refl _ _⟩
          case o4 =>
            refine GdOp.plain rfl (fun A vs w' hF hT hb hd => ?_)
            have e1 : A.eval (.tmp 1) = .slice (some ⟨b2, o2, none⟩) m.length cy := hF 1 rfl
            exact BigFrame.wp_move _ rfl ⟨_, rfl, e1, Below.refl _ _⟩
          case o5 =>
            refine GdOp.plain rfl (fun A vs w' hF hT hb hd => ?_)
            have e1 : A.eval (.tmp 6) = .int .i64 (k : Int) := hF 6 rfl
            exact BigFrame.wp_move _ rfl ⟨_, rfl, e1, Below.refl _ _⟩
          case o6 =>
            refine GdOp.plain rfl (fun A vs w' hF hT hb hd => ?_)
            have e1 : A.eval (.tmp 24) = .slice (some ⟨b2, o2, none⟩) m.length cy := (hT 24 4 (by simp) rfl).trans (hd ⟨4, .data⟩ (by simp) rfl)
            have e2 : A.eval (.tmp 25) = .int .i64 (k : Int) := (hT 25 5 (by simp) rfl).trans (hd ⟨5, .data⟩ (by simp) rfl)
            exact wp_ixN (e := 59) rfl (by kernel_rfl) (by kernel_rfl) (e1) (e2) rfl (by omega) ⟨_, rfl, rfl, Below.refl _ _⟩
          case o7 =>
            refine GdOp.plain rfl (fun A vs w' hF hT hb hd => ?_)
            have e1 : A.eval (.tmp 26) = .pointer (some ⟨b2, o2 + k * 4, none⟩) := (hT 26 6 (by simp) rfl).trans (hd ⟨6, .data⟩ (by simp) rfl)
            exact wp_fieldN wrS rfl (e1) (by omega) ⟨_, rfl, rfl, Below.refl _ _⟩
          case o8 =>
            refine GdOp.plain rfl (fun A vs w' hF hT hb hd => ?_)
            have e1 : A.eval (.tmp 27) = .pointer (some ⟨b2, o2 + k * 4, none⟩) := (hT 27 7 (by simp) rfl).trans (hd ⟨7, .data⟩ (by simp) rfl)
            exact wp_ld_int (k := .i64) rfl e1 (by kernel_rfl) (((hb.cell (p := ⟨_, _, none⟩) (cell_lt d0)).trans d0)) ⟨_, rfl, rfl, Below.refl _ _⟩
          case o9 =>
            refine GdOp.plain rfl (fun A vs w' hF hT hb hd => ?_)
            have e1 : A.eval (.tmp 1) = .slice (some ⟨b2, o2, none⟩) m.length cy := hF 1 rfl
            exact BigFrame.wp_move _ rfl ⟨_, rfl, e1, Below.refl _ _⟩
          case o10 =>
            refine GdOp.plain rfl (fun A vs w' hF hT hb hd => ?_)
            have e1 : A.eval (.tmp 6) = .int .i64 (k : Int) := hF 6 rfl
            exact BigFrame.wp_move _ rfl ⟨_, rfl, e1, Below.refl _ _⟩
          case o11 =>
            refine GdOp.plain rfl (fun A vs w' hF hT hb hd => ?_)
            have e1 : A.eval (.tmp 29) = .slice (some ⟨b2, o2, none⟩) m.length cy := (hT 29 9 (by simp) rfl).trans (hd ⟨9, .data⟩ (by simp) rfl)
            have e2 : A.eval (.tmp 30) = .int .i64 (k : Int) := (hT 30 10 (by simp) rfl).trans (hd ⟨10, .data⟩ (by simp) rfl)
            exact wp_ixN (e := 59) rfl (by kernel_rfl) (by kernel_rfl) (e1) (e2) rfl (by omega) ⟨_, rfl, rfl, Below.refl _ _⟩
          case o12 =>
            refine GdOp.plain rfl (fun A vs w' hF hT hb hd => ?_)
            have e1 : A.eval (.tmp 31) = .pointer (some ⟨b2, o2 + k * 4, none⟩) := (hT 31 11 (by simp) rfl).trans (hd ⟨11, .data⟩ (by simp) rfl)
            exact wp_fieldN wrS rfl (e1) (by omega) ⟨_, rfl, rfl, Below.refl _ _⟩
          case o13 =>
            refine GdOp.plain rfl (fun A vs w' hF hT hb hd => ?_)
            have e1 : A.eval (.tmp 32) = .pointer (some ⟨b2, o2 + k * 4 + 1, none⟩) := (hT 32 12 (by simp) rfl).trans (hd ⟨12, .data⟩ (by simp) rfl)
            exact wp_ld_slice (e := 5) rfl e1 (by kernel_rfl) (((hb.cell (p := ⟨_, _, none⟩) (cell_lt d1)).trans d1)) ⟨_, rfl, rfl, Below.refl _ _⟩
          case o14 =>
            refine GdOp.plain rfl (fun A vs w' hF hT hb hd => ?_)
            have e1 : A.eval (.tmp 23) = .agg #[.int .i64 s.table, .slice A1 s.lo.length A2, .slice A3 s.hi.length A4, .bool s.isOpen] := (hT 23 3 (by simp) rfl).trans (hd ⟨3, .data⟩ (by simp) rfl)
            have e2 : A.eval (.tmp 28) = .int .i64 x.table := (hT 28 8 (by simp) rfl).trans (hd ⟨8, .data⟩ (by simp) rfl)
            have e3 : A.eval (.tmp 33) = .slice B1 x.key.length B2 := (hT 33 13 (by simp) rfl).trans (hd ⟨13, .data⟩ (by simp) rfl)
            refine wp_callFn rfl eI (args := #[.agg #[.int .i64 s.table, .slice A1 s.lo.length A2, .slice A3 s.hi.length A4, .bool s.isOpen], .int .i64 x.table, .slice B1 x.key.length B2]) (by simp only [List.map_toArray, List.map_cons, List.map_nil, e1, e2, e3]) ((rIn_any w' (hs.below hb) (hk.below hb)).mono ?_)
            rintro e w2 ⟨rfl, hb2⟩
            exact ⟨_, rfl, _, rfl, rfl, hb2⟩
          case o15 =>
            refine GdOp.plain rfl (fun A vs w' hF hT hb hd => ?_)
            have e1 : A.eval (.tmp 34) = .bool (inT s x.table x.key) := (hT 34 14 (by simp) rfl).trans (hd ⟨14, .data⟩ (by simp) rfl)
            exact BigFrame.wp_assign _ rfl ⟨_, rfl, e1, Below.refl _ _⟩
          case fin =>
          intro vs9 W9 hb9 hG9
          have e0 : vs9 0 = .slice (some ⟨b1, o1, none⟩) l.length cx := hG9 0 (by decide)
          have e1 : vs9 1 = .int .i64 (i : Int) := hG9 1 (by decide)
          have e2 : vs9 2 = .pointer (some ⟨b1, o1 + i * 4, none⟩) := hG9 2 (by decide)
          have e3 : vs9 3 = .agg #[.int .i64 s.table, .slice A1 s.lo.length A2, .slice A3 s.hi.length A4, .bool s.isOpen] := hG9 3 (by decide)
          have e4 : vs9 4 = .slice (some ⟨b2, o2, none⟩) m.length cy := hG9 4 (by decide)
          have e5 : vs9 5 = .int .i64 (k : Int) := hG9 5 (by decide)
          have e6 : vs9 6 = .pointer (some ⟨b2, o2 + k * 4, none⟩) := hG9 6 (by decide)
          have e7 : vs9 7 = .pointer (some ⟨b2, o2 + k * 4, none⟩) := hG9 7 (by decide)
          have e8 : vs9 8 = .int .i64 x.table := hG9 8 (by decide)
          have e9 : vs9 9 = .slice (some ⟨b2, o2, none⟩) m.length cy := hG9 9 (by decide)
          have e10 : vs9 10 = .int .i64 (k : Int) := hG9 10 (by decide)
          have e11 : vs9 11 = .pointer (some ⟨b2, o2 + k * 4, none⟩) := hG9 11 (by decide)
          have e12 : vs9 12 = .pointer (some ⟨b2, o2 + k * 4 + 1, none⟩) := hG9 12 (by decide)
          have e13 : vs9 13 = .slice B1 x.key.length B2 := hG9 13 (by decide)
          have e14 : vs9 14 = .bool (inT s x.table x.key) := hG9 14 (by decide)
          have e15 : vs9 15 = .bool (inT s x.table x.key) := hG9 15 (by decide)
          simp only [putAll, e0, e1, e2, e3, e4, e5, e6, e7, e8, e9, e10, e11, e12, e13, e14, e15]
          clear hG9 e0 e1 e2 e3 e4 e5 e6 e7 e8 e9 e10 e11 e12 e13 e14 e15
          replace q := q.trans (hb9.mono q.size)
          clear hb9
          go_simp
          clear c0 c1 c2 c3 d0 d1 hs hk
          cases hi : inT s x.table x.key with
          | true =>
            have HK := Lib.hid (hyes.out hi)
            clear hi hnext hyes hno hall
            go_wp2_with fail
            go_ret
            exact ⟨by first | (rw [HK.out]; done) | (rw [HK.out]; rfl), q⟩
          | false =>
            have hn2 := Lib.hid (hnext.out hi)
            clear hi hnext hyes hno
            go_wp2_with fail
            go_roundw
            case rel => exact ⟨k + 1, by go_num, by omega, by have h := hn2.out; rw [es.out] at h; exact h, q⟩
            case measure => simp [intOf]; omega
        · obtain rfl : k = m.length := by omega
          have dk : decide ((m.length : Int) < (m.length : Int)) = false := decide_eq_false (by omega)
          have hn2 := Lib.hid (all_snoc (P := fun s : Sp => (m.any fun x => inT s x.table x.key) = false) hlt hall.out (List.any_eq_false.2 fun x hx => by
            have := hno.out x (by rw [List.take_length]; exact hx)
            simp [this]))
          clear hno hall
          go_wp2_with fail
          go_roundw
          case rel => exact ⟨i + 1, by go_num, by omega, hn2.out, q⟩
          case measure => simp [intOf]; omega
    · obtain rfl : i = l.length := by omega
      have di : decide ((l.length : Int) < (l.length : Int)) = false := decide_eq_false (by omega)
      have HK := Lib.hid (show (l.any fun s => m.any fun x => inT s x.table x.key) = false from List.any_eq_false.2 fun s hs => by
        have := hall.out s (by rw [List.take_length]; exact hs)
        simp only [this]; simp)
      clear hall
      go_wp2_with fail
      go_ret
      exact ⟨by first | (rw [HK.out]; done) | (rw [HK.out]; rfl), q⟩
set_option maxRecDepth 100000 in
set_option maxHeartbeats 8000000 in
theorem rSameW_any (w : World) {S S2 : Nat → Prop} {a a2 : Option Addr} {n cx n2 cy : Nat} {l m : List Wr} (hl : RdL Elt.wr S w (.slice a n cx) l) (hm : RdL Elt.wr S2 w (.slice a2 n2 cy) m) :
    Calls Try.prog 20 #[.slice a n cx, .slice a2 n2 cy] w fun e w' => e = .returned (.bool (sameW l m)) ∧ Below w.heap.size w w' := by
  obtain ⟨rfl, hnc, hcm⟩ := hl.len
  have hlm : l.length ≤ 9223372036854775807 := by unfold maxLen at hcm; omega
  obtain ⟨rfl, hnc2, hcm2⟩ := hm.len
  have hmm : m.length ≤ 9223372036854775807 := by unfold maxLen at hcm2; omega
  have q := Below.refl w.heap.size w
  clear hnc hnc2 hcm hcm2
  go_enter Try.func20, Try.ntmps20
  go_upto_region 2 with (fail)
  go_loopw [5] (fun iv wr => ∃ (i : Nat), iv = .int .i64 i ∧ i ≤ l.length ∧ (∀ x ∈ l.take i, (m.any fun y => eqW x y) = false) ∧ Below w.heap.size w wr) (fun i _ => l.length - (intOf i).toNat)
  case atStart => exact ⟨0, rfl, Nat.zero_le _, by simp, q⟩
  case round =>
    clear q
    obtain ⟨i, rfl, hil, hall, q⟩ := hrel
    replace hall := Lib.hid hall
    rcases Nat.lt_or_ge i l.length with hlt | hge
    · have di : decide ((i : Int) < (l.length : Int)) = true := decide_eq_true (by omega)
      go_upto_region 5 with (fail)
      go_loopw [6] (fun kv wr => ∃ (k : Nat), kv = .int .i64 k ∧ k ≤ m.length ∧ (∀ y ∈ m.take k, eqW l[i] y = false) ∧ Below w.heap.size w wr) (fun i _ => m.length - (intOf i).toNat)
      case atStart => exact ⟨0, rfl, Nat.zero_le _, by simp, q⟩
      case round =>
        clear q
        obtain ⟨k, rfl, hkm, hno, q⟩ := hrel
        replace hno := Lib.hid hno
        rcases Nat.lt_or_ge k m.length with hlm2 | hge
        · have dk : decide ((k : Int) < (m.length : Int)) = true := decide_eq_true (by omega)
          obtain ⟨b1, o1, A1, A2, A3, A4, rfl, _, c0, c1, _, _, hk1, _, _⟩ := (hl.below q).wr i hlt
          obtain ⟨b2, o2, B1, B2, B3, B4, rfl, _, d0, d1, _, _, hk2, _, _⟩ := (hm.below q).wr k hlm2
          have r1 := hk1.rd
          have r2 := hk2.rd
          clear hk1 hk2
          by_cases e0 : l[i].table = m[k].table
          · have t0 : (l[i].table == m[k].table) = true := beq_iff_eq.2 e0
            have t1 : decide (l[i].table = m[k].table) = true := decide_eq_true e0
            by_cases e1 : l[i].key = m[k].key
            · have t2 : ((strOf l[i].key).toList == (strOf m[k].key).toList) = true := str_eqD.trans (decide_eq_true e1)
              have HK := Lib.hid (show sameW l m = true from List.any_eq_true.2 ⟨_, List.getElem_mem hlt, List.any_eq_true.2 ⟨_, List.getElem_mem hlm2, by unfold eqW; rw [decide_eq_true e0, decide_eq_true e1]; rfl⟩⟩)
              clear e0 e1 hno hall
              go_upto_region 7 with (fail)
              refine wp_region_quiet_lit (by kernel_rfl) (by kernel_rfl) ?_
              repeat (first | go_big_quiet_step (fail) | (go_big_quiet_want; refine quiet_conv byP rfl rfl r1 ?_; go_big_quiet_on; go_simp) | (go_big_quiet_want; refine quiet_conv byP rfl rfl r2 ?_; go_big_quiet_on; go_simp))
              first | (refine wpQuiet_nil ?_; intro _ hw'; obtain ⟨nq, hw''⟩ := hw'; subst hw'') | intro nq
              go_wp2_with fail
              go_ret
              exact ⟨by first | (rw [HK.out]; done) | (rw [HK.out]; rfl), Below.drewN q _⟩
            · have t2 : ((strOf l[i].key).toList == (strOf m[k].key).toList) = false := str_eqD.trans (decide_eq_false e1)
              have hn2 := Lib.hid (all_snoc (P := fun y : Wr => eqW l[i] y = false) hlm2 hno.out (by unfold eqW; rw [decide_eq_false e1, Bool.and_false]))
              clear e0 e1 hno
              go_upto_region 7 with (fail)
              refine wp_region_quiet_lit (by kernel_rfl) (by kernel_rfl) ?_
              repeat (first | go_big_quiet_step (fail) | (go_big_quiet_want; refine quiet_conv byP rfl rfl r1 ?_; go_big_quiet_on; go_simp) | (go_big_quiet_want; refine quiet_conv byP rfl rfl r2 ?_; go_big_quiet_on; go_simp))
              first | (refine wpQuiet_nil ?_; intro _ hw'; obtain ⟨nq, hw''⟩ := hw'; subst hw'') | intro nq
              go_wp2_with fail
              go_roundw
              case rel => exact ⟨k + 1, by go_num, by omega, hn2.out, Below.drewN q _⟩
              case measure => simp [intOf]; omega
          · have t0 : (l[i].table == m[k].table) = false := beq_eq_false_iff_ne.2 e0
            have t1 : decide (l[i].table = m[k].table) = false := decide_eq_false e0
            have hn2 := Lib.hid (all_snoc (P := fun y : Wr => eqW l[i] y = false) hlm2 hno.out (by unfold eqW; rw [decide_eq_false e0, Bool.false_and]))
            clear e0 hno
            go_upto_region 7 with (fail)
            refine wp_region_quiet_lit (by kernel_rfl) (by kernel_rfl) ?_
            repeat (first | go_big_quiet_step (fail) | (go_big_quiet_want; refine quiet_conv byP rfl rfl r1 ?_; go_big_quiet_on; go_simp) | (go_big_quiet_want; refine quiet_conv byP rfl rfl r2 ?_; go_big_quiet_on; go_simp))
            first | (refine wpQuiet_nil ?_; intro _ hw'; obtain ⟨nq, hw''⟩ := hw'; subst hw'') | intro nq
            go_wp2_with fail
            go_roundw
            case rel => exact ⟨k + 1, by go_num, by omega, hn2.out, Below.drewN q _⟩
            case measure => simp [intOf]; omega
        · obtain rfl : k = m.length := by omega
          have dk : decide ((m.length : Int) < (m.length : Int)) = false := decide_eq_false (by omega)
          have hn2 := Lib.hid (all_snoc (P := fun x : Wr => (m.any fun y => eqW x y) = false) hlt hall.out (List.any_eq_false.2 fun x hx => by
            have := hno.out x (by rw [List.take_length]; exact hx)
            simp [this]))
          clear hno hall
          go_wp2_with fail
          go_roundw
          case rel => exact ⟨i + 1, by go_num, by omega, hn2.out, q⟩
          case measure => simp [intOf]; omega
    · obtain rfl : i = l.length := by omega
      have di : decide ((l.length : Int) < (l.length : Int)) = false := decide_eq_false (by omega)
      have HK := Lib.hid (show sameW l m = false from List.any_eq_false.2 fun s hs => by
        have := hall.out s (by rw [List.take_length]; exact hs)
        simp only [this]; simp)
      clear hall
      go_wp2_with fail
      go_ret
      exact ⟨by first | (rw [HK.out]; done) | (rw [HK.out]; rfl), q⟩
end Go.Proofs.Ytobelnedhlepaaa
namespace Go.Proofs.Ytobelnedhlepaaa
open Go.RowKit
section
variable {P : Program} {Q : Exit → Act → World → Prop}
def wpOpS (P : Program) (ops : Array Oper) (Q : Exit → Act → World → Prop) (i : Nat) (K : Act → World → Prop) (a : Act) (w : World) : Prop :=
  match ops[i]? with
  | none => K a w
  | some o => if Region.wanted o (yielded ops a.tmps) then o.wp P a w K Q else K (a.put o.dst undef) w
def wpAnyS (P : Program) (ops : Array Oper) (Q : Exit → Act → World → Prop) : Nat → Array Bool → Act → World → Prop
  | 0, listed, a, w => Region.ready .any ops listed = [] ∧ Q .normal a w
  | fuel + 1, listed, a, w =>
    (Region.ready .any ops listed = [] → Q .normal a w) ∧
    ∀ i ∈ Region.ready .any ops listed, wpOpS P ops Q i (wpAnyS P ops Q fuel (listed.setIfInBounds i true)) a w
theorem wp_opIn {o : Oper} {l n : Nat} {a : Act} {w : World} {K K' : Act → World → Prop} (hd : ∀ c, o.op ≠ .defer c) (hK : ∀ a w, K a w → K' a w) (h : o.wp P a w K Q) : o.wpIn (Fence.wide.inRound l) n P a w K' Q := by
  replace h := Oper.wp_mono hK h
  unfold Oper.wp at h
  unfold Oper.wpIn
  refine ⟨fun _ _ => trivial, ?_⟩
  rw [show (Fence.wide.inRound l).round = some l from rfl, Oper.semAt_some l _ _ hd]
  generalize (execOp a.eval o).run P w = r at *
  cases r with
  | ok x w' =>
    cases x <;> simp only [Oper.upon, Oper.uponIn] at h ⊢ <;> first
      | exact h
      | exact h.elim
      | exact ⟨(fun h => by cases h), CallsIn.inRound l ((callsIn_wide (n := n - 1)).2 h)⟩
      | exact ⟨(fun h => by cases h), fun c cs _ => let ⟨v, w', r, s⟩ := h c cs; ⟨v, w', r, stepsIn_wide.2 s⟩⟩
  | halt x w' => cases x <;> simp only [Oper.upon, Oper.uponIn] at h ⊢ <;> first | exact h | exact h.elim
theorem anyS_any {ops : Array Oper} : ∀ (fuel : Nat) (listed : Array Bool) (a : Act) (w : World), wpAnyS P ops Q fuel listed a w → wpAny P .any ops Q fuel listed a w
  | 0, _, _, _, h => h
  | fuel + 1, listed, a, w, ⟨h1, h2⟩ => ⟨h1, fun i hi => by
    have h := h2 i hi
    unfold wpOpS at h
    unfold wpOp
    split
    · rename_i ho
      rw [ho] at h
      exact anyS_any fuel _ _ _ h
    · rename_i o ho
      rw [ho] at h
      dsimp only at h
      split
      · rename_i hw
        rw [if_pos hw] at h
        exact .inl (Oper.wp_mono (fun a w => anyS_any fuel _ a w) h)
      · rename_i hw
        rw [if_neg hw] at h
        exact anyS_any fuel _ _ _ h⟩
theorem anyS_in {ops : Array Oper} {l n : Nat} (hd : ∀ (i : Nat) (o : Oper), ops[i]? = some o → ∀ c, o.op ≠ .defer c) : ∀ (fuel : Nat) (listed : Array Bool) (a : Act) (w : World), wpAnyS P ops Q fuel listed a w → wpAnyIn (Fence.wide.inRound l) n P .any ops Q fuel listed a w
  | 0, _, _, _, h => h
  | fuel + 1, listed, a, w, ⟨h1, h2⟩ => ⟨h1, fun i hi => by
    have h := h2 i hi
    unfold wpOpS at h
    unfold wpOpIn
    split
    · rename_i ho
      rw [ho] at h
      exact anyS_in hd fuel _ _ _ h
    · rename_i o ho
      rw [ho] at h
      dsimp only at h
      split
      · rename_i hw
        rw [if_pos hw] at h
        exact wp_opIn (hd i o ho) (fun a w => anyS_in hd fuel _ a w) h
      · rename_i hw
        rw [if_neg hw] at h
        exact ⟨fun _ _ => trivial, anyS_in hd fuel _ _ _ h⟩⟩
def noDefer (ops : Array Oper) : Bool := ops.toList.all fun o => match o.op with | .defer _ => false | _ => true
theorem noDefer_spec {ops : Array Oper} (h : noDefer ops = true) : ∀ (i : Nat) (o : Oper), ops[i]? = some o → ∀ c, o.op ≠ .defer c := fun i o ho c e => by
  have := List.all_eq_true.1 h o (by rw [← Array.getElem?_toList] at ho; exact List.mem_of_getElem? ho)
  rw [e] at this
  cases this
theorem wp_region_S {id : Nat} {ops : Array Oper} {a : Act} {w : World} (hm : P.follows .mixedOrders = true) (h : wpAnyS P ops Q ops.size (Array.replicate ops.size false) a { w with drawn := w.drawn + 1 }) : (Code.region id ops true).wp P Q a w :=
  wp_region_any hm (anyS_any _ _ _ _ h)
theorem wpIn_region_S {id l n : Nat} {ops : Array Oper} {a : Act} {w : World} (hm : P.follows .mixedOrders = true) (hd : noDefer ops = true) (h : wpAnyS P ops Q ops.size (Array.replicate ops.size false) a { w with drawn := w.drawn + 1 }) : (Code.region id ops true).wpIn (Fence.wide.inRound l) n P Q a w :=
  wpIn_region_any hm (anyS_in (noDefer_spec hd) _ _ _ _ h)
end
end Go.Proofs.Ytobelnedhlepaaa
namespace Go.Proofs.Ytobelnedhlepaaa
open Go.RowKit
section
variable {P : Program} {Q : Exit → Act → World → Prop}
def don (D : Nat → Bool) (i : Nat) : Nat → Bool := fun j => if j = i then true else D j
def told (S : List Nat) (D : Nat → Bool) (vs : Nat → Value) : List (Option Value) := S.map fun j => if D j then some (vs j) else none
def SetOp (P : Program) (Q : Exit → Act → World → Prop) (ops : Array Oper) (a : Act) (S : List Nat) (G : Nat → World → Value → Prop) (E : List (Option Value) → World → Prop) (K : World → World → Prop) (i : Nat) (o : Oper) : Prop :=
  ∀ (A : Act) (va : Nat → Value) (D : Nat → Bool) (w' : World), (∀ t, slotIx ops.toList 0 t = none → A.eval (.tmp t) = a.eval (.tmp t)) → (∀ t j, t < a.tmps.size → slotIx ops.toList 0 t = some j → A.eval (.tmp t) = va j) → D i = false → E (told S D va) w' →
    (∀ e ∈ o.after, Region.binds .any e = true → D e.on = true) → (∀ j d, D j = false → (ops[j]?).bind (·.dst) = some d → va j = a.eval (.tmp d)) → (∀ e ∈ o.after, Region.binds .any e = true → S.contains e.on = false → G e.on w' (va e.on)) →
    o.wp P A w' (fun a2 w2 => ∃ v, a2 = A.put o.dst v ∧ E (told S (don D i) (upd va i v)) w2 ∧ K w' w2) Q
def FreeOp (P : Program) (Q : Exit → Act → World → Prop) (ops : Array Oper) (a : Act) (S : List Nat) (G : Nat → World → Value → Prop) (E : List (Option Value) → World → Prop) (i : Nat) (o : Oper) : Prop :=
  ∀ (A : Act) (va : Nat → Value) (D : Nat → Bool) (w' : World), (∀ t, slotIx ops.toList 0 t = none → A.eval (.tmp t) = a.eval (.tmp t)) → (∀ t j, t < a.tmps.size → slotIx ops.toList 0 t = some j → A.eval (.tmp t) = va j) → D i = false → E (told S D va) w' →
    (∀ e ∈ o.after, Region.binds .any e = true → D e.on = true) → (∀ j d, D j = false → (ops[j]?).bind (·.dst) = some d → va j = a.eval (.tmp d)) → (∀ e ∈ o.after, Region.binds .any e = true → S.contains e.on = false → G e.on w' (va e.on)) →
    o.wp P A w' (fun a2 w2 => ∃ v, a2 = A.put o.dst v ∧ G i w2 v ∧ Below w'.heap.size w' w2) Q
def StOp (P : Program) (Q : Exit → Act → World → Prop) (ops : Array Oper) (a : Act) (S : List Nat) (G : Nat → World → Value → Prop) (E : List (Option Value) → World → Prop) (K : World → World → Prop) (i : Nat) (o : Oper) : Prop :=
  o.guard = none ∧ ((S.contains i = true ∧ SetOp P Q ops a S G E K i o) ∨ (S.contains i = false ∧ FreeOp P Q ops a S G E i o))
theorem StOp.set {ops : Array Oper} {a : Act} {S : List Nat} {G : Nat → World → Value → Prop} {E : List (Option Value) → World → Prop} {K : World → World → Prop} {i : Nat} {o : Oper} (hg : o.guard = none) (hp : S.contains i = true) (h : SetOp P Q ops a S G E K i o) : StOp P Q ops a S G E K i o := ⟨hg, .inl ⟨hp, h⟩⟩
theorem StOp.free {ops : Array Oper} {a : Act} {S : List Nat} {G : Nat → World → Value → Prop} {E : List (Option Value) → World → Prop} {K : World → World → Prop} {i : Nat} {o : Oper} (hg : o.guard = none) (hp : S.contains i = false) (h : FreeOp P Q ops a S G E i o) : StOp P Q ops a S G E K i o := ⟨hg, .inr ⟨hp, h⟩⟩
def StAll (P : Program) (Q : Exit → Act → World → Prop) (ops : Array Oper) (a : Act) (S : List Nat) (G : Nat → World → Value → Prop) (E : List (Option Value) → World → Prop) (K : World → World → Prop) : Nat → List Oper → Prop
  | _, [] => True
  | i, o :: rest => StOp P Q ops a S G E K i o ∧ StAll P Q ops a S G E K (i + 1) rest
theorem StAll.get {ops : Array Oper} {a : Act} {S : List Nat} {G : Nat → World → Value → Prop} {E : List (Option Value) → World → Prop} {K : World → World → Prop} : ∀ (l : List Oper) (k j : Nat) (o : Oper), StAll P Q ops a S G E K k l → l[j]? = some o → StOp P Q ops a S G E K (k + j) o
  | [], _, _, _, _, h => by simp at h
  | o' :: rest, k, 0, o, h, hj => by obtain rfl : o' = o := by simpa using hj
                                     exact h.1
  | o' :: rest, k, j + 1, o, h, hj => by rw [show k + (j + 1) = k + 1 + j by omega]; exact StAll.get rest (k + 1) j o h.2 (by simpa using hj)
theorem told_out {S : List Nat} {D : Nat → Bool} {vs : Nat → Value} {i : Nat} {v : Value} (h : i ∉ S) : told S (don D i) (upd vs i v) = told S D vs := by
  refine List.map_congr_left fun j hj => ?_
  have : j ≠ i := fun e => h (by rw [← e]; exact hj)
  simp [upd, don, this]
theorem anyS_set {ops : Array Oper} {a : Act} {w : World} (hs : gdB ops = true) (S : List Nat) (hS : (S.all fun c => decide (c < ops.size)) = true) (G : Nat → World → Value → Prop) (E : List (Option Value) → World → Prop) (K : World → World → Prop)
    (hG : ∀ i w v w', G i w v → Below w.heap.size w w' → G i w' v) (hK : ∀ i w v w', G i w v → K w w' → G i w' v) (hE : ∀ l w w', E l w → Below w.heap.size w w' → E l w') (h0 : E (S.map fun _ => none) w)
    (hop : StAll P Q ops a S G E K 0 ops.toList)
    (hend : ∀ (vs : Nat → Value) (w' : World), E (S.map fun j => some (vs j)) w' → (∀ i, i < ops.size → S.contains i = false → G i w' (vs i)) → Q .normal (putAll a ops.toList vs 0) w') : wpAnyS P ops Q ops.size (Array.replicate ops.size false) a { w with drawn := w.drawn + 1 } := by
  have hnd : (ops.toList.filterMap (·.dst)).Nodup := by simp only [gdB, slotsB, Bool.and_eq_true, decide_eq_true_eq] at hs; exact hs.2
  have hSl : ∀ c ∈ S, c < ops.size := fun c hc => by simpa using List.all_eq_true.1 hS c hc
  have main : ∀ (fuel : Nat) (listed : Array Bool) (vs : Nat → Value) (w' : World), listed.size = ops.size → (unlisted ops.size listed).length ≤ fuel → E (told S (fun j => listed.getD j true) vs) w' →
      (∀ i, i < ops.size → listed.getD i true = true → S.contains i = false → G i w' (vs i)) → (∀ j, j < ops.size → listed.getD j true = false → ∀ d, (ops[j]?).bind (·.dst) = some d → vs j = a.eval (.tmp d)) → wpAnyS P ops Q fuel listed (putAll a ops.toList vs 0) w' := by
    intro fuel
    have fin : ∀ (listed : Array Bool) (vs : Nat → Value) (w' : World), E (told S (fun j => listed.getD j true) vs) w' →
        (∀ i, i < ops.size → listed.getD i true = true → S.contains i = false → G i w' (vs i)) → (∀ i, i < ops.size → listed.getD i true = true) → Q .normal (putAll a ops.toList vs 0) w' := by
      intro listed vs w' hE' hG' hall
      refine hend vs w' ?_ fun i hi hc => hG' i hi (hall i hi) hc
      have : told S (fun j => listed.getD j true) vs = S.map fun j => some (vs j) := List.map_congr_left fun j hj => by simp [hall j (hSl j hj)]
      rw [← this]; exact hE'
    induction fuel with
    | zero =>
      intro listed vs w' hsz hu hE' hG' hun
      have hall : ∀ i, i < ops.size → listed.getD i true = true := by
        intro i hi
        cases hl : listed.getD i true with
        | true => rfl
        | false =>
          have : i ∈ unlisted ops.size listed := List.mem_filter.2 ⟨List.mem_range.2 hi, by simp [hl]⟩
          rw [List.eq_nil_of_length_eq_zero (Nat.le_zero.1 hu)] at this
          cases this
      refine ⟨?_, fin listed vs w' hE' hG' hall⟩
      unfold Region.ready
      rw [List.filter_eq_nil_iff]
      intro i hi
      simp [hall i (List.mem_range.1 hi)]
    | succ fuel ih =>
      intro listed vs w' hsz hu hE' hG' hun
      refine ⟨fun hr => fin listed vs w' hE' hG' (fun i hi => all_listed_gd hs hr i hi), fun i hi => ?_⟩
      unfold Region.ready at hi
      obtain ⟨hi1, hi2⟩ := List.mem_filter.1 hi
      have hlt := List.mem_range.1 hi1
      rw [Bool.and_eq_true] at hi2
      obtain ⟨hl, hdep⟩ := hi2
      have hl' : listed.getD i true = false := by simpa using hl
      obtain ⟨o, ho⟩ : ∃ o, ops[i]? = some o := ⟨_, Array.getElem?_eq_getElem hlt⟩
      rw [ho] at hdep
      simp only [Option.map_some, Option.getD_some] at hdep
      rw [Array.all_eq_true'] at hdep
      have hgop := StAll.get ops.toList 0 i o hop (by rw [Array.getElem?_toList]; exact ho)
      rw [Nat.zero_add] at hgop
      have hdepG : ∀ e ∈ o.after, Region.binds .any e = true → e.on < ops.size ∧ listed.getD e.on true = true := by
        intro e he hbn
        have h := hdep e he
        rw [hbn] at h
        simp only [Bool.not_true, Bool.false_or] at h
        have hin : e.on < listed.size := by
          rcases Nat.lt_or_ge e.on listed.size with h' | h'
          · exact h'
          · simp [Array.getD_eq_getD_getElem?, Array.getElem?_eq_none_iff.2 h'] at h
        have hl2 : listed.getD e.on true = true := by
          simp only [Array.getD_eq_getD_getElem?, Array.getElem?_eq_getElem hin, Option.getD_some] at h ⊢
          exact h
        exact ⟨by omega, hl2⟩
      have hdepS : ∀ e ∈ o.after, Region.binds .any e = true → S.contains e.on = false → G e.on w' (vs e.on) := fun e he hbn hc => hG' e.on (hdepG e he hbn).1 (hdepG e he hbn).2 hc
      have hdepD : ∀ e ∈ o.after, Region.binds .any e = true → (fun j => listed.getD j true) e.on = true := fun e he hbn => (hdepG e he hbn).2
      have hlate : ∀ j d, (fun j => listed.getD j true) j = false → (ops[j]?).bind (·.dst) = some d → vs j = a.eval (.tmp d) := by
        intro j d hj hd
        refine hun j ?_ hj d hd
        rcases Nat.lt_or_ge j ops.size with h | h
        · exact h
        · rw [Array.getElem?_eq_none h] at hd; simp at hd
      have hset : ∀ j, (listed.setIfInBounds i true).getD j true = don (fun j => listed.getD j true) i j := fun j => by
        by_cases hji : j = i
        · subst hji
          simp [don, Array.getD_eq_getD_getElem?, Array.getElem?_setIfInBounds_self_of_lt (by omega : j < listed.size)]
        · simp [don, hji, Array.getD_eq_getD_getElem?, Array.getElem?_setIfInBounds_ne (Ne.symm hji)]
      have step : ∀ (v : Value) (w2 : World), E (told S (don (fun j => listed.getD j true) i) (upd vs i v)) w2 → (S.contains i = false → G i w2 v) → (∀ j u, S.contains j = false → G j w' u → G j w2 u) → wpAnyS P ops Q fuel (listed.setIfInBounds i true) ((putAll a ops.toList vs 0).put o.dst v) w2 := by
        intro v w2 hE2 hGi hGs
        rw [putAll_put ops.toList a vs 0 i o v hnd (by rw [Array.getElem?_toList]; exact ho), Nat.zero_add]
        refine ih _ _ _ (by simp [hsz]) (by have := unlisted_set hsz hlt hl'; omega) ?_ (fun j hj hlj hc => ?_) (fun j hj hlj d hd => ?_)
        · rw [show (fun j => (listed.setIfInBounds i true).getD j true) = don (fun j => listed.getD j true) i from funext hset]
          exact hE2
        · by_cases hji : j = i
          · subst hji
            simpa [upd] using hGi hc
          · have hlj' : listed.getD j true = true := by rw [hset] at hlj; simpa [don, hji] using hlj
            have hv : upd vs i v j = vs j := by simp [upd, hji]
            rw [hv]
            exact hGs j _ hc (hG' j hj hlj' hc)
        · have hji : j ≠ i := fun e => by
            rw [hset, e] at hlj
            simp [don] at hlj
          have hv : upd vs i v j = vs j := by simp [upd, hji]
          rw [hv]
          rw [hset] at hlj
          exact hun j hj (by simpa [don, hji] using hlj) d hd
      unfold wpOpS
      simp only [ho, Region.wanted, hgop.1, if_true]
      rcases hgop.2 with ⟨hc, hln⟩ | ⟨hc, hsd⟩
      · have hwp := hln (putAll a ops.toList vs 0) vs (fun j => listed.getD j true) w' (fun t h => eval_putAll_out _ _ _ _ _ h) (fun t j ht h => eval_putAll_in _ _ _ _ _ _ hnd ht h) hl' hE' hdepD hlate hdepS
        refine Oper.wp_mono ?_ hwp
        rintro a2 w2 ⟨v, rfl, hE2, hK2⟩
        exact step v w2 hE2 (fun h => by rw [hc] at h; cases h) (fun j u _ hg => hK j w' u w2 hg hK2)
      · have hci : i ∉ S := fun h => by rw [List.contains_iff_mem.2 h] at hc; cases hc
        have hwp := hsd (putAll a ops.toList vs 0) vs (fun j => listed.getD j true) w' (fun t h => eval_putAll_out _ _ _ _ _ h) (fun t j ht h => eval_putAll_in _ _ _ _ _ _ hnd ht h) hl' hE' hdepD hlate hdepS
        refine Oper.wp_mono ?_ hwp
        rintro a2 w2 ⟨v, rfl, hg, hb2⟩
        refine step v w2 ?_ (fun _ => hg) (fun j u _ hgj => hG j w' u w2 hgj hb2)
        rw [told_out hci]
        exact hE _ _ _ hE' hb2
  have hbz : Below w.heap.size w { w with drawn := w.drawn + 1 } := ⟨rfl, rfl, rfl, Nat.le_refl _, fun _ _ => rfl⟩
  have hno : ∀ j, j < ops.size → (Array.replicate ops.size false).getD j true = false := fun j hj => by simp [Array.getD_eq_getD_getElem?, hj]
  have h1 := main ops.size (Array.replicate ops.size false) (fun i => ((ops[i]?).bind (·.dst)).elim undef (fun d => a.tmps.getD d undef)) { w with drawn := w.drawn + 1 } (by simp)
    (by have := List.length_filter_le (fun i => !(Array.replicate ops.size false).getD i true) (List.range ops.size); simpa [unlisted] using this)
    (by
      have : told S (fun j => (Array.replicate ops.size false).getD j true) (fun i => ((ops[i]?).bind (·.dst)).elim undef (fun d => a.tmps.getD d undef)) = S.map fun _ => none := List.map_congr_left fun j hj => by simp [hno j (hSl j hj)]
      rw [this]
      exact hE _ _ _ h0 hbz)
    (fun i hi h => by rw [hno i hi] at h; cases h)
    (fun j hj _ d hd => by simp only [hd, Option.elim]; rfl)
  rw [putAll_orig ops.toList a _ 0 (fun j o d hj hd => by
    rw [Array.getElem?_toList] at hj
    simp [hj, hd])] at h1
  exact h1
theorem wp_region_set {id : Nat} {ops : Array Oper} {a : Act} {w : World} (hm : P.follows .mixedOrders = true) (hs : gdB ops = true) (S : List Nat) (hS : (S.all fun c => decide (c < ops.size)) = true) (G : Nat → World → Value → Prop) (E : List (Option Value) → World → Prop) (K : World → World → Prop)
    (hG : ∀ i w v w', G i w v → Below w.heap.size w w' → G i w' v) (hK : ∀ i w v w', G i w v → K w w' → G i w' v) (hE : ∀ l w w', E l w → Below w.heap.size w w' → E l w') (h0 : E (S.map fun _ => none) w)
    (hop : StAll P Q ops a S G E K 0 ops.toList)
    (hend : ∀ (vs : Nat → Value) (w' : World), E (S.map fun j => some (vs j)) w' → (∀ i, i < ops.size → S.contains i = false → G i w' (vs i)) → Q .normal (putAll a ops.toList vs 0) w') : (Code.region id ops true).wp P Q a w := wp_region_S hm (anyS_set hs S hS G E K hG hK hE h0 hop hend)
theorem wpIn_region_set {l n : Nat} {id : Nat} {ops : Array Oper} {a : Act} {w : World} (hm : P.follows .mixedOrders = true) (hd : noDefer ops = true) (hs : gdB ops = true) (S : List Nat) (hS : (S.all fun c => decide (c < ops.size)) = true) (G : Nat → World → Value → Prop) (E : List (Option Value) → World → Prop) (K : World → World → Prop)
    (hG : ∀ i w v w', G i w v → Below w.heap.size w w' → G i w' v) (hK : ∀ i w v w', G i w v → K w w' → G i w' v) (hE : ∀ l w w', E l w → Below w.heap.size w w' → E l w') (h0 : E (S.map fun _ => none) w)
    (hop : StAll P Q ops a S G E K 0 ops.toList)
    (hend : ∀ (vs : Nat → Value) (w' : World), E (S.map fun j => some (vs j)) w' → (∀ i, i < ops.size → S.contains i = false → G i w' (vs i)) → Q .normal (putAll a ops.toList vs 0) w') : (Code.region id ops true).wpIn (Fence.wide.inRound l) n P Q a w := wpIn_region_S hm hd (anyS_set hs S hS G E K hG hK hE h0 hop hend)
end
section
variable {P : Program} {Q : Exit → Act → World → Prop} {K : World → World → Prop}
theorem wp_region_setl {id : Nat} {ops : Array Oper} {a : Act} {w : World} (hm : P.follows .mixedOrders = true) (hs : gdB ops = true) (S : List Nat) (hS : (S.all fun c => decide (c < ops.size)) = true) (Gs : List (SGn K)) (E : List (Option Value) → World → Prop)
    (hE : ∀ l w w', E l w → Below w.heap.size w w' → E l w') (h0 : E (S.map fun _ => none) w)
    (hop : StAll P Q ops a S (fun i => (Gs.getD i lAny).1) E K 0 ops.toList)
    (hend : ∀ (vs : Nat → Value) (w' : World), E (S.map fun j => some (vs j)) w' → (∀ i, i < ops.size → S.contains i = false → (Gs.getD i lAny).1 w' (vs i)) → Q .normal (putAll a ops.toList vs 0) w') : (Code.region id ops true).wp P Q a w :=
  wp_region_set hm hs S hS (fun i => (Gs.getD i lAny).1) E K (fun i => (Gs.getD i lAny).2.1) (fun i => (Gs.getD i lAny).2.2) hE h0 hop hend
theorem wpIn_region_setl {l n : Nat} {id : Nat} {ops : Array Oper} {a : Act} {w : World} (hm : P.follows .mixedOrders = true) (hd : noDefer ops = true) (hs : gdB ops = true) (S : List Nat) (hS : (S.all fun c => decide (c < ops.size)) = true) (Gs : List (SGn K)) (E : List (Option Value) → World → Prop)
    (hE : ∀ l w w', E l w → Below w.heap.size w w' → E l w') (h0 : E (S.map fun _ => none) w)
    (hop : StAll P Q ops a S (fun i => (Gs.getD i lAny).1) E K 0 ops.toList)
    (hend : ∀ (vs : Nat → Value) (w' : World), E (S.map fun j => some (vs j)) w' → (∀ i, i < ops.size → S.contains i = false → (Gs.getD i lAny).1 w' (vs i)) → Q .normal (putAll a ops.toList vs 0) w') : (Code.region id ops true).wpIn (Fence.wide.inRound l) n P Q a w :=
  wpIn_region_set hm hd hs S hS (fun i => (Gs.getD i lAny).1) E K (fun i => (Gs.getD i lAny).2.1) (fun i => (Gs.getD i lAny).2.2) hE h0 hop hend
end
end Go.Proofs.Ytobelnedhlepaaa
namespace Go.Proofs.Ytobelnedhlepaaa
open Go.RowKit
structure RdQ (R : (Nat → Prop) → World → Value → Prop) : Prop where
  keep : ∀ {S : Nat → Prop} {w w' : World} {v : Value}, R S w v → (∀ k, S k → w'.heap[k]? = w.heap[k]?) → R S w' v
  weak : ∀ {S S' : Nat → Prop} {w : World} {v : Value}, R S w v → (∀ k, S k → S' k) → R S' w v
structure BxE (R : (Nat → Prop) → World → Value → Prop) (Te : TypeId) (Z : List Value) (mk : Value → List Value) (W : World) (oc ob oa os : Option Value) (w : World) : Prop where
  bl : Below W.heap.size W w
  cl : ∀ u, oc = some u → R (fun k => (W.heap.size ≤ k ∧ k < w.heap.size) ∧ ∀ b, oa = some (.pointer (some ⟨b, 0, none⟩)) → k ≠ b) w u
  bd : ∀ u, ob = some u → ∃ c, oc = some c ∧ u = .agg (mk c).toArray
  al : ∀ u, oa = some u → ∃ b, u = .pointer (some ⟨b, 0, none⟩) ∧ (W.heap.size ≤ b ∧ b < w.heap.size) ∧ (os = none → BoxN w b Te Z) ∧ (os ≠ none → ∃ c, oc = some c ∧ BoxN w b Te (mk c))
  st : os ≠ none → ob ≠ none ∧ oa ≠ none
def BxeL (R : (Nat → Prop) → World → Value → Prop) (Te : TypeId) (Z : List Value) (mk : Value → List Value) (W : World) : List (Option Value) → World → Prop
  | [oc, ob, oa, os], w => BxE R Te Z mk W oc ob oa os w
  | _, _ => False
section
variable {R : (Nat → Prop) → World → Value → Prop} {Te : TypeId} {Z : List Value} {mk : Value → List Value} {W w w2 : World} {oc ob oa os : Option Value}
theorem BxE.start : BxE R Te Z mk W none none none none W :=
  ⟨Below.refl _ _, fun _ h => (by cases h), fun _ h => (by cases h), fun _ h => (by cases h), fun h => absurd rfl h⟩
theorem BxE.more (hR : RdQ R) (h : BxE R Te Z mk W oc ob oa os w) (hb : Below w.heap.size w w2) : BxE R Te Z mk W oc ob oa os w2 where
  bl := h.bl.trans (hb.mono h.bl.size)
  cl u hu := hR.weak (hR.keep (h.cl u hu) fun k hk => hb.block k hk.1.2) fun _ hk => ⟨⟨hk.1.1, Nat.lt_of_lt_of_le hk.1.2 hb.size⟩, hk.2⟩
  bd := h.bd
  al u hu := by
    obtain ⟨b, e, h1, h2, h3⟩ := h.al u hu
    exact ⟨b, e, ⟨h1.1, Nat.lt_of_lt_of_le h1.2 hb.size⟩, fun e => (h2 e).below hb h1.2, fun e => by obtain ⟨c, e2, h4⟩ := h3 e; exact ⟨c, e2, h4.below hb h1.2⟩⟩
  st := h.st
theorem BxeL.more (hR : RdQ R) : ∀ (l : List (Option Value)) (w w' : World), BxeL R Te Z mk W l w → Below w.heap.size w w' → BxeL R Te Z mk W l w'
  | [_, _, _, _], _, _, h, hb => BxE.more hR h hb
theorem BxE.call (hR : RdQ R) (h : BxE R Te Z mk W none ob oa os w) (hb : Below w.heap.size w w2) {u : Value} (hu : R (fun k => w.heap.size ≤ k ∧ k < w2.heap.size) w2 u) : BxE R Te Z mk W (some u) ob oa os w2 := by
  have h0 : ob = none := by
    cases e : ob with
    | none => rfl
    | some v => obtain ⟨_, e2, _⟩ := h.bd v e; cases e2
  have h1 : os = none := by
    cases e : os with
    | none => rfl
    | some v => exact absurd h0 (h.st (by rw [e]; simp)).1
  subst h0 h1
  have h2 := h.more hR hb
  refine ⟨h2.bl, fun v hv => ?_, fun _ e => (by cases e), fun v hv => ?_, h2.st⟩
  · injection hv with hv
    subst hv
    refine hR.weak hu fun k hk => ⟨⟨Nat.le_trans h.bl.size hk.1, hk.2⟩, fun b e => ?_⟩
    obtain ⟨b', e', hb', _⟩ := h.al _ e
    cases e'
    omega
  · obtain ⟨b, e, h3, h4, _⟩ := h2.al v hv
    exact ⟨b, e, h3, h4, fun e => absurd rfl e⟩
theorem BxE.build {c : Value} (h : BxE R Te Z mk W (some c) none oa os w) : BxE R Te Z mk W (some c) (some (.agg (mk c).toArray)) oa os w :=
  ⟨h.bl, h.cl, fun u hu => ⟨c, rfl, by injection hu with hu; exact hu.symm⟩, h.al, fun e => absurd rfl (h.st e).1⟩
theorem BxE.alloc (hR : RdQ R) (h : BxE R Te Z mk W oc ob none os w) (hb : Below w.heap.size w w2) (hlt : w.heap.size < w2.heap.size) (hB : BoxN w2 w.heap.size Te Z) : BxE R Te Z mk W oc ob (some (.pointer (some ⟨w.heap.size, 0, none⟩))) os w2 := by
  have h1 : os = none := by
    cases e : os with
    | none => rfl
    | some v => exact absurd rfl (h.st (by rw [e]; simp)).2
  subst h1
  have h2 := h.more hR hb
  refine ⟨h2.bl, fun v hv => ?_, h.bd, fun v hv => ?_, fun e => absurd rfl e⟩
  · refine hR.weak (hR.keep (h.cl v hv) fun k hk => hb.block k hk.1.2) fun k hk => ⟨⟨hk.1.1, Nat.lt_of_lt_of_le hk.1.2 hb.size⟩, fun b e => ?_⟩
    injection e with e
    injection e with e
    injection e with e
    injection e with e
    have := hk.1.2
    omega
  · injection hv with hv
    exact ⟨_, hv.symm, ⟨h.bl.size, hlt⟩, fun _ => hB, fun e => absurd rfl e⟩
theorem BxE.box {u : Value} (h : BxE R Te Z mk W oc ob (some u) none w) : ∃ b, u = .pointer (some ⟨b, 0, none⟩) ∧ BoxN w b Te Z := by
  obtain ⟨b, e, _, h1, _⟩ := h.al u rfl
  exact ⟨b, e, h1 rfl⟩
theorem BxE.built {u : Value} (h : BxE R Te Z mk W oc (some u) oa os w) : ∃ c, oc = some c ∧ u = .agg (mk c).toArray := h.bd u rfl
theorem BxE.sto (hR : RdQ R) {c u0 s : Value} {b : Nat} (h : BxE R Te Z mk W (some c) (some u0) (some (.pointer (some ⟨b, 0, none⟩))) none w) (hg : w.grownBy w2 (some b)) (hB : BoxN w2 b Te (mk c)) : BxE R Te Z mk W (some c) (some u0) (some (.pointer (some ⟨b, 0, none⟩))) (some s) w2 := by
  obtain ⟨b', e', hb', _⟩ := h.al _ rfl
  cases e'
  refine ⟨h.bl.grown hg h.bl.size fun k e => by injection e with e; omega, fun v hv => ?_, h.bd, fun v hv => ?_, fun _ => ⟨by simp, by simp⟩⟩
  · exact hR.weak (hR.keep (h.cl v hv) fun k hk => hg.block k hk.1.2 fun e => by injection e with e; exact hk.2 b rfl e) fun k hk => ⟨⟨hk.1.1, Nat.lt_of_lt_of_le hk.1.2 hg.size⟩, hk.2⟩
  · injection hv with hv
    exact ⟨b, hv.symm, ⟨hb'.1, Nat.lt_of_lt_of_le hb'.2 hg.size⟩, fun e => (by cases e), fun _ => ⟨c, rfl, hB⟩⟩
theorem BxE.done (hR : RdQ R) {c u0 u1 s : Value} (h : BxE R Te Z mk W (some c) (some u0) (some u1) (some s) w) : u0 = .agg (mk c).toArray ∧ ∃ b, u1 = .pointer (some ⟨b, 0, none⟩) ∧ (W.heap.size ≤ b ∧ b < w.heap.size) ∧ BoxN w b Te (mk c) ∧ R (fun k => (W.heap.size ≤ k ∧ k < w.heap.size) ∧ k ≠ b) w c ∧ Below W.heap.size W w := by
  obtain ⟨c', e, e2⟩ := h.bd _ rfl
  injection e with e
  subst e
  obtain ⟨b, rfl, h1, _, h3⟩ := h.al _ rfl
  obtain ⟨c', e, h4⟩ := h3 (by simp)
  injection e with e
  subst e
  exact ⟨e2, b, rfl, h1, h4, hR.weak (h.cl _ rfl) fun k hk => ⟨hk.1, hk.2 b rfl⟩, h.bl⟩
end
end Go.Proofs.Ytobelnedhlepaaa
namespace Go.Proofs.Ytobelnedhlepaaa
open Go.RowKit
section
variable {α : Type} {E : Elt α} {P : Program} {T Te : TypeId} {ops : Array Oper} {rest : List Oper} {o : Oper} {a : Act} {Q : Exit → Act → World → Prop} {w : World} {K : Act → World → Prop}
theorem run_buildZero (hP : LoP P T Te E.size) (w : World) : (Instr.buildSlice T 0 #[]).run P w = .ok (.slice (some ⟨w.heap.size, 0, none⟩) 0 0) (w.alloc (.cells #[] Te)) := by
  obtain ⟨i, z, hi, hz, hsz, hby, hzs⟩ := hP.all
  have e0 : Array.range 0 = #[] := by decide
  simp [Instr.buildSlice, run_underlying hP.hT, sizeOf, typeInfo, hi, newRow, Instr.fill, e0]
theorem ownL_zero (E : Elt α) (Te : TypeId) (w : World) : OwnL E Te w.heap.size w.heap.size (w.alloc (.cells #[] Te)) (.slice (some ⟨w.heap.size, 0, none⟩) 0 0) [] := by
  refine ⟨[], ⟨by simp, .inr ⟨w.heap.size, 0, #[], rfl, Nat.le_refl _, ?_, by simp, by unfold maxLen; omega, by simp, by simp⟩⟩, rfl⟩
  simp only [World.alloc, Array.getElem?_push_size]
theorem wp_buildZero (hP : LoP P T Te E.size) (ho : o.op = .buildSlice T 0 #[]) (h : ∀ w', Below w.heap.size w w' → OwnL E Te w.heap.size w.heap.size w' (.slice (some ⟨w.heap.size, 0, none⟩) 0 0) [] → K (a.put o.dst (.slice (some ⟨w.heap.size, 0, none⟩) 0 0)) w') : o.wp P a w K Q := by
  have hrun := run_buildZero (E := E) hP w
  unfold Oper.wp execOp
  simp only [ho, Sem.run_bind, Sem.run_pure, Result.andThen_ok, List.map_toArray, List.map_nil, hrun]
  exact h _ ((Below.refl _ _).alloc (Nat.le_refl _) _) (ownL_zero E Te w)
theorem wpList_buildZero (hP : LoP P T Te E.size) (ho : o.op = .buildSlice T 0 #[]) (hgd : Region.wanted o (yielded ops a.tmps) = true) (h : ∀ w', Below w.heap.size w w' → OwnL E Te w.heap.size w.heap.size w' (.slice (some ⟨w.heap.size, 0, none⟩) 0 0) [] → wpList P ops Q rest (a.put o.dst (.slice (some ⟨w.heap.size, 0, none⟩) 0 0)) w') : wpList P ops Q (o :: rest) a w :=
  BigFrame.wpList_want hgd fun _ hK => wp_buildZero hP ho fun w' h1 h2 => hK _ _ (h w' h1 h2)
theorem wpList_append_zeroL (hP : LoP P T Te E.size) {s x : Operand} (ho : o.op = .call { callee := .builtin .append, args := #[s, x], argTypes := #[T, T] }) (hgd : Region.wanted o (yielded ops a.tmps) = true)
    {base lo : Nat} {g : Addr} {ax : Option Addr} {cx nx : Nat} {ys : List α} {S : Nat → Prop} (hs : a.eval s = .slice (some g) 0 0) (hown : OwnL E Te base lo w (.slice (some g) 0 0) []) (hx : a.eval x = .slice ax nx cx) (hr : RdL E S w (.slice ax nx cx) ys)
    (hS : ∀ k, S k → lo ≤ k ∧ k < w.heap.size) (hbase : base ≤ w.heap.size)
    (h : ∀ ad k cap w', OwnL E Te base lo w' (.slice ad k cap) ys → Below w.heap.size w w' → wpList P ops Q rest (a.put o.dst (.slice ad k cap)) w') (hlen : ys.length ≤ 1073741824) : wpList P ops Q (o :: rest) a w :=
  BigFrame.wpList_want hgd fun _ hK => wp_append_zeroL hP ho hs hown hx hr hS hbase (fun ad k cap w' h1 h2 => hK _ _ (h ad k cap w' h1 h2)) hlen
end
end Go.Proofs.Ytobelnedhlepaaa
namespace Go.Proofs.Ytobelnedhlepaaa
open Go.RowKit
theorem clone_any (w : World) {B : Nat} {ad : Option Addr} {n c : Nat} {xs : List UInt8} (hr : Rd B w (.slice ad n c) xs) (hB : B ≤ w.heap.size) (hx : xs.length ≤ 1000000) :
    Calls Try.prog 53 #[.slice ad n c] w fun e w' => ∃ ad' k c', e = .returned (.slice ad' k c') ∧ Fresh 5 w w' (.slice ad' k c') xs := by
  have he := fun (w : World) (ad : Option Addr) (n c : Nat) => Lib.run_eql_slice_nil (P := Try.prog) w 55 5 ad n c 0 0 byP.hT
  obtain ⟨rfl, _, _⟩ := hr.len
  cases ad with
  | none =>
    have hr' := hr
    rcases hr with ⟨_, _, h, _, rfl⟩ | ⟨_, _, _, h, _⟩
    · go_enter Try.func53, Try.ntmps53
      go_wp2
      go_ret
      exact ⟨_, _, _, rfl, Fresh.nil _ _⟩
    · cases h
  | some p =>
    go_enter Try.func53, Try.ntmps53
    go_wp2_with (first
      | (refine wpList_build byP rfl rfl [] (by kernel_rfl) rfl (by simp) ?_; intro g k1 w1 hF)
      | (at_builtin; refine wpList_append byP rfl rfl rfl hF.2 rfl (hr.below (hF.1.mono hB)) hF.1.size ?_ ?hlen; intro ad' k' c' w2 hO hg hb))
    case hlen => simp; omega
    go_ret
    exact ⟨_, _, _, rfl, hF.1.trans hb, hO⟩
end Go.Proofs.Ytobelnedhlepaaa
namespace Go.Proofs.Ytobelnedhlepaaa
open Go.RowKit Go.Shelf
theorem boxes2 (w : World) (t t2 : TypeId) (us vs : List Value) : ∃ W, W = (w.alloc (.cells us.toArray t)).alloc (.cells vs.toArray t2) ∧ Below w.heap.size w W ∧ BoxN W w.heap.size t us ∧ BoxN W (w.heap.size + 1) t2 vs ∧ W.heap.size = w.heap.size + 1 + 1 := by
  have h1 : Below w.heap.size w (w.alloc (.cells us.toArray t)) := (Below.refl _ _).alloc (Nat.le_refl _) _
  have s1 : (w.alloc (.cells us.toArray t)).heap.size = w.heap.size + 1 := World.size_alloc _ _
  have b1 := BoxN.new w t us
  generalize w.alloc (.cells us.toArray t) = w1 at *
  have h2 : Below w1.heap.size w1 (w1.alloc (.cells vs.toArray t2)) := (Below.refl _ _).alloc (Nat.le_refl _) _
  have s2 : (w1.alloc (.cells vs.toArray t2)).heap.size = w1.heap.size + 1 := World.size_alloc _ _
  have b2 := BoxN.new w1 t2 vs
  rw [s1] at b2 s2
  exact ⟨_, rfl, h1.trans (h2.mono h1.size), b1.below h2 b1.lt, b2, s2⟩
def NewS (W V : World) (k : Value) (xs : List UInt8) : Prop := ∃ a c, k = .slice a xs.length c ∧ RdS (fun g => W.heap.size ≤ g ∧ g < V.heap.size) V (.slice a xs.length c) xs
theorem NewS.below {W V V' : World} {k : Value} {xs : List UInt8} (h : NewS W V k xs) (hb : Below V.heap.size V V') : NewS W V' k xs := by
  obtain ⟨a, c, e, hr⟩ := h
  exact ⟨a, c, e, (hr.below hb).weak fun g hg => ⟨hg.1, Nat.lt_of_lt_of_le hg.2 hb.size⟩⟩
def WrEnd (w : World) (x : Wr) (e : Ending) (w' : World) : Prop := ∃ v, e = .returned v ∧ RdWr (fun k => w.heap.size ≤ k ∧ k < w'.heap.size) w' v x ∧ Below w.heap.size w w'
end Go.Proofs.Ytobelnedhlepaaa
namespace Go.Proofs.Ytobelnedhlepaaa
open Go.RowKit Go.Shelf
section
variable {α : Type} {P : Program} {T E S t : TypeId} {ops : Array Oper} {rest : List Oper} {o : Oper} {a : Act} {Q : Exit → Act → World → Prop} {w : World} {K : Act → World → Prop}
theorem wp_buildZ (hP : ByP P T E S) (ho : o.op = .buildSlice T 0 #[]) (h : ∀ w', Fresh E w w' (.slice (some ⟨w.heap.size, 0, none⟩) 0 0) [] → K (a.put o.dst (.slice (some ⟨w.heap.size, 0, none⟩) 0 0)) w') : o.wp P a w K Q := by
  have hrun := run_build hP w [] (by simp)
  have hf := fresh_build E w [] (by simp)
  simp only [bv, List.map_nil, List.zipIdx_nil, List.length_nil] at hrun hf
  unfold Oper.wp execOp
  simp only [ho, Sem.run_bind, Sem.run_pure, Result.andThen_ok, List.map_toArray, List.map_nil, hrun]
  exact h _ hf
theorem wp_build4 (hP : StP P t 4) {x y z s : Operand} {u v r q : Value} (ho : o.op = .build t #[(0, x), (1, y), (2, z), (3, s)]) (hx : a.eval x = u) (hy : a.eval y = v) (hz : a.eval z = r) (hs : a.eval s = q) (hu1 : u.cells = #[u]) (hv1 : v.cells = #[v]) (hr1 : r.cells = #[r]) (hq1 : q.cells = #[q]) (h : K (a.put o.dst (.agg #[u, v, r, q])) w) : o.wp P a w K Q := by
  obtain ⟨fs, hu, hfs, hf⟩ := hP.hu
  obtain ⟨f0, g0, o0, s0⟩ := hf 0 (by omega)
  obtain ⟨f1, g1, o1, s1⟩ := hf 1 (by omega)
  obtain ⟨f2, g2, o2, s2⟩ := hf 2 (by omega)
  obtain ⟨f3, g3, o3, s3⟩ := hf 3 (by omega)
  obtain ⟨zs, hzs, hz0⟩ := hP.zero
  obtain ⟨l⟩ := fs
  obtain ⟨zl⟩ := zs
  match l, hfs with
  | [k0, k1, k2, k3], _ =>
    match zl, hzs with
    | [z0, z1, z2, z3], _ =>
      simp at g0 g1 g2 g3
      subst g0; subst g1; subst g2; subst g3
      refine wp_run' ?_ h
      simp only [execOp, ho, List.map_toArray, List.map_cons, List.map_nil, hx, hy, hz, hs]
      simp [Instr.build, run_underlying hu, hz0, run_sizeOf' s0, run_sizeOf' s1, run_sizeOf' s2, run_sizeOf' s3, Instr.fill, hu1, hv1, hr1, hq1, o0, o1, o2, o3, show (Value.agg #[z0, z1, z2, z3]).cells = #[z0, z1, z2, z3] from rfl]
end
def pZb (W : World) (bz : Nat) (hbz : bz < W.heap.size) : SGn (fun A B => A.grownBy B (some bz)) :=
  ⟨fun V v => ∃ g, v = .slice (some g) 0 0 ∧ Own 5 W.heap.size V v [], fun _ _ _ ⟨g, e, h⟩ hb => ⟨g, e, h.below hb⟩,
    fun _ _ _ ⟨g, e, n, h⟩ hk => ⟨g, e, n, h.1, h.2.imp id fun ⟨g, cap, cur, hv, h1, hg, r⟩ => ⟨g, cap, cur, hv, h1, (hk.block g (Array.getElem?_eq_some_iff.1 hg).1 (fun e => by injection e with e; omega)).trans hg, r⟩⟩⟩
def pWr (W : World) (bz : Nat) (hbz : bz < W.heap.size) (x : Wr) : SGn (fun A B => A.grownBy B (some bz)) :=
  ⟨fun V v => RdWr (fun k => W.heap.size ≤ k ∧ k < V.heap.size) V v x, fun _ _ _ hr hb => (hr.below hb).weak fun _ hk => ⟨hk.1, Nat.lt_of_lt_of_le hk.2 hb.size⟩,
    fun _ _ _ ⟨a, c, a2, c2, e, h1, h2, h3⟩ hk => ⟨a, c, a2, c2, e, (h1.keep fun k hh => hk.block k hh.2 (fun e => by injection e with e; have := hh.1; omega)).weak fun _ hh => ⟨hh.1, Nat.lt_of_lt_of_le hh.2 hk.size⟩, (h2.keep fun k hh => hk.block k hh.2 (fun e => by injection e with e; have := hh.1; omega)).weak fun _ hh => ⟨hh.1, Nat.lt_of_lt_of_le hh.2 hk.size⟩, h3⟩⟩
theorem NewS.own {W V : World} {a : Option Addr} {k c : Nat} {xs : List UInt8} (h : Own 5 W.heap.size V (.slice a k c) xs) : NewS W V (.slice a k c) xs := by
  obtain rfl : k = xs.length := h.len
  exact ⟨a, c, rfl, h.rdS⟩
def WriJ (W : World) (b : Nat) (x : Wr) : List Value → World → Prop
  | [], V => Below W.heap.size W V
  | [k], V => Below W.heap.size W V ∧ NewS W V k x.key
  | [k, v], V => Below W.heap.size W V ∧ NewS W V k x.key ∧ NewS W V v x.val
  | _, V => W.grownBy V (some b) ∧ ∃ a c a2 c2, BoxN V b 59 [.int .i64 x.table, .slice a x.key.length c, .bool x.gone, .slice a2 x.val.length c2] ∧ RdS (fun k => W.heap.size ≤ k ∧ k < V.heap.size) V (.slice a x.key.length c) x.key ∧ RdS (fun k => W.heap.size ≤ k ∧ k < V.heap.size) V (.slice a2 x.val.length c2) x.val
theorem WriJ.below {W : World} {b : Nat} {x : Wr} : ∀ (l : List Value) (V V' : World), WriJ W b x l V → Below V.heap.size V V' → WriJ W b x l V'
  | [], _, _, h, hb => Below.trans h (hb.mono (Below.size h))
  | [_], _, _, ⟨h, h1⟩, hb => ⟨h.trans (hb.mono h.size), h1.below hb⟩
  | [_, _], _, _, ⟨h, h1, h2⟩, hb => ⟨h.trans (hb.mono h.size), h1.below hb, h2.below hb⟩
  | _ :: _ :: _ :: _, _, _, ⟨h, a, c, a2, c2, h0, h1, h2⟩, hb => ⟨grown_trans h (grown_below' hb _), a, c, a2, c2, h0.below hb h0.lt, (h1.below hb).weak fun _ hk => ⟨hk.1, Nat.lt_of_lt_of_le hk.2 hb.size⟩, (h2.below hb).weak fun _ hk => ⟨hk.1, Nat.lt_of_lt_of_le hk.2 hb.size⟩⟩
set_option maxRecDepth 100000 in
set_option maxHeartbeats 4000000 in
theorem rWrite_any (w : World) {S : Nat → Prop} {v : Value} {x : Wr} (h : RdWr S w v x) (h1 : x.key.length ≤ 1000000) (h2 : x.val.length ≤ 1000000) :
    Calls Try.prog 68 #[v] w (WrEnd w x) := by
  obtain ⟨a, c, a2, c2, rfl, hk, hv, ht⟩ := h
  obtain ⟨W, hW, q, bn, bz, hsz⟩ := boxes2 w 59 59 [.int .i64 x.table, .slice a x.key.length c, .bool x.gone, .slice a2 x.val.length c2] [.int .i64 0, .slice none 0 0, .bool false, .slice none 0 0]
  go_enter Try.func68, Try.ntmps68
  go_upto_region 1 with (fail)
  rw [show (w.alloc (.cells #[.int .i64 x.table, .slice a x.key.length c, .bool x.gone, .slice a2 x.val.length c2] 59)).alloc (.cells #[.int .i64 0, .slice none 0 0, .bool false, .slice none 0 0] 59) = W from hW.symm]
  clear hW
  have hk' := hk.below q
  have hv' := hv.below q
  refine wp_region_lnl (K := fun A B => A.grownBy B (some (w.heap.size + 1))) (by kernel_rfl) (by kernel_rfl) [5, 11, 13] (by kernel_rfl) [lEq (.pointer (some ⟨w.heap.size, 0 + 0, none⟩)), lEq (.int .i64 x.table), pZb W (w.heap.size + 1) (by omega), lEq (.pointer (some ⟨w.heap.size, 0 + 1, none⟩)), lEq (.slice a x.key.length c), lAny, lEq (.pointer (some ⟨w.heap.size, 0 + 2, none⟩)), lEq (.bool x.gone), pZb W (w.heap.size + 1) (by omega), lEq (.pointer (some ⟨w.heap.size, 0 + 3, none⟩)), lEq (.slice a2 x.val.length c2), lAny, pWr W (w.heap.size + 1) (by omega) x, lAny] (WriJ W (w.heap.size + 1) x) WriJ.below (show Below W.heap.size W W from Below.refl _ _)
    ⟨?o0, ?o1, ?o2, ?o3, ?o4, ?o5, ?o6, ?o7, ?o8, ?o9, ?o10, ?o11, ?o12, ?o13, trivial⟩ ?fin
  case o0 =>
    refine LnOp.side rfl (by kernel_rfl) (fun A va w' k hF hT hk hJ hb hu hp hd => ?_)
    have e1 : A.eval (.tmp 1) = .pointer (some ⟨w.heap.size, 0, none⟩) := hF 1 rfl
    exact wp_fieldN wrS rfl (e1) (by omega) ⟨_, rfl, rfl, Below.refl _ _⟩
  case o1 =>
    refine LnOp.side rfl (by kernel_rfl) (fun A va w' k hF hT hk hJ hb hu hp hd => ?_)
    have e1 : A.eval (.tmp 3) = .pointer (some ⟨w.heap.size, 0 + 0, none⟩) := (hT 3 0 (by simp) rfl).trans (hd ⟨0, .data⟩ (by simp) rfl rfl)
    have hJ0 : Below W.heap.size W w' := by
      have h5 := hb 2 13 rfl (by kernel_rfl)
      rcases k with _ | _ | _ | k
      · exact hJ
      · exact hJ.1
      · exact hJ.1
      · omega
    exact wp_ld_int (k := .i64) rfl e1 (by kernel_rfl) ((bn.below (hJ0.mono (by omega)) bn.lt).cell (i := 0) rfl) ⟨_, rfl, rfl, Below.refl _ _⟩
  case o2 =>
    refine LnOp.side rfl (by kernel_rfl) (fun A va w' k hF hT hk hJ hb hu hp hd => ?_)
    obtain rfl : k = 0 := by have := hb 0 5 rfl (by kernel_rfl); omega
    have hJ0 : Below W.heap.size W w' := hJ
    exact wp_buildZ byP rfl (fun w2 hf => ⟨_, rfl, ⟨_, rfl, hf.2.to hJ0.size⟩, hf.1⟩)
  case o3 =>
    refine LnOp.side rfl (by kernel_rfl) (fun A va w' k hF hT hk hJ hb hu hp hd => ?_)
    have e1 : A.eval (.tmp 1) = .pointer (some ⟨w.heap.size, 0, none⟩) := hF 1 rfl
    exact wp_fieldN wrS rfl (e1) (by omega) ⟨_, rfl, rfl, Below.refl _ _⟩
  case o4 =>
    refine LnOp.side rfl (by kernel_rfl) (fun A va w' k hF hT hk hJ hb hu hp hd => ?_)
    have e1 : A.eval (.tmp 6) = .pointer (some ⟨w.heap.size, 0 + 1, none⟩) := (hT 6 3 (by simp) rfl).trans (hd ⟨3, .data⟩ (by simp) rfl rfl)
    have hJ0 : Below W.heap.size W w' := by
      have h5 := hb 2 13 rfl (by kernel_rfl)
      rcases k with _ | _ | _ | k
      · exact hJ
      · exact hJ.1
      · exact hJ.1
      · omega
    exact wp_ld_slice (e := 5) rfl e1 (by kernel_rfl) ((bn.below (hJ0.mono (by omega)) bn.lt).cell (i := 1) rfl) ⟨_, rfl, rfl, Below.refl _ _⟩
  case o5 =>
    refine LnOp.line 0 rfl rfl (fun A va w' hF hT hJ hu hd => ?_)
    have x1 : A.eval (.tmp 5) = va 2 := hT 5 2 (by simp) rfl
    have y1 := hd ⟨2, .data⟩ (by simp) rfl rfl
    have e2 : A.eval (.tmp 7) = .slice a x.key.length c := (hT 7 4 (by simp) rfl).trans (hd ⟨4, .data⟩ (by simp) rfl rfl)
    have hJ0 : Below W.heap.size W w' := hJ
    obtain ⟨g, eg, hO⟩ := y1
    refine wp_append_zero byP rfl (x1.trans eg) (by rw [← eg]; exact hO) e2 (hk'.below hJ0).rd hJ0.size (fun ad7 k7 c7 w2 hO2 hb2 => ?_) (by omega)
    exact ⟨_, rfl, ⟨hJ0.trans (hb2.mono hJ0.size), NewS.own hO2⟩, grown_below' hb2 _⟩
  case o6 =>
    refine LnOp.side rfl (by kernel_rfl) (fun A va w' k hF hT hk hJ hb hu hp hd => ?_)
    have e1 : A.eval (.tmp 1) = .pointer (some ⟨w.heap.size, 0, none⟩) := hF 1 rfl
    exact wp_fieldN wrS rfl (e1) (by omega) ⟨_, rfl, rfl, Below.refl _ _⟩
  case o7 =>
    refine LnOp.side rfl (by kernel_rfl) (fun A va w' k hF hT hk hJ hb hu hp hd => ?_)
    have e1 : A.eval (.tmp 9) = .pointer (some ⟨w.heap.size, 0 + 2, none⟩) := (hT 9 6 (by simp) rfl).trans (hd ⟨6, .data⟩ (by simp) rfl rfl)
    have hJ0 : Below W.heap.size W w' := by
      have h5 := hb 2 13 rfl (by kernel_rfl)
      rcases k with _ | _ | _ | k
      · exact hJ
      · exact hJ.1
      · exact hJ.1
      · omega
    exact wp_ld_bool rfl e1 (by kernel_rfl) ((bn.below (hJ0.mono (by omega)) bn.lt).cell (i := 2) rfl) ⟨_, rfl, rfl, Below.refl _ _⟩
  case o8 =>
    refine LnOp.side rfl (by kernel_rfl) (fun A va w' k hF hT hk hJ hb hu hp hd => ?_)
    have hJ0 : Below W.heap.size W w' := by
      have h5 := hb 1 11 rfl (by kernel_rfl)
      rcases k with _ | _ | k
      · exact hJ
      · exact hJ.1
      · omega
    exact wp_buildZ byP rfl (fun w2 hf => ⟨_, rfl, ⟨_, rfl, hf.2.to hJ0.size⟩, hf.1⟩)
  case o9 =>
    refine LnOp.side rfl (by kernel_rfl) (fun A va w' k hF hT hk hJ hb hu hp hd => ?_)
    have e1 : A.eval (.tmp 1) = .pointer (some ⟨w.heap.size, 0, none⟩) := hF 1 rfl
    exact wp_fieldN wrS rfl (e1) (by omega) ⟨_, rfl, rfl, Below.refl _ _⟩
  case o10 =>
    refine LnOp.side rfl (by kernel_rfl) (fun A va w' k hF hT hk hJ hb hu hp hd => ?_)
    have e1 : A.eval (.tmp 12) = .pointer (some ⟨w.heap.size, 0 + 3, none⟩) := (hT 12 9 (by simp) rfl).trans (hd ⟨9, .data⟩ (by simp) rfl rfl)
    have hJ0 : Below W.heap.size W w' := by
      have h5 := hb 2 13 rfl (by kernel_rfl)
      rcases k with _ | _ | _ | k
      · exact hJ
      · exact hJ.1
      · exact hJ.1
      · omega
    exact wp_ld_slice (e := 5) rfl e1 (by kernel_rfl) ((bn.below (hJ0.mono (by omega)) bn.lt).cell (i := 3) rfl) ⟨_, rfl, rfl, Below.refl _ _⟩
  case o11 =>
    refine LnOp.line 1 rfl rfl (fun A va w' hF hT hJ hu hd => ?_)
    have x1 : A.eval (.tmp 11) = va 8 := hT 11 8 (by simp) rfl
    have y1 := hd ⟨8, .data⟩ (by simp) rfl rfl
    have e2 : A.eval (.tmp 13) = .slice a2 x.val.length c2 := (hT 13 10 (by simp) rfl).trans (hd ⟨10, .data⟩ (by simp) rfl rfl)
    obtain ⟨hJ0, hJ1⟩ := hJ
    obtain ⟨g, eg, hO⟩ := y1
    refine wp_append_zero byP rfl (x1.trans eg) (by rw [← eg]; exact hO) e2 (hv'.below hJ0).rd hJ0.size (fun ad7 k7 c7 w2 hO2 hb2 => ?_) (by omega)
    exact ⟨_, rfl, ⟨hJ0.trans (hb2.mono hJ0.size), hJ1.below hb2, NewS.own hO2⟩, grown_below' hb2 _⟩
  case o12 =>
    refine LnOp.side rfl (by kernel_rfl) (fun A va w' k hF hT hk hJ hb hu hp hd => ?_)
    have e1 : A.eval (.tmp 4) = .int .i64 x.table := (hT 4 1 (by simp) rfl).trans (hd ⟨1, .data⟩ (by simp) rfl rfl)
    have x2 : A.eval (.tmp 8) = va 5 := hT 8 5 (by simp) rfl
    have e3 : A.eval (.tmp 10) = .bool x.gone := (hT 10 7 (by simp) rfl).trans (hd ⟨7, .data⟩ (by simp) rfl rfl)
    have x4 : A.eval (.tmp 14) = va 11 := hT 14 11 (by simp) rfl
    obtain rfl : k = 2 := by
      have h1 := hp ⟨11, .data⟩ (by simp) rfl 1 rfl
      have h2 := hb 2 13 rfl (by kernel_rfl)
      omega
    obtain ⟨hJ0, ⟨a7, c7, e7, h7⟩, ⟨a8, c8, e8, h8⟩⟩ := hJ
    exact wp_build4 wrS rfl e1 (x2.trans e7) e3 (x4.trans e8) rfl rfl rfl rfl ⟨_, rfl, ⟨a7, c7, a8, c8, rfl, h7, h8, ht⟩, Below.refl _ _⟩
  case o13 =>
    refine LnOp.line 2 rfl rfl (fun A va w' hF hT hJ hu hd => ?_)
    have e1 : A.eval (.tmp 2) = .pointer (some ⟨w.heap.size + 1, 0, none⟩) := hF 2 rfl
    have x2 : A.eval (.tmp 15) = va 12 := hT 15 12 (by simp) rfl
    have y2 := hd ⟨12, .data⟩ (by simp) rfl rfl
    have hJ0 : Below W.heap.size W w' := hJ.1
    obtain ⟨a7, c7, a8, c8, e7, h7, h8, h9⟩ := y2
    refine wp_boxStore (us := [.int .i64 x.table, .slice a7 _ c7, .bool x.gone, .slice a8 _ c8]) (by kernel_rfl) rfl e1 (x2.trans e7) rfl (bz.below hJ0 (by omega)) rfl (fun w2 hg hB2 => ?_)
    exact ⟨_, rfl, ⟨(grown_below2 hJ0 rfl _).andThen hg (by simp), a7, c7, a8, c8, hB2, (h7.keep fun k hk => hg.block k hk.2 fun e => by injection e with e; omega).weak fun k hk => ⟨hk.1, Nat.lt_of_lt_of_le hk.2 hg.size⟩, (h8.keep fun k hk => hg.block k hk.2 fun e => by injection e with e; omega).weak fun k hk => ⟨hk.1, Nat.lt_of_lt_of_le hk.2 hg.size⟩⟩, hg⟩
  case fin =>
    intro vs1 W9 hJ hG
    obtain ⟨hg9, ka, kc, va, vc, hb9, hk9, hv9⟩ := hJ
    have q9 : Below w.heap.size w W9 := q.grown hg9 q.size fun k e => by injection e with e; omega
    clear hG
    simp only [putAll]
    go_simp
    have d0 := hb9.cell (i := 0) rfl
    have d1 := hb9.cell (i := 1) rfl
    have d2 := hb9.cell (i := 2) rfl
    have d3 := hb9.cell (i := 3) rfl
    go_wp2_with fail
    obtain ⟨fs, hu, _⟩ := wrS.hu
    refine bodyPost_ret (v := .agg #[.int .i64 x.table, .slice ka x.key.length kc, .bool x.gone, .slice va x.val.length vc]) (by simp [results, Try.results68, go_sem, loadVar, isAgg, run_underlying hu, run_sizeOf' wrS.hs, loadCellsFrom, Addr.add, d0, d1, d2, d3]) rfl ?_
    exact ⟨_, rfl, ⟨ka, kc, va, vc, rfl, hk9.weak fun k hk => ⟨by omega, hk.2⟩, hv9.weak fun k hk => ⟨by omega, hk.2⟩, ht⟩, q9⟩
end Go.Proofs.Ytobelnedhlepaaa
