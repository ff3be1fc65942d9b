/-
  TEXTS OF ONE PROOF, merged: DeltaOverW.
-/
import Derived.Test.YtjbdkhddnblieaaMo8
namespace Go.Proofs.Ytjbdkhddnblieaa
open Go.RowKit Go.Shelf
theorem wp_geqS {P : Program} {o : Oper} {a : Act} {K : Act → World → Prop} {Q : Exit → Act → World → Prop} {w : World} {t t2 : TypeId} {x y : Operand} {xs ys : List UInt8} (ho : o.op = .binOp .geq t x y t2) (hx : a.eval x = .string (strOf xs)) (hy : a.eval y = .string (strOf ys)) (h : K (a.put o.dst (.bool (!ltB xs ys))) w) : o.wp P a w K Q := by
  refine wp_run (v := .bool (!ltB xs ys)) ?_ h
  simp only [execOp, ho, hx, hy]
  simp [binOp, Op.stringOp, go_sem, strOf_toList, ltB]
theorem srt_step {l : List Pq} {i : Nat} (h : SrtQ (l.take i)) (hlt : i < l.length) (h2 : 0 < i → ltB (l[i - 1]'(by omega)).key l[i].key = true) : SrtQ (l.take (i + 1)) := by
  rw [List.take_succ_eq_append_getElem hlt]
  refine List.pairwise_append.2 ⟨h, List.pairwise_singleton _ _, fun y hy z hz => ?_⟩
  obtain rfl : z = l[i] := by simpa using hz
  obtain ⟨j, hj, rfl⟩ := List.getElem_of_mem hy
  have hj2 : j < i := by simp at hj; omega
  have h3 := h2 (by omega)
  rw [List.getElem_take]
  by_cases e : j = i - 1
  · subst e; exact h3
  · have h4 := srtE_get h (i := j) (j := i - 1) (by omega) (by simp; omega)
    rw [List.getElem_take, List.getElem_take] at h4
    exact ltB_trans h4 h3
def FndI (l : List Pq) (k : List UInt8) (n : Nat) (v : Int) : Prop := (v = -1 ∧ ∀ y ∈ l.take n, y.key ≠ k) ∨ ∃ (j : Nat) (h : j < l.length), v = (j : Int) ∧ j < n ∧ l[j].key = k
theorem FndI.start (l : List Pq) (k : List UInt8) : FndI l k 0 (-1) := .inl ⟨rfl, by simp⟩
theorem FndI.yes {l : List Pq} {k : List UInt8} {i : Nat} (h : i < l.length) (e : l[i].key = k) : FndI l k (i + 1) (i : Int) := .inr ⟨i, h, rfl, by omega, e⟩
theorem FndI.no {l : List Pq} {k : List UInt8} {i : Nat} {v : Int} (h0 : FndI l k i v) (h : i < l.length) (e : ¬ l[i].key = k) : FndI l k (i + 1) v := by
  rcases h0 with ⟨h1, h2⟩ | ⟨j, h1, h2, h3, h4⟩
  · refine .inl ⟨h1, fun y hy => ?_⟩
    rw [List.take_succ_eq_append_getElem h] at hy
    rcases List.mem_append.1 hy with h5 | h5
    · exact h2 y h5
    · simp at h5; rw [h5]; exact e
  · exact .inr ⟨j, h1, h2, by omega, h4⟩
theorem FndI.end {l : List Pq} {k : List UInt8} {v : Int} (hs : SrtQ l) (h : FndI l k l.length v) : (v = -1 ∧ findE Pq.key k l = none) ∨ ∃ (j : Nat) (hj : j < l.length), v = (j : Int) ∧ findE Pq.key k l = some l[j] := by
  rcases h with ⟨h1, h2⟩ | ⟨j, h1, h2, _, h4⟩
  · rw [List.take_length] at h2
    exact .inl ⟨h1, findE_none.2 h2⟩
  · refine .inr ⟨j, h1, h2, ?_⟩
    rw [← h4]
    exact findE_mem totB hs (List.getElem_mem h1)
theorem fin_none {l : List Pq} {k : List UInt8} {v : Int} (hE : findE Pq.key k l = none) (h : FndI l k l.length v) : v = -1 := by
  rcases h with ⟨h1, _⟩ | ⟨j, h1, _, _, h4⟩
  · exact h1
  · exact absurd h4 (findE_none.1 hE _ (List.getElem_mem h1))
theorem fin_some {l : List Pq} {k u : List UInt8} {v : Int} (hE : findE Pq.key k l = some ⟨k, u⟩) (hs : SrtQ l) (h : FndI l k l.length v) : ∃ (j : Nat), v = (j : Int) ∧ ∃ (hj : j < l.length), l[j].val = u := by
  rcases h.end hs with ⟨_, h2⟩ | ⟨j, h1, h2, h3⟩
  · rw [h2] at hE; cases hE
  · rw [h3] at hE
    injection hE with hE
    exact ⟨j, h2, h1, by rw [hE]⟩
theorem fin_else {l m : List Pq} {k : List UInt8} {u v : Int} (hE : findE Pq.key k m = findE Pq.key k l) (hs : SrtQ l) (hm : SrtQ m) (h1 : FndI l k l.length u) (h2 : FndI m k m.length v) : (u = -1 ∧ v = -1) ∨ ∃ (j1 j2 : Nat), u = (j1 : Int) ∧ v = (j2 : Int) ∧ ∃ (h1 : j1 < l.length) (h2 : j2 < m.length), m[j2].val = l[j1].val := by
  rcases h1.end hs with ⟨h3, h4⟩ | ⟨j, h3, h4, h5⟩
  · rw [h4] at hE
    exact .inl ⟨h3, fin_none hE h2⟩
  · rcases h2.end hm with ⟨_, h7⟩ | ⟨j2, h6, h7, h8⟩
    · rw [h7, h5] at hE; cases hE
    · rw [h8, h5] at hE
      injection hE with hE
      exact .inr ⟨j, j2, h4, h7, h3, h6, by rw [hE]⟩
def ovF (f : Option Wr) (y : List UInt8) (e : Option Pq) : Option Pq := match f with | some w => if w.gone = true then none else some ⟨y, w.val⟩ | none => e
theorem overD_find {d : Dl} {x : Sp} {l : List Pq} {y : List UInt8} (h : SrtQ l) : findE Pq.key y (overD d x l) = if inS x y = true then ovF (findD d ⟨x.table, y⟩) y (findE Pq.key y l) else findE Pq.key y l := by
  rw [show overD d x l = overW x (lastD d) l from if_pos h, over_find (lastD_srt d) h, lastD_find]
  cases findD d ⟨x.table, y⟩ <;> rfl
def OvrR (w : World) (key : List UInt8) (vd vx : List Value) (l : List Pq) (v iv : Value) (wr : World) : Prop :=
  ∃ (i : Nat) (was : Int), iv = .int .i64 (i : Int) ∧ v = .int .i64 was ∧ i ≤ l.length ∧ SrtQ (l.take i) ∧ FndI l key i was ∧ BoxN wr w.heap.size 25 vd ∧ BoxN wr (w.heap.size + 1) 39 vx ∧ Below w.heap.size w wr
def OvrO (w : World) (key : List UInt8) (vd vx : List Value) (ov : Value) (l : List Pq) (v iv : Value) (wr : World) : Prop :=
  ∃ (i : Nat) (was : Int), iv = .int .i64 (i : Int) ∧ v = .int .i64 was ∧ i ≤ l.length ∧ FndI l key i was ∧ BoxN wr w.heap.size 25 vd ∧ BoxN wr (w.heap.size + 1) 39 vx ∧ RdL Elt.pq (fun _ => True) wr ov l ∧ Below w.heap.size w wr
set_option maxRecDepth 100000 in
set_option maxHeartbeats 32000000 in
theorem DeltaOver_w (w : World) {cs0 cs1 : Array Value} {a2 a3 : Option Addr} {n2 c2 n3 c3 : Nat} {d : Dl} {x : Sp} {l : List Pq} {key : List UInt8} (h0 : RdDl (· < w.heap.size) w (.agg cs0) d) (h1 : RdSp (· < w.heap.size) w (.agg cs1) x) (h2 : RdL Elt.pq (· < w.heap.size) w (.slice a2 n2 c2) l) (h3 : Rd w.heap.size w (.slice a3 n3 c3) key) :
    Calls Try.prog 6 #[.agg cs0, .agg cs1, .slice a2 n2 c2, .slice a3 n3 c3] w fun e w' => e = .returned (.bool true) ∧ Below w.heap.size w w' := by
  have hd := h0
  have hx := h1
  obtain ⟨a, c, a', c', e, hw, hm⟩ := h0
  injection e with e
  subst e
  obtain ⟨b, k, b', k', e, hlo, hhi, hxt⟩ := h1
  injection e with e
  subst e
  obtain ⟨rfl, hnc, hcm⟩ := h2.len
  have hK := h3.s
  obtain ⟨rfl, _, hkm⟩ := hK.len
  have hl0 : key.length ≤ 9223372036854775807 := by unfold maxLen at hkm; omega
  clear hkm
  have hl1 : x.lo.length ≤ 9223372036854775807 := by have := hlo.len; unfold maxLen at this; omega
  have hl2 : x.hi.length ≤ 9223372036854775807 := by have := hhi.len; unfold maxLen at this; omega
  have hll : l.length ≤ 9223372036854775807 := by unfold maxLen at hcm; omega
  obtain ⟨W0, hW, q, xD, xX, hsz⟩ := boxes2 w 25 39 [.slice a d.writes.length c, .slice a' d.marks.length c'] [.int .i64 x.table, .slice b x.lo.length k, .slice b' x.hi.length k', .bool x.isOpen]
  clear hw hm hlo hhi hnc hcm hsz h3
  go_enter Try.func6, Try.ntmps6
  go_upto_region 1 with (fail)
  rw [show (w.alloc (.cells #[.slice a d.writes.length c, .slice a' d.marks.length c'] 25)).alloc (.cells #[.int .i64 x.table, .slice b x.lo.length k, .slice b' x.hi.length k', .bool x.isOpen] 39) = W0 from hW.symm]
  clear hW
  go_wp2_with fail
  have hcl := awake8_any W0
  refine hcl.mono ?_
  rintro e w1 ⟨rfl, hb⟩
  clear hcl
  replace xD := xD.below hb xD.lt
  replace xX := xX.below hb xX.lt
  replace q := q.trans (hb.mono q.size)
  clear hb
  have b0 := xD.cell (i := 0) rfl
  have b1 := xD.cell (i := 1) rfl
  have x0 := xX.cell (i := 0) rfl
  have x1 := xX.cell (i := 1) rfl
  have x2 := xX.cell (i := 2) rfl
  have x3 := xX.cell (i := 3) rfl
  have hcl := few_any w1 (hd.below q)
  go_wp2_with fail
  refine hcl.mono ?_
  rintro e w2 ⟨rfl, hb⟩
  clear hcl b0 b1 x0 x1 x2 x3
  replace xD := xD.below hb xD.lt
  replace xX := xX.below hb xX.lt
  replace q := q.trans (hb.mono q.size)
  clear hb
  have b0 := xD.cell (i := 0) rfl
  have b1 := xD.cell (i := 1) rfl
  have x0 := xX.cell (i := 0) rfl
  have x1 := xX.cell (i := 1) rfl
  have x2 := xX.cell (i := 2) rfl
  have x3 := xX.cell (i := 3) rfl
  by_cases hf : fewD d
  case neg =>
    rw [decide_eq_false hf]
    go_wp2_with fail
    go_ret
    exact ⟨rfl, q⟩
  rw [decide_eq_true hf]
  have hsd : smD d := ⟨by have := hf.1; omega, by have := hf.2.1; omega, fun y hy => by have := hf.2.2 y hy; omega⟩
  replace hf := Lib.hid hf
  have hcl := short_any w2 (h2.below q)
  go_wp2_with fail
  refine hcl.mono ?_
  rintro e w3 ⟨rfl, hb⟩
  clear hcl b0 b1 x0 x1 x2 x3
  replace xD := xD.below hb xD.lt
  replace xX := xX.below hb xX.lt
  replace q := q.trans (hb.mono q.size)
  clear hb
  have b0 := xD.cell (i := 0) rfl
  have b1 := xD.cell (i := 1) rfl
  have x0 := xX.cell (i := 0) rfl
  have x1 := xX.cell (i := 1) rfl
  have x2 := xX.cell (i := 2) rfl
  have x3 := xX.cell (i := 3) rfl
  by_cases hs : shP l
  case neg =>
    rw [decide_eq_false hs]
    go_wp2_with fail
    go_ret
    exact ⟨rfl, q⟩
  rw [decide_eq_true hs]
  have hsl : smQ l := ⟨by have := hs.1; omega, fun y hy => by have := hs.2 y hy; omega⟩
  have hs1 : l.length ≤ 900000 := by have := hs.1; omega
  obtain ⟨hom, hon⟩ := over_sm (x := x) hs hf.out
  clear hom hs hf
  rcases Nat.lt_or_ge 100 key.length with g0 | g0
  · have d0 : decide ((100 : Int) < (key.length : Int)) = true := decide_eq_true (by omega)
    go_wp2_with fail
    go_ret
    exact ⟨rfl, q⟩
  have d0 : decide ((100 : Int) < (key.length : Int)) = false := decide_eq_false (by omega)
  rcases Nat.lt_or_ge 100 x.lo.length with g1 | g1
  · have d1 : decide ((100 : Int) < (x.lo.length : Int)) = true := decide_eq_true (by omega)
    go_wp2_with fail
    go_ret
    exact ⟨rfl, q⟩
  have d1 : decide ((100 : Int) < (x.lo.length : Int)) = false := decide_eq_false (by omega)
  rcases Nat.lt_or_ge 100 x.hi.length with g2 | g2
  · have d2 : decide ((100 : Int) < (x.hi.length : Int)) = true := decide_eq_true (by omega)
    go_wp2_with fail
    go_ret
    exact ⟨rfl, q⟩
  have d2 : decide ((100 : Int) < (x.hi.length : Int)) = false := decide_eq_false (by omega)
  have hcl := dCheck_any w3 (hd.below q)
  go_wp2_with fail
  refine hcl.mono ?_
  rintro e w4 ⟨rfl, hb⟩
  clear hcl b0 b1 x0 x1 x2 x3
  replace xD := xD.below hb xD.lt
  replace xX := xX.below hb xX.lt
  replace q := q.trans (hb.mono q.size)
  clear hb
  by_cases hok : okD d
  case neg =>
    rw [decide_eq_false hok]
    go_wp2_with fail
    go_ret
    exact ⟨rfl, q⟩
  rw [decide_eq_true hok]
  clear d0 d1 d2 g0 g1 g2 hl0 hl1 hl2
  replace hok := Lib.hid hok
  have r0 : OvrR w key [.slice a d.writes.length c, .slice a' d.marks.length c'] [.int .i64 x.table, .slice b x.lo.length k, .slice b' x.hi.length k', .bool x.isOpen] l (.int .i64 (-1)) (.int .i64 ((0 : Nat) : Int)) w4 := ⟨0, -1, rfl, rfl, Nat.zero_le _, List.Pairwise.nil, FndI.start _ _, xD, xX, q⟩
  clear q xD xX
  go_upto_region 6 with (fail)
  go_loopw [10, 11] (fun v iv wr => OvrR w key [.slice a d.writes.length c, .slice a' d.marks.length c'] [.int .i64 x.table, .slice b x.lo.length k, .slice b' x.hi.length k', .bool x.isOpen] l v iv wr) (fun _ iv _ => l.length - (intOf iv).toNat)
  case atStart => exact r0
  case round =>
    obtain ⟨i, was, rfl, rfl, hil, hsr, hfi, xD, xX, q⟩ := hrel
    have hL := h2.below q
    clear r0
    rcases Nat.lt_or_ge i l.length with hlt | hge
    · obtain ⟨bl, ol, A1, C1, _, _, eL, _, c1, _, r1, _⟩ := hL.pq i hlt
      subst eL
      have d0 : decide ((i : Int) < (l.length : Int)) = true := decide_eq_true (by omega)
      rcases Nat.eq_zero_or_pos i with hz | hz
      · replace hz := Lib.hid hz
        go_upto_region 8 with (fail)
        refine wp_region_gsg (by kernel_rfl) (by kernel_rfl) [sgEq (.int .i64 (i : Int)), sgEq (.bool false), sgEq (.bool false), sgEq undef, sgEq undef, sgEq undef, sgEq undef, sgEq undef, sgEq undef, sgEq undef, sgEq undef, sgEq undef, sgEq undef, sgEq undef, sgEq undef, sgEq undef, sgEq undef, sgEq (.bool false)]
          ⟨?o0, ?o1, ?o2, ?o3, ?o4, ?o5, ?o6, ?o7, ?o8, ?o9, ?o10, ?o11, ?o12, ?o13, ?o14, ?o15, ?o16, ?o17, trivial⟩ ?fin
        case o0 =>
          refine GdOp.plain rfl (fun A vs w' hF hT hb hd => ?_)
          have e1 : A.eval (.tmp 11) = .int .i64 (i : Int) := hF 11 rfl
          exact BigFrame.wp_move _ rfl ⟨_, rfl, e1, Below.refl _ _⟩
        case o1 =>
          refine GdOp.plain rfl (fun A vs w' hF hT hb hd => ?_)
          have e1 : A.eval (.tmp 55) = .int .i64 (i : Int) := (hT 55 0 (by simp) rfl).trans (hd ⟨0, .data⟩ (by simp) rfl)
          exact wp_gtrI rfl e1 rfl ⟨_, rfl, (congrArg Value.bool (decide_eq_false (by have := hz.out; omega))), Below.refl _ _⟩
        case o2 =>
          refine GdOp.plain rfl (fun A vs w' hF hT hb hd => ?_)
          have e1 : A.eval (.tmp 56) = .bool false := (hT 56 1 (by simp) rfl).trans (hd ⟨1, .data⟩ (by simp) rfl)
          exact BigFrame.wp_move _ rfl ⟨_, rfl, e1, Below.refl _ _⟩
        case o3 =>
          exact GdOp.left rfl ⟨_, _, rfl, rfl, by simp⟩ (by kernel_rfl) (fun w v h => .inl h) (fun w => rfl)
        case o4 =>
          exact GdOp.left rfl ⟨_, _, rfl, rfl, by simp⟩ (by kernel_rfl) (fun w v h => .inl h) (fun w => rfl)
        case o5 =>
          exact GdOp.left rfl ⟨_, _, rfl, rfl, by simp⟩ (by kernel_rfl) (fun w v h => .inl h) (fun w => rfl)
        case o6 =>
          exact GdOp.left rfl ⟨_, _, rfl, rfl, by simp⟩ (by kernel_rfl) (fun w v h => .inl h) (fun w => rfl)
        case o7 =>
          exact GdOp.left rfl ⟨_, _, rfl, rfl, by simp⟩ (by kernel_rfl) (fun w v h => .inl h) (fun w => rfl)
        case o8 =>
          exact GdOp.left rfl ⟨_, _, rfl, rfl, by simp⟩ (by kernel_rfl) (fun w v h => .inl h) (fun w => rfl)
        case o9 =>
          exact GdOp.left rfl ⟨_, _, rfl, rfl, by simp⟩ (by kernel_rfl) (fun w v h => .inl h) (fun w => rfl)
        case o10 =>
          exact GdOp.left rfl ⟨_, _, rfl, rfl, by simp⟩ (by kernel_rfl) (fun w v h => .inl h) (fun w => rfl)
        case o11 =>
          exact GdOp.left rfl ⟨_, _, rfl, rfl, by simp⟩ (by kernel_rfl) (fun w v h => .inl h) (fun w => rfl)
        case o12 =>
          exact GdOp.left rfl ⟨_, _, rfl, rfl, by simp⟩ (by kernel_rfl) (fun w v h => .inl h) (fun w => rfl)
        case o13 =>
          exact GdOp.left rfl ⟨_, _, rfl, rfl, by simp⟩ (by kernel_rfl) (fun w v h => .inl h) (fun w => rfl)
        case o14 =>
          exact GdOp.left rfl ⟨_, _, rfl, rfl, by simp⟩ (by kernel_rfl) (fun w v h => .inl h) (fun w => rfl)
        case o15 =>
          exact GdOp.left rfl ⟨_, _, rfl, rfl, by simp⟩ (by kernel_rfl) (fun w v h => .inl h) (fun w => rfl)
        case o16 =>
          exact GdOp.left rfl ⟨_, _, rfl, rfl, by simp⟩ (by kernel_rfl) (fun w v h => .inl h) (fun w => rfl)
        case o17 =>
          refine GdOp.plain rfl (fun A vs w' hF hT hb hd => ?_)
          have e1 : A.eval (.tmp 57) = .bool false := (hT 57 2 (by simp) rfl).trans (hd ⟨2, .data⟩ (by simp) rfl)
          have e2 : A.eval (.tmp 71) = undef := (hT 71 16 (by simp) rfl).trans (hd ⟨16, .data⟩ (by simp) rfl)
          exact wp_pk rfl e1 (by simp) (fun _ => rfl) ⟨_, rfl, rfl, Below.refl _ _⟩
        case fin =>
        intro vs9 W9 hb9 hG9
        have e0 : vs9 0 = .int .i64 (i : Int) := hG9 0 (by decide)
        have e1 : vs9 1 = .bool false := hG9 1 (by decide)
        have e2 : vs9 2 = .bool false := hG9 2 (by decide)
        have e3 : vs9 3 = undef := hG9 3 (by decide)
        have e4 : vs9 4 = undef := hG9 4 (by decide)
        have e5 : vs9 5 = undef := hG9 5 (by decide)
        have e6 : vs9 6 = undef := hG9 6 (by decide)
        have e7 : vs9 7 = undef := hG9 7 (by decide)
        have e8 : vs9 8 = undef := hG9 8 (by decide)
        have e9 : vs9 9 = undef := hG9 9 (by decide)
        have e10 : vs9 10 = undef := hG9 10 (by decide)
        have e11 : vs9 11 = undef := hG9 11 (by decide)
        have e12 : vs9 12 = undef := hG9 12 (by decide)
        have e13 : vs9 13 = undef := hG9 13 (by decide)
        have e14 : vs9 14 = undef := hG9 14 (by decide)
        have e15 : vs9 15 = undef := hG9 15 (by decide)
        have e16 : vs9 16 = undef := hG9 16 (by decide)
        have e17 : vs9 17 = .bool false := hG9 17 (by decide)
        simp only [putAll, e0, e1, e2, e3, e4, e5, e6, e7, e8, e9, e10, e11, e12, e13, e14, e15, e16, e17]
        clear hG9 e0 e1 e2 e3 e4 e5 e6 e7 e8 e9 e10 e11 e12 e13 e14 e15 e16 e17
        replace xD := xD.below hb9 xD.lt
        replace xX := xX.below hb9 xX.lt
        replace hL := hL.below hb9
        replace r1 := r1.below hb9
        replace c1 := (hb9.cell (p := ⟨_, _, none⟩) (cell_lt c1)).trans c1
        replace q := q.trans (hb9.mono q.size)
        clear hb9
        go_simp
        have hs1 : SrtQ (l.take (i + 1)) := srt_step hsr hlt fun h => absurd h (by have := hz.out; omega)
        clear hz
        go_upto_region 10 with (fail)
        by_cases hk : l[i].key = key
        · refine wp_region_gsg (by kernel_rfl) (by kernel_rfl) [sgEq (.slice (some ⟨bl, ol, none⟩) l.length c2), sgEq (.int .i64 (i : Int)), sgEq (.pointer (some ⟨bl, ol + i * 2, none⟩)), sgEq (.pointer (some ⟨bl, ol + i * 2, none⟩)), sgEq (.slice A1 l[i].key.length C1), sgEq (.string (strOf l[i].key)), sgEq (.slice a3 key.length c3), sgEq (.string (strOf key)), sgEq (.bool true)]
            ⟨?o0, ?o1, ?o2, ?o3, ?o4, ?o5, ?o6, ?o7, ?o8, trivial⟩ ?fin
          case o0 =>
            refine GdOp.plain rfl (fun A vs w' hF hT hb hd => ?_)
            have e1 : A.eval (.tmp 2) = .slice (some ⟨bl, ol, none⟩) l.length c2 := hF 2 rfl
            exact BigFrame.wp_move _ rfl ⟨_, rfl, e1, Below.refl _ _⟩
          case o1 =>
            refine GdOp.plain rfl (fun A vs w' hF hT hb hd => ?_)
            have e1 : A.eval (.tmp 11) = .int .i64 (i : Int) := hF 11 rfl
            exact BigFrame.wp_move _ rfl ⟨_, rfl, e1, Below.refl _ _⟩
          case o2 =>
            refine GdOp.plain rfl (fun A vs w' hF hT hb hd => ?_)
            have e1 : A.eval (.tmp 74) = .slice (some ⟨bl, ol, none⟩) l.length c2 := (hT 74 0 (by simp) rfl).trans (hd ⟨0, .data⟩ (by simp) rfl)
            have e2 : A.eval (.tmp 75) = .int .i64 (i : Int) := (hT 75 1 (by simp) rfl).trans (hd ⟨1, .data⟩ (by simp) rfl)
            exact wp_ixN (e := 53) rfl (by kernel_rfl) (by kernel_rfl) (e1) (e2) rfl (by omega) ⟨_, rfl, rfl, Below.refl _ _⟩
          case o3 =>
            refine GdOp.plain rfl (fun A vs w' hF hT hb hd => ?_)
            have e1 : A.eval (.tmp 76) = .pointer (some ⟨bl, ol + i * 2, none⟩) := (hT 76 2 (by simp) rfl).trans (hd ⟨2, .data⟩ (by simp) rfl)
            exact wp_fieldN pqS rfl (e1) (by omega) ⟨_, rfl, rfl, Below.refl _ _⟩
          case o4 =>
            refine GdOp.plain rfl (fun A vs w' hF hT hb hd => ?_)
            have e1 : A.eval (.tmp 77) = .pointer (some ⟨bl, ol + i * 2, none⟩) := (hT 77 3 (by simp) rfl).trans (hd ⟨3, .data⟩ (by simp) rfl)
            exact wp_ld_slice (e := 5) rfl e1 (by kernel_rfl) (((hb.cell (p := ⟨_, _, none⟩) (cell_lt c1)).trans c1)) ⟨_, rfl, rfl, Below.refl _ _⟩
          case o5 =>
            refine GdOp.plain rfl (fun A vs w' hF hT hb hd => ?_)
            have e1 : A.eval (.tmp 78) = .slice A1 l[i].key.length C1 := (hT 78 4 (by simp) rfl).trans (hd ⟨4, .data⟩ (by simp) rfl)
            exact wp_conv byP rfl e1 (r1.below hb).rd ⟨_, rfl, rfl, Below.refl _ _⟩
          case o6 =>
            refine GdOp.plain rfl (fun A vs w' hF hT hb hd => ?_)
            have e1 : A.eval (.tmp 3) = .slice a3 key.length c3 := hF 3 rfl
            exact BigFrame.wp_move _ rfl ⟨_, rfl, e1, Below.refl _ _⟩
          case o7 =>
            refine GdOp.plain rfl (fun A vs w' hF hT hb hd => ?_)
            have e1 : A.eval (.tmp 80) = .slice a3 key.length c3 := (hT 80 6 (by simp) rfl).trans (hd ⟨6, .data⟩ (by simp) rfl)
            exact wp_conv byP rfl e1 ((hK.below q).below hb).rd ⟨_, rfl, rfl, Below.refl _ _⟩
          case o8 =>
            refine GdOp.plain rfl (fun A vs w' hF hT hb hd => ?_)
            have e1 : A.eval (.tmp 79) = .string (strOf l[i].key) := (hT 79 5 (by simp) rfl).trans (hd ⟨5, .data⟩ (by simp) rfl)
            have e2 : A.eval (.tmp 81) = .string (strOf key) := (hT 81 7 (by simp) rfl).trans (hd ⟨7, .data⟩ (by simp) rfl)
            exact wp_eqlS rfl e1 e2 ⟨_, rfl, (congrArg Value.bool (decide_eq_true hk)), Below.refl _ _⟩
          case fin =>
          intro vs9 W9 hb9 hG9
          have e0 : vs9 0 = .slice (some ⟨bl, ol, none⟩) l.length c2 := hG9 0 (by decide)
          have e1 : vs9 1 = .int .i64 (i : Int) := hG9 1 (by decide)
          have e2 : vs9 2 = .pointer (some ⟨bl, ol + i * 2, none⟩) := hG9 2 (by decide)
          have e3 : vs9 3 = .pointer (some ⟨bl, ol + i * 2, none⟩) := hG9 3 (by decide)
          have e4 : vs9 4 = .slice A1 l[i].key.length C1 := hG9 4 (by decide)
          have e5 : vs9 5 = .string (strOf l[i].key) := hG9 5 (by decide)
          have e6 : vs9 6 = .slice a3 key.length c3 := hG9 6 (by decide)
          have e7 : vs9 7 = .string (strOf key) := hG9 7 (by decide)
          have e8 : vs9 8 = .bool true := hG9 8 (by decide)
          simp only [putAll, e0, e1, e2, e3, e4, e5, e6, e7, e8]
          clear hG9 e0 e1 e2 e3 e4 e5 e6 e7 e8
          replace xD := xD.below hb9 xD.lt
          replace xX := xX.below hb9 xX.lt
          replace hL := hL.below hb9
          replace r1 := r1.below hb9
          replace c1 := (hb9.cell (p := ⟨_, _, none⟩) (cell_lt c1)).trans c1
          replace q := q.trans (hb9.mono q.size)
          clear hb9
          go_simp
          clear c1 r1 d0
          go_wp2_with fail
          go_roundw
          case rel => exact ⟨i + 1, (i : Int), by go_num, rfl, by omega, hs1, FndI.yes hlt hk, xD, xX, q⟩
          case measure => simp [intOf]; omega
        · refine wp_region_gsg (by kernel_rfl) (by kernel_rfl) [sgEq (.slice (some ⟨bl, ol, none⟩) l.length c2), sgEq (.int .i64 (i : Int)), sgEq (.pointer (some ⟨bl, ol + i * 2, none⟩)), sgEq (.pointer (some ⟨bl, ol + i * 2, none⟩)), sgEq (.slice A1 l[i].key.length C1), sgEq (.string (strOf l[i].key)), sgEq (.slice a3 key.length c3), sgEq (.string (strOf key)), sgEq (.bool false)]
            ⟨?o0, ?o1, ?o2, ?o3, ?o4, ?o5, ?o6, ?o7, ?o8, trivial⟩ ?fin
          case o0 =>
            refine GdOp.plain rfl (fun A vs w' hF hT hb hd => ?_)
            have e1 : A.eval (.tmp 2) = .slice (some ⟨bl, ol, none⟩) l.length c2 := hF 2 rfl
            exact BigFrame.wp_move _ rfl ⟨_, rfl, e1, Below.refl _ _⟩
          case o1 =>
            refine GdOp.plain rfl (fun A vs w' hF hT hb hd => ?_)
            have e1 : A.eval (.tmp 11) = .int .i64 (i : Int) := hF 11 rfl
            exact BigFrame.wp_move _ rfl ⟨_, rfl, e1, Below.refl _ _⟩
          case o2 =>
            refine GdOp.plain rfl (fun A vs w' hF hT hb hd => ?_)
            have e1 : A.eval (.tmp 74) = .slice (some ⟨bl, ol, none⟩) l.length c2 := (hT 74 0 (by simp) rfl).trans (hd ⟨0, .data⟩ (by simp) rfl)
            have e2 : A.eval (.tmp 75) = .int .i64 (i : Int) := (hT 75 1 (by simp) rfl).trans (hd ⟨1, .data⟩ (by simp) rfl)
            exact wp_ixN (e := 53) rfl (by kernel_rfl) (by kernel_rfl) (e1) (e2) rfl (by omega) ⟨_, rfl, rfl, Below.refl _ _⟩
          case o3 =>
            refine GdOp.plain rfl (fun A vs w' hF hT hb hd => ?_)
            have e1 : A.eval (.tmp 76) = .pointer (some ⟨bl, ol + i * 2, none⟩) := (hT 76 2 (by simp) rfl).trans (hd ⟨2, .data⟩ (by simp) rfl)
            exact wp_fieldN pqS rfl (e1) (by omega) ⟨_, rfl, rfl, Below.refl _ _⟩
          case o4 =>
            refine GdOp.plain rfl (fun A vs w' hF hT hb hd => ?_)
            have e1 : A.eval (.tmp 77) = .pointer (some ⟨bl, ol + i * 2, none⟩) := (hT 77 3 (by simp) rfl).trans (hd ⟨3, .data⟩ (by simp) rfl)
            exact wp_ld_slice (e := 5) rfl e1 (by kernel_rfl) (((hb.cell (p := ⟨_, _, none⟩) (cell_lt c1)).trans c1)) ⟨_, rfl, rfl, Below.refl _ _⟩
          case o5 =>
            refine GdOp.plain rfl (fun A vs w' hF hT hb hd => ?_)
            have e1 : A.eval (.tmp 78) = .slice A1 l[i].key.length C1 := (hT 78 4 (by simp) rfl).trans (hd ⟨4, .data⟩ (by simp) rfl)
            exact wp_conv byP rfl e1 (r1.below hb).rd ⟨_, rfl, rfl, Below.refl _ _⟩
          case o6 =>
            refine GdOp.plain rfl (fun A vs w' hF hT hb hd => ?_)
            have e1 : A.eval (.tmp 3) = .slice a3 key.length c3 := hF 3 rfl
            exact BigFrame.wp_move _ rfl ⟨_, rfl, e1, Below.refl _ _⟩
          case o7 =>
            refine GdOp.plain rfl (fun A vs w' hF hT hb hd => ?_)
            have e1 : A.eval (.tmp 80) = .slice a3 key.length c3 := (hT 80 6 (by simp) rfl).trans (hd ⟨6, .data⟩ (by simp) rfl)
            exact wp_conv byP rfl e1 ((hK.below q).below hb).rd ⟨_, rfl, rfl, Below.refl _ _⟩
          case o8 =>
            refine GdOp.plain rfl (fun A vs w' hF hT hb hd => ?_)
            have e1 : A.eval (.tmp 79) = .string (strOf l[i].key) := (hT 79 5 (by simp) rfl).trans (hd ⟨5, .data⟩ (by simp) rfl)
            have e2 : A.eval (.tmp 81) = .string (strOf key) := (hT 81 7 (by simp) rfl).trans (hd ⟨7, .data⟩ (by simp) rfl)
            exact wp_eqlS rfl e1 e2 ⟨_, rfl, (congrArg Value.bool (decide_eq_false hk)), Below.refl _ _⟩
          case fin =>
          intro vs9 W9 hb9 hG9
          have e0 : vs9 0 = .slice (some ⟨bl, ol, none⟩) l.length c2 := hG9 0 (by decide)
          have e1 : vs9 1 = .int .i64 (i : Int) := hG9 1 (by decide)
          have e2 : vs9 2 = .pointer (some ⟨bl, ol + i * 2, none⟩) := hG9 2 (by decide)
          have e3 : vs9 3 = .pointer (some ⟨bl, ol + i * 2, none⟩) := hG9 3 (by decide)
          have e4 : vs9 4 = .slice A1 l[i].key.length C1 := hG9 4 (by decide)
          have e5 : vs9 5 = .string (strOf l[i].key) := hG9 5 (by decide)
          have e6 : vs9 6 = .slice a3 key.length c3 := hG9 6 (by decide)
          have e7 : vs9 7 = .string (strOf key) := hG9 7 (by decide)
          have e8 : vs9 8 = .bool false := hG9 8 (by decide)
          simp only [putAll, e0, e1, e2, e3, e4, e5, e6, e7, e8]
          clear hG9 e0 e1 e2 e3 e4 e5 e6 e7 e8
          replace xD := xD.below hb9 xD.lt
          replace xX := xX.below hb9 xX.lt
          replace hL := hL.below hb9
          replace r1 := r1.below hb9
          replace c1 := (hb9.cell (p := ⟨_, _, none⟩) (cell_lt c1)).trans c1
          replace q := q.trans (hb9.mono q.size)
          clear hb9
          go_simp
          clear c1 r1 d0
          go_wp2_with fail
          go_roundw
          case rel => exact ⟨i + 1, was, by go_num, rfl, by omega, hs1, hfi.no hlt hk, xD, xX, q⟩
          case measure => simp [intOf]; omega
      · obtain ⟨_, _, A0, C0, _, _, eL, _, c0, _, r0, _⟩ := hL.pq (i - 1) (by omega)
        injection eL with eL
        injection eL with eb eo _
        subst eb eo
        cases hlt2 : ltB (l[i - 1]'(by omega)).key l[i].key with
        | false =>
          have hge : Value.bool (!ltB (l[i - 1]'(by omega)).key l[i].key) = .bool true := by rw [hlt2]; rfl
          go_upto_region 8 with (fail)
          refine wp_region_gsg (by kernel_rfl) (by kernel_rfl) [sgEq (.int .i64 (i : Int)), sgEq (.bool true), sgEq (.bool true), sgEq (.slice (some ⟨bl, ol, none⟩) l.length c2), sgEq (.int .i64 (i : Int)), sgEq (.int .i64 ((i : Int) - 1)), sgEq (.pointer (some ⟨bl, ol + (i - 1) * 2, none⟩)), sgEq (.pointer (some ⟨bl, ol + (i - 1) * 2, none⟩)), sgEq (.slice A0 l[i - 1].key.length C0), sgEq (.string (strOf l[i - 1].key)), sgEq (.slice (some ⟨bl, ol, none⟩) l.length c2), sgEq (.int .i64 (i : Int)), sgEq (.pointer (some ⟨bl, ol + i * 2, none⟩)), sgEq (.pointer (some ⟨bl, ol + i * 2, none⟩)), sgEq (.slice A1 l[i].key.length C1), sgEq (.string (strOf l[i].key)), sgEq (.bool true), sgEq (.bool true)]
            ⟨?o0, ?o1, ?o2, ?o3, ?o4, ?o5, ?o6, ?o7, ?o8, ?o9, ?o10, ?o11, ?o12, ?o13, ?o14, ?o15, ?o16, ?o17, trivial⟩ ?fin
          case o0 =>
            refine GdOp.plain rfl (fun A vs w' hF hT hb hd => ?_)
            have e1 : A.eval (.tmp 11) = .int .i64 (i : Int) := hF 11 rfl
            exact BigFrame.wp_move _ rfl ⟨_, rfl, e1, Below.refl _ _⟩
          case o1 =>
            refine GdOp.plain rfl (fun A vs w' hF hT hb hd => ?_)
            have e1 : A.eval (.tmp 55) = .int .i64 (i : Int) := (hT 55 0 (by simp) rfl).trans (hd ⟨0, .data⟩ (by simp) rfl)
            exact wp_gtrI rfl e1 rfl ⟨_, rfl, (congrArg Value.bool (decide_eq_true (by omega))), Below.refl _ _⟩
          case o2 =>
            refine GdOp.plain rfl (fun A vs w' hF hT hb hd => ?_)
            have e1 : A.eval (.tmp 56) = .bool true := (hT 56 1 (by simp) rfl).trans (hd ⟨1, .data⟩ (by simp) rfl)
            exact BigFrame.wp_move _ rfl ⟨_, rfl, e1, Below.refl _ _⟩
          case o3 =>
            refine GdOp.taken rfl ⟨_, _, rfl, rfl, by simp⟩ (by kernel_rfl) (fun w v h => h) (fun A vs w' hF hT hb hd => ?_)
            have e1 : A.eval (.tmp 2) = .slice (some ⟨bl, ol, none⟩) l.length c2 := hF 2 rfl
            exact BigFrame.wp_move _ rfl ⟨_, rfl, e1, Below.refl _ _⟩
          case o4 =>
            refine GdOp.taken rfl ⟨_, _, rfl, rfl, by simp⟩ (by kernel_rfl) (fun w v h => h) (fun A vs w' hF hT hb hd => ?_)
            have e1 : A.eval (.tmp 11) = .int .i64 (i : Int) := hF 11 rfl
            exact BigFrame.wp_move _ rfl ⟨_, rfl, e1, Below.refl _ _⟩
          case o5 =>
            refine GdOp.taken rfl ⟨_, _, rfl, rfl, by simp⟩ (by kernel_rfl) (fun w v h => h) (fun A vs w' hF hT hb hd => ?_)
            have e1 : A.eval (.tmp 59) = .int .i64 (i : Int) := (hT 59 4 (by simp) rfl).trans (hd ⟨4, .data⟩ (by simp) rfl)
            exact wp_subI rfl e1 rfl (by omega) (by omega) ⟨_, rfl, rfl, Below.refl _ _⟩
          case o6 =>
            refine GdOp.taken rfl ⟨_, _, rfl, rfl, by simp⟩ (by kernel_rfl) (fun w v h => h) (fun A vs w' hF hT hb hd => ?_)
            have e1 : A.eval (.tmp 58) = .slice (some ⟨bl, ol, none⟩) l.length c2 := (hT 58 3 (by simp) rfl).trans (hd ⟨3, .data⟩ (by simp) rfl)
            have e2 : A.eval (.tmp 60) = .int .i64 ((i : Int) - 1) := (hT 60 5 (by simp) rfl).trans (hd ⟨5, .data⟩ (by simp) rfl)
            exact wp_ixN (e := 53) rfl (by kernel_rfl) (by kernel_rfl) (e1) (e2) (by omega) (by omega) ⟨_, rfl, rfl, Below.refl _ _⟩
          case o7 =>
            refine GdOp.taken rfl ⟨_, _, rfl, rfl, by simp⟩ (by kernel_rfl) (fun w v h => h) (fun A vs w' hF hT hb hd => ?_)
            have e1 : A.eval (.tmp 61) = .pointer (some ⟨bl, ol + (i - 1) * 2, none⟩) := (hT 61 6 (by simp) rfl).trans (hd ⟨6, .data⟩ (by simp) rfl)
            exact wp_fieldN pqS rfl (e1) (by omega) ⟨_, rfl, rfl, Below.refl _ _⟩
          case o8 =>
            refine GdOp.taken rfl ⟨_, _, rfl, rfl, by simp⟩ (by kernel_rfl) (fun w v h => h) (fun A vs w' hF hT hb hd => ?_)
            have e1 : A.eval (.tmp 62) = .pointer (some ⟨bl, ol + (i - 1) * 2, none⟩) := (hT 62 7 (by simp) rfl).trans (hd ⟨7, .data⟩ (by simp) rfl)
            exact wp_ld_slice (e := 5) rfl e1 (by kernel_rfl) (((hb.cell (p := ⟨_, _, none⟩) (cell_lt c0)).trans c0)) ⟨_, rfl, rfl, Below.refl _ _⟩
          case o9 =>
            refine GdOp.taken rfl ⟨_, _, rfl, rfl, by simp⟩ (by kernel_rfl) (fun w v h => h) (fun A vs w' hF hT hb hd => ?_)
            have e1 : A.eval (.tmp 63) = .slice A0 l[i - 1].key.length C0 := (hT 63 8 (by simp) rfl).trans (hd ⟨8, .data⟩ (by simp) rfl)
            exact wp_conv byP rfl e1 (r0.below hb).rd ⟨_, rfl, rfl, Below.refl _ _⟩
          case o10 =>
            refine GdOp.taken rfl ⟨_, _, rfl, rfl, by simp⟩ (by kernel_rfl) (fun w v h => h) (fun A vs w' hF hT hb hd => ?_)
            have e1 : A.eval (.tmp 2) = .slice (some ⟨bl, ol, none⟩) l.length c2 := hF 2 rfl
            exact BigFrame.wp_move _ rfl ⟨_, rfl, e1, Below.refl _ _⟩
          case o11 =>
            refine GdOp.taken rfl ⟨_, _, rfl, rfl, by simp⟩ (by kernel_rfl) (fun w v h => h) (fun A vs w' hF hT hb hd => ?_)
            have e1 : A.eval (.tmp 11) = .int .i64 (i : Int) := hF 11 rfl
            exact BigFrame.wp_move _ rfl ⟨_, rfl, e1, Below.refl _ _⟩
          case o12 =>
            refine GdOp.taken rfl ⟨_, _, rfl, rfl, by simp⟩ (by kernel_rfl) (fun w v h => h) (fun A vs w' hF hT hb hd => ?_)
            have e1 : A.eval (.tmp 65) = .slice (some ⟨bl, ol, none⟩) l.length c2 := (hT 65 10 (by simp) rfl).trans (hd ⟨10, .data⟩ (by simp) rfl)
            have e2 : A.eval (.tmp 66) = .int .i64 (i : Int) := (hT 66 11 (by simp) rfl).trans (hd ⟨11, .data⟩ (by simp) rfl)
            exact wp_ixN (e := 53) rfl (by kernel_rfl) (by kernel_rfl) (e1) (e2) rfl (by omega) ⟨_, rfl, rfl, Below.refl _ _⟩
          case o13 =>
            refine GdOp.taken rfl ⟨_, _, rfl, rfl, by simp⟩ (by kernel_rfl) (fun w v h => h) (fun A vs w' hF hT hb hd => ?_)
            have e1 : A.eval (.tmp 67) = .pointer (some ⟨bl, ol + i * 2, none⟩) := (hT 67 12 (by simp) rfl).trans (hd ⟨12, .data⟩ (by simp) rfl)
            exact wp_fieldN pqS rfl (e1) (by omega) ⟨_, rfl, rfl, Below.refl _ _⟩
          case o14 =>
            refine GdOp.taken rfl ⟨_, _, rfl, rfl, by simp⟩ (by kernel_rfl) (fun w v h => h) (fun A vs w' hF hT hb hd => ?_)
            have e1 : A.eval (.tmp 68) = .pointer (some ⟨bl, ol + i * 2, none⟩) := (hT 68 13 (by simp) rfl).trans (hd ⟨13, .data⟩ (by simp) rfl)
            exact wp_ld_slice (e := 5) rfl e1 (by kernel_rfl) (((hb.cell (p := ⟨_, _, none⟩) (cell_lt c1)).trans c1)) ⟨_, rfl, rfl, Below.refl _ _⟩
          case o15 =>
            refine GdOp.taken rfl ⟨_, _, rfl, rfl, by simp⟩ (by kernel_rfl) (fun w v h => h) (fun A vs w' hF hT hb hd => ?_)
            have e1 : A.eval (.tmp 69) = .slice A1 l[i].key.length C1 := (hT 69 14 (by simp) rfl).trans (hd ⟨14, .data⟩ (by simp) rfl)
            exact wp_conv byP rfl e1 (r1.below hb).rd ⟨_, rfl, rfl, Below.refl _ _⟩
          case o16 =>
            refine GdOp.taken rfl ⟨_, _, rfl, rfl, by simp⟩ (by kernel_rfl) (fun w v h => h) (fun A vs w' hF hT hb hd => ?_)
            have e1 : A.eval (.tmp 64) = .string (strOf l[i - 1].key) := (hT 64 9 (by simp) rfl).trans (hd ⟨9, .data⟩ (by simp) rfl)
            have e2 : A.eval (.tmp 70) = .string (strOf l[i].key) := (hT 70 15 (by simp) rfl).trans (hd ⟨15, .data⟩ (by simp) rfl)
            exact wp_geqS rfl e1 e2 ⟨_, rfl, hge, Below.refl _ _⟩
          case o17 =>
            refine GdOp.plain rfl (fun A vs w' hF hT hb hd => ?_)
            have e1 : A.eval (.tmp 57) = .bool true := (hT 57 2 (by simp) rfl).trans (hd ⟨2, .data⟩ (by simp) rfl)
            have e2 : A.eval (.tmp 71) = .bool true := (hT 71 16 (by simp) rfl).trans (hd ⟨16, .data⟩ (by simp) rfl)
            exact wp_pk rfl e1 (fun _ => e2) (by simp) ⟨_, rfl, rfl, Below.refl _ _⟩
          case fin =>
          intro vs9 W9 hb9 hG9
          have e0 : vs9 0 = .int .i64 (i : Int) := hG9 0 (by decide)
          have e1 : vs9 1 = .bool true := hG9 1 (by decide)
          have e2 : vs9 2 = .bool true := hG9 2 (by decide)
          have e3 : vs9 3 = .slice (some ⟨bl, ol, none⟩) l.length c2 := hG9 3 (by decide)
          have e4 : vs9 4 = .int .i64 (i : Int) := hG9 4 (by decide)
          have e5 : vs9 5 = .int .i64 ((i : Int) - 1) := hG9 5 (by decide)
          have e6 : vs9 6 = .pointer (some ⟨bl, ol + (i - 1) * 2, none⟩) := hG9 6 (by decide)
          have e7 : vs9 7 = .pointer (some ⟨bl, ol + (i - 1) * 2, none⟩) := hG9 7 (by decide)
          have e8 : vs9 8 = .slice A0 l[i - 1].key.length C0 := hG9 8 (by decide)
          have e9 : vs9 9 = .string (strOf l[i - 1].key) := hG9 9 (by decide)
          have e10 : vs9 10 = .slice (some ⟨bl, ol, none⟩) l.length c2 := hG9 10 (by decide)
          have e11 : vs9 11 = .int .i64 (i : Int) := hG9 11 (by decide)
          have e12 : vs9 12 = .pointer (some ⟨bl, ol + i * 2, none⟩) := hG9 12 (by decide)
          have e13 : vs9 13 = .pointer (some ⟨bl, ol + i * 2, none⟩) := hG9 13 (by decide)
          have e14 : vs9 14 = .slice A1 l[i].key.length C1 := hG9 14 (by decide)
          have e15 : vs9 15 = .string (strOf l[i].key) := hG9 15 (by decide)
          have e16 : vs9 16 = .bool true := hG9 16 (by decide)
          have e17 : vs9 17 = .bool true := hG9 17 (by decide)
          simp only [putAll, e0, e1, e2, e3, e4, e5, e6, e7, e8, e9, e10, e11, e12, e13, e14, e15, e16, e17]
          clear hG9 e0 e1 e2 e3 e4 e5 e6 e7 e8 e9 e10 e11 e12 e13 e14 e15 e16 e17
          replace xD := xD.below hb9 xD.lt
          replace xX := xX.below hb9 xX.lt
          replace hL := hL.below hb9
          replace r1 := r1.below hb9
          replace c1 := (hb9.cell (p := ⟨_, _, none⟩) (cell_lt c1)).trans c1
          replace r0 := r0.below hb9
          replace c0 := (hb9.cell (p := ⟨_, _, none⟩) (cell_lt c0)).trans c0
          replace q := q.trans (hb9.mono q.size)
          clear hb9
          go_simp
          clear c0 c1 r0 r1 d0
          go_wp2_with fail
          go_ret
          exact ⟨rfl, q⟩
        | true =>
          have hge : Value.bool (!ltB (l[i - 1]'(by omega)).key l[i].key) = .bool false := by rw [hlt2]; rfl
          go_upto_region 8 with (fail)
          refine wp_region_gsg (by kernel_rfl) (by kernel_rfl) [sgEq (.int .i64 (i : Int)), sgEq (.bool true), sgEq (.bool true), sgEq (.slice (some ⟨bl, ol, none⟩) l.length c2), sgEq (.int .i64 (i : Int)), sgEq (.int .i64 ((i : Int) - 1)), sgEq (.pointer (some ⟨bl, ol + (i - 1) * 2, none⟩)), sgEq (.pointer (some ⟨bl, ol + (i - 1) * 2, none⟩)), sgEq (.slice A0 l[i - 1].key.length C0), sgEq (.string (strOf l[i - 1].key)), sgEq (.slice (some ⟨bl, ol, none⟩) l.length c2), sgEq (.int .i64 (i : Int)), sgEq (.pointer (some ⟨bl, ol + i * 2, none⟩)), sgEq (.pointer (some ⟨bl, ol + i * 2, none⟩)), sgEq (.slice A1 l[i].key.length C1), sgEq (.string (strOf l[i].key)), sgEq (.bool false), sgEq (.bool false)]
            ⟨?o0, ?o1, ?o2, ?o3, ?o4, ?o5, ?o6, ?o7, ?o8, ?o9, ?o10, ?o11, ?o12, ?o13, ?o14, ?o15, ?o16, ?o17, trivial⟩ ?fin
          case o0 =>
            refine GdOp.plain rfl (fun A vs w' hF hT hb hd => ?_)
            have e1 : A.eval (.tmp 11) = .int .i64 (i : Int) := hF 11 rfl
            exact BigFrame.wp_move _ rfl ⟨_, rfl, e1, Below.refl _ _⟩
          case o1 =>
            refine GdOp.plain rfl (fun A vs w' hF hT hb hd => ?_)
            have e1 : A.eval (.tmp 55) = .int .i64 (i : Int) := (hT 55 0 (by simp) rfl).trans (hd ⟨0, .data⟩ (by simp) rfl)
            exact wp_gtrI rfl e1 rfl ⟨_, rfl, (congrArg Value.bool (decide_eq_true (by omega))), Below.refl _ _⟩
          case o2 =>
            refine GdOp.plain rfl (fun A vs w' hF hT hb hd => ?_)
            have e1 : A.eval (.tmp 56) = .bool true := (hT 56 1 (by simp) rfl).trans (hd ⟨1, .data⟩ (by simp) rfl)
            exact BigFrame.wp_move _ rfl ⟨_, rfl, e1, Below.refl _ _⟩
          case o3 =>
            refine GdOp.taken rfl ⟨_, _, rfl, rfl, by simp⟩ (by kernel_rfl) (fun w v h => h) (fun A vs w' hF hT hb hd => ?_)
            have e1 : A.eval (.tmp 2) = .slice (some ⟨bl, ol, none⟩) l.length c2 := hF 2 rfl
            exact BigFrame.wp_move _ rfl ⟨_, rfl, e1, Below.refl _ _⟩
          case o4 =>
            refine GdOp.taken rfl ⟨_, _, rfl, rfl, by simp⟩ (by kernel_rfl) (fun w v h => h) (fun A vs w' hF hT hb hd => ?_)
            have e1 : A.eval (.tmp 11) = .int .i64 (i : Int) := hF 11 rfl
            exact BigFrame.wp_move _ rfl ⟨_, rfl, e1, Below.refl _ _⟩
          case o5 =>
            refine GdOp.taken rfl ⟨_, _, rfl, rfl, by simp⟩ (by kernel_rfl) (fun w v h => h) (fun A vs w' hF hT hb hd => ?_)
            have e1 : A.eval (.tmp 59) = .int .i64 (i : Int) := (hT 59 4 (by simp) rfl).trans (hd ⟨4, .data⟩ (by simp) rfl)
            exact wp_subI rfl e1 rfl (by omega) (by omega) ⟨_, rfl, rfl, Below.refl _ _⟩
          case o6 =>
            refine GdOp.taken rfl ⟨_, _, rfl, rfl, by simp⟩ (by kernel_rfl) (fun w v h => h) (fun A vs w' hF hT hb hd => ?_)
            have e1 : A.eval (.tmp 58) = .slice (some ⟨bl, ol, none⟩) l.length c2 := (hT 58 3 (by simp) rfl).trans (hd ⟨3, .data⟩ (by simp) rfl)
            have e2 : A.eval (.tmp 60) = .int .i64 ((i : Int) - 1) := (hT 60 5 (by simp) rfl).trans (hd ⟨5, .data⟩ (by simp) rfl)
            exact wp_ixN (e := 53) rfl (by kernel_rfl) (by kernel_rfl) (e1) (e2) (by omega) (by omega) ⟨_, rfl, rfl, Below.refl _ _⟩
          case o7 =>
            refine GdOp.taken rfl ⟨_, _, rfl, rfl, by simp⟩ (by kernel_rfl) (fun w v h => h) (fun A vs w' hF hT hb hd => ?_)
            have e1 : A.eval (.tmp 61) = .pointer (some ⟨bl, ol + (i - 1) * 2, none⟩) := (hT 61 6 (by simp) rfl).trans (hd ⟨6, .data⟩ (by simp) rfl)
            exact wp_fieldN pqS rfl (e1) (by omega) ⟨_, rfl, rfl, Below.refl _ _⟩
          case o8 =>
            refine GdOp.taken rfl ⟨_, _, rfl, rfl, by simp⟩ (by kernel_rfl) (fun w v h => h) (fun A vs w' hF hT hb hd => ?_)
            have e1 : A.eval (.tmp 62) = .pointer (some ⟨bl, ol + (i - 1) * 2, none⟩) := (hT 62 7 (by simp) rfl).trans (hd ⟨7, .data⟩ (by simp) rfl)
            exact wp_ld_slice (e := 5) rfl e1 (by kernel_rfl) (((hb.cell (p := ⟨_, _, none⟩) (cell_lt c0)).trans c0)) ⟨_, rfl, rfl, Below.refl _ _⟩
          case o9 =>
            refine GdOp.taken rfl ⟨_, _, rfl, rfl, by simp⟩ (by kernel_rfl) (fun w v h => h) (fun A vs w' hF hT hb hd => ?_)
            have e1 : A.eval (.tmp 63) = .slice A0 l[i - 1].key.length C0 := (hT 63 8 (by simp) rfl).trans (hd ⟨8, .data⟩ (by simp) rfl)
            exact wp_conv byP rfl e1 (r0.below hb).rd ⟨_, rfl, rfl, Below.refl _ _⟩
          case o10 =>
            refine GdOp.taken rfl ⟨_, _, rfl, rfl, by simp⟩ (by kernel_rfl) (fun w v h => h) (fun A vs w' hF hT hb hd => ?_)
            have e1 : A.eval (.tmp 2) = .slice (some ⟨bl, ol, none⟩) l.length c2 := hF 2 rfl
            exact BigFrame.wp_move _ rfl ⟨_, rfl, e1, Below.refl _ _⟩
          case o11 =>
            refine GdOp.taken rfl ⟨_, _, rfl, rfl, by simp⟩ (by kernel_rfl) (fun w v h => h) (fun A vs w' hF hT hb hd => ?_)
            have e1 : A.eval (.tmp 11) = .int .i64 (i : Int) := hF 11 rfl
            exact BigFrame.wp_move _ rfl ⟨_, rfl, e1, Below.refl _ _⟩
          case o12 =>
            refine GdOp.taken rfl ⟨_, _, rfl, rfl, by simp⟩ (by kernel_rfl) (fun w v h => h) (fun A vs w' hF hT hb hd => ?_)
            have e1 : A.eval (.tmp 65) = .slice (some ⟨bl, ol, none⟩) l.length c2 := (hT 65 10 (by simp) rfl).trans (hd ⟨10, .data⟩ (by simp) rfl)
            have e2 : A.eval (.tmp 66) = .int .i64 (i : Int) := (hT 66 11 (by simp) rfl).trans (hd ⟨11, .data⟩ (by simp) rfl)
            exact wp_ixN (e := 53) rfl (by kernel_rfl) (by kernel_rfl) (e1) (e2) rfl (by omega) ⟨_, rfl, rfl, Below.refl _ _⟩
          case o13 =>
            refine GdOp.taken rfl ⟨_, _, rfl, rfl, by simp⟩ (by kernel_rfl) (fun w v h => h) (fun A vs w' hF hT hb hd => ?_)
            have e1 : A.eval (.tmp 67) = .pointer (some ⟨bl, ol + i * 2, none⟩) := (hT 67 12 (by simp) rfl).trans (hd ⟨12, .data⟩ (by simp) rfl)
            exact wp_fieldN pqS rfl (e1) (by omega) ⟨_, rfl, rfl, Below.refl _ _⟩
          case o14 =>
            refine GdOp.taken rfl ⟨_, _, rfl, rfl, by simp⟩ (by kernel_rfl) (fun w v h => h) (fun A vs w' hF hT hb hd => ?_)
            have e1 : A.eval (.tmp 68) = .pointer (some ⟨bl, ol + i * 2, none⟩) := (hT 68 13 (by simp) rfl).trans (hd ⟨13, .data⟩ (by simp) rfl)
            exact wp_ld_slice (e := 5) rfl e1 (by kernel_rfl) (((hb.cell (p := ⟨_, _, none⟩) (cell_lt c1)).trans c1)) ⟨_, rfl, rfl, Below.refl _ _⟩
          case o15 =>
            refine GdOp.taken rfl ⟨_, _, rfl, rfl, by simp⟩ (by kernel_rfl) (fun w v h => h) (fun A vs w' hF hT hb hd => ?_)
            have e1 : A.eval (.tmp 69) = .slice A1 l[i].key.length C1 := (hT 69 14 (by simp) rfl).trans (hd ⟨14, .data⟩ (by simp) rfl)
            exact wp_conv byP rfl e1 (r1.below hb).rd ⟨_, rfl, rfl, Below.refl _ _⟩
          case o16 =>
            refine GdOp.taken rfl ⟨_, _, rfl, rfl, by simp⟩ (by kernel_rfl) (fun w v h => h) (fun A vs w' hF hT hb hd => ?_)
            have e1 : A.eval (.tmp 64) = .string (strOf l[i - 1].key) := (hT 64 9 (by simp) rfl).trans (hd ⟨9, .data⟩ (by simp) rfl)
            have e2 : A.eval (.tmp 70) = .string (strOf l[i].key) := (hT 70 15 (by simp) rfl).trans (hd ⟨15, .data⟩ (by simp) rfl)
            exact wp_geqS rfl e1 e2 ⟨_, rfl, hge, Below.refl _ _⟩
          case o17 =>
            refine GdOp.plain rfl (fun A vs w' hF hT hb hd => ?_)
            have e1 : A.eval (.tmp 57) = .bool true := (hT 57 2 (by simp) rfl).trans (hd ⟨2, .data⟩ (by simp) rfl)
            have e2 : A.eval (.tmp 71) = .bool false := (hT 71 16 (by simp) rfl).trans (hd ⟨16, .data⟩ (by simp) rfl)
            exact wp_pk rfl e1 (fun _ => e2) (by simp) ⟨_, rfl, rfl, Below.refl _ _⟩
          case fin =>
          intro vs9 W9 hb9 hG9
          have e0 : vs9 0 = .int .i64 (i : Int) := hG9 0 (by decide)
          have e1 : vs9 1 = .bool true := hG9 1 (by decide)
          have e2 : vs9 2 = .bool true := hG9 2 (by decide)
          have e3 : vs9 3 = .slice (some ⟨bl, ol, none⟩) l.length c2 := hG9 3 (by decide)
          have e4 : vs9 4 = .int .i64 (i : Int) := hG9 4 (by decide)
          have e5 : vs9 5 = .int .i64 ((i : Int) - 1) := hG9 5 (by decide)
          have e6 : vs9 6 = .pointer (some ⟨bl, ol + (i - 1) * 2, none⟩) := hG9 6 (by decide)
          have e7 : vs9 7 = .pointer (some ⟨bl, ol + (i - 1) * 2, none⟩) := hG9 7 (by decide)
          have e8 : vs9 8 = .slice A0 l[i - 1].key.length C0 := hG9 8 (by decide)
          have e9 : vs9 9 = .string (strOf l[i - 1].key) := hG9 9 (by decide)
          have e10 : vs9 10 = .slice (some ⟨bl, ol, none⟩) l.length c2 := hG9 10 (by decide)
          have e11 : vs9 11 = .int .i64 (i : Int) := hG9 11 (by decide)
          have e12 : vs9 12 = .pointer (some ⟨bl, ol + i * 2, none⟩) := hG9 12 (by decide)
          have e13 : vs9 13 = .pointer (some ⟨bl, ol + i * 2, none⟩) := hG9 13 (by decide)
          have e14 : vs9 14 = .slice A1 l[i].key.length C1 := hG9 14 (by decide)
          have e15 : vs9 15 = .string (strOf l[i].key) := hG9 15 (by decide)
          have e16 : vs9 16 = .bool false := hG9 16 (by decide)
          have e17 : vs9 17 = .bool false := hG9 17 (by decide)
          simp only [putAll, e0, e1, e2, e3, e4, e5, e6, e7, e8, e9, e10, e11, e12, e13, e14, e15, e16, e17]
          clear hG9 e0 e1 e2 e3 e4 e5 e6 e7 e8 e9 e10 e11 e12 e13 e14 e15 e16 e17
          replace xD := xD.below hb9 xD.lt
          replace xX := xX.below hb9 xX.lt
          replace hL := hL.below hb9
          replace r1 := r1.below hb9
          replace c1 := (hb9.cell (p := ⟨_, _, none⟩) (cell_lt c1)).trans c1
          replace r0 := r0.below hb9
          replace c0 := (hb9.cell (p := ⟨_, _, none⟩) (cell_lt c0)).trans c0
          replace q := q.trans (hb9.mono q.size)
          clear hb9
          go_simp
          clear c0 r0
          have hs1 : SrtQ (l.take (i + 1)) := srt_step hsr hlt fun _ => hlt2
          go_upto_region 10 with (fail)
          by_cases hk : l[i].key = key
          · refine wp_region_gsg (by kernel_rfl) (by kernel_rfl) [sgEq (.slice (some ⟨bl, ol, none⟩) l.length c2), sgEq (.int .i64 (i : Int)), sgEq (.pointer (some ⟨bl, ol + i * 2, none⟩)), sgEq (.pointer (some ⟨bl, ol + i * 2, none⟩)), sgEq (.slice A1 l[i].key.length C1), sgEq (.string (strOf l[i].key)), sgEq (.slice a3 key.length c3), sgEq (.string (strOf key)), sgEq (.bool true)]
              ⟨?o0, ?o1, ?o2, ?o3, ?o4, ?o5, ?o6, ?o7, ?o8, trivial⟩ ?fin
            case o0 =>
              refine GdOp.plain rfl (fun A vs w' hF hT hb hd => ?_)
              have e1 : A.eval (.tmp 2) = .slice (some ⟨bl, ol, none⟩) l.length c2 := hF 2 rfl
              exact BigFrame.wp_move _ rfl ⟨_, rfl, e1, Below.refl _ _⟩
            case o1 =>
              refine GdOp.plain rfl (fun A vs w' hF hT hb hd => ?_)
              have e1 : A.eval (.tmp 11) = .int .i64 (i : Int) := hF 11 rfl
              exact BigFrame.wp_move _ rfl ⟨_, rfl, e1, Below.refl _ _⟩
            case o2 =>
              refine GdOp.plain rfl (fun A vs w' hF hT hb hd => ?_)
              have e1 : A.eval (.tmp 74) = .slice (some ⟨bl, ol, none⟩) l.length c2 := (hT 74 0 (by simp) rfl).trans (hd ⟨0, .data⟩ (by simp) rfl)
              have e2 : A.eval (.tmp 75) = .int .i64 (i : Int) := (hT 75 1 (by simp) rfl).trans (hd ⟨1, .data⟩ (by simp) rfl)
              exact wp_ixN (e := 53) rfl (by kernel_rfl) (by kernel_rfl) (e1) (e2) rfl (by omega) ⟨_, rfl, rfl, Below.refl _ _⟩
            case o3 =>
              refine GdOp.plain rfl (fun A vs w' hF hT hb hd => ?_)
              have e1 : A.eval (.tmp 76) = .pointer (some ⟨bl, ol + i * 2, none⟩) := (hT 76 2 (by simp) rfl).trans (hd ⟨2, .data⟩ (by simp) rfl)
              exact wp_fieldN pqS rfl (e1) (by omega) ⟨_, rfl, rfl, Below.refl _ _⟩
            case o4 =>
              refine GdOp.plain rfl (fun A vs w' hF hT hb hd => ?_)
              have e1 : A.eval (.tmp 77) = .pointer (some ⟨bl, ol + i * 2, none⟩) := (hT 77 3 (by simp) rfl).trans (hd ⟨3, .data⟩ (by simp) rfl)
              exact wp_ld_slice (e := 5) rfl e1 (by kernel_rfl) (((hb.cell (p := ⟨_, _, none⟩) (cell_lt c1)).trans c1)) ⟨_, rfl, rfl, Below.refl _ _⟩
            case o5 =>
              refine GdOp.plain rfl (fun A vs w' hF hT hb hd => ?_)
              have e1 : A.eval (.tmp 78) = .slice A1 l[i].key.length C1 := (hT 78 4 (by simp) rfl).trans (hd ⟨4, .data⟩ (by simp) rfl)
              exact wp_conv byP rfl e1 (r1.below hb).rd ⟨_, rfl, rfl, Below.refl _ _⟩
            case o6 =>
              refine GdOp.plain rfl (fun A vs w' hF hT hb hd => ?_)
              have e1 : A.eval (.tmp 3) = .slice a3 key.length c3 := hF 3 rfl
              exact BigFrame.wp_move _ rfl ⟨_, rfl, e1, Below.refl _ _⟩
            case o7 =>
              refine GdOp.plain rfl (fun A vs w' hF hT hb hd => ?_)
              have e1 : A.eval (.tmp 80) = .slice a3 key.length c3 := (hT 80 6 (by simp) rfl).trans (hd ⟨6, .data⟩ (by simp) rfl)
              exact wp_conv byP rfl e1 ((hK.below q).below hb).rd ⟨_, rfl, rfl, Below.refl _ _⟩
            case o8 =>
              refine GdOp.plain rfl (fun A vs w' hF hT hb hd => ?_)
              have e1 : A.eval (.tmp 79) = .string (strOf l[i].key) := (hT 79 5 (by simp) rfl).trans (hd ⟨5, .data⟩ (by simp) rfl)
              have e2 : A.eval (.tmp 81) = .string (strOf key) := (hT 81 7 (by simp) rfl).trans (hd ⟨7, .data⟩ (by simp) rfl)
              exact wp_eqlS rfl e1 e2 ⟨_, rfl, (congrArg Value.bool (decide_eq_true hk)), Below.refl _ _⟩
            case fin =>
            intro vs9 W9 hb9 hG9
            have e0 : vs9 0 = .slice (some ⟨bl, ol, none⟩) l.length c2 := hG9 0 (by decide)
            have e1 : vs9 1 = .int .i64 (i : Int) := hG9 1 (by decide)
            have e2 : vs9 2 = .pointer (some ⟨bl, ol + i * 2, none⟩) := hG9 2 (by decide)
            have e3 : vs9 3 = .pointer (some ⟨bl, ol + i * 2, none⟩) := hG9 3 (by decide)
            have e4 : vs9 4 = .slice A1 l[i].key.length C1 := hG9 4 (by decide)
            have e5 : vs9 5 = .string (strOf l[i].key) := hG9 5 (by decide)
            have e6 : vs9 6 = .slice a3 key.length c3 := hG9 6 (by decide)
            have e7 : vs9 7 = .string (strOf key) := hG9 7 (by decide)
            have e8 : vs9 8 = .bool true := hG9 8 (by decide)
            simp only [putAll, e0, e1, e2, e3, e4, e5, e6, e7, e8]
            clear hG9 e0 e1 e2 e3 e4 e5 e6 e7 e8
            replace xD := xD.below hb9 xD.lt
            replace xX := xX.below hb9 xX.lt
            replace hL := hL.below hb9
            replace r1 := r1.below hb9
            replace c1 := (hb9.cell (p := ⟨_, _, none⟩) (cell_lt c1)).trans c1
            replace q := q.trans (hb9.mono q.size)
            clear hb9
            go_simp
            clear c1 r1 d0
            go_wp2_with fail
            go_roundw
            case rel => exact ⟨i + 1, (i : Int), by go_num, rfl, by omega, hs1, FndI.yes hlt hk, xD, xX, q⟩
            case measure => simp [intOf]; omega
          · refine wp_region_gsg (by kernel_rfl) (by kernel_rfl) [sgEq (.slice (some ⟨bl, ol, none⟩) l.length c2), sgEq (.int .i64 (i : Int)), sgEq (.pointer (some ⟨bl, ol + i * 2, none⟩)), sgEq (.pointer (some ⟨bl, ol + i * 2, none⟩)), sgEq (.slice A1 l[i].key.length C1), sgEq (.string (strOf l[i].key)), sgEq (.slice a3 key.length c3), sgEq (.string (strOf key)), sgEq (.bool false)]
              ⟨?o0, ?o1, ?o2, ?o3, ?o4, ?o5, ?o6, ?o7, ?o8, trivial⟩ ?fin
            case o0 =>
              refine GdOp.plain rfl (fun A vs w' hF hT hb hd => ?_)
              have e1 : A.eval (.tmp 2) = .slice (some ⟨bl, ol, none⟩) l.length c2 := hF 2 rfl
              exact BigFrame.wp_move _ rfl ⟨_, rfl, e1, Below.refl _ _⟩
            case o1 =>
              refine GdOp.plain rfl (fun A vs w' hF hT hb hd => ?_)
              have e1 : A.eval (.tmp 11) = .int .i64 (i : Int) := hF 11 rfl
              exact BigFrame.wp_move _ rfl ⟨_, rfl, e1, Below.refl _ _⟩
            case o2 =>
              refine GdOp.plain rfl (fun A vs w' hF hT hb hd => ?_)
              have e1 : A.eval (.tmp 74) = .slice (some ⟨bl, ol, none⟩) l.length c2 := (hT 74 0 (by simp) rfl).trans (hd ⟨0, .data⟩ (by simp) rfl)
              have e2 : A.eval (.tmp 75) = .int .i64 (i : Int) := (hT 75 1 (by simp) rfl).trans (hd ⟨1, .data⟩ (by simp) rfl)
              exact wp_ixN (e := 53) rfl (by kernel_rfl) (by kernel_rfl) (e1) (e2) rfl (by omega) ⟨_, rfl, rfl, Below.refl _ _⟩
            case o3 =>
              refine GdOp.plain rfl (fun A vs w' hF hT hb hd => ?_)
              have e1 : A.eval (.tmp 76) = .pointer (some ⟨bl, ol + i * 2, none⟩) := (hT 76 2 (by simp) rfl).trans (hd ⟨2, .data⟩ (by simp) rfl)
              exact wp_fieldN pqS rfl (e1) (by omega) ⟨_, rfl, rfl, Below.refl _ _⟩
            case o4 =>
              refine GdOp.plain rfl (fun A vs w' hF hT hb hd => ?_)
              have e1 : A.eval (.tmp 77) = .pointer (some ⟨bl, ol + i * 2, none⟩) := (hT 77 3 (by simp) rfl).trans (hd ⟨3, .data⟩ (by simp) rfl)
              exact wp_ld_slice (e := 5) rfl e1 (by kernel_rfl) (((hb.cell (p := ⟨_, _, none⟩) (cell_lt c1)).trans c1)) ⟨_, rfl, rfl, Below.refl _ _⟩
            case o5 =>
              refine GdOp.plain rfl (fun A vs w' hF hT hb hd => ?_)
              have e1 : A.eval (.tmp 78) = .slice A1 l[i].key.length C1 := (hT 78 4 (by simp) rfl).trans (hd ⟨4, .data⟩ (by simp) rfl)
              exact wp_conv byP rfl e1 (r1.below hb).rd ⟨_, rfl, rfl, Below.refl _ _⟩
            case o6 =>
              refine GdOp.plain rfl (fun A vs w' hF hT hb hd => ?_)
              have e1 : A.eval (.tmp 3) = .slice a3 key.length c3 := hF 3 rfl
              exact BigFrame.wp_move _ rfl ⟨_, rfl, e1, Below.refl _ _⟩
            case o7 =>
              refine GdOp.plain rfl (fun A vs w' hF hT hb hd => ?_)
              have e1 : A.eval (.tmp 80) = .slice a3 key.length c3 := (hT 80 6 (by simp) rfl).trans (hd ⟨6, .data⟩ (by simp) rfl)
              exact wp_conv byP rfl e1 ((hK.below q).below hb).rd ⟨_, rfl, rfl, Below.refl _ _⟩
            case o8 =>
              refine GdOp.plain rfl (fun A vs w' hF hT hb hd => ?_)
              have e1 : A.eval (.tmp 79) = .string (strOf l[i].key) := (hT 79 5 (by simp) rfl).trans (hd ⟨5, .data⟩ (by simp) rfl)
              have e2 : A.eval (.tmp 81) = .string (strOf key) := (hT 81 7 (by simp) rfl).trans (hd ⟨7, .data⟩ (by simp) rfl)
              exact wp_eqlS rfl e1 e2 ⟨_, rfl, (congrArg Value.bool (decide_eq_false hk)), Below.refl _ _⟩
            case fin =>
            intro vs9 W9 hb9 hG9
            have e0 : vs9 0 = .slice (some ⟨bl, ol, none⟩) l.length c2 := hG9 0 (by decide)
            have e1 : vs9 1 = .int .i64 (i : Int) := hG9 1 (by decide)
            have e2 : vs9 2 = .pointer (some ⟨bl, ol + i * 2, none⟩) := hG9 2 (by decide)
            have e3 : vs9 3 = .pointer (some ⟨bl, ol + i * 2, none⟩) := hG9 3 (by decide)
            have e4 : vs9 4 = .slice A1 l[i].key.length C1 := hG9 4 (by decide)
            have e5 : vs9 5 = .string (strOf l[i].key) := hG9 5 (by decide)
            have e6 : vs9 6 = .slice a3 key.length c3 := hG9 6 (by decide)
            have e7 : vs9 7 = .string (strOf key) := hG9 7 (by decide)
            have e8 : vs9 8 = .bool false := hG9 8 (by decide)
            simp only [putAll, e0, e1, e2, e3, e4, e5, e6, e7, e8]
            clear hG9 e0 e1 e2 e3 e4 e5 e6 e7 e8
            replace xD := xD.below hb9 xD.lt
            replace xX := xX.below hb9 xX.lt
            replace hL := hL.below hb9
            replace r1 := r1.below hb9
            replace c1 := (hb9.cell (p := ⟨_, _, none⟩) (cell_lt c1)).trans c1
            replace q := q.trans (hb9.mono q.size)
            clear hb9
            go_simp
            clear c1 r1 d0
            go_wp2_with fail
            go_roundw
            case rel => exact ⟨i + 1, was, by go_num, rfl, by omega, hs1, hfi.no hlt hk, xD, xX, q⟩
            case measure => simp [intOf]; omega
    · obtain rfl : i = l.length := by omega
      rw [List.take_length] at hsr
      have d0 : decide ((l.length : Int) < (l.length : Int)) = false := decide_eq_false (by omega)
      have hD := hd.below q
      have hX := hx.below q
      have b0 := xD.cell (i := 0) rfl
      have b1 := xD.cell (i := 1) rfl
      have x0 := xX.cell (i := 0) rfl
      have x1 := xX.cell (i := 1) rfl
      have x2 := xX.cell (i := 2) rfl
      have x3 := xX.cell (i := 3) rfl
      replace hsr := Lib.hid hsr
      replace hfi := Lib.hid hfi
      have hcl := dOver_any wr hD hX hL hsl hs1
      go_wp2_with fail
      refine hcl.mono ?_
      rintro e w7 ⟨aO, cO, rfl, hO, hb⟩
      clear hcl b0 b1 x0 x1 x2 x3 d0 hsl hs1
      have rO : RdL Elt.pq (fun _ => True) _ (.slice aO (overD d x l).length cO) (overD d x l) := hO.rdL.weak fun _ _ => trivial
      clear hO
      replace hD := hD.below hb
      replace hX := hX.below hb
      replace hL := hL.below hb
      replace xD := xD.below hb xD.lt
      replace xX := xX.below hb xX.lt
      replace q := q.trans (hb.mono q.size)
      clear hb hD hX hL
      have hso := Lib.hid (show SrtQ (overD d x l) by unfold overD; rw [if_pos hsr.out]; exact over_srt hsr.out)
      have hoe := Lib.hid (fun y => overD_find (d := d) (x := x) (y := y) hsr.out)
      have r0 : OvrO w key [.slice a d.writes.length c, .slice a' d.marks.length c'] [.int .i64 x.table, .slice b x.lo.length k, .slice b' x.hi.length k', .bool x.isOpen] (.slice aO (overD d x l).length cO) (overD d x l) (.int .i64 (-1)) (.int .i64 ((0 : Nat) : Int)) w7 := ⟨0, -1, rfl, rfl, Nat.zero_le _, FndI.start _ _, xD, xX, rO, q⟩
      clear q xD xX rO
      obtain ⟨jl, hjl⟩ : ∃ jl, jl = was := ⟨_, rfl⟩
      rw [← hjl] at hfi
      rw [← hjl]
      clear hjl
      have hfl := hfi
      clear hfi
      go_upto_region 15 with (fail)
      go_loopw [13, 14] (fun v iv wr => OvrO w key [.slice a d.writes.length c, .slice a' d.marks.length c'] [.int .i64 x.table, .slice b x.lo.length k, .slice b' x.hi.length k', .bool x.isOpen] (.slice aO (overD d x l).length cO) (overD d x l) v iv wr) (fun _ iv _ => (overD d x l).length - (intOf iv).toNat)
      case atStart => exact r0
      case round =>
        obtain ⟨i, was, rfl, rfl, hil, hfi, xD, xX, rO, q⟩ := hrel
        clear r0
        rcases Nat.lt_or_ge i (overD d x l).length with hlt | hge
        · obtain ⟨bl, ol, A1, C1, _, _, eL, _, c1, _, r1, _⟩ := rO.pq i hlt
          subst eL
          have d0 : decide ((i : Int) < ((overD d x l).length : Int)) = true := decide_eq_true (by omega)
          rcases Nat.eq_zero_or_pos i with hz | hz
          · replace hz := Lib.hid hz
            go_upto_region 17 with (fail)
            refine wp_region_gsg (by kernel_rfl) (by kernel_rfl) [sgEq (.int .i64 (i : Int)), sgEq (.bool false), sgEq (.bool false), sgEq undef, sgEq undef, sgEq undef, sgEq undef, sgEq undef, sgEq undef, sgEq undef, sgEq undef, sgEq undef, sgEq undef, sgEq undef, sgEq undef, sgEq undef, sgEq undef, sgEq (.bool false)]
              ⟨?o0, ?o1, ?o2, ?o3, ?o4, ?o5, ?o6, ?o7, ?o8, ?o9, ?o10, ?o11, ?o12, ?o13, ?o14, ?o15, ?o16, ?o17, trivial⟩ ?fin
            case o0 =>
              refine GdOp.plain rfl (fun A vs w' hF hT hb hd => ?_)
              have e1 : A.eval (.tmp 14) = .int .i64 (i : Int) := hF 14 rfl
              exact BigFrame.wp_move _ rfl ⟨_, rfl, e1, Below.refl _ _⟩
            case o1 =>
              refine GdOp.plain rfl (fun A vs w' hF hT hb hd => ?_)
              have e1 : A.eval (.tmp 94) = .int .i64 (i : Int) := (hT 94 0 (by simp) rfl).trans (hd ⟨0, .data⟩ (by simp) rfl)
              exact wp_gtrI rfl e1 rfl ⟨_, rfl, (congrArg Value.bool (decide_eq_false (by have := hz.out; omega))), Below.refl _ _⟩
            case o2 =>
              refine GdOp.plain rfl (fun A vs w' hF hT hb hd => ?_)
              have e1 : A.eval (.tmp 95) = .bool false := (hT 95 1 (by simp) rfl).trans (hd ⟨1, .data⟩ (by simp) rfl)
              exact BigFrame.wp_move _ rfl ⟨_, rfl, e1, Below.refl _ _⟩
            case o3 =>
              exact GdOp.left rfl ⟨_, _, rfl, rfl, by simp⟩ (by kernel_rfl) (fun w v h => .inl h) (fun w => rfl)
            case o4 =>
              exact GdOp.left rfl ⟨_, _, rfl, rfl, by simp⟩ (by kernel_rfl) (fun w v h => .inl h) (fun w => rfl)
            case o5 =>
              exact GdOp.left rfl ⟨_, _, rfl, rfl, by simp⟩ (by kernel_rfl) (fun w v h => .inl h) (fun w => rfl)
            case o6 =>
              exact GdOp.left rfl ⟨_, _, rfl, rfl, by simp⟩ (by kernel_rfl) (fun w v h => .inl h) (fun w => rfl)
            case o7 =>
              exact GdOp.left rfl ⟨_, _, rfl, rfl, by simp⟩ (by kernel_rfl) (fun w v h => .inl h) (fun w => rfl)
            case o8 =>
              exact GdOp.left rfl ⟨_, _, rfl, rfl, by simp⟩ (by kernel_rfl) (fun w v h => .inl h) (fun w => rfl)
            case o9 =>
              exact GdOp.left rfl ⟨_, _, rfl, rfl, by simp⟩ (by kernel_rfl) (fun w v h => .inl h) (fun w => rfl)
            case o10 =>
              exact GdOp.left rfl ⟨_, _, rfl, rfl, by simp⟩ (by kernel_rfl) (fun w v h => .inl h) (fun w => rfl)
            case o11 =>
              exact GdOp.left rfl ⟨_, _, rfl, rfl, by simp⟩ (by kernel_rfl) (fun w v h => .inl h) (fun w => rfl)
            case o12 =>
              exact GdOp.left rfl ⟨_, _, rfl, rfl, by simp⟩ (by kernel_rfl) (fun w v h => .inl h) (fun w => rfl)
            case o13 =>
              exact GdOp.left rfl ⟨_, _, rfl, rfl, by simp⟩ (by kernel_rfl) (fun w v h => .inl h) (fun w => rfl)
            case o14 =>
              exact GdOp.left rfl ⟨_, _, rfl, rfl, by simp⟩ (by kernel_rfl) (fun w v h => .inl h) (fun w => rfl)
            case o15 =>
              exact GdOp.left rfl ⟨_, _, rfl, rfl, by simp⟩ (by kernel_rfl) (fun w v h => .inl h) (fun w => rfl)
            case o16 =>
              exact GdOp.left rfl ⟨_, _, rfl, rfl, by simp⟩ (by kernel_rfl) (fun w v h => .inl h) (fun w => rfl)
            case o17 =>
              refine GdOp.plain rfl (fun A vs w' hF hT hb hd => ?_)
              have e1 : A.eval (.tmp 96) = .bool false := (hT 96 2 (by simp) rfl).trans (hd ⟨2, .data⟩ (by simp) rfl)
              have e2 : A.eval (.tmp 110) = undef := (hT 110 16 (by simp) rfl).trans (hd ⟨16, .data⟩ (by simp) rfl)
              exact wp_pk rfl e1 (by simp) (fun _ => rfl) ⟨_, rfl, rfl, Below.refl _ _⟩
            case fin =>
            intro vs9 W9 hb9 hG9
            have e0 : vs9 0 = .int .i64 (i : Int) := hG9 0 (by decide)
            have e1 : vs9 1 = .bool false := hG9 1 (by decide)
            have e2 : vs9 2 = .bool false := hG9 2 (by decide)
            have e3 : vs9 3 = undef := hG9 3 (by decide)
            have e4 : vs9 4 = undef := hG9 4 (by decide)
            have e5 : vs9 5 = undef := hG9 5 (by decide)
            have e6 : vs9 6 = undef := hG9 6 (by decide)
            have e7 : vs9 7 = undef := hG9 7 (by decide)
            have e8 : vs9 8 = undef := hG9 8 (by decide)
            have e9 : vs9 9 = undef := hG9 9 (by decide)
            have e10 : vs9 10 = undef := hG9 10 (by decide)
            have e11 : vs9 11 = undef := hG9 11 (by decide)
            have e12 : vs9 12 = undef := hG9 12 (by decide)
            have e13 : vs9 13 = undef := hG9 13 (by decide)
            have e14 : vs9 14 = undef := hG9 14 (by decide)
            have e15 : vs9 15 = undef := hG9 15 (by decide)
            have e16 : vs9 16 = undef := hG9 16 (by decide)
            have e17 : vs9 17 = .bool false := hG9 17 (by decide)
            simp only [putAll, e0, e1, e2, e3, e4, e5, e6, e7, e8, e9, e10, e11, e12, e13, e14, e15, e16, e17]
            clear hG9 e0 e1 e2 e3 e4 e5 e6 e7 e8 e9 e10 e11 e12 e13 e14 e15 e16 e17
            replace xD := xD.below hb9 xD.lt
            replace xX := xX.below hb9 xX.lt
            replace rO := rO.below hb9
            replace r1 := r1.below hb9
            replace c1 := (hb9.cell (p := ⟨_, _, none⟩) (cell_lt c1)).trans c1
            replace q := q.trans (hb9.mono q.size)
            clear hb9
            go_simp
            clear hz
            go_upto_region 19 with (fail)
            by_cases hk : (overD d x l)[i].key = key
            · refine wp_region_gsg (by kernel_rfl) (by kernel_rfl) [sgEq (.slice (some ⟨bl, ol, none⟩) (overD d x l).length cO), sgEq (.int .i64 (i : Int)), sgEq (.pointer (some ⟨bl, ol + i * 2, none⟩)), sgEq (.pointer (some ⟨bl, ol + i * 2, none⟩)), sgEq (.slice A1 (overD d x l)[i].key.length C1), sgEq (.string (strOf (overD d x l)[i].key)), sgEq (.slice a3 key.length c3), sgEq (.string (strOf key)), sgEq (.bool true)]
                ⟨?o0, ?o1, ?o2, ?o3, ?o4, ?o5, ?o6, ?o7, ?o8, trivial⟩ ?fin
              case o0 =>
                refine GdOp.plain rfl (fun A vs w' hF hT hb hd => ?_)
                have e1 : A.eval (.tmp 12) = .slice (some ⟨bl, ol, none⟩) (overD d x l).length cO := hF 12 rfl
                exact BigFrame.wp_move _ rfl ⟨_, rfl, e1, Below.refl _ _⟩
              case o1 =>
                refine GdOp.plain rfl (fun A vs w' hF hT hb hd => ?_)
                have e1 : A.eval (.tmp 14) = .int .i64 (i : Int) := hF 14 rfl
                exact BigFrame.wp_move _ rfl ⟨_, rfl, e1, Below.refl _ _⟩
              case o2 =>
                refine GdOp.plain rfl (fun A vs w' hF hT hb hd => ?_)
                have e1 : A.eval (.tmp 112) = .slice (some ⟨bl, ol, none⟩) (overD d x l).length cO := (hT 112 0 (by simp) rfl).trans (hd ⟨0, .data⟩ (by simp) rfl)
                have e2 : A.eval (.tmp 113) = .int .i64 (i : Int) := (hT 113 1 (by simp) rfl).trans (hd ⟨1, .data⟩ (by simp) rfl)
                exact wp_ixN (e := 53) rfl (by kernel_rfl) (by kernel_rfl) (e1) (e2) rfl (by omega) ⟨_, rfl, rfl, Below.refl _ _⟩
              case o3 =>
                refine GdOp.plain rfl (fun A vs w' hF hT hb hd => ?_)
                have e1 : A.eval (.tmp 114) = .pointer (some ⟨bl, ol + i * 2, none⟩) := (hT 114 2 (by simp) rfl).trans (hd ⟨2, .data⟩ (by simp) rfl)
                exact wp_fieldN pqS rfl (e1) (by omega) ⟨_, rfl, rfl, Below.refl _ _⟩
              case o4 =>
                refine GdOp.plain rfl (fun A vs w' hF hT hb hd => ?_)
                have e1 : A.eval (.tmp 115) = .pointer (some ⟨bl, ol + i * 2, none⟩) := (hT 115 3 (by simp) rfl).trans (hd ⟨3, .data⟩ (by simp) rfl)
                exact wp_ld_slice (e := 5) rfl e1 (by kernel_rfl) (((hb.cell (p := ⟨_, _, none⟩) (cell_lt c1)).trans c1)) ⟨_, rfl, rfl, Below.refl _ _⟩
              case o5 =>
                refine GdOp.plain rfl (fun A vs w' hF hT hb hd => ?_)
                have e1 : A.eval (.tmp 116) = .slice A1 (overD d x l)[i].key.length C1 := (hT 116 4 (by simp) rfl).trans (hd ⟨4, .data⟩ (by simp) rfl)
                exact wp_conv byP rfl e1 (r1.below hb).rd ⟨_, rfl, rfl, Below.refl _ _⟩
              case o6 =>
                refine GdOp.plain rfl (fun A vs w' hF hT hb hd => ?_)
                have e1 : A.eval (.tmp 3) = .slice a3 key.length c3 := hF 3 rfl
                exact BigFrame.wp_move _ rfl ⟨_, rfl, e1, Below.refl _ _⟩
              case o7 =>
                refine GdOp.plain rfl (fun A vs w' hF hT hb hd => ?_)
                have e1 : A.eval (.tmp 118) = .slice a3 key.length c3 := (hT 118 6 (by simp) rfl).trans (hd ⟨6, .data⟩ (by simp) rfl)
                exact wp_conv byP rfl e1 ((hK.below q).below hb).rd ⟨_, rfl, rfl, Below.refl _ _⟩
              case o8 =>
                refine GdOp.plain rfl (fun A vs w' hF hT hb hd => ?_)
                have e1 : A.eval (.tmp 117) = .string (strOf (overD d x l)[i].key) := (hT 117 5 (by simp) rfl).trans (hd ⟨5, .data⟩ (by simp) rfl)
                have e2 : A.eval (.tmp 119) = .string (strOf key) := (hT 119 7 (by simp) rfl).trans (hd ⟨7, .data⟩ (by simp) rfl)
                exact wp_eqlS rfl e1 e2 ⟨_, rfl, (congrArg Value.bool (decide_eq_true hk)), Below.refl _ _⟩
              case fin =>
              intro vs9 W9 hb9 hG9
              have e0 : vs9 0 = .slice (some ⟨bl, ol, none⟩) (overD d x l).length cO := hG9 0 (by decide)
              have e1 : vs9 1 = .int .i64 (i : Int) := hG9 1 (by decide)
              have e2 : vs9 2 = .pointer (some ⟨bl, ol + i * 2, none⟩) := hG9 2 (by decide)
              have e3 : vs9 3 = .pointer (some ⟨bl, ol + i * 2, none⟩) := hG9 3 (by decide)
              have e4 : vs9 4 = .slice A1 (overD d x l)[i].key.length C1 := hG9 4 (by decide)
              have e5 : vs9 5 = .string (strOf (overD d x l)[i].key) := hG9 5 (by decide)
              have e6 : vs9 6 = .slice a3 key.length c3 := hG9 6 (by decide)
              have e7 : vs9 7 = .string (strOf key) := hG9 7 (by decide)
              have e8 : vs9 8 = .bool true := hG9 8 (by decide)
              simp only [putAll, e0, e1, e2, e3, e4, e5, e6, e7, e8]
              clear hG9 e0 e1 e2 e3 e4 e5 e6 e7 e8
              replace xD := xD.below hb9 xD.lt
              replace xX := xX.below hb9 xX.lt
              replace rO := rO.below hb9
              replace r1 := r1.below hb9
              replace c1 := (hb9.cell (p := ⟨_, _, none⟩) (cell_lt c1)).trans c1
              replace q := q.trans (hb9.mono q.size)
              clear hb9
              go_simp
              clear c1 r1 d0
              go_wp2_with fail
              go_roundw
              case rel => exact ⟨i + 1, (i : Int), by go_num, rfl, by omega, FndI.yes hlt hk, xD, xX, rO, q⟩
              case measure => simp [intOf]; omega
            · refine wp_region_gsg (by kernel_rfl) (by kernel_rfl) [sgEq (.slice (some ⟨bl, ol, none⟩) (overD d x l).length cO), sgEq (.int .i64 (i : Int)), sgEq (.pointer (some ⟨bl, ol + i * 2, none⟩)), sgEq (.pointer (some ⟨bl, ol + i * 2, none⟩)), sgEq (.slice A1 (overD d x l)[i].key.length C1), sgEq (.string (strOf (overD d x l)[i].key)), sgEq (.slice a3 key.length c3), sgEq (.string (strOf key)), sgEq (.bool false)]
                ⟨?o0, ?o1, ?o2, ?o3, ?o4, ?o5, ?o6, ?o7, ?o8, trivial⟩ ?fin
              case o0 =>
                refine GdOp.plain rfl (fun A vs w' hF hT hb hd => ?_)
                have e1 : A.eval (.tmp 12) = .slice (some ⟨bl, ol, none⟩) (overD d x l).length cO := hF 12 rfl
                exact BigFrame.wp_move _ rfl ⟨_, rfl, e1, Below.refl _ _⟩
              case o1 =>
                refine GdOp.plain rfl (fun A vs w' hF hT hb hd => ?_)
                have e1 : A.eval (.tmp 14) = .int .i64 (i : Int) := hF 14 rfl
                exact BigFrame.wp_move _ rfl ⟨_, rfl, e1, Below.refl _ _⟩
              case o2 =>
                refine GdOp.plain rfl (fun A vs w' hF hT hb hd => ?_)
                have e1 : A.eval (.tmp 112) = .slice (some ⟨bl, ol, none⟩) (overD d x l).length cO := (hT 112 0 (by simp) rfl).trans (hd ⟨0, .data⟩ (by simp) rfl)
                have e2 : A.eval (.tmp 113) = .int .i64 (i : Int) := (hT 113 1 (by simp) rfl).trans (hd ⟨1, .data⟩ (by simp) rfl)
                exact wp_ixN (e := 53) rfl (by kernel_rfl) (by kernel_rfl) (e1) (e2) rfl (by omega) ⟨_, rfl, rfl, Below.refl _ _⟩
              case o3 =>
                refine GdOp.plain rfl (fun A vs w' hF hT hb hd => ?_)
                have e1 : A.eval (.tmp 114) = .pointer (some ⟨bl, ol + i * 2, none⟩) := (hT 114 2 (by simp) rfl).trans (hd ⟨2, .data⟩ (by simp) rfl)
                exact wp_fieldN pqS rfl (e1) (by omega) ⟨_, rfl, rfl, Below.refl _ _⟩
              case o4 =>
                refine GdOp.plain rfl (fun A vs w' hF hT hb hd => ?_)
                have e1 : A.eval (.tmp 115) = .pointer (some ⟨bl, ol + i * 2, none⟩) := (hT 115 3 (by simp) rfl).trans (hd ⟨3, .data⟩ (by simp) rfl)
                exact wp_ld_slice (e := 5) rfl e1 (by kernel_rfl) (((hb.cell (p := ⟨_, _, none⟩) (cell_lt c1)).trans c1)) ⟨_, rfl, rfl, Below.refl _ _⟩
              case o5 =>
                refine GdOp.plain rfl (fun A vs w' hF hT hb hd => ?_)
                have e1 : A.eval (.tmp 116) = .slice A1 (overD d x l)[i].key.length C1 := (hT 116 4 (by simp) rfl).trans (hd ⟨4, .data⟩ (by simp) rfl)
                exact wp_conv byP rfl e1 (r1.below hb).rd ⟨_, rfl, rfl, Below.refl _ _⟩
              case o6 =>
                refine GdOp.plain rfl (fun A vs w' hF hT hb hd => ?_)
                have e1 : A.eval (.tmp 3) = .slice a3 key.length c3 := hF 3 rfl
                exact BigFrame.wp_move _ rfl ⟨_, rfl, e1, Below.refl _ _⟩
              case o7 =>
                refine GdOp.plain rfl (fun A vs w' hF hT hb hd => ?_)
                have e1 : A.eval (.tmp 118) = .slice a3 key.length c3 := (hT 118 6 (by simp) rfl).trans (hd ⟨6, .data⟩ (by simp) rfl)
                exact wp_conv byP rfl e1 ((hK.below q).below hb).rd ⟨_, rfl, rfl, Below.refl _ _⟩
              case o8 =>
                refine GdOp.plain rfl (fun A vs w' hF hT hb hd => ?_)
                have e1 : A.eval (.tmp 117) = .string (strOf (overD d x l)[i].key) := (hT 117 5 (by simp) rfl).trans (hd ⟨5, .data⟩ (by simp) rfl)
                have e2 : A.eval (.tmp 119) = .string (strOf key) := (hT 119 7 (by simp) rfl).trans (hd ⟨7, .data⟩ (by simp) rfl)
                exact wp_eqlS rfl e1 e2 ⟨_, rfl, (congrArg Value.bool (decide_eq_false hk)), Below.refl _ _⟩
              case fin =>
              intro vs9 W9 hb9 hG9
              have e0 : vs9 0 = .slice (some ⟨bl, ol, none⟩) (overD d x l).length cO := hG9 0 (by decide)
              have e1 : vs9 1 = .int .i64 (i : Int) := hG9 1 (by decide)
              have e2 : vs9 2 = .pointer (some ⟨bl, ol + i * 2, none⟩) := hG9 2 (by decide)
              have e3 : vs9 3 = .pointer (some ⟨bl, ol + i * 2, none⟩) := hG9 3 (by decide)
              have e4 : vs9 4 = .slice A1 (overD d x l)[i].key.length C1 := hG9 4 (by decide)
              have e5 : vs9 5 = .string (strOf (overD d x l)[i].key) := hG9 5 (by decide)
              have e6 : vs9 6 = .slice a3 key.length c3 := hG9 6 (by decide)
              have e7 : vs9 7 = .string (strOf key) := hG9 7 (by decide)
              have e8 : vs9 8 = .bool false := hG9 8 (by decide)
              simp only [putAll, e0, e1, e2, e3, e4, e5, e6, e7, e8]
              clear hG9 e0 e1 e2 e3 e4 e5 e6 e7 e8
              replace xD := xD.below hb9 xD.lt
              replace xX := xX.below hb9 xX.lt
              replace rO := rO.below hb9
              replace r1 := r1.below hb9
              replace c1 := (hb9.cell (p := ⟨_, _, none⟩) (cell_lt c1)).trans c1
              replace q := q.trans (hb9.mono q.size)
              clear hb9
              go_simp
              clear c1 r1 d0
              go_wp2_with fail
              go_roundw
              case rel => exact ⟨i + 1, was, by go_num, rfl, by omega, hfi.no hlt hk, xD, xX, rO, q⟩
              case measure => simp [intOf]; omega
          · obtain ⟨_, _, A0, C0, _, _, eL, _, c0, _, r0, _⟩ := rO.pq (i - 1) (by omega)
            injection eL with eL
            injection eL with eb eo _
            subst eb eo
            have hlt2 : ltB ((overD d x l)[i - 1]'(by omega)).key (overD d x l)[i].key = true := srtE_get hso.out (by omega) hlt
            have hge : Value.bool (!ltB ((overD d x l)[i - 1]'(by omega)).key (overD d x l)[i].key) = .bool false := by rw [hlt2]; rfl
            go_upto_region 17 with (fail)
            refine wp_region_gsg (by kernel_rfl) (by kernel_rfl) [sgEq (.int .i64 (i : Int)), sgEq (.bool true), sgEq (.bool true), sgEq (.slice (some ⟨bl, ol, none⟩) (overD d x l).length cO), sgEq (.int .i64 (i : Int)), sgEq (.int .i64 ((i : Int) - 1)), sgEq (.pointer (some ⟨bl, ol + (i - 1) * 2, none⟩)), sgEq (.pointer (some ⟨bl, ol + (i - 1) * 2, none⟩)), sgEq (.slice A0 (overD d x l)[i - 1].key.length C0), sgEq (.string (strOf (overD d x l)[i - 1].key)), sgEq (.slice (some ⟨bl, ol, none⟩) (overD d x l).length cO), sgEq (.int .i64 (i : Int)), sgEq (.pointer (some ⟨bl, ol + i * 2, none⟩)), sgEq (.pointer (some ⟨bl, ol + i * 2, none⟩)), sgEq (.slice A1 (overD d x l)[i].key.length C1), sgEq (.string (strOf (overD d x l)[i].key)), sgEq (.bool false), sgEq (.bool false)]
              ⟨?o0, ?o1, ?o2, ?o3, ?o4, ?o5, ?o6, ?o7, ?o8, ?o9, ?o10, ?o11, ?o12, ?o13, ?o14, ?o15, ?o16, ?o17, trivial⟩ ?fin
            case o0 =>
              refine GdOp.plain rfl (fun A vs w' hF hT hb hd => ?_)
              have e1 : A.eval (.tmp 14) = .int .i64 (i : Int) := hF 14 rfl
              exact BigFrame.wp_move _ rfl ⟨_, rfl, e1, Below.refl _ _⟩
            case o1 =>
              refine GdOp.plain rfl (fun A vs w' hF hT hb hd => ?_)
              have e1 : A.eval (.tmp 94) = .int .i64 (i : Int) := (hT 94 0 (by simp) rfl).trans (hd ⟨0, .data⟩ (by simp) rfl)
              exact wp_gtrI rfl e1 rfl ⟨_, rfl, (congrArg Value.bool (decide_eq_true (by omega))), Below.refl _ _⟩
            case o2 =>
              refine GdOp.plain rfl (fun A vs w' hF hT hb hd => ?_)
              have e1 : A.eval (.tmp 95) = .bool true := (hT 95 1 (by simp) rfl).trans (hd ⟨1, .data⟩ (by simp) rfl)
              exact BigFrame.wp_move _ rfl ⟨_, rfl, e1, Below.refl _ _⟩
            case o3 =>
              refine GdOp.taken rfl ⟨_, _, rfl, rfl, by simp⟩ (by kernel_rfl) (fun w v h => h) (fun A vs w' hF hT hb hd => ?_)
              have e1 : A.eval (.tmp 12) = .slice (some ⟨bl, ol, none⟩) (overD d x l).length cO := hF 12 rfl
              exact BigFrame.wp_move _ rfl ⟨_, rfl, e1, Below.refl _ _⟩
            case o4 =>
              refine GdOp.taken rfl ⟨_, _, rfl, rfl, by simp⟩ (by kernel_rfl) (fun w v h => h) (fun A vs w' hF hT hb hd => ?_)
              have e1 : A.eval (.tmp 14) = .int .i64 (i : Int) := hF 14 rfl
              exact BigFrame.wp_move _ rfl ⟨_, rfl, e1, Below.refl _ _⟩
            case o5 =>
              refine GdOp.taken rfl ⟨_, _, rfl, rfl, by simp⟩ (by kernel_rfl) (fun w v h => h) (fun A vs w' hF hT hb hd => ?_)
              have e1 : A.eval (.tmp 98) = .int .i64 (i : Int) := (hT 98 4 (by simp) rfl).trans (hd ⟨4, .data⟩ (by simp) rfl)
              exact wp_subI rfl e1 rfl (by omega) (by omega) ⟨_, rfl, rfl, Below.refl _ _⟩
            case o6 =>
              refine GdOp.taken rfl ⟨_, _, rfl, rfl, by simp⟩ (by kernel_rfl) (fun w v h => h) (fun A vs w' hF hT hb hd => ?_)
              have e1 : A.eval (.tmp 97) = .slice (some ⟨bl, ol, none⟩) (overD d x l).length cO := (hT 97 3 (by simp) rfl).trans (hd ⟨3, .data⟩ (by simp) rfl)
              have e2 : A.eval (.tmp 99) = .int .i64 ((i : Int) - 1) := (hT 99 5 (by simp) rfl).trans (hd ⟨5, .data⟩ (by simp) rfl)
              exact wp_ixN (e := 53) rfl (by kernel_rfl) (by kernel_rfl) (e1) (e2) (by omega) (by omega) ⟨_, rfl, rfl, Below.refl _ _⟩
            case o7 =>
              refine GdOp.taken rfl ⟨_, _, rfl, rfl, by simp⟩ (by kernel_rfl) (fun w v h => h) (fun A vs w' hF hT hb hd => ?_)
              have e1 : A.eval (.tmp 100) = .pointer (some ⟨bl, ol + (i - 1) * 2, none⟩) := (hT 100 6 (by simp) rfl).trans (hd ⟨6, .data⟩ (by simp) rfl)
              exact wp_fieldN pqS rfl (e1) (by omega) ⟨_, rfl, rfl, Below.refl _ _⟩
            case o8 =>
              refine GdOp.taken rfl ⟨_, _, rfl, rfl, by simp⟩ (by kernel_rfl) (fun w v h => h) (fun A vs w' hF hT hb hd => ?_)
              have e1 : A.eval (.tmp 101) = .pointer (some ⟨bl, ol + (i - 1) * 2, none⟩) := (hT 101 7 (by simp) rfl).trans (hd ⟨7, .data⟩ (by simp) rfl)
              exact wp_ld_slice (e := 5) rfl e1 (by kernel_rfl) (((hb.cell (p := ⟨_, _, none⟩) (cell_lt c0)).trans c0)) ⟨_, rfl, rfl, Below.refl _ _⟩
            case o9 =>
              refine GdOp.taken rfl ⟨_, _, rfl, rfl, by simp⟩ (by kernel_rfl) (fun w v h => h) (fun A vs w' hF hT hb hd => ?_)
              have e1 : A.eval (.tmp 102) = .slice A0 (overD d x l)[i - 1].key.length C0 := (hT 102 8 (by simp) rfl).trans (hd ⟨8, .data⟩ (by simp) rfl)
              exact wp_conv byP rfl e1 (r0.below hb).rd ⟨_, rfl, rfl, Below.refl _ _⟩
            case o10 =>
              refine GdOp.taken rfl ⟨_, _, rfl, rfl, by simp⟩ (by kernel_rfl) (fun w v h => h) (fun A vs w' hF hT hb hd => ?_)
              have e1 : A.eval (.tmp 12) = .slice (some ⟨bl, ol, none⟩) (overD d x l).length cO := hF 12 rfl
              exact BigFrame.wp_move _ rfl ⟨_, rfl, e1, Below.refl _ _⟩
            case o11 =>
              refine GdOp.taken rfl ⟨_, _, rfl, rfl, by simp⟩ (by kernel_rfl) (fun w v h => h) (fun A vs w' hF hT hb hd => ?_)
              have e1 : A.eval (.tmp 14) = .int .i64 (i : Int) := hF 14 rfl
              exact BigFrame.wp_move _ rfl ⟨_, rfl, e1, Below.refl _ _⟩
            case o12 =>
              refine GdOp.taken rfl ⟨_, _, rfl, rfl, by simp⟩ (by kernel_rfl) (fun w v h => h) (fun A vs w' hF hT hb hd => ?_)
              have e1 : A.eval (.tmp 104) = .slice (some ⟨bl, ol, none⟩) (overD d x l).length cO := (hT 104 10 (by simp) rfl).trans (hd ⟨10, .data⟩ (by simp) rfl)
              have e2 : A.eval (.tmp 105) = .int .i64 (i : Int) := (hT 105 11 (by simp) rfl).trans (hd ⟨11, .data⟩ (by simp) rfl)
              exact wp_ixN (e := 53) rfl (by kernel_rfl) (by kernel_rfl) (e1) (e2) rfl (by omega) ⟨_, rfl, rfl, Below.refl _ _⟩
            case o13 =>
              refine GdOp.taken rfl ⟨_, _, rfl, rfl, by simp⟩ (by kernel_rfl) (fun w v h => h) (fun A vs w' hF hT hb hd => ?_)
              have e1 : A.eval (.tmp 106) = .pointer (some ⟨bl, ol + i * 2, none⟩) := (hT 106 12 (by simp) rfl).trans (hd ⟨12, .data⟩ (by simp) rfl)
              exact wp_fieldN pqS rfl (e1) (by omega) ⟨_, rfl, rfl, Below.refl _ _⟩
            case o14 =>
              refine GdOp.taken rfl ⟨_, _, rfl, rfl, by simp⟩ (by kernel_rfl) (fun w v h => h) (fun A vs w' hF hT hb hd => ?_)
              have e1 : A.eval (.tmp 107) = .pointer (some ⟨bl, ol + i * 2, none⟩) := (hT 107 13 (by simp) rfl).trans (hd ⟨13, .data⟩ (by simp) rfl)
              exact wp_ld_slice (e := 5) rfl e1 (by kernel_rfl) (((hb.cell (p := ⟨_, _, none⟩) (cell_lt c1)).trans c1)) ⟨_, rfl, rfl, Below.refl _ _⟩
            case o15 =>
              refine GdOp.taken rfl ⟨_, _, rfl, rfl, by simp⟩ (by kernel_rfl) (fun w v h => h) (fun A vs w' hF hT hb hd => ?_)
              have e1 : A.eval (.tmp 108) = .slice A1 (overD d x l)[i].key.length C1 := (hT 108 14 (by simp) rfl).trans (hd ⟨14, .data⟩ (by simp) rfl)
              exact wp_conv byP rfl e1 (r1.below hb).rd ⟨_, rfl, rfl, Below.refl _ _⟩
            case o16 =>
              refine GdOp.taken rfl ⟨_, _, rfl, rfl, by simp⟩ (by kernel_rfl) (fun w v h => h) (fun A vs w' hF hT hb hd => ?_)
              have e1 : A.eval (.tmp 103) = .string (strOf (overD d x l)[i - 1].key) := (hT 103 9 (by simp) rfl).trans (hd ⟨9, .data⟩ (by simp) rfl)
              have e2 : A.eval (.tmp 109) = .string (strOf (overD d x l)[i].key) := (hT 109 15 (by simp) rfl).trans (hd ⟨15, .data⟩ (by simp) rfl)
              exact wp_geqS rfl e1 e2 ⟨_, rfl, hge, Below.refl _ _⟩
            case o17 =>
              refine GdOp.plain rfl (fun A vs w' hF hT hb hd => ?_)
              have e1 : A.eval (.tmp 96) = .bool true := (hT 96 2 (by simp) rfl).trans (hd ⟨2, .data⟩ (by simp) rfl)
              have e2 : A.eval (.tmp 110) = .bool false := (hT 110 16 (by simp) rfl).trans (hd ⟨16, .data⟩ (by simp) rfl)
              exact wp_pk rfl e1 (fun _ => e2) (by simp) ⟨_, rfl, rfl, Below.refl _ _⟩
            case fin =>
            intro vs9 W9 hb9 hG9
            have e0 : vs9 0 = .int .i64 (i : Int) := hG9 0 (by decide)
            have e1 : vs9 1 = .bool true := hG9 1 (by decide)
            have e2 : vs9 2 = .bool true := hG9 2 (by decide)
            have e3 : vs9 3 = .slice (some ⟨bl, ol, none⟩) (overD d x l).length cO := hG9 3 (by decide)
            have e4 : vs9 4 = .int .i64 (i : Int) := hG9 4 (by decide)
            have e5 : vs9 5 = .int .i64 ((i : Int) - 1) := hG9 5 (by decide)
            have e6 : vs9 6 = .pointer (some ⟨bl, ol + (i - 1) * 2, none⟩) := hG9 6 (by decide)
            have e7 : vs9 7 = .pointer (some ⟨bl, ol + (i - 1) * 2, none⟩) := hG9 7 (by decide)
            have e8 : vs9 8 = .slice A0 (overD d x l)[i - 1].key.length C0 := hG9 8 (by decide)
            have e9 : vs9 9 = .string (strOf (overD d x l)[i - 1].key) := hG9 9 (by decide)
            have e10 : vs9 10 = .slice (some ⟨bl, ol, none⟩) (overD d x l).length cO := hG9 10 (by decide)
            have e11 : vs9 11 = .int .i64 (i : Int) := hG9 11 (by decide)
            have e12 : vs9 12 = .pointer (some ⟨bl, ol + i * 2, none⟩) := hG9 12 (by decide)
            have e13 : vs9 13 = .pointer (some ⟨bl, ol + i * 2, none⟩) := hG9 13 (by decide)
            have e14 : vs9 14 = .slice A1 (overD d x l)[i].key.length C1 := hG9 14 (by decide)
            have e15 : vs9 15 = .string (strOf (overD d x l)[i].key) := hG9 15 (by decide)
            have e16 : vs9 16 = .bool false := hG9 16 (by decide)
            have e17 : vs9 17 = .bool false := hG9 17 (by decide)
            simp only [putAll, e0, e1, e2, e3, e4, e5, e6, e7, e8, e9, e10, e11, e12, e13, e14, e15, e16, e17]
            clear hG9 e0 e1 e2 e3 e4 e5 e6 e7 e8 e9 e10 e11 e12 e13 e14 e15 e16 e17
            replace xD := xD.below hb9 xD.lt
            replace xX := xX.below hb9 xX.lt
            replace rO := rO.below hb9
            replace r1 := r1.below hb9
            replace c1 := (hb9.cell (p := ⟨_, _, none⟩) (cell_lt c1)).trans c1
            replace r0 := r0.below hb9
            replace c0 := (hb9.cell (p := ⟨_, _, none⟩) (cell_lt c0)).trans c0
            replace q := q.trans (hb9.mono q.size)
            clear hb9
            go_simp
            clear c0 r0
            go_upto_region 19 with (fail)
            by_cases hk : (overD d x l)[i].key = key
            · refine wp_region_gsg (by kernel_rfl) (by kernel_rfl) [sgEq (.slice (some ⟨bl, ol, none⟩) (overD d x l).length cO), sgEq (.int .i64 (i : Int)), sgEq (.pointer (some ⟨bl, ol + i * 2, none⟩)), sgEq (.pointer (some ⟨bl, ol + i * 2, none⟩)), sgEq (.slice A1 (overD d x l)[i].key.length C1), sgEq (.string (strOf (overD d x l)[i].key)), sgEq (.slice a3 key.length c3), sgEq (.string (strOf key)), sgEq (.bool true)]
                ⟨?o0, ?o1, ?o2, ?o3, ?o4, ?o5, ?o6, ?o7, ?o8, trivial⟩ ?fin
              case o0 =>
                refine GdOp.plain rfl (fun A vs w' hF hT hb hd => ?_)
                have e1 : A.eval (.tmp 12) = .slice (some ⟨bl, ol, none⟩) (overD d x l).length cO := hF 12 rfl
                exact BigFrame.wp_move _ rfl ⟨_, rfl, e1, Below.refl _ _⟩
              case o1 =>
                refine GdOp.plain rfl (fun A vs w' hF hT hb hd => ?_)
                have e1 : A.eval (.tmp 14) = .int .i64 (i : Int) := hF 14 rfl
                exact BigFrame.wp_move _ rfl ⟨_, rfl, e1, Below.refl _ _⟩
              case o2 =>
                refine GdOp.plain rfl (fun A vs w' hF hT hb hd => ?_)
                have e1 : A.eval (.tmp 112) = .slice (some ⟨bl, ol, none⟩) (overD d x l).length cO := (hT 112 0 (by simp) rfl).trans (hd ⟨0, .data⟩ (by simp) rfl)
                have e2 : A.eval (.tmp 113) = .int .i64 (i : Int) := (hT 113 1 (by simp) rfl).trans (hd ⟨1, .data⟩ (by simp) rfl)
                exact wp_ixN (e := 53) rfl (by kernel_rfl) (by kernel_rfl) (e1) (e2) rfl (by omega) ⟨_, rfl, rfl, Below.refl _ _⟩
              case o3 =>
                refine GdOp.plain rfl (fun A vs w' hF hT hb hd => ?_)
                have e1 : A.eval (.tmp 114) = .pointer (some ⟨bl, ol + i * 2, none⟩) := (hT 114 2 (by simp) rfl).trans (hd ⟨2, .data⟩ (by simp) rfl)
                exact wp_fieldN pqS rfl (e1) (by omega) ⟨_, rfl, rfl, Below.refl _ _⟩
              case o4 =>
                refine GdOp.plain rfl (fun A vs w' hF hT hb hd => ?_)
                have e1 : A.eval (.tmp 115) = .pointer (some ⟨bl, ol + i * 2, none⟩) := (hT 115 3 (by simp) rfl).trans (hd ⟨3, .data⟩ (by simp) rfl)
                exact wp_ld_slice (e := 5) rfl e1 (by kernel_rfl) (((hb.cell (p := ⟨_, _, none⟩) (cell_lt c1)).trans c1)) ⟨_, rfl, rfl, Below.refl _ _⟩
              case o5 =>
                refine GdOp.plain rfl (fun A vs w' hF hT hb hd => ?_)
                have e1 : A.eval (.tmp 116) = .slice A1 (overD d x l)[i].key.length C1 := (hT 116 4 (by simp) rfl).trans (hd ⟨4, .data⟩ (by simp) rfl)
                exact wp_conv byP rfl e1 (r1.below hb).rd ⟨_, rfl, rfl, Below.refl _ _⟩
              case o6 =>
                refine GdOp.plain rfl (fun A vs w' hF hT hb hd => ?_)
                have e1 : A.eval (.tmp 3) = .slice a3 key.length c3 := hF 3 rfl
                exact BigFrame.wp_move _ rfl ⟨_, rfl, e1, Below.refl _ _⟩
              case o7 =>
                refine GdOp.plain rfl (fun A vs w' hF hT hb hd => ?_)
                have e1 : A.eval (.tmp 118) = .slice a3 key.length c3 := (hT 118 6 (by simp) rfl).trans (hd ⟨6, .data⟩ (by simp) rfl)
                exact wp_conv byP rfl e1 ((hK.below q).below hb).rd ⟨_, rfl, rfl, Below.refl _ _⟩
              case o8 =>
                refine GdOp.plain rfl (fun A vs w' hF hT hb hd => ?_)
                have e1 : A.eval (.tmp 117) = .string (strOf (overD d x l)[i].key) := (hT 117 5 (by simp) rfl).trans (hd ⟨5, .data⟩ (by simp) rfl)
                have e2 : A.eval (.tmp 119) = .string (strOf key) := (hT 119 7 (by simp) rfl).trans (hd ⟨7, .data⟩ (by simp) rfl)
                exact wp_eqlS rfl e1 e2 ⟨_, rfl, (congrArg Value.bool (decide_eq_true hk)), Below.refl _ _⟩
              case fin =>
              intro vs9 W9 hb9 hG9
              have e0 : vs9 0 = .slice (some ⟨bl, ol, none⟩) (overD d x l).length cO := hG9 0 (by decide)
              have e1 : vs9 1 = .int .i64 (i : Int) := hG9 1 (by decide)
              have e2 : vs9 2 = .pointer (some ⟨bl, ol + i * 2, none⟩) := hG9 2 (by decide)
              have e3 : vs9 3 = .pointer (some ⟨bl, ol + i * 2, none⟩) := hG9 3 (by decide)
              have e4 : vs9 4 = .slice A1 (overD d x l)[i].key.length C1 := hG9 4 (by decide)
              have e5 : vs9 5 = .string (strOf (overD d x l)[i].key) := hG9 5 (by decide)
              have e6 : vs9 6 = .slice a3 key.length c3 := hG9 6 (by decide)
              have e7 : vs9 7 = .string (strOf key) := hG9 7 (by decide)
              have e8 : vs9 8 = .bool true := hG9 8 (by decide)
              simp only [putAll, e0, e1, e2, e3, e4, e5, e6, e7, e8]
              clear hG9 e0 e1 e2 e3 e4 e5 e6 e7 e8
              replace xD := xD.below hb9 xD.lt
              replace xX := xX.below hb9 xX.lt
              replace rO := rO.below hb9
              replace r1 := r1.below hb9
              replace c1 := (hb9.cell (p := ⟨_, _, none⟩) (cell_lt c1)).trans c1
              replace q := q.trans (hb9.mono q.size)
              clear hb9
              go_simp
              clear c1 r1 d0
              go_wp2_with fail
              go_roundw
              case rel => exact ⟨i + 1, (i : Int), by go_num, rfl, by omega, FndI.yes hlt hk, xD, xX, rO, q⟩
              case measure => simp [intOf]; omega
            · refine wp_region_gsg (by kernel_rfl) (by kernel_rfl) [sgEq (.slice (some ⟨bl, ol, none⟩) (overD d x l).length cO), sgEq (.int .i64 (i : Int)), sgEq (.pointer (some ⟨bl, ol + i * 2, none⟩)), sgEq (.pointer (some ⟨bl, ol + i * 2, none⟩)), sgEq (.slice A1 (overD d x l)[i].key.length C1), sgEq (.string (strOf (overD d x l)[i].key)), sgEq (.slice a3 key.length c3), sgEq (.string (strOf key)), sgEq (.bool false)]
                ⟨?o0, ?o1, ?o2, ?o3, ?o4, ?o5, ?o6, ?o7, ?o8, trivial⟩ ?fin
              case o0 =>
                refine GdOp.plain rfl (fun A vs w' hF hT hb hd => ?_)
                have e1 : A.eval (.tmp 12) = .slice (some ⟨bl, ol, none⟩) (overD d x l).length cO := hF 12 rfl
                exact BigFrame.wp_move _ rfl ⟨_, rfl, e1, Below.refl _ _⟩
              case o1 =>
                refine GdOp.plain rfl (fun A vs w' hF hT hb hd => ?_)
                have e1 : A.eval (.tmp 14) = .int .i64 (i : Int) := hF 14 rfl
                exact BigFrame.wp_move _ rfl ⟨_, rfl, e1, Below.refl _ _⟩
              case o2 =>
                refine GdOp.plain rfl (fun A vs w' hF hT hb hd => ?_)
                have e1 : A.eval (.tmp 112) = .slice (some ⟨bl, ol, none⟩) (overD d x l).length cO := (hT 112 0 (by simp) rfl).trans (hd ⟨0, .data⟩ (by simp) rfl)
                have e2 : A.eval (.tmp 113) = .int .i64 (i : Int) := (hT 113 1 (by simp) rfl).trans (hd ⟨1, .data⟩ (by simp) rfl)
                exact wp_ixN (e := 53) rfl (by kernel_rfl) (by kernel_rfl) (e1) (e2) rfl (by omega) ⟨_, rfl, rfl, Below.refl _ _⟩
              case o3 =>
                refine GdOp.plain rfl (fun A vs w' hF hT hb hd => ?_)
                have e1 : A.eval (.tmp 114) = .pointer (some ⟨bl, ol + i * 2, none⟩) := (hT 114 2 (by simp) rfl).trans (hd ⟨2, .data⟩ (by simp) rfl)
                exact wp_fieldN pqS rfl (e1) (by omega) ⟨_, rfl, rfl, Below.refl _ _⟩
              case o4 =>
                refine GdOp.plain rfl (fun A vs w' hF hT hb hd => ?_)
                have e1 : A.eval (.tmp 115) = .pointer (some ⟨bl, ol + i * 2, none⟩) := (hT 115 3 (by simp) rfl).trans (hd ⟨3, .data⟩ (by simp) rfl)
                exact wp_ld_slice (e := 5) rfl e1 (by kernel_rfl) (((hb.cell (p := ⟨_, _, none⟩) (cell_lt c1)).trans c1)) ⟨_, rfl, rfl, Below.refl _ _⟩
              case o5 =>
                refine GdOp.plain rfl (fun A vs w' hF hT hb hd => ?_)
                have e1 : A.eval (.tmp 116) = .slice A1 (overD d x l)[i].key.length C1 := (hT 116 4 (by simp) rfl).trans (hd ⟨4, .data⟩ (by simp) rfl)
                exact wp_conv byP rfl e1 (r1.below hb).rd ⟨_, rfl, rfl, Below.refl _ _⟩
              case o6 =>
                refine GdOp.plain rfl (fun A vs w' hF hT hb hd => ?_)
                have e1 : A.eval (.tmp 3) = .slice a3 key.length c3 := hF 3 rfl
                exact BigFrame.wp_move _ rfl ⟨_, rfl, e1, Below.refl _ _⟩
              case o7 =>
                refine GdOp.plain rfl (fun A vs w' hF hT hb hd => ?_)
                have e1 : A.eval (.tmp 118) = .slice a3 key.length c3 := (hT 118 6 (by simp) rfl).trans (hd ⟨6, .data⟩ (by simp) rfl)
                exact wp_conv byP rfl e1 ((hK.below q).below hb).rd ⟨_, rfl, rfl, Below.refl _ _⟩
              case o8 =>
                refine GdOp.plain rfl (fun A vs w' hF hT hb hd => ?_)
                have e1 : A.eval (.tmp 117) = .string (strOf (overD d x l)[i].key) := (hT 117 5 (by simp) rfl).trans (hd ⟨5, .data⟩ (by simp) rfl)
                have e2 : A.eval (.tmp 119) = .string (strOf key) := (hT 119 7 (by simp) rfl).trans (hd ⟨7, .data⟩ (by simp) rfl)
                exact wp_eqlS rfl e1 e2 ⟨_, rfl, (congrArg Value.bool (decide_eq_false hk)), Below.refl _ _⟩
              case fin =>
              intro vs9 W9 hb9 hG9
              have e0 : vs9 0 = .slice (some ⟨bl, ol, none⟩) (overD d x l).length cO := hG9 0 (by decide)
              have e1 : vs9 1 = .int .i64 (i : Int) := hG9 1 (by decide)
              have e2 : vs9 2 = .pointer (some ⟨bl, ol + i * 2, none⟩) := hG9 2 (by decide)
              have e3 : vs9 3 = .pointer (some ⟨bl, ol + i * 2, none⟩) := hG9 3 (by decide)
              have e4 : vs9 4 = .slice A1 (overD d x l)[i].key.length C1 := hG9 4 (by decide)
              have e5 : vs9 5 = .string (strOf (overD d x l)[i].key) := hG9 5 (by decide)
              have e6 : vs9 6 = .slice a3 key.length c3 := hG9 6 (by decide)
              have e7 : vs9 7 = .string (strOf key) := hG9 7 (by decide)
              have e8 : vs9 8 = .bool false := hG9 8 (by decide)
              simp only [putAll, e0, e1, e2, e3, e4, e5, e6, e7, e8]
              clear hG9 e0 e1 e2 e3 e4 e5 e6 e7 e8
              replace xD := xD.below hb9 xD.lt
              replace xX := xX.below hb9 xX.lt
              replace rO := rO.below hb9
              replace r1 := r1.below hb9
              replace c1 := (hb9.cell (p := ⟨_, _, none⟩) (cell_lt c1)).trans c1
              replace q := q.trans (hb9.mono q.size)
              clear hb9
              go_simp
              clear c1 r1 d0
              go_wp2_with fail
              go_roundw
              case rel => exact ⟨i + 1, was, by go_num, rfl, by omega, hfi.no hlt hk, xD, xX, rO, q⟩
              case measure => simp [intOf]; omega
        · obtain rfl : i = (overD d x l).length := by omega
          have d0 : decide (((overD d x l).length : Int) < ((overD d x l).length : Int)) = false := decide_eq_false (by omega)
          have hD := hd.below q
          have hX := hx.below q
          have hL := h2.below q
          have hKq := hK.below q
          obtain ⟨fo, hfw⟩ : ∃ fo, findD d ⟨x.table, key⟩ = fo := ⟨_, rfl⟩
          obtain ⟨fw, hfg⟩ : ∃ fw, fo.getD noWr = fw := ⟨_, rfl⟩
          have hoe2 := hoe.out key
          rw [hfw] at hoe2
          replace hoe2 := Lib.hid hoe2
          replace hfi := Lib.hid hfi
          have b0 := xD.cell (i := 0) rfl
          have b1 := xD.cell (i := 1) rfl
          have x0 := xX.cell (i := 0) rfl
          have x1 := xX.cell (i := 1) rfl
          have x2 := xX.cell (i := 2) rfl
          have x3 := xX.cell (i := 3) rfl
          have hcl := dFind_any wr (t := x.table) hD hsd hKq
          rw [hfw] at hcl
          unfold FndEnd at hcl
          rw [hfg] at hcl
          replace hfw := Lib.hid hfw
          replace hfg := Lib.hid hfg
          go_wp2_with fail
          refine hcl.mono ?_
          rintro e w8 ⟨vA, rfl, ⟨kA, lA, mA, nA, rfl, rkA, rvA, rtA⟩, hb⟩
          clear hcl b0 b1 x0 x1 x2 x3 d0
          replace rvA : RdS (fun _ => True) _ _ _ := rvA.weak fun _ _ => trivial
          clear rkA rtA
          replace hD := hD.below hb
          replace hX := hX.below hb
          replace hL := hL.below hb
          replace hKq := hKq.below hb
          replace rO := rO.below hb
          replace xD := xD.below hb xD.lt
          replace xX := xX.below hb xX.lt
          replace q := q.trans (hb.mono q.size)
          clear hb
          go_upto_region 22 with (first | (refine wpList_boxNew (vs := [.int .i64 0, .slice none 0 0, .bool false, .slice none 0 0]) (by kernel_rfl) rfl rfl ?_; intro wa hba hBa) | (refine wpList_boxStore (us := [.int .i64 fw.table, .slice kA fw.key.length lA, .bool fw.gone, .slice mA fw.val.length nA]) (by kernel_rfl) rfl rfl rfl rfl rfl rfl hBa rfl ?_; intro w9 hgw xA) | fail)
          try go_simp
          have hbw := hba.grown hgw hba.size fun k hk => by injection hk with hk; omega
          replace hD := hD.below hbw
          replace hX := hX.below hbw
          replace hL := hL.below hbw
          replace hKq := hKq.below hbw
          replace rO := rO.below hbw
          replace xD := xD.below hbw xD.lt
          replace xX := xX.below hbw xX.lt
          replace rvA := rvA.below hbw
          replace q := q.trans (hbw.mono q.size)
          clear hbw hgw hba hBa
          cases hth : fo.isSome with
          | false =>
            have hE : findE Pq.key key (overD d x l) = findE Pq.key key l := by
              have h := hoe2.out
              have : fo = none := by cases fo with | none => rfl | some _ => cases hth
              rw [this] at h
              rw [h]
              split <;> rfl
            replace hE := hE
            go_upto_region 24 with (fail)
            obtain ⟨hz1, hz2⟩ | ⟨j1, j2, hz1, hz2, hj1, hj2, hv⟩ := fin_else hE hsr.out hso.out hfl.out hfi.out
            · subst hz1 hz2
              refine wp_region_gsa (by kernel_rfl) (by kernel_rfl) [sgEq (.bool true), sgEq (.bool true), sgEq (.int .i64 (-1)), sgEq (.bool true), sgEq (.bool true), sgEq (.int .i64 (-1)), sgEq (.bool true), sgEq (.bool true), sgEq (.bool true), sgEq undef, sgEq undef, sgEq undef, sgEq undef, sgEq undef, sgEq undef, sgEq undef, sgEq undef, sgEq undef, sgEq undef, sgEq undef, sgEq undef, sgEq undef, sgEq undef, sgEq undef, sgEq undef, sgEq undef, sgEq undef, sgEq undef, sgEq undef, sgEq undef, sgEq (.bool true), sgEq (.bool true), sgEq (.bool true)]
                ⟨?o0, ?o1, ?o2, ?o3, ?o4, ?o5, ?o6, ?o7, ?o8, ?o9, ?o10, ?o11, ?o12, ?o13, ?o14, ?o15, ?o16, ?o17, ?o18, ?o19, ?o20, ?o21, ?o22, ?o23, ?o24, ?o25, ?o26, ?o27, ?o28, ?o29, ?o30, ?o31, ?o32, trivial⟩ ?fin
              case o0 =>
                refine GdOp.plain rfl (fun A vs w' hF hT hb hd => ?_)
                have e1 : A.eval (.tmp 9) = .bool true := hF 9 rfl
                exact BigFrame.wp_move _ rfl ⟨_, rfl, e1, Below.refl _ _⟩
              case o1 =>
                refine GdOp.plain rfl (fun A vs w' hF hT hb hd => ?_)
                have e1 : A.eval (.tmp 166) = .bool true := (hT 166 0 (by simp) rfl).trans (hd ⟨0, .data⟩ (by simp) rfl)
                exact BigFrame.wp_move _ rfl ⟨_, rfl, e1, Below.refl _ _⟩
              case o2 =>
                refine GdOp.taken rfl ⟨_, _, rfl, rfl, by simp⟩ (by kernel_rfl) (fun w v h => h) (fun A vs w' hF hT hb hd => ?_)
                have e1 : A.eval (.tmp 10) = .int .i64 (-1) := hF 10 rfl
                exact BigFrame.wp_move _ rfl ⟨_, rfl, e1, Below.refl _ _⟩
              case o3 =>
                refine GdOp.taken rfl ⟨_, _, rfl, rfl, by simp⟩ (by kernel_rfl) (fun w v h => h) (fun A vs w' hF hT hb hd => ?_)
                have e1 : A.eval (.tmp 168) = .int .i64 (-1) := (hT 168 2 (by simp) rfl).trans (hd ⟨2, .data⟩ (by simp) rfl)
                exact wp_lssI rfl e1 rfl ⟨_, rfl, (congrArg Value.bool (decide_eq_true (by omega))), Below.refl _ _⟩
              case o4 =>
                refine GdOp.taken rfl ⟨_, _, rfl, rfl, by simp⟩ (by kernel_rfl) (fun w v h => h) (fun A vs w' hF hT hb hd => ?_)
                have e1 : A.eval (.tmp 169) = .bool true := (hT 169 3 (by simp) rfl).trans (hd ⟨3, .data⟩ (by simp) rfl)
                exact BigFrame.wp_move _ rfl ⟨_, rfl, e1, Below.refl _ _⟩
              case o5 =>
                refine GdOp.taken rfl ⟨_, _, rfl, rfl, by simp⟩ (by kernel_rfl) (fun w v h => h) (fun A vs w' hF hT hb hd => ?_)
                have e1 : A.eval (.tmp 13) = .int .i64 (-1) := hF 13 rfl
                exact BigFrame.wp_move _ rfl ⟨_, rfl, e1, Below.refl _ _⟩
              case o6 =>
                refine GdOp.taken rfl ⟨_, _, rfl, rfl, by simp⟩ (by kernel_rfl) (fun w v h => h) (fun A vs w' hF hT hb hd => ?_)
                have e1 : A.eval (.tmp 171) = .int .i64 (-1) := (hT 171 5 (by simp) rfl).trans (hd ⟨5, .data⟩ (by simp) rfl)
                exact wp_lssI rfl e1 rfl ⟨_, rfl, (congrArg Value.bool (decide_eq_true (by omega))), Below.refl _ _⟩
              case o7 =>
                refine GdOp.taken rfl ⟨_, _, rfl, rfl, by simp⟩ (by kernel_rfl) (fun w v h => h) (fun A vs w' hF hT hb hd => ?_)
                have e1 : A.eval (.tmp 170) = .bool true := (hT 170 4 (by simp) rfl).trans (hd ⟨4, .data⟩ (by simp) rfl)
                have e2 : A.eval (.tmp 172) = .bool true := (hT 172 6 (by simp) rfl).trans (hd ⟨6, .data⟩ (by simp) rfl)
                exact wp_pk rfl e1 (fun _ => e2) (by simp) ⟨_, rfl, rfl, Below.refl _ _⟩
              case o8 =>
                refine GdOp.taken rfl ⟨_, _, rfl, rfl, by simp⟩ (by kernel_rfl) (fun w v h => h) (fun A vs w' hF hT hb hd => ?_)
                have e1 : A.eval (.tmp 173) = .bool true := (hT 173 7 (by simp) rfl).trans (hd ⟨7, .data⟩ (by simp) rfl)
                exact BigFrame.wp_move _ rfl ⟨_, rfl, e1, Below.refl _ _⟩
              case o9 =>
                exact GdOp.left rfl ⟨_, _, rfl, rfl, by simp⟩ (by kernel_rfl) (fun w v h => .inl h) (fun w => rfl)
              case o10 =>
                exact GdOp.left rfl ⟨_, _, rfl, rfl, by simp⟩ (by kernel_rfl) (fun w v h => .inl h) (fun w => rfl)
              case o11 =>
                exact GdOp.left rfl ⟨_, _, rfl, rfl, by simp⟩ (by kernel_rfl) (fun w v h => .inl h) (fun w => rfl)
              case o12 =>
                exact GdOp.left rfl ⟨_, _, rfl, rfl, by simp⟩ (by kernel_rfl) (fun w v h => .inr h) (fun w => rfl)
              case o13 =>
                exact GdOp.left rfl ⟨_, _, rfl, rfl, by simp⟩ (by kernel_rfl) (fun w v h => .inr h) (fun w => rfl)
              case o14 =>
                exact GdOp.left rfl ⟨_, _, rfl, rfl, by simp⟩ (by kernel_rfl) (fun w v h => .inl h) (fun w => rfl)
              case o15 =>
                exact GdOp.left rfl ⟨_, _, rfl, rfl, by simp⟩ (by kernel_rfl) (fun w v h => .inl h) (fun w => rfl)
              case o16 =>
                exact GdOp.left rfl ⟨_, _, rfl, rfl, by simp⟩ (by kernel_rfl) (fun w v h => .inr h) (fun w => rfl)
              case o17 =>
                exact GdOp.left rfl ⟨_, _, rfl, rfl, by simp⟩ (by kernel_rfl) (fun w v h => .inr h) (fun w => rfl)
              case o18 =>
                exact GdOp.left rfl ⟨_, _, rfl, rfl, by simp⟩ (by kernel_rfl) (fun w v h => .inr h) (fun w => rfl)
              case o19 =>
                exact GdOp.left rfl ⟨_, _, rfl, rfl, by simp⟩ (by kernel_rfl) (fun w v h => .inr h) (fun w => rfl)
              case o20 =>
                exact GdOp.left rfl ⟨_, _, rfl, rfl, by simp⟩ (by kernel_rfl) (fun w v h => .inr h) (fun w => rfl)
              case o21 =>
                exact GdOp.left rfl ⟨_, _, rfl, rfl, by simp⟩ (by kernel_rfl) (fun w v h => .inr h) (fun w => rfl)
              case o22 =>
                exact GdOp.left rfl ⟨_, _, rfl, rfl, by simp⟩ (by kernel_rfl) (fun w v h => .inr h) (fun w => rfl)
              case o23 =>
                exact GdOp.left rfl ⟨_, _, rfl, rfl, by simp⟩ (by kernel_rfl) (fun w v h => .inr h) (fun w => rfl)
              case o24 =>
                exact GdOp.left rfl ⟨_, _, rfl, rfl, by simp⟩ (by kernel_rfl) (fun w v h => .inr h) (fun w => rfl)
              case o25 =>
                exact GdOp.left rfl ⟨_, _, rfl, rfl, by simp⟩ (by kernel_rfl) (fun w v h => .inr h) (fun w => rfl)
              case o26 =>
                exact GdOp.left rfl ⟨_, _, rfl, rfl, by simp⟩ (by kernel_rfl) (fun w v h => .inr h) (fun w => rfl)
              case o27 =>
                exact GdOp.left rfl ⟨_, _, rfl, rfl, by simp⟩ (by kernel_rfl) (fun w v h => .inr h) (fun w => rfl)
              case o28 =>
                exact GdOp.left rfl ⟨_, _, rfl, rfl, by simp⟩ (by kernel_rfl) (fun w v h => .inr h) (fun w => rfl)
              case o29 =>
                exact GdOp.left rfl ⟨_, _, rfl, rfl, by simp⟩ (by kernel_rfl) (fun w v h => .inl h) (fun w => rfl)
              case o30 =>
                refine GdOp.taken rfl ⟨_, _, rfl, rfl, by simp⟩ (by kernel_rfl) (fun w v h => h) (fun A vs w' hF hT hb hd => ?_)
                have e1 : A.eval (.tmp 174) = .bool true := (hT 174 8 (by simp) rfl).trans (hd ⟨8, .data⟩ (by simp) rfl)
                have e3 : A.eval (.tmp 195) = undef := (hT 195 29 (by simp) rfl).trans (hd ⟨29, .data⟩ (by simp) rfl)
                exact wp_pk rfl e1 (fun _ => rfl) (by simp) ⟨_, rfl, rfl, Below.refl _ _⟩
              case o31 =>
                refine GdOp.plain rfl (fun A vs w' hF hT hb hd => ?_)
                have e1 : A.eval (.tmp 167) = .bool true := (hT 167 1 (by simp) rfl).trans (hd ⟨1, .data⟩ (by simp) rfl)
                have e2 : A.eval (.tmp 196) = .bool true := (hT 196 30 (by simp) rfl).trans (hd ⟨30, .data⟩ (by simp) rfl)
                exact wp_pk rfl e1 (fun _ => e2) (by simp) ⟨_, rfl, rfl, Below.refl _ _⟩
              case o32 =>
                refine GdOp.plain rfl (fun A vs w' hF hT hb hd => ?_)
                have e1 : A.eval (.tmp 197) = .bool true := (hT 197 31 (by simp) rfl).trans (hd ⟨31, .data⟩ (by simp) rfl)
                exact BigFrame.wp_assign _ rfl ⟨_, rfl, e1, Below.refl _ _⟩
              case fin =>
                intro A vs w' hA hb hG
                have e6 : A.eval (.tmp 8) = .bool true := (hA.2.2.2 8 32 (by simp) rfl).trans (hG 32 (by decide))
                have hdf : A.defers = [] := hA.1
                clear hG hA
                go_wp2
                refine bodyPost_ret (v := .bool true) ?_ hdf ⟨rfl, q.trans (hb.mono q.size)⟩
                rw [← e6]
                exact results_tmp rfl _ _ _
            · subst hz1 hz2
              obtain ⟨bo, oo, _, _, A1, C1, eL, _, _, c1, _, r1⟩ := rO.pq j2 hj2
              subst eL
              obtain ⟨bl, ol, _, _, A0, C0, eL, _, _, c0, _, r0⟩ := hL.pq j1 hj1
              subst eL
              refine wp_region_gsa (by kernel_rfl) (by kernel_rfl) [sgEq (.bool true), sgEq (.bool true), sgEq (.int .i64 (j1 : Nat)), sgEq (.bool false), sgEq (.bool false), sgEq undef, sgEq undef, sgEq (.bool false), sgEq (.bool false), sgEq (.int .i64 (j1 : Nat)), sgEq (.bool true), sgEq (.bool true), sgEq (.int .i64 (j2 : Nat)), sgEq (.bool true), sgEq (.bool true), sgEq (.bool true), sgEq (.slice (some ⟨bo, oo, none⟩) (overD d x l).length cO), sgEq (.int .i64 (j2 : Nat)), sgEq (.pointer (some ⟨bo, oo + j2 * 2, none⟩)), sgEq (.pointer (some ⟨bo, oo + j2 * 2 + 1, none⟩)), sgEq (.slice A1 (overD d x l)[j2].val.length C1), sgEq (.string (strOf (overD d x l)[j2].val)), sgEq (.slice (some ⟨bl, ol, none⟩) l.length c2), sgEq (.int .i64 (j1 : Nat)), sgEq (.pointer (some ⟨bl, ol + j1 * 2, none⟩)), sgEq (.pointer (some ⟨bl, ol + j1 * 2 + 1, none⟩)), sgEq (.slice A0 l[j1].val.length C0), sgEq (.string (strOf l[j1].val)), sgEq (.bool true), sgEq (.bool true), sgEq (.bool true), sgEq (.bool true), sgEq (.bool true)]
                ⟨?o0, ?o1, ?o2, ?o3, ?o4, ?o5, ?o6, ?o7, ?o8, ?o9, ?o10, ?o11, ?o12, ?o13, ?o14, ?o15, ?o16, ?o17, ?o18, ?o19, ?o20, ?o21, ?o22, ?o23, ?o24, ?o25, ?o26, ?o27, ?o28, ?o29, ?o30, ?o31, ?o32, trivial⟩ ?fin
              case o0 =>
                refine GdOp.plain rfl (fun A vs w' hF hT hb hd => ?_)
                have e1 : A.eval (.tmp 9) = .bool true := hF 9 rfl
                exact BigFrame.wp_move _ rfl ⟨_, rfl, e1, Below.refl _ _⟩
              case o1 =>
                refine GdOp.plain rfl (fun A vs w' hF hT hb hd => ?_)
                have e1 : A.eval (.tmp 166) = .bool true := (hT 166 0 (by simp) rfl).trans (hd ⟨0, .data⟩ (by simp) rfl)
                exact BigFrame.wp_move _ rfl ⟨_, rfl, e1, Below.refl _ _⟩
              case o2 =>
                refine GdOp.taken rfl ⟨_, _, rfl, rfl, by simp⟩ (by kernel_rfl) (fun w v h => h) (fun A vs w' hF hT hb hd => ?_)
                have e1 : A.eval (.tmp 10) = .int .i64 (j1 : Nat) := hF 10 rfl
                exact BigFrame.wp_move _ rfl ⟨_, rfl, e1, Below.refl _ _⟩
              case o3 =>
                refine GdOp.taken rfl ⟨_, _, rfl, rfl, by simp⟩ (by kernel_rfl) (fun w v h => h) (fun A vs w' hF hT hb hd => ?_)
                have e1 : A.eval (.tmp 168) = .int .i64 (j1 : Nat) := (hT 168 2 (by simp) rfl).trans (hd ⟨2, .data⟩ (by simp) rfl)
                exact wp_lssI rfl e1 rfl ⟨_, rfl, (congrArg Value.bool (decide_eq_false (by omega))), Below.refl _ _⟩
              case o4 =>
                refine GdOp.taken rfl ⟨_, _, rfl, rfl, by simp⟩ (by kernel_rfl) (fun w v h => h) (fun A vs w' hF hT hb hd => ?_)
                have e1 : A.eval (.tmp 169) = .bool false := (hT 169 3 (by simp) rfl).trans (hd ⟨3, .data⟩ (by simp) rfl)
                exact BigFrame.wp_move _ rfl ⟨_, rfl, e1, Below.refl _ _⟩
              case o5 =>
                exact GdOp.left rfl ⟨_, _, rfl, rfl, by simp⟩ (by kernel_rfl) (fun w v h => .inl h) (fun w => rfl)
              case o6 =>
                exact GdOp.left rfl ⟨_, _, rfl, rfl, by simp⟩ (by kernel_rfl) (fun w v h => .inl h) (fun w => rfl)
              case o7 =>
                refine GdOp.taken rfl ⟨_, _, rfl, rfl, by simp⟩ (by kernel_rfl) (fun w v h => h) (fun A vs w' hF hT hb hd => ?_)
                have e1 : A.eval (.tmp 170) = .bool false := (hT 170 4 (by simp) rfl).trans (hd ⟨4, .data⟩ (by simp) rfl)
                have e2 : A.eval (.tmp 172) = undef := (hT 172 6 (by simp) rfl).trans (hd ⟨6, .data⟩ (by simp) rfl)
                exact wp_pk rfl e1 (by simp) (fun _ => rfl) ⟨_, rfl, rfl, Below.refl _ _⟩
              case o8 =>
                refine GdOp.taken rfl ⟨_, _, rfl, rfl, by simp⟩ (by kernel_rfl) (fun w v h => h) (fun A vs w' hF hT hb hd => ?_)
                have e1 : A.eval (.tmp 173) = .bool false := (hT 173 7 (by simp) rfl).trans (hd ⟨7, .data⟩ (by simp) rfl)
                exact BigFrame.wp_move _ rfl ⟨_, rfl, e1, Below.refl _ _⟩
              case o9 =>
                refine GdOp.taken rfl ⟨_, _, rfl, rfl, by simp⟩ (by kernel_rfl) (fun w v h => h) (fun A vs w' hF hT hb hd => ?_)
                have e1 : A.eval (.tmp 10) = .int .i64 (j1 : Nat) := hF 10 rfl
                exact BigFrame.wp_move _ rfl ⟨_, rfl, e1, Below.refl _ _⟩
              case o10 =>
                refine GdOp.taken rfl ⟨_, _, rfl, rfl, by simp⟩ (by kernel_rfl) (fun w v h => h) (fun A vs w' hF hT hb hd => ?_)
                have e1 : A.eval (.tmp 175) = .int .i64 (j1 : Nat) := (hT 175 9 (by simp) rfl).trans (hd ⟨9, .data⟩ (by simp) rfl)
                exact wp_geqI rfl e1 rfl ⟨_, rfl, (congrArg Value.bool (decide_eq_true (by omega))), Below.refl _ _⟩
              case o11 =>
                refine GdOp.taken rfl ⟨_, _, rfl, rfl, by simp⟩ (by kernel_rfl) (fun w v h => h) (fun A vs w' hF hT hb hd => ?_)
                have e1 : A.eval (.tmp 176) = .bool true := (hT 176 10 (by simp) rfl).trans (hd ⟨10, .data⟩ (by simp) rfl)
                exact BigFrame.wp_move _ rfl ⟨_, rfl, e1, Below.refl _ _⟩
              case o12 =>
                refine GdOp.taken rfl ⟨_, _, rfl, rfl, by simp⟩ (by kernel_rfl) (fun w v h => h) (fun A vs w' hF hT hb hd => ?_)
                have e1 : A.eval (.tmp 13) = .int .i64 (j2 : Nat) := hF 13 rfl
                exact BigFrame.wp_move _ rfl ⟨_, rfl, e1, Below.refl _ _⟩
              case o13 =>
                refine GdOp.taken rfl ⟨_, _, rfl, rfl, by simp⟩ (by kernel_rfl) (fun w v h => h) (fun A vs w' hF hT hb hd => ?_)
                have e1 : A.eval (.tmp 178) = .int .i64 (j2 : Nat) := (hT 178 12 (by simp) rfl).trans (hd ⟨12, .data⟩ (by simp) rfl)
                exact wp_geqI rfl e1 rfl ⟨_, rfl, (congrArg Value.bool (decide_eq_true (by omega))), Below.refl _ _⟩
              case o14 =>
                refine GdOp.taken rfl ⟨_, _, rfl, rfl, by simp⟩ (by kernel_rfl) (fun w v h => h) (fun A vs w' hF hT hb hd => ?_)
                have e1 : A.eval (.tmp 177) = .bool true := (hT 177 11 (by simp) rfl).trans (hd ⟨11, .data⟩ (by simp) rfl)
                have e2 : A.eval (.tmp 179) = .bool true := (hT 179 13 (by simp) rfl).trans (hd ⟨13, .data⟩ (by simp) rfl)
                exact wp_pk rfl e1 (fun _ => e2) (by simp) ⟨_, rfl, rfl, Below.refl _ _⟩
              case o15 =>
                refine GdOp.taken rfl ⟨_, _, rfl, rfl, by simp⟩ (by kernel_rfl) (fun w v h => h) (fun A vs w' hF hT hb hd => ?_)
                have e1 : A.eval (.tmp 180) = .bool true := (hT 180 14 (by simp) rfl).trans (hd ⟨14, .data⟩ (by simp) rfl)
                exact BigFrame.wp_move _ rfl ⟨_, rfl, e1, Below.refl _ _⟩
              case o16 =>
                refine GdOp.taken rfl ⟨_, _, rfl, rfl, by simp⟩ (by kernel_rfl) (fun w v h => h) (fun A vs w' hF hT hb hd => ?_)
                have e1 : A.eval (.tmp 12) = .slice (some ⟨bo, oo, none⟩) (overD d x l).length cO := hF 12 rfl
                exact BigFrame.wp_move _ rfl ⟨_, rfl, e1, Below.refl _ _⟩
              case o17 =>
                refine GdOp.taken rfl ⟨_, _, rfl, rfl, by simp⟩ (by kernel_rfl) (fun w v h => h) (fun A vs w' hF hT hb hd => ?_)
                have e1 : A.eval (.tmp 13) = .int .i64 (j2 : Nat) := hF 13 rfl
                exact BigFrame.wp_move _ rfl ⟨_, rfl, e1, Below.refl _ _⟩
              case o18 =>
                refine GdOp.taken rfl ⟨_, _, rfl, rfl, by simp⟩ (by kernel_rfl) (fun w v h => h) (fun A vs w' hF hT hb hd => ?_)
                have e1 : A.eval (.tmp 182) = .slice (some ⟨bo, oo, none⟩) (overD d x l).length cO := (hT 182 16 (by simp) rfl).trans (hd ⟨16, .data⟩ (by simp) rfl)
                have e2 : A.eval (.tmp 183) = .int .i64 (j2 : Nat) := (hT 183 17 (by simp) rfl).trans (hd ⟨17, .data⟩ (by simp) rfl)
                exact wp_ixN (e := 53) rfl (by kernel_rfl) (by kernel_rfl) (e1) (e2) (by omega) (by omega) ⟨_, rfl, rfl, Below.refl _ _⟩
              case o19 =>
                refine GdOp.taken rfl ⟨_, _, rfl, rfl, by simp⟩ (by kernel_rfl) (fun w v h => h) (fun A vs w' hF hT hb hd => ?_)
                have e1 : A.eval (.tmp 184) = .pointer (some ⟨bo, oo + j2 * 2, none⟩) := (hT 184 18 (by simp) rfl).trans (hd ⟨18, .data⟩ (by simp) rfl)
                exact wp_fieldN pqS rfl (e1) (by omega) ⟨_, rfl, rfl, Below.refl _ _⟩
              case o20 =>
                refine GdOp.taken rfl ⟨_, _, rfl, rfl, by simp⟩ (by kernel_rfl) (fun w v h => h) (fun A vs w' hF hT hb hd => ?_)
                have e1 : A.eval (.tmp 185) = .pointer (some ⟨bo, oo + j2 * 2 + 1, none⟩) := (hT 185 19 (by simp) rfl).trans (hd ⟨19, .data⟩ (by simp) rfl)
                exact wp_ld_slice (e := 5) rfl e1 (by kernel_rfl) (((hb.cell (p := ⟨_, _, none⟩) (cell_lt c1)).trans c1)) ⟨_, rfl, rfl, Below.refl _ _⟩
              case o21 =>
                refine GdOp.taken rfl ⟨_, _, rfl, rfl, by simp⟩ (by kernel_rfl) (fun w v h => h) (fun A vs w' hF hT hb hd => ?_)
                have e1 : A.eval (.tmp 186) = .slice A1 (overD d x l)[j2].val.length C1 := (hT 186 20 (by simp) rfl).trans (hd ⟨20, .data⟩ (by simp) rfl)
                exact wp_conv byP rfl e1 (r1.below hb).rd ⟨_, rfl, rfl, Below.refl _ _⟩
              case o22 =>
                refine GdOp.taken rfl ⟨_, _, rfl, rfl, by simp⟩ (by kernel_rfl) (fun w v h => h) (fun A vs w' hF hT hb hd => ?_)
                have e1 : A.eval (.tmp 2) = .slice (some ⟨bl, ol, none⟩) l.length c2 := hF 2 rfl
                exact BigFrame.wp_move _ rfl ⟨_, rfl, e1, Below.refl _ _⟩
              case o23 =>
                refine GdOp.taken rfl ⟨_, _, rfl, rfl, by simp⟩ (by kernel_rfl) (fun w v h => h) (fun A vs w' hF hT hb hd => ?_)
                have e1 : A.eval (.tmp 10) = .int .i64 (j1 : Nat) := hF 10 rfl
                exact BigFrame.wp_move _ rfl ⟨_, rfl, e1, Below.refl _ _⟩
              case o24 =>
                refine GdOp.taken rfl ⟨_, _, rfl, rfl, by simp⟩ (by kernel_rfl) (fun w v h => h) (fun A vs w' hF hT hb hd => ?_)
                have e1 : A.eval (.tmp 188) = .slice (some ⟨bl, ol, none⟩) l.length c2 := (hT 188 22 (by simp) rfl).trans (hd ⟨22, .data⟩ (by simp) rfl)
                have e2 : A.eval (.tmp 189) = .int .i64 (j1 : Nat) := (hT 189 23 (by simp) rfl).trans (hd ⟨23, .data⟩ (by simp) rfl)
                exact wp_ixN (e := 53) rfl (by kernel_rfl) (by kernel_rfl) (e1) (e2) (by omega) (by omega) ⟨_, rfl, rfl, Below.refl _ _⟩
              case o25 =>
                refine GdOp.taken rfl ⟨_, _, rfl, rfl, by simp⟩ (by kernel_rfl) (fun w v h => h) (fun A vs w' hF hT hb hd => ?_)
                have e1 : A.eval (.tmp 190) = .pointer (some ⟨bl, ol + j1 * 2, none⟩) := (hT 190 24 (by simp) rfl).trans (hd ⟨24, .data⟩ (by simp) rfl)
                exact wp_fieldN pqS rfl (e1) (by omega) ⟨_, rfl, rfl, Below.refl _ _⟩
              case o26 =>
                refine GdOp.taken rfl ⟨_, _, rfl, rfl, by simp⟩ (by kernel_rfl) (fun w v h => h) (fun A vs w' hF hT hb hd => ?_)
                have e1 : A.eval (.tmp 191) = .pointer (some ⟨bl, ol + j1 * 2 + 1, none⟩) := (hT 191 25 (by simp) rfl).trans (hd ⟨25, .data⟩ (by simp) rfl)
                exact wp_ld_slice (e := 5) rfl e1 (by kernel_rfl) (((hb.cell (p := ⟨_, _, none⟩) (cell_lt c0)).trans c0)) ⟨_, rfl, rfl, Below.refl _ _⟩
              case o27 =>
                refine GdOp.taken rfl ⟨_, _, rfl, rfl, by simp⟩ (by kernel_rfl) (fun w v h => h) (fun A vs w' hF hT hb hd => ?_)
                have e1 : A.eval (.tmp 192) = .slice A0 l[j1].val.length C0 := (hT 192 26 (by simp) rfl).trans (hd ⟨26, .data⟩ (by simp) rfl)
                exact wp_conv byP rfl e1 (r0.below hb).rd ⟨_, rfl, rfl, Below.refl _ _⟩
              case o28 =>
                refine GdOp.taken rfl ⟨_, _, rfl, rfl, by simp⟩ (by kernel_rfl) (fun w v h => h) (fun A vs w' hF hT hb hd => ?_)
                have e1 : A.eval (.tmp 187) = .string (strOf (overD d x l)[j2].val) := (hT 187 21 (by simp) rfl).trans (hd ⟨21, .data⟩ (by simp) rfl)
                have e2 : A.eval (.tmp 193) = .string (strOf l[j1].val) := (hT 193 27 (by simp) rfl).trans (hd ⟨27, .data⟩ (by simp) rfl)
                exact wp_eqlS rfl e1 e2 ⟨_, rfl, (congrArg Value.bool (decide_eq_true hv)), Below.refl _ _⟩
              case o29 =>
                refine GdOp.taken rfl ⟨_, _, rfl, rfl, by simp⟩ (by kernel_rfl) (fun w v h => h) (fun A vs w' hF hT hb hd => ?_)
                have e1 : A.eval (.tmp 181) = .bool true := (hT 181 15 (by simp) rfl).trans (hd ⟨15, .data⟩ (by simp) rfl)
                have e2 : A.eval (.tmp 194) = .bool true := (hT 194 28 (by simp) rfl).trans (hd ⟨28, .data⟩ (by simp) rfl)
                exact wp_pk rfl e1 (fun _ => e2) (by simp) ⟨_, rfl, rfl, Below.refl _ _⟩
              case o30 =>
                refine GdOp.taken rfl ⟨_, _, rfl, rfl, by simp⟩ (by kernel_rfl) (fun w v h => h) (fun A vs w' hF hT hb hd => ?_)
                have e1 : A.eval (.tmp 174) = .bool false := (hT 174 8 (by simp) rfl).trans (hd ⟨8, .data⟩ (by simp) rfl)
                have e3 : A.eval (.tmp 195) = .bool true := (hT 195 29 (by simp) rfl).trans (hd ⟨29, .data⟩ (by simp) rfl)
                exact wp_pk rfl e1 (by simp) (fun _ => e3) ⟨_, rfl, rfl, Below.refl _ _⟩
              case o31 =>
                refine GdOp.plain rfl (fun A vs w' hF hT hb hd => ?_)
                have e1 : A.eval (.tmp 167) = .bool true := (hT 167 1 (by simp) rfl).trans (hd ⟨1, .data⟩ (by simp) rfl)
                have e2 : A.eval (.tmp 196) = .bool true := (hT 196 30 (by simp) rfl).trans (hd ⟨30, .data⟩ (by simp) rfl)
                exact wp_pk rfl e1 (fun _ => e2) (by simp) ⟨_, rfl, rfl, Below.refl _ _⟩
              case o32 =>
                refine GdOp.plain rfl (fun A vs w' hF hT hb hd => ?_)
                have e1 : A.eval (.tmp 197) = .bool true := (hT 197 31 (by simp) rfl).trans (hd ⟨31, .data⟩ (by simp) rfl)
                exact BigFrame.wp_assign _ rfl ⟨_, rfl, e1, Below.refl _ _⟩
              case fin =>
                intro A vs w' hA hb hG
                have e6 : A.eval (.tmp 8) = .bool true := (hA.2.2.2 8 32 (by simp) rfl).trans (hG 32 (by decide))
                have hdf : A.defers = [] := hA.1
                clear hG hA
                go_wp2
                refine bodyPost_ret (v := .bool true) ?_ hdf ⟨rfl, q.trans (hb.mono q.size)⟩
                rw [← e6]
                exact results_tmp rfl _ _ _
          | true =>
            obtain rfl : fo = some fw := by
              have h := hfg.out
              cases fo with
              | none => cases hth
              | some y => rw [← h]; rfl
            clear hfg hth
            have x0 := xX.cell (i := 0) rfl
            have x1 := xX.cell (i := 1) rfl
            have x2 := xX.cell (i := 2) rfl
            have x3 := xX.cell (i := 3) rfl
            have hcl := refIn_any w9 hX hKq
            go_wp2_with fail
            refine hcl.mono ?_
            rintro e w10 ⟨rfl, hb⟩
            clear hcl x0 x1 x2 x3
            replace hD := hD.below hb
            replace hX := hX.below hb
            replace hL := hL.below hb
            replace hKq := hKq.below hb
            replace rO := rO.below hb
            replace xD := xD.below hb xD.lt
            replace xX := xX.below hb xX.lt
            replace rvA := rvA.below hb
            replace xA := xA.below hb xA.lt
            replace q := q.trans (hb.mono q.size)
            clear hb
            cases hin : inS x key with
            | false =>
              have hE : findE Pq.key key (overD d x l) = findE Pq.key key l := by
                have h := hoe2.out
                rw [hin] at h
                exact h
              go_upto_region 24 with (fail)
              obtain ⟨hz1, hz2⟩ | ⟨j1, j2, hz1, hz2, hj1, hj2, hv⟩ := fin_else hE hsr.out hso.out hfl.out hfi.out
              · subst hz1 hz2
                refine wp_region_gsa (by kernel_rfl) (by kernel_rfl) [sgEq (.bool true), sgEq (.bool true), sgEq (.int .i64 (-1)), sgEq (.bool true), sgEq (.bool true), sgEq (.int .i64 (-1)), sgEq (.bool true), sgEq (.bool true), sgEq (.bool true), sgEq undef, sgEq undef, sgEq undef, sgEq undef, sgEq undef, sgEq undef, sgEq undef, sgEq undef, sgEq undef, sgEq undef, sgEq undef, sgEq undef, sgEq undef, sgEq undef, sgEq undef, sgEq undef, sgEq undef, sgEq undef, sgEq undef, sgEq undef, sgEq undef, sgEq (.bool true), sgEq (.bool true), sgEq (.bool true)]
                  ⟨?o0, ?o1, ?o2, ?o3, ?o4, ?o5, ?o6, ?o7, ?o8, ?o9, ?o10, ?o11, ?o12, ?o13, ?o14, ?o15, ?o16, ?o17, ?o18, ?o19, ?o20, ?o21, ?o22, ?o23, ?o24, ?o25, ?o26, ?o27, ?o28, ?o29, ?o30, ?o31, ?o32, trivial⟩ ?fin
                case o0 =>
                  refine GdOp.plain rfl (fun A vs w' hF hT hb hd => ?_)
                  have e1 : A.eval (.tmp 9) = .bool true := hF 9 rfl
                  exact BigFrame.wp_move _ rfl ⟨_, rfl, e1, Below.refl _ _⟩
                case o1 =>
                  refine GdOp.plain rfl (fun A vs w' hF hT hb hd => ?_)
                  have e1 : A.eval (.tmp 166) = .bool true := (hT 166 0 (by simp) rfl).trans (hd ⟨0, .data⟩ (by simp) rfl)
                  exact BigFrame.wp_move _ rfl ⟨_, rfl, e1, Below.refl _ _⟩
                case o2 =>
                  refine GdOp.taken rfl ⟨_, _, rfl, rfl, by simp⟩ (by kernel_rfl) (fun w v h => h) (fun A vs w' hF hT hb hd => ?_)
                  have e1 : A.eval (.tmp 10) = .int .i64 (-1) := hF 10 rfl
                  exact BigFrame.wp_move _ rfl ⟨_, rfl, e1, Below.refl _ _⟩
                case o3 =>
                  refine GdOp.taken rfl ⟨_, _, rfl, rfl, by simp⟩ (by kernel_rfl) (fun w v h => h) (fun A vs w' hF hT hb hd => ?_)
                  have e1 : A.eval (.tmp 168) = .int .i64 (-1) := (hT 168 2 (by simp) rfl).trans (hd ⟨2, .data⟩ (by simp) rfl)
                  exact wp_lssI rfl e1 rfl ⟨_, rfl, (congrArg Value.bool (decide_eq_true (by omega))), Below.refl _ _⟩
                case o4 =>
                  refine GdOp.taken rfl ⟨_, _, rfl, rfl, by simp⟩ (by kernel_rfl) (fun w v h => h) (fun A vs w' hF hT hb hd => ?_)
                  have e1 : A.eval (.tmp 169) = .bool true := (hT 169 3 (by simp) rfl).trans (hd ⟨3, .data⟩ (by simp) rfl)
                  exact BigFrame.wp_move _ rfl ⟨_, rfl, e1, Below.refl _ _⟩
                case o5 =>
                  refine GdOp.taken rfl ⟨_, _, rfl, rfl, by simp⟩ (by kernel_rfl) (fun w v h => h) (fun A vs w' hF hT hb hd => ?_)
                  have e1 : A.eval (.tmp 13) = .int .i64 (-1) := hF 13 rfl
                  exact BigFrame.wp_move _ rfl ⟨_, rfl, e1, Below.refl _ _⟩
                case o6 =>
                  refine GdOp.taken rfl ⟨_, _, rfl, rfl, by simp⟩ (by kernel_rfl) (fun w v h => h) (fun A vs w' hF hT hb hd => ?_)
                  have e1 : A.eval (.tmp 171) = .int .i64 (-1) := (hT 171 5 (by simp) rfl).trans (hd ⟨5, .data⟩ (by simp) rfl)
                  exact wp_lssI rfl e1 rfl ⟨_, rfl, (congrArg Value.bool (decide_eq_true (by omega))), Below.refl _ _⟩
                case o7 =>
                  refine GdOp.taken rfl ⟨_, _, rfl, rfl, by simp⟩ (by kernel_rfl) (fun w v h => h) (fun A vs w' hF hT hb hd => ?_)
                  have e1 : A.eval (.tmp 170) = .bool true := (hT 170 4 (by simp) rfl).trans (hd ⟨4, .data⟩ (by simp) rfl)
                  have e2 : A.eval (.tmp 172) = .bool true := (hT 172 6 (by simp) rfl).trans (hd ⟨6, .data⟩ (by simp) rfl)
                  exact wp_pk rfl e1 (fun _ => e2) (by simp) ⟨_, rfl, rfl, Below.refl _ _⟩
                case o8 =>
                  refine GdOp.taken rfl ⟨_, _, rfl, rfl, by simp⟩ (by kernel_rfl) (fun w v h => h) (fun A vs w' hF hT hb hd => ?_)
                  have e1 : A.eval (.tmp 173) = .bool true := (hT 173 7 (by simp) rfl).trans (hd ⟨7, .data⟩ (by simp) rfl)
                  exact BigFrame.wp_move _ rfl ⟨_, rfl, e1, Below.refl _ _⟩
                case o9 =>
                  exact GdOp.left rfl ⟨_, _, rfl, rfl, by simp⟩ (by kernel_rfl) (fun w v h => .inl h) (fun w => rfl)
                case o10 =>
                  exact GdOp.left rfl ⟨_, _, rfl, rfl, by simp⟩ (by kernel_rfl) (fun w v h => .inl h) (fun w => rfl)
                case o11 =>
                  exact GdOp.left rfl ⟨_, _, rfl, rfl, by simp⟩ (by kernel_rfl) (fun w v h => .inl h) (fun w => rfl)
                case o12 =>
                  exact GdOp.left rfl ⟨_, _, rfl, rfl, by simp⟩ (by kernel_rfl) (fun w v h => .inr h) (fun w => rfl)
                case o13 =>
                  exact GdOp.left rfl ⟨_, _, rfl, rfl, by simp⟩ (by kernel_rfl) (fun w v h => .inr h) (fun w => rfl)
                case o14 =>
                  exact GdOp.left rfl ⟨_, _, rfl, rfl, by simp⟩ (by kernel_rfl) (fun w v h => .inl h) (fun w => rfl)
                case o15 =>
                  exact GdOp.left rfl ⟨_, _, rfl, rfl, by simp⟩ (by kernel_rfl) (fun w v h => .inl h) (fun w => rfl)
                case o16 =>
                  exact GdOp.left rfl ⟨_, _, rfl, rfl, by simp⟩ (by kernel_rfl) (fun w v h => .inr h) (fun w => rfl)
                case o17 =>
                  exact GdOp.left rfl ⟨_, _, rfl, rfl, by simp⟩ (by kernel_rfl) (fun w v h => .inr h) (fun w => rfl)
                case o18 =>
                  exact GdOp.left rfl ⟨_, _, rfl, rfl, by simp⟩ (by kernel_rfl) (fun w v h => .inr h) (fun w => rfl)
                case o19 =>
                  exact GdOp.left rfl ⟨_, _, rfl, rfl, by simp⟩ (by kernel_rfl) (fun w v h => .inr h) (fun w => rfl)
                case o20 =>
                  exact GdOp.left rfl ⟨_, _, rfl, rfl, by simp⟩ (by kernel_rfl) (fun w v h => .inr h) (fun w => rfl)
                case o21 =>
                  exact GdOp.left rfl ⟨_, _, rfl, rfl, by simp⟩ (by kernel_rfl) (fun w v h => .inr h) (fun w => rfl)
                case o22 =>
                  exact GdOp.left rfl ⟨_, _, rfl, rfl, by simp⟩ (by kernel_rfl) (fun w v h => .inr h) (fun w => rfl)
                case o23 =>
                  exact GdOp.left rfl ⟨_, _, rfl, rfl, by simp⟩ (by kernel_rfl) (fun w v h => .inr h) (fun w => rfl)
                case o24 =>
                  exact GdOp.left rfl ⟨_, _, rfl, rfl, by simp⟩ (by kernel_rfl) (fun w v h => .inr h) (fun w => rfl)
                case o25 =>
                  exact GdOp.left rfl ⟨_, _, rfl, rfl, by simp⟩ (by kernel_rfl) (fun w v h => .inr h) (fun w => rfl)
                case o26 =>
                  exact GdOp.left rfl ⟨_, _, rfl, rfl, by simp⟩ (by kernel_rfl) (fun w v h => .inr h) (fun w => rfl)
                case o27 =>
                  exact GdOp.left rfl ⟨_, _, rfl, rfl, by simp⟩ (by kernel_rfl) (fun w v h => .inr h) (fun w => rfl)
                case o28 =>
                  exact GdOp.left rfl ⟨_, _, rfl, rfl, by simp⟩ (by kernel_rfl) (fun w v h => .inr h) (fun w => rfl)
                case o29 =>
                  exact GdOp.left rfl ⟨_, _, rfl, rfl, by simp⟩ (by kernel_rfl) (fun w v h => .inl h) (fun w => rfl)
                case o30 =>
                  refine GdOp.taken rfl ⟨_, _, rfl, rfl, by simp⟩ (by kernel_rfl) (fun w v h => h) (fun A vs w' hF hT hb hd => ?_)
                  have e1 : A.eval (.tmp 174) = .bool true := (hT 174 8 (by simp) rfl).trans (hd ⟨8, .data⟩ (by simp) rfl)
                  have e3 : A.eval (.tmp 195) = undef := (hT 195 29 (by simp) rfl).trans (hd ⟨29, .data⟩ (by simp) rfl)
                  exact wp_pk rfl e1 (fun _ => rfl) (by simp) ⟨_, rfl, rfl, Below.refl _ _⟩
                case o31 =>
                  refine GdOp.plain rfl (fun A vs w' hF hT hb hd => ?_)
                  have e1 : A.eval (.tmp 167) = .bool true := (hT 167 1 (by simp) rfl).trans (hd ⟨1, .data⟩ (by simp) rfl)
                  have e2 : A.eval (.tmp 196) = .bool true := (hT 196 30 (by simp) rfl).trans (hd ⟨30, .data⟩ (by simp) rfl)
                  exact wp_pk rfl e1 (fun _ => e2) (by simp) ⟨_, rfl, rfl, Below.refl _ _⟩
                case o32 =>
                  refine GdOp.plain rfl (fun A vs w' hF hT hb hd => ?_)
                  have e1 : A.eval (.tmp 197) = .bool true := (hT 197 31 (by simp) rfl).trans (hd ⟨31, .data⟩ (by simp) rfl)
                  exact BigFrame.wp_assign _ rfl ⟨_, rfl, e1, Below.refl _ _⟩
                case fin =>
                  intro A vs w' hA hb hG
                  have e6 : A.eval (.tmp 8) = .bool true := (hA.2.2.2 8 32 (by simp) rfl).trans (hG 32 (by decide))
                  have hdf : A.defers = [] := hA.1
                  clear hG hA
                  go_wp2
                  refine bodyPost_ret (v := .bool true) ?_ hdf ⟨rfl, q.trans (hb.mono q.size)⟩
                  rw [← e6]
                  exact results_tmp rfl _ _ _
              · subst hz1 hz2
                obtain ⟨bo, oo, _, _, A1, C1, eL, _, _, c1, _, r1⟩ := rO.pq j2 hj2
                subst eL
                obtain ⟨bl, ol, _, _, A0, C0, eL, _, _, c0, _, r0⟩ := hL.pq j1 hj1
                subst eL
                refine wp_region_gsa (by kernel_rfl) (by kernel_rfl) [sgEq (.bool true), sgEq (.bool true), sgEq (.int .i64 (j1 : Nat)), sgEq (.bool false), sgEq (.bool false), sgEq undef, sgEq undef, sgEq (.bool false), sgEq (.bool false), sgEq (.int .i64 (j1 : Nat)), sgEq (.bool true), sgEq (.bool true), sgEq (.int .i64 (j2 : Nat)), sgEq (.bool true), sgEq (.bool true), sgEq (.bool true), sgEq (.slice (some ⟨bo, oo, none⟩) (overD d x l).length cO), sgEq (.int .i64 (j2 : Nat)), sgEq (.pointer (some ⟨bo, oo + j2 * 2, none⟩)), sgEq (.pointer (some ⟨bo, oo + j2 * 2 + 1, none⟩)), sgEq (.slice A1 (overD d x l)[j2].val.length C1), sgEq (.string (strOf (overD d x l)[j2].val)), sgEq (.slice (some ⟨bl, ol, none⟩) l.length c2), sgEq (.int .i64 (j1 : Nat)), sgEq (.pointer (some ⟨bl, ol + j1 * 2, none⟩)), sgEq (.pointer (some ⟨bl, ol + j1 * 2 + 1, none⟩)), sgEq (.slice A0 l[j1].val.length C0), sgEq (.string (strOf l[j1].val)), sgEq (.bool true), sgEq (.bool true), sgEq (.bool true), sgEq (.bool true), sgEq (.bool true)]
                  ⟨?o0, ?o1, ?o2, ?o3, ?o4, ?o5, ?o6, ?o7, ?o8, ?o9, ?o10, ?o11, ?o12, ?o13, ?o14, ?o15, ?o16, ?o17, ?o18, ?o19, ?o20, ?o21, ?o22, ?o23, ?o24, ?o25, ?o26, ?o27, ?o28, ?o29, ?o30, ?o31, ?o32, trivial⟩ ?fin
                case o0 =>
                  refine GdOp.plain rfl (fun A vs w' hF hT hb hd => ?_)
                  have e1 : A.eval (.tmp 9) = .bool true := hF 9 rfl
                  exact BigFrame.wp_move _ rfl ⟨_, rfl, e1, Below.refl _ _⟩
                case o1 =>
                  refine GdOp.plain rfl (fun A vs w' hF hT hb hd => ?_)
                  have e1 : A.eval (.tmp 166) = .bool true := (hT 166 0 (by simp) rfl).trans (hd ⟨0, .data⟩ (by simp) rfl)
                  exact BigFrame.wp_move _ rfl ⟨_, rfl, e1, Below.refl _ _⟩
                case o2 =>
                  refine GdOp.taken rfl ⟨_, _, rfl, rfl, by simp⟩ (by kernel_rfl) (fun w v h => h) (fun A vs w' hF hT hb hd => ?_)
                  have e1 : A.eval (.tmp 10) = .int .i64 (j1 : Nat) := hF 10 rfl
                  exact BigFrame.wp_move _ rfl ⟨_, rfl, e1, Below.refl _ _⟩
                case o3 =>
                  refine GdOp.taken rfl ⟨_, _, rfl, rfl, by simp⟩ (by kernel_rfl) (fun w v h => h) (fun A vs w' hF hT hb hd => ?_)
                  have e1 : A.eval (.tmp 168) = .int .i64 (j1 : Nat) := (hT 168 2 (by simp) rfl).trans (hd ⟨2, .data⟩ (by simp) rfl)
                  exact wp_lssI rfl e1 rfl ⟨_, rfl, (congrArg Value.bool (decide_eq_false (by omega))), Below.refl _ _⟩
                case o4 =>
                  refine GdOp.taken rfl ⟨_, _, rfl, rfl, by simp⟩ (by kernel_rfl) (fun w v h => h) (fun A vs w' hF hT hb hd => ?_)
                  have e1 : A.eval (.tmp 169) = .bool false := (hT 169 3 (by simp) rfl).trans (hd ⟨3, .data⟩ (by simp) rfl)
                  exact BigFrame.wp_move _ rfl ⟨_, rfl, e1, Below.refl _ _⟩
                case o5 =>
                  exact GdOp.left rfl ⟨_, _, rfl, rfl, by simp⟩ (by kernel_rfl) (fun w v h => .inl h) (fun w => rfl)
                case o6 =>
                  exact GdOp.left rfl ⟨_, _, rfl, rfl, by simp⟩ (by kernel_rfl) (fun w v h => .inl h) (fun w => rfl)
                case o7 =>
                  refine GdOp.taken rfl ⟨_, _, rfl, rfl, by simp⟩ (by kernel_rfl) (fun w v h => h) (fun A vs w' hF hT hb hd => ?_)
                  have e1 : A.eval (.tmp 170) = .bool false := (hT 170 4 (by simp) rfl).trans (hd ⟨4, .data⟩ (by simp) rfl)
                  have e2 : A.eval (.tmp 172) = undef := (hT 172 6 (by simp) rfl).trans (hd ⟨6, .data⟩ (by simp) rfl)
                  exact wp_pk rfl e1 (by simp) (fun _ => rfl) ⟨_, rfl, rfl, Below.refl _ _⟩
                case o8 =>
                  refine GdOp.taken rfl ⟨_, _, rfl, rfl, by simp⟩ (by kernel_rfl) (fun w v h => h) (fun A vs w' hF hT hb hd => ?_)
                  have e1 : A.eval (.tmp 173) = .bool false := (hT 173 7 (by simp) rfl).trans (hd ⟨7, .data⟩ (by simp) rfl)
                  exact BigFrame.wp_move _ rfl ⟨_, rfl, e1, Below.refl _ _⟩
                case o9 =>
                  refine GdOp.taken rfl ⟨_, _, rfl, rfl, by simp⟩ (by kernel_rfl) (fun w v h => h) (fun A vs w' hF hT hb hd => ?_)
                  have e1 : A.eval (.tmp 10) = .int .i64 (j1 : Nat) := hF 10 rfl
                  exact BigFrame.wp_move _ rfl ⟨_, rfl, e1, Below.refl _ _⟩
                case o10 =>
                  refine GdOp.taken rfl ⟨_, _, rfl, rfl, by simp⟩ (by kernel_rfl) (fun w v h => h) (fun A vs w' hF hT hb hd => ?_)
                  have e1 : A.eval (.tmp 175) = .int .i64 (j1 : Nat) := (hT 175 9 (by simp) rfl).trans (hd ⟨9, .data⟩ (by simp) rfl)
                  exact wp_geqI rfl e1 rfl ⟨_, rfl, (congrArg Value.bool (decide_eq_true (by omega))), Below.refl _ _⟩
                case o11 =>
                  refine GdOp.taken rfl ⟨_, _, rfl, rfl, by simp⟩ (by kernel_rfl) (fun w v h => h) (fun A vs w' hF hT hb hd => ?_)
                  have e1 : A.eval (.tmp 176) = .bool true := (hT 176 10 (by simp) rfl).trans (hd ⟨10, .data⟩ (by simp) rfl)
                  exact BigFrame.wp_move _ rfl ⟨_, rfl, e1, Below.refl _ _⟩
                case o12 =>
                  refine GdOp.taken rfl ⟨_, _, rfl, rfl, by simp⟩ (by kernel_rfl) (fun w v h => h) (fun A vs w' hF hT hb hd => ?_)
                  have e1 : A.eval (.tmp 13) = .int .i64 (j2 : Nat) := hF 13 rfl
                  exact BigFrame.wp_move _ rfl ⟨_, rfl, e1, Below.refl _ _⟩
                case o13 =>
                  refine GdOp.taken rfl ⟨_, _, rfl, rfl, by simp⟩ (by kernel_rfl) (fun w v h => h) (fun A vs w' hF hT hb hd => ?_)
                  have e1 : A.eval (.tmp 178) = .int .i64 (j2 : Nat) := (hT 178 12 (by simp) rfl).trans (hd ⟨12, .data⟩ (by simp) rfl)
                  exact wp_geqI rfl e1 rfl ⟨_, rfl, (congrArg Value.bool (decide_eq_true (by omega))), Below.refl _ _⟩
                case o14 =>
                  refine GdOp.taken rfl ⟨_, _, rfl, rfl, by simp⟩ (by kernel_rfl) (fun w v h => h) (fun A vs w' hF hT hb hd => ?_)
                  have e1 : A.eval (.tmp 177) = .bool true := (hT 177 11 (by simp) rfl).trans (hd ⟨11, .data⟩ (by simp) rfl)
                  have e2 : A.eval (.tmp 179) = .bool true := (hT 179 13 (by simp) rfl).trans (hd ⟨13, .data⟩ (by simp) rfl)
                  exact wp_pk rfl e1 (fun _ => e2) (by simp) ⟨_, rfl, rfl, Below.refl _ _⟩
                case o15 =>
                  refine GdOp.taken rfl ⟨_, _, rfl, rfl, by simp⟩ (by kernel_rfl) (fun w v h => h) (fun A vs w' hF hT hb hd => ?_)
                  have e1 : A.eval (.tmp 180) = .bool true := (hT 180 14 (by simp) rfl).trans (hd ⟨14, .data⟩ (by simp) rfl)
                  exact BigFrame.wp_move _ rfl ⟨_, rfl, e1, Below.refl _ _⟩
                case o16 =>
                  refine GdOp.taken rfl ⟨_, _, rfl, rfl, by simp⟩ (by kernel_rfl) (fun w v h => h) (fun A vs w' hF hT hb hd => ?_)
                  have e1 : A.eval (.tmp 12) = .slice (some ⟨bo, oo, none⟩) (overD d x l).length cO := hF 12 rfl
                  exact BigFrame.wp_move _ rfl ⟨_, rfl, e1, Below.refl _ _⟩
                case o17 =>
                  refine GdOp.taken rfl ⟨_, _, rfl, rfl, by simp⟩ (by kernel_rfl) (fun w v h => h) (fun A vs w' hF hT hb hd => ?_)
                  have e1 : A.eval (.tmp 13) = .int .i64 (j2 : Nat) := hF 13 rfl
                  exact BigFrame.wp_move _ rfl ⟨_, rfl, e1, Below.refl _ _⟩
                case o18 =>
                  refine GdOp.taken rfl ⟨_, _, rfl, rfl, by simp⟩ (by kernel_rfl) (fun w v h => h) (fun A vs w' hF hT hb hd => ?_)
                  have e1 : A.eval (.tmp 182) = .slice (some ⟨bo, oo, none⟩) (overD d x l).length cO := (hT 182 16 (by simp) rfl).trans (hd ⟨16, .data⟩ (by simp) rfl)
                  have e2 : A.eval (.tmp 183) = .int .i64 (j2 : Nat) := (hT 183 17 (by simp) rfl).trans (hd ⟨17, .data⟩ (by simp) rfl)
                  exact wp_ixN (e := 53) rfl (by kernel_rfl) (by kernel_rfl) (e1) (e2) (by omega) (by omega) ⟨_, rfl, rfl, Below.refl _ _⟩
                case o19 =>
                  refine GdOp.taken rfl ⟨_, _, rfl, rfl, by simp⟩ (by kernel_rfl) (fun w v h => h) (fun A vs w' hF hT hb hd => ?_)
                  have e1 : A.eval (.tmp 184) = .pointer (some ⟨bo, oo + j2 * 2, none⟩) := (hT 184 18 (by simp) rfl).trans (hd ⟨18, .data⟩ (by simp) rfl)
                  exact wp_fieldN pqS rfl (e1) (by omega) ⟨_, rfl, rfl, Below.refl _ _⟩
                case o20 =>
                  refine GdOp.taken rfl ⟨_, _, rfl, rfl, by simp⟩ (by kernel_rfl) (fun w v h => h) (fun A vs w' hF hT hb hd => ?_)
                  have e1 : A.eval (.tmp 185) = .pointer (some ⟨bo, oo + j2 * 2 + 1, none⟩) := (hT 185 19 (by simp) rfl).trans (hd ⟨19, .data⟩ (by simp) rfl)
                  exact wp_ld_slice (e := 5) rfl e1 (by kernel_rfl) (((hb.cell (p := ⟨_, _, none⟩) (cell_lt c1)).trans c1)) ⟨_, rfl, rfl, Below.refl _ _⟩
                case o21 =>
                  refine GdOp.taken rfl ⟨_, _, rfl, rfl, by simp⟩ (by kernel_rfl) (fun w v h => h) (fun A vs w' hF hT hb hd => ?_)
                  have e1 : A.eval (.tmp 186) = .slice A1 (overD d x l)[j2].val.length C1 := (hT 186 20 (by simp) rfl).trans (hd ⟨20, .data⟩ (by simp) rfl)
                  exact wp_conv byP rfl e1 (r1.below hb).rd ⟨_, rfl, rfl, Below.refl _ _⟩
                case o22 =>
                  refine GdOp.taken rfl ⟨_, _, rfl, rfl, by simp⟩ (by kernel_rfl) (fun w v h => h) (fun A vs w' hF hT hb hd => ?_)
                  have e1 : A.eval (.tmp 2) = .slice (some ⟨bl, ol, none⟩) l.length c2 := hF 2 rfl
                  exact BigFrame.wp_move _ rfl ⟨_, rfl, e1, Below.refl _ _⟩
                case o23 =>
                  refine GdOp.taken rfl ⟨_, _, rfl, rfl, by simp⟩ (by kernel_rfl) (fun w v h => h) (fun A vs w' hF hT hb hd => ?_)
                  have e1 : A.eval (.tmp 10) = .int .i64 (j1 : Nat) := hF 10 rfl
                  exact BigFrame.wp_move _ rfl ⟨_, rfl, e1, Below.refl _ _⟩
                case o24 =>
                  refine GdOp.taken rfl ⟨_, _, rfl, rfl, by simp⟩ (by kernel_rfl) (fun w v h => h) (fun A vs w' hF hT hb hd => ?_)
                  have e1 : A.eval (.tmp 188) = .slice (some ⟨bl, ol, none⟩) l.length c2 := (hT 188 22 (by simp) rfl).trans (hd ⟨22, .data⟩ (by simp) rfl)
                  have e2 : A.eval (.tmp 189) = .int .i64 (j1 : Nat) := (hT 189 23 (by simp) rfl).trans (hd ⟨23, .data⟩ (by simp) rfl)
                  exact wp_ixN (e := 53) rfl (by kernel_rfl) (by kernel_rfl) (e1) (e2) (by omega) (by omega) ⟨_, rfl, rfl, Below.refl _ _⟩
                case o25 =>
                  refine GdOp.taken rfl ⟨_, _, rfl, rfl, by simp⟩ (by kernel_rfl) (fun w v h => h) (fun A vs w' hF hT hb hd => ?_)
                  have e1 : A.eval (.tmp 190) = .pointer (some ⟨bl, ol + j1 * 2, none⟩) := (hT 190 24 (by simp) rfl).trans (hd ⟨24, .data⟩ (by simp) rfl)
                  exact wp_fieldN pqS rfl (e1) (by omega) ⟨_, rfl, rfl, Below.refl _ _⟩
                case o26 =>
                  refine GdOp.taken rfl ⟨_, _, rfl, rfl, by simp⟩ (by kernel_rfl) (fun w v h => h) (fun A vs w' hF hT hb hd => ?_)
                  have e1 : A.eval (.tmp 191) = .pointer (some ⟨bl, ol + j1 * 2 + 1, none⟩) := (hT 191 25 (by simp) rfl).trans (hd ⟨25, .data⟩ (by simp) rfl)
                  exact wp_ld_slice (e := 5) rfl e1 (by kernel_rfl) (((hb.cell (p := ⟨_, _, none⟩) (cell_lt c0)).trans c0)) ⟨_, rfl, rfl, Below.refl _ _⟩
                case o27 =>
                  refine GdOp.taken rfl ⟨_, _, rfl, rfl, by simp⟩ (by kernel_rfl) (fun w v h => h) (fun A vs w' hF hT hb hd => ?_)
                  have e1 : A.eval (.tmp 192) = .slice A0 l[j1].val.length C0 := (hT 192 26 (by simp) rfl).trans (hd ⟨26, .data⟩ (by simp) rfl)
                  exact wp_conv byP rfl e1 (r0.below hb).rd ⟨_, rfl, rfl, Below.refl _ _⟩
                case o28 =>
                  refine GdOp.taken rfl ⟨_, _, rfl, rfl, by simp⟩ (by kernel_rfl) (fun w v h => h) (fun A vs w' hF hT hb hd => ?_)
                  have e1 : A.eval (.tmp 187) = .string (strOf (overD d x l)[j2].val) := (hT 187 21 (by simp) rfl).trans (hd ⟨21, .data⟩ (by simp) rfl)
                  have e2 : A.eval (.tmp 193) = .string (strOf l[j1].val) := (hT 193 27 (by simp) rfl).trans (hd ⟨27, .data⟩ (by simp) rfl)
                  exact wp_eqlS rfl e1 e2 ⟨_, rfl, (congrArg Value.bool (decide_eq_true hv)), Below.refl _ _⟩
                case o29 =>
                  refine GdOp.taken rfl ⟨_, _, rfl, rfl, by simp⟩ (by kernel_rfl) (fun w v h => h) (fun A vs w' hF hT hb hd => ?_)
                  have e1 : A.eval (.tmp 181) = .bool true := (hT 181 15 (by simp) rfl).trans (hd ⟨15, .data⟩ (by simp) rfl)
                  have e2 : A.eval (.tmp 194) = .bool true := (hT 194 28 (by simp) rfl).trans (hd ⟨28, .data⟩ (by simp) rfl)
                  exact wp_pk rfl e1 (fun _ => e2) (by simp) ⟨_, rfl, rfl, Below.refl _ _⟩
                case o30 =>
                  refine GdOp.taken rfl ⟨_, _, rfl, rfl, by simp⟩ (by kernel_rfl) (fun w v h => h) (fun A vs w' hF hT hb hd => ?_)
                  have e1 : A.eval (.tmp 174) = .bool false := (hT 174 8 (by simp) rfl).trans (hd ⟨8, .data⟩ (by simp) rfl)
                  have e3 : A.eval (.tmp 195) = .bool true := (hT 195 29 (by simp) rfl).trans (hd ⟨29, .data⟩ (by simp) rfl)
                  exact wp_pk rfl e1 (by simp) (fun _ => e3) ⟨_, rfl, rfl, Below.refl _ _⟩
                case o31 =>
                  refine GdOp.plain rfl (fun A vs w' hF hT hb hd => ?_)
                  have e1 : A.eval (.tmp 167) = .bool true := (hT 167 1 (by simp) rfl).trans (hd ⟨1, .data⟩ (by simp) rfl)
                  have e2 : A.eval (.tmp 196) = .bool true := (hT 196 30 (by simp) rfl).trans (hd ⟨30, .data⟩ (by simp) rfl)
                  exact wp_pk rfl e1 (fun _ => e2) (by simp) ⟨_, rfl, rfl, Below.refl _ _⟩
                case o32 =>
                  refine GdOp.plain rfl (fun A vs w' hF hT hb hd => ?_)
                  have e1 : A.eval (.tmp 197) = .bool true := (hT 197 31 (by simp) rfl).trans (hd ⟨31, .data⟩ (by simp) rfl)
                  exact BigFrame.wp_assign _ rfl ⟨_, rfl, e1, Below.refl _ _⟩
                case fin =>
                  intro A vs w' hA hb hG
                  have e6 : A.eval (.tmp 8) = .bool true := (hA.2.2.2 8 32 (by simp) rfl).trans (hG 32 (by decide))
                  have hdf : A.defers = [] := hA.1
                  clear hG hA
                  go_wp2
                  refine bodyPost_ret (v := .bool true) ?_ hdf ⟨rfl, q.trans (hb.mono q.size)⟩
                  rw [← e6]
                  exact results_tmp rfl _ _ _
            | true =>
              cases hg : fw.gone with
              | false =>
                have hE : findE Pq.key key (overD d x l) = some ⟨key, fw.val⟩ := by
                  have h := hoe2.out
                  rw [hin] at h
                  rw [h]
                  simp [hg, ovF]
                obtain ⟨j2, hz2, hj2, hv⟩ := fin_some hE hso.out hfi.out
                subst hz2
                rw [hg] at xA
                go_upto_region 23 with (fail)
                obtain ⟨bo, oo, _, _, A1, C1, eL, _, _, c1, _, r1⟩ := rO.pq j2 hj2
                subst eL
                refine wp_region_gsa (by kernel_rfl) (by kernel_rfl) [sgEq (.bool true), sgEq (.bool true), sgEq (.pointer (some ⟨w8.heap.size, 0 + 2, none⟩)), sgEq (.bool false), sgEq (.bool false), sgEq undef, sgEq undef, sgEq (.bool false), sgEq (.bool false), sgEq (.pointer (some ⟨w8.heap.size, 0 + 2, none⟩)), sgEq (.bool false), sgEq (.bool true), sgEq (.bool true), sgEq (.int .i64 (j2 : Nat)), sgEq (.bool true), sgEq (.bool true), sgEq (.bool true), sgEq (.slice (some ⟨bo, oo, none⟩) (overD d x l).length cO), sgEq (.int .i64 (j2 : Nat)), sgEq (.pointer (some ⟨bo, oo + j2 * 2, none⟩)), sgEq (.pointer (some ⟨bo, oo + j2 * 2 + 1, none⟩)), sgEq (.slice A1 (overD d x l)[j2].val.length C1), sgEq (.string (strOf (overD d x l)[j2].val)), sgEq (.pointer (some ⟨w8.heap.size, 0 + 3, none⟩)), sgEq (.slice mA fw.val.length nA), sgEq (.string (strOf fw.val)), sgEq (.bool true), sgEq (.bool true), sgEq (.bool true), sgEq (.bool true), sgEq (.bool true)]
                  ⟨?o0, ?o1, ?o2, ?o3, ?o4, ?o5, ?o6, ?o7, ?o8, ?o9, ?o10, ?o11, ?o12, ?o13, ?o14, ?o15, ?o16, ?o17, ?o18, ?o19, ?o20, ?o21, ?o22, ?o23, ?o24, ?o25, ?o26, ?o27, ?o28, ?o29, ?o30, trivial⟩ ?fin
                case o0 =>
                  refine GdOp.plain rfl (fun A vs w' hF hT hb hd => ?_)
                  have e1 : A.eval (.tmp 9) = .bool true := hF 9 rfl
                  exact BigFrame.wp_move _ rfl ⟨_, rfl, e1, Below.refl _ _⟩
                case o1 =>
                  refine GdOp.plain rfl (fun A vs w' hF hT hb hd => ?_)
                  have e1 : A.eval (.tmp 136) = .bool true := (hT 136 0 (by simp) rfl).trans (hd ⟨0, .data⟩ (by simp) rfl)
                  exact BigFrame.wp_move _ rfl ⟨_, rfl, e1, Below.refl _ _⟩
                case o2 =>
                  refine GdOp.taken rfl ⟨_, _, rfl, rfl, by simp⟩ (by kernel_rfl) (fun w v h => h) (fun A vs w' hF hT hb hd => ?_)
                  have e1 : A.eval (.tmp 15) = .pointer (some ⟨w8.heap.size, 0, none⟩) := hF 15 rfl
                  exact wp_fieldN wrS rfl (e1) (by omega) ⟨_, rfl, rfl, Below.refl _ _⟩
                case o3 =>
                  refine GdOp.taken rfl ⟨_, _, rfl, rfl, by simp⟩ (by kernel_rfl) (fun w v h => h) (fun A vs w' hF hT hb hd => ?_)
                  have e1 : A.eval (.tmp 138) = .pointer (some ⟨w8.heap.size, 0 + 2, none⟩) := (hT 138 2 (by simp) rfl).trans (hd ⟨2, .data⟩ (by simp) rfl)
                  exact wp_ld_bool  rfl e1 (by kernel_rfl) (((xA.below hb xA.lt).cell (i := 2) rfl)) ⟨_, rfl, rfl, Below.refl _ _⟩
                case o4 =>
                  refine GdOp.taken rfl ⟨_, _, rfl, rfl, by simp⟩ (by kernel_rfl) (fun w v h => h) (fun A vs w' hF hT hb hd => ?_)
                  have e1 : A.eval (.tmp 139) = .bool false := (hT 139 3 (by simp) rfl).trans (hd ⟨3, .data⟩ (by simp) rfl)
                  exact BigFrame.wp_move _ rfl ⟨_, rfl, e1, Below.refl _ _⟩
                case o5 =>
                  exact GdOp.left rfl ⟨_, _, rfl, rfl, by simp⟩ (by kernel_rfl) (fun w v h => .inl h) (fun w => rfl)
                case o6 =>
                  exact GdOp.left rfl ⟨_, _, rfl, rfl, by simp⟩ (by kernel_rfl) (fun w v h => .inl h) (fun w => rfl)
                case o7 =>
                  refine GdOp.taken rfl ⟨_, _, rfl, rfl, by simp⟩ (by kernel_rfl) (fun w v h => h) (fun A vs w' hF hT hb hd => ?_)
                  have e1 : A.eval (.tmp 140) = .bool false := (hT 140 4 (by simp) rfl).trans (hd ⟨4, .data⟩ (by simp) rfl)
                  have e2 : A.eval (.tmp 142) = undef := (hT 142 6 (by simp) rfl).trans (hd ⟨6, .data⟩ (by simp) rfl)
                  exact wp_pk rfl e1 (by simp) (fun _ => rfl) ⟨_, rfl, rfl, Below.refl _ _⟩
                case o8 =>
                  refine GdOp.taken rfl ⟨_, _, rfl, rfl, by simp⟩ (by kernel_rfl) (fun w v h => h) (fun A vs w' hF hT hb hd => ?_)
                  have e1 : A.eval (.tmp 143) = .bool false := (hT 143 7 (by simp) rfl).trans (hd ⟨7, .data⟩ (by simp) rfl)
                  exact BigFrame.wp_move _ rfl ⟨_, rfl, e1, Below.refl _ _⟩
                case o9 =>
                  refine GdOp.taken rfl ⟨_, _, rfl, rfl, by simp⟩ (by kernel_rfl) (fun w v h => h) (fun A vs w' hF hT hb hd => ?_)
                  have e1 : A.eval (.tmp 15) = .pointer (some ⟨w8.heap.size, 0, none⟩) := hF 15 rfl
                  exact wp_fieldN wrS rfl (e1) (by omega) ⟨_, rfl, rfl, Below.refl _ _⟩
                case o10 =>
                  refine GdOp.taken rfl ⟨_, _, rfl, rfl, by simp⟩ (by kernel_rfl) (fun w v h => h) (fun A vs w' hF hT hb hd => ?_)
                  have e1 : A.eval (.tmp 145) = .pointer (some ⟨w8.heap.size, 0 + 2, none⟩) := (hT 145 9 (by simp) rfl).trans (hd ⟨9, .data⟩ (by simp) rfl)
                  exact wp_ld_bool  rfl e1 (by kernel_rfl) (((xA.below hb xA.lt).cell (i := 2) rfl)) ⟨_, rfl, rfl, Below.refl _ _⟩
                case o11 =>
                  refine GdOp.taken rfl ⟨_, _, rfl, rfl, by simp⟩ (by kernel_rfl) (fun w v h => h) (fun A vs w' hF hT hb hd => ?_)
                  have e1 : A.eval (.tmp 146) = .bool false := (hT 146 10 (by simp) rfl).trans (hd ⟨10, .data⟩ (by simp) rfl)
                  exact wp_notB rfl e1 ⟨_, rfl, rfl, Below.refl _ _⟩
                case o12 =>
                  refine GdOp.taken rfl ⟨_, _, rfl, rfl, by simp⟩ (by kernel_rfl) (fun w v h => h) (fun A vs w' hF hT hb hd => ?_)
                  have e1 : A.eval (.tmp 147) = .bool true := (hT 147 11 (by simp) rfl).trans (hd ⟨11, .data⟩ (by simp) rfl)
                  exact BigFrame.wp_move _ rfl ⟨_, rfl, e1, Below.refl _ _⟩
                case o13 =>
                  refine GdOp.taken rfl ⟨_, _, rfl, rfl, by simp⟩ (by kernel_rfl) (fun w v h => h) (fun A vs w' hF hT hb hd => ?_)
                  have e1 : A.eval (.tmp 13) = .int .i64 (j2 : Nat) := hF 13 rfl
                  exact BigFrame.wp_move _ rfl ⟨_, rfl, e1, Below.refl _ _⟩
                case o14 =>
                  refine GdOp.taken rfl ⟨_, _, rfl, rfl, by simp⟩ (by kernel_rfl) (fun w v h => h) (fun A vs w' hF hT hb hd => ?_)
                  have e1 : A.eval (.tmp 149) = .int .i64 (j2 : Nat) := (hT 149 13 (by simp) rfl).trans (hd ⟨13, .data⟩ (by simp) rfl)
                  exact wp_geqI rfl e1 rfl ⟨_, rfl, (congrArg Value.bool (decide_eq_true (by omega))), Below.refl _ _⟩
                case o15 =>
                  refine GdOp.taken rfl ⟨_, _, rfl, rfl, by simp⟩ (by kernel_rfl) (fun w v h => h) (fun A vs w' hF hT hb hd => ?_)
                  have e1 : A.eval (.tmp 148) = .bool true := (hT 148 12 (by simp) rfl).trans (hd ⟨12, .data⟩ (by simp) rfl)
                  have e2 : A.eval (.tmp 150) = .bool true := (hT 150 14 (by simp) rfl).trans (hd ⟨14, .data⟩ (by simp) rfl)
                  exact wp_pk rfl e1 (fun _ => e2) (by simp) ⟨_, rfl, rfl, Below.refl _ _⟩
                case o16 =>
                  refine GdOp.taken rfl ⟨_, _, rfl, rfl, by simp⟩ (by kernel_rfl) (fun w v h => h) (fun A vs w' hF hT hb hd => ?_)
                  have e1 : A.eval (.tmp 151) = .bool true := (hT 151 15 (by simp) rfl).trans (hd ⟨15, .data⟩ (by simp) rfl)
                  exact BigFrame.wp_move _ rfl ⟨_, rfl, e1, Below.refl _ _⟩
                case o17 =>
                  refine GdOp.taken rfl ⟨_, _, rfl, rfl, by simp⟩ (by kernel_rfl) (fun w v h => h) (fun A vs w' hF hT hb hd => ?_)
                  have e1 : A.eval (.tmp 12) = .slice (some ⟨bo, oo, none⟩) (overD d x l).length cO := hF 12 rfl
                  exact BigFrame.wp_move _ rfl ⟨_, rfl, e1, Below.refl _ _⟩
                case o18 =>
                  refine GdOp.taken rfl ⟨_, _, rfl, rfl, by simp⟩ (by kernel_rfl) (fun w v h => h) (fun A vs w' hF hT hb hd => ?_)
                  have e1 : A.eval (.tmp 13) = .int .i64 (j2 : Nat) := hF 13 rfl
                  exact BigFrame.wp_move _ rfl ⟨_, rfl, e1, Below.refl _ _⟩
                case o19 =>
                  refine GdOp.taken rfl ⟨_, _, rfl, rfl, by simp⟩ (by kernel_rfl) (fun w v h => h) (fun A vs w' hF hT hb hd => ?_)
                  have e1 : A.eval (.tmp 153) = .slice (some ⟨bo, oo, none⟩) (overD d x l).length cO := (hT 153 17 (by simp) rfl).trans (hd ⟨17, .data⟩ (by simp) rfl)
                  have e2 : A.eval (.tmp 154) = .int .i64 (j2 : Nat) := (hT 154 18 (by simp) rfl).trans (hd ⟨18, .data⟩ (by simp) rfl)
                  exact wp_ixN (e := 53) rfl (by kernel_rfl) (by kernel_rfl) (e1) (e2) (by omega) (by omega) ⟨_, rfl, rfl, Below.refl _ _⟩
                case o20 =>
                  refine GdOp.taken rfl ⟨_, _, rfl, rfl, by simp⟩ (by kernel_rfl) (fun w v h => h) (fun A vs w' hF hT hb hd => ?_)
                  have e1 : A.eval (.tmp 155) = .pointer (some ⟨bo, oo + j2 * 2, none⟩) := (hT 155 19 (by simp) rfl).trans (hd ⟨19, .data⟩ (by simp) rfl)
                  exact wp_fieldN pqS rfl (e1) (by omega) ⟨_, rfl, rfl, Below.refl _ _⟩
                case o21 =>
                  refine GdOp.taken rfl ⟨_, _, rfl, rfl, by simp⟩ (by kernel_rfl) (fun w v h => h) (fun A vs w' hF hT hb hd => ?_)
                  have e1 : A.eval (.tmp 156) = .pointer (some ⟨bo, oo + j2 * 2 + 1, none⟩) := (hT 156 20 (by simp) rfl).trans (hd ⟨20, .data⟩ (by simp) rfl)
                  exact wp_ld_slice (e := 5) rfl e1 (by kernel_rfl) (((hb.cell (p := ⟨_, _, none⟩) (cell_lt c1)).trans c1)) ⟨_, rfl, rfl, Below.refl _ _⟩
                case o22 =>
                  refine GdOp.taken rfl ⟨_, _, rfl, rfl, by simp⟩ (by kernel_rfl) (fun w v h => h) (fun A vs w' hF hT hb hd => ?_)
                  have e1 : A.eval (.tmp 157) = .slice A1 (overD d x l)[j2].val.length C1 := (hT 157 21 (by simp) rfl).trans (hd ⟨21, .data⟩ (by simp) rfl)
                  exact wp_conv byP rfl e1 (r1.below hb).rd ⟨_, rfl, rfl, Below.refl _ _⟩
                case o23 =>
                  refine GdOp.taken rfl ⟨_, _, rfl, rfl, by simp⟩ (by kernel_rfl) (fun w v h => h) (fun A vs w' hF hT hb hd => ?_)
                  have e1 : A.eval (.tmp 15) = .pointer (some ⟨w8.heap.size, 0, none⟩) := hF 15 rfl
                  exact wp_fieldN wrS rfl (e1) (by omega) ⟨_, rfl, rfl, Below.refl _ _⟩
                case o24 =>
                  refine GdOp.taken rfl ⟨_, _, rfl, rfl, by simp⟩ (by kernel_rfl) (fun w v h => h) (fun A vs w' hF hT hb hd => ?_)
                  have e1 : A.eval (.tmp 159) = .pointer (some ⟨w8.heap.size, 0 + 3, none⟩) := (hT 159 23 (by simp) rfl).trans (hd ⟨23, .data⟩ (by simp) rfl)
                  exact wp_ld_slice (e := 5) rfl e1 (by kernel_rfl) (((xA.below hb xA.lt).cell (i := 3) rfl)) ⟨_, rfl, rfl, Below.refl _ _⟩
                case o25 =>
                  refine GdOp.taken rfl ⟨_, _, rfl, rfl, by simp⟩ (by kernel_rfl) (fun w v h => h) (fun A vs w' hF hT hb hd => ?_)
                  have e1 : A.eval (.tmp 160) = .slice mA fw.val.length nA := (hT 160 24 (by simp) rfl).trans (hd ⟨24, .data⟩ (by simp) rfl)
                  exact wp_conv byP rfl e1 (rvA.below hb).rd ⟨_, rfl, rfl, Below.refl _ _⟩
                case o26 =>
                  refine GdOp.taken rfl ⟨_, _, rfl, rfl, by simp⟩ (by kernel_rfl) (fun w v h => h) (fun A vs w' hF hT hb hd => ?_)
                  have e1 : A.eval (.tmp 158) = .string (strOf (overD d x l)[j2].val) := (hT 158 22 (by simp) rfl).trans (hd ⟨22, .data⟩ (by simp) rfl)
                  have e2 : A.eval (.tmp 161) = .string (strOf fw.val) := (hT 161 25 (by simp) rfl).trans (hd ⟨25, .data⟩ (by simp) rfl)
                  exact wp_eqlS rfl e1 e2 ⟨_, rfl, (congrArg Value.bool (decide_eq_true hv)), Below.refl _ _⟩
                case o27 =>
                  refine GdOp.taken rfl ⟨_, _, rfl, rfl, by simp⟩ (by kernel_rfl) (fun w v h => h) (fun A vs w' hF hT hb hd => ?_)
                  have e1 : A.eval (.tmp 152) = .bool true := (hT 152 16 (by simp) rfl).trans (hd ⟨16, .data⟩ (by simp) rfl)
                  have e2 : A.eval (.tmp 162) = .bool true := (hT 162 26 (by simp) rfl).trans (hd ⟨26, .data⟩ (by simp) rfl)
                  exact wp_pk rfl e1 (fun _ => e2) (by simp) ⟨_, rfl, rfl, Below.refl _ _⟩
                case o28 =>
                  refine GdOp.taken rfl ⟨_, _, rfl, rfl, by simp⟩ (by kernel_rfl) (fun w v h => h) (fun A vs w' hF hT hb hd => ?_)
                  have e1 : A.eval (.tmp 144) = .bool false := (hT 144 8 (by simp) rfl).trans (hd ⟨8, .data⟩ (by simp) rfl)
                  have e3 : A.eval (.tmp 163) = .bool true := (hT 163 27 (by simp) rfl).trans (hd ⟨27, .data⟩ (by simp) rfl)
                  exact wp_pk rfl e1 (by simp) (fun _ => e3) ⟨_, rfl, rfl, Below.refl _ _⟩
                case o29 =>
                  refine GdOp.plain rfl (fun A vs w' hF hT hb hd => ?_)
                  have e1 : A.eval (.tmp 137) = .bool true := (hT 137 1 (by simp) rfl).trans (hd ⟨1, .data⟩ (by simp) rfl)
                  have e2 : A.eval (.tmp 164) = .bool true := (hT 164 28 (by simp) rfl).trans (hd ⟨28, .data⟩ (by simp) rfl)
                  exact wp_pk rfl e1 (fun _ => e2) (by simp) ⟨_, rfl, rfl, Below.refl _ _⟩
                case o30 =>
                  refine GdOp.plain rfl (fun A vs w' hF hT hb hd => ?_)
                  have e1 : A.eval (.tmp 165) = .bool true := (hT 165 29 (by simp) rfl).trans (hd ⟨29, .data⟩ (by simp) rfl)
                  exact BigFrame.wp_assign _ rfl ⟨_, rfl, e1, Below.refl _ _⟩
                case fin =>
                  intro A vs w' hA hb hG
                  have e6 : A.eval (.tmp 8) = .bool true := (hA.2.2.2 8 30 (by simp) rfl).trans (hG 30 (by decide))
                  have hdf : A.defers = [] := hA.1
                  clear hG hA
                  go_wp2
                  refine bodyPost_ret (v := .bool true) ?_ hdf ⟨rfl, q.trans (hb.mono q.size)⟩
                  rw [← e6]
                  exact results_tmp rfl _ _ _
              | true =>
                have hE : findE Pq.key key (overD d x l) = none := by
                  have h := hoe2.out
                  rw [hin] at h
                  rw [h]
                  simp [hg, ovF]
                have hz2 := fin_none hE hfi.out
                subst hz2
                rw [hg] at xA
                go_upto_region 23 with (fail)
                refine wp_region_gsa (by kernel_rfl) (by kernel_rfl) [sgEq (.bool true), sgEq (.bool true), sgEq (.pointer (some ⟨w8.heap.size, 0 + 2, none⟩)), sgEq (.bool true), sgEq (.bool true), sgEq (.int .i64 (-1)), sgEq (.bool true), sgEq (.bool true), sgEq (.bool true), sgEq undef, sgEq undef, sgEq undef, sgEq undef, sgEq undef, sgEq undef, sgEq undef, sgEq undef, sgEq undef, sgEq undef, sgEq undef, sgEq undef, sgEq undef, sgEq undef, sgEq undef, sgEq undef, sgEq undef, sgEq undef, sgEq undef, sgEq (.bool true), sgEq (.bool true), sgEq (.bool true)]
                  ⟨?o0, ?o1, ?o2, ?o3, ?o4, ?o5, ?o6, ?o7, ?o8, ?o9, ?o10, ?o11, ?o12, ?o13, ?o14, ?o15, ?o16, ?o17, ?o18, ?o19, ?o20, ?o21, ?o22, ?o23, ?o24, ?o25, ?o26, ?o27, ?o28, ?o29, ?o30, trivial⟩ ?fin
                case o0 =>
                  refine GdOp.plain rfl (fun A vs w' hF hT hb hd => ?_)
                  have e1 : A.eval (.tmp 9) = .bool true := hF 9 rfl
                  exact BigFrame.wp_move _ rfl ⟨_, rfl, e1, Below.refl _ _⟩
                case o1 =>
                  refine GdOp.plain rfl (fun A vs w' hF hT hb hd => ?_)
                  have e1 : A.eval (.tmp 136) = .bool true := (hT 136 0 (by simp) rfl).trans (hd ⟨0, .data⟩ (by simp) rfl)
                  exact BigFrame.wp_move _ rfl ⟨_, rfl, e1, Below.refl _ _⟩
                case o2 =>
                  refine GdOp.taken rfl ⟨_, _, rfl, rfl, by simp⟩ (by kernel_rfl) (fun w v h => h) (fun A vs w' hF hT hb hd => ?_)
                  have e1 : A.eval (.tmp 15) = .pointer (some ⟨w8.heap.size, 0, none⟩) := hF 15 rfl
                  exact wp_fieldN wrS rfl (e1) (by omega) ⟨_, rfl, rfl, Below.refl _ _⟩
                case o3 =>
                  refine GdOp.taken rfl ⟨_, _, rfl, rfl, by simp⟩ (by kernel_rfl) (fun w v h => h) (fun A vs w' hF hT hb hd => ?_)
                  have e1 : A.eval (.tmp 138) = .pointer (some ⟨w8.heap.size, 0 + 2, none⟩) := (hT 138 2 (by simp) rfl).trans (hd ⟨2, .data⟩ (by simp) rfl)
                  exact wp_ld_bool  rfl e1 (by kernel_rfl) (((xA.below hb xA.lt).cell (i := 2) rfl)) ⟨_, rfl, rfl, Below.refl _ _⟩
                case o4 =>
                  refine GdOp.taken rfl ⟨_, _, rfl, rfl, by simp⟩ (by kernel_rfl) (fun w v h => h) (fun A vs w' hF hT hb hd => ?_)
                  have e1 : A.eval (.tmp 139) = .bool true := (hT 139 3 (by simp) rfl).trans (hd ⟨3, .data⟩ (by simp) rfl)
                  exact BigFrame.wp_move _ rfl ⟨_, rfl, e1, Below.refl _ _⟩
                case o5 =>
                  refine GdOp.taken rfl ⟨_, _, rfl, rfl, by simp⟩ (by kernel_rfl) (fun w v h => h) (fun A vs w' hF hT hb hd => ?_)
                  have e1 : A.eval (.tmp 13) = .int .i64 (-1) := hF 13 rfl
                  exact BigFrame.wp_move _ rfl ⟨_, rfl, e1, Below.refl _ _⟩
                case o6 =>
                  refine GdOp.taken rfl ⟨_, _, rfl, rfl, by simp⟩ (by kernel_rfl) (fun w v h => h) (fun A vs w' hF hT hb hd => ?_)
                  have e1 : A.eval (.tmp 141) = .int .i64 (-1) := (hT 141 5 (by simp) rfl).trans (hd ⟨5, .data⟩ (by simp) rfl)
                  exact wp_lssI rfl e1 rfl ⟨_, rfl, (congrArg Value.bool (decide_eq_true (by omega))), Below.refl _ _⟩
                case o7 =>
                  refine GdOp.taken rfl ⟨_, _, rfl, rfl, by simp⟩ (by kernel_rfl) (fun w v h => h) (fun A vs w' hF hT hb hd => ?_)
                  have e1 : A.eval (.tmp 140) = .bool true := (hT 140 4 (by simp) rfl).trans (hd ⟨4, .data⟩ (by simp) rfl)
                  have e2 : A.eval (.tmp 142) = .bool true := (hT 142 6 (by simp) rfl).trans (hd ⟨6, .data⟩ (by simp) rfl)
                  exact wp_pk rfl e1 (fun _ => e2) (by simp) ⟨_, rfl, rfl, Below.refl _ _⟩
                case o8 =>
                  refine GdOp.taken rfl ⟨_, _, rfl, rfl, by simp⟩ (by kernel_rfl) (fun w v h => h) (fun A vs w' hF hT hb hd => ?_)
                  have e1 : A.eval (.tmp 143) = .bool true := (hT 143 7 (by simp) rfl).trans (hd ⟨7, .data⟩ (by simp) rfl)
                  exact BigFrame.wp_move _ rfl ⟨_, rfl, e1, Below.refl _ _⟩
                case o9 =>
                  exact GdOp.left rfl ⟨_, _, rfl, rfl, by simp⟩ (by kernel_rfl) (fun w v h => .inl h) (fun w => rfl)
                case o10 =>
                  exact GdOp.left rfl ⟨_, _, rfl, rfl, by simp⟩ (by kernel_rfl) (fun w v h => .inl h) (fun w => rfl)
                case o11 =>
                  exact GdOp.left rfl ⟨_, _, rfl, rfl, by simp⟩ (by kernel_rfl) (fun w v h => .inl h) (fun w => rfl)
                case o12 =>
                  exact GdOp.left rfl ⟨_, _, rfl, rfl, by simp⟩ (by kernel_rfl) (fun w v h => .inl h) (fun w => rfl)
                case o13 =>
                  exact GdOp.left rfl ⟨_, _, rfl, rfl, by simp⟩ (by kernel_rfl) (fun w v h => .inr h) (fun w => rfl)
                case o14 =>
                  exact GdOp.left rfl ⟨_, _, rfl, rfl, by simp⟩ (by kernel_rfl) (fun w v h => .inr h) (fun w => rfl)
                case o15 =>
                  exact GdOp.left rfl ⟨_, _, rfl, rfl, by simp⟩ (by kernel_rfl) (fun w v h => .inl h) (fun w => rfl)
                case o16 =>
                  exact GdOp.left rfl ⟨_, _, rfl, rfl, by simp⟩ (by kernel_rfl) (fun w v h => .inl h) (fun w => rfl)
                case o17 =>
                  exact GdOp.left rfl ⟨_, _, rfl, rfl, by simp⟩ (by kernel_rfl) (fun w v h => .inr h) (fun w => rfl)
                case o18 =>
                  exact GdOp.left rfl ⟨_, _, rfl, rfl, by simp⟩ (by kernel_rfl) (fun w v h => .inr h) (fun w => rfl)
                case o19 =>
                  exact GdOp.left rfl ⟨_, _, rfl, rfl, by simp⟩ (by kernel_rfl) (fun w v h => .inr h) (fun w => rfl)
                case o20 =>
                  exact GdOp.left rfl ⟨_, _, rfl, rfl, by simp⟩ (by kernel_rfl) (fun w v h => .inr h) (fun w => rfl)
                case o21 =>
                  exact GdOp.left rfl ⟨_, _, rfl, rfl, by simp⟩ (by kernel_rfl) (fun w v h => .inr h) (fun w => rfl)
                case o22 =>
                  exact GdOp.left rfl ⟨_, _, rfl, rfl, by simp⟩ (by kernel_rfl) (fun w v h => .inr h) (fun w => rfl)
                case o23 =>
                  exact GdOp.left rfl ⟨_, _, rfl, rfl, by simp⟩ (by kernel_rfl) (fun w v h => .inr h) (fun w => rfl)
                case o24 =>
                  exact GdOp.left rfl ⟨_, _, rfl, rfl, by simp⟩ (by kernel_rfl) (fun w v h => .inr h) (fun w => rfl)
                case o25 =>
                  exact GdOp.left rfl ⟨_, _, rfl, rfl, by simp⟩ (by kernel_rfl) (fun w v h => .inr h) (fun w => rfl)
                case o26 =>
                  exact GdOp.left rfl ⟨_, _, rfl, rfl, by simp⟩ (by kernel_rfl) (fun w v h => .inr h) (fun w => rfl)
                case o27 =>
                  exact GdOp.left rfl ⟨_, _, rfl, rfl, by simp⟩ (by kernel_rfl) (fun w v h => .inl h) (fun w => rfl)
                case o28 =>
                  refine GdOp.taken rfl ⟨_, _, rfl, rfl, by simp⟩ (by kernel_rfl) (fun w v h => h) (fun A vs w' hF hT hb hd => ?_)
                  have e1 : A.eval (.tmp 144) = .bool true := (hT 144 8 (by simp) rfl).trans (hd ⟨8, .data⟩ (by simp) rfl)
                  have e3 : A.eval (.tmp 163) = undef := (hT 163 27 (by simp) rfl).trans (hd ⟨27, .data⟩ (by simp) rfl)
                  exact wp_pk rfl e1 (fun _ => rfl) (by simp) ⟨_, rfl, rfl, Below.refl _ _⟩
                case o29 =>
                  refine GdOp.plain rfl (fun A vs w' hF hT hb hd => ?_)
                  have e1 : A.eval (.tmp 137) = .bool true := (hT 137 1 (by simp) rfl).trans (hd ⟨1, .data⟩ (by simp) rfl)
                  have e2 : A.eval (.tmp 164) = .bool true := (hT 164 28 (by simp) rfl).trans (hd ⟨28, .data⟩ (by simp) rfl)
                  exact wp_pk rfl e1 (fun _ => e2) (by simp) ⟨_, rfl, rfl, Below.refl _ _⟩
                case o30 =>
                  refine GdOp.plain rfl (fun A vs w' hF hT hb hd => ?_)
                  have e1 : A.eval (.tmp 165) = .bool true := (hT 165 29 (by simp) rfl).trans (hd ⟨29, .data⟩ (by simp) rfl)
                  exact BigFrame.wp_assign _ rfl ⟨_, rfl, e1, Below.refl _ _⟩
                case fin =>
                  intro A vs w' hA hb hG
                  have e6 : A.eval (.tmp 8) = .bool true := (hA.2.2.2 8 30 (by simp) rfl).trans (hG 30 (by decide))
                  have hdf : A.defers = [] := hA.1
                  clear hG hA
                  go_wp2
                  refine bodyPost_ret (v := .bool true) ?_ hdf ⟨rfl, q.trans (hb.mono q.size)⟩
                  rw [← e6]
                  exact results_tmp rfl _ _ _
end Go.Proofs.Ytjbdkhddnblieaa
