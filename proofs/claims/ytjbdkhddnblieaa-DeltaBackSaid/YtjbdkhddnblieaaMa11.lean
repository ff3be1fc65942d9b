/-
  TEXTS OF ONE PROOF, merged: DeltaTellsW, Setr, Cbs, Dmt, DeltaBackW, Dms.
-/
import Derived.Test.YtjbdkhddnblieaaMa10
namespace Go.Proofs.Ytjbdkhddnblieaa
open Go.RowKit Go.Shelf
def sgVWs (l : List Wr) : SG := ⟨fun w v => ∃ a c, v = .slice a l.length c ∧ RdL Elt.wr (fun _ => True) w (.slice a l.length c) l, fun _ _ _ ⟨a, c, e, h⟩ hb => ⟨a, c, e, h.below hb⟩⟩
def sgVPs (l : List Pq) : SG := ⟨fun w v => ∃ a c, v = .slice a l.length c ∧ RdL Elt.pq (fun _ => True) w (.slice a l.length c) l, fun _ _ _ ⟨a, c, e, h⟩ hb => ⟨a, c, e, h.below hb⟩⟩
theorem RdL.made {α : Type} {E : Elt α} {S : Nat → Prop} {w : World} {x : α} {us : List Value} {b : Nat} {t : TypeId} (hx : E.R S w x us) (hrow : w.heap[b]? = some (.cells us.toArray t (0, 0))) (hS : S b) : RdL E S w (.slice (some ⟨b, 0, none⟩) 1 1) [x] :=
  ⟨_, 1, rfl, Nat.le_refl _, by unfold maxLen; omega, .inr ⟨b, 0, rfl, hS, fun r h => by
    obtain rfl : r = 0 := by simpa using h
    exact ⟨us, hx, fun j u hj => by simp [World.cell?, hrow, hj]⟩⟩⟩
theorem rdWr_R {S : Nat → Prop} {w : World} {x : Wr} {k m : Option Addr} {l n : Nat} (h : RdWr S w (.agg #[.int .i64 x.table, .slice k x.key.length l, .bool x.gone, .slice m x.val.length n]) x) : Elt.wr.R S w x [.int .i64 x.table, .slice k x.key.length l, .bool x.gone, .slice m x.val.length n] := by
  obtain ⟨_, _, _, _, e, h1, h2, h3⟩ := h
  injection e with e
  injection e with e
  injection e with _ e
  injection e with f1 e
  injection e with _ e
  injection e with f2 _
  rw [← f1] at h1
  rw [← f2] at h2
  exact ⟨_, _, rfl, h1, h2, h3⟩
theorem spS : StP Try.prog 39 4 := StP.of (by kernel_rfl)
set_option maxRecDepth 100000 in
set_option maxHeartbeats 16000000 in
theorem DeltaTells_w (w : World) {cs0 cs3 : Array Value} {t : Int} {a1 a2 : Option Addr} {n1 c1 n2 c2 : Nat} {d : Dl} {key : List UInt8} {x : Sp} {l : List Pq} (h0 : RdDl (· < w.heap.size) w (.agg cs0) d) (h1 : (Lit.int .i64 t).wf = true) (h2 : Rd w.heap.size w (.slice a1 n1 c1) key) (h3 : RdSp (· < w.heap.size) w (.agg cs3) x) (h4 : RdL Elt.pq (· < w.heap.size) w (.slice a2 n2 c2) l) :
    Calls Try.prog 4 #[.agg cs0, .int .i64 t, .slice a1 n1 c1, .agg cs3, .slice a2 n2 c2] w fun e w' => e = .returned (.bool true) ∧ Below w.heap.size w w' := by
  have _ := h1
  have hd := h0
  have hx := h3
  obtain ⟨a, c, a', c', e, hw, hm⟩ := h0
  injection e with e
  subst e
  obtain ⟨b, k, b', k', e, hlo, hhi, hxt⟩ := h3
  injection e with e
  subst e
  obtain ⟨rfl, hnc, hcm⟩ := h4.len
  have hks := h2.s
  obtain ⟨rfl, _, hkm⟩ := hks.len
  have hl0 : key.length ≤ 9223372036854775807 := by unfold maxLen at hkm; omega
  clear hkm
  have hl1 : x.lo.length ≤ 9223372036854775807 := by have := hlo.len; unfold maxLen at this; omega
  have hl2 : x.hi.length ≤ 9223372036854775807 := by have := hhi.len; unfold maxLen at this; omega
  have hll : l.length ≤ 9223372036854775807 := by unfold maxLen at hcm; omega
  obtain ⟨W0, hW, q, xD, xX, hsz⟩ := boxes2 w 25 39 [.slice a d.writes.length c, .slice a' d.marks.length c'] [.int .i64 x.table, .slice b x.lo.length k, .slice b' x.hi.length k', .bool x.isOpen]
  have hD := hd.below q
  have hX := hx.below q
  have hL := h4.below q
  have hK := hks.below q
  clear hw hm hlo hhi hnc hcm hsz hd hx h4 h2 hks
  go_enter Try.func4, Try.ntmps4
  go_upto_region 1 with (fail)
  rw [show (w.alloc (.cells #[.slice a d.writes.length c, .slice a' d.marks.length c'] 25)).alloc (.cells #[.int .i64 x.table, .slice b x.lo.length k, .slice b' x.hi.length k', .bool x.isOpen] 39) = W0 from hW.symm]
  clear hW
  go_wp2_with fail
  have hcl := awake8_any W0
  refine hcl.mono ?_
  rintro e w1 ⟨rfl, hb⟩
  clear hcl
  replace hD := hD.below hb
  replace hX := hX.below hb
  replace hL := hL.below hb
  replace hK := hK.below hb
  replace xD := xD.below hb xD.lt
  replace xX := xX.below hb xX.lt
  replace q := q.trans (hb.mono q.size)
  clear hb
  have b0 := xD.cell (i := 0) rfl
  have b1 := xD.cell (i := 1) rfl
  have x0 := xX.cell (i := 0) rfl
  have x1 := xX.cell (i := 1) rfl
  have x2 := xX.cell (i := 2) rfl
  have x3 := xX.cell (i := 3) rfl
  have hcl := few_any w1 hD
  go_wp2_with fail
  refine hcl.mono ?_
  rintro e w2 ⟨rfl, hb⟩
  clear hcl b0 b1 x0 x1 x2 x3
  replace hD := hD.below hb
  replace hX := hX.below hb
  replace hL := hL.below hb
  replace hK := hK.below hb
  replace xD := xD.below hb xD.lt
  replace xX := xX.below hb xX.lt
  replace q := q.trans (hb.mono q.size)
  clear hb
  have b0 := xD.cell (i := 0) rfl
  have b1 := xD.cell (i := 1) rfl
  have x0 := xX.cell (i := 0) rfl
  have x1 := xX.cell (i := 1) rfl
  have x2 := xX.cell (i := 2) rfl
  have x3 := xX.cell (i := 3) rfl
  by_cases hf : fewD d
  case neg =>
    rw [decide_eq_false hf]
    go_wp2_with fail
    go_ret
    exact ⟨rfl, q⟩
  rw [decide_eq_true hf]
  have hsd : smD d := ⟨by have := hf.1; omega, by have := hf.2.1; omega, fun y hy => by have := hf.2.2 y hy; omega⟩
  clear hf
  rcases Nat.lt_or_ge 100 key.length with g0 | g0
  · have d0 : decide ((100 : Int) < (key.length : Int)) = true := decide_eq_true (by omega)
    go_wp2_with fail
    go_ret
    exact ⟨rfl, q⟩
  have d0 : decide ((100 : Int) < (key.length : Int)) = false := decide_eq_false (by omega)
  rcases Nat.lt_or_ge 100 x.lo.length with g1 | g1
  · have d1 : decide ((100 : Int) < (x.lo.length : Int)) = true := decide_eq_true (by omega)
    go_wp2_with fail
    go_ret
    exact ⟨rfl, q⟩
  have d1 : decide ((100 : Int) < (x.lo.length : Int)) = false := decide_eq_false (by omega)
  rcases Nat.lt_or_ge 100 x.hi.length with g2 | g2
  · have d2 : decide ((100 : Int) < (x.hi.length : Int)) = true := decide_eq_true (by omega)
    go_wp2_with fail
    go_ret
    exact ⟨rfl, q⟩
  have d2 : decide ((100 : Int) < (x.hi.length : Int)) = false := decide_eq_false (by omega)
  have hcl := short_any w2 hL
  go_wp2_with fail
  refine hcl.mono ?_
  rintro e w3 ⟨rfl, hb⟩
  clear hcl b0 b1 x0 x1 x2 x3
  replace hD := hD.below hb
  replace hX := hX.below hb
  replace hL := hL.below hb
  replace hK := hK.below hb
  replace xD := xD.below hb xD.lt
  replace xX := xX.below hb xX.lt
  replace q := q.trans (hb.mono q.size)
  clear hb
  by_cases hs : shP l
  case neg =>
    rw [decide_eq_false hs]
    go_wp2_with fail
    go_ret
    exact ⟨rfl, q⟩
  rw [decide_eq_true hs]
  clear d0 d1 d2 g0 g1 g2 hl0 hl1 hl2
  have hsl : smQ l := ⟨by have := hs.1; omega, fun y hy => by have := hs.2 y hy; omega⟩
  have hs1 : l.length ≤ 900000 := by have := hs.1; omega
  clear hs
  obtain ⟨fo, hfw⟩ : ∃ fo, findD d ⟨t, key⟩ = fo := ⟨_, rfl⟩
  obtain ⟨fw, hfg⟩ : ∃ fw, fo.getD noWr = fw := ⟨_, rfl⟩
  clear hll
  have b0 := xD.cell (i := 0) rfl
  have b1 := xD.cell (i := 1) rfl
  have hcl := dFind_any w3 (t := t) hD hsd hK
  rw [hfw] at hcl
  unfold FndEnd at hcl
  rw [hfg] at hcl
  go_wp2_with fail
  refine hcl.mono ?_
  rintro e w4 ⟨vA, rfl, ⟨kA, lA, mA, nA, rfl, rkA, rvA, rtA⟩, hb⟩
  clear hcl b0 b1
  have rwA : RdWr (fun _ => True) _ _ _ := ⟨_, _, _, _, rfl, rkA.weak fun _ _ => trivial, rvA.weak fun _ _ => trivial, rtA⟩
  clear rkA rvA rtA
  replace hD := hD.below hb
  replace hX := hX.below hb
  replace hL := hL.below hb
  replace hK := hK.below hb
  replace xD := xD.below hb xD.lt
  replace xX := xX.below hb xX.lt
  replace q := q.trans (hb.mono q.size)
  clear hb
  go_upto_region 5 with (first | (refine wpList_boxNew (vs := [.int .i64 0, .slice none 0 0, .bool false, .slice none 0 0]) (by kernel_rfl) rfl rfl ?_; intro wa hba hBa) | (refine wpList_boxStore (us := [.int .i64 fw.table, .slice kA fw.key.length lA, .bool fw.gone, .slice mA fw.val.length nA]) (by kernel_rfl) rfl rfl rfl rfl rfl rfl hBa rfl ?_; intro w5 hgw xA) | fail)
  try go_simp
  have hbw := hba.grown hgw hba.size fun k hk => by injection hk with hk; omega
  replace hD := hD.below hbw
  replace hX := hX.below hbw
  replace hL := hL.below hbw
  replace hK := hK.below hbw
  replace xD := xD.below hbw xD.lt
  replace xX := xX.below hbw xX.lt
  replace rwA := rwA.below hbw
  replace q := q.trans (hbw.mono q.size)
  clear hbw hgw hba hBa
  have b0 := xD.cell (i := 0) rfl
  have b1 := xD.cell (i := 1) rfl
  have hcl := rFind_any w5 (t := t) hD hsd hK
  rw [hfw] at hcl
  unfold FndEnd at hcl
  rw [hfg] at hcl
  go_wp2_with fail
  refine hcl.mono ?_
  rintro e w6 ⟨vB, rfl, ⟨kB, lB, mB, nB, rfl, rkB, rvB, rtB⟩, hb⟩
  clear hcl b0 b1
  have rwB : RdWr (fun _ => True) _ _ _ := ⟨_, _, _, _, rfl, rkB.weak fun _ _ => trivial, rvB.weak fun _ _ => trivial, rtB⟩
  clear rkB rvB rtB
  replace hD := hD.below hb
  replace hX := hX.below hb
  replace hL := hL.below hb
  replace hK := hK.below hb
  replace xD := xD.below hb xD.lt
  replace xX := xX.below hb xX.lt
  replace rwA := rwA.below hb
  replace xA := xA.below hb xA.lt
  replace q := q.trans (hb.mono q.size)
  clear hb
  go_upto_region 6 with (first | (refine wpList_boxNew (vs := [.int .i64 0, .slice none 0 0, .bool false, .slice none 0 0]) (by kernel_rfl) rfl rfl ?_; intro wa hba hBa) | (refine wpList_boxStore (us := [.int .i64 fw.table, .slice kB fw.key.length lB, .bool fw.gone, .slice mB fw.val.length nB]) (by kernel_rfl) rfl rfl rfl rfl rfl rfl hBa rfl ?_; intro w7 hgw xB) | fail)
  try go_simp
  have hbw := hba.grown hgw hba.size fun k hk => by injection hk with hk; omega
  replace hD := hD.below hbw
  replace hX := hX.below hbw
  replace hL := hL.below hbw
  replace hK := hK.below hbw
  replace xD := xD.below hbw xD.lt
  replace xX := xX.below hbw xX.lt
  replace rwA := rwA.below hbw
  replace xA := xA.below hbw xA.lt
  replace rwB := rwB.below hbw
  replace q := q.trans (hbw.mono q.size)
  clear hbw hgw hba hBa
  have eW : ∀ args w, (callFunc 22 args).run Try.prog w = .ok (.enter 22 args) w := enters_of Try.func22 (by kernel_rfl) rfl
  have eP : ∀ args w, (callFunc 25 args).run Try.prog w = .ok (.enter 25 args) w := enters_of Try.func25 (by kernel_rfl) rfl
  have eL : ∀ args w, (callFunc 23 args).run Try.prog w = .ok (.enter 23 args) w := enters_of Try.func23 (by kernel_rfl) rfl
  have eM : ∀ args w, (callFunc 24 args).run Try.prog w = .ok (.enter 24 args) w := enters_of Try.func24 (by kernel_rfl) rfl
  have eO : ∀ args w, (callFunc 26 args).run Try.prog w = .ok (.enter 26 args) w := enters_of Try.func26 (by kernel_rfl) rfl
  have eQ : ∀ args w, (callFunc 27 args).run Try.prog w = .ok (.enter 27 args) w := enters_of Try.func27 (by kernel_rfl) rfl
  refine wp_region_gsg (by kernel_rfl) (by kernel_rfl) [sgEq (.agg #[.int .i64 fw.table, .slice kA fw.key.length lA, .bool fw.gone, .slice mA fw.val.length nA]), sgVWs [fw], sgEq (.agg #[.int .i64 fw.table, .slice kB fw.key.length lB, .bool fw.gone, .slice mB fw.val.length nB]), sgVWs [fw], sgEq (.bool true), sgEq (.bool true), sgEq (.agg #[.slice a d.writes.length c, .slice a' d.marks.length c']), sgVWs (lastD d), sgEq (.agg #[.slice a d.writes.length c, .slice a' d.marks.length c']), sgVWs (lastD d), sgEq (.bool true), sgEq (.bool true), sgEq (.bool true), sgEq (.agg #[.slice a d.writes.length c, .slice a' d.marks.length c']), sgEq (.agg #[.int .i64 x.table, .slice b x.lo.length k, .slice b' x.hi.length k', .bool x.isOpen]), sgEq (.slice a2 l.length c2), sgVPs (overD d x l), sgEq (.agg #[.slice a d.writes.length c, .slice a' d.marks.length c']), sgEq (.agg #[.int .i64 x.table, .slice b x.lo.length k, .slice b' x.hi.length k', .bool x.isOpen]), sgEq (.slice a2 l.length c2), sgVPs (overD d x l), sgEq (.bool true), sgEq (.bool true), sgEq (.bool true)]
    ⟨?o0, ?o1, ?o2, ?o3, ?o4, ?o5, ?o6, ?o7, ?o8, ?o9, ?o10, ?o11, ?o12, ?o13, ?o14, ?o15, ?o16, ?o17, ?o18, ?o19, ?o20, ?o21, ?o22, ?o23, trivial⟩ ?fin
  case o0 =>
    refine GdOp.plain rfl (fun A vs w' hF hT hb hd => ?_)
    have e1 : A.eval (.tmp 12) = .pointer (some ⟨w4.heap.size, 0, none⟩) := hF 12 rfl
    exact wp_load4 wrS rfl e1 ((xA.below hb xA.lt).cell (i := 0) rfl) ((xA.below hb xA.lt).cell (i := 1) rfl) ((xA.below hb xA.lt).cell (i := 2) rfl) ((xA.below hb xA.lt).cell (i := 3) rfl) ⟨_, rfl, rfl, Below.refl _ _⟩
  case o1 =>
    refine GdOp.plain rfl (fun A vs w' hF hT hb hd => ?_)
    have e1 : A.eval (.tmp 58) = .agg #[.int .i64 fw.table, .slice kA fw.key.length lA, .bool fw.gone, .slice mA fw.val.length nA] := (hT 58 0 (by simp) rfl).trans (hd ⟨0, .data⟩ (by simp) rfl)
    have hbn := (Below.refl w'.heap.size w').alloc (Nat.le_refl _) (.cells #[.int .i64 fw.table, .slice kA fw.key.length lA, .bool fw.gone, .slice mA fw.val.length nA] 28)
    refine wp_buildOne wrP rfl e1 rfl rfl (by omega) (by omega) ⟨_, rfl, ⟨_, _, rfl, RdL.made (E := Elt.wr) (us := [.int .i64 fw.table, .slice kA fw.key.length lA, .bool fw.gone, .slice mA fw.val.length nA]) (t := 28) ?_ (by simp only [World.alloc, Array.getElem?_push_size]) trivial⟩, hbn⟩
    exact rdWr_R ((rwA.below hb).below hbn)
  case o2 =>
    refine GdOp.plain rfl (fun A vs w' hF hT hb hd => ?_)
    have e1 : A.eval (.tmp 14) = .pointer (some ⟨w6.heap.size, 0, none⟩) := hF 14 rfl
    exact wp_load4 wrS rfl e1 ((xB.below hb xB.lt).cell (i := 0) rfl) ((xB.below hb xB.lt).cell (i := 1) rfl) ((xB.below hb xB.lt).cell (i := 2) rfl) ((xB.below hb xB.lt).cell (i := 3) rfl) ⟨_, rfl, rfl, Below.refl _ _⟩
  case o3 =>
    refine GdOp.plain rfl (fun A vs w' hF hT hb hd => ?_)
    have e1 : A.eval (.tmp 60) = .agg #[.int .i64 fw.table, .slice kB fw.key.length lB, .bool fw.gone, .slice mB fw.val.length nB] := (hT 60 2 (by simp) rfl).trans (hd ⟨2, .data⟩ (by simp) rfl)
    have hbn := (Below.refl w'.heap.size w').alloc (Nat.le_refl _) (.cells #[.int .i64 fw.table, .slice kB fw.key.length lB, .bool fw.gone, .slice mB fw.val.length nB] 28)
    refine wp_buildOne wrP rfl e1 rfl rfl (by omega) (by omega) ⟨_, rfl, ⟨_, _, rfl, RdL.made (E := Elt.wr) (us := [.int .i64 fw.table, .slice kB fw.key.length lB, .bool fw.gone, .slice mB fw.val.length nB]) (t := 28) ?_ (by simp only [World.alloc, Array.getElem?_push_size]) trivial⟩, hbn⟩
    exact rdWr_R ((rwB.below hb).below hbn)
  case o4 =>
    refine GdOp.plain rfl (fun A vs w' hF hT hb hd => ?_)
    obtain ⟨p1, p2, p3, p4⟩ := hd ⟨1, .data⟩ (by simp) rfl
    obtain ⟨r1, r2, r3, r4⟩ := hd ⟨3, .data⟩ (by simp) rfl
    have e1 : A.eval (.tmp 59) = _ := (hT 59 1 (by simp) rfl).trans p3
    have e2 : A.eval (.tmp 61) = _ := (hT 61 3 (by simp) rfl).trans r3
    have hcl := refWrites_any w' p4 r4
    rw [decide_eq_true rfl] at hcl
    refine wp_callFn rfl eW (args := #[.slice p1 _ p2, .slice r1 _ r2]) (by simp only [List.map_toArray, List.map_cons, List.map_nil, e1, e2]) (hcl.mono ?_)
    rintro e w2 ⟨rfl, hb2⟩
    exact ⟨_, rfl, _, rfl, rfl, hb2⟩
  case o5 =>
    refine GdOp.plain rfl (fun A vs w' hF hT hb hd => ?_)
    have e1 : A.eval (.tmp 62) = .bool true := (hT 62 4 (by simp) rfl).trans (hd ⟨4, .data⟩ (by simp) rfl)
    exact BigFrame.wp_move _ rfl ⟨_, rfl, e1, Below.refl _ _⟩
  case o6 =>
    refine GdOp.taken rfl ⟨_, _, rfl, rfl, by simp⟩ (by kernel_rfl) (fun w v h => h) (fun A vs w' hF hT hb hd => ?_)
    have e1 : A.eval (.tmp 5) = .pointer (some ⟨w.heap.size, 0, none⟩) := hF 5 rfl
    exact wp_load2 dlS rfl e1 ((xD.below hb xD.lt).cell (i := 0) rfl) ((xD.below hb xD.lt).cell (i := 1) rfl) ⟨_, rfl, rfl, Below.refl _ _⟩
  case o7 =>
    refine GdOp.taken rfl ⟨_, _, rfl, rfl, by simp⟩ (by kernel_rfl) (fun w v h => h) (fun A vs w' hF hT hb hd => ?_)
    have e1 : A.eval (.tmp 64) = .agg #[.slice a d.writes.length c, .slice a' d.marks.length c'] := (hT 64 6 (by simp) rfl).trans (hd ⟨6, .data⟩ (by simp) rfl)
    refine wp_callFn rfl eL (args := #[.agg #[.slice a d.writes.length c, .slice a' d.marks.length c']]) (by simp only [List.map_toArray, List.map_cons, List.map_nil, e1]) ((dLast_any w' (hD.below hb)).mono ?_)
    rintro e w2 ⟨a9, c9, rfl, h9, hb2⟩
    exact ⟨_, rfl, _, rfl, ⟨_, _, rfl, h9.rdL.weak fun _ _ => trivial⟩, hb2⟩
  case o8 =>
    refine GdOp.taken rfl ⟨_, _, rfl, rfl, by simp⟩ (by kernel_rfl) (fun w v h => h) (fun A vs w' hF hT hb hd => ?_)
    have e1 : A.eval (.tmp 5) = .pointer (some ⟨w.heap.size, 0, none⟩) := hF 5 rfl
    exact wp_load2 dlS rfl e1 ((xD.below hb xD.lt).cell (i := 0) rfl) ((xD.below hb xD.lt).cell (i := 1) rfl) ⟨_, rfl, rfl, Below.refl _ _⟩
  case o9 =>
    refine GdOp.taken rfl ⟨_, _, rfl, rfl, by simp⟩ (by kernel_rfl) (fun w v h => h) (fun A vs w' hF hT hb hd => ?_)
    have e1 : A.eval (.tmp 66) = .agg #[.slice a d.writes.length c, .slice a' d.marks.length c'] := (hT 66 8 (by simp) rfl).trans (hd ⟨8, .data⟩ (by simp) rfl)
    refine wp_callFn rfl eM (args := #[.agg #[.slice a d.writes.length c, .slice a' d.marks.length c']]) (by simp only [List.map_toArray, List.map_cons, List.map_nil, e1]) ((rLast_any w' (hD.below hb)).mono ?_)
    rintro e w2 ⟨a9, c9, rfl, h9, hb2⟩
    exact ⟨_, rfl, _, rfl, ⟨_, _, rfl, h9.rdL.weak fun _ _ => trivial⟩, hb2⟩
  case o10 =>
    refine GdOp.taken rfl ⟨_, _, rfl, rfl, by simp⟩ (by kernel_rfl) (fun w v h => h) (fun A vs w' hF hT hb hd => ?_)
    obtain ⟨p1, p2, p3, p4⟩ := hd ⟨7, .data⟩ (by simp) rfl
    obtain ⟨r1, r2, r3, r4⟩ := hd ⟨9, .data⟩ (by simp) rfl
    have e1 : A.eval (.tmp 65) = _ := (hT 65 7 (by simp) rfl).trans p3
    have e2 : A.eval (.tmp 67) = _ := (hT 67 9 (by simp) rfl).trans r3
    have hcl := refWrites_any w' p4 r4
    rw [decide_eq_true rfl] at hcl
    refine wp_callFn rfl eW (args := #[.slice p1 _ p2, .slice r1 _ r2]) (by simp only [List.map_toArray, List.map_cons, List.map_nil, e1, e2]) (hcl.mono ?_)
    rintro e w2 ⟨rfl, hb2⟩
    exact ⟨_, rfl, _, rfl, rfl, hb2⟩
  case o11 =>
    refine GdOp.plain rfl (fun A vs w' hF hT hb hd => ?_)
    have e1 : A.eval (.tmp 63) = .bool true := (hT 63 5 (by simp) rfl).trans (hd ⟨5, .data⟩ (by simp) rfl)
    have e2 : A.eval (.tmp 68) = .bool true := (hT 68 10 (by simp) rfl).trans (hd ⟨10, .data⟩ (by simp) rfl)
    exact wp_pk rfl e1 (fun _ => e2) (by simp) ⟨_, rfl, rfl, Below.refl _ _⟩
  case o12 =>
    refine GdOp.plain rfl (fun A vs w' hF hT hb hd => ?_)
    have e1 : A.eval (.tmp 69) = .bool true := (hT 69 11 (by simp) rfl).trans (hd ⟨11, .data⟩ (by simp) rfl)
    exact BigFrame.wp_move _ rfl ⟨_, rfl, e1, Below.refl _ _⟩
  case o13 =>
    refine GdOp.taken rfl ⟨_, _, rfl, rfl, by simp⟩ (by kernel_rfl) (fun w v h => h) (fun A vs w' hF hT hb hd => ?_)
    have e1 : A.eval (.tmp 5) = .pointer (some ⟨w.heap.size, 0, none⟩) := hF 5 rfl
    exact wp_load2 dlS rfl e1 ((xD.below hb xD.lt).cell (i := 0) rfl) ((xD.below hb xD.lt).cell (i := 1) rfl) ⟨_, rfl, rfl, Below.refl _ _⟩
  case o14 =>
    refine GdOp.taken rfl ⟨_, _, rfl, rfl, by simp⟩ (by kernel_rfl) (fun w v h => h) (fun A vs w' hF hT hb hd => ?_)
    have e1 : A.eval (.tmp 8) = .pointer (some ⟨w.heap.size + 1, 0, none⟩) := hF 8 rfl
    exact wp_load4 spS rfl e1 ((xX.below hb xX.lt).cell (i := 0) rfl) ((xX.below hb xX.lt).cell (i := 1) rfl) ((xX.below hb xX.lt).cell (i := 2) rfl) ((xX.below hb xX.lt).cell (i := 3) rfl) ⟨_, rfl, rfl, Below.refl _ _⟩
  case o15 =>
    refine GdOp.taken rfl ⟨_, _, rfl, rfl, by simp⟩ (by kernel_rfl) (fun w v h => h) (fun A vs w' hF hT hb hd => ?_)
    have e1 : A.eval (.tmp 4) = .slice a2 l.length c2 := hF 4 rfl
    exact BigFrame.wp_move _ rfl ⟨_, rfl, e1, Below.refl _ _⟩
  case o16 =>
    refine GdOp.taken rfl ⟨_, _, rfl, rfl, by simp⟩ (by kernel_rfl) (fun w v h => h) (fun A vs w' hF hT hb hd => ?_)
    have e1 : A.eval (.tmp 71) = .agg #[.slice a d.writes.length c, .slice a' d.marks.length c'] := (hT 71 13 (by simp) rfl).trans (hd ⟨13, .data⟩ (by simp) rfl)
    have e2 : A.eval (.tmp 72) = .agg #[.int .i64 x.table, .slice b x.lo.length k, .slice b' x.hi.length k', .bool x.isOpen] := (hT 72 14 (by simp) rfl).trans (hd ⟨14, .data⟩ (by simp) rfl)
    have e3 : A.eval (.tmp 73) = .slice a2 l.length c2 := (hT 73 15 (by simp) rfl).trans (hd ⟨15, .data⟩ (by simp) rfl)
    refine wp_callFn rfl eO (args := #[.agg #[.slice a d.writes.length c, .slice a' d.marks.length c'], .agg #[.int .i64 x.table, .slice b x.lo.length k, .slice b' x.hi.length k', .bool x.isOpen], .slice a2 l.length c2]) (by simp only [List.map_toArray, List.map_cons, List.map_nil, e1, e2, e3]) ((dOver_any w' (hD.below hb) (hX.below hb) (hL.below hb) hsl hs1).mono ?_)
    rintro e w2 ⟨a9, c9, rfl, h9, hb2⟩
    exact ⟨_, rfl, _, rfl, ⟨_, _, rfl, h9.rdL.weak fun _ _ => trivial⟩, hb2⟩
  case o17 =>
    refine GdOp.taken rfl ⟨_, _, rfl, rfl, by simp⟩ (by kernel_rfl) (fun w v h => h) (fun A vs w' hF hT hb hd => ?_)
    have e1 : A.eval (.tmp 5) = .pointer (some ⟨w.heap.size, 0, none⟩) := hF 5 rfl
    exact wp_load2 dlS rfl e1 ((xD.below hb xD.lt).cell (i := 0) rfl) ((xD.below hb xD.lt).cell (i := 1) rfl) ⟨_, rfl, rfl, Below.refl _ _⟩
  case o18 =>
    refine GdOp.taken rfl ⟨_, _, rfl, rfl, by simp⟩ (by kernel_rfl) (fun w v h => h) (fun A vs w' hF hT hb hd => ?_)
    have e1 : A.eval (.tmp 8) = .pointer (some ⟨w.heap.size + 1, 0, none⟩) := hF 8 rfl
    exact wp_load4 spS rfl e1 ((xX.below hb xX.lt).cell (i := 0) rfl) ((xX.below hb xX.lt).cell (i := 1) rfl) ((xX.below hb xX.lt).cell (i := 2) rfl) ((xX.below hb xX.lt).cell (i := 3) rfl) ⟨_, rfl, rfl, Below.refl _ _⟩
  case o19 =>
    refine GdOp.taken rfl ⟨_, _, rfl, rfl, by simp⟩ (by kernel_rfl) (fun w v h => h) (fun A vs w' hF hT hb hd => ?_)
    have e1 : A.eval (.tmp 4) = .slice a2 l.length c2 := hF 4 rfl
    exact BigFrame.wp_move _ rfl ⟨_, rfl, e1, Below.refl _ _⟩
  case o20 =>
    refine GdOp.taken rfl ⟨_, _, rfl, rfl, by simp⟩ (by kernel_rfl) (fun w v h => h) (fun A vs w' hF hT hb hd => ?_)
    have e1 : A.eval (.tmp 75) = .agg #[.slice a d.writes.length c, .slice a' d.marks.length c'] := (hT 75 17 (by simp) rfl).trans (hd ⟨17, .data⟩ (by simp) rfl)
    have e2 : A.eval (.tmp 76) = .agg #[.int .i64 x.table, .slice b x.lo.length k, .slice b' x.hi.length k', .bool x.isOpen] := (hT 76 18 (by simp) rfl).trans (hd ⟨18, .data⟩ (by simp) rfl)
    have e3 : A.eval (.tmp 77) = .slice a2 l.length c2 := (hT 77 19 (by simp) rfl).trans (hd ⟨19, .data⟩ (by simp) rfl)
    refine wp_callFn rfl eQ (args := #[.agg #[.slice a d.writes.length c, .slice a' d.marks.length c'], .agg #[.int .i64 x.table, .slice b x.lo.length k, .slice b' x.hi.length k', .bool x.isOpen], .slice a2 l.length c2]) (by simp only [List.map_toArray, List.map_cons, List.map_nil, e1, e2, e3]) ((rOver_any w' (hD.below hb) (hX.below hb) (hL.below hb) hsl).mono ?_)
    rintro e w2 ⟨a9, c9, rfl, h9, hb2⟩
    exact ⟨_, rfl, _, rfl, ⟨_, _, rfl, h9.rdL.weak fun _ _ => trivial⟩, hb2⟩
  case o21 =>
    refine GdOp.taken rfl ⟨_, _, rfl, rfl, by simp⟩ (by kernel_rfl) (fun w v h => h) (fun A vs w' hF hT hb hd => ?_)
    obtain ⟨p1, p2, p3, p4⟩ := hd ⟨16, .data⟩ (by simp) rfl
    obtain ⟨r1, r2, r3, r4⟩ := hd ⟨20, .data⟩ (by simp) rfl
    have e1 : A.eval (.tmp 74) = _ := (hT 74 16 (by simp) rfl).trans p3
    have e2 : A.eval (.tmp 78) = _ := (hT 78 20 (by simp) rfl).trans r3
    have hcl := refPairs_any w' p4 r4
    rw [decide_eq_true rfl] at hcl
    refine wp_callFn rfl eP (args := #[.slice p1 _ p2, .slice r1 _ r2]) (by simp only [List.map_toArray, List.map_cons, List.map_nil, e1, e2]) (hcl.mono ?_)
    rintro e w2 ⟨rfl, hb2⟩
    exact ⟨_, rfl, _, rfl, rfl, hb2⟩
  case o22 =>
    refine GdOp.plain rfl (fun A vs w' hF hT hb hd => ?_)
    have e1 : A.eval (.tmp 70) = .bool true := (hT 70 12 (by simp) rfl).trans (hd ⟨12, .data⟩ (by simp) rfl)
    have e2 : A.eval (.tmp 79) = .bool true := (hT 79 21 (by simp) rfl).trans (hd ⟨21, .data⟩ (by simp) rfl)
    exact wp_pk rfl e1 (fun _ => e2) (by simp) ⟨_, rfl, rfl, Below.refl _ _⟩
  case o23 =>
    refine GdOp.plain rfl (fun A vs w' hF hT hb hd => ?_)
    have e1 : A.eval (.tmp 80) = .bool true := (hT 80 22 (by simp) rfl).trans (hd ⟨22, .data⟩ (by simp) rfl)
    exact BigFrame.wp_assign _ rfl ⟨_, rfl, e1, Below.refl _ _⟩
  case fin =>
  intro vs9 W9 hb9 hG9
  have e0 : vs9 0 = .agg #[.int .i64 fw.table, .slice kA fw.key.length lA, .bool fw.gone, .slice mA fw.val.length nA] := hG9 0 (by decide)
  obtain ⟨x1, y1, e1, _⟩ := hG9 1 (by decide)
  have e2 : vs9 2 = .agg #[.int .i64 fw.table, .slice kB fw.key.length lB, .bool fw.gone, .slice mB fw.val.length nB] := hG9 2 (by decide)
  obtain ⟨x3, y3, e3, _⟩ := hG9 3 (by decide)
  have e4 : vs9 4 = .bool true := hG9 4 (by decide)
  have e5 : vs9 5 = .bool true := hG9 5 (by decide)
  have e6 : vs9 6 = .agg #[.slice a d.writes.length c, .slice a' d.marks.length c'] := hG9 6 (by decide)
  obtain ⟨x7, y7, e7, _⟩ := hG9 7 (by decide)
  have e8 : vs9 8 = .agg #[.slice a d.writes.length c, .slice a' d.marks.length c'] := hG9 8 (by decide)
  obtain ⟨x9, y9, e9, _⟩ := hG9 9 (by decide)
  have e10 : vs9 10 = .bool true := hG9 10 (by decide)
  have e11 : vs9 11 = .bool true := hG9 11 (by decide)
  have e12 : vs9 12 = .bool true := hG9 12 (by decide)
  have e13 : vs9 13 = .agg #[.slice a d.writes.length c, .slice a' d.marks.length c'] := hG9 13 (by decide)
  have e14 : vs9 14 = .agg #[.int .i64 x.table, .slice b x.lo.length k, .slice b' x.hi.length k', .bool x.isOpen] := hG9 14 (by decide)
  have e15 : vs9 15 = .slice a2 l.length c2 := hG9 15 (by decide)
  obtain ⟨x16, y16, e16, _⟩ := hG9 16 (by decide)
  have e17 : vs9 17 = .agg #[.slice a d.writes.length c, .slice a' d.marks.length c'] := hG9 17 (by decide)
  have e18 : vs9 18 = .agg #[.int .i64 x.table, .slice b x.lo.length k, .slice b' x.hi.length k', .bool x.isOpen] := hG9 18 (by decide)
  have e19 : vs9 19 = .slice a2 l.length c2 := hG9 19 (by decide)
  obtain ⟨x20, y20, e20, _⟩ := hG9 20 (by decide)
  have e21 : vs9 21 = .bool true := hG9 21 (by decide)
  have e22 : vs9 22 = .bool true := hG9 22 (by decide)
  have e23 : vs9 23 = .bool true := hG9 23 (by decide)
  simp only [putAll, e0, e1, e2, e3, e4, e5, e6, e7, e8, e9, e10, e11, e12, e13, e14, e15, e16, e17, e18, e19, e20, e21, e22, e23]
  clear hG9 e0 e1 e2 e3 e4 e5 e6 e7 e8 e9 e10 e11 e12 e13 e14 e15 e16 e17 e18 e19 e20 e21 e22 e23
  replace hD := hD.below hb9
  replace hX := hX.below hb9
  replace hL := hL.below hb9
  replace hK := hK.below hb9
  replace xD := xD.below hb9 xD.lt
  replace xX := xX.below hb9 xX.lt
  replace rwA := rwA.below hb9
  replace xA := xA.below hb9 xA.lt
  replace rwB := rwB.below hb9
  replace xB := xB.below hb9 xB.lt
  replace q := q.trans (hb9.mono q.size)
  clear hb9
  go_simp
  have d1 : (fo.isSome == fo.isSome) = true := beq_self_eq_true _
  go_wp2_with fail
  go_ret
  exact ⟨rfl, q⟩
end Go.Proofs.Ytjbdkhddnblieaa
namespace Go.Proofs.Ytjbdkhddnblieaa
open Go.RowKit
section
variable {P : Program} {Q : Exit → Act → World → Prop}
def don (D : Nat → Bool) (i : Nat) : Nat → Bool := fun j => if j = i then true else D j
def told (S : List Nat) (D : Nat → Bool) (vs : Nat → Value) : List (Option Value) := S.map fun j => if D j then some (vs j) else none
def SetOp (P : Program) (Q : Exit → Act → World → Prop) (ops : Array Oper) (a : Act) (S : List Nat) (G : Nat → World → Value → Prop) (E : List (Option Value) → World → Prop) (K : World → World → Prop) (i : Nat) (o : Oper) : Prop :=
  ∀ (A : Act) (va : Nat → Value) (D : Nat → Bool) (w' : World), (∀ t, slotIx ops.toList 0 t = none → A.eval (.tmp t) = a.eval (.tmp t)) → (∀ t j, t < a.tmps.size → slotIx ops.toList 0 t = some j → A.eval (.tmp t) = va j) → D i = false → E (told S D va) w' →
    (∀ e ∈ o.after, Region.binds .any e = true → D e.on = true) → (∀ j d, D j = false → (ops[j]?).bind (·.dst) = some d → va j = a.eval (.tmp d)) → (∀ e ∈ o.after, Region.binds .any e = true → S.contains e.on = false → G e.on w' (va e.on)) →
    o.wp P A w' (fun a2 w2 => ∃ v, a2 = A.put o.dst v ∧ E (told S (don D i) (upd va i v)) w2 ∧ K w' w2) Q
def FreeOp (P : Program) (Q : Exit → Act → World → Prop) (ops : Array Oper) (a : Act) (S : List Nat) (G : Nat → World → Value → Prop) (E : List (Option Value) → World → Prop) (i : Nat) (o : Oper) : Prop :=
  ∀ (A : Act) (va : Nat → Value) (D : Nat → Bool) (w' : World), (∀ t, slotIx ops.toList 0 t = none → A.eval (.tmp t) = a.eval (.tmp t)) → (∀ t j, t < a.tmps.size → slotIx ops.toList 0 t = some j → A.eval (.tmp t) = va j) → D i = false → E (told S D va) w' →
    (∀ e ∈ o.after, Region.binds .any e = true → D e.on = true) → (∀ j d, D j = false → (ops[j]?).bind (·.dst) = some d → va j = a.eval (.tmp d)) → (∀ e ∈ o.after, Region.binds .any e = true → S.contains e.on = false → G e.on w' (va e.on)) →
    o.wp P A w' (fun a2 w2 => ∃ v, a2 = A.put o.dst v ∧ G i w2 v ∧ Below w'.heap.size w' w2) Q
def StOp (P : Program) (Q : Exit → Act → World → Prop) (ops : Array Oper) (a : Act) (S : List Nat) (G : Nat → World → Value → Prop) (E : List (Option Value) → World → Prop) (K : World → World → Prop) (i : Nat) (o : Oper) : Prop :=
  o.guard = none ∧ ((S.contains i = true ∧ SetOp P Q ops a S G E K i o) ∨ (S.contains i = false ∧ FreeOp P Q ops a S G E i o))
theorem StOp.set {ops : Array Oper} {a : Act} {S : List Nat} {G : Nat → World → Value → Prop} {E : List (Option Value) → World → Prop} {K : World → World → Prop} {i : Nat} {o : Oper} (hg : o.guard = none) (hp : S.contains i = true) (h : SetOp P Q ops a S G E K i o) : StOp P Q ops a S G E K i o := ⟨hg, .inl ⟨hp, h⟩⟩
theorem StOp.free {ops : Array Oper} {a : Act} {S : List Nat} {G : Nat → World → Value → Prop} {E : List (Option Value) → World → Prop} {K : World → World → Prop} {i : Nat} {o : Oper} (hg : o.guard = none) (hp : S.contains i = false) (h : FreeOp P Q ops a S G E i o) : StOp P Q ops a S G E K i o := ⟨hg, .inr ⟨hp, h⟩⟩
def StAll (P : Program) (Q : Exit → Act → World → Prop) (ops : Array Oper) (a : Act) (S : List Nat) (G : Nat → World → Value → Prop) (E : List (Option Value) → World → Prop) (K : World → World → Prop) : Nat → List Oper → Prop
  | _, [] => True
  | i, o :: rest => StOp P Q ops a S G E K i o ∧ StAll P Q ops a S G E K (i + 1) rest
theorem StAll.get {ops : Array Oper} {a : Act} {S : List Nat} {G : Nat → World → Value → Prop} {E : List (Option Value) → World → Prop} {K : World → World → Prop} : ∀ (l : List Oper) (k j : Nat) (o : Oper), StAll P Q ops a S G E K k l → l[j]? = some o → StOp P Q ops a S G E K (k + j) o
  | [], _, _, _, _, h => by simp at h
  | o' :: rest, k, 0, o, h, hj => by obtain rfl : o' = o := by simpa using hj
                                     exact h.1
  | o' :: rest, k, j + 1, o, h, hj => by rw [show k + (j + 1) = k + 1 + j by omega]; exact StAll.get rest (k + 1) j o h.2 (by simpa using hj)
theorem told_out {S : List Nat} {D : Nat → Bool} {vs : Nat → Value} {i : Nat} {v : Value} (h : i ∉ S) : told S (don D i) (upd vs i v) = told S D vs := by
  refine List.map_congr_left fun j hj => ?_
  have : j ≠ i := fun e => h (by rw [← e]; exact hj)
  simp [upd, don, this]
theorem anyS_set {ops : Array Oper} {a : Act} {w : World} (hs : gdB ops = true) (S : List Nat) (hS : (S.all fun c => decide (c < ops.size)) = true) (G : Nat → World → Value → Prop) (E : List (Option Value) → World → Prop) (K : World → World → Prop)
    (hG : ∀ i w v w', G i w v → Below w.heap.size w w' → G i w' v) (hK : ∀ i w v w', G i w v → K w w' → G i w' v) (hE : ∀ l w w', E l w → Below w.heap.size w w' → E l w') (h0 : E (S.map fun _ => none) w)
    (hop : StAll P Q ops a S G E K 0 ops.toList)
    (hend : ∀ (vs : Nat → Value) (w' : World), E (S.map fun j => some (vs j)) w' → (∀ i, i < ops.size → S.contains i = false → G i w' (vs i)) → Q .normal (putAll a ops.toList vs 0) w') : wpAnyS P ops Q ops.size (Array.replicate ops.size false) a { w with drawn := w.drawn + 1 } := by
  have hnd : (ops.toList.filterMap (·.dst)).Nodup := by simp only [gdB, slotsB, Bool.and_eq_true, decide_eq_true_eq] at hs; exact hs.2
  have hSl : ∀ c ∈ S, c < ops.size := fun c hc => by simpa using List.all_eq_true.1 hS c hc
  have main : ∀ (fuel : Nat) (listed : Array Bool) (vs : Nat → Value) (w' : World), listed.size = ops.size → (unlisted ops.size listed).length ≤ fuel → E (told S (fun j => listed.getD j true) vs) w' →
      (∀ i, i < ops.size → listed.getD i true = true → S.contains i = false → G i w' (vs i)) → (∀ j, j < ops.size → listed.getD j true = false → ∀ d, (ops[j]?).bind (·.dst) = some d → vs j = a.eval (.tmp d)) → wpAnyS P ops Q fuel listed (putAll a ops.toList vs 0) w' := by
    intro fuel
    have fin : ∀ (listed : Array Bool) (vs : Nat → Value) (w' : World), E (told S (fun j => listed.getD j true) vs) w' →
        (∀ i, i < ops.size → listed.getD i true = true → S.contains i = false → G i w' (vs i)) → (∀ i, i < ops.size → listed.getD i true = true) → Q .normal (putAll a ops.toList vs 0) w' := by
      intro listed vs w' hE' hG' hall
      refine hend vs w' ?_ fun i hi hc => hG' i hi (hall i hi) hc
      have : told S (fun j => listed.getD j true) vs = S.map fun j => some (vs j) := List.map_congr_left fun j hj => by simp [hall j (hSl j hj)]
      rw [← this]; exact hE'
    induction fuel with
    | zero =>
      intro listed vs w' hsz hu hE' hG' hun
      have hall : ∀ i, i < ops.size → listed.getD i true = true := by
        intro i hi
        cases hl : listed.getD i true with
        | true => rfl
        | false =>
          have : i ∈ unlisted ops.size listed := List.mem_filter.2 ⟨List.mem_range.2 hi, by simp [hl]⟩
          rw [List.eq_nil_of_length_eq_zero (Nat.le_zero.1 hu)] at this
          cases this
      refine ⟨?_, fin listed vs w' hE' hG' hall⟩
      unfold Region.ready
      rw [List.filter_eq_nil_iff]
      intro i hi
      simp [hall i (List.mem_range.1 hi)]
    | succ fuel ih =>
      intro listed vs w' hsz hu hE' hG' hun
      refine ⟨fun hr => fin listed vs w' hE' hG' (fun i hi => all_listed_gd hs hr i hi), fun i hi => ?_⟩
      unfold Region.ready at hi
      obtain ⟨hi1, hi2⟩ := List.mem_filter.1 hi
      have hlt := List.mem_range.1 hi1
      rw [Bool.and_eq_true] at hi2
      obtain ⟨hl, hdep⟩ := hi2
      have hl' : listed.getD i true = false := by simpa using hl
      obtain ⟨o, ho⟩ : ∃ o, ops[i]? = some o := ⟨_, Array.getElem?_eq_getElem hlt⟩
      rw [ho] at hdep
      simp only [Option.map_some, Option.getD_some] at hdep
      rw [Array.all_eq_true'] at hdep
      have hgop := StAll.get ops.toList 0 i o hop (by rw [Array.getElem?_toList]; exact ho)
      rw [Nat.zero_add] at hgop
      have hdepG : ∀ e ∈ o.after, Region.binds .any e = true → e.on < ops.size ∧ listed.getD e.on true = true := by
        intro e he hbn
        have h := hdep e he
        rw [hbn] at h
        simp only [Bool.not_true, Bool.false_or] at h
        have hin : e.on < listed.size := by
          rcases Nat.lt_or_ge e.on listed.size with h' | h'
          · exact h'
          · simp [Array.getD_eq_getD_getElem?, Array.getElem?_eq_none_iff.2 h'] at h
        have hl2 : listed.getD e.on true = true := by
          simp only [Array.getD_eq_getD_getElem?, Array.getElem?_eq_getElem hin, Option.getD_some] at h ⊢
          exact h
        exact ⟨by omega, hl2⟩
      have hdepS : ∀ e ∈ o.after, Region.binds .any e = true → S.contains e.on = false → G e.on w' (vs e.on) := fun e he hbn hc => hG' e.on (hdepG e he hbn).1 (hdepG e he hbn).2 hc
      have hdepD : ∀ e ∈ o.after, Region.binds .any e = true → (fun j => listed.getD j true) e.on = true := fun e he hbn => (hdepG e he hbn).2
      have hlate : ∀ j d, (fun j => listed.getD j true) j = false → (ops[j]?).bind (·.dst) = some d → vs j = a.eval (.tmp d) := by
        intro j d hj hd
        refine hun j ?_ hj d hd
        rcases Nat.lt_or_ge j ops.size with h | h
        · exact h
        · rw [Array.getElem?_eq_none h] at hd; simp at hd
      have hset : ∀ j, (listed.setIfInBounds i true).getD j true = don (fun j => listed.getD j true) i j := fun j => by
        by_cases hji : j = i
        · subst hji
          simp [don, Array.getD_eq_getD_getElem?, Array.getElem?_setIfInBounds_self_of_lt (by omega : j < listed.size)]
        · simp [don, hji, Array.getD_eq_getD_getElem?, Array.getElem?_setIfInBounds_ne (Ne.symm hji)]
      have step : ∀ (v : Value) (w2 : World), E (told S (don (fun j => listed.getD j true) i) (upd vs i v)) w2 → (S.contains i = false → G i w2 v) → (∀ j u, S.contains j = false → G j w' u → G j w2 u) → wpAnyS P ops Q fuel (listed.setIfInBounds i true) ((putAll a ops.toList vs 0).put o.dst v) w2 := by
        intro v w2 hE2 hGi hGs
        rw [putAll_put ops.toList a vs 0 i o v hnd (by rw [Array.getElem?_toList]; exact ho), Nat.zero_add]
        refine ih _ _ _ (by simp [hsz]) (by have := unlisted_set hsz hlt hl'; omega) ?_ (fun j hj hlj hc => ?_) (fun j hj hlj d hd => ?_)
        · rw [show (fun j => (listed.setIfInBounds i true).getD j true) = don (fun j => listed.getD j true) i from funext hset]
          exact hE2
        · by_cases hji : j = i
          · subst hji
            simpa [upd] using hGi hc
          · have hlj' : listed.getD j true = true := by rw [hset] at hlj; simpa [don, hji] using hlj
            have hv : upd vs i v j = vs j := by simp [upd, hji]
            rw [hv]
            exact hGs j _ hc (hG' j hj hlj' hc)
        · have hji : j ≠ i := fun e => by
            rw [hset, e] at hlj
            simp [don] at hlj
          have hv : upd vs i v j = vs j := by simp [upd, hji]
          rw [hv]
          rw [hset] at hlj
          exact hun j hj (by simpa [don, hji] using hlj) d hd
      unfold wpOpS
      simp only [ho, Region.wanted, hgop.1, if_true]
      rcases hgop.2 with ⟨hc, hln⟩ | ⟨hc, hsd⟩
      · have hwp := hln (putAll a ops.toList vs 0) vs (fun j => listed.getD j true) w' (fun t h => eval_putAll_out _ _ _ _ _ h) (fun t j ht h => eval_putAll_in _ _ _ _ _ _ hnd ht h) hl' hE' hdepD hlate hdepS
        refine Oper.wp_mono ?_ hwp
        rintro a2 w2 ⟨v, rfl, hE2, hK2⟩
        exact step v w2 hE2 (fun h => by rw [hc] at h; cases h) (fun j u _ hg => hK j w' u w2 hg hK2)
      · have hci : i ∉ S := fun h => by rw [List.contains_iff_mem.2 h] at hc; cases hc
        have hwp := hsd (putAll a ops.toList vs 0) vs (fun j => listed.getD j true) w' (fun t h => eval_putAll_out _ _ _ _ _ h) (fun t j ht h => eval_putAll_in _ _ _ _ _ _ hnd ht h) hl' hE' hdepD hlate hdepS
        refine Oper.wp_mono ?_ hwp
        rintro a2 w2 ⟨v, rfl, hg, hb2⟩
        refine step v w2 ?_ (fun _ => hg) (fun j u _ hgj => hG j w' u w2 hgj hb2)
        rw [told_out hci]
        exact hE _ _ _ hE' hb2
  have hbz : Below w.heap.size w { w with drawn := w.drawn + 1 } := ⟨rfl, rfl, rfl, Nat.le_refl _, fun _ _ => rfl⟩
  have hno : ∀ j, j < ops.size → (Array.replicate ops.size false).getD j true = false := fun j hj => by simp [Array.getD_eq_getD_getElem?, hj]
  have h1 := main ops.size (Array.replicate ops.size false) (fun i => ((ops[i]?).bind (·.dst)).elim undef (fun d => a.tmps.getD d undef)) { w with drawn := w.drawn + 1 } (by simp)
    (by have := List.length_filter_le (fun i => !(Array.replicate ops.size false).getD i true) (List.range ops.size); simpa [unlisted] using this)
    (by
      have : told S (fun j => (Array.replicate ops.size false).getD j true) (fun i => ((ops[i]?).bind (·.dst)).elim undef (fun d => a.tmps.getD d undef)) = S.map fun _ => none := List.map_congr_left fun j hj => by simp [hno j (hSl j hj)]
      rw [this]
      exact hE _ _ _ h0 hbz)
    (fun i hi h => by rw [hno i hi] at h; cases h)
    (fun j hj _ d hd => by simp only [hd, Option.elim]; rfl)
  rw [putAll_orig ops.toList a _ 0 (fun j o d hj hd => by
    rw [Array.getElem?_toList] at hj
    simp [hj, hd])] at h1
  exact h1
theorem wp_region_set {id : Nat} {ops : Array Oper} {a : Act} {w : World} (hm : P.follows .mixedOrders = true) (hs : gdB ops = true) (S : List Nat) (hS : (S.all fun c => decide (c < ops.size)) = true) (G : Nat → World → Value → Prop) (E : List (Option Value) → World → Prop) (K : World → World → Prop)
    (hG : ∀ i w v w', G i w v → Below w.heap.size w w' → G i w' v) (hK : ∀ i w v w', G i w v → K w w' → G i w' v) (hE : ∀ l w w', E l w → Below w.heap.size w w' → E l w') (h0 : E (S.map fun _ => none) w)
    (hop : StAll P Q ops a S G E K 0 ops.toList)
    (hend : ∀ (vs : Nat → Value) (w' : World), E (S.map fun j => some (vs j)) w' → (∀ i, i < ops.size → S.contains i = false → G i w' (vs i)) → Q .normal (putAll a ops.toList vs 0) w') : (Code.region id ops true).wp P Q a w := wp_region_S hm (anyS_set hs S hS G E K hG hK hE h0 hop hend)
end
section
variable {P : Program} {Q : Exit → Act → World → Prop} {K : World → World → Prop}
theorem wp_region_setl {id : Nat} {ops : Array Oper} {a : Act} {w : World} (hm : P.follows .mixedOrders = true) (hs : gdB ops = true) (S : List Nat) (hS : (S.all fun c => decide (c < ops.size)) = true) (Gs : List (SGn K)) (E : List (Option Value) → World → Prop)
    (hE : ∀ l w w', E l w → Below w.heap.size w w' → E l w') (h0 : E (S.map fun _ => none) w)
    (hop : StAll P Q ops a S (fun i => (Gs.getD i lAny).1) E K 0 ops.toList)
    (hend : ∀ (vs : Nat → Value) (w' : World), E (S.map fun j => some (vs j)) w' → (∀ i, i < ops.size → S.contains i = false → (Gs.getD i lAny).1 w' (vs i)) → Q .normal (putAll a ops.toList vs 0) w') : (Code.region id ops true).wp P Q a w :=
  wp_region_set hm hs S hS (fun i => (Gs.getD i lAny).1) E K (fun i => (Gs.getD i lAny).2.1) (fun i => (Gs.getD i lAny).2.2) hE h0 hop hend
end
end Go.Proofs.Ytjbdkhddnblieaa
namespace Go.Proofs.Ytjbdkhddnblieaa
open Go.RowKit
def newB (W : World) (z : Option Value) (w : World) (g : Nat) : Prop := W.heap.size ≤ g ∧ g < w.heap.size ∧ ∀ b, z = some (.pointer (some ⟨b, 0, none⟩)) → g ≠ b
def newC (W : World) (o0 z : Option Value) (w : World) (g : Nat) : Prop := newB W z w g ∧ ∀ b n m, o0 = some (.slice (some ⟨b, 0, none⟩) n m) → g ≠ b
structure RdP (R : (Nat → Prop) → World → Value → Value → Prop) : Prop where
  keep : ∀ {S w w' v e}, R S w v e → (∀ k, S k → w'.heap[k]? = w.heap[k]?) → R S w' v e
  weak : ∀ {S S' w v e}, R S w v e → (∀ k, S k → S' k) → R S' w v e
structure CbS (hk : Bool) (C0 : Array Value) (E0 : TypeId) (R : (Nat → Prop) → World → Value → Value → Prop) (Z : Obj) (Bx : World → Nat → Value → Prop) (K1 K2 : (Nat → Prop) → World → Value → Prop) (W : World) (o0 o1 o2 c m x y z s : Option Value) (w : World) : Prop where
  be : Below W.heap.size W w
  k0 : ∀ u, o0 = some u → ∃ g, u = .slice (some ⟨g, 0, none⟩) C0.size C0.size ∧ newB W z w g ∧ (o1 = none → w.heap[g]? = some (.cells C0 E0 (0, 0)))
  k1 : ∀ u, o1 = some u → K1 (newB W z w) w u
  k2 : ∀ u, o2 = some u → K2 (newC W o0 z w) w u
  rr : ∀ u, c = some u → ∃ v e, u = .tuple #[v, e] ∧ R (newC W o0 z w) w v e
  mv : ∀ u, m = some u → c = some u
  mx : ∀ u, x = some u → ∃ e, m = some (.tuple #[u, e])
  my : ∀ u, y = some u → ∃ v, m = some (.tuple #[v, u])
  zz : ∀ u, z = some u → ∃ b, u = .pointer (some ⟨b, 0, none⟩) ∧ W.heap.size ≤ b ∧ b < w.heap.size ∧ (s = none → w.heap[b]? = some Z)
  sc : s ≠ none → c ≠ none
  dk : hk = true → c ≠ none → o0 ≠ none ∧ o1 ≠ none
  d1 : hk = true → o1 ≠ none → o0 ≠ none
  ss : ∀ u, s = some u → ∃ b v, z = some (.pointer (some ⟨b, 0, none⟩)) ∧ x = some v ∧ Bx w b v
section
variable {hk : Bool} {C0 : Array Value} {E0 : TypeId} {R : (Nat → Prop) → World → Value → Value → Prop} {Z : Obj} {Bx : World → Nat → Value → Prop} {K1 K2 : (Nat → Prop) → World → Value → Prop} {W w w' : World} {o0 o1 o2 c m x y z s : Option Value}
theorem CbS.start (W : World) : CbS hk C0 E0 R Z Bx K1 K2 W none none none none none none none none none W where
  be := Below.refl _ _
  k0 _ h := by cases h
  k1 _ h := by cases h
  k2 _ h := by cases h
  rr _ h := by cases h
  mv _ h := by cases h
  mx _ h := by cases h
  my _ h := by cases h
  zz _ h := by cases h
  sc h := absurd rfl h
  dk _ h := absurd rfl h
  d1 _ h := absurd rfl h
  ss _ h := by cases h
structure Stays (R : (Nat → Prop) → World → Value → Value → Prop) (Bx : World → Nat → Value → Prop) (K1 K2 : (Nat → Prop) → World → Value → Prop) : Prop extends RdP R where
  bx : ∀ {w w' b v}, Bx w b v → Below w.heap.size w w' → Bx w' b v
  s1 : ∀ {S w w' u}, K1 S w u → (∀ k, S k → w'.heap[k]? = w.heap[k]?) → K1 S w' u
  w1 : ∀ {S S' w u}, K1 S w u → (∀ k, S k → S' k) → K1 S' w u
  s2 : ∀ {S w w' u}, K2 S w u → (∀ k, S k → w'.heap[k]? = w.heap[k]?) → K2 S w' u
  w2 : ∀ {S S' w u}, K2 S w u → (∀ k, S k → S' k) → K2 S' w u
theorem CbS.more (hS : Stays R Bx K1 K2) (h : CbS hk C0 E0 R Z Bx K1 K2 W o0 o1 o2 c m x y z s w) (hb : Below w.heap.size w w') : CbS hk C0 E0 R Z Bx K1 K2 W o0 o1 o2 c m x y z s w' where
  be := h.be.trans (hb.mono h.be.size)
  k0 u hu := by
    obtain ⟨g, e, h1, h2⟩ := h.k0 u hu
    exact ⟨g, e, ⟨h1.1, Nat.lt_of_lt_of_le h1.2.1 hb.size, h1.2.2⟩, fun h3 => (hb.block g h1.2.1).trans (h2 h3)⟩
  k1 u hu := hS.w1 (hS.s1 (h.k1 u hu) fun k hk => hb.block k hk.2.1) fun k hk => ⟨hk.1, Nat.lt_of_lt_of_le hk.2.1 hb.size, hk.2.2⟩
  k2 u hu := hS.w2 (hS.s2 (h.k2 u hu) fun k hk => hb.block k hk.1.2.1) fun k hk => ⟨⟨hk.1.1, Nat.lt_of_lt_of_le hk.1.2.1 hb.size, hk.1.2.2⟩, hk.2⟩
  rr u hu := by
    obtain ⟨v, e, e1, h1⟩ := h.rr u hu
    exact ⟨v, e, e1, hS.weak (hS.keep h1 fun k hk => hb.block k hk.1.2.1) fun k hk => ⟨⟨hk.1.1, Nat.lt_of_lt_of_le hk.1.2.1 hb.size, hk.1.2.2⟩, hk.2⟩⟩
  mv := h.mv
  mx := h.mx
  my := h.my
  zz u hu := by
    obtain ⟨b, e, h1, h2, h3⟩ := h.zz u hu
    exact ⟨b, e, h1, Nat.lt_of_lt_of_le h2 hb.size, fun hs => (hb.block b h2).trans (h3 hs)⟩
  sc := h.sc
  dk := h.dk
  d1 := h.d1
  ss u hu := by
    obtain ⟨b, v, e1, e2, h1⟩ := h.ss u hu
    exact ⟨b, v, e1, e2, hS.bx h1 hb⟩
theorem CbS.new (h : CbS hk C0 E0 R Z Bx K1 K2 W o0 o1 o2 c m x y z s w) {w' : World} {g : Nat} (hg : w.heap.size ≤ g ∧ g < w'.heap.size) : newB W z w' g :=
  ⟨Nat.le_trans h.be.size hg.1, hg.2, fun b hz => by
    obtain ⟨b', e', _, h4, _⟩ := h.zz _ hz
    injection e' with e'
    injection e' with e'
    injection e' with e'
    omega⟩
theorem CbS.newOwn (h : CbS hk C0 E0 R Z Bx K1 K2 W o0 o1 o2 c m x y z s w) {w' : World} {g : Nat} (hg : w.heap.size ≤ g ∧ g < w'.heap.size) : newC W o0 z w' g :=
  ⟨h.new hg, fun b n' m' e => by
    obtain ⟨g', e', h1, _⟩ := h.k0 _ e
    injection e' with e'
    injection e' with e'
    injection e' with e'
    have := h1.2.1
    omega⟩
theorem CbS.call (hS : Stays R Bx K1 K2) (h : CbS hk C0 E0 R Z Bx K1 K2 W o0 o1 o2 none m x y z s w) (hd : hk = true → o1 ≠ none) {v e : Value} (hb : Below w.heap.size w w') (hr : R (fun g => w.heap.size ≤ g ∧ g < w'.heap.size) w' v e) : CbS hk C0 E0 R Z Bx K1 K2 W o0 o1 o2 (some (.tuple #[v, e])) m x y z s w' := by
  have h2 := h.more hS hb
  have hm : m = none := by
    cases hm : m with
    | none => rfl
    | some u => have := h.mv u hm; cases this
  exact { h2 with
    rr := fun u hu => by
      injection hu with hu
      exact ⟨v, e, hu.symm, hS.weak hr fun g hg => h.newOwn hg⟩
    mv := fun u hu => by rw [hm] at hu; cases hu
    sc := fun _ => by simp
    dk := fun h1 _ => ⟨h.d1 h1 (hd h1), hd h1⟩ }
theorem CbS.move {u : Value} (h : CbS hk C0 E0 R Z Bx K1 K2 W o0 o1 o2 (some u) none x y z s w) : CbS hk C0 E0 R Z Bx K1 K2 W o0 o1 o2 (some u) (some u) x y z s w :=
  { h with
    mv := fun _ e => e
    mx := fun u' hu => by obtain ⟨e, h2⟩ := h.mx u' hu; cases h2
    my := fun u' hu => by obtain ⟨e, h2⟩ := h.my u' hu; cases h2 }
theorem CbS.tup {u : Value} (h : CbS hk C0 E0 R Z Bx K1 K2 W o0 o1 o2 c (some u) x y z s w) : ∃ v e, u = .tuple #[v, e] := by
  obtain ⟨v, e, h1, _⟩ := h.rr u (h.mv u rfl)
  exact ⟨v, e, h1⟩
theorem CbS.ex0 {v e : Value} (h : CbS hk C0 E0 R Z Bx K1 K2 W o0 o1 o2 c (some (.tuple #[v, e])) none y z s w) : CbS hk C0 E0 R Z Bx K1 K2 W o0 o1 o2 c (some (.tuple #[v, e])) (some v) y z s w :=
  { h with
    mx := fun u hu => by injection hu with hu; exact ⟨e, by rw [hu]⟩
    ss := fun u hu => by obtain ⟨b, v', _, e2, _⟩ := h.ss u hu; cases e2 }
theorem CbS.ex1 {v e : Value} (h : CbS hk C0 E0 R Z Bx K1 K2 W o0 o1 o2 c (some (.tuple #[v, e])) x none z s w) : CbS hk C0 E0 R Z Bx K1 K2 W o0 o1 o2 c (some (.tuple #[v, e])) x (some e) z s w :=
  { h with my := fun u hu => by injection hu with hu; exact ⟨v, by rw [hu]⟩ }
theorem CbS.alloc (hS : Stays R Bx K1 K2) (h : CbS hk C0 E0 R Z Bx K1 K2 W o0 o1 o2 c m x y none s w) (hb : Below w.heap.size w w') (hz : w'.heap[w.heap.size]? = some Z) : CbS hk C0 E0 R Z Bx K1 K2 W o0 o1 o2 c m x y (some (.pointer (some ⟨w.heap.size, 0, none⟩))) s w' := by
  have h2 := h.more hS hb
  have hn : ∀ k, newB W none w k → newB W (some (.pointer (some ⟨w.heap.size, 0, none⟩))) w' k := fun k hk => ⟨hk.1, Nat.lt_of_lt_of_le hk.2.1 hb.size, fun b e2 => by
    injection e2 with e2
    injection e2 with e2
    injection e2 with e2
    injection e2 with e2
    have := hk.2.1
    omega⟩
  have hn2 : ∀ k, newC W o0 none w k → newC W o0 (some (.pointer (some ⟨w.heap.size, 0, none⟩))) w' k := fun k hk => ⟨hn k hk.1, hk.2⟩
  exact { h2 with
    k0 := fun u hu => by
      obtain ⟨g, e, h1, h3⟩ := h.k0 u hu
      exact ⟨g, e, hn g h1, fun h4 => (hb.block g h1.2.1).trans (h3 h4)⟩
    k1 := fun u hu => hS.w1 (hS.s1 (h.k1 u hu) fun k hk => hb.block k hk.2.1) hn
    k2 := fun u hu => hS.w2 (hS.s2 (h.k2 u hu) fun k hk => hb.block k hk.1.2.1) hn2
    rr := fun u hu => by
      obtain ⟨v, e, e1, h1⟩ := h.rr u hu
      exact ⟨v, e, e1, hS.weak (hS.keep h1 fun k hk => hb.block k hk.1.2.1) hn2⟩
    zz := fun u hu => by
      injection hu with hu
      exact ⟨_, hu.symm, h.be.size, (Array.getElem?_eq_some_iff.1 hz).1, fun _ => hz⟩
    ss := fun u hu => by obtain ⟨b, v', e1, _, _⟩ := h.ss u hu; cases e1 }
theorem CbS.box {p : Value} (h : CbS hk C0 E0 R Z Bx K1 K2 W o0 o1 o2 c m x y (some p) none w) : ∃ b, p = .pointer (some ⟨b, 0, none⟩) ∧ w.heap[b]? = some Z := by
  obtain ⟨b, e, _, _, h3⟩ := h.zz p rfl
  exact ⟨b, e, h3 rfl⟩
theorem CbS.sto (hS : Stays R Bx K1 K2) {v u : Value} {b : Nat} (h : CbS hk C0 E0 R Z Bx K1 K2 W o0 o1 o2 c m (some v) y (some (.pointer (some ⟨b, 0, none⟩))) none w) (hg : w.grownBy w' (some b)) (hx : Bx w' b v) : CbS hk C0 E0 R Z Bx K1 K2 W o0 o1 o2 c m (some v) y (some (.pointer (some ⟨b, 0, none⟩))) (some u) w' := by
  obtain ⟨b', e, hb1, hb2, _⟩ := h.zz _ rfl
  injection e with e
  injection e with e
  injection e with e
  subst e
  obtain ⟨e0, hm⟩ := h.mx v rfl
  have hc := h.mv _ hm
  have hne : c ≠ none := by rw [hc]; simp
  have hbe : Below W.heap.size W w' := h.be.grown hg h.be.size fun k e => by injection e with e; omega
  have hkb : ∀ k, newB W (some (.pointer (some ⟨b, 0, none⟩))) w k → w'.heap[k]? = w.heap[k]? := fun k hk => hg.block k hk.2.1 fun e2 => by injection e2 with e2; exact hk.2.2 _ rfl e2
  have hsz : ∀ k, newB W (some (.pointer (some ⟨b, 0, none⟩))) w k → newB W (some (.pointer (some ⟨b, 0, none⟩))) w' k := fun k hk => ⟨hk.1, Nat.lt_of_lt_of_le hk.2.1 hg.size, hk.2.2⟩
  exact { h with
    be := hbe
    k0 := fun u hu => by
      obtain ⟨g, e, h1, h3⟩ := h.k0 u hu
      exact ⟨g, e, hsz g h1, fun h4 => (hkb g h1).trans (h3 h4)⟩
    k1 := fun u hu => hS.w1 (hS.s1 (h.k1 u hu) hkb) hsz
    k2 := fun u hu => hS.w2 (hS.s2 (h.k2 u hu) fun k hk => hkb k hk.1) fun k hk => ⟨hsz k hk.1, hk.2⟩
    rr := fun u hu => by
      obtain ⟨v, e, e1, h1⟩ := h.rr u hu
      exact ⟨v, e, e1, hS.weak (hS.keep h1 fun k hk => hkb k hk.1) fun k hk => ⟨hsz k hk.1, hk.2⟩⟩
    zz := fun u hu => by
      injection hu with hu
      exact ⟨b, hu.symm, hb1, Nat.lt_of_lt_of_le hb2 hg.size, fun e => by cases e⟩
    sc := fun _ => hne
    ss := fun _ _ => ⟨b, v, rfl, rfl, hx⟩ }
theorem CbS.done (hR : RdP R) {u1 u2 u3 u4 u5 : Value} (h : CbS hk C0 E0 R Z Bx K1 K2 W o0 o1 o2 (some u1) (some u2) (some u3) (some u4) (some u5) s w) (hs : s ≠ none) : ∃ b, u5 = .pointer (some ⟨b, 0, none⟩) ∧ u2 = .tuple #[u3, u4] ∧ u1 = .tuple #[u3, u4] ∧ W.heap.size ≤ b ∧ Bx w b u3 ∧ R (fun g => W.heap.size ≤ g ∧ g < w.heap.size ∧ g ≠ b) w u3 u4 ∧ Below W.heap.size W w := by
  obtain ⟨u, rfl⟩ := Option.ne_none_iff_exists'.1 hs
  obtain ⟨b, v, e1, e2, h1⟩ := h.ss u rfl
  obtain ⟨e, h2⟩ := h.mx u3 rfl
  obtain ⟨e', h3⟩ := h.my u4 rfl
  have h4 := h.mv _ h2
  injection e1 with e1
  injection e2 with e2
  injection h2 with h2
  injection h3 with h3
  subst e1 e2
  rw [h2] at h3
  injection h3 with h3
  injection h3 with h3
  injection h3 with e5 h3
  injection h3 with e6 _
  subst e5 e6 h2
  injection h4 with h4
  subst h4
  obtain ⟨v', e', e7, h5⟩ := h.rr _ rfl
  injection e7 with e7
  injection e7 with e7
  injection e7 with e8 e7
  injection e7 with e9 _
  subst e8 e9
  obtain ⟨b', e, hb1, _, _⟩ := h.zz _ rfl
  injection e with e
  injection e with e
  injection e with e
  subst e
  exact ⟨b, rfl, rfl, rfl, hb1, h1, hR.weak h5 fun k hk => ⟨hk.1.1, hk.1.2.1, hk.1.2.2 _ rfl⟩, h.be⟩
def CbL (C0 : Array Value) (E0 : TypeId) (R : (Nat → Prop) → World → Value → Value → Prop) (Z : Obj) (Bx : World → Nat → Value → Prop) (K1 K2 : (Nat → Prop) → World → Value → Prop) (W : World) : List (Option Value) → World → Prop
  | [c, m, x, y, z, s], w => CbS false C0 E0 R Z Bx K1 K2 W none none none c m x y z s w
  | [o0, o1, o2, c, m, x, y, z, s], w => CbS true C0 E0 R Z Bx K1 K2 W o0 o1 o2 c m x y z s w
  | _, _ => False
theorem CbL.more (hS : Stays R Bx K1 K2) : ∀ (l : List (Option Value)) (w w' : World), CbL C0 E0 R Z Bx K1 K2 W l w → Below w.heap.size w w' → CbL C0 E0 R Z Bx K1 K2 W l w'
  | [_, _, _, _, _, _], _, _, h, hb => CbS.more hS h hb
  | [_, _, _, _, _, _, _, _, _], _, _, h, hb => CbS.more hS h hb
end
end Go.Proofs.Ytjbdkhddnblieaa
namespace Go.Proofs.Ytjbdkhddnblieaa
open Go.RowKit
def DlR (r : Dl × Nat) (S : Nat → Prop) (w : World) (v e : Value) : Prop := e = .int .i64 (r.2 : Nat) ∧ RdDl S w v r.1
def DlB (w : World) (b : Nat) (v : Value) : Prop := ∃ x y, v = .agg #[x, y] ∧ BoxN w b 25 [x, y]
def zDl : Obj := .cells [Value.slice none 0 0, .slice none 0 0].toArray 25 (0, 0)
theorem RdDl.keep {S : Nat → Prop} {w w' : World} {v : Value} {d : Dl} (h : RdDl S w v d) (hk : ∀ k, S k → w'.heap[k]? = w.heap[k]?) : RdDl S w' v d := by
  obtain ⟨a, c, a2, c2, e, h1, h2⟩ := h
  exact ⟨a, c, a2, c2, e, h1.keep hk, h2.keep hk⟩
def AnyV (_ : Nat → Prop) (_ : World) (_ : Value) : Prop := True
theorem dlR (r : Dl × Nat) : RdP (DlR r) where
  keep := fun ⟨e, h⟩ hk => ⟨e, h.keep hk⟩
  weak := fun ⟨e, h⟩ hk => ⟨e, h.weak hk⟩
theorem CbS.errD {hk : Bool} {C0 : Array Value} {E0 : TypeId} {r : Dl × Nat} {Z : Obj} {Bx : World → Nat → Value → Prop} {K1 K2 : (Nat → Prop) → World → Value → Prop} {W w : World} {o0 o1 o2 c m x z s : Option Value} {u : Value}
    (h : CbS hk C0 E0 (DlR r) Z Bx K1 K2 W o0 o1 o2 c m x (some u) z s w) : u = .int .i64 (r.2 : Nat) := by
  obtain ⟨v, e1⟩ := h.my u rfl
  obtain ⟨v', e', e2, e3, _⟩ := h.rr _ (h.mv _ e1)
  injection e2 with e2
  injection e2 with e2
  injection e2 with _ e2
  injection e2 with e2 _
  rw [e2, e3]
theorem dlStays (r : Dl × Nat) : Stays (DlR r) DlB AnyV AnyV where
  toRdP := dlR r
  bx := fun ⟨x, y, e, h⟩ hb => ⟨x, y, e, h.below hb h.lt⟩
  s1 := fun _ _ => trivial
  w1 := fun _ _ => trivial
  s2 := fun _ _ => trivial
  w2 := fun _ _ => trivial
theorem RdDl.fit {S : Nat → Prop} {w : World} {v : Value} {d : Dl} (h : RdDl S w v d) : RdDl (fun k => S k ∧ k < w.heap.size) w v d := by
  obtain ⟨a, c, a2, c2, e, h1, h2⟩ := h
  exact ⟨a, c, a2, c2, e, h1.fit, h2.fit⟩
theorem RdDl.past {b : Nat} {w w' : World} {v : Value} {d : Dl} (h : RdDl (· ≠ b) w v d) (hg : w.grownBy w' (some b)) : RdDl (· ≠ b) w' v d :=
  (h.fit.keep fun k hk => hg.block k hk.2 fun e => by injection e with e; exact hk.1 e).weak fun _ hk => hk.1
end Go.Proofs.Ytjbdkhddnblieaa
namespace Go.Proofs.Ytjbdkhddnblieaa
open Go.RowKit Go.Shelf
theorem mark_cases (d : Dl) : (0 < (markD d).2 ∧ (markD d).1 = d) ∨ ((markD d).2 = 0 ∧ (markD d).1 = ⟨d.writes, d.marks ++ [(d.writes.length : Int)]⟩ ∧ okD (markD d).1) := by
  unfold markD
  split
  · rename_i h
    split
    · exact .inl ⟨by show 0 < 80; omega, rfl⟩
    · rename_i hl
      exact .inr ⟨rfl, rfl, mark_ok h hl⟩
  · exact .inl ⟨by show 0 < 1; omega, rfl⟩
def DbkR (w : World) (bb ba : Nat) (vd va : List Value) (m0 : Dl) (l : List Wr) (v : Value) (wr : World) : Prop :=
  ∃ (i : Nat) (b : Dl) (p1 : Option Addr) (k1 : Nat) (p2 : Option Addr) (k2 : Nat), v = .int .i64 (i : Int) ∧ i ≤ l.length ∧ BoxN wr w.heap.size 25 vd ∧ BoxN wr ba 25 va ∧ BoxN wr bb 25 [.slice p1 b.writes.length k1, .slice p2 b.marks.length k2] ∧
    RdDl (· ≠ bb) wr (.agg va.toArray) m0 ∧ RdDl (· ≠ bb) wr (.agg #[.slice p1 b.writes.length k1, .slice p2 b.marks.length k2]) b ∧ FromD m0 b ∧ Below w.heap.size w wr
theorem okD_sm {d : Dl} (h : okD d) : smD d := ⟨by have := h.1; omega, by have := h.2.1; omega, fun y hy => by have := h.2.2.1 y hy; unfold mayW at this; omega⟩
theorem FromD.self {a : Dl} (h : okD a) : FromD a a := ⟨h, ⟨[], by simp⟩, ⟨[], by simp⟩⟩
set_option maxRecDepth 100000 in
set_option maxHeartbeats 16000000 in
theorem DeltaBack_w (w : World) {cs0 : Array Value} {a1 : Option Addr} {n1 c1 : Nat} {t : Int} {d : Dl} {l : List Wr} (h0 : RdDl (· < w.heap.size) w (.agg cs0) d) (h1 : RdL Elt.wr (· < w.heap.size) w (.slice a1 n1 c1) l) (h2 : 0 ≤ t) (h3 : t < 4294967296) :
    Calls Try.prog 5 #[.agg cs0, .slice a1 n1 c1, .int .u32 t] w fun e w' => e = .returned (.bool true) ∧ Below w.heap.size w w' := by
  have _ := h2
  have _ := h3
  have hd := h0
  obtain ⟨a, c, a', c', e, hw, hm⟩ := h0
  injection e with e
  subst e
  obtain ⟨rfl, hnc, hcm⟩ := h1.len
  have hll : l.length ≤ 9223372036854775807 := by unfold maxLen at hcm; omega
  have hlm : d.marks.length ≤ 9223372036854775807 := by have := hm.len; unfold maxLen at this; omega
  obtain ⟨W0, hW⟩ : ∃ W0, W0 = w.alloc (.cells #[.slice a d.writes.length c, .slice a' d.marks.length c'] 25) := ⟨_, rfl⟩
  have q : Below w.heap.size w W0 := by rw [hW]; exact (Below.refl _ _).alloc (Nat.le_refl _) _
  have xD : BoxN W0 w.heap.size 25 [.slice a d.writes.length c, .slice a' d.marks.length c'] := by rw [hW]; exact BoxN.new _ _ _
  have hD := hd.below q
  clear hw hm hnc hcm
  go_enter Try.func5, Try.ntmps5
  go_upto_region 1 with (fail)
  rw [← hW]
  clear hW
  go_wp2_with fail
  have hcl := awake8_any W0
  refine hcl.mono ?_
  rintro e w1 ⟨rfl, hb⟩
  clear hcl
  replace hD := hD.below hb
  replace xD := xD.below hb xD.lt
  replace q := q.trans (hb.mono q.size)
  clear hb
  have b0 := xD.cell (i := 0) rfl
  have b1 := xD.cell (i := 1) rfl
  have hcl := few_any w1 hD
  go_wp2_with fail
  refine hcl.mono ?_
  rintro e w2 ⟨rfl, hb⟩
  clear hcl b0 b1
  replace hD := hD.below hb
  replace xD := xD.below hb xD.lt
  replace q := q.trans (hb.mono q.size)
  clear hb
  have b0 := xD.cell (i := 0) rfl
  have b1 := xD.cell (i := 1) rfl
  by_cases hf : fewD d
  case neg =>
    rw [decide_eq_false hf]
    go_wp2_with fail
    go_ret
    exact ⟨rfl, q⟩
  rw [decide_eq_true hf]
  have hsd : smD d := ⟨by have := hf.1; omega, by have := hf.2.1; omega, fun y hy => by have := hf.2.2 y hy; omega⟩
  clear hf
  rcases Nat.lt_or_ge 20 l.length with g0 | g0
  · have d0 : decide ((20 : Int) < (l.length : Int)) = true := decide_eq_true (by omega)
    go_wp2_with fail
    go_ret
    exact ⟨rfl, q⟩
  have d0 : decide ((20 : Int) < (l.length : Int)) = false := decide_eq_false (by omega)
  have hcl := dMark_any w2 hD hsd
  go_wp2_with fail
  refine hcl.mono ?_
  rintro e w3 ⟨vA, rfl, ⟨aA, cA, mA, nA, rfl, rwA, rmA⟩, hb⟩
  clear hcl b0 b1 d0
  replace rwA : RdL Elt.wr (fun _ => True) _ _ _ := rwA.weak fun _ _ => trivial
  replace rmA : RdL Elt.int (fun _ => True) _ _ _ := rmA.weak fun _ _ => trivial
  replace hD := hD.below hb
  replace xD := xD.below hb xD.lt
  replace q := q.trans (hb.mono q.size)
  clear hb
  go_upto_region 5 with (first | (refine wpList_boxNew (vs := [.slice none 0 0, .slice none 0 0]) (by kernel_rfl) rfl rfl ?_; intro wa hba hBa) | (refine wpList_boxStore (us := [.slice aA ((markD d).1).writes.length cA, .slice mA ((markD d).1).marks.length nA]) (by kernel_rfl) rfl rfl rfl rfl rfl rfl hBa rfl ?_; intro w4 hgw xA) | fail)
  try go_simp
  have hbw := hba.grown hgw hba.size fun k hk => by injection hk with hk; omega
  replace hD := hD.below hbw
  replace xD := xD.below hbw xD.lt
  replace rwA := rwA.below hbw
  replace rmA := rmA.below hbw
  replace q := q.trans (hbw.mono q.size)
  clear hbw hgw hba hBa
  rcases mark_cases d with ⟨h9, h8⟩ | ⟨h9, h8, hok⟩
  · have d1 : ((((markD d).2 : Nat) : Int) != 0) = true := bne_iff_ne.2 (by omega)
    have d2 : decide ((((markD d).2 : Nat) : Int) = 0) = false := decide_eq_false (by omega)
    have b0 := xD.cell (i := 0) rfl
    have b1 := xD.cell (i := 1) rfl
    have p0 := xA.cell (i := 0) rfl
    have p1 := xA.cell (i := 1) rfl
    have hcl := refSame_any w4 ⟨aA, cA, mA, nA, rfl, rwA, rmA⟩ hD
    rw [decide_eq_true h8] at hcl
    clear h8 h9
    go_wp2_with fail
    refine hcl.mono ?_
    rintro e w5 ⟨rfl, hb⟩
    clear hcl b0 b1 p0 p1
    replace hD := hD.below hb
    replace xD := xD.below hb xD.lt
    replace rwA := rwA.below hb
    replace rmA := rmA.below hb
    replace xA := xA.below hb xA.lt
    replace q := q.trans (hb.mono q.size)
    clear hb
    go_wp2_with fail
    go_ret
    exact ⟨rfl, q⟩
  have d3 := h9
  obtain ⟨m0, hm0⟩ : ∃ m0, m0 = (markD d).1 := ⟨_, rfl⟩
  rw [← hm0] at h8 hok rwA rmA xA ⊢
  rw [h9]
  replace h8 := Lib.hid h8
  replace hok := Lib.hid hok
  clear hm0 h9
  have b0 := xD.cell (i := 0) rfl
  have b1 := xD.cell (i := 1) rfl
  have p0 := xA.cell (i := 0) rfl
  have p1 := xA.cell (i := 1) rfl
  have zA := xA.lt
  have zD := xD.lt
  have rA : RdDl (· ≠ w4.heap.size) w4 (.agg #[.slice aA m0.writes.length cA, .slice mA m0.marks.length nA]) m0 := (RdDl.fit ⟨_, _, _, _, rfl, rwA, rmA⟩).weak fun k hk => by have := hk.2; omega
  clear rwA rmA
  go_simp
  go_upto_region 10 with (first | (refine wpList_boxNew (vs := [.slice none 0 0, .slice none 0 0]) (by kernel_rfl) rfl rfl ?_; intro wa hba hBa) | (refine wpList_boxStore (us := [.slice aA m0.writes.length cA, .slice mA m0.marks.length nA]) (by kernel_rfl) rfl rfl rfl rfl rfl rfl hBa rfl ?_; intro w6 hgw xB) | fail)
  try go_simp
  have hbw := hba.grown hgw hba.size fun k hk => by injection hk with hk; omega
  replace hD := hD.below hbw
  replace xD := xD.below hbw xD.lt
  replace xA := xA.below hbw xA.lt
  replace rA := rA.below hbw
  replace q := q.trans (hbw.mono q.size)
  clear hbw hgw hba hBa p0 p1 b0 b1
  obtain ⟨ba, hba⟩ : ∃ ba, ba = w3.heap.size := ⟨_, rfl⟩
  obtain ⟨bb, hbb⟩ : ∃ bb, bb = w4.heap.size := ⟨_, rfl⟩
  have zB := xB.lt
  rw [← hba] at zA xA
  rw [← hbb] at xB rA
  have hab : ba ≠ bb := by omega
  have hDb : w.heap.size ≠ bb := by omega
  have hgb : w.heap.size ≤ bb := by omega
  rw [← hba, ← hbb]
  have r0 : DbkR w bb ba [.slice a d.writes.length c, .slice a' d.marks.length c'] [.slice aA m0.writes.length cA, .slice mA m0.marks.length nA] m0 l (.int .i64 ((0 : Nat) : Int)) w6 := ⟨0, m0, _, _, _, _, rfl, Nat.zero_le _, xD, xA, xB, rA, rA, FromD.self hok.out, q⟩
  clear q xD xA xB rA hD zA zB zD hba hbb
  go_loopw [12] (fun v wr => DbkR w bb ba [.slice a d.writes.length c, .slice a' d.marks.length c'] [.slice aA m0.writes.length cA, .slice mA m0.marks.length nA] m0 l v wr) (fun v _ => l.length - (intOf v).toNat)
  case atStart => exact r0
  case round =>
    obtain ⟨i, b, p1, k1, p2, k2, rfl, hil, xD, xA, xB, rA, rB, fB, q⟩ := hrel
    clear r0
    have zB := xB.lt
    have hsb : smD b := okD_sm fB.1
    rcases Nat.lt_or_ge i l.length with hlt | hge
    · obtain ⟨bw, ow, kw, lw, mw, nw, eL, wL0, y0, y1, y2, y3, hkW, hvW, htW⟩ := h1.wr i hlt
      subst eL
      have hkl : l[i].key.length ≤ 9223372036854775807 := by have := hkW.len; unfold maxLen at this; omega
      have hvl : l[i].val.length ≤ 9223372036854775807 := by have := hvW.len; unfold maxLen at this; omega
      have z1 := (q.cell (p := ⟨bw, ow + i * 4 + 1, none⟩) wL0).trans y1
      have z3 := (q.cell (p := ⟨bw, ow + i * 4 + 3, none⟩) wL0).trans y3
      have d0 : decide ((i : Int) < (l.length : Int)) = true := decide_eq_true (by omega)
      rcases Nat.lt_or_ge 100 l[i].key.length with g1 | g1
      · have d1 : decide ((100 : Int) < (l[i].key.length : Int)) = true := decide_eq_true (by omega)
        go_wp2_with fail
        go_ret
        exact ⟨rfl, q⟩
      have d1 : decide ((100 : Int) < (l[i].key.length : Int)) = false := decide_eq_false (by omega)
      rcases Nat.lt_or_ge 100 l[i].val.length with g2 | g2
      · have d2 : decide ((100 : Int) < (l[i].val.length : Int)) = true := decide_eq_true (by omega)
        go_wp2_with fail
        go_ret
        exact ⟨rfl, q⟩
      have d2 : decide ((100 : Int) < (l[i].val.length : Int)) = false := decide_eq_false (by omega)
      have hk1 : l[i].key.length ≤ 1000000 := by omega
      have hk2 : l[i].val.length ≤ 1000000 := by omega
      go_upto_region 15 with (fail)
      · clear d0 d1 d2 g1 g2 hkl hvl z1 z3
        have b0 := xB.cell (i := 0) rfl
        have b1 := xB.cell (i := 1) rfl
        have hcl := dMark_any wr rB hsb
        go_wp2_with fail
        refine hcl.mono ?_
        rintro e w7 ⟨vC, rfl, ⟨aC, cC, mC, nC, rfl, rwC, rmC⟩, hb⟩
        clear hcl b0 b1
        replace rwC : RdL Elt.wr ((· ≠ bb)) _ _ _ := rwC.weak fun k hk => by have := hk.1; omega
        replace rmC : RdL Elt.int ((· ≠ bb)) _ _ _ := rmC.weak fun k hk => by have := hk.1; omega
        replace xD := xD.below hb xD.lt
        replace xA := xA.below hb xA.lt
        replace xB := xB.below hb xB.lt
        replace rA := rA.below hb
        replace rB := rB.below hb
        replace q := q.trans (hb.mono q.size)
        clear hb
        go_upto_region 16 with (first | (refine wpList_boxNew (vs := [.slice none 0 0, .slice none 0 0]) (by kernel_rfl) rfl rfl ?_; intro wa hba hBa) | (refine wpList_boxStore (us := [.slice aC ((markD b).1).writes.length cC, .slice mC ((markD b).1).marks.length nC]) (by kernel_rfl) rfl rfl rfl rfl rfl rfl hBa rfl ?_; intro w8 hgw xC) | fail)
        try go_simp
        have hbw := hba.grown hgw hba.size fun k hk => by injection hk with hk; omega
        replace xD := xD.below hbw xD.lt
        replace xA := xA.below hbw xA.lt
        replace xB := xB.below hbw xB.lt
        replace rA := rA.below hbw
        replace rB := rB.below hbw
        replace rwC := rwC.below hbw
        replace rmC := rmC.below hbw
        replace q := q.trans (hbw.mono q.size)
        clear hbw hgw hba hBa
        clear rB
        have b0 := xC.cell (i := 0) rfl
        have b1 := xC.cell (i := 1) rfl
        go_upto_region 17 with (first | (refine wpList_boxStore (us := [.slice aC (markD b).1.writes.length cC, .slice mC (markD b).1.marks.length nC]) (by kernel_rfl) rfl rfl rfl rfl rfl rfl xB rfl ?_; intro w9 hg9 xB9) | fail)
        replace q := q.grown hg9 q.size fun k e => by injection e with e; omega
        replace xD := xD.other hg9 fun e => by injection e with e; exact hDb e.symm
        replace xA := xA.other hg9 fun e => by injection e with e; exact hab e.symm
        replace rA := rA.past hg9
        have rB9 : RdDl (· ≠ bb) w9 (.agg #[.slice aC (markD b).1.writes.length cC, .slice mC (markD b).1.marks.length nC]) (markD b).1 := RdDl.past ⟨_, _, _, _, rfl, rwC, rmC⟩ hg9
        have zB9 := xB9.lt
        have f9 := fB.mark
        clear rwC rmC xC xB zB b0 b1 hg9 fB hsb
        obtain ⟨dn, hb9⟩ : ∃ dn, dn = (markD b).1 := ⟨_, rfl⟩
        rw [← hb9] at rB9 xB9 f9
        rw [← hb9]
        clear hb9
        have hs9 := okD_sm f9.1
        have hW0 : RdWr (fun _ => True) w9 (.agg #[.int .i64 l[i].table, .slice kw l[i].key.length lw, .bool l[i].gone, .slice mw l[i].val.length nw]) l[i] := ((show RdWr (· < w.heap.size) w (.agg #[.int .i64 l[i].table, .slice kw l[i].key.length lw, .bool l[i].gone, .slice mw l[i].val.length nw]) l[i] from ⟨_, _, _, _, rfl, hkW, hvW, htW⟩).below q).weak fun _ _ => trivial
        have eP : ∀ args w, (callFunc 10 args).run Try.prog w = .ok (.enter 10 args) w := enters_of Try.func10 (by kernel_rfl) rfl
        refine wp_region_setl (K := fun _ _ => True) (by kernel_rfl) (by kernel_rfl) [5, 6, 7, 8, 9, 10] (by kernel_rfl) [lEq (.agg #[.slice aC dn.writes.length cC, .slice mC dn.marks.length nC]), lEq (.slice (some ⟨bw, ow, none⟩) l.length c1), lEq (.int .i64 (i : Int)), lEq (.pointer (some ⟨bw, ow + i * 4, none⟩)), lEq (.agg #[.int .i64 l[i].table, .slice kw l[i].key.length lw, .bool l[i].gone, .slice mw l[i].val.length nw]), lAny, lAny, lAny, lAny, lAny, lAny, lEq (.int .i64 ((putD dn l[i]).2 : Nat))]
          (CbL #[] 5 (DlR (putD dn l[i])) zDl DlB AnyV AnyV w9) (CbL.more (dlStays (putD dn l[i]))) (CbS.start _)
          ⟨?o0, ?o1, ?o2, ?o3, ?o4, ?o5, ?o6, ?o7, ?o8, ?o9, ?o10, ?o11, trivial⟩ ?fin
        case o0 =>
          refine StOp.free rfl (by kernel_rfl) (fun A va D w' hF hT hN hE hd hu hg => ?_)
          have e1 : A.eval (.tmp 11) = .pointer (some ⟨bb, 0, none⟩) := hF 11 rfl
          have hBE := hE.be
          exact wp_load2 dlS rfl e1 ((xB9.below hBE xB9.lt).cell (i := 0) rfl) ((xB9.below hBE xB9.lt).cell (i := 1) rfl) ⟨_, rfl, rfl, Below.refl _ _⟩
        case o1 =>
          refine StOp.free rfl (by kernel_rfl) (fun A va D w' hF hT hN hE hd hu hg => ?_)
          have e1 : A.eval (.tmp 1) = .slice (some ⟨bw, ow, none⟩) l.length c1 := hF 1 rfl
          exact BigFrame.wp_move _ rfl ⟨_, rfl, e1, Below.refl _ _⟩
        case o2 =>
          refine StOp.free rfl (by kernel_rfl) (fun A va D w' hF hT hN hE hd hu hg => ?_)
          have e1 : A.eval (.tmp 12) = .int .i64 (i : Int) := hF 12 rfl
          exact BigFrame.wp_move _ rfl ⟨_, rfl, e1, Below.refl _ _⟩
        case o3 =>
          refine StOp.free rfl (by kernel_rfl) (fun A va D w' hF hT hN hE hd hu hg => ?_)
          have e1 : A.eval (.tmp 83) = .slice (some ⟨bw, ow, none⟩) l.length c1 := (hT 83 1 (by simp) rfl).trans (hg ⟨1, .data⟩ (by simp) rfl rfl)
          have e2 : A.eval (.tmp 84) = .int .i64 (i : Int) := (hT 84 2 (by simp) rfl).trans (hg ⟨2, .data⟩ (by simp) rfl rfl)
          exact wp_ixN (e := 28) rfl (by kernel_rfl) (by kernel_rfl) (e1) (e2) rfl (by omega) ⟨_, rfl, rfl, Below.refl _ _⟩
        case o4 =>
          refine StOp.free rfl (by kernel_rfl) (fun A va D w' hF hT hN hE hd hu hg => ?_)
          have e1 : A.eval (.tmp 85) = .pointer (some ⟨bw, ow + i * 4, none⟩) := (hT 85 3 (by simp) rfl).trans (hg ⟨3, .data⟩ (by simp) rfl rfl)
          have hBE := hE.be
          exact wp_load4 wrS rfl e1 (((q.trans (hBE.mono q.size)).cell (p := ⟨bw, ow + i * 4, none⟩) wL0).trans y0) (((q.trans (hBE.mono q.size)).cell (p := ⟨bw, ow + i * 4 + 1, none⟩) wL0).trans y1) (((q.trans (hBE.mono q.size)).cell (p := ⟨bw, ow + i * 4 + 2, none⟩) wL0).trans y2) (((q.trans (hBE.mono q.size)).cell (p := ⟨bw, ow + i * 4 + 3, none⟩) wL0).trans y3) ⟨_, rfl, rfl, Below.refl _ _⟩
        case o5 =>
          refine StOp.set rfl (by kernel_rfl) (fun A va D w' hF hT hN hE hd hu hg => ?_)
          have e1 : A.eval (.tmp 82) = .agg #[.slice aC dn.writes.length cC, .slice mC dn.marks.length nC] := (hT 82 0 (by simp) rfl).trans (hg ⟨0, .data⟩ (by simp) rfl rfl)
          have e2 : A.eval (.tmp 86) = .agg #[.int .i64 l[i].table, .slice kw l[i].key.length lw, .bool l[i].gone, .slice mw l[i].val.length nw] := (hT 86 4 (by simp) rfl).trans (hg ⟨4, .data⟩ (by simp) rfl rfl)
          have hE2 := hE
          simp only [told, List.map_cons, List.map_nil, hN, Bool.false_eq_true, if_false] at hE2
          have hBE := hE2.be
          refine wp_callFn rfl eP (args := #[.agg #[.slice aC dn.writes.length cC, .slice mC dn.marks.length nC], .agg #[.int .i64 l[i].table, .slice kw l[i].key.length lw, .bool l[i].gone, .slice mw l[i].val.length nw]]) (by simp only [List.map_toArray, List.map_cons, List.map_nil, e1, e2]) ((dPut_any w' (rB9.below hBE) hs9 (hW0.below hBE) hk1 hk2).mono ?_)
          rintro e w2 ⟨v, rfl, hrd, hb2⟩
          have h5 := CbS.call (dlStays (putD dn l[i])) hE2 (by simp) hb2 (v := v) (e := .int .i64 _) ⟨rfl, hrd⟩
          exact ⟨_, rfl, _, rfl, by simpa [CbL, told, don, upd] using h5, trivial⟩
        case o6 =>
          refine StOp.set rfl (by kernel_rfl) (fun A va D w' hF hT hN hE hd hu hg => ?_)
          have x1 : A.eval (.tmp 87) = va 5 := hT 87 5 (by simp) rfl
          have hE2 := hE
          have d5 : D 5 = true := hd ⟨5, .data⟩ (by simp) rfl
          simp only [told, List.map_cons, List.map_nil, hN, d5, Bool.false_eq_true, if_false, if_true] at hE2
          have h5 := CbS.move hE2
          exact BigFrame.wp_move _ rfl ⟨_, rfl, by rw [x1]; simpa [CbL, told, don, upd, d5] using h5, trivial⟩
        case o7 =>
          refine StOp.set rfl (by kernel_rfl) (fun A va D w' hF hT hN hE hd hu hg => ?_)
          have x1 : A.eval (.tmp 81) = va 6 := hT 81 6 (by simp) rfl
          have hE2 := hE
          have d6 : D 6 = true := hd ⟨6, .data⟩ (by simp) rfl
          simp only [told, List.map_cons, List.map_nil, hN, d6, Bool.false_eq_true, if_false, if_true] at hE2
          obtain ⟨v, e, em⟩ := CbS.tup hE2
          rw [em] at hE2
          have h5 := CbS.ex0 hE2
          exact wp_ex rfl (x1.trans em) rfl ⟨_, rfl, by simpa [CbL, told, don, upd, d6, em] using h5, trivial⟩
        case o8 =>
          refine StOp.set rfl (by kernel_rfl) (fun A va D w' hF hT hN hE hd hu hg => ?_)
          have x1 : A.eval (.tmp 81) = va 6 := hT 81 6 (by simp) rfl
          have hE2 := hE
          have d6 : D 6 = true := hd ⟨6, .data⟩ (by simp) rfl
          simp only [told, List.map_cons, List.map_nil, hN, d6, Bool.false_eq_true, if_false, if_true] at hE2
          obtain ⟨v, e, em⟩ := CbS.tup hE2
          rw [em] at hE2
          have h5 := CbS.ex1 hE2
          exact wp_ex rfl (x1.trans em) rfl ⟨_, rfl, by simpa [CbL, told, don, upd, d6, em] using h5, trivial⟩
        case o9 =>
          refine StOp.set rfl (by kernel_rfl) (fun A va D w' hF hT hN hE hd hu hg => ?_)
          have hE2 := hE
          simp only [told, List.map_cons, List.map_nil, hN, Bool.false_eq_true, if_false] at hE2
          refine wp_boxNew (vs := [.slice none 0 0, .slice none 0 0]) (by kernel_rfl) rfl (fun w2 hb2 hz => ⟨_, rfl, ?_, trivial⟩)
          have h5 := CbS.alloc (dlStays (putD dn l[i])) hE2 hb2 hz
          simpa [CbL, told, don, upd] using h5
        case o10 =>
          refine StOp.set rfl (by kernel_rfl) (fun A va D w' hF hT hN hE hd hu hg => ?_)
          have x1 : A.eval (.tmp 15) = va 9 := hT 15 9 (by simp) rfl
          have x2 : A.eval (.tmp 88) = va 7 := hT 88 7 (by simp) rfl
          have hE2 := hE
          have d9 : D 9 = true := hd ⟨9, .data⟩ (by simp) rfl
          have d7 : D 7 = true := hd ⟨7, .data⟩ (by simp) rfl
          simp only [told, List.map_cons, List.map_nil, hN, d9, d7, Bool.false_eq_true, if_false, if_true] at hE2
          obtain ⟨b9, eb, hb0⟩ := CbS.box hE2
          obtain ⟨e, hm⟩ := hE2.mx _ rfl
          obtain ⟨v, e2, ec, _, hrd⟩ := hE2.rr _ (hE2.mv _ hm)
          obtain ⟨A1, B1, A2, B2, ev, _⟩ := id hrd
          injection ec with ec
          injection ec with ec
          injection ec with ec _
          rw [← ec] at ev
          refine wp_boxStore (vs := [.slice none 0 0, .slice none 0 0]) (us := [.slice A1 _ B1, .slice A2 _ B2]) (by kernel_rfl) rfl (x1.trans eb) (x2.trans ev) rfl hb0 rfl (fun w2 hg2 ht2 => ⟨_, rfl, ?_, trivial⟩)
          rw [eb] at hE2
          have h5 := CbS.sto (u := undef) (dlStays (putD dn l[i])) hE2 hg2 ⟨_, _, ev, ht2⟩
          simpa [CbL, told, don, upd, d9, d7, eb] using h5
        case o11 =>
          refine StOp.free rfl (by kernel_rfl) (fun A va D w' hF hT hN hE hd hu hg => ?_)
          have x1 : A.eval (.tmp 89) = va 8 := hT 89 8 (by simp) rfl
          have hE2 := hE
          have d8 : D 8 = true := hd ⟨8, .data⟩ (by simp) rfl
          simp only [told, List.map_cons, List.map_nil, d8, if_true] at hE2
          have ee := CbS.errD hE2
          exact BigFrame.wp_assign _ rfl ⟨_, rfl, x1.trans ee, Below.refl _ _⟩
        case fin =>
        intro vs1 W1 hE hG
        obtain ⟨bM, ez, em, ec, hbM, hBx, hR, hbE⟩ := CbS.done (dlR _) hE (by simp)
        obtain ⟨ee, hM⟩ := hR
        obtain ⟨u1, u2, ev, xM⟩ := hBx
        have g0 : vs1 0 = .agg #[.slice aC dn.writes.length cC, .slice mC dn.marks.length nC] := hG 0 (by decide) rfl
        have g1 : vs1 1 = .slice (some ⟨bw, ow, none⟩) l.length c1 := hG 1 (by decide) rfl
        have g2 : vs1 2 = .int .i64 (i : Int) := hG 2 (by decide) rfl
        have g3 : vs1 3 = .pointer (some ⟨bw, ow + i * 4, none⟩) := hG 3 (by decide) rfl
        have g4 : vs1 4 = .agg #[.int .i64 l[i].table, .slice kw l[i].key.length lw, .bool l[i].gone, .slice mw l[i].val.length nw] := hG 4 (by decide) rfl
        have g11 : vs1 11 = .int .i64 ((putD dn l[i]).2 : Nat) := hG 11 (by decide) rfl
        simp only [putAll, g0, g1, g2, g3, g4, g11, ec, em, ev, ee, ez]
        rw [ev] at hM
        clear hE hG ec em ev ee ez g0 g1 g2 g3 g4 g11
        obtain ⟨P1, Q1, P2, Q2, eM, _, _⟩ := id hM
        injection eM with eM
        injection eM with eM
        injection eM with eM1 eM
        injection eM with eM2 _
        subst eM1 eM2
        have xB2 := xB9.below hbE xB9.lt
        replace xD := xD.below hbE xD.lt
        replace xA := xA.below hbE xA.lt
        replace rA := rA.below hbE
        replace q := q.trans (hbE.mono q.size)
        clear hbE hW0
        replace hM := hM.weak (S' := (· ≠ bb)) fun k hk => by have := hk.1; omega
        have hbM2 := hbM
        go_simp
        have m0c := xM.cell (i := 0) rfl
        have m1c := xM.cell (i := 1) rfl
        go_wp2_with (first | (refine wpList_boxStore (us := [.slice P1 (putD dn l[i]).1.writes.length Q1, .slice P2 (putD dn l[i]).1.marks.length Q2]) (by kernel_rfl) rfl rfl rfl rfl rfl rfl xB2 rfl ?_; intro w12 hg2 xB3) | fail)
        go_roundw
        case rel =>
          exact ⟨i + 1, (putD dn l[i]).1, _, _, _, _, by go_num, by omega, xD.other hg2 fun e => by injection e with e; exact hDb e.symm, xA.other hg2 fun e => by injection e with e; exact hab e.symm, xB3, rA.past hg2, hM.past hg2, f9.put l[i], q.grown hg2 q.size fun k e => by injection e with e; omega⟩
        case measure => simp [intOf]; omega
      · clear d0 d1 d2 g1 g2 hkl hvl z1 z3
        have hW0 : RdWr (fun _ => True) wr (.agg #[.int .i64 l[i].table, .slice kw l[i].key.length lw, .bool l[i].gone, .slice mw l[i].val.length nw]) l[i] := ((show RdWr (· < w.heap.size) w (.agg #[.int .i64 l[i].table, .slice kw l[i].key.length lw, .bool l[i].gone, .slice mw l[i].val.length nw]) l[i] from ⟨_, _, _, _, rfl, hkW, hvW, htW⟩).below q).weak fun _ _ => trivial
        have eP : ∀ args w, (callFunc 10 args).run Try.prog w = .ok (.enter 10 args) w := enters_of Try.func10 (by kernel_rfl) rfl
        refine wp_region_setl (K := fun _ _ => True) (by kernel_rfl) (by kernel_rfl) [5, 6, 7, 8, 9, 10] (by kernel_rfl) [lEq (.agg #[.slice p1 b.writes.length k1, .slice p2 b.marks.length k2]), lEq (.slice (some ⟨bw, ow, none⟩) l.length c1), lEq (.int .i64 (i : Int)), lEq (.pointer (some ⟨bw, ow + i * 4, none⟩)), lEq (.agg #[.int .i64 l[i].table, .slice kw l[i].key.length lw, .bool l[i].gone, .slice mw l[i].val.length nw]), lAny, lAny, lAny, lAny, lAny, lAny, lEq (.int .i64 ((putD b l[i]).2 : Nat))]
          (CbL #[] 5 (DlR (putD b l[i])) zDl DlB AnyV AnyV wr) (CbL.more (dlStays (putD b l[i]))) (CbS.start _)
          ⟨?o0, ?o1, ?o2, ?o3, ?o4, ?o5, ?o6, ?o7, ?o8, ?o9, ?o10, ?o11, trivial⟩ ?fin
        case o0 =>
          refine StOp.free rfl (by kernel_rfl) (fun A va D w' hF hT hN hE hd hu hg => ?_)
          have e1 : A.eval (.tmp 11) = .pointer (some ⟨bb, 0, none⟩) := hF 11 rfl
          have hBE := hE.be
          exact wp_load2 dlS rfl e1 ((xB.below hBE xB.lt).cell (i := 0) rfl) ((xB.below hBE xB.lt).cell (i := 1) rfl) ⟨_, rfl, rfl, Below.refl _ _⟩
        case o1 =>
          refine StOp.free rfl (by kernel_rfl) (fun A va D w' hF hT hN hE hd hu hg => ?_)
          have e1 : A.eval (.tmp 1) = .slice (some ⟨bw, ow, none⟩) l.length c1 := hF 1 rfl
          exact BigFrame.wp_move _ rfl ⟨_, rfl, e1, Below.refl _ _⟩
        case o2 =>
          refine StOp.free rfl (by kernel_rfl) (fun A va D w' hF hT hN hE hd hu hg => ?_)
          have e1 : A.eval (.tmp 12) = .int .i64 (i : Int) := hF 12 rfl
          exact BigFrame.wp_move _ rfl ⟨_, rfl, e1, Below.refl _ _⟩
        case o3 =>
          refine StOp.free rfl (by kernel_rfl) (fun A va D w' hF hT hN hE hd hu hg => ?_)
          have e1 : A.eval (.tmp 83) = .slice (some ⟨bw, ow, none⟩) l.length c1 := (hT 83 1 (by simp) rfl).trans (hg ⟨1, .data⟩ (by simp) rfl rfl)
          have e2 : A.eval (.tmp 84) = .int .i64 (i : Int) := (hT 84 2 (by simp) rfl).trans (hg ⟨2, .data⟩ (by simp) rfl rfl)
          exact wp_ixN (e := 28) rfl (by kernel_rfl) (by kernel_rfl) (e1) (e2) rfl (by omega) ⟨_, rfl, rfl, Below.refl _ _⟩
        case o4 =>
          refine StOp.free rfl (by kernel_rfl) (fun A va D w' hF hT hN hE hd hu hg => ?_)
          have e1 : A.eval (.tmp 85) = .pointer (some ⟨bw, ow + i * 4, none⟩) := (hT 85 3 (by simp) rfl).trans (hg ⟨3, .data⟩ (by simp) rfl rfl)
          have hBE := hE.be
          exact wp_load4 wrS rfl e1 (((q.trans (hBE.mono q.size)).cell (p := ⟨bw, ow + i * 4, none⟩) wL0).trans y0) (((q.trans (hBE.mono q.size)).cell (p := ⟨bw, ow + i * 4 + 1, none⟩) wL0).trans y1) (((q.trans (hBE.mono q.size)).cell (p := ⟨bw, ow + i * 4 + 2, none⟩) wL0).trans y2) (((q.trans (hBE.mono q.size)).cell (p := ⟨bw, ow + i * 4 + 3, none⟩) wL0).trans y3) ⟨_, rfl, rfl, Below.refl _ _⟩
        case o5 =>
          refine StOp.set rfl (by kernel_rfl) (fun A va D w' hF hT hN hE hd hu hg => ?_)
          have e1 : A.eval (.tmp 82) = .agg #[.slice p1 b.writes.length k1, .slice p2 b.marks.length k2] := (hT 82 0 (by simp) rfl).trans (hg ⟨0, .data⟩ (by simp) rfl rfl)
          have e2 : A.eval (.tmp 86) = .agg #[.int .i64 l[i].table, .slice kw l[i].key.length lw, .bool l[i].gone, .slice mw l[i].val.length nw] := (hT 86 4 (by simp) rfl).trans (hg ⟨4, .data⟩ (by simp) rfl rfl)
          have hE2 := hE
          simp only [told, List.map_cons, List.map_nil, hN, Bool.false_eq_true, if_false] at hE2
          have hBE := hE2.be
          refine wp_callFn rfl eP (args := #[.agg #[.slice p1 b.writes.length k1, .slice p2 b.marks.length k2], .agg #[.int .i64 l[i].table, .slice kw l[i].key.length lw, .bool l[i].gone, .slice mw l[i].val.length nw]]) (by simp only [List.map_toArray, List.map_cons, List.map_nil, e1, e2]) ((dPut_any w' (rB.below hBE) hsb (hW0.below hBE) hk1 hk2).mono ?_)
          rintro e w2 ⟨v, rfl, hrd, hb2⟩
          have h5 := CbS.call (dlStays (putD b l[i])) hE2 (by simp) hb2 (v := v) (e := .int .i64 _) ⟨rfl, hrd⟩
          exact ⟨_, rfl, _, rfl, by simpa [CbL, told, don, upd] using h5, trivial⟩
        case o6 =>
          refine StOp.set rfl (by kernel_rfl) (fun A va D w' hF hT hN hE hd hu hg => ?_)
          have x1 : A.eval (.tmp 87) = va 5 := hT 87 5 (by simp) rfl
          have hE2 := hE
          have d5 : D 5 = true := hd ⟨5, .data⟩ (by simp) rfl
          simp only [told, List.map_cons, List.map_nil, hN, d5, Bool.false_eq_true, if_false, if_true] at hE2
          have h5 := CbS.move hE2
          exact BigFrame.wp_move _ rfl ⟨_, rfl, by rw [x1]; simpa [CbL, told, don, upd, d5] using h5, trivial⟩
        case o7 =>
          refine StOp.set rfl (by kernel_rfl) (fun A va D w' hF hT hN hE hd hu hg => ?_)
          have x1 : A.eval (.tmp 81) = va 6 := hT 81 6 (by simp) rfl
          have hE2 := hE
          have d6 : D 6 = true := hd ⟨6, .data⟩ (by simp) rfl
          simp only [told, List.map_cons, List.map_nil, hN, d6, Bool.false_eq_true, if_false, if_true] at hE2
          obtain ⟨v, e, em⟩ := CbS.tup hE2
          rw [em] at hE2
          have h5 := CbS.ex0 hE2
          exact wp_ex rfl (x1.trans em) rfl ⟨_, rfl, by simpa [CbL, told, don, upd, d6, em] using h5, trivial⟩
        case o8 =>
          refine StOp.set rfl (by kernel_rfl) (fun A va D w' hF hT hN hE hd hu hg => ?_)
          have x1 : A.eval (.tmp 81) = va 6 := hT 81 6 (by simp) rfl
          have hE2 := hE
          have d6 : D 6 = true := hd ⟨6, .data⟩ (by simp) rfl
          simp only [told, List.map_cons, List.map_nil, hN, d6, Bool.false_eq_true, if_false, if_true] at hE2
          obtain ⟨v, e, em⟩ := CbS.tup hE2
          rw [em] at hE2
          have h5 := CbS.ex1 hE2
          exact wp_ex rfl (x1.trans em) rfl ⟨_, rfl, by simpa [CbL, told, don, upd, d6, em] using h5, trivial⟩
        case o9 =>
          refine StOp.set rfl (by kernel_rfl) (fun A va D w' hF hT hN hE hd hu hg => ?_)
          have hE2 := hE
          simp only [told, List.map_cons, List.map_nil, hN, Bool.false_eq_true, if_false] at hE2
          refine wp_boxNew (vs := [.slice none 0 0, .slice none 0 0]) (by kernel_rfl) rfl (fun w2 hb2 hz => ⟨_, rfl, ?_, trivial⟩)
          have h5 := CbS.alloc (dlStays (putD b l[i])) hE2 hb2 hz
          simpa [CbL, told, don, upd] using h5
        case o10 =>
          refine StOp.set rfl (by kernel_rfl) (fun A va D w' hF hT hN hE hd hu hg => ?_)
          have x1 : A.eval (.tmp 15) = va 9 := hT 15 9 (by simp) rfl
          have x2 : A.eval (.tmp 88) = va 7 := hT 88 7 (by simp) rfl
          have hE2 := hE
          have d9 : D 9 = true := hd ⟨9, .data⟩ (by simp) rfl
          have d7 : D 7 = true := hd ⟨7, .data⟩ (by simp) rfl
          simp only [told, List.map_cons, List.map_nil, hN, d9, d7, Bool.false_eq_true, if_false, if_true] at hE2
          obtain ⟨b9, eb, hb0⟩ := CbS.box hE2
          obtain ⟨e, hm⟩ := hE2.mx _ rfl
          obtain ⟨v, e2, ec, _, hrd⟩ := hE2.rr _ (hE2.mv _ hm)
          obtain ⟨A1, B1, A2, B2, ev, _⟩ := id hrd
          injection ec with ec
          injection ec with ec
          injection ec with ec _
          rw [← ec] at ev
          refine wp_boxStore (vs := [.slice none 0 0, .slice none 0 0]) (us := [.slice A1 _ B1, .slice A2 _ B2]) (by kernel_rfl) rfl (x1.trans eb) (x2.trans ev) rfl hb0 rfl (fun w2 hg2 ht2 => ⟨_, rfl, ?_, trivial⟩)
          rw [eb] at hE2
          have h5 := CbS.sto (u := undef) (dlStays (putD b l[i])) hE2 hg2 ⟨_, _, ev, ht2⟩
          simpa [CbL, told, don, upd, d9, d7, eb] using h5
        case o11 =>
          refine StOp.free rfl (by kernel_rfl) (fun A va D w' hF hT hN hE hd hu hg => ?_)
          have x1 : A.eval (.tmp 89) = va 8 := hT 89 8 (by simp) rfl
          have hE2 := hE
          have d8 : D 8 = true := hd ⟨8, .data⟩ (by simp) rfl
          simp only [told, List.map_cons, List.map_nil, d8, if_true] at hE2
          have ee := CbS.errD hE2
          exact BigFrame.wp_assign _ rfl ⟨_, rfl, x1.trans ee, Below.refl _ _⟩
        case fin =>
        intro vs1 W1 hE hG
        obtain ⟨bM, ez, em, ec, hbM, hBx, hR, hbE⟩ := CbS.done (dlR _) hE (by simp)
        obtain ⟨ee, hM⟩ := hR
        obtain ⟨u1, u2, ev, xM⟩ := hBx
        have g0 : vs1 0 = .agg #[.slice p1 b.writes.length k1, .slice p2 b.marks.length k2] := hG 0 (by decide) rfl
        have g1 : vs1 1 = .slice (some ⟨bw, ow, none⟩) l.length c1 := hG 1 (by decide) rfl
        have g2 : vs1 2 = .int .i64 (i : Int) := hG 2 (by decide) rfl
        have g3 : vs1 3 = .pointer (some ⟨bw, ow + i * 4, none⟩) := hG 3 (by decide) rfl
        have g4 : vs1 4 = .agg #[.int .i64 l[i].table, .slice kw l[i].key.length lw, .bool l[i].gone, .slice mw l[i].val.length nw] := hG 4 (by decide) rfl
        have g11 : vs1 11 = .int .i64 ((putD b l[i]).2 : Nat) := hG 11 (by decide) rfl
        simp only [putAll, g0, g1, g2, g3, g4, g11, ec, em, ev, ee, ez]
        rw [ev] at hM
        clear hE hG ec em ev ee ez g0 g1 g2 g3 g4 g11
        obtain ⟨P1, Q1, P2, Q2, eM, _, _⟩ := id hM
        injection eM with eM
        injection eM with eM
        injection eM with eM1 eM
        injection eM with eM2 _
        subst eM1 eM2
        have xB2 := xB.below hbE xB.lt
        replace xD := xD.below hbE xD.lt
        replace xA := xA.below hbE xA.lt
        replace rA := rA.below hbE
        replace q := q.trans (hbE.mono q.size)
        clear hbE hW0
        replace hM := hM.weak (S' := (· ≠ bb)) fun k hk => by have := hk.1; omega
        have hbM2 := hbM
        go_simp
        have m0c := xM.cell (i := 0) rfl
        have m1c := xM.cell (i := 1) rfl
        go_wp2_with (first | (refine wpList_boxStore (us := [.slice P1 (putD b l[i]).1.writes.length Q1, .slice P2 (putD b l[i]).1.marks.length Q2]) (by kernel_rfl) rfl rfl rfl rfl rfl rfl xB2 rfl ?_; intro w12 hg2 xB3) | fail)
        go_roundw
        case rel =>
          exact ⟨i + 1, (putD b l[i]).1, _, _, _, _, by go_num, by omega, xD.other hg2 fun e => by injection e with e; exact hDb e.symm, xA.other hg2 fun e => by injection e with e; exact hab e.symm, xB3, rA.past hg2, hM.past hg2, fB.put l[i], q.grown hg2 q.size fun k e => by injection e with e; omega⟩
        case measure => simp [intOf]; omega
    · obtain rfl : i = l.length := by omega
      have d0 : decide ((l.length : Int) < (l.length : Int)) = false := decide_eq_false (by omega)
      have hbk : backD b (d.marks.length : Int) = (m0, 0) := by
        have h7 := fB
        rw [h8.out] at h7 ⊢
        exact FromD.back h7
      have b0 := xB.cell (i := 0) rfl
      have b1 := xB.cell (i := 1) rfl
      have p0 := xD.cell (i := 0) rfl
      have p1 := xD.cell (i := 1) rfl
      have hcl := dBack_any wr (i := (d.marks.length : Int)) rB hsb
      rw [hbk] at hcl
      go_wp2_with fail
      refine hcl.mono ?_
      rintro e w7 ⟨vE, rfl, ⟨aE, cE, mE, nE, rfl, rwE, rmE⟩, hb⟩
      clear hcl b0 b1 p0 p1
      replace rwE : RdL Elt.wr (fun _ => True) _ _ _ := rwE.weak fun _ _ => trivial
      replace rmE : RdL Elt.int (fun _ => True) _ _ _ := rmE.weak fun _ _ => trivial
      replace xD := xD.below hb xD.lt
      replace xA := xA.below hb xA.lt
      replace xB := xB.below hb xB.lt
      replace rA := rA.below hb
      replace rB := rB.below hb
      replace q := q.trans (hb.mono q.size)
      clear hb
      go_upto_region 20 with (first | (refine wpList_boxNew (vs := [.slice none 0 0, .slice none 0 0]) (by kernel_rfl) rfl rfl ?_; intro wa hba hBa) | (refine wpList_boxStore (us := [.slice aE (m0).writes.length cE, .slice mE (m0).marks.length nE]) (by kernel_rfl) rfl rfl rfl rfl rfl rfl hBa rfl ?_; intro w8 hgw xE) | fail)
      try go_simp
      have hbw := hba.grown hgw hba.size fun k hk => by injection hk with hk; omega
      replace xD := xD.below hbw xD.lt
      replace xA := xA.below hbw xA.lt
      replace xB := xB.below hbw xB.lt
      replace rA := rA.below hbw
      replace rB := rB.below hbw
      replace rwE := rwE.below hbw
      replace rmE := rmE.below hbw
      replace q := q.trans (hbw.mono q.size)
      clear hbw hgw hba hBa
      clear hbk
      have b0 := xE.cell (i := 0) rfl
      have b1 := xE.cell (i := 1) rfl
      have p0 := xA.cell (i := 0) rfl
      have p1 := xA.cell (i := 1) rfl
      have hcl := refSame_any w8 (show RdDl _ _ _ m0 from ⟨aE, cE, mE, nE, rfl, rwE, rmE⟩) rA
      rw [decide_eq_true rfl] at hcl
      go_wp2_with fail
      refine hcl.mono ?_
      rintro e w9 ⟨rfl, hb⟩
      clear hcl b0 b1 p0 p1 xE rwE rmE
      replace xD := xD.below hb xD.lt
      replace xA := xA.below hb xA.lt
      replace xB := xB.below hb xB.lt
      replace rA := rA.below hb
      replace rB := rB.below hb
      replace q := q.trans (hb.mono q.size)
      clear hb
      have b0 := xB.cell (i := 0) rfl
      have b1 := xB.cell (i := 1) rfl
      have hcl := dCheck_any w9 rB
      rw [decide_eq_true fB.1] at hcl
      go_wp2_with fail
      refine hcl.mono ?_
      rintro e w10 ⟨rfl, hb⟩
      clear hcl b0 b1
      replace xD := xD.below hb xD.lt
      replace xA := xA.below hb xA.lt
      replace xB := xB.below hb xB.lt
      replace rA := rA.below hb
      replace rB := rB.below hb
      replace q := q.trans (hb.mono q.size)
      clear hb
      go_wp2_with fail
      go_ret
      exact ⟨rfl, q⟩
end Go.Proofs.Ytjbdkhddnblieaa
namespace Go.Proofs.Ytjbdkhddnblieaa
theorem done_sub {w : Wr} {y : Pq} {l : List Pq} (h : y ∈ doneW w l) : y = ⟨w.key, w.val⟩ ∨ y ∈ l := by
  unfold doneW at h
  split at h
  · exact .inr (List.mem_filter.1 h).1
  · exact insE_mem h
theorem overW_sub {x : Sp} {y : Pq} : ∀ {ws : List Wr} {l : List Pq}, y ∈ overW x ws l → (∃ w ∈ ws, y = ⟨w.key, w.val⟩) ∨ y ∈ l
  | [], _, h => .inr h
  | w :: ws, l, h => by
    rw [overW_cons] at h
    rcases overW_sub h with ⟨u, hu, e⟩ | h
    · exact .inl ⟨u, List.mem_cons_of_mem _ hu, e⟩
    · unfold stepW at h
      split at h
      · rcases done_sub h with e | h
        · exact .inl ⟨w, List.mem_cons_self, e⟩
        · exact .inr h
      · exact .inr h
theorem overW_len {x : Sp} : ∀ (ws : List Wr) (l : List Pq), (overW x ws l).length ≤ l.length + ws.length
  | [], _ => Nat.le_refl _
  | w :: ws, l => by
    rw [overW_cons]
    have h1 := overW_len (x := x) ws (stepW x l w)
    have h2 : (stepW x l w).length ≤ l.length + 1 := by
      unfold stepW
      split
      · exact done_len w l
      · omega
    simp only [List.length_cons]
    omega
theorem over_sm {d : Dl} {x : Sp} {l : List Pq} (hl : shP l) (hd : fewD d) : smQ (overD d x l) ∧ (overD d x l).length ≤ 200 := by
  have hw : (lastD d).length ≤ 30 := by
    unfold lastD
    split
    · exact Nat.le_trans (last_len _) hd.1
    · simp
  have hm : ∀ w ∈ lastD d, w.key.length ≤ 100 ∧ w.val.length ≤ 100 := fun w h => by
    unfold lastD at h
    split at h
    · exact hd.2.2 w (last_mem h)
    · cases h
  have h3 : (overD d x l).length ≤ 200 := by
    unfold overD
    split
    · have := overW_len (x := x) (lastD d) l; have := hl.1; omega
    · have := hl.1; omega
  refine ⟨⟨by omega, fun y hy => ?_⟩, h3⟩
  unfold overD at hy
  split at hy
  · rcases overW_sub hy with ⟨w, h1, rfl⟩ | h1
    · have := hm w h1; exact ⟨by show w.key.length ≤ _; omega, by show w.val.length ≤ _; omega⟩
    · have := hl.2 y h1; omega
  · have := hl.2 y hy; omega
end Go.Proofs.Ytjbdkhddnblieaa
