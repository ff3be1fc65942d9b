/-
  TEXTS OF ONE PROOF, merged: SpJ, SpanKeepsW.
-/
import Derived.Test.YtcopdnigfnmnkaaMk5
namespace Go.Proofs.Ytcopdnigfnmnkaa
open Go.RowKit Go.Shelf
section
variable {ops : Array Oper} {rest : List Oper} {o : Oper} {a : Act} {Q : Exit → Act → World → Prop} {w : World}
theorem wpList_byte1 (hP : ByP Try.prog 22 5 9) {o' : Oper} {k : Int} {d : Tmp} (ho : o.op = .buildSlice 22 1 #[(0, .const (.int .u8 k))]) (hgd' : ∀ u, Region.wanted o' (yielded ops (a.put o.dst u).tmps) = true) (hgd : Region.wanted o (yielded ops a.tmps) = true) (hd : o.dst = some d) (hlt : d < a.tmps.size)
    (ho' : o'.op = .convert 22 22 (.tmp d)) (hk : 0 ≤ k ∧ k < 256)
    (h : ∀ u g n w', Below w.heap.size w w' → Rd w'.heap.size w' (.slice (some ⟨g, 0, none⟩) n n) [UInt8.ofNat k.toNat] → wpList Try.prog ops Q rest ((a.put (some d) u).put o'.dst (.slice (some ⟨g, 0, none⟩) n n)) w') : wpList Try.prog ops Q (o :: o' :: rest) a w :=
  wpList_const hP ho hgd' hgd hd hlt ho' [UInt8.ofNat k.toNat] (by
    simp [bv, Act.eval]
    omega) rfl (by simp) h
end
theorem RdL.made {α : Type} {E : Elt α} {S : Nat → Prop} {w : World} {x : α} {us : List Value} {b : Nat} {t : TypeId} (hx : E.R S w x us) (hrow : w.heap[b]? = some (.cells us.toArray t (0, 0))) (hS : S b) : RdL E S w (.slice (some ⟨b, 0, none⟩) 1 1) [x] :=
  ⟨_, 1, rfl, Nat.le_refl _, by unfold maxLen; omega, .inr ⟨b, 0, rfl, hS, fun r h => by
    obtain rfl : r = 0 := by simpa using h
    exact ⟨us, hx, fun j u hj => by simp [World.cell?, hrow, hj]⟩⟩⟩
def aS10 : Sp := pointS 1 [97]
def bS10 : Sp := ⟨1, [98], [], true⟩
def cS10 : Sp := pointS 1 [65]
theorem add10_1 : addS [aS10] bS10 2 = ([aS10, bS10], 0) := by decide
theorem add10_2 : addS [aS10, bS10] cS10 2 = ([allS 1], 0) := by decide
theorem add10_3 : addS [aS10, bS10] ⟨4, [], [], false⟩ 2 = ([aS10, bS10], 1) := by decide
theorem RdSp.kf {n : Nat} {A B : World} {S : Nat → Prop} {v : Value} {x : Sp} (h : RdSp S A v x) (hk : KF n A B) : RdSp S B v x := by
  obtain ⟨a, c, a2, c2, e, h1, h2, h3⟩ := h
  exact ⟨a, c, a2, c2, e, h1.kf hk, h2.kf hk, h3⟩
theorem RdL.kfS {n : Nat} {A B : World} {S : Nat → Prop} {v : Value} {l : List Sp} (h : RdL Elt.sp S A v l) (hk : KF n A B) : RdL Elt.sp S B v l := by
  obtain ⟨a, cap, e, h1, h2, h3⟩ := h
  refine ⟨a, cap, e, h1, h2, h3.imp id fun ⟨b, off, ea, hb, hr⟩ => ⟨b, off, ea, hb, fun r hl => ?_⟩⟩
  obtain ⟨vs, ⟨k, u, rfl, h4, h5, h6⟩, hc⟩ := hr r hl
  exact ⟨_, ⟨k, u, rfl, h4.kf hk, h5.kf hk, h6⟩, fun j u hj => (hk.cell (cell_lt (hc j u hj))).trans (hc j u hj)⟩
def skSp {n : Nat} (x : Sp) : SGZ n := ⟨fun w v => RdSp (fun _ => True) w v x, fun _ _ _ h hk => h.kf hk⟩
def skSps {n : Nat} (l : List Sp) : SGZ n := ⟨fun w v => ∃ a c, v = .slice a l.length c ∧ RdL Elt.sp (fun _ => True) w (.slice a l.length c) l, fun _ _ _ ⟨a, c, e, h⟩ hk => ⟨a, c, e, h.kfS hk⟩⟩
theorem run_buildSp0 (w : World) : (Instr.build 24 #[]).run Try.prog w = .ok (.agg #[.int .i64 0, .slice none 0 0, .slice none 0 0, .bool false]) w := by kernel_rfl
theorem run_buildSp1 (w : World) : (Instr.build 24 #[(0, .int .i64 (-1))]).run Try.prog w = .ok (.agg #[.int .i64 (-1), .slice none 0 0, .slice none 0 0, .bool false]) w := by kernel_rfl
theorem wp_buildV {P : Program} {o : Oper} {a : Act} {K : Act → World → Prop} {Q : Exit → Act → World → Prop} {w : World} {t : TypeId} {parts : Array (Nat × Operand)} {ps : Array (Nat × Value)} {v : Value} (ho : o.op = .build t parts) (hp : (parts.map fun p => (p.1, a.eval p.2)) = ps) (hr : (Instr.build t ps).run P w = .ok v w) (h : K (a.put o.dst v) w) : o.wp P a w K Q := by
  unfold Oper.wp execOp
  simp only [ho, hp, Sem.run_bind, Sem.run_pure, Result.andThen_ok, hr]
  exact h
set_option maxRecDepth 100000 in
set_option maxHeartbeats 32000000 in
theorem awake10_any (w : World) : Calls Try.prog 8 #[] w fun e w' => e = .returned (.bool true) ∧ Below w.heap.size w w' := by
  go_enter Try.func8, Try.ntmps8
  try dsimp only [List.append]
  have q := Below.refl w.heap.size w
  go_wp2_with (first | (refine wpList_byte1 byP rfl (fun _ => rfl) rfl rfl (by first | (simp; done) | (simp [Act.put]; done)) rfl (by decide) ?_; intro u1 g1 k1 w1 hb1 hr1) | fail)
  obtain rfl : k1 = 1 := hr1.s.len.1
  replace hr1 : RdS (fun _ => True) _ (.slice (some ⟨g1, 0, none⟩) 1 1) [97] := hr1.s.weak fun _ _ => trivial
  replace q := q.trans (hb1.mono q.size)
  clear hb1
  have hcl := sPoint_any _ (t := 1) hr1 (by unfold W64; decide) (by decide)
  rw [show pointS 1 [97] = aS10 from rfl] at hcl
  refine hcl.mono ?_
  rintro e w2 ⟨vA, rfl, ⟨aA, cA, mA, nA, rfl, rlA, rhA, rtA⟩, hb⟩
  clear hcl hr1
  replace rlA : RdS (fun _ => True) _ _ _ := rlA.weak fun _ _ => trivial
  replace rhA : RdS (fun _ => True) _ _ _ := rhA.weak fun _ _ => trivial
  replace q := q.trans (hb.mono q.size)
  clear hb
  go_upto_region 2 with (first | (refine wpList_boxNew (vs := [.int .i64 0, .slice none 0 0, .slice none 0 0, .bool false]) (by kernel_rfl) rfl rfl ?_; intro wa hba hBa) | (refine wpList_boxStore (us := [.int .i64 aS10.table, .slice aA aS10.lo.length cA, .slice mA aS10.hi.length nA, .bool aS10.isOpen]) (by kernel_rfl) rfl rfl rfl rfl rfl rfl hBa rfl ?_; intro w3 hgw xA) | fail)
  try go_simp
  have hbw := hba.grown hgw hba.size fun k hk => by injection hk with hk; omega
  replace rlA := rlA.below hbw
  replace rhA := rhA.below hbw
  replace q := q.trans (hbw.mono q.size)
  clear hbw hgw hba hBa
  obtain ⟨bA, hbA⟩ : ∃ bA, bA = w2.heap.size := ⟨_, rfl⟩
  rw [← hbA] at xA
  rw [← hbA]
  clear hbA
  go_upto_region 3 with (first | (refine wpList_byte1 byP rfl (fun _ => rfl) rfl rfl (by first | (simp; done) | (simp [Act.put]; done)) rfl (by decide) ?_; intro u1 g1 k1 w1 hb1 hr1; obtain rfl : k1 = 1 := hr1.s.len.1) | (refine wpList_boxNew (vs := [.int .i64 0, .slice none 0 0, .slice none 0 0, .bool false]) (by kernel_rfl) rfl rfl ?_; intro wa hba hBa) | (refine wpList_boxStore (us := [.int .i64 1, .slice (some ⟨g1, 0, none⟩) 1 1, .slice none 0 0, .bool true]) (by kernel_rfl) rfl rfl rfl rfl rfl rfl hBa rfl ?_; intro w4 hgw xB) | fail)
  try go_simp
  replace hr1 : RdS (fun _ => True) _ (.slice (some ⟨g1, 0, none⟩) 1 1) [98] := hr1.s.weak fun _ _ => trivial
  have hbw := hba.grown hgw hba.size fun k hk => by injection hk with hk; omega
  replace rlA := rlA.below hb1
  replace rhA := rhA.below hb1
  replace xA := xA.below hb1 xA.lt
  replace q := q.trans (hb1.mono q.size)
  clear hb1
  replace rlA := rlA.below hbw
  replace rhA := rhA.below hbw
  replace xA := xA.below hbw xA.lt
  replace hr1 := hr1.below hbw
  replace q := q.trans (hbw.mono q.size)
  clear hbw hgw hba hBa
  have rlB : RdS (fun _ => True) _ (.slice (some ⟨g1, 0, none⟩) bS10.lo.length 1) bS10.lo := hr1
  clear hr1
  obtain ⟨gB, hgB⟩ : ∃ gB, gB = g1 := ⟨_, rfl⟩
  rw [← hgB] at rlB xB
  rw [← hgB]
  clear hgB
  obtain ⟨bB, hbB⟩ : ∃ bB, bB = w1.heap.size := ⟨_, rfl⟩
  rw [← hbB] at xB
  rw [← hbB]
  clear hbB
  have b0 := xA.cell (i := 0) rfl
  have b1 := xA.cell (i := 1) rfl
  have b2 := xA.cell (i := 2) rfl
  have b3 := xA.cell (i := 3) rfl
  go_wp2_with (first | (refine wpList_buildOne spP rfl rfl rfl (us := [.int .i64 aS10.table, .slice aA aS10.lo.length cA, .slice mA aS10.hi.length nA, .bool aS10.isOpen]) rfl rfl (by decide) (by decide) ?_; intro w5 hb5 hrow; have d0 := (xB.below hb5 xB.lt).cell (i := 0) rfl; have d1 := (xB.below hb5 xB.lt).cell (i := 1) rfl; have d2 := (xB.below hb5 xB.lt).cell (i := 2) rfl; have d3 := (xB.below hb5 xB.lt).cell (i := 3) rfl) | fail)
  clear b0 b1 b2 b3 d0 d1 d2 d3
  replace rlA := rlA.below hb5
  replace rhA := rhA.below hb5
  replace xA := xA.below hb5 xA.lt
  replace xB := xB.below hb5 xB.lt
  replace rlB := rlB.below hb5
  replace q := q.trans (hb5.mono q.size)
  have hl1 : RdL Elt.sp (fun _ => True) w5 (.slice (some ⟨w4.heap.size, 0, none⟩) 1 1) [aS10] := RdL.made (E := Elt.sp) ⟨_, _, rfl, rlA, rhA, rtA⟩ hrow trivial
  clear hrow hb5
  have hcl := sAdd_any w5 (x := bS10) (m := 2) hl1 (by unfold smL smS; decide) (by decide) ⟨_, _, none, 0, rfl, rlB, RdS.nil _ _, by unfold W64; decide⟩ (by unfold smS; decide)
  rw [add10_1] at hcl
  refine hcl.mono ?_
  rintro e w6 ⟨aL, kL, cL, rfl, hO, hb⟩
  obtain rfl : kL = 2 := hO.len
  have rL : RdL Elt.sp (fun _ => True) _ (.slice aL 2 cL) [aS10, bS10] := hO.rdL.weak fun _ _ => trivial
  clear hcl hO hl1
  replace rlA := rlA.below hb
  replace rhA := rhA.below hb
  replace xA := xA.below hb xA.lt
  replace xB := xB.below hb xB.lt
  replace rlB := rlB.below hb
  replace q := q.trans (hb.mono q.size)
  clear hb
  go_upto_region 4 with (fail)
  go_wp2_with (first | (refine wpList_byte1 byP rfl (fun _ => rfl) rfl rfl (by first | (simp; done) | (simp [Act.put]; done)) rfl (by decide) ?_; intro u1 g1 k1 w1 hb1 hr1) | fail)
  obtain rfl : k1 = 1 := hr1.s.len.1
  replace hr1 : RdS (fun _ => True) _ (.slice (some ⟨g1, 0, none⟩) 1 1) [65] := hr1.s.weak fun _ _ => trivial
  replace rlA := rlA.below hb1
  replace rhA := rhA.below hb1
  replace xA := xA.below hb1 xA.lt
  replace xB := xB.below hb1 xB.lt
  replace rlB := rlB.below hb1
  replace rL := rL.below hb1
  replace q := q.trans (hb1.mono q.size)
  clear hb1
  have hcl := sPoint_any _ (t := 1) hr1 (by unfold W64; decide) (by decide)
  rw [show pointS 1 [65] = cS10 from rfl] at hcl
  refine hcl.mono ?_
  rintro e w7 ⟨vC, rfl, hrC, hb⟩
  clear hcl hr1
  replace rlA := rlA.below hb
  replace rhA := rhA.below hb
  replace xA := xA.below hb xA.lt
  replace xB := xB.below hb xB.lt
  replace rlB := rlB.below hb
  replace rL := rL.below hb
  replace q := q.trans (hb.mono q.size)
  clear hb
  have hcl := sAdd_any w7 (x := cS10) (m := 2) rL (by unfold smL smS; decide) (by decide) hrC (by unfold smS; decide)
  rw [add10_2] at hcl
  go_wp2_with fail
  refine hcl.mono ?_
  rintro e w8 ⟨aM, kM, cM, rfl, hO, hb⟩
  obtain rfl : kM = 1 := hO.len
  have rM : RdL Elt.sp (fun _ => True) _ (.slice aM 1 cM) [allS 1] := hO.rdL.weak fun _ _ => trivial
  clear hcl hO hrC
  replace rlA := rlA.below hb
  replace rhA := rhA.below hb
  replace xA := xA.below hb xA.lt
  replace xB := xB.below hb xB.lt
  replace rlB := rlB.below hb
  replace rL := rL.below hb
  replace q := q.trans (hb.mono q.size)
  clear hb
  go_upto_region 5 with (fail)
  have hcl := sAdd_any w8 (x := ⟨4, [], [], false⟩) (m := 2) rL (S2 := fun _ => True) (by unfold smL smS; decide) (by decide) ⟨none, 0, none, 0, rfl, RdS.nil _ _, RdS.nil _ _, by unfold W64; decide⟩ (by unfold smS; decide)
  rw [add10_3] at hcl
  go_wp2_with fail
  refine hcl.mono ?_
  rintro e w9 ⟨aN, kN, cN, rfl, _, hb⟩
  clear hcl
  replace rlA := rlA.below hb
  replace rhA := rhA.below hb
  replace xA := xA.below hb xA.lt
  replace xB := xB.below hb xB.lt
  replace rlB := rlB.below hb
  replace rL := rL.below hb
  replace rM := rM.below hb
  replace q := q.trans (hb.mono q.size)
  clear hb
  go_upto_region 6 with (fail)
  obtain ⟨W, hWe⟩ : ∃ W, W = w9 := ⟨_, rfl⟩
  rw [← hWe] at rlA
  rw [← hWe] at rhA
  rw [← hWe] at xA
  rw [← hWe] at xB
  rw [← hWe] at rlB
  rw [← hWe] at rL
  rw [← hWe] at rM
  rw [← hWe] at q
  rw [← hWe]
  clear hWe
  have eO : ∀ args w, (callFunc 10 args).run Try.prog w = .ok (.enter 10 args) w := enters_of Try.func10 (by kernel_rfl) rfl
  have eRP : ∀ args w, (callFunc 12 args).run Try.prog w = .ok (.enter 12 args) w := enters_of Try.func12 (by kernel_rfl) rfl
  have eAl : ∀ args w, (callFunc 13 args).run Try.prog w = .ok (.enter 13 args) w := enters_of Try.func13 (by kernel_rfl) rfl
  have eS : ∀ args w, (callFunc 27 args).run Try.prog w = .ok (.enter 27 args) w := enters_of Try.func27 (by kernel_rfl) rfl
  have kq4 : Value.bool (decide (aS10 = pointS 1 [97])) = .bool true := congrArg Value.bool (decide_eq_true rfl)
  have kq9 : Value.bool (decide ([allS 1] = [allS 1])) = .bool true := congrArg Value.bool (decide_eq_true rfl)
  refine wp_region_gzg (n := W.heap.size) (by kernel_rfl) (by kernel_rfl) [skEq (.agg #[.int .i64 aS10.table, .slice aA aS10.lo.length cA, .slice mA aS10.hi.length nA, .bool aS10.isOpen]), skRow 5 [97], skRd [97], skSp (pointS 1 [97]), skEq (.bool true), skEq (.bool true), skEq (.slice aM 1 cM), skSp (allS 1), skSps [allS 1], skEq (.bool true), skEq (.bool true), skEq (.bool true)]
    ⟨?o0, ?o1, ?o2, ?o3, ?o4, ?o5, ?o6, ?o7, ?o8, ?o9, ?o10, ?o11, trivial⟩ ?fin
  case o0 =>
    refine GdOpZ.plain rfl (fun A vs w' hF hT hb hd => ?_)
    have e1 : A.eval (.tmp 1) = .pointer (some ⟨bA, 0, none⟩) := hF 1 rfl
    have hW := hb.below
    exact wp_load4 spS rfl e1 ((xA.below hW xA.lt).cell (i := 0) rfl) ((xA.below hW xA.lt).cell (i := 1) rfl) ((xA.below hW xA.lt).cell (i := 2) rfl) ((xA.below hW xA.lt).cell (i := 3) rfl) ⟨_, rfl, rfl, KF.refl _ _⟩
  case o1 =>
    refine GdOpZ.plain rfl (fun A vs w' hF hT hb hd => ?_)
    exact wp_litZ byP rfl [97] rfl rfl (by decide) hb.size
  case o2 =>
    refine GdOpZ.plain rfl (fun A vs w' hF hT hb hd => ?_)
    exact wp_convZ byP rfl (hT 38 1 (by simp) rfl) (hd ⟨1, .data⟩ (by simp) rfl) (by decide)
  case o3 =>
    refine GdOpZ.plain rfl (fun A vs w' hF hT hb hd => ?_)
    obtain ⟨a1, c1, q1, r1⟩ : ∃ a c, vs 2 = .slice a ([97] : List UInt8).length c ∧ RdS (fun _ => True) w' (.slice a ([97] : List UInt8).length c) [97] := hd ⟨2, .data⟩ (by simp) rfl
    have e1 : A.eval (.tmp 39) = .slice a1 ([97] : List UInt8).length c1 := (hT 39 2 (by simp) rfl).trans q1
    refine wp_callFn rfl eRP (args := #[.int .i64 1, .slice a1 ([97] : List UInt8).length c1]) (by simp only [List.map_toArray, List.map_cons, List.map_nil, e1]; rfl) ((rPoint_any w' (t := 1) r1 (by unfold W64; decide) (by decide)).mono ?_)
    rintro e w2 ⟨v, rfl, hrd, hb2⟩
    exact ⟨_, rfl, _, rfl, hrd.weak fun _ _ => trivial, KF.of hb2⟩
  case o4 =>
    refine GdOpZ.plain rfl (fun A vs w' hF hT hb hd => ?_)
    have e1 : A.eval (.tmp 37) = .agg #[.int .i64 aS10.table, .slice aA aS10.lo.length cA, .slice mA aS10.hi.length nA, .bool aS10.isOpen] := (hT 37 0 (by simp) rfl).trans (hd ⟨0, .data⟩ (by simp) rfl)
    have hW := hb.below
    have e1 : A.eval (.tmp 37) = .agg #[.int .i64 aS10.table, .slice aA aS10.lo.length cA, .slice mA aS10.hi.length nA, .bool aS10.isOpen] := (hT 37 0 (by simp) rfl).trans (hd ⟨0, .data⟩ (by simp) rfl)
    have r2 : RdSp (fun _ => True) w' (vs 3) (pointS 1 [97]) := hd ⟨3, .data⟩ (by simp) rfl
    have e2 : A.eval (.tmp 40) = vs 3 := hT 40 3 (by simp) rfl
    refine wp_callFn rfl eO (args := #[.agg #[.int .i64 aS10.table, .slice aA aS10.lo.length cA, .slice mA aS10.hi.length nA, .bool aS10.isOpen], vs 3]) (by simp only [List.map_toArray, List.map_cons, List.map_nil, e1, e2]) ((rOne_any w' (x := aS10) (y := pointS 1 [97]) ⟨_, _, _, _, rfl, rlA.below hW, rhA.below hW, rtA⟩ r2).mono ?_)
    rintro e w2 ⟨rfl, hb2⟩
    exact ⟨_, rfl, _, rfl, kq4, KF.of hb2⟩
  case o5 =>
    refine GdOpZ.plain rfl (fun A vs w' hF hT hb hd => ?_)
    have e1 : A.eval (.tmp 41) = .bool true := (hT 41 4 (by simp) rfl).trans (hd ⟨4, .data⟩ (by simp) rfl)
    exact BigFrame.wp_move _ rfl ⟨_, rfl, e1, KF.refl _ _⟩
  case o6 =>
    refine GdOpZ.taken rfl ⟨_, _, rfl, rfl, by simp⟩ (by kernel_rfl) (fun w v h => h) (fun A vs w' hF hT hb hd => ?_)
    have e1 : A.eval (.tmp 5) = .slice aM 1 cM := hF 5 rfl
    exact BigFrame.wp_move _ rfl ⟨_, rfl, e1, KF.refl _ _⟩
  case o7 =>
    refine GdOpZ.taken rfl ⟨_, _, rfl, rfl, by simp⟩ (by kernel_rfl) (fun w v h => h) (fun A vs w' hF hT hb hd => ?_)
    refine wp_callFn rfl eAl (args := #[.int .i64 1]) (by simp only [List.map_toArray, List.map_cons, List.map_nil]; rfl) ((sAll_any w' (t := 1) (by unfold W64; decide)).mono ?_)
    rintro e w2 ⟨v, rfl, hrd, hb2⟩
    exact ⟨_, rfl, _, rfl, hrd.weak fun _ _ => trivial, KF.of hb2⟩
  case o8 =>
    refine GdOpZ.taken rfl ⟨_, _, rfl, rfl, by simp⟩ (by kernel_rfl) (fun w v h => h) (fun A vs w' hF hT hb hd => ?_)
    have r1 : RdSp (fun _ => True) w' (vs 7) (allS 1) := hd ⟨7, .data⟩ (by simp) rfl
    have e1 : A.eval (.tmp 44) = vs 7 := hT 44 7 (by simp) rfl
    obtain ⟨p1, p2, p3, p4, ev, h1, h2, h3⟩ := r1
    have hbn := (Below.refl w'.heap.size w').alloc (Nat.le_refl _) (.cells #[.int .i64 (allS 1).table, .slice p1 (allS 1).lo.length p2, .slice p3 (allS 1).hi.length p4, .bool (allS 1).isOpen] 24)
    exact wp_buildOne spP rfl (e1.trans ev) rfl rfl (by omega) (by omega) ⟨_, rfl, ⟨_, _, rfl, RdL.made (E := Elt.sp) (us := [.int .i64 (allS 1).table, .slice p1 (allS 1).lo.length p2, .slice p3 (allS 1).hi.length p4, .bool (allS 1).isOpen]) (t := 24) ⟨_, _, rfl, h1.below hbn, h2.below hbn, h3⟩ (by simp only [World.alloc, Array.getElem?_push_size]) trivial⟩, KF.of hbn⟩
  case o9 =>
    refine GdOpZ.taken rfl ⟨_, _, rfl, rfl, by simp⟩ (by kernel_rfl) (fun w v h => h) (fun A vs w' hF hT hb hd => ?_)
    have e1 : A.eval (.tmp 43) = .slice aM 1 cM := (hT 43 6 (by simp) rfl).trans (hd ⟨6, .data⟩ (by simp) rfl)
    have hW := hb.below
    have e1 : A.eval (.tmp 43) = .slice aM 1 cM := (hT 43 6 (by simp) rfl).trans (hd ⟨6, .data⟩ (by simp) rfl)
    obtain ⟨a2, c2, q2, r2⟩ : ∃ a c, vs 8 = .slice a ([allS 1] : List Sp).length c ∧ RdL Elt.sp (fun _ => True) w' (.slice a ([allS 1] : List Sp).length c) [allS 1] := hd ⟨8, .data⟩ (by simp) rfl
    have e2 : A.eval (.tmp 45) = .slice a2 ([allS 1] : List Sp).length c2 := (hT 45 8 (by simp) rfl).trans q2
    refine wp_callFn rfl eS (args := #[.slice aM 1 cM, .slice a2 ([allS 1] : List Sp).length c2]) (by simp only [List.map_toArray, List.map_cons, List.map_nil, e1, e2]) ((rSame_any w' (rM.below hW) r2).mono ?_)
    rintro e w2 ⟨rfl, hb2⟩
    exact ⟨_, rfl, _, rfl, kq9, KF.of hb2⟩
  case o10 =>
    refine GdOpZ.plain rfl (fun A vs w' hF hT hb hd => ?_)
    have e1 : A.eval (.tmp 42) = .bool true := (hT 42 5 (by simp) rfl).trans (hd ⟨5, .data⟩ (by simp) rfl)
    have e2 : A.eval (.tmp 46) = .bool true := (hT 46 9 (by simp) rfl).trans (hd ⟨9, .data⟩ (by simp) rfl)
    exact wp_pk rfl e1 (fun _ => e2) (by simp) ⟨_, rfl, rfl, KF.refl _ _⟩
  case o11 =>
    refine GdOpZ.plain rfl (fun A vs w' hF hT hb hd => ?_)
    have e1 : A.eval (.tmp 47) = .bool true := (hT 47 10 (by simp) rfl).trans (hd ⟨10, .data⟩ (by simp) rfl)
    exact BigFrame.wp_assign _ rfl ⟨_, rfl, e1, KF.refl _ _⟩
  case fin =>
  intro vs9 W9 hb9 hG9
  have e0 : vs9 0 = .agg #[.int .i64 aS10.table, .slice aA aS10.lo.length cA, .slice mA aS10.hi.length nA, .bool aS10.isOpen] := hG9 0 (by decide)
  obtain ⟨y1, z1, e1, _⟩ := hG9 1 (by decide)
  obtain ⟨y2, z2, e2, _⟩ := hG9 2 (by decide)
  obtain ⟨y3, z3, y23, z23, e3, _⟩ := hG9 3 (by decide)
  have e4 : vs9 4 = .bool true := hG9 4 (by decide)
  have e5 : vs9 5 = .bool true := hG9 5 (by decide)
  have e6 : vs9 6 = .slice aM 1 cM := hG9 6 (by decide)
  obtain ⟨y7, z7, y27, z27, e7, _⟩ := hG9 7 (by decide)
  obtain ⟨y8, z8, e8, _⟩ := hG9 8 (by decide)
  have e9 : vs9 9 = .bool true := hG9 9 (by decide)
  have e10 : vs9 10 = .bool true := hG9 10 (by decide)
  have e11 : vs9 11 = .bool true := hG9 11 (by decide)
  simp only [putAll, e0, e1, e2, e3, e4, e5, e6, e7, e8, e9, e10, e11]
  clear hG9 e0 e1 e2 e3 e4 e5 e6 e7 e8 e9 e10 e11
  have hb8 := hb9.below
  replace rlA := rlA.below hb8
  replace rhA := rhA.below hb8
  replace xA := xA.below hb8 xA.lt
  replace xB := xB.below hb8 xB.lt
  replace rlB := rlB.below hb8
  replace rL := rL.below hb8
  replace rM := rM.below hb8
  replace q := q.trans (hb8.mono q.size)
  clear hb9 hb8
  go_simp
  go_upto_region 7 with (fail)
  have eAl : ∀ args w, (callFunc 13 args).run Try.prog w = .ok (.enter 13 args) w := enters_of Try.func13 (by kernel_rfl) rfl
  have eK : ∀ args w, (callFunc 14 args).run Try.prog w = .ok (.enter 14 args) w := enters_of Try.func14 (by kernel_rfl) rfl
  have eE : ∀ args w, (callFunc 16 args).run Try.prog w = .ok (.enter 16 args) w := enters_of Try.func16 (by kernel_rfl) rfl
  have eI : ∀ args w, (callFunc 18 args).run Try.prog w = .ok (.enter 18 args) w := enters_of Try.func18 (by kernel_rfl) rfl
  have eM : ∀ args w, (callFunc 20 args).run Try.prog w = .ok (.enter 20 args) w := enters_of Try.func20 (by kernel_rfl) rfl
  have eC : ∀ args w, (callFunc 22 args).run Try.prog w = .ok (.enter 22 args) w := enters_of Try.func22 (by kernel_rfl) rfl
  have kq4 : Value.bool (meetsS (aS10) (bS10)) = .bool false := congrArg Value.bool (by decide)
  have kq10 : Value.bool (meetsS (bS10) (allS 1)) = .bool true := congrArg Value.bool (by decide)
  have kq15 : Value.bool (coversS (allS 1) (aS10)) = .bool true := congrArg Value.bool (by decide)
  have kq20 : Value.bool (coversS (aS10) (bS10)) = .bool false := congrArg Value.bool (by decide)
  have kq44 : Value.bool (inT aS10 1 [97]) = .bool true := congrArg Value.bool (by decide)
  have kq50 : Value.bool (inT aS10 0 [97]) = .bool false := congrArg Value.bool (by decide)
  have kq55 : Value.bool (emptyS (⟨0, [], [], false⟩)) = .bool true := congrArg Value.bool (by decide)
  have kq59 : Value.bool (emptyS (bS10)) = .bool false := congrArg Value.bool (by decide)
  have kq64 : Value.bool (decide (mayS (bS10))) = .bool true := congrArg Value.bool (decide_eq_true (by decide))
  have kq68 : Value.bool (decide (mayS (⟨-1, [], [], false⟩))) = .bool false := congrArg Value.bool (decide_eq_false (by decide))
  refine wp_region_gza (n := W9.heap.size) (by kernel_rfl) (by kernel_rfl) [skEq (.bool true), skEq (.bool true), skEq (.agg #[.int .i64 aS10.table, .slice aA aS10.lo.length cA, .slice mA aS10.hi.length nA, .bool aS10.isOpen]), skEq (.agg #[.int .i64 1, .slice (some ⟨gB, 0, none⟩) 1 1, .slice none 0 0, .bool true]), skEq (.bool false), skEq (.bool true), skEq (.bool true), skEq (.bool true), skEq (.agg #[.int .i64 1, .slice (some ⟨gB, 0, none⟩) 1 1, .slice none 0 0, .bool true]), skSp (allS 1), skEq (.bool true), skEq (.bool true), skEq (.bool true), skSp (allS 1), skEq (.agg #[.int .i64 aS10.table, .slice aA aS10.lo.length cA, .slice mA aS10.hi.length nA, .bool aS10.isOpen]), skEq (.bool true), skEq (.bool true), skEq (.bool true), skEq (.agg #[.int .i64 aS10.table, .slice aA aS10.lo.length cA, .slice mA aS10.hi.length nA, .bool aS10.isOpen]), skEq (.agg #[.int .i64 1, .slice (some ⟨gB, 0, none⟩) 1 1, .slice none 0 0, .bool true]), skEq (.bool false), skEq (.bool true), skEq (.bool true), skEq (.bool true), skEq (.slice aL 2 cL), skEq (.int .i64 ((2 : Nat) : Int)), skEq (.bool true), skEq (.bool true), skEq (.bool true), skEq (.int .i64 ((0 : Nat) : Int)), skEq (.bool true), skEq (.bool true), skEq (.bool true), skEq (.int .i64 ((0 : Nat) : Int)), skEq (.bool true), skEq (.bool true), skEq (.bool true), skEq (.int .i64 ((1 : Nat) : Int)), skEq (.bool true), skEq (.bool true), skEq (.bool true), skEq (.agg #[.int .i64 aS10.table, .slice aA aS10.lo.length cA, .slice mA aS10.hi.length nA, .bool aS10.isOpen]), skRow 5 [97], skRd [97], skEq (.bool true), skEq (.bool true), skEq (.bool true), skEq (.agg #[.int .i64 aS10.table, .slice aA aS10.lo.length cA, .slice mA aS10.hi.length nA, .bool aS10.isOpen]), skRow 5 [97], skRd [97], skEq (.bool false), skEq (.bool true), skEq (.bool true), skEq (.bool true), skEq (.agg #[.int .i64 (0), .slice none 0 0, .slice none 0 0, .bool false]), skEq (.bool true), skEq (.bool true), skEq (.bool true), skEq (.agg #[.int .i64 1, .slice (some ⟨gB, 0, none⟩) 1 1, .slice none 0 0, .bool true]), skEq (.bool false), skEq (.bool true), skEq (.bool true), skEq (.bool true), skEq (.agg #[.int .i64 1, .slice (some ⟨gB, 0, none⟩) 1 1, .slice none 0 0, .bool true]), skEq (.bool true), skEq (.bool true), skEq (.bool true), skEq (.agg #[.int .i64 (-1), .slice none 0 0, .slice none 0 0, .bool false]), skEq (.bool false), skEq (.bool true), skEq (.bool true), skEq (.bool true)]
    ⟨?o0, ?o1, ?o2, ?o3, ?o4, ?o5, ?o6, ?o7, ?o8, ?o9, ?o10, ?o11, ?o12, ?o13, ?o14, ?o15, ?o16, ?o17, ?o18, ?o19, ?o20, ?o21, ?o22, ?o23, ?o24, ?o25, ?o26, ?o27, ?o28, ?o29, ?o30, ?o31, ?o32, ?o33, ?o34, ?o35, ?o36, ?o37, ?o38, ?o39, ?o40, ?o41, ?o42, ?o43, ?o44, ?o45, ?o46, ?o47, ?o48, ?o49, ?o50, ?o51, ?o52, ?o53, ?o54, ?o55, ?o56, ?o57, ?o58, ?o59, ?o60, ?o61, ?o62, ?o63, ?o64, ?o65, ?o66, ?o67, ?o68, ?o69, ?o70, ?o71, trivial⟩ ?fin
  case o0 =>
    refine GdOpZ.plain rfl (fun A vs w' hF hT hb hd => ?_)
    have e1 : A.eval (.tmp 9) = .bool true := hF 9 rfl
    exact BigFrame.wp_move _ rfl ⟨_, rfl, e1, KF.refl _ _⟩
  case o1 =>
    refine GdOpZ.plain rfl (fun A vs w' hF hT hb hd => ?_)
    have e1 : A.eval (.tmp 48) = .bool true := (hT 48 0 (by simp) rfl).trans (hd ⟨0, .data⟩ (by simp) rfl)
    exact BigFrame.wp_move _ rfl ⟨_, rfl, e1, KF.refl _ _⟩
  case o2 =>
    refine GdOpZ.taken rfl ⟨_, _, rfl, rfl, by simp⟩ (by kernel_rfl) (fun w v h => h) (fun A vs w' hF hT hb hd => ?_)
    have e1 : A.eval (.tmp 1) = .pointer (some ⟨bA, 0, none⟩) := hF 1 rfl
    have hW := hb.below
    exact wp_load4 spS rfl e1 ((xA.below hW xA.lt).cell (i := 0) rfl) ((xA.below hW xA.lt).cell (i := 1) rfl) ((xA.below hW xA.lt).cell (i := 2) rfl) ((xA.below hW xA.lt).cell (i := 3) rfl) ⟨_, rfl, rfl, KF.refl _ _⟩
  case o3 =>
    refine GdOpZ.taken rfl ⟨_, _, rfl, rfl, by simp⟩ (by kernel_rfl) (fun w v h => h) (fun A vs w' hF hT hb hd => ?_)
    have e1 : A.eval (.tmp 2) = .pointer (some ⟨bB, 0, none⟩) := hF 2 rfl
    have hW := hb.below
    exact wp_load4 spS rfl e1 ((xB.below hW xB.lt).cell (i := 0) rfl) ((xB.below hW xB.lt).cell (i := 1) rfl) ((xB.below hW xB.lt).cell (i := 2) rfl) ((xB.below hW xB.lt).cell (i := 3) rfl) ⟨_, rfl, rfl, KF.refl _ _⟩
  case o4 =>
    refine GdOpZ.taken rfl ⟨_, _, rfl, rfl, by simp⟩ (by kernel_rfl) (fun w v h => h) (fun A vs w' hF hT hb hd => ?_)
    have e1 : A.eval (.tmp 50) = .agg #[.int .i64 aS10.table, .slice aA aS10.lo.length cA, .slice mA aS10.hi.length nA, .bool aS10.isOpen] := (hT 50 2 (by simp) rfl).trans (hd ⟨2, .data⟩ (by simp) rfl)
    have e2 : A.eval (.tmp 51) = .agg #[.int .i64 1, .slice (some ⟨gB, 0, none⟩) 1 1, .slice none 0 0, .bool true] := (hT 51 3 (by simp) rfl).trans (hd ⟨3, .data⟩ (by simp) rfl)
    have hW := hb.below
    have e1 : A.eval (.tmp 50) = .agg #[.int .i64 aS10.table, .slice aA aS10.lo.length cA, .slice mA aS10.hi.length nA, .bool aS10.isOpen] := (hT 50 2 (by simp) rfl).trans (hd ⟨2, .data⟩ (by simp) rfl)
    have e2 : A.eval (.tmp 51) = .agg #[.int .i64 1, .slice (some ⟨gB, 0, none⟩) 1 1, .slice none 0 0, .bool true] := (hT 51 3 (by simp) rfl).trans (hd ⟨3, .data⟩ (by simp) rfl)
    refine wp_callFn rfl eM (args := #[.agg #[.int .i64 aS10.table, .slice aA aS10.lo.length cA, .slice mA aS10.hi.length nA, .bool aS10.isOpen], .agg #[.int .i64 1, .slice (some ⟨gB, 0, none⟩) 1 1, .slice none 0 0, .bool true]]) (by simp only [List.map_toArray, List.map_cons, List.map_nil, e1, e2]) ((sMeets_any w' (x := aS10) (y := bS10) ⟨_, _, _, _, rfl, rlA.below hW, rhA.below hW, rtA⟩ ⟨_, _, none, 0, rfl, rlB.below hW, RdS.nil _ _, by unfold W64; decide⟩).mono ?_)
    rintro e w2 ⟨rfl, hb2⟩
    exact ⟨_, rfl, _, rfl, kq4, KF.of hb2⟩
  case o5 =>
    refine GdOpZ.taken rfl ⟨_, _, rfl, rfl, by simp⟩ (by kernel_rfl) (fun w v h => h) (fun A vs w' hF hT hb hd => ?_)
    have e1 : A.eval (.tmp 52) = .bool false := (hT 52 4 (by simp) rfl).trans (hd ⟨4, .data⟩ (by simp) rfl)
    exact wp_notB rfl e1 ⟨_, rfl, rfl, KF.refl _ _⟩
  case o6 =>
    refine GdOpZ.plain rfl (fun A vs w' hF hT hb hd => ?_)
    have e1 : A.eval (.tmp 49) = .bool true := (hT 49 1 (by simp) rfl).trans (hd ⟨1, .data⟩ (by simp) rfl)
    have e2 : A.eval (.tmp 53) = .bool true := (hT 53 5 (by simp) rfl).trans (hd ⟨5, .data⟩ (by simp) rfl)
    exact wp_pk rfl e1 (fun _ => e2) (by simp) ⟨_, rfl, rfl, KF.refl _ _⟩
  case o7 =>
    refine GdOpZ.plain rfl (fun A vs w' hF hT hb hd => ?_)
    have e1 : A.eval (.tmp 54) = .bool true := (hT 54 6 (by simp) rfl).trans (hd ⟨6, .data⟩ (by simp) rfl)
    exact BigFrame.wp_move _ rfl ⟨_, rfl, e1, KF.refl _ _⟩
  case o8 =>
    refine GdOpZ.taken rfl ⟨_, _, rfl, rfl, by simp⟩ (by kernel_rfl) (fun w v h => h) (fun A vs w' hF hT hb hd => ?_)
    have e1 : A.eval (.tmp 2) = .pointer (some ⟨bB, 0, none⟩) := hF 2 rfl
    have hW := hb.below
    exact wp_load4 spS rfl e1 ((xB.below hW xB.lt).cell (i := 0) rfl) ((xB.below hW xB.lt).cell (i := 1) rfl) ((xB.below hW xB.lt).cell (i := 2) rfl) ((xB.below hW xB.lt).cell (i := 3) rfl) ⟨_, rfl, rfl, KF.refl _ _⟩
  case o9 =>
    refine GdOpZ.taken rfl ⟨_, _, rfl, rfl, by simp⟩ (by kernel_rfl) (fun w v h => h) (fun A vs w' hF hT hb hd => ?_)
    refine wp_callFn rfl eAl (args := #[.int .i64 1]) (by simp only [List.map_toArray, List.map_cons, List.map_nil]; rfl) ((sAll_any w' (t := 1) (by unfold W64; decide)).mono ?_)
    rintro e w2 ⟨v, rfl, hrd, hb2⟩
    exact ⟨_, rfl, _, rfl, hrd.weak fun _ _ => trivial, KF.of hb2⟩
  case o10 =>
    refine GdOpZ.taken rfl ⟨_, _, rfl, rfl, by simp⟩ (by kernel_rfl) (fun w v h => h) (fun A vs w' hF hT hb hd => ?_)
    have e1 : A.eval (.tmp 56) = .agg #[.int .i64 1, .slice (some ⟨gB, 0, none⟩) 1 1, .slice none 0 0, .bool true] := (hT 56 8 (by simp) rfl).trans (hd ⟨8, .data⟩ (by simp) rfl)
    have hW := hb.below
    have e1 : A.eval (.tmp 56) = .agg #[.int .i64 1, .slice (some ⟨gB, 0, none⟩) 1 1, .slice none 0 0, .bool true] := (hT 56 8 (by simp) rfl).trans (hd ⟨8, .data⟩ (by simp) rfl)
    have r2 : RdSp (fun _ => True) w' (vs 9) (allS 1) := hd ⟨9, .data⟩ (by simp) rfl
    have e2 : A.eval (.tmp 57) = vs 9 := hT 57 9 (by simp) rfl
    refine wp_callFn rfl eM (args := #[.agg #[.int .i64 1, .slice (some ⟨gB, 0, none⟩) 1 1, .slice none 0 0, .bool true], vs 9]) (by simp only [List.map_toArray, List.map_cons, List.map_nil, e1, e2]) ((sMeets_any w' (x := bS10) (y := allS 1) ⟨_, _, none, 0, rfl, rlB.below hW, RdS.nil _ _, by unfold W64; decide⟩ r2).mono ?_)
    rintro e w2 ⟨rfl, hb2⟩
    exact ⟨_, rfl, _, rfl, kq10, KF.of hb2⟩
  case o11 =>
    refine GdOpZ.plain rfl (fun A vs w' hF hT hb hd => ?_)
    have e1 : A.eval (.tmp 55) = .bool true := (hT 55 7 (by simp) rfl).trans (hd ⟨7, .data⟩ (by simp) rfl)
    have e2 : A.eval (.tmp 58) = .bool true := (hT 58 10 (by simp) rfl).trans (hd ⟨10, .data⟩ (by simp) rfl)
    exact wp_pk rfl e1 (fun _ => e2) (by simp) ⟨_, rfl, rfl, KF.refl _ _⟩
  case o12 =>
    refine GdOpZ.plain rfl (fun A vs w' hF hT hb hd => ?_)
    have e1 : A.eval (.tmp 59) = .bool true := (hT 59 11 (by simp) rfl).trans (hd ⟨11, .data⟩ (by simp) rfl)
    exact BigFrame.wp_move _ rfl ⟨_, rfl, e1, KF.refl _ _⟩
  case o13 =>
    refine GdOpZ.taken rfl ⟨_, _, rfl, rfl, by simp⟩ (by kernel_rfl) (fun w v h => h) (fun A vs w' hF hT hb hd => ?_)
    refine wp_callFn rfl eAl (args := #[.int .i64 1]) (by simp only [List.map_toArray, List.map_cons, List.map_nil]; rfl) ((sAll_any w' (t := 1) (by unfold W64; decide)).mono ?_)
    rintro e w2 ⟨v, rfl, hrd, hb2⟩
    exact ⟨_, rfl, _, rfl, hrd.weak fun _ _ => trivial, KF.of hb2⟩
  case o14 =>
    refine GdOpZ.taken rfl ⟨_, _, rfl, rfl, by simp⟩ (by kernel_rfl) (fun w v h => h) (fun A vs w' hF hT hb hd => ?_)
    have e1 : A.eval (.tmp 1) = .pointer (some ⟨bA, 0, none⟩) := hF 1 rfl
    have hW := hb.below
    exact wp_load4 spS rfl e1 ((xA.below hW xA.lt).cell (i := 0) rfl) ((xA.below hW xA.lt).cell (i := 1) rfl) ((xA.below hW xA.lt).cell (i := 2) rfl) ((xA.below hW xA.lt).cell (i := 3) rfl) ⟨_, rfl, rfl, KF.refl _ _⟩
  case o15 =>
    refine GdOpZ.taken rfl ⟨_, _, rfl, rfl, by simp⟩ (by kernel_rfl) (fun w v h => h) (fun A vs w' hF hT hb hd => ?_)
    have e2 : A.eval (.tmp 62) = .agg #[.int .i64 aS10.table, .slice aA aS10.lo.length cA, .slice mA aS10.hi.length nA, .bool aS10.isOpen] := (hT 62 14 (by simp) rfl).trans (hd ⟨14, .data⟩ (by simp) rfl)
    have hW := hb.below
    have r1 : RdSp (fun _ => True) w' (vs 13) (allS 1) := hd ⟨13, .data⟩ (by simp) rfl
    have e1 : A.eval (.tmp 61) = vs 13 := hT 61 13 (by simp) rfl
    have e2 : A.eval (.tmp 62) = .agg #[.int .i64 aS10.table, .slice aA aS10.lo.length cA, .slice mA aS10.hi.length nA, .bool aS10.isOpen] := (hT 62 14 (by simp) rfl).trans (hd ⟨14, .data⟩ (by simp) rfl)
    refine wp_callFn rfl eC (args := #[vs 13, .agg #[.int .i64 aS10.table, .slice aA aS10.lo.length cA, .slice mA aS10.hi.length nA, .bool aS10.isOpen]]) (by simp only [List.map_toArray, List.map_cons, List.map_nil, e1, e2]) ((sCovers_any w' (x := allS 1) (y := aS10) r1 ⟨_, _, _, _, rfl, rlA.below hW, rhA.below hW, rtA⟩).mono ?_)
    rintro e w2 ⟨rfl, hb2⟩
    exact ⟨_, rfl, _, rfl, kq15, KF.of hb2⟩
  case o16 =>
    refine GdOpZ.plain rfl (fun A vs w' hF hT hb hd => ?_)
    have e1 : A.eval (.tmp 60) = .bool true := (hT 60 12 (by simp) rfl).trans (hd ⟨12, .data⟩ (by simp) rfl)
    have e2 : A.eval (.tmp 63) = .bool true := (hT 63 15 (by simp) rfl).trans (hd ⟨15, .data⟩ (by simp) rfl)
    exact wp_pk rfl e1 (fun _ => e2) (by simp) ⟨_, rfl, rfl, KF.refl _ _⟩
  case o17 =>
    refine GdOpZ.plain rfl (fun A vs w' hF hT hb hd => ?_)
    have e1 : A.eval (.tmp 64) = .bool true := (hT 64 16 (by simp) rfl).trans (hd ⟨16, .data⟩ (by simp) rfl)
    exact BigFrame.wp_move _ rfl ⟨_, rfl, e1, KF.refl _ _⟩
  case o18 =>
    refine GdOpZ.taken rfl ⟨_, _, rfl, rfl, by simp⟩ (by kernel_rfl) (fun w v h => h) (fun A vs w' hF hT hb hd => ?_)
    have e1 : A.eval (.tmp 1) = .pointer (some ⟨bA, 0, none⟩) := hF 1 rfl
    have hW := hb.below
    exact wp_load4 spS rfl e1 ((xA.below hW xA.lt).cell (i := 0) rfl) ((xA.below hW xA.lt).cell (i := 1) rfl) ((xA.below hW xA.lt).cell (i := 2) rfl) ((xA.below hW xA.lt).cell (i := 3) rfl) ⟨_, rfl, rfl, KF.refl _ _⟩
  case o19 =>
    refine GdOpZ.taken rfl ⟨_, _, rfl, rfl, by simp⟩ (by kernel_rfl) (fun w v h => h) (fun A vs w' hF hT hb hd => ?_)
    have e1 : A.eval (.tmp 2) = .pointer (some ⟨bB, 0, none⟩) := hF 2 rfl
    have hW := hb.below
    exact wp_load4 spS rfl e1 ((xB.below hW xB.lt).cell (i := 0) rfl) ((xB.below hW xB.lt).cell (i := 1) rfl) ((xB.below hW xB.lt).cell (i := 2) rfl) ((xB.below hW xB.lt).cell (i := 3) rfl) ⟨_, rfl, rfl, KF.refl _ _⟩
  case o20 =>
    refine GdOpZ.taken rfl ⟨_, _, rfl, rfl, by simp⟩ (by kernel_rfl) (fun w v h => h) (fun A vs w' hF hT hb hd => ?_)
    have e1 : A.eval (.tmp 66) = .agg #[.int .i64 aS10.table, .slice aA aS10.lo.length cA, .slice mA aS10.hi.length nA, .bool aS10.isOpen] := (hT 66 18 (by simp) rfl).trans (hd ⟨18, .data⟩ (by simp) rfl)
    have e2 : A.eval (.tmp 67) = .agg #[.int .i64 1, .slice (some ⟨gB, 0, none⟩) 1 1, .slice none 0 0, .bool true] := (hT 67 19 (by simp) rfl).trans (hd ⟨19, .data⟩ (by simp) rfl)
    have hW := hb.below
    have e1 : A.eval (.tmp 66) = .agg #[.int .i64 aS10.table, .slice aA aS10.lo.length cA, .slice mA aS10.hi.length nA, .bool aS10.isOpen] := (hT 66 18 (by simp) rfl).trans (hd ⟨18, .data⟩ (by simp) rfl)
    have e2 : A.eval (.tmp 67) = .agg #[.int .i64 1, .slice (some ⟨gB, 0, none⟩) 1 1, .slice none 0 0, .bool true] := (hT 67 19 (by simp) rfl).trans (hd ⟨19, .data⟩ (by simp) rfl)
    refine wp_callFn rfl eC (args := #[.agg #[.int .i64 aS10.table, .slice aA aS10.lo.length cA, .slice mA aS10.hi.length nA, .bool aS10.isOpen], .agg #[.int .i64 1, .slice (some ⟨gB, 0, none⟩) 1 1, .slice none 0 0, .bool true]]) (by simp only [List.map_toArray, List.map_cons, List.map_nil, e1, e2]) ((sCovers_any w' (x := aS10) (y := bS10) ⟨_, _, _, _, rfl, rlA.below hW, rhA.below hW, rtA⟩ ⟨_, _, none, 0, rfl, rlB.below hW, RdS.nil _ _, by unfold W64; decide⟩).mono ?_)
    rintro e w2 ⟨rfl, hb2⟩
    exact ⟨_, rfl, _, rfl, kq20, KF.of hb2⟩
  case o21 =>
    refine GdOpZ.taken rfl ⟨_, _, rfl, rfl, by simp⟩ (by kernel_rfl) (fun w v h => h) (fun A vs w' hF hT hb hd => ?_)
    have e1 : A.eval (.tmp 68) = .bool false := (hT 68 20 (by simp) rfl).trans (hd ⟨20, .data⟩ (by simp) rfl)
    exact wp_notB rfl e1 ⟨_, rfl, rfl, KF.refl _ _⟩
  case o22 =>
    refine GdOpZ.plain rfl (fun A vs w' hF hT hb hd => ?_)
    have e1 : A.eval (.tmp 65) = .bool true := (hT 65 17 (by simp) rfl).trans (hd ⟨17, .data⟩ (by simp) rfl)
    have e2 : A.eval (.tmp 69) = .bool true := (hT 69 21 (by simp) rfl).trans (hd ⟨21, .data⟩ (by simp) rfl)
    exact wp_pk rfl e1 (fun _ => e2) (by simp) ⟨_, rfl, rfl, KF.refl _ _⟩
  case o23 =>
    refine GdOpZ.plain rfl (fun A vs w' hF hT hb hd => ?_)
    have e1 : A.eval (.tmp 70) = .bool true := (hT 70 22 (by simp) rfl).trans (hd ⟨22, .data⟩ (by simp) rfl)
    exact BigFrame.wp_move _ rfl ⟨_, rfl, e1, KF.refl _ _⟩
  case o24 =>
    refine GdOpZ.taken rfl ⟨_, _, rfl, rfl, by simp⟩ (by kernel_rfl) (fun w v h => h) (fun A vs w' hF hT hb hd => ?_)
    have e1 : A.eval (.tmp 3) = .slice aL 2 cL := hF 3 rfl
    exact BigFrame.wp_move _ rfl ⟨_, rfl, e1, KF.refl _ _⟩
  case o25 =>
    refine GdOpZ.taken rfl ⟨_, _, rfl, rfl, by simp⟩ (by kernel_rfl) (fun w v h => h) (fun A vs w' hF hT hb hd => ?_)
    have e1 : A.eval (.tmp 72) = .slice aL 2 cL := (hT 72 24 (by simp) rfl).trans (hd ⟨24, .data⟩ (by simp) rfl)
    exact wp_lenS (e := 24) rfl (by kernel_rfl) e1 ⟨_, rfl, rfl, KF.refl _ _⟩
  case o26 =>
    refine GdOpZ.taken rfl ⟨_, _, rfl, rfl, by simp⟩ (by kernel_rfl) (fun w v h => h) (fun A vs w' hF hT hb hd => ?_)
    have e1 : A.eval (.tmp 73) = .int .i64 ((2 : Nat) : Int) := (hT 73 25 (by simp) rfl).trans (hd ⟨25, .data⟩ (by simp) rfl)
    exact wp_eqlI rfl e1 rfl ⟨_, rfl, (congrArg Value.bool (decide_eq_true rfl)), KF.refl _ _⟩
  case o27 =>
    refine GdOpZ.plain rfl (fun A vs w' hF hT hb hd => ?_)
    have e1 : A.eval (.tmp 71) = .bool true := (hT 71 23 (by simp) rfl).trans (hd ⟨23, .data⟩ (by simp) rfl)
    have e2 : A.eval (.tmp 74) = .bool true := (hT 74 26 (by simp) rfl).trans (hd ⟨26, .data⟩ (by simp) rfl)
    exact wp_pk rfl e1 (fun _ => e2) (by simp) ⟨_, rfl, rfl, KF.refl _ _⟩
  case o28 =>
    refine GdOpZ.plain rfl (fun A vs w' hF hT hb hd => ?_)
    have e1 : A.eval (.tmp 75) = .bool true := (hT 75 27 (by simp) rfl).trans (hd ⟨27, .data⟩ (by simp) rfl)
    exact BigFrame.wp_move _ rfl ⟨_, rfl, e1, KF.refl _ _⟩
  case o29 =>
    refine GdOpZ.taken rfl ⟨_, _, rfl, rfl, by simp⟩ (by kernel_rfl) (fun w v h => h) (fun A vs w' hF hT hb hd => ?_)
    have e1 : A.eval (.tmp 4) = .int .i64 ((0 : Nat) : Int) := hF 4 rfl
    exact BigFrame.wp_move _ rfl ⟨_, rfl, e1, KF.refl _ _⟩
  case o30 =>
    refine GdOpZ.taken rfl ⟨_, _, rfl, rfl, by simp⟩ (by kernel_rfl) (fun w v h => h) (fun A vs w' hF hT hb hd => ?_)
    have e1 : A.eval (.tmp 77) = .int .i64 ((0 : Nat) : Int) := (hT 77 29 (by simp) rfl).trans (hd ⟨29, .data⟩ (by simp) rfl)
    exact wp_eqlI rfl e1 rfl ⟨_, rfl, (congrArg Value.bool (decide_eq_true rfl)), KF.refl _ _⟩
  case o31 =>
    refine GdOpZ.plain rfl (fun A vs w' hF hT hb hd => ?_)
    have e1 : A.eval (.tmp 76) = .bool true := (hT 76 28 (by simp) rfl).trans (hd ⟨28, .data⟩ (by simp) rfl)
    have e2 : A.eval (.tmp 78) = .bool true := (hT 78 30 (by simp) rfl).trans (hd ⟨30, .data⟩ (by simp) rfl)
    exact wp_pk rfl e1 (fun _ => e2) (by simp) ⟨_, rfl, rfl, KF.refl _ _⟩
  case o32 =>
    refine GdOpZ.plain rfl (fun A vs w' hF hT hb hd => ?_)
    have e1 : A.eval (.tmp 79) = .bool true := (hT 79 31 (by simp) rfl).trans (hd ⟨31, .data⟩ (by simp) rfl)
    exact BigFrame.wp_move _ rfl ⟨_, rfl, e1, KF.refl _ _⟩
  case o33 =>
    refine GdOpZ.taken rfl ⟨_, _, rfl, rfl, by simp⟩ (by kernel_rfl) (fun w v h => h) (fun A vs w' hF hT hb hd => ?_)
    have e1 : A.eval (.tmp 6) = .int .i64 ((0 : Nat) : Int) := hF 6 rfl
    exact BigFrame.wp_move _ rfl ⟨_, rfl, e1, KF.refl _ _⟩
  case o34 =>
    refine GdOpZ.taken rfl ⟨_, _, rfl, rfl, by simp⟩ (by kernel_rfl) (fun w v h => h) (fun A vs w' hF hT hb hd => ?_)
    have e1 : A.eval (.tmp 81) = .int .i64 ((0 : Nat) : Int) := (hT 81 33 (by simp) rfl).trans (hd ⟨33, .data⟩ (by simp) rfl)
    exact wp_eqlI rfl e1 rfl ⟨_, rfl, (congrArg Value.bool (decide_eq_true rfl)), KF.refl _ _⟩
  case o35 =>
    refine GdOpZ.plain rfl (fun A vs w' hF hT hb hd => ?_)
    have e1 : A.eval (.tmp 80) = .bool true := (hT 80 32 (by simp) rfl).trans (hd ⟨32, .data⟩ (by simp) rfl)
    have e2 : A.eval (.tmp 82) = .bool true := (hT 82 34 (by simp) rfl).trans (hd ⟨34, .data⟩ (by simp) rfl)
    exact wp_pk rfl e1 (fun _ => e2) (by simp) ⟨_, rfl, rfl, KF.refl _ _⟩
  case o36 =>
    refine GdOpZ.plain rfl (fun A vs w' hF hT hb hd => ?_)
    have e1 : A.eval (.tmp 83) = .bool true := (hT 83 35 (by simp) rfl).trans (hd ⟨35, .data⟩ (by simp) rfl)
    exact BigFrame.wp_move _ rfl ⟨_, rfl, e1, KF.refl _ _⟩
  case o37 =>
    refine GdOpZ.taken rfl ⟨_, _, rfl, rfl, by simp⟩ (by kernel_rfl) (fun w v h => h) (fun A vs w' hF hT hb hd => ?_)
    have e1 : A.eval (.tmp 8) = .int .i64 ((1 : Nat) : Int) := hF 8 rfl
    exact BigFrame.wp_move _ rfl ⟨_, rfl, e1, KF.refl _ _⟩
  case o38 =>
    refine GdOpZ.taken rfl ⟨_, _, rfl, rfl, by simp⟩ (by kernel_rfl) (fun w v h => h) (fun A vs w' hF hT hb hd => ?_)
    have e1 : A.eval (.tmp 85) = .int .i64 ((1 : Nat) : Int) := (hT 85 37 (by simp) rfl).trans (hd ⟨37, .data⟩ (by simp) rfl)
    exact wp_eqlI rfl e1 rfl ⟨_, rfl, (congrArg Value.bool (decide_eq_true rfl)), KF.refl _ _⟩
  case o39 =>
    refine GdOpZ.plain rfl (fun A vs w' hF hT hb hd => ?_)
    have e1 : A.eval (.tmp 84) = .bool true := (hT 84 36 (by simp) rfl).trans (hd ⟨36, .data⟩ (by simp) rfl)
    have e2 : A.eval (.tmp 86) = .bool true := (hT 86 38 (by simp) rfl).trans (hd ⟨38, .data⟩ (by simp) rfl)
    exact wp_pk rfl e1 (fun _ => e2) (by simp) ⟨_, rfl, rfl, KF.refl _ _⟩
  case o40 =>
    refine GdOpZ.plain rfl (fun A vs w' hF hT hb hd => ?_)
    have e1 : A.eval (.tmp 87) = .bool true := (hT 87 39 (by simp) rfl).trans (hd ⟨39, .data⟩ (by simp) rfl)
    exact BigFrame.wp_move _ rfl ⟨_, rfl, e1, KF.refl _ _⟩
  case o41 =>
    refine GdOpZ.taken rfl ⟨_, _, rfl, rfl, by simp⟩ (by kernel_rfl) (fun w v h => h) (fun A vs w' hF hT hb hd => ?_)
    have e1 : A.eval (.tmp 1) = .pointer (some ⟨bA, 0, none⟩) := hF 1 rfl
    have hW := hb.below
    exact wp_load4 spS rfl e1 ((xA.below hW xA.lt).cell (i := 0) rfl) ((xA.below hW xA.lt).cell (i := 1) rfl) ((xA.below hW xA.lt).cell (i := 2) rfl) ((xA.below hW xA.lt).cell (i := 3) rfl) ⟨_, rfl, rfl, KF.refl _ _⟩
  case o42 =>
    refine GdOpZ.taken rfl ⟨_, _, rfl, rfl, by simp⟩ (by kernel_rfl) (fun w v h => h) (fun A vs w' hF hT hb hd => ?_)
    exact wp_litZ byP rfl [97] rfl rfl (by decide) hb.size
  case o43 =>
    refine GdOpZ.taken rfl ⟨_, _, rfl, rfl, by simp⟩ (by kernel_rfl) (fun w v h => h) (fun A vs w' hF hT hb hd => ?_)
    exact wp_convZ byP rfl (hT 90 42 (by simp) rfl) (hd ⟨42, .data⟩ (by simp) rfl) (by decide)
  case o44 =>
    refine GdOpZ.taken rfl ⟨_, _, rfl, rfl, by simp⟩ (by kernel_rfl) (fun w v h => h) (fun A vs w' hF hT hb hd => ?_)
    have e1 : A.eval (.tmp 89) = .agg #[.int .i64 aS10.table, .slice aA aS10.lo.length cA, .slice mA aS10.hi.length nA, .bool aS10.isOpen] := (hT 89 41 (by simp) rfl).trans (hd ⟨41, .data⟩ (by simp) rfl)
    have hW := hb.below
    have e1 : A.eval (.tmp 89) = .agg #[.int .i64 aS10.table, .slice aA aS10.lo.length cA, .slice mA aS10.hi.length nA, .bool aS10.isOpen] := (hT 89 41 (by simp) rfl).trans (hd ⟨41, .data⟩ (by simp) rfl)
    obtain ⟨a3, c3, q3, r3⟩ : ∃ a c, vs 43 = .slice a ([97] : List UInt8).length c ∧ RdS (fun _ => True) w' (.slice a ([97] : List UInt8).length c) [97] := hd ⟨43, .data⟩ (by simp) rfl
    have e3 : A.eval (.tmp 91) = .slice a3 ([97] : List UInt8).length c3 := (hT 91 43 (by simp) rfl).trans q3
    refine wp_callFn rfl eI (args := #[.agg #[.int .i64 aS10.table, .slice aA aS10.lo.length cA, .slice mA aS10.hi.length nA, .bool aS10.isOpen], .int .i64 1, .slice a3 ([97] : List UInt8).length c3]) (by simp only [List.map_toArray, List.map_cons, List.map_nil, e1, e3]; rfl) ((sIn_any w' (x := aS10) (t := 1) ⟨_, _, _, _, rfl, rlA.below hW, rhA.below hW, rtA⟩ r3).mono ?_)
    rintro e w2 ⟨rfl, hb2⟩
    exact ⟨_, rfl, _, rfl, kq44, KF.of hb2⟩
  case o45 =>
    refine GdOpZ.plain rfl (fun A vs w' hF hT hb hd => ?_)
    have e1 : A.eval (.tmp 88) = .bool true := (hT 88 40 (by simp) rfl).trans (hd ⟨40, .data⟩ (by simp) rfl)
    have e2 : A.eval (.tmp 92) = .bool true := (hT 92 44 (by simp) rfl).trans (hd ⟨44, .data⟩ (by simp) rfl)
    exact wp_pk rfl e1 (fun _ => e2) (by simp) ⟨_, rfl, rfl, KF.refl _ _⟩
  case o46 =>
    refine GdOpZ.plain rfl (fun A vs w' hF hT hb hd => ?_)
    have e1 : A.eval (.tmp 93) = .bool true := (hT 93 45 (by simp) rfl).trans (hd ⟨45, .data⟩ (by simp) rfl)
    exact BigFrame.wp_move _ rfl ⟨_, rfl, e1, KF.refl _ _⟩
  case o47 =>
    refine GdOpZ.taken rfl ⟨_, _, rfl, rfl, by simp⟩ (by kernel_rfl) (fun w v h => h) (fun A vs w' hF hT hb hd => ?_)
    have e1 : A.eval (.tmp 1) = .pointer (some ⟨bA, 0, none⟩) := hF 1 rfl
    have hW := hb.below
    exact wp_load4 spS rfl e1 ((xA.below hW xA.lt).cell (i := 0) rfl) ((xA.below hW xA.lt).cell (i := 1) rfl) ((xA.below hW xA.lt).cell (i := 2) rfl) ((xA.below hW xA.lt).cell (i := 3) rfl) ⟨_, rfl, rfl, KF.refl _ _⟩
  case o48 =>
    refine GdOpZ.taken rfl ⟨_, _, rfl, rfl, by simp⟩ (by kernel_rfl) (fun w v h => h) (fun A vs w' hF hT hb hd => ?_)
    exact wp_litZ byP rfl [97] rfl rfl (by decide) hb.size
  case o49 =>
    refine GdOpZ.taken rfl ⟨_, _, rfl, rfl, by simp⟩ (by kernel_rfl) (fun w v h => h) (fun A vs w' hF hT hb hd => ?_)
    exact wp_convZ byP rfl (hT 96 48 (by simp) rfl) (hd ⟨48, .data⟩ (by simp) rfl) (by decide)
  case o50 =>
    refine GdOpZ.taken rfl ⟨_, _, rfl, rfl, by simp⟩ (by kernel_rfl) (fun w v h => h) (fun A vs w' hF hT hb hd => ?_)
    have e1 : A.eval (.tmp 95) = .agg #[.int .i64 aS10.table, .slice aA aS10.lo.length cA, .slice mA aS10.hi.length nA, .bool aS10.isOpen] := (hT 95 47 (by simp) rfl).trans (hd ⟨47, .data⟩ (by simp) rfl)
    have hW := hb.below
    have e1 : A.eval (.tmp 95) = .agg #[.int .i64 aS10.table, .slice aA aS10.lo.length cA, .slice mA aS10.hi.length nA, .bool aS10.isOpen] := (hT 95 47 (by simp) rfl).trans (hd ⟨47, .data⟩ (by simp) rfl)
    obtain ⟨a3, c3, q3, r3⟩ : ∃ a c, vs 49 = .slice a ([97] : List UInt8).length c ∧ RdS (fun _ => True) w' (.slice a ([97] : List UInt8).length c) [97] := hd ⟨49, .data⟩ (by simp) rfl
    have e3 : A.eval (.tmp 97) = .slice a3 ([97] : List UInt8).length c3 := (hT 97 49 (by simp) rfl).trans q3
    refine wp_callFn rfl eI (args := #[.agg #[.int .i64 aS10.table, .slice aA aS10.lo.length cA, .slice mA aS10.hi.length nA, .bool aS10.isOpen], .int .i64 0, .slice a3 ([97] : List UInt8).length c3]) (by simp only [List.map_toArray, List.map_cons, List.map_nil, e1, e3]; rfl) ((sIn_any w' (x := aS10) (t := 0) ⟨_, _, _, _, rfl, rlA.below hW, rhA.below hW, rtA⟩ r3).mono ?_)
    rintro e w2 ⟨rfl, hb2⟩
    exact ⟨_, rfl, _, rfl, kq50, KF.of hb2⟩
  case o51 =>
    refine GdOpZ.taken rfl ⟨_, _, rfl, rfl, by simp⟩ (by kernel_rfl) (fun w v h => h) (fun A vs w' hF hT hb hd => ?_)
    have e1 : A.eval (.tmp 98) = .bool false := (hT 98 50 (by simp) rfl).trans (hd ⟨50, .data⟩ (by simp) rfl)
    exact wp_notB rfl e1 ⟨_, rfl, rfl, KF.refl _ _⟩
  case o52 =>
    refine GdOpZ.plain rfl (fun A vs w' hF hT hb hd => ?_)
    have e1 : A.eval (.tmp 94) = .bool true := (hT 94 46 (by simp) rfl).trans (hd ⟨46, .data⟩ (by simp) rfl)
    have e2 : A.eval (.tmp 99) = .bool true := (hT 99 51 (by simp) rfl).trans (hd ⟨51, .data⟩ (by simp) rfl)
    exact wp_pk rfl e1 (fun _ => e2) (by simp) ⟨_, rfl, rfl, KF.refl _ _⟩
  case o53 =>
    refine GdOpZ.plain rfl (fun A vs w' hF hT hb hd => ?_)
    have e1 : A.eval (.tmp 100) = .bool true := (hT 100 52 (by simp) rfl).trans (hd ⟨52, .data⟩ (by simp) rfl)
    exact BigFrame.wp_move _ rfl ⟨_, rfl, e1, KF.refl _ _⟩
  case o54 =>
    refine GdOpZ.taken rfl ⟨_, _, rfl, rfl, by simp⟩ (by kernel_rfl) (fun w v h => h) (fun A vs w' hF hT hb hd => ?_)
    exact wp_buildV rfl (by simp [Act.eval]) (run_buildSp0 _) ⟨_, rfl, rfl, KF.refl _ _⟩
  case o55 =>
    refine GdOpZ.taken rfl ⟨_, _, rfl, rfl, by simp⟩ (by kernel_rfl) (fun w v h => h) (fun A vs w' hF hT hb hd => ?_)
    have e1 : A.eval (.tmp 102) = .agg #[.int .i64 (0), .slice none 0 0, .slice none 0 0, .bool false] := (hT 102 54 (by simp) rfl).trans (hd ⟨54, .data⟩ (by simp) rfl)
    have hW := hb.below
    have e1 : A.eval (.tmp 102) = .agg #[.int .i64 (0), .slice none 0 0, .slice none 0 0, .bool false] := (hT 102 54 (by simp) rfl).trans (hd ⟨54, .data⟩ (by simp) rfl)
    refine wp_callFn rfl eE (args := #[.agg #[.int .i64 (0), .slice none 0 0, .slice none 0 0, .bool false]]) (by simp only [List.map_toArray, List.map_cons, List.map_nil, e1]) ((sEmpty_any w' (S := fun _ => True) (x := ⟨0, [], [], false⟩) ⟨none, 0, none, 0, rfl, RdS.nil _ _, RdS.nil _ _, by unfold W64; decide⟩).mono ?_)
    rintro e w2 ⟨rfl, hb2⟩
    exact ⟨_, rfl, _, rfl, kq55, KF.of hb2⟩
  case o56 =>
    refine GdOpZ.plain rfl (fun A vs w' hF hT hb hd => ?_)
    have e1 : A.eval (.tmp 101) = .bool true := (hT 101 53 (by simp) rfl).trans (hd ⟨53, .data⟩ (by simp) rfl)
    have e2 : A.eval (.tmp 103) = .bool true := (hT 103 55 (by simp) rfl).trans (hd ⟨55, .data⟩ (by simp) rfl)
    exact wp_pk rfl e1 (fun _ => e2) (by simp) ⟨_, rfl, rfl, KF.refl _ _⟩
  case o57 =>
    refine GdOpZ.plain rfl (fun A vs w' hF hT hb hd => ?_)
    have e1 : A.eval (.tmp 104) = .bool true := (hT 104 56 (by simp) rfl).trans (hd ⟨56, .data⟩ (by simp) rfl)
    exact BigFrame.wp_move _ rfl ⟨_, rfl, e1, KF.refl _ _⟩
  case o58 =>
    refine GdOpZ.taken rfl ⟨_, _, rfl, rfl, by simp⟩ (by kernel_rfl) (fun w v h => h) (fun A vs w' hF hT hb hd => ?_)
    have e1 : A.eval (.tmp 2) = .pointer (some ⟨bB, 0, none⟩) := hF 2 rfl
    have hW := hb.below
    exact wp_load4 spS rfl e1 ((xB.below hW xB.lt).cell (i := 0) rfl) ((xB.below hW xB.lt).cell (i := 1) rfl) ((xB.below hW xB.lt).cell (i := 2) rfl) ((xB.below hW xB.lt).cell (i := 3) rfl) ⟨_, rfl, rfl, KF.refl _ _⟩
  case o59 =>
    refine GdOpZ.taken rfl ⟨_, _, rfl, rfl, by simp⟩ (by kernel_rfl) (fun w v h => h) (fun A vs w' hF hT hb hd => ?_)
    have e1 : A.eval (.tmp 106) = .agg #[.int .i64 1, .slice (some ⟨gB, 0, none⟩) 1 1, .slice none 0 0, .bool true] := (hT 106 58 (by simp) rfl).trans (hd ⟨58, .data⟩ (by simp) rfl)
    have hW := hb.below
    have e1 : A.eval (.tmp 106) = .agg #[.int .i64 1, .slice (some ⟨gB, 0, none⟩) 1 1, .slice none 0 0, .bool true] := (hT 106 58 (by simp) rfl).trans (hd ⟨58, .data⟩ (by simp) rfl)
    refine wp_callFn rfl eE (args := #[.agg #[.int .i64 1, .slice (some ⟨gB, 0, none⟩) 1 1, .slice none 0 0, .bool true]]) (by simp only [List.map_toArray, List.map_cons, List.map_nil, e1]) ((sEmpty_any w' (S := fun _ => True) (x := bS10) ⟨_, _, none, 0, rfl, rlB.below hW, RdS.nil _ _, by unfold W64; decide⟩).mono ?_)
    rintro e w2 ⟨rfl, hb2⟩
    exact ⟨_, rfl, _, rfl, kq59, KF.of hb2⟩
  case o60 =>
    refine GdOpZ.taken rfl ⟨_, _, rfl, rfl, by simp⟩ (by kernel_rfl) (fun w v h => h) (fun A vs w' hF hT hb hd => ?_)
    have e1 : A.eval (.tmp 107) = .bool false := (hT 107 59 (by simp) rfl).trans (hd ⟨59, .data⟩ (by simp) rfl)
    exact wp_notB rfl e1 ⟨_, rfl, rfl, KF.refl _ _⟩
  case o61 =>
    refine GdOpZ.plain rfl (fun A vs w' hF hT hb hd => ?_)
    have e1 : A.eval (.tmp 105) = .bool true := (hT 105 57 (by simp) rfl).trans (hd ⟨57, .data⟩ (by simp) rfl)
    have e2 : A.eval (.tmp 108) = .bool true := (hT 108 60 (by simp) rfl).trans (hd ⟨60, .data⟩ (by simp) rfl)
    exact wp_pk rfl e1 (fun _ => e2) (by simp) ⟨_, rfl, rfl, KF.refl _ _⟩
  case o62 =>
    refine GdOpZ.plain rfl (fun A vs w' hF hT hb hd => ?_)
    have e1 : A.eval (.tmp 109) = .bool true := (hT 109 61 (by simp) rfl).trans (hd ⟨61, .data⟩ (by simp) rfl)
    exact BigFrame.wp_move _ rfl ⟨_, rfl, e1, KF.refl _ _⟩
  case o63 =>
    refine GdOpZ.taken rfl ⟨_, _, rfl, rfl, by simp⟩ (by kernel_rfl) (fun w v h => h) (fun A vs w' hF hT hb hd => ?_)
    have e1 : A.eval (.tmp 2) = .pointer (some ⟨bB, 0, none⟩) := hF 2 rfl
    have hW := hb.below
    exact wp_load4 spS rfl e1 ((xB.below hW xB.lt).cell (i := 0) rfl) ((xB.below hW xB.lt).cell (i := 1) rfl) ((xB.below hW xB.lt).cell (i := 2) rfl) ((xB.below hW xB.lt).cell (i := 3) rfl) ⟨_, rfl, rfl, KF.refl _ _⟩
  case o64 =>
    refine GdOpZ.taken rfl ⟨_, _, rfl, rfl, by simp⟩ (by kernel_rfl) (fun w v h => h) (fun A vs w' hF hT hb hd => ?_)
    have e1 : A.eval (.tmp 111) = .agg #[.int .i64 1, .slice (some ⟨gB, 0, none⟩) 1 1, .slice none 0 0, .bool true] := (hT 111 63 (by simp) rfl).trans (hd ⟨63, .data⟩ (by simp) rfl)
    have hW := hb.below
    have e1 : A.eval (.tmp 111) = .agg #[.int .i64 1, .slice (some ⟨gB, 0, none⟩) 1 1, .slice none 0 0, .bool true] := (hT 111 63 (by simp) rfl).trans (hd ⟨63, .data⟩ (by simp) rfl)
    refine wp_callFn rfl eK (args := #[.agg #[.int .i64 1, .slice (some ⟨gB, 0, none⟩) 1 1, .slice none 0 0, .bool true]]) (by simp only [List.map_toArray, List.map_cons, List.map_nil, e1]) ((sCheck_any w' (S := fun _ => True) (x := bS10) ⟨_, _, none, 0, rfl, rlB.below hW, RdS.nil _ _, by unfold W64; decide⟩).mono ?_)
    rintro e w2 ⟨rfl, hb2⟩
    exact ⟨_, rfl, _, rfl, kq64, KF.of hb2⟩
  case o65 =>
    refine GdOpZ.plain rfl (fun A vs w' hF hT hb hd => ?_)
    have e1 : A.eval (.tmp 110) = .bool true := (hT 110 62 (by simp) rfl).trans (hd ⟨62, .data⟩ (by simp) rfl)
    have e2 : A.eval (.tmp 112) = .bool true := (hT 112 64 (by simp) rfl).trans (hd ⟨64, .data⟩ (by simp) rfl)
    exact wp_pk rfl e1 (fun _ => e2) (by simp) ⟨_, rfl, rfl, KF.refl _ _⟩
  case o66 =>
    refine GdOpZ.plain rfl (fun A vs w' hF hT hb hd => ?_)
    have e1 : A.eval (.tmp 113) = .bool true := (hT 113 65 (by simp) rfl).trans (hd ⟨65, .data⟩ (by simp) rfl)
    exact BigFrame.wp_move _ rfl ⟨_, rfl, e1, KF.refl _ _⟩
  case o67 =>
    refine GdOpZ.taken rfl ⟨_, _, rfl, rfl, by simp⟩ (by kernel_rfl) (fun w v h => h) (fun A vs w' hF hT hb hd => ?_)
    exact wp_buildV rfl (by simp [Act.eval]) (run_buildSp1 _) ⟨_, rfl, rfl, KF.refl _ _⟩
  case o68 =>
    refine GdOpZ.taken rfl ⟨_, _, rfl, rfl, by simp⟩ (by kernel_rfl) (fun w v h => h) (fun A vs w' hF hT hb hd => ?_)
    have e1 : A.eval (.tmp 115) = .agg #[.int .i64 (-1), .slice none 0 0, .slice none 0 0, .bool false] := (hT 115 67 (by simp) rfl).trans (hd ⟨67, .data⟩ (by simp) rfl)
    have hW := hb.below
    have e1 : A.eval (.tmp 115) = .agg #[.int .i64 (-1), .slice none 0 0, .slice none 0 0, .bool false] := (hT 115 67 (by simp) rfl).trans (hd ⟨67, .data⟩ (by simp) rfl)
    refine wp_callFn rfl eK (args := #[.agg #[.int .i64 (-1), .slice none 0 0, .slice none 0 0, .bool false]]) (by simp only [List.map_toArray, List.map_cons, List.map_nil, e1]) ((sCheck_any w' (S := fun _ => True) (x := ⟨-1, [], [], false⟩) ⟨none, 0, none, 0, rfl, RdS.nil _ _, RdS.nil _ _, by unfold W64; decide⟩).mono ?_)
    rintro e w2 ⟨rfl, hb2⟩
    exact ⟨_, rfl, _, rfl, kq68, KF.of hb2⟩
  case o69 =>
    refine GdOpZ.taken rfl ⟨_, _, rfl, rfl, by simp⟩ (by kernel_rfl) (fun w v h => h) (fun A vs w' hF hT hb hd => ?_)
    have e1 : A.eval (.tmp 116) = .bool false := (hT 116 68 (by simp) rfl).trans (hd ⟨68, .data⟩ (by simp) rfl)
    exact wp_notB rfl e1 ⟨_, rfl, rfl, KF.refl _ _⟩
  case o70 =>
    refine GdOpZ.plain rfl (fun A vs w' hF hT hb hd => ?_)
    have e1 : A.eval (.tmp 114) = .bool true := (hT 114 66 (by simp) rfl).trans (hd ⟨66, .data⟩ (by simp) rfl)
    have e2 : A.eval (.tmp 117) = .bool true := (hT 117 69 (by simp) rfl).trans (hd ⟨69, .data⟩ (by simp) rfl)
    exact wp_pk rfl e1 (fun _ => e2) (by simp) ⟨_, rfl, rfl, KF.refl _ _⟩
  case o71 =>
    refine GdOpZ.plain rfl (fun A vs w' hF hT hb hd => ?_)
    have e1 : A.eval (.tmp 118) = .bool true := (hT 118 70 (by simp) rfl).trans (hd ⟨70, .data⟩ (by simp) rfl)
    exact BigFrame.wp_assign _ rfl ⟨_, rfl, e1, KF.refl _ _⟩
  case fin =>
    intro A vs w' hA hb hG
    have e6 : A.eval (.tmp 0) = .bool true := (hA.2.2.2 0 71 (by simp) rfl).trans (hG 71 (by decide))
    have hdf : A.defers = [] := hA.1
    clear hG hA
    go_wp2
    refine bodyPost_ret (v := .bool true) ?_ hdf ⟨rfl, q.trans (hb.below.mono q.size)⟩
    rw [← e6]
    exact results_tmp rfl _ _ _
end Go.Proofs.Ytcopdnigfnmnkaa
namespace Go.Proofs.Ytcopdnigfnmnkaa
open Go.RowKit Go.Shelf
theorem first_at {t : Int} : ∀ {l : List Sp} {x : Sp}, x ∈ l → x.table = t → ∃ (j : Nat) (h : j < l.length), l[j].table = t ∧ ∀ y ∈ l.take j, y.table ≠ t
  | s :: l, x, hx, e => by
    by_cases h : s.table = t
    · exact ⟨0, by simp, h, by simp⟩
    · rcases List.mem_cons.1 hx with h1 | h1
      · rw [h1] at e; exact absurd e h
      · obtain ⟨j, hj, h2, h3⟩ := first_at h1 e
        exact ⟨j + 1, by simpa using hj, by simpa using h2, fun y hy => by
          rw [List.take_succ_cons] at hy
          rcases List.mem_cons.1 hy with h4 | h4
          · rw [h4]; exact h
          · exact h3 y h4⟩
def anyT (l : List Sp) (t : Int) (k : List UInt8) : Bool := l.any fun s => inT s t k
theorem anyT_snoc {l : List Sp} {t : Int} {k : List UInt8} {i : Nat} (h : i < l.length) : anyT (l.take (i + 1)) t k = (anyT (l.take i) t k || inT l[i] t k) := by
  unfold anyT
  rw [List.take_succ_eq_append_getElem h, List.any_append]
  simp
theorem anyT_iff {l : List Sp} {t : Int} {k : List UInt8} : anyT l t k = true ↔ ∃ s ∈ l, inT s t k = true := List.any_eq_true
theorem beside_le (l : List Sp) (x : Sp) : (besideS l x).length ≤ l.length := List.length_filter_le _ _
theorem oneT_len (t : Int) : ∀ (b : Bool) (l : List Sp), (oneT t b l).length ≤ l.length
  | _, [] => by simp [oneT]
  | b, s :: l => by
    unfold oneT
    have h1 := oneT_len t true l
    have h2 := oneT_len t b l
    split
    · split <;> simp <;> omega
    · simp; omega
theorem addS_len (l : List Sp) (x : Sp) (m : Int) : (addS l x m).1.length ≤ l.length + 1 := by
  have h := beside_le l x
  unfold addS
  split
  · split
    · simp
    · split
      · simp; omega
      · have := oneT_len x.table false (besideS l x ++ [x])
        simp at this ⊢
        omega
  · simp
theorem all_in (t : Int) (k : List UInt8) : inT (allS t) t k = true := by
  have h : ltB k [] = false := by unfold ltB; cases k <;> rfl
  unfold inT inS allS
  simp [h]
theorem keeps {l : List Sp} {x : Sp} {m t : Int} {k : List UInt8} (h : (addS l x m).2 = 0) :
    ((inT x t k || anyT l t k) = true → anyT (addS l x m).1 t k = true) ∧ (anyT (addS l x m).1 t k = true → (inT x t k || anyT l t k) = true ∨ (manyT x.table (addS l x m).1 = 1 ∧ t = x.table)) ∧ (m < (manyT x.table l : Int) ∨ (manyT x.table (addS l x m).1 : Int) ≤ m) := by
  unfold addS at h ⊢
  by_cases hok : okA l x m
  case neg => rw [if_neg hok] at h; cases h
  have hm1 : 1 ≤ m := hok.2.2.1
  rw [if_pos hok] at h ⊢
  by_cases hs : stays l x = true
  · rw [if_pos hs]
    have hx : inT x t k = true → anyT l t k = true := fun hx => by
      rw [inT_iff] at hx
      unfold stays at hs
      rw [Bool.or_eq_true, List.any_eq_true] at hs
      rcases hs with h1 | ⟨s, h1, h2⟩
      · rw [empty_in h1] at hx; cases hx.2
      · obtain ⟨h3, h4⟩ := covers_in h2 hx.2
        exact anyT_iff.2 ⟨s, h1, inT_iff.2 ⟨h3.trans hx.1, h4⟩⟩
    refine ⟨fun h1 => ?_, fun h1 => .inl (by rw [h1]; simp), ?_⟩
    · rw [Bool.or_eq_true] at h1
      exact h1.elim hx id
    · by_cases h1 : m < (manyT x.table l : Int)
      · exact .inl h1
      · exact .inr (by show (manyT x.table l : Int) ≤ m; omega)
  rw [if_neg hs] at h ⊢
  have hb : ∀ s ∈ l, inT s t k = true → s ∈ besideS l x ∨ inT x t k = true := fun s h1 h2 => by
    cases hc : coversS x s with
    | true =>
      rw [inT_iff] at h2
      obtain ⟨h3, h4⟩ := covers_in hc h2.2
      exact .inr (inT_iff.2 ⟨h3.trans h2.1, h4⟩)
    | false => exact .inl (List.mem_filter.2 ⟨h1, by rw [hc]; rfl⟩)
  have hin : ∀ s ∈ besideS l x ++ [x], inT s t k = true → (inT x t k || anyT l t k) = true := fun s h1 h2 => by
    rw [Bool.or_eq_true]
    rcases List.mem_append.1 h1 with h3 | h3
    · exact .inr (anyT_iff.2 ⟨s, (List.mem_filter.1 h3).1, h2⟩)
    · rw [List.mem_singleton.1 h3] at h2; exact .inl h2
  have hout : (inT x t k || anyT l t k) = true → ∃ s ∈ besideS l x ++ [x], inT s t k = true := fun h1 => by
    rw [Bool.or_eq_true] at h1
    rcases h1 with h1 | h1
    · exact ⟨x, by simp, h1⟩
    · obtain ⟨s, h2, h3⟩ := anyT_iff.1 h1
      rcases hb s h2 h3 with h4 | h4
      · exact ⟨s, List.mem_append_left _ h4, h3⟩
      · exact ⟨x, by simp, h4⟩
  by_cases hc : (manyT x.table (besideS l x ++ [x]) : Int) ≤ m
  · rw [if_pos hc]
    refine ⟨fun h1 => anyT_iff.2 (hout h1), fun h1 => ?_, .inr hc⟩
    obtain ⟨s, h2, h3⟩ := anyT_iff.1 h1
    exact .inl (hin s h2 h3)
  · rw [if_neg hc]
    generalize ho : besideS l x ++ [x] = os at hin hout hc
    have hx : x ∈ os := by rw [← ho]; simp
    obtain ⟨j, hj, hjt, hno⟩ : ∃ (j : Nat) (h : j < os.length), os[j].table = x.table ∧ ∀ y ∈ os.take j, y.table ≠ x.table := first_at hx rfl
    obtain ⟨e1, _⟩ := oneT_at x.table os j hj hjt hno
    have hn0 : ∀ y ∈ notT x.table os, y.table ≠ x.table := fun y hy => by
      have := (List.mem_filter.1 hy).2
      simpa using this
    have hm : manyT x.table (oneT x.table false os) = 1 := by
      have z1 : ((notT x.table os).take j).countP (fun s => decide (s.table = x.table)) = 0 := List.countP_eq_zero.2 fun y hy => by simpa using hn0 y (List.mem_of_mem_take hy)
      have z2 : ((notT x.table os).drop j).countP (fun s => decide (s.table = x.table)) = 0 := List.countP_eq_zero.2 fun y hy => by simpa using hn0 y (List.mem_of_mem_drop hy)
      rw [e1]
      unfold manyT
      rw [List.countP_append, List.countP_append, z1, z2]
      simp [allS]
    have hmem : ∀ s, s ∈ oneT x.table false os ↔ s ∈ notT x.table os ∨ s = allS x.table := fun s => by
      rw [e1, List.mem_append, List.mem_append, List.mem_singleton]
      constructor
      · rintro ((h1 | h1) | h1)
        · exact .inl (List.mem_of_mem_take h1)
        · exact .inr h1
        · exact .inl (List.mem_of_mem_drop h1)
      · rintro (h1 | h1)
        · rw [← List.take_append_drop j (notT x.table os), List.mem_append] at h1
          rcases h1 with h1 | h1
          · exact .inl (.inl h1)
          · exact .inr h1
        · exact .inl (.inr h1)
    refine ⟨fun h1 => ?_, fun h1 => ?_, .inr (by rw [hm]; exact hm1)⟩
    · by_cases ht : t = x.table
      · exact anyT_iff.2 ⟨_, (hmem _).2 (.inr rfl), by rw [ht]; exact all_in _ _⟩
      · obtain ⟨s, h2, h3⟩ := hout h1
        refine anyT_iff.2 ⟨s, (hmem _).2 (.inl (List.mem_filter.2 ⟨h2, ?_⟩)), h3⟩
        have := (inT_iff.1 h3).1
        simp only [Bool.not_eq_true', decide_eq_false_iff_not]
        exact fun e => ht (this.symm.trans e)
    · by_cases ht : t = x.table
      · exact .inr ⟨hm, ht⟩
      · obtain ⟨s, h2, h3⟩ := anyT_iff.1 h1
        rcases (hmem s).1 h2 with h4 | h4
        · exact .inl (hin s (List.mem_filter.1 h4).1 h3)
        · exfalso
          rw [h4, inT_iff] at h3
          exact ht h3.1.symm
set_option maxRecDepth 100000 in
set_option maxHeartbeats 32000000 in
theorem SpanKeeps_w (w : World) {cs1 : Array Value} {l1 r1 : Option Addr} {l2 l3 r2 r3 : Nat} {m t : Int} {l : List Sp} {x : Sp} {k : List UInt8} (h0 : RdL Elt.sp (· < w.heap.size) w (.slice l1 l2 l3) l) (h1 : RdSp (· < w.heap.size) w (.agg cs1) x) (h2 : (Lit.int .i64 m).wf = true) (h3 : (Lit.int .i64 t).wf = true) (h4 : Rd w.heap.size w (.slice r1 r2 r3) k) :
    Calls Try.prog 6 #[.slice l1 l2 l3, .agg cs1, .int .i64 m, .int .i64 t, .slice r1 r2 r3] w fun e w' => e = .returned (.bool true) ∧ Below w.heap.size w w' := by
  have hx := h1
  obtain ⟨a1, a2, a3, a4, e, hlx, hhx, htx⟩ := h1
  injection e with e
  subst e
  clear hlx hhx
  have _ := h2
  have ht := w64w h3
  clear h3
  have hls := h0
  obtain ⟨rfl, _, lm⟩ := h0.len
  have hk := h4.s
  obtain ⟨rfl, _, km⟩ := hk.len
  have kb : k.length ≤ 9223372036854775807 := by unfold maxLen at km; omega
  clear km h4 lm h0
  obtain ⟨W0, hW, q, Bx, hsz⟩ := spBox w 24 [.int .i64 x.table, .slice a1 x.lo.length a2, .slice a3 x.hi.length a4, .bool x.isOpen]
  clear hsz
  go_enter Try.func6, Try.ntmps6
  go_upto_region 1 with (fail)
  rw [show w.alloc (.cells #[.int .i64 x.table, .slice a1 x.lo.length a2, .slice a3 x.hi.length a4, .bool x.isOpen] 24) = W0 from hW.symm]
  clear hW
  go_wp2_with fail
  refine (awake10_any W0).mono ?_
  rintro e w1 ⟨rfl, hb⟩
  replace Bx := Bx.below hb Bx.lt
  replace q := q.trans (hb.mono q.size)
  clear hb
  have hcl := rFew_any _ (hls.below q)
  go_wp2_with fail
  refine hcl.mono ?_
  rintro e wq1 ⟨rfl, hb⟩
  clear hcl
  replace Bx := Bx.below hb Bx.lt
  replace q := q.trans (hb.mono q.size)
  clear hb
  by_cases hf : fewS l
  case neg =>
    rw [decide_eq_false hf]
    go_wp2_with fail
    go_ret
    exact ⟨rfl, q⟩
  rw [decide_eq_true hf]
  have cx0 := Bx.cell (i := 0) rfl
  have cx1 := Bx.cell (i := 1) rfl
  have cx2 := Bx.cell (i := 2) rfl
  have cx3 := Bx.cell (i := 3) rfl
  have hcl := short_any _ (hx.below q)
  go_wp2_with fail
  refine hcl.mono ?_
  rintro e wq2 ⟨rfl, hb⟩
  clear hcl cx0 cx1 cx2 cx3
  replace Bx := Bx.below hb Bx.lt
  replace q := q.trans (hb.mono q.size)
  clear hb
  by_cases sx : shortS x
  case neg =>
    rw [decide_eq_false sx]
    go_wp2_with fail
    go_ret
    exact ⟨rfl, q⟩
  rw [decide_eq_true sx]
  have hsm : smL l := ⟨by have := hf.1; omega, fun y hy => by have := hf.2 y hy; exact ⟨by omega, by omega⟩⟩
  have hln : l.length ≤ 100 := hf.1
  have hsx : smS x := ⟨by have := sx.1; omega, by have := sx.2; omega⟩
  clear hf sx
  rcases Nat.lt_or_ge 100 k.length with g0 | g0
  · have d0 : decide ((100 : Int) < (k.length : Int)) = true := decide_eq_true (by omega)
    go_wp2_with fail
    go_ret
    exact ⟨rfl, q⟩
  have d0 : decide ((100 : Int) < (k.length : Int)) = false := decide_eq_false (by omega)
  clear kb
  have cx0 := Bx.cell (i := 0) rfl
  have cx1 := Bx.cell (i := 1) rfl
  have cx2 := Bx.cell (i := 2) rfl
  have cx3 := Bx.cell (i := 3) rfl
  have hcl := sAdd_any _ (m := m) (hls.below q) hsm (by omega) (hx.below q) hsx
  go_wp2_with fail
  refine hcl.mono ?_
  rintro e v1 ⟨aA, kA, cA, rfl, hO, hb⟩
  clear hcl cx0 cx1 cx2 cx3 d0 hsm hsx
  replace Bx := Bx.below hb Bx.lt
  replace q := q.trans (hb.mono q.size)
  clear hb
  obtain rfl : kA = (addS l x m).1.length := hO.len
  have hK0 := @keeps l x m t k
  obtain ⟨la, hla⟩ : ∃ la, la = (addS l x m).1 := ⟨_, rfl⟩
  obtain ⟨er, her⟩ : ∃ er, er = (addS l x m).2 := ⟨_, rfl⟩
  rw [← hla] at hO hK0
  rw [← her] at hK0
  rw [← hla, ← her]
  have hlal : la.length ≤ 1000 := by rw [hla]; exact Nat.le_trans (addS_len l x m) (by omega)
  clear hla her
  have rA : RdL Elt.sp (fun _ => True) _ (.slice aA la.length cA) la := hO.rdL.weak fun _ _ => trivial
  clear hO
  rcases Nat.eq_zero_or_pos er with hz | hz
  case inr =>
    have d1 : ((er : Int) != 0) = true := bne_iff_ne.2 (by omega)
    have d2 : decide ((er : Int) = 0) = false := decide_eq_false (by omega)
    clear hK0
    go_wp2_with fail
    go_ret
    exact ⟨rfl, q⟩
  have hK := Lib.hid (hK0 hz)
  have d1 : ((er : Int) != 0) = false := by rw [hz]; rfl
  have d2 : decide ((er : Int) = 0) = true := by rw [hz]; rfl
  clear hK0 hz
  have cx0 := Bx.cell (i := 0) rfl
  have cx1 := Bx.cell (i := 1) rfl
  have cx2 := Bx.cell (i := 2) rfl
  have cx3 := Bx.cell (i := 3) rfl
  have hcl := sIn_any _ (t := t) (hx.below q) (hk.below q)
  go_wp2_with fail
  refine hcl.mono ?_
  rintro e wq3 ⟨rfl, hb⟩
  clear hcl cx0 cx1 cx2 cx3
  replace Bx := Bx.below hb Bx.lt
  replace rA := rA.below hb
  replace q := q.trans (hb.mono q.size)
  clear hb
  clear d1 d2
  go_upto_region 10 with (fail)
  go_loopw [14, 15, 16] (fun bv nv iv wr => ∃ (i : Nat), iv = .int .i64 (i : Int) ∧ i ≤ l.length ∧ bv = .bool (inT x t k || anyT (l.take i) t k) ∧ nv = .int .i64 (manyT x.table (l.take i) : Nat) ∧ BoxN wr w.heap.size 24 [.int .i64 x.table, .slice a1 x.lo.length a2, .slice a3 x.hi.length a4, .bool x.isOpen] ∧ RdL Elt.sp (fun _ => True) wr (.slice aA la.length cA) la ∧ Below w.heap.size w wr) (fun _ _ iv _ => l.length - (intOf iv).toNat)
  case atStart => exact ⟨0, rfl, Nat.zero_le _, by simp [anyT], rfl, Bx, rA, q⟩
  case round =>
  clear Bx q rA
  obtain ⟨i, rfl, hil, rfl, rfl, Bx, rA, q⟩ := hrel
  have hll : l.length ≤ 9223372036854775807 := by omega
  have rL := hls.below q
  have hcnt := Nat.le_trans (manyT_le x.table (l.take i)) (show (l.take i).length ≤ l.length by rw [List.length_take]; omega)
  rcases Nat.lt_or_ge i l.length with hlt | hge
  · obtain ⟨b, off, A1, C1, A2, C2, eL, _, c0, c1, c2, c3, k1, k2, k3⟩ := rL.sp i hlt
    subst eL
    have hat := Lib.hid (anyT_snoc (t := t) (k := k) hlt)
    have hmt := Lib.hid (manyT_snoc (t := x.table) hlt)
    obtain ⟨s, es⟩ : ∃ s, s = l[i] := ⟨_, rfl⟩
    rw [← es] at c0 c1 c2 c3 k1 k2 k3 hat hmt
    clear es
    have hs : RdSp _ wr (.agg #[.int .i64 s.table, .slice A1 s.lo.length C1, .slice A2 s.hi.length C2, .bool s.isOpen]) s := ⟨_, _, _, _, rfl, k1, k2, k3⟩
    clear k1 k2 k3
    have d0 : decide ((i : Int) < (l.length : Int)) = true := decide_eq_true (by omega)
    obtain ⟨mk, emk⟩ : ∃ mk, mk = manyT x.table (l.take i) := ⟨_, rfl⟩
    rw [← emk] at hmt hcnt
    rw [← emk]
    clear emk
    obtain ⟨bk, ebk⟩ : ∃ bk, bk = anyT (l.take i) t k := ⟨_, rfl⟩
    rw [← ebk] at hat
    rw [← ebk]
    clear ebk
    cases hbw : (inT x t k || bk) with
    | true =>
      clear hs c1 c2 c3
      clear d0
      go_upto_region 13 with (fail)
      refine wp_region_gsg (by kernel_rfl) (by kernel_rfl) [sgEq (.slice (some ⟨b, off, none⟩) l.length l3), sgEq (.int .i64 (i : Nat)), sgEq (.pointer (some ⟨b, off + i * 4, none⟩)), sgEq (.pointer (some ⟨b, off + i * 4, none⟩)), sgEq (.int .i64 s.table), sgEq (.pointer (some ⟨w.heap.size, 0, none⟩)), sgEq (.int .i64 x.table), sgEq (.bool (decide (s.table = x.table)))]
        ⟨?o0, ?o1, ?o2, ?o3, ?o4, ?o5, ?o6, ?o7, trivial⟩ ?fin
      case o0 =>
        refine GdOp.plain rfl (fun A vs w' hF hT hb hd => ?_)
        have e1 : A.eval (.tmp 0) = .slice (some ⟨b, off, none⟩) l.length l3 := hF 0 rfl
        exact BigFrame.wp_move _ rfl ⟨_, rfl, e1, Below.refl _ _⟩
      case o1 =>
        refine GdOp.plain rfl (fun A vs w' hF hT hb hd => ?_)
        have e1 : A.eval (.tmp 16) = .int .i64 (i : Nat) := hF 16 rfl
        exact BigFrame.wp_move _ rfl ⟨_, rfl, e1, Below.refl _ _⟩
      case o2 =>
        refine GdOp.plain rfl (fun A vs w' hF hT hb hd => ?_)
        have e1 : A.eval (.tmp 66) = .slice (some ⟨b, off, none⟩) l.length l3 := (hT 66 0 (by simp) rfl).trans (hd ⟨0, .data⟩ (by simp) rfl)
        have e2 : A.eval (.tmp 67) = .int .i64 (i : Nat) := (hT 67 1 (by simp) rfl).trans (hd ⟨1, .data⟩ (by simp) rfl)
        exact wp_ixN (e := 24) rfl (by kernel_rfl) (by kernel_rfl) (e1) (e2) rfl (by omega) ⟨_, rfl, rfl, Below.refl _ _⟩
      case o3 =>
        refine GdOp.plain rfl (fun A vs w' hF hT hb hd => ?_)
        have e1 : A.eval (.tmp 68) = .pointer (some ⟨b, off + i * 4, none⟩) := (hT 68 2 (by simp) rfl).trans (hd ⟨2, .data⟩ (by simp) rfl)
        exact wp_fieldN spS rfl (e1) (by omega) ⟨_, rfl, rfl, Below.refl _ _⟩
      case o4 =>
        refine GdOp.plain rfl (fun A vs w' hF hT hb hd => ?_)
        have e1 : A.eval (.tmp 69) = .pointer (some ⟨b, off + i * 4, none⟩) := (hT 69 3 (by simp) rfl).trans (hd ⟨3, .data⟩ (by simp) rfl)
        exact wp_ld_int (k := .i64) rfl e1 (by kernel_rfl) (((hb.cell (p := ⟨_, _, none⟩) (cell_lt c0)).trans c0)) ⟨_, rfl, rfl, Below.refl _ _⟩
      case o5 =>
        refine GdOp.plain rfl (fun A vs w' hF hT hb hd => ?_)
        have e1 : A.eval (.tmp 6) = .pointer (some ⟨w.heap.size, 0, none⟩) := hF 6 rfl
        exact wp_fieldN spS rfl (e1) (by omega) ⟨_, rfl, rfl, Below.refl _ _⟩
      case o6 =>
        refine GdOp.plain rfl (fun A vs w' hF hT hb hd => ?_)
        have e1 : A.eval (.tmp 71) = .pointer (some ⟨w.heap.size, 0, none⟩) := (hT 71 5 (by simp) rfl).trans (hd ⟨5, .data⟩ (by simp) rfl)
        exact wp_ld_int (k := .i64) rfl e1 (by kernel_rfl) ((Bx.below hb Bx.lt).cell (i := 0) rfl) ⟨_, rfl, rfl, Below.refl _ _⟩
      case o7 =>
        refine GdOp.plain rfl (fun A vs w' hF hT hb hd => ?_)
        have e1 : A.eval (.tmp 70) = .int .i64 s.table := (hT 70 4 (by simp) rfl).trans (hd ⟨4, .data⟩ (by simp) rfl)
        have e2 : A.eval (.tmp 72) = .int .i64 x.table := (hT 72 6 (by simp) rfl).trans (hd ⟨6, .data⟩ (by simp) rfl)
        exact wp_eqlI rfl e1 e2 ⟨_, rfl, rfl, Below.refl _ _⟩
      case fin =>
      intro vs9 W9 hb9 hG9
      have e0 : vs9 0 = .slice (some ⟨b, off, none⟩) l.length l3 := hG9 0 (by decide)
      have e1 : vs9 1 = .int .i64 (i : Nat) := hG9 1 (by decide)
      have e2 : vs9 2 = .pointer (some ⟨b, off + i * 4, none⟩) := hG9 2 (by decide)
      have e3 : vs9 3 = .pointer (some ⟨b, off + i * 4, none⟩) := hG9 3 (by decide)
      have e4 : vs9 4 = .int .i64 s.table := hG9 4 (by decide)
      have e5 : vs9 5 = .pointer (some ⟨w.heap.size, 0, none⟩) := hG9 5 (by decide)
      have e6 : vs9 6 = .int .i64 x.table := hG9 6 (by decide)
      have e7 : vs9 7 = .bool (decide (s.table = x.table)) := hG9 7 (by decide)
      simp only [putAll, e0, e1, e2, e3, e4, e5, e6, e7]
      clear hG9 e0 e1 e2 e3 e4 e5 e6 e7
      replace Bx := Bx.below hb9 Bx.lt
      replace c0 := (hb9.cell (p := ⟨_, _, none⟩) (cell_lt c0)).trans c0
      replace rA := rA.below hb9
      replace q := q.trans (hb9.mono q.size)
      clear hb9
      go_simp
      by_cases hst : s.table = x.table
      · rw [decide_eq_true hst]
        have hm2 := Lib.hid (show manyT x.table (l.take (i + 1)) = mk + 1 by rw [hmt.out, if_pos hst])
        have hb2 := Lib.hid (show (inT x t k || anyT (l.take (i + 1)) t k) = true by rw [hat.out]; rw [← Bool.or_assoc, hbw]; rfl)
        clear hst hmt hat c0 hbw
        go_wp2_with fail
        go_roundw
        case rel => exact ⟨i + 1, by go_num, by omega, by rw [hb2.out], by rw [hm2.out]; go_num, Bx, rA, q⟩
        case measure => simp [intOf]; omega
      · rw [decide_eq_false hst]
        have hm2 := Lib.hid (show manyT x.table (l.take (i + 1)) = mk by rw [hmt.out, if_neg hst]; rfl)
        have hb2 := Lib.hid (show (inT x t k || anyT (l.take (i + 1)) t k) = true by rw [hat.out]; rw [← Bool.or_assoc, hbw]; rfl)
        clear hst hmt hat c0 hbw
        go_wp2_with fail
        go_roundw
        case rel => exact ⟨i + 1, by go_num, by omega, by rw [hb2.out], by rw [hm2.out], Bx, rA, q⟩
        case measure => simp [intOf]; omega
    | false =>
      have hcl := sIn_any wr (t := t) hs (hk.below q)
      go_wp2_with fail
      refine hcl.mono ?_
      rintro e wq4 ⟨rfl, hb⟩
      clear hcl hs c1 c2 c3
      replace Bx := Bx.below hb Bx.lt
      replace c0 := (hb.cell (p := ⟨_, _, none⟩) (cell_lt c0)).trans c0
      replace rA := rA.below hb
      replace q := q.trans (hb.mono q.size)
      clear hb
      clear d0
      go_upto_region 13 with (fail)
      refine wp_region_gsg (by kernel_rfl) (by kernel_rfl) [sgEq (.slice (some ⟨b, off, none⟩) l.length l3), sgEq (.int .i64 (i : Nat)), sgEq (.pointer (some ⟨b, off + i * 4, none⟩)), sgEq (.pointer (some ⟨b, off + i * 4, none⟩)), sgEq (.int .i64 s.table), sgEq (.pointer (some ⟨w.heap.size, 0, none⟩)), sgEq (.int .i64 x.table), sgEq (.bool (decide (s.table = x.table)))]
        ⟨?o0, ?o1, ?o2, ?o3, ?o4, ?o5, ?o6, ?o7, trivial⟩ ?fin
      case o0 =>
        refine GdOp.plain rfl (fun A vs w' hF hT hb hd => ?_)
        have e1 : A.eval (.tmp 0) = .slice (some ⟨b, off, none⟩) l.length l3 := hF 0 rfl
        exact BigFrame.wp_move _ rfl ⟨_, rfl, e1, Below.refl _ _⟩
      case o1 =>
        refine GdOp.plain rfl (fun A vs w' hF hT hb hd => ?_)
        have e1 : A.eval (.tmp 16) = .int .i64 (i : Nat) := hF 16 rfl
        exact BigFrame.wp_move _ rfl ⟨_, rfl, e1, Below.refl _ _⟩
      case o2 =>
        refine GdOp.plain rfl (fun A vs w' hF hT hb hd => ?_)
        have e1 : A.eval (.tmp 66) = .slice (some ⟨b, off, none⟩) l.length l3 := (hT 66 0 (by simp) rfl).trans (hd ⟨0, .data⟩ (by simp) rfl)
        have e2 : A.eval (.tmp 67) = .int .i64 (i : Nat) := (hT 67 1 (by simp) rfl).trans (hd ⟨1, .data⟩ (by simp) rfl)
        exact wp_ixN (e := 24) rfl (by kernel_rfl) (by kernel_rfl) (e1) (e2) rfl (by omega) ⟨_, rfl, rfl, Below.refl _ _⟩
      case o3 =>
        refine GdOp.plain rfl (fun A vs w' hF hT hb hd => ?_)
        have e1 : A.eval (.tmp 68) = .pointer (some ⟨b, off + i * 4, none⟩) := (hT 68 2 (by simp) rfl).trans (hd ⟨2, .data⟩ (by simp) rfl)
        exact wp_fieldN spS rfl (e1) (by omega) ⟨_, rfl, rfl, Below.refl _ _⟩
      case o4 =>
        refine GdOp.plain rfl (fun A vs w' hF hT hb hd => ?_)
        have e1 : A.eval (.tmp 69) = .pointer (some ⟨b, off + i * 4, none⟩) := (hT 69 3 (by simp) rfl).trans (hd ⟨3, .data⟩ (by simp) rfl)
        exact wp_ld_int (k := .i64) rfl e1 (by kernel_rfl) (((hb.cell (p := ⟨_, _, none⟩) (cell_lt c0)).trans c0)) ⟨_, rfl, rfl, Below.refl _ _⟩
      case o5 =>
        refine GdOp.plain rfl (fun A vs w' hF hT hb hd => ?_)
        have e1 : A.eval (.tmp 6) = .pointer (some ⟨w.heap.size, 0, none⟩) := hF 6 rfl
        exact wp_fieldN spS rfl (e1) (by omega) ⟨_, rfl, rfl, Below.refl _ _⟩
      case o6 =>
        refine GdOp.plain rfl (fun A vs w' hF hT hb hd => ?_)
        have e1 : A.eval (.tmp 71) = .pointer (some ⟨w.heap.size, 0, none⟩) := (hT 71 5 (by simp) rfl).trans (hd ⟨5, .data⟩ (by simp) rfl)
        exact wp_ld_int (k := .i64) rfl e1 (by kernel_rfl) ((Bx.below hb Bx.lt).cell (i := 0) rfl) ⟨_, rfl, rfl, Below.refl _ _⟩
      case o7 =>
        refine GdOp.plain rfl (fun A vs w' hF hT hb hd => ?_)
        have e1 : A.eval (.tmp 70) = .int .i64 s.table := (hT 70 4 (by simp) rfl).trans (hd ⟨4, .data⟩ (by simp) rfl)
        have e2 : A.eval (.tmp 72) = .int .i64 x.table := (hT 72 6 (by simp) rfl).trans (hd ⟨6, .data⟩ (by simp) rfl)
        exact wp_eqlI rfl e1 e2 ⟨_, rfl, rfl, Below.refl _ _⟩
      case fin =>
      intro vs9 W9 hb9 hG9
      have e0 : vs9 0 = .slice (some ⟨b, off, none⟩) l.length l3 := hG9 0 (by decide)
      have e1 : vs9 1 = .int .i64 (i : Nat) := hG9 1 (by decide)
      have e2 : vs9 2 = .pointer (some ⟨b, off + i * 4, none⟩) := hG9 2 (by decide)
      have e3 : vs9 3 = .pointer (some ⟨b, off + i * 4, none⟩) := hG9 3 (by decide)
      have e4 : vs9 4 = .int .i64 s.table := hG9 4 (by decide)
      have e5 : vs9 5 = .pointer (some ⟨w.heap.size, 0, none⟩) := hG9 5 (by decide)
      have e6 : vs9 6 = .int .i64 x.table := hG9 6 (by decide)
      have e7 : vs9 7 = .bool (decide (s.table = x.table)) := hG9 7 (by decide)
      simp only [putAll, e0, e1, e2, e3, e4, e5, e6, e7]
      clear hG9 e0 e1 e2 e3 e4 e5 e6 e7
      replace Bx := Bx.below hb9 Bx.lt
      replace c0 := (hb9.cell (p := ⟨_, _, none⟩) (cell_lt c0)).trans c0
      replace rA := rA.below hb9
      replace q := q.trans (hb9.mono q.size)
      clear hb9
      go_simp
      by_cases hst : s.table = x.table
      · rw [decide_eq_true hst]
        have hm2 := Lib.hid (show manyT x.table (l.take (i + 1)) = mk + 1 by rw [hmt.out, if_pos hst])
        have hb2 := Lib.hid (show (inT x t k || anyT (l.take (i + 1)) t k) = inT s t k by rw [hat.out]; rw [← Bool.or_assoc, hbw]; rfl)
        clear hst hmt hat c0 hbw
        go_wp2_with fail
        go_roundw
        case rel => exact ⟨i + 1, by go_num, by omega, by rw [hb2.out], by rw [hm2.out]; go_num, Bx, rA, q⟩
        case measure => simp [intOf]; omega
      · rw [decide_eq_false hst]
        have hm2 := Lib.hid (show manyT x.table (l.take (i + 1)) = mk by rw [hmt.out, if_neg hst]; rfl)
        have hb2 := Lib.hid (show (inT x t k || anyT (l.take (i + 1)) t k) = inT s t k by rw [hat.out]; rw [← Bool.or_assoc, hbw]; rfl)
        clear hst hmt hat c0 hbw
        go_wp2_with fail
        go_roundw
        case rel => exact ⟨i + 1, by go_num, by omega, by rw [hb2.out], by rw [hm2.out], Bx, rA, q⟩
        case measure => simp [intOf]; omega
  · obtain rfl : i = l.length := by omega
    rw [List.take_length]
    have d0 : decide ((l.length : Int) < (l.length : Int)) = false := decide_eq_false (by omega)
    obtain ⟨bw, ebw⟩ : ∃ bw, bw = (inT x t k || anyT l t k) := ⟨_, rfl⟩
    obtain ⟨nb, enb⟩ : ∃ nb, nb = manyT x.table l := ⟨_, rfl⟩
    rw [← ebw, ← enb]
    have hK2 := hK.out
    rw [← ebw, ← enb] at hK2
    replace hK2 := Lib.hid hK2
    have hnb : nb ≤ l.length := by rw [enb]; exact manyT_le _ _
    clear ebw enb hcnt rL
    go_upto_region 18 with (fail)
    clear d0
    go_loopw [17, 18, 19] (fun bv nv iv wr => ∃ (i : Nat), iv = .int .i64 (i : Int) ∧ i ≤ la.length ∧ bv = .bool (anyT (la.take i) t k) ∧ nv = .int .i64 (manyT x.table (la.take i) : Nat) ∧ BoxN wr w.heap.size 24 [.int .i64 x.table, .slice a1 x.lo.length a2, .slice a3 x.hi.length a4, .bool x.isOpen] ∧ RdL Elt.sp (fun _ => True) wr (.slice aA la.length cA) la ∧ Below w.heap.size w wr) (fun _ _ iv _ => la.length - (intOf iv).toNat)
    case atStart => exact ⟨0, rfl, Nat.zero_le _, rfl, rfl, Bx, rA, q⟩
    case round =>
    clear Bx q rA
    obtain ⟨i, rfl, hil, rfl, rfl, Bx, rA, q⟩ := hrel
    have hll : la.length ≤ 9223372036854775807 := by omega
    have hcnt := Nat.le_trans (manyT_le x.table (la.take i)) (show (la.take i).length ≤ la.length by rw [List.length_take]; omega)
    rcases Nat.lt_or_ge i la.length with hlt | hge
    · obtain ⟨b, off, A1, C1, A2, C2, eL, _, c0, c1, c2, c3, k1, k2, k3⟩ := rA.sp i hlt
      subst eL
      have hat := Lib.hid (anyT_snoc (t := t) (k := k) hlt)
      have hmt := Lib.hid (manyT_snoc (t := x.table) hlt)
      obtain ⟨s, es⟩ : ∃ s, s = la[i] := ⟨_, rfl⟩
      rw [← es] at c0 c1 c2 c3 k1 k2 k3 hat hmt
      clear es
      have hs : RdSp _ wr (.agg #[.int .i64 s.table, .slice A1 s.lo.length C1, .slice A2 s.hi.length C2, .bool s.isOpen]) s := ⟨_, _, _, _, rfl, k1, k2, k3⟩
      clear k1 k2 k3
      have d0 : decide ((i : Int) < (la.length : Int)) = true := decide_eq_true (by omega)
      obtain ⟨mk, emk⟩ : ∃ mk, mk = manyT x.table (la.take i) := ⟨_, rfl⟩
      rw [← emk] at hmt hcnt
      rw [← emk]
      clear emk
      obtain ⟨bk, ebk⟩ : ∃ bk, bk = anyT (la.take i) t k := ⟨_, rfl⟩
      rw [← ebk] at hat
      rw [← ebk]
      clear ebk
      cases hbw : bk with
      | true =>
        clear hs c1 c2 c3
        clear d0
        go_upto_region 21 with (fail)
        refine wp_region_gsg (by kernel_rfl) (by kernel_rfl) [sgEq (.slice (some ⟨b, off, none⟩) la.length cA), sgEq (.int .i64 (i : Nat)), sgEq (.pointer (some ⟨b, off + i * 4, none⟩)), sgEq (.pointer (some ⟨b, off + i * 4, none⟩)), sgEq (.int .i64 s.table), sgEq (.pointer (some ⟨w.heap.size, 0, none⟩)), sgEq (.int .i64 x.table), sgEq (.bool (decide (s.table = x.table)))]
          ⟨?o0, ?o1, ?o2, ?o3, ?o4, ?o5, ?o6, ?o7, trivial⟩ ?fin
        case o0 =>
          refine GdOp.plain rfl (fun A vs w' hF hT hb hd => ?_)
          have e1 : A.eval (.tmp 12) = .slice (some ⟨b, off, none⟩) la.length cA := hF 12 rfl
          exact BigFrame.wp_move _ rfl ⟨_, rfl, e1, Below.refl _ _⟩
        case o1 =>
          refine GdOp.plain rfl (fun A vs w' hF hT hb hd => ?_)
          have e1 : A.eval (.tmp 19) = .int .i64 (i : Nat) := hF 19 rfl
          exact BigFrame.wp_move _ rfl ⟨_, rfl, e1, Below.refl _ _⟩
        case o2 =>
          refine GdOp.plain rfl (fun A vs w' hF hT hb hd => ?_)
          have e1 : A.eval (.tmp 92) = .slice (some ⟨b, off, none⟩) la.length cA := (hT 92 0 (by simp) rfl).trans (hd ⟨0, .data⟩ (by simp) rfl)
          have e2 : A.eval (.tmp 93) = .int .i64 (i : Nat) := (hT 93 1 (by simp) rfl).trans (hd ⟨1, .data⟩ (by simp) rfl)
          exact wp_ixN (e := 24) rfl (by kernel_rfl) (by kernel_rfl) (e1) (e2) rfl (by omega) ⟨_, rfl, rfl, Below.refl _ _⟩
        case o3 =>
          refine GdOp.plain rfl (fun A vs w' hF hT hb hd => ?_)
          have e1 : A.eval (.tmp 94) = .pointer (some ⟨b, off + i * 4, none⟩) := (hT 94 2 (by simp) rfl).trans (hd ⟨2, .data⟩ (by simp) rfl)
          exact wp_fieldN spS rfl (e1) (by omega) ⟨_, rfl, rfl, Below.refl _ _⟩
        case o4 =>
          refine GdOp.plain rfl (fun A vs w' hF hT hb hd => ?_)
          have e1 : A.eval (.tmp 95) = .pointer (some ⟨b, off + i * 4, none⟩) := (hT 95 3 (by simp) rfl).trans (hd ⟨3, .data⟩ (by simp) rfl)
          exact wp_ld_int (k := .i64) rfl e1 (by kernel_rfl) (((hb.cell (p := ⟨_, _, none⟩) (cell_lt c0)).trans c0)) ⟨_, rfl, rfl, Below.refl _ _⟩
        case o5 =>
          refine GdOp.plain rfl (fun A vs w' hF hT hb hd => ?_)
          have e1 : A.eval (.tmp 6) = .pointer (some ⟨w.heap.size, 0, none⟩) := hF 6 rfl
          exact wp_fieldN spS rfl (e1) (by omega) ⟨_, rfl, rfl, Below.refl _ _⟩
        case o6 =>
          refine GdOp.plain rfl (fun A vs w' hF hT hb hd => ?_)
          have e1 : A.eval (.tmp 97) = .pointer (some ⟨w.heap.size, 0, none⟩) := (hT 97 5 (by simp) rfl).trans (hd ⟨5, .data⟩ (by simp) rfl)
          exact wp_ld_int (k := .i64) rfl e1 (by kernel_rfl) ((Bx.below hb Bx.lt).cell (i := 0) rfl) ⟨_, rfl, rfl, Below.refl _ _⟩
        case o7 =>
          refine GdOp.plain rfl (fun A vs w' hF hT hb hd => ?_)
          have e1 : A.eval (.tmp 96) = .int .i64 s.table := (hT 96 4 (by simp) rfl).trans (hd ⟨4, .data⟩ (by simp) rfl)
          have e2 : A.eval (.tmp 98) = .int .i64 x.table := (hT 98 6 (by simp) rfl).trans (hd ⟨6, .data⟩ (by simp) rfl)
          exact wp_eqlI rfl e1 e2 ⟨_, rfl, rfl, Below.refl _ _⟩
        case fin =>
        intro vs9 W9 hb9 hG9
        have e0 : vs9 0 = .slice (some ⟨b, off, none⟩) la.length cA := hG9 0 (by decide)
        have e1 : vs9 1 = .int .i64 (i : Nat) := hG9 1 (by decide)
        have e2 : vs9 2 = .pointer (some ⟨b, off + i * 4, none⟩) := hG9 2 (by decide)
        have e3 : vs9 3 = .pointer (some ⟨b, off + i * 4, none⟩) := hG9 3 (by decide)
        have e4 : vs9 4 = .int .i64 s.table := hG9 4 (by decide)
        have e5 : vs9 5 = .pointer (some ⟨w.heap.size, 0, none⟩) := hG9 5 (by decide)
        have e6 : vs9 6 = .int .i64 x.table := hG9 6 (by decide)
        have e7 : vs9 7 = .bool (decide (s.table = x.table)) := hG9 7 (by decide)
        simp only [putAll, e0, e1, e2, e3, e4, e5, e6, e7]
        clear hG9 e0 e1 e2 e3 e4 e5 e6 e7
        replace Bx := Bx.below hb9 Bx.lt
        replace c0 := (hb9.cell (p := ⟨_, _, none⟩) (cell_lt c0)).trans c0
        replace rA := rA.below hb9
        replace q := q.trans (hb9.mono q.size)
        clear hb9
        go_simp
        by_cases hst : s.table = x.table
        · rw [decide_eq_true hst]
          have hm2 := Lib.hid (show manyT x.table (la.take (i + 1)) = mk + 1 by rw [hmt.out, if_pos hst])
          have hb2 := Lib.hid (show anyT (la.take (i + 1)) t k = true by rw [hat.out]; rw [hbw]; rfl)
          clear hst hmt hat c0 hbw
          go_wp2_with fail
          go_roundw
          case rel => exact ⟨i + 1, by go_num, by omega, by rw [hb2.out], by rw [hm2.out]; go_num, Bx, rA, q⟩
          case measure => simp [intOf]; omega
        · rw [decide_eq_false hst]
          have hm2 := Lib.hid (show manyT x.table (la.take (i + 1)) = mk by rw [hmt.out, if_neg hst]; rfl)
          have hb2 := Lib.hid (show anyT (la.take (i + 1)) t k = true by rw [hat.out]; rw [hbw]; rfl)
          clear hst hmt hat c0 hbw
          go_wp2_with fail
          go_roundw
          case rel => exact ⟨i + 1, by go_num, by omega, by rw [hb2.out], by rw [hm2.out], Bx, rA, q⟩
          case measure => simp [intOf]; omega
      | false =>
        have hcl := sIn_any wr (t := t) hs (hk.below q)
        go_wp2_with fail
        refine hcl.mono ?_
        rintro e wq5 ⟨rfl, hb⟩
        clear hcl hs c1 c2 c3
        replace Bx := Bx.below hb Bx.lt
        replace c0 := (hb.cell (p := ⟨_, _, none⟩) (cell_lt c0)).trans c0
        replace rA := rA.below hb
        replace q := q.trans (hb.mono q.size)
        clear hb
        clear d0
        go_upto_region 21 with (fail)
        refine wp_region_gsg (by kernel_rfl) (by kernel_rfl) [sgEq (.slice (some ⟨b, off, none⟩) la.length cA), sgEq (.int .i64 (i : Nat)), sgEq (.pointer (some ⟨b, off + i * 4, none⟩)), sgEq (.pointer (some ⟨b, off + i * 4, none⟩)), sgEq (.int .i64 s.table), sgEq (.pointer (some ⟨w.heap.size, 0, none⟩)), sgEq (.int .i64 x.table), sgEq (.bool (decide (s.table = x.table)))]
          ⟨?o0, ?o1, ?o2, ?o3, ?o4, ?o5, ?o6, ?o7, trivial⟩ ?fin
        case o0 =>
          refine GdOp.plain rfl (fun A vs w' hF hT hb hd => ?_)
          have e1 : A.eval (.tmp 12) = .slice (some ⟨b, off, none⟩) la.length cA := hF 12 rfl
          exact BigFrame.wp_move _ rfl ⟨_, rfl, e1, Below.refl _ _⟩
        case o1 =>
          refine GdOp.plain rfl (fun A vs w' hF hT hb hd => ?_)
          have e1 : A.eval (.tmp 19) = .int .i64 (i : Nat) := hF 19 rfl
          exact BigFrame.wp_move _ rfl ⟨_, rfl, e1, Below.refl _ _⟩
        case o2 =>
          refine GdOp.plain rfl (fun A vs w' hF hT hb hd => ?_)
          have e1 : A.eval (.tmp 92) = .slice (some ⟨b, off, none⟩) la.length cA := (hT 92 0 (by simp) rfl).trans (hd ⟨0, .data⟩ (by simp) rfl)
          have e2 : A.eval (.tmp 93) = .int .i64 (i : Nat) := (hT 93 1 (by simp) rfl).trans (hd ⟨1, .data⟩ (by simp) rfl)
          exact wp_ixN (e := 24) rfl (by kernel_rfl) (by kernel_rfl) (e1) (e2) rfl (by omega) ⟨_, rfl, rfl, Below.refl _ _⟩
        case o3 =>
          refine GdOp.plain rfl (fun A vs w' hF hT hb hd => ?_)
          have e1 : A.eval (.tmp 94) = .pointer (some ⟨b, off + i * 4, none⟩) := (hT 94 2 (by simp) rfl).trans (hd ⟨2, .data⟩ (by simp) rfl)
          exact wp_fieldN spS rfl (e1) (by omega) ⟨_, rfl, rfl, Below.refl _ _⟩
        case o4 =>
          refine GdOp.plain rfl (fun A vs w' hF hT hb hd => ?_)
          have e1 : A.eval (.tmp 95) = .pointer (some ⟨b, off + i * 4, none⟩) := (hT 95 3 (by simp) rfl).trans (hd ⟨3, .data⟩ (by simp) rfl)
          exact wp_ld_int (k := .i64) rfl e1 (by kernel_rfl) (((hb.cell (p := ⟨_, _, none⟩) (cell_lt c0)).trans c0)) ⟨_, rfl, rfl, Below.refl _ _⟩
        case o5 =>
          refine GdOp.plain rfl (fun A vs w' hF hT hb hd => ?_)
          have e1 : A.eval (.tmp 6) = .pointer (some ⟨w.heap.size, 0, none⟩) := hF 6 rfl
          exact wp_fieldN spS rfl (e1) (by omega) ⟨_, rfl, rfl, Below.refl _ _⟩
        case o6 =>
          refine GdOp.plain rfl (fun A vs w' hF hT hb hd => ?_)
          have e1 : A.eval (.tmp 97) = .pointer (some ⟨w.heap.size, 0, none⟩) := (hT 97 5 (by simp) rfl).trans (hd ⟨5, .data⟩ (by simp) rfl)
          exact wp_ld_int (k := .i64) rfl e1 (by kernel_rfl) ((Bx.below hb Bx.lt).cell (i := 0) rfl) ⟨_, rfl, rfl, Below.refl _ _⟩
        case o7 =>
          refine GdOp.plain rfl (fun A vs w' hF hT hb hd => ?_)
          have e1 : A.eval (.tmp 96) = .int .i64 s.table := (hT 96 4 (by simp) rfl).trans (hd ⟨4, .data⟩ (by simp) rfl)
          have e2 : A.eval (.tmp 98) = .int .i64 x.table := (hT 98 6 (by simp) rfl).trans (hd ⟨6, .data⟩ (by simp) rfl)
          exact wp_eqlI rfl e1 e2 ⟨_, rfl, rfl, Below.refl _ _⟩
        case fin =>
        intro vs9 W9 hb9 hG9
        have e0 : vs9 0 = .slice (some ⟨b, off, none⟩) la.length cA := hG9 0 (by decide)
        have e1 : vs9 1 = .int .i64 (i : Nat) := hG9 1 (by decide)
        have e2 : vs9 2 = .pointer (some ⟨b, off + i * 4, none⟩) := hG9 2 (by decide)
        have e3 : vs9 3 = .pointer (some ⟨b, off + i * 4, none⟩) := hG9 3 (by decide)
        have e4 : vs9 4 = .int .i64 s.table := hG9 4 (by decide)
        have e5 : vs9 5 = .pointer (some ⟨w.heap.size, 0, none⟩) := hG9 5 (by decide)
        have e6 : vs9 6 = .int .i64 x.table := hG9 6 (by decide)
        have e7 : vs9 7 = .bool (decide (s.table = x.table)) := hG9 7 (by decide)
        simp only [putAll, e0, e1, e2, e3, e4, e5, e6, e7]
        clear hG9 e0 e1 e2 e3 e4 e5 e6 e7
        replace Bx := Bx.below hb9 Bx.lt
        replace c0 := (hb9.cell (p := ⟨_, _, none⟩) (cell_lt c0)).trans c0
        replace rA := rA.below hb9
        replace q := q.trans (hb9.mono q.size)
        clear hb9
        go_simp
        by_cases hst : s.table = x.table
        · rw [decide_eq_true hst]
          have hm2 := Lib.hid (show manyT x.table (la.take (i + 1)) = mk + 1 by rw [hmt.out, if_pos hst])
          have hb2 := Lib.hid (show anyT (la.take (i + 1)) t k = inT s t k by rw [hat.out]; rw [hbw]; rfl)
          clear hst hmt hat c0 hbw
          go_wp2_with fail
          go_roundw
          case rel => exact ⟨i + 1, by go_num, by omega, by rw [hb2.out], by rw [hm2.out]; go_num, Bx, rA, q⟩
          case measure => simp [intOf]; omega
        · rw [decide_eq_false hst]
          have hm2 := Lib.hid (show manyT x.table (la.take (i + 1)) = mk by rw [hmt.out, if_neg hst]; rfl)
          have hb2 := Lib.hid (show anyT (la.take (i + 1)) t k = inT s t k by rw [hat.out]; rw [hbw]; rfl)
          clear hst hmt hat c0 hbw
          go_wp2_with fail
          go_roundw
          case rel => exact ⟨i + 1, by go_num, by omega, by rw [hb2.out], by rw [hm2.out], Bx, rA, q⟩
          case measure => simp [intOf]; omega
    · obtain rfl : i = la.length := by omega
      rw [List.take_length] at hcnt
      rw [List.take_length]
      have d0 : decide ((la.length : Int) < (la.length : Int)) = false := decide_eq_false (by omega)
      obtain ⟨bi, ebi⟩ : ∃ bi, bi = anyT la t k := ⟨_, rfl⟩
      obtain ⟨nm, enm⟩ : ∃ nm, nm = manyT x.table la := ⟨_, rfl⟩
      rw [← ebi, ← enm]
      rw [← enm] at hcnt
      have hK3 := hK2.out
      rw [← ebi, ← enm] at hK3
      clear ebi enm hK hK2 rA
      have cx0 := Bx.cell (i := 0) rfl
      obtain ⟨ha, hb, hc⟩ := hK3
      have d1 : decide ((nm : Int) ≤ m) = true ∨ decide (m < (nb : Int)) = true := hc.symm.imp decide_eq_true decide_eq_true
      clear hc
      have hall : ((nm : Int) = 1 ∧ t = x.table) ∨ ¬ ((nm : Int) = 1 ∧ t = x.table) := Classical.em _
      cases bw with
      | true =>
        cases bi with
        | true =>
          clear ha hb
          clear hall
          by_cases h1 : nm = 1
          · have e1 : ((nm : Int) == 1) = true := beq_iff_eq.2 (by omega)
            have e1b : decide ((nm : Int) = 1) = true := decide_eq_true (by omega)
            clear h1
            by_cases h2 : t = x.table
            · have e2 : (t == x.table) = true := beq_iff_eq.2 h2
              have e2b : decide (t = x.table) = true := decide_eq_true h2
              clear h2
              by_cases hnb2 : m < (nb : Int)
              · have d5 : decide (m < (nb : Int)) = true := decide_eq_true hnb2
                clear d1 hnb2
                go_wp2_with fail
                go_ret
                exact ⟨rfl, q⟩
              · have d5 : decide (m < (nb : Int)) = false := decide_eq_false hnb2
                have d6 : decide ((nm : Int) ≤ m) = true := d1.resolve_right (by rw [d5]; simp)
                clear d1 hnb2
                go_wp2_with fail
                go_ret
                exact ⟨rfl, q⟩
            · have e2 : (t == x.table) = false := beq_eq_false_iff_ne.2 h2
              have e2b : decide (t = x.table) = false := decide_eq_false h2
              clear h2
              by_cases hnb2 : m < (nb : Int)
              · have d5 : decide (m < (nb : Int)) = true := decide_eq_true hnb2
                clear d1 hnb2
                go_wp2_with fail
                go_ret
                exact ⟨rfl, q⟩
              · have d5 : decide (m < (nb : Int)) = false := decide_eq_false hnb2
                have d6 : decide ((nm : Int) ≤ m) = true := d1.resolve_right (by rw [d5]; simp)
                clear d1 hnb2
                go_wp2_with fail
                go_ret
                exact ⟨rfl, q⟩
          · have e1 : ((nm : Int) == 1) = false := beq_eq_false_iff_ne.2 (by omega)
            have e1b : decide ((nm : Int) = 1) = false := decide_eq_false (by omega)
            clear h1
            by_cases hnb2 : m < (nb : Int)
            · have d5 : decide (m < (nb : Int)) = true := decide_eq_true hnb2
              clear d1 hnb2
              go_wp2_with fail
              go_ret
              exact ⟨rfl, q⟩
            · have d5 : decide (m < (nb : Int)) = false := decide_eq_false hnb2
              have d6 : decide ((nm : Int) ≤ m) = true := d1.resolve_right (by rw [d5]; simp)
              clear d1 hnb2
              go_wp2_with fail
              go_ret
              exact ⟨rfl, q⟩
        | false =>
          exact absurd (ha rfl) (by simp)
      | false =>
        cases bi with
        | true =>
          obtain ⟨h1, h2⟩ : nm = 1 ∧ t = x.table := (hb rfl).resolve_left (by simp)
          clear ha hb hall
          have e1 : ((nm : Int) == 1) = true := beq_iff_eq.2 (by omega)
          have e1b : decide ((nm : Int) = 1) = true := decide_eq_true (by omega)
          have e2 : (t == x.table) = true := beq_iff_eq.2 h2
          have e2b : decide (t = x.table) = true := decide_eq_true h2
          clear h1 h2
          by_cases hnb2 : m < (nb : Int)
          · have d5 : decide (m < (nb : Int)) = true := decide_eq_true hnb2
            clear d1 hnb2
            go_wp2_with fail
            go_ret
            exact ⟨rfl, q⟩
          · have d5 : decide (m < (nb : Int)) = false := decide_eq_false hnb2
            have d6 : decide ((nm : Int) ≤ m) = true := d1.resolve_right (by rw [d5]; simp)
            clear d1 hnb2
            go_wp2_with fail
            go_ret
            exact ⟨rfl, q⟩
        | false =>
          clear ha hb
          clear hall
          by_cases h1 : nm = 1
          · have e1 : ((nm : Int) == 1) = true := beq_iff_eq.2 (by omega)
            have e1b : decide ((nm : Int) = 1) = true := decide_eq_true (by omega)
            clear h1
            by_cases h2 : t = x.table
            · have e2 : (t == x.table) = true := beq_iff_eq.2 h2
              have e2b : decide (t = x.table) = true := decide_eq_true h2
              clear h2
              by_cases hnb2 : m < (nb : Int)
              · have d5 : decide (m < (nb : Int)) = true := decide_eq_true hnb2
                clear d1 hnb2
                go_wp2_with fail
                go_ret
                exact ⟨rfl, q⟩
              · have d5 : decide (m < (nb : Int)) = false := decide_eq_false hnb2
                have d6 : decide ((nm : Int) ≤ m) = true := d1.resolve_right (by rw [d5]; simp)
                clear d1 hnb2
                go_wp2_with fail
                go_ret
                exact ⟨rfl, q⟩
            · have e2 : (t == x.table) = false := beq_eq_false_iff_ne.2 h2
              have e2b : decide (t = x.table) = false := decide_eq_false h2
              clear h2
              by_cases hnb2 : m < (nb : Int)
              · have d5 : decide (m < (nb : Int)) = true := decide_eq_true hnb2
                clear d1 hnb2
                go_wp2_with fail
                go_ret
                exact ⟨rfl, q⟩
              · have d5 : decide (m < (nb : Int)) = false := decide_eq_false hnb2
                have d6 : decide ((nm : Int) ≤ m) = true := d1.resolve_right (by rw [d5]; simp)
                clear d1 hnb2
                go_wp2_with fail
                go_ret
                exact ⟨rfl, q⟩
          · have e1 : ((nm : Int) == 1) = false := beq_eq_false_iff_ne.2 (by omega)
            have e1b : decide ((nm : Int) = 1) = false := decide_eq_false (by omega)
            clear h1
            by_cases hnb2 : m < (nb : Int)
            · have d5 : decide (m < (nb : Int)) = true := decide_eq_true hnb2
              clear d1 hnb2
              go_wp2_with fail
              go_ret
              exact ⟨rfl, q⟩
            · have d5 : decide (m < (nb : Int)) = false := decide_eq_false hnb2
              have d6 : decide ((nm : Int) ≤ m) = true := d1.resolve_right (by rw [d5]; simp)
              clear d1 hnb2
              go_wp2_with fail
              go_ret
              exact ⟨rfl, q⟩
end Go.Proofs.Ytcopdnigfnmnkaa
