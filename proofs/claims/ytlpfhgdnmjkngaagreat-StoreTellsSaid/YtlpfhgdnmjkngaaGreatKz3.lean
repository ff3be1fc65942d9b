/-
  TEXTS OF ONE PROOF, merged: StoreTellsW.
-/
import Derived.Test.YtlpfhgdnmjkngaaGreatKv1
import Derived.Test.YtlpfhgdnmjkngaaGreatKv2
import Derived.Test.YtlpfhgdnmjkngaaGreatKv3
import Derived.Test.YtlpfhgdnmjkngaaGreatKv4
import Derived.Test.YtlpfhgdnmjkngaaGreatKv5
import Derived.Test.YtlpfhgdnmjkngaaGreatKv6
import Derived.Test.YtlpfhgdnmjkngaaGreatKv7
import Derived.Test.YtlpfhgdnmjkngaaGreatKv8
import Derived.Test.YtlpfhgdnmjkngaaGreatKv9
import Derived.Test.YtlpfhgdnmjkngaaGreatKv10
import Derived.Test.YtlpfhgdnmjkngaaGreatKv11
import Derived.Test.YtlpfhgdnmjkngaaGreatKv12
import Derived.Test.YtlpfhgdnmjkngaaGreatKv13
import Derived.Test.YtlpfhgdnmjkngaaGreatKv14
import Derived.Test.YtlpfhgdnmjkngaaGreatKv15
import Derived.Test.YtlpfhgdnmjkngaaGreatKz2
namespace Go.Proofs.YtlpfhgdnmjkngaaGreat
open Go.RowKit Go.Shelf
set_option maxRecDepth 100000
set_option maxHeartbeats 32000000
theorem pickS_len (T:Sto) (t:Int):(zdo T t).length≤1000000:=by
 unfold zdo
 split
 ·rename_i h;have:=(h.2.2 t.toNat (by omega)).2;omega
 ·simp
theorem pick_same {T:Sto} (hk:okS T) (t:Int):pickT (tabS T) t=zdo T t:=by
 rw [zlg hk]
 rfl
theorem pick_none {T:Sto} (hk:¬ okS T) (t:Int):pickT (fun _=>[]) t=zdo T t:=by
 have e1:pickT (fun _=>[]) t=[]:=by unfold pickT;split<;>rfl
 have e2:zdo T t=[]:=if_neg fun h=>hk h.2.2
 rw [e1,e2]
section
variable {o : Oper} {A : Act} {K : Act → World → Prop} {Q : Exit → Act → World → Prop} {w : World}
theorem wp_loadT {us : List Value} (hl : us.length = 4) {x : Operand} {b off : Nat} (ho : o.op = .load 38 x) (hx : A.eval x = .pointer (some ⟨b,off,none⟩)) (hc : ∀ j u,us[j]? = some u → w.cell? ⟨b,off + j,none⟩ = some u) (h : K (A.put o.dst (.agg us.toArray)) w) : o.wp Tryz.prog A w K Q := by
 have hs : (Tryz.prog.info? 38).map (·.size) = some us.length := by rw [hl]; kernel_rfl
 have hr := run_loadCells_list (P := Tryz.prog) (w := w) ⟨b,off,none⟩ us (fun j v hj => by rw [Addr.add_lit]; exact hc j v hj)
 have hr' : (loadCellsFrom ⟨b,off,none⟩ 0 us.length #[]).run Tryz.prog w = .ok us.toArray w := hr
 clear hr
 refine zdz ?_ h
 simp only [execOp,ho,hx]
 simp [Instr.loadAt,loadVar,isAgg,run_underlying Tryz.underlying38,zab hs,hr',go_sem]
end
theorem StoreTells_w (w : World) {cs0 cs3 : Array Value} {t u : Int} {T : Sto} {x : Sp} {la : Option Addr} {n lc : Nat} {k : List UInt8} (h0 : RdSt (· < w.heap.size) w (.agg cs0) T) (h1 : (Lit.int .i64 t).wf = true) (h2 : Rd w.heap.size w (.slice la n lc) k) (h3 : RdSp (· < w.heap.size) w (.agg cs3) x) (h4 : (Lit.int .i64 u).wf = true) :
    Calls Tryz.prog 3 #[.agg cs0, .int .i64 t, .slice la n lc, .agg cs3, .int .i64 u] w fun e w' => e = .returned (.bool true) ∧ Below w.heap.size w w' := by
  have _ := h1
  have _ := h4
  have hks := h2.s
  obtain rfl : n = k.length := hks.len.1
  have hd := h0
  obtain ⟨aS, mS, cS, e, hS0⟩ := h0
  injection e with e
  subst e
  clear hS0
  have hx := h3
  obtain ⟨xl, xc, xh, xd, e, hl0, hh0, hxt⟩ := h3
  injection e with e
  subst e
  clear hl0 hh0
  obtain ⟨W0, hW, q, Bs, Bx, hsz⟩ := zmj w 29 32 [.slice (aS 0) (mS 0) (cS 0), .slice (aS 1) (mS 1) (cS 1), .slice (aS 2) (mS 2) (cS 2), .slice (aS 3) (mS 3) (cS 3), .slice (aS 4) (mS 4) (cS 4), .slice (aS 5) (mS 5) (cS 5), .slice (aS 6) (mS 6) (cS 6), .slice (aS 7) (mS 7) (cS 7), .slice (aS 8) (mS 8) (cS 8), .slice (aS 9) (mS 9) (cS 9), .slice (aS 10) (mS 10) (cS 10), .slice (aS 11) (mS 11) (cS 11)] [.int .i64 x.table, .slice xl x.lo.length xc, .slice xh x.hi.length xd, .bool x.isOpen]
  clear hsz
  replace Bs : StB W0 w.heap.size aS mS cS := Bs
  go_enter Tryz.func3, Tryz.ntmps3
  go_upto_region 1 with (fail)
  rw [show (w.alloc (.cells #[.slice (aS 0) (mS 0) (cS 0), .slice (aS 1) (mS 1) (cS 1), .slice (aS 2) (mS 2) (cS 2), .slice (aS 3) (mS 3) (cS 3), .slice (aS 4) (mS 4) (cS 4), .slice (aS 5) (mS 5) (cS 5), .slice (aS 6) (mS 6) (cS 6), .slice (aS 7) (mS 7) (cS 7), .slice (aS 8) (mS 8) (cS 8), .slice (aS 9) (mS 9) (cS 9), .slice (aS 10) (mS 10) (cS 10), .slice (aS 11) (mS 11) (cS 11)] 29)).alloc (.cells #[.int .i64 x.table, .slice xl x.lo.length xc, .slice xh x.hi.length xd, .bool x.isOpen] 32) = W0 from hW.symm]
  clear hW
  go_wp2_with fail
  refine (zpl W0).mono ?_
  rintro e w1 ⟨rfl, hb⟩
  replace Bs := Bs.below hb Bs.lt
  replace Bx := Bx.below hb Bx.lt
  replace q := q.trans (hb.mono q.size)
  clear hb
  obtain ⟨d0, d1, d2, d3, d4, d5, d6, d7, d8, d9, d10, d11⟩ := Bs.c12
  have hcl := zjq _ (hd.below q)
  go_wp2_with fail
  refine hcl.mono ?_
  rintro e ws1 ⟨rfl, hb⟩
  clear hcl d0 d1 d2 d3 d4 d5 d6 d7 d8 d9 d10 d11
  replace Bs := Bs.below hb Bs.lt
  replace Bx := Bx.below hb Bx.lt
  replace q := q.trans (hb.mono q.size)
  clear hb
  by_cases hs : zfd T
  case neg =>
    rw [decide_eq_false hs]
    go_wp2_with fail
    go_ret
    exact ⟨rfl, q⟩
  rw [decide_eq_true hs]
  by_cases g1 : 100 < k.length
  case pos =>
    have z1 : decide ((100 : Int) < (k.length : Int)) = true := decide_eq_true (by omega)
    go_wp2_with fail
    go_ret
    exact ⟨rfl, q⟩
  have z1 : decide ((100 : Int) < (k.length : Int)) = false := decide_eq_false (by omega)
  clear g1
  obtain ⟨b0, b1, b2, b3⟩ := Bx.c4
  have hcl := zo3 _ (hx.below q)
  go_wp2_with fail
  refine hcl.mono ?_
  rintro e wh ⟨rfl, hb⟩
  clear hcl b0 b1 b2 b3
  replace Bs := Bs.below hb Bs.lt
  replace Bx := Bx.below hb Bx.lt
  replace q := q.trans (hb.mono q.size)
  clear hb
  by_cases hsh : shS x
  case neg =>
    rw [decide_eq_false hsh]
    go_wp2_with fail
    go_ret
    exact ⟨rfl, q⟩
  rw [decide_eq_true hsh]
  clear hsh z1
  have eA : ∀ args w, (callFunc 19 args).run Tryz.prog w = .ok (.enter 19 args) w := enters_of Tryz.func19 (by kernel_rfl) rfl
  have eB : ∀ args w, (callFunc 20 args).run Tryz.prog w = .ok (.enter 20 args) w := enters_of Tryz.func20 (by kernel_rfl) rfl
  have eP : ∀ args w, (callFunc 18 args).run Tryz.prog w = .ok (.enter 18 args) w := enters_of Tryz.func18 (by kernel_rfl) rfl
  have eC : ∀ args w, (callFunc 21 args).run Tryz.prog w = .ok (.enter 21 args) w := enters_of Tryz.func21 (by kernel_rfl) rfl
  have eN : ∀ args w, (callFunc 22 args).run Tryz.prog w = .ok (.enter 22 args) w := enters_of Tryz.func22 (by kernel_rfl) rfl
  have eM : ∀ args w, (callFunc 23 args).run Tryz.prog w = .ok (.enter 23 args) w := enters_of Tryz.func23 (by kernel_rfl) rfl
  go_upto_region 5 with (first | (refine zbf (vs := [.slice none 0 0, .slice none 0 0, .slice none 0 0, .slice none 0 0]) (by kernel_rfl) rfl rfl ?_; intro wa hba hBa) | (refine zam (us := [.slice none 0 0, .slice none 0 0, .slice none 0 0, .slice none 0 0]) (by kernel_rfl) rfl rfl rfl rfl rfl rfl hBa rfl ?_; intro wt hgw Bt) | fail)
  try go_simp
  have hbw := hba.grown hgw hba.size fun k hk => by injection hk with hk; omega
  have hBxl := Bx.lt
  replace Bs := Bs.below hbw Bs.lt
  replace Bx := Bx.below hbw Bx.lt
  replace q := q.trans (hbw.mono q.size)
  obtain ⟨bT, hbT⟩ : ∃ b, b = wh.heap.size := ⟨_, rfl⟩
  rw [← hbT] at Bt hBxl
  rw [← hbT]
  clear hbT hbw hgw hba hBa
  obtain ⟨d0, d1, d2, d3, d4, d5, d6, d7, d8, d9, d10, d11⟩ := Bs.c12
  have hcl := refCheckS_any _ (hd.below q) (zde hs)
  go_wp2_with fail
  refine hcl.mono ?_
  rintro e wk ⟨rfl, hb⟩
  clear hcl d0 d1 d2 d3 d4 d5 d6 d7 d8 d9 d10 d11
  replace Bs := Bs.below hb Bs.lt
  replace Bx := Bx.below hb Bx.lt
  replace Bt := Bt.below hb Bt.lt
  replace q := q.trans (hb.mono q.size)
  clear hb
  obtain ⟨okb, hokb⟩ : ∃ b, b = decide (okS T) := ⟨_, rfl⟩
  rw [← hokb]
  replace hokb := Lib.hid hokb
  go_upto_if 37 with (fail)
  go_cut [13] (fun v W2 => v = .bool okb ∧ ∃ (aT : Nat → Option Addr) (LT : Tb) (cT : Nat → Nat), BoxN W2 bT 38 [.slice (aT 0) (LT 0).length (cT 0), .slice (aT 1) (LT 1).length (cT 1), .slice (aT 2) (LT 2).length (cT 2), .slice (aT 3) (LT 3).length (cT 3)] ∧ RdTb (fun _ => True) W2 (.agg #[.slice (aT 0) (LT 0).length (cT 0), .slice (aT 1) (LT 1).length (cT 1), .slice (aT 2) (LT 2).length (cT 2), .slice (aT 3) (LT 3).length (cT 3)]) LT ∧ (∀ t, pickT LT t = zdo T t) ∧ StB W2 w.heap.size aS mS cS ∧ BoxN W2 (w.heap.size + 1) 32 [.int .i64 x.table, .slice xl x.lo.length xc, .slice xh x.hi.length xd, .bool x.isOpen] ∧ Below w.heap.size w W2)
  case first =>
    cases okb with
    | false =>
      have heq := pick_none (of_decide_eq_false hokb.out.symm)
      go_wp2_with fail
      go_meet
      exact ⟨rfl, fun _ => none, fun _ => [], fun _ => 0, Bt, ⟨fun _ => none, fun _ => 0, rfl, fun i hi => RdL.nil _ _ _⟩, heq, Bs, Bx, q⟩
    | true =>
      have heq := pick_same (of_decide_eq_true hokb.out.symm)
      go_upto_region 7 with (fail)
      obtain ⟨d0, d1, d2, d3, d4, d5, d6, d7, d8, d9, d10, d11⟩ := Bs.c12
      have hcl := zla _ (hd.below q) (zde hs)
      have hbl := Bt.lt
      go_wp2_with fail
      refine hcl.mono ?_
      rintro e wo ⟨v9, rfl, ⟨aT, cT, rfl, hT0⟩, hb⟩
      clear hcl d0 d1 d2 d3 d4 d5 d6 d7 d8 d9 d10 d11
      replace Bs := Bs.below hb Bs.lt
      replace Bx := Bx.below hb Bx.lt
      replace Bt := Bt.below hb Bt.lt
      replace q := q.trans (hb.mono q.size)
      clear hb
      obtain ⟨LT, hLT⟩ : ∃ f, f = tabS T := ⟨_, rfl⟩
      rw [← hLT] at heq hT0
      rw [← hLT]
      clear hLT
      replace heq := Lib.hid heq
      go_wp2_with (first | (refine zam (us := [.slice (aT 0) (LT 0).length (cT 0), .slice (aT 1) (LT 1).length (cT 1), .slice (aT 2) (LT 2).length (cT 2), .slice (aT 3) (LT 3).length (cT 3)]) (by kernel_rfl) rfl rfl rfl rfl rfl rfl Bt rfl ?_; intro wt2 hgw Bt2) | fail)
      go_meet
      have hne : ∀ k, k < wo.heap.size → k ≠ bT → wt2.heap[k]? = wo.heap[k]? := fun k h1 h2 => hgw.block k h1 (fun e => h2 (by injection e))
      exact ⟨rfl, aT, LT, cT, Bt2, ⟨aT, cT, rfl, fun i hi => ((hT0 i hi).fit.keep fun k hk => hne k hk.2 (by have := hk.1; omega)).weak fun _ _ => trivial⟩, heq.out, BoxN.other Bs hgw (fun e => by injection e with e; omega), Bx.other hgw (fun e => by injection e with e; omega), q.grown hgw q.size (fun k hk => by injection hk with hk; omega)⟩
  case rest =>
    clear Bs Bx Bt q
    obtain ⟨rfl, aT, LT, cT, Bt, hT, heq, Bs, Bx, q⟩ := hcut
    go_upto_region 8 with (fail)
    obtain ⟨d0, d1, d2, d3, d4, d5, d6, d7, d8, d9, d10, d11⟩ := Bs.c12
    obtain ⟨g1, hg1⟩ : ∃ g, g = getP (zdo T t) k u := ⟨_, rfl⟩
    have hcl := zjf _ (T := T) (t := t) (s := u) (hd.below q) (zde hs) (hks.below q)
    rw [← hg1] at hcl
    replace hg1 := Lib.hid hg1
    go_wp2_with fail
    refine hcl.mono ?_
    rintro e wg1 ⟨va1, vc1, rfl, rg1, hb⟩
    clear hcl d0 d1 d2 d3 d4 d5 d6 d7 d8 d9 d10 d11
    replace Bs := Bs.below hb Bs.lt
    replace Bx := Bx.below hb Bx.lt
    replace Bt := Bt.below hb Bt.lt
    replace hT := hT.below hb
    replace q := q.trans (hb.mono q.size)
    clear hb
    replace rg1 : RdS (fun _ => True) wg1 (.slice va1 (g1.getD []).length vc1) (g1.getD []) := rg1.weak fun _ _ => trivial
    go_upto_region 9 with (fail)
    obtain ⟨y0, y1, y2, y3⟩ := Bt.c4
    have hcl := refTGet_any _ (t := t) (s := u) hT (hks.below q)
    rw [heq, ← hg1.out] at hcl
    go_wp2_with fail
    refine hcl.mono ?_
    rintro e wg2 ⟨va2, vc2, rfl, rg2, hb⟩
    clear hcl y0 y1 y2 y3
    replace Bs := Bs.below hb Bs.lt
    replace Bx := Bx.below hb Bx.lt
    replace Bt := Bt.below hb Bt.lt
    replace hT := hT.below hb
    replace rg1 := rg1.below hb
    replace q := q.trans (hb.mono q.size)
    clear hb
    replace rg2 : RdS (fun _ => True) wg2 (.slice va2 (g1.getD []).length vc2) (g1.getD []) := rg2.weak fun _ _ => trivial
    go_upto_region 10 with (fail)
    clear hg1
    obtain ⟨gv, hgv⟩ : ∃ z, z = g1.getD [] := ⟨_, rfl⟩
    obtain ⟨gi, hgi⟩ : ∃ z, z = g1.isSome := ⟨_, rfl⟩
    rw [← hgv] at rg1 rg2 ⊢
    rw [← hgi]
    clear hgv hgi g1
    obtain ⟨U, hU⟩ : ∃ V, V = wg2 := ⟨_, rfl⟩
    rw [← hU] at q Bs Bx Bt hT rg1 rg2
    rw [← hU]
    clear hU
    have hdU := hd.below q
    have hxU := hx.below q
    obtain ⟨L, hL⟩ : ∃ l, l = zgd (zdo T x.table) x u := ⟨_, rfl⟩
    obtain ⟨nw, hN⟩ : ∃ b, b = newP (zdo T x.table) x u := ⟨_, rfl⟩
    have k1 := fun (V : World) (hV : Below U.heap.size U V) => zhq V (s := u) (hdU.below hV) (zde hs) (hxU.below hV)
    have k2 := fun (V : World) (hV : Below U.heap.size U V) => refTScan_any V (s := u) (hT.below hV) (hxU.below hV) (by rw [heq]; exact pickS_len T _)
    have k3 := fun (V : World) (hV : Below U.heap.size U V) => ze4 V (s := u) (hdU.below hV) (zde hs) (hxU.below hV)
    have k4 := fun (V : World) (hV : Below U.heap.size U V) => refTNewer_any V (s := u) (hT.below hV) (hxU.below hV)
    have k5 := fun (V : World) (hV : Below U.heap.size U V) => zcx V (hdU.below hV) (zde hs)
    rw [← hL] at k1
    rw [heq, ← hL] at k2
    rw [← hN] at k3
    rw [heq, ← hN] at k4
    rw [← hokb.out] at k5
    clear hL hN heq
    obtain ⟨vS, hvS⟩ : ∃ v, v = Value.agg #[.slice (aS 0) (mS 0) (cS 0), .slice (aS 1) (mS 1) (cS 1), .slice (aS 2) (mS 2) (cS 2), .slice (aS 3) (mS 3) (cS 3), .slice (aS 4) (mS 4) (cS 4), .slice (aS 5) (mS 5) (cS 5), .slice (aS 6) (mS 6) (cS 6), .slice (aS 7) (mS 7) (cS 7), .slice (aS 8) (mS 8) (cS 8), .slice (aS 9) (mS 9) (cS 9), .slice (aS 10) (mS 10) (cS 10), .slice (aS 11) (mS 11) (cS 11)] := ⟨_, rfl⟩
    obtain ⟨vX, hvX⟩ : ∃ v, v = Value.agg #[.int .i64 x.table, .slice xl x.lo.length xc, .slice xh x.hi.length xd, .bool x.isOpen] := ⟨_, rfl⟩
    obtain ⟨vT, hvT⟩ : ∃ v, v = Value.agg #[.slice (aT 0) (LT 0).length (cT 0), .slice (aT 1) (LT 1).length (cT 1), .slice (aT 2) (LT 2).length (cT 2), .slice (aT 3) (LT 3).length (cT 3)] := ⟨_, rfl⟩
    rw [← hvS, ← hvX] at k1 k3
    rw [← hvT, ← hvX] at k2 k4
    rw [← hvS] at k5
    replace hvS := Lib.hid hvS
    replace hvX := Lib.hid hvX
    replace hvT := Lib.hid hvT
    refine zbu (by kernel_rfl) (by kernel_rfl) [sgEq (vS), sgEq (vX), sgEq (.int .i64 u), sgVq L, sgEq (vT), sgEq (vX), sgEq (.int .i64 u), sgVq L, sgEq (.bool true), sgEq (.bool true)]
      ⟨?o0, ?o1, ?o2, ?o3, ?o4, ?o5, ?o6, ?o7, ?o8, ?o9, trivial⟩ ?fin
    case o0 =>
      refine GdOp.plain rfl (fun A vs w' hF hT hb hd => ?_)
      have e1 : A.eval (.tmp 5) = .pointer (some ⟨w.heap.size, 0, none⟩) := hF 5 rfl
      exact zcf (us := bxS aS mS cS) stS7 rfl e1 (fun j v hj => by rw [Nat.zero_add]; exact (BoxN.below Bs hb Bs.lt).cell hj) ⟨_, rfl, hvS.out.symm, Below.refl _ _⟩
    case o1 =>
      refine GdOp.plain rfl (fun A vs w' hF hT hb hd => ?_)
      have e1 : A.eval (.tmp 8) = .pointer (some ⟨w.heap.size + 1, 0, none⟩) := hF 8 rfl
      exact zcf (us := [.int .i64 x.table, .slice xl x.lo.length xc, .slice xh x.hi.length xd, .bool x.isOpen]) spQ7 rfl e1 (fun j v hj => by rw [Nat.zero_add]; exact (BoxN.below Bx hb Bx.lt).cell hj) ⟨_, rfl, hvX.out.symm, Below.refl _ _⟩
    case o2 =>
      refine GdOp.plain rfl (fun A vs w' hF hT hb hd => ?_)
      have e1 : A.eval (.tmp 4) = .int .i64 u := hF 4 rfl
      exact BigFrame.wp_move _ rfl ⟨_, rfl, e1, Below.refl _ _⟩
    case o3 =>
      refine GdOp.plain rfl (fun A vs w' hF hT hb hd => ?_)
      have e1 : A.eval (.tmp 56) = vS := (hT 56 0 (by simp) rfl).trans (hd ⟨0, .data⟩ (by simp) rfl)
      have e2 : A.eval (.tmp 57) = vX := (hT 57 1 (by simp) rfl).trans (hd ⟨1, .data⟩ (by simp) rfl)
      have e3 : A.eval (.tmp 58) = .int .i64 u := (hT 58 2 (by simp) rfl).trans (hd ⟨2, .data⟩ (by simp) rfl)
      refine zak rfl eA (args := #[vS, vX, .int .i64 u]) (by simp only [List.map_toArray, List.map_cons, List.map_nil, e1, e2, e3]) ((k1 w' hb).mono ?_)
      rintro e w2 ⟨a9, c9, rfl, ho9, hb2⟩
      exact ⟨_, rfl, _, rfl, ⟨a9, c9, rfl, ho9.weak fun _ _ => trivial⟩, hb2⟩
    case o4 =>
      refine GdOp.plain rfl (fun A vs w' hF hT hb hd => ?_)
      have e1 : A.eval (.tmp 12) = .pointer (some ⟨bT, 0, none⟩) := hF 12 rfl
      exact wp_loadT (us := [.slice (aT 0) (LT 0).length (cT 0), .slice (aT 1) (LT 1).length (cT 1), .slice (aT 2) (LT 2).length (cT 2), .slice (aT 3) (LT 3).length (cT 3)]) rfl rfl e1 (fun j v hj => by rw [Nat.zero_add]; exact (BoxN.below Bt hb Bt.lt).cell hj) ⟨_, rfl, hvT.out.symm, Below.refl _ _⟩
    case o5 =>
      refine GdOp.plain rfl (fun A vs w' hF hT hb hd => ?_)
      have e1 : A.eval (.tmp 8) = .pointer (some ⟨w.heap.size + 1, 0, none⟩) := hF 8 rfl
      exact zcf (us := [.int .i64 x.table, .slice xl x.lo.length xc, .slice xh x.hi.length xd, .bool x.isOpen]) spQ7 rfl e1 (fun j v hj => by rw [Nat.zero_add]; exact (BoxN.below Bx hb Bx.lt).cell hj) ⟨_, rfl, hvX.out.symm, Below.refl _ _⟩
    case o6 =>
      refine GdOp.plain rfl (fun A vs w' hF hT hb hd => ?_)
      have e1 : A.eval (.tmp 4) = .int .i64 u := hF 4 rfl
      exact BigFrame.wp_move _ rfl ⟨_, rfl, e1, Below.refl _ _⟩
    case o7 =>
      refine GdOp.plain rfl (fun A vs w' hF hT hb hd => ?_)
      have e1 : A.eval (.tmp 60) = vT := (hT 60 4 (by simp) rfl).trans (hd ⟨4, .data⟩ (by simp) rfl)
      have e2 : A.eval (.tmp 61) = vX := (hT 61 5 (by simp) rfl).trans (hd ⟨5, .data⟩ (by simp) rfl)
      have e3 : A.eval (.tmp 62) = .int .i64 u := (hT 62 6 (by simp) rfl).trans (hd ⟨6, .data⟩ (by simp) rfl)
      refine zak rfl eB (args := #[vT, vX, .int .i64 u]) (by simp only [List.map_toArray, List.map_cons, List.map_nil, e1, e2, e3]) ((k2 w' hb).mono ?_)
      rintro e w2 ⟨a9, c9, rfl, ho9, hb2⟩
      exact ⟨_, rfl, _, rfl, ⟨a9, c9, rfl, ho9⟩, hb2⟩
    case o8 =>
      refine GdOp.plain rfl (fun A vs w' hF hT hb hd => ?_)
      obtain ⟨a1, c1, q1, hr1⟩ := hd ⟨3, .data⟩ (by simp) rfl
      have e1 : A.eval (.tmp 59) = .slice a1 (L).length c1 := (hT 59 3 (by simp) rfl).trans q1
      obtain ⟨a2, c2, q2, hr2⟩ := hd ⟨7, .data⟩ (by simp) rfl
      have e2 : A.eval (.tmp 63) = .slice a2 (L).length c2 := (hT 63 7 (by simp) rfl).trans q2
      refine zak rfl eP (args := #[.slice a1 L.length c1, .slice a2 L.length c2]) (by simp only [List.map_toArray, List.map_cons, List.map_nil, e1, e2]) ((zql w' hr1 hr2).mono ?_)
      rintro e w2 ⟨rfl, hb2⟩
      exact ⟨_, rfl, _, rfl, congrArg Value.bool (decide_eq_true rfl), hb2⟩
    case o9 =>
      refine GdOp.plain rfl (fun A vs w' hF hT hb hd => ?_)
      have e1 : A.eval (.tmp 64) = .bool true := (hT 64 8 (by simp) rfl).trans (hd ⟨8, .data⟩ (by simp) rfl)
      exact BigFrame.wp_assign _ rfl ⟨_, rfl, e1, Below.refl _ _⟩
    case fin =>
    intro vs9 W9 hb9 hG9
    have e0 : vs9 0 = vS := hG9 0 (by decide)
    have e1 : vs9 1 = vX := hG9 1 (by decide)
    have e2 : vs9 2 = .int .i64 u := hG9 2 (by decide)
    obtain ⟨gx3, gy3, e3, _⟩ := hG9 3 (by decide)
    have e4 : vs9 4 = vT := hG9 4 (by decide)
    have e5 : vs9 5 = vX := hG9 5 (by decide)
    have e6 : vs9 6 = .int .i64 u := hG9 6 (by decide)
    obtain ⟨gx7, gy7, e7, _⟩ := hG9 7 (by decide)
    have e8 : vs9 8 = .bool true := hG9 8 (by decide)
    have e9 : vs9 9 = .bool true := hG9 9 (by decide)
    simp only [zae, e0, e1, e2, e3, e4, e5, e6, e7, e8, e9]
    clear hG9 e0 e1 e2 e3 e4 e5 e6 e7 e8 e9
    have hbq := hb9
    replace q := q.trans (hb9.mono q.size)
    clear hb9
    go_simp
    go_upto_region 11 with (fail)
    have B1 : StB W9 w.heap.size aS mS cS := BoxN.below Bs hbq Bs.lt
    have B2 := Bx.below hbq Bx.lt
    have B3 := Bt.below hbq Bt.lt
    have r1 := (rg1.below hbq).rd
    have r2 := (rg2.below hbq).rd
    replace k3 := fun (V : World) (hV : Below W9.heap.size W9 V) => k3 V (hbq.trans (hV.mono hbq.size))
    replace k4 := fun (V : World) (hV : Below W9.heap.size W9 V) => k4 V (hbq.trans (hV.mono hbq.size))
    replace k5 := fun (V : World) (hV : Below W9.heap.size W9 V) => k5 V (hbq.trans (hV.mono hbq.size))
    clear k1 k2 Bs Bx Bt hT rg1 rg2 hdU hxU
    refine wp_region_gsa (by kernel_rfl) (by kernel_rfl) [sgEq (.bool true), sgEq (.bool true), sgEq (vS), sgEq (.bool okb), sgEq (.bool okb), sgEq (.bool true), sgEq (.bool true), sgEq (.bool true), sgEq (.slice va1 gv.length vc1), sgEq (.string (zbk gv)), sgEq (.slice va2 gv.length vc2), sgEq (.string (zbk gv)), sgEq (.bool true), sgEq (.bool true), sgEq (.bool true), sgEq (.bool gi), sgEq (.bool gi), sgEq (.bool true), sgEq (.bool true), sgEq (.bool true), sgEq (.bool true), sgEq (.bool true), sgEq (.bool true), sgEq (vS), sgEq (vX), sgEq (.int .i64 u), sgEq (.bool nw), sgEq (vT), sgEq (vX), sgEq (.int .i64 u), sgEq (.bool nw), sgEq (.bool true), sgEq (.bool true), sgEq (.bool true)]
      ⟨?o0, ?o1, ?o2, ?o3, ?o4, ?o5, ?o6, ?o7, ?o8, ?o9, ?o10, ?o11, ?o12, ?o13, ?o14, ?o15, ?o16, ?o17, ?o18, ?o19, ?o20, ?o21, ?o22, ?o23, ?o24, ?o25, ?o26, ?o27, ?o28, ?o29, ?o30, ?o31, ?o32, ?o33, trivial⟩ ?fin
    case o0 =>
      refine GdOp.plain rfl (fun A vs w' hF hT hb hd => ?_)
      have e1 : A.eval (.tmp 11) = .bool true := hF 11 rfl
      exact BigFrame.wp_move _ rfl ⟨_, rfl, e1, Below.refl _ _⟩
    case o1 =>
      refine GdOp.plain rfl (fun A vs w' hF hT hb hd => ?_)
      have e1 : A.eval (.tmp 65) = .bool true := (hT 65 0 (by simp) rfl).trans (hd ⟨0, .data⟩ (by simp) rfl)
      exact BigFrame.wp_move _ rfl ⟨_, rfl, e1, Below.refl _ _⟩
    case o2 =>
      refine GdOp.taken rfl ⟨_, _, rfl, rfl, by simp⟩ (by kernel_rfl) (fun w v h => h) (fun A vs w' hF hT hb hd => ?_)
      have e1 : A.eval (.tmp 5) = .pointer (some ⟨w.heap.size, 0, none⟩) := hF 5 rfl
      exact zcf (us := bxS aS mS cS) stS7 rfl e1 (fun j v hj => by rw [Nat.zero_add]; exact (BoxN.below B1 hb B1.lt).cell hj) ⟨_, rfl, hvS.out.symm, Below.refl _ _⟩
    case o3 =>
      refine GdOp.taken rfl ⟨_, _, rfl, rfl, by simp⟩ (by kernel_rfl) (fun w v h => h) (fun A vs w' hF hT hb hd => ?_)
      have e1 : A.eval (.tmp 67) = vS := (hT 67 2 (by simp) rfl).trans (hd ⟨2, .data⟩ (by simp) rfl)
      refine zak rfl eC (args := #[vS]) (by simp only [List.map_toArray, List.map_cons, List.map_nil, e1]) ((k5 w' hb).mono ?_)
      rintro e w2 ⟨rfl, hb2⟩
      exact ⟨_, rfl, _, rfl, rfl, hb2⟩
    case o4 =>
      refine GdOp.taken rfl ⟨_, _, rfl, rfl, by simp⟩ (by kernel_rfl) (fun w v h => h) (fun A vs w' hF hT hb hd => ?_)
      have e1 : A.eval (.tmp 13) = .bool okb := hF 13 rfl
      exact BigFrame.wp_move _ rfl ⟨_, rfl, e1, Below.refl _ _⟩
    case o5 =>
      refine GdOp.taken rfl ⟨_, _, rfl, rfl, by simp⟩ (by kernel_rfl) (fun w v h => h) (fun A vs w' hF hT hb hd => ?_)
      have e1 : A.eval (.tmp 68) = .bool okb := (hT 68 3 (by simp) rfl).trans (hd ⟨3, .data⟩ (by simp) rfl)
      have e2 : A.eval (.tmp 69) = .bool okb := (hT 69 4 (by simp) rfl).trans (hd ⟨4, .data⟩ (by simp) rfl)
      exact wp_eqlB (by kernel_rfl) rfl e1 e2 ⟨_, rfl, congrArg Value.bool (beq_self_eq_true _), Below.refl _ _⟩
    case o6 =>
      refine GdOp.plain rfl (fun A vs w' hF hT hb hd => ?_)
      have e1 : A.eval (.tmp 66) = .bool true := (hT 66 1 (by simp) rfl).trans (hd ⟨1, .data⟩ (by simp) rfl)
      have e2 : A.eval (.tmp 70) = .bool true := (hT 70 5 (by simp) rfl).trans (hd ⟨5, .data⟩ (by simp) rfl)
      exact wp_pk rfl e1 (fun _ => e2) (by simp) ⟨_, rfl, rfl, Below.refl _ _⟩
    case o7 =>
      refine GdOp.plain rfl (fun A vs w' hF hT hb hd => ?_)
      have e1 : A.eval (.tmp 71) = .bool true := (hT 71 6 (by simp) rfl).trans (hd ⟨6, .data⟩ (by simp) rfl)
      exact BigFrame.wp_move _ rfl ⟨_, rfl, e1, Below.refl _ _⟩
    case o8 =>
      refine GdOp.taken rfl ⟨_, _, rfl, rfl, by simp⟩ (by kernel_rfl) (fun w v h => h) (fun A vs w' hF hT hb hd => ?_)
      have e1 : A.eval (.tmp 14) = .slice va1 gv.length vc1 := hF 14 rfl
      exact BigFrame.wp_move _ rfl ⟨_, rfl, e1, Below.refl _ _⟩
    case o9 =>
      refine GdOp.taken rfl ⟨_, _, rfl, rfl, by simp⟩ (by kernel_rfl) (fun w v h => h) (fun A vs w' hF hT hb hd => ?_)
      have e1 : A.eval (.tmp 73) = .slice va1 gv.length vc1 := (hT 73 8 (by simp) rfl).trans (hd ⟨8, .data⟩ (by simp) rfl)
      exact wp_conv byP rfl e1 (RdS.below (Rd.s r1) hb).rd ⟨_, rfl, rfl, Below.refl _ _⟩
    case o10 =>
      refine GdOp.taken rfl ⟨_, _, rfl, rfl, by simp⟩ (by kernel_rfl) (fun w v h => h) (fun A vs w' hF hT hb hd => ?_)
      have e1 : A.eval (.tmp 16) = .slice va2 gv.length vc2 := hF 16 rfl
      exact BigFrame.wp_move _ rfl ⟨_, rfl, e1, Below.refl _ _⟩
    case o11 =>
      refine GdOp.taken rfl ⟨_, _, rfl, rfl, by simp⟩ (by kernel_rfl) (fun w v h => h) (fun A vs w' hF hT hb hd => ?_)
      have e1 : A.eval (.tmp 75) = .slice va2 gv.length vc2 := (hT 75 10 (by simp) rfl).trans (hd ⟨10, .data⟩ (by simp) rfl)
      exact wp_conv byP rfl e1 (RdS.below (Rd.s r2) hb).rd ⟨_, rfl, rfl, Below.refl _ _⟩
    case o12 =>
      refine GdOp.taken rfl ⟨_, _, rfl, rfl, by simp⟩ (by kernel_rfl) (fun w v h => h) (fun A vs w' hF hT hb hd => ?_)
      have e1 : A.eval (.tmp 74) = .string (zbk gv) := (hT 74 9 (by simp) rfl).trans (hd ⟨9, .data⟩ (by simp) rfl)
      have e2 : A.eval (.tmp 76) = .string (zbk gv) := (hT 76 11 (by simp) rfl).trans (hd ⟨11, .data⟩ (by simp) rfl)
      exact wp_eqlS rfl e1 e2 ⟨_, rfl, congrArg Value.bool (by simp), Below.refl _ _⟩
    case o13 =>
      refine GdOp.plain rfl (fun A vs w' hF hT hb hd => ?_)
      have e1 : A.eval (.tmp 72) = .bool true := (hT 72 7 (by simp) rfl).trans (hd ⟨7, .data⟩ (by simp) rfl)
      have e2 : A.eval (.tmp 77) = .bool true := (hT 77 12 (by simp) rfl).trans (hd ⟨12, .data⟩ (by simp) rfl)
      exact wp_pk rfl e1 (fun _ => e2) (by simp) ⟨_, rfl, rfl, Below.refl _ _⟩
    case o14 =>
      refine GdOp.plain rfl (fun A vs w' hF hT hb hd => ?_)
      have e1 : A.eval (.tmp 78) = .bool true := (hT 78 13 (by simp) rfl).trans (hd ⟨13, .data⟩ (by simp) rfl)
      exact BigFrame.wp_move _ rfl ⟨_, rfl, e1, Below.refl _ _⟩
    case o15 =>
      refine GdOp.taken rfl ⟨_, _, rfl, rfl, by simp⟩ (by kernel_rfl) (fun w v h => h) (fun A vs w' hF hT hb hd => ?_)
      have e1 : A.eval (.tmp 15) = .bool gi := hF 15 rfl
      exact BigFrame.wp_move _ rfl ⟨_, rfl, e1, Below.refl _ _⟩
    case o16 =>
      refine GdOp.taken rfl ⟨_, _, rfl, rfl, by simp⟩ (by kernel_rfl) (fun w v h => h) (fun A vs w' hF hT hb hd => ?_)
      have e1 : A.eval (.tmp 17) = .bool gi := hF 17 rfl
      exact BigFrame.wp_move _ rfl ⟨_, rfl, e1, Below.refl _ _⟩
    case o17 =>
      refine GdOp.taken rfl ⟨_, _, rfl, rfl, by simp⟩ (by kernel_rfl) (fun w v h => h) (fun A vs w' hF hT hb hd => ?_)
      have e1 : A.eval (.tmp 80) = .bool gi := (hT 80 15 (by simp) rfl).trans (hd ⟨15, .data⟩ (by simp) rfl)
      have e2 : A.eval (.tmp 81) = .bool gi := (hT 81 16 (by simp) rfl).trans (hd ⟨16, .data⟩ (by simp) rfl)
      exact wp_eqlB (by kernel_rfl) rfl e1 e2 ⟨_, rfl, congrArg Value.bool (beq_self_eq_true _), Below.refl _ _⟩
    case o18 =>
      refine GdOp.plain rfl (fun A vs w' hF hT hb hd => ?_)
      have e1 : A.eval (.tmp 79) = .bool true := (hT 79 14 (by simp) rfl).trans (hd ⟨14, .data⟩ (by simp) rfl)
      have e2 : A.eval (.tmp 82) = .bool true := (hT 82 17 (by simp) rfl).trans (hd ⟨17, .data⟩ (by simp) rfl)
      exact wp_pk rfl e1 (fun _ => e2) (by simp) ⟨_, rfl, rfl, Below.refl _ _⟩
    case o19 =>
      refine GdOp.plain rfl (fun A vs w' hF hT hb hd => ?_)
      have e1 : A.eval (.tmp 83) = .bool true := (hT 83 18 (by simp) rfl).trans (hd ⟨18, .data⟩ (by simp) rfl)
      exact BigFrame.wp_move _ rfl ⟨_, rfl, e1, Below.refl _ _⟩
    case o20 =>
      refine GdOp.taken rfl ⟨_, _, rfl, rfl, by simp⟩ (by kernel_rfl) (fun w v h => h) (fun A vs w' hF hT hb hd => ?_)
      have e1 : A.eval (.tmp 18) = .bool true := hF 18 rfl
      exact BigFrame.wp_move _ rfl ⟨_, rfl, e1, Below.refl _ _⟩
    case o21 =>
      refine GdOp.plain rfl (fun A vs w' hF hT hb hd => ?_)
      have e1 : A.eval (.tmp 84) = .bool true := (hT 84 19 (by simp) rfl).trans (hd ⟨19, .data⟩ (by simp) rfl)
      have e2 : A.eval (.tmp 85) = .bool true := (hT 85 20 (by simp) rfl).trans (hd ⟨20, .data⟩ (by simp) rfl)
      exact wp_pk rfl e1 (fun _ => e2) (by simp) ⟨_, rfl, rfl, Below.refl _ _⟩
    case o22 =>
      refine GdOp.plain rfl (fun A vs w' hF hT hb hd => ?_)
      have e1 : A.eval (.tmp 86) = .bool true := (hT 86 21 (by simp) rfl).trans (hd ⟨21, .data⟩ (by simp) rfl)
      exact BigFrame.wp_move _ rfl ⟨_, rfl, e1, Below.refl _ _⟩
    case o23 =>
      refine GdOp.taken rfl ⟨_, _, rfl, rfl, by simp⟩ (by kernel_rfl) (fun w v h => h) (fun A vs w' hF hT hb hd => ?_)
      have e1 : A.eval (.tmp 5) = .pointer (some ⟨w.heap.size, 0, none⟩) := hF 5 rfl
      exact zcf (us := bxS aS mS cS) stS7 rfl e1 (fun j v hj => by rw [Nat.zero_add]; exact (BoxN.below B1 hb B1.lt).cell hj) ⟨_, rfl, hvS.out.symm, Below.refl _ _⟩
    case o24 =>
      refine GdOp.taken rfl ⟨_, _, rfl, rfl, by simp⟩ (by kernel_rfl) (fun w v h => h) (fun A vs w' hF hT hb hd => ?_)
      have e1 : A.eval (.tmp 8) = .pointer (some ⟨w.heap.size + 1, 0, none⟩) := hF 8 rfl
      exact zcf (us := [.int .i64 x.table, .slice xl x.lo.length xc, .slice xh x.hi.length xd, .bool x.isOpen]) spQ7 rfl e1 (fun j v hj => by rw [Nat.zero_add]; exact (BoxN.below B2 hb B2.lt).cell hj) ⟨_, rfl, hvX.out.symm, Below.refl _ _⟩
    case o25 =>
      refine GdOp.taken rfl ⟨_, _, rfl, rfl, by simp⟩ (by kernel_rfl) (fun w v h => h) (fun A vs w' hF hT hb hd => ?_)
      have e1 : A.eval (.tmp 4) = .int .i64 u := hF 4 rfl
      exact BigFrame.wp_move _ rfl ⟨_, rfl, e1, Below.refl _ _⟩
    case o26 =>
      refine GdOp.taken rfl ⟨_, _, rfl, rfl, by simp⟩ (by kernel_rfl) (fun w v h => h) (fun A vs w' hF hT hb hd => ?_)
      have e1 : A.eval (.tmp 88) = vS := (hT 88 23 (by simp) rfl).trans (hd ⟨23, .data⟩ (by simp) rfl)
      have e2 : A.eval (.tmp 89) = vX := (hT 89 24 (by simp) rfl).trans (hd ⟨24, .data⟩ (by simp) rfl)
      have e3 : A.eval (.tmp 90) = .int .i64 u := (hT 90 25 (by simp) rfl).trans (hd ⟨25, .data⟩ (by simp) rfl)
      refine zak rfl eN (args := #[vS, vX, .int .i64 u]) (by simp only [List.map_toArray, List.map_cons, List.map_nil, e1, e2, e3]) ((k3 w' hb).mono ?_)
      rintro e w2 ⟨rfl, hb2⟩
      exact ⟨_, rfl, _, rfl, rfl, hb2⟩
    case o27 =>
      refine GdOp.taken rfl ⟨_, _, rfl, rfl, by simp⟩ (by kernel_rfl) (fun w v h => h) (fun A vs w' hF hT hb hd => ?_)
      have e1 : A.eval (.tmp 12) = .pointer (some ⟨bT, 0, none⟩) := hF 12 rfl
      exact wp_loadT (us := [.slice (aT 0) (LT 0).length (cT 0), .slice (aT 1) (LT 1).length (cT 1), .slice (aT 2) (LT 2).length (cT 2), .slice (aT 3) (LT 3).length (cT 3)]) rfl rfl e1 (fun j v hj => by rw [Nat.zero_add]; exact (BoxN.below B3 hb B3.lt).cell hj) ⟨_, rfl, hvT.out.symm, Below.refl _ _⟩
    case o28 =>
      refine GdOp.taken rfl ⟨_, _, rfl, rfl, by simp⟩ (by kernel_rfl) (fun w v h => h) (fun A vs w' hF hT hb hd => ?_)
      have e1 : A.eval (.tmp 8) = .pointer (some ⟨w.heap.size + 1, 0, none⟩) := hF 8 rfl
      exact zcf (us := [.int .i64 x.table, .slice xl x.lo.length xc, .slice xh x.hi.length xd, .bool x.isOpen]) spQ7 rfl e1 (fun j v hj => by rw [Nat.zero_add]; exact (BoxN.below B2 hb B2.lt).cell hj) ⟨_, rfl, hvX.out.symm, Below.refl _ _⟩
    case o29 =>
      refine GdOp.taken rfl ⟨_, _, rfl, rfl, by simp⟩ (by kernel_rfl) (fun w v h => h) (fun A vs w' hF hT hb hd => ?_)
      have e1 : A.eval (.tmp 4) = .int .i64 u := hF 4 rfl
      exact BigFrame.wp_move _ rfl ⟨_, rfl, e1, Below.refl _ _⟩
    case o30 =>
      refine GdOp.taken rfl ⟨_, _, rfl, rfl, by simp⟩ (by kernel_rfl) (fun w v h => h) (fun A vs w' hF hT hb hd => ?_)
      have e1 : A.eval (.tmp 92) = vT := (hT 92 27 (by simp) rfl).trans (hd ⟨27, .data⟩ (by simp) rfl)
      have e2 : A.eval (.tmp 93) = vX := (hT 93 28 (by simp) rfl).trans (hd ⟨28, .data⟩ (by simp) rfl)
      have e3 : A.eval (.tmp 94) = .int .i64 u := (hT 94 29 (by simp) rfl).trans (hd ⟨29, .data⟩ (by simp) rfl)
      refine zak rfl eM (args := #[vT, vX, .int .i64 u]) (by simp only [List.map_toArray, List.map_cons, List.map_nil, e1, e2, e3]) ((k4 w' hb).mono ?_)
      rintro e w2 ⟨rfl, hb2⟩
      exact ⟨_, rfl, _, rfl, rfl, hb2⟩
    case o31 =>
      refine GdOp.taken rfl ⟨_, _, rfl, rfl, by simp⟩ (by kernel_rfl) (fun w v h => h) (fun A vs w' hF hT hb hd => ?_)
      have e1 : A.eval (.tmp 91) = .bool nw := (hT 91 26 (by simp) rfl).trans (hd ⟨26, .data⟩ (by simp) rfl)
      have e2 : A.eval (.tmp 95) = .bool nw := (hT 95 30 (by simp) rfl).trans (hd ⟨30, .data⟩ (by simp) rfl)
      exact wp_eqlB (by kernel_rfl) rfl e1 e2 ⟨_, rfl, congrArg Value.bool (beq_self_eq_true _), Below.refl _ _⟩
    case o32 =>
      refine GdOp.plain rfl (fun A vs w' hF hT hb hd => ?_)
      have e1 : A.eval (.tmp 87) = .bool true := (hT 87 22 (by simp) rfl).trans (hd ⟨22, .data⟩ (by simp) rfl)
      have e2 : A.eval (.tmp 96) = .bool true := (hT 96 31 (by simp) rfl).trans (hd ⟨31, .data⟩ (by simp) rfl)
      exact wp_pk rfl e1 (fun _ => e2) (by simp) ⟨_, rfl, rfl, Below.refl _ _⟩
    case o33 =>
      refine GdOp.plain rfl (fun A vs w' hF hT hb hd => ?_)
      have e1 : A.eval (.tmp 97) = .bool true := (hT 97 32 (by simp) rfl).trans (hd ⟨32, .data⟩ (by simp) rfl)
      exact BigFrame.wp_assign _ rfl ⟨_, rfl, e1, Below.refl _ _⟩
    case fin =>
    intro A9 vs9 W8 hA9 hb9 hG9
    have e8 : A9.eval (.tmp 10) = .bool true := (hA9.2.2.2 10 33 (by simp) rfl).trans (hG9 33 (by decide))
    have hd9 : A9.defers = [] := hA9.1
    clear hG9 hA9
    go_wp2
    refine bodyPost_ret (v := .bool true) ?_ hd9 ⟨rfl, q.trans (hb9.mono q.size)⟩
    rw [← e8]
    exact results_tmp rfl _ _ _
end Go.Proofs.YtlpfhgdnmjkngaaGreat
