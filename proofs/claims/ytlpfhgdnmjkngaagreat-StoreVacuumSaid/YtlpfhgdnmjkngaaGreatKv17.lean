/-
  TEXTS OF ONE PROOF, merged: StoreVacuumW.
-/
import Derived.Test.YtlpfhgdnmjkngaaGreatKv16
namespace Go.Proofs.YtlpfhgdnmjkngaaGreat
open Go.RowKit Go.Shelf
set_option maxRecDepth 100000
set_option maxHeartbeats 32000000
def sgVT (L:Tb):SG:=⟨fun w v=>RdTb (fun _=>True) w v L,fun _ _ _ h hb=>h.below hb⟩
theorem StoreVacuum_w (w : World) {cs0 cs2 : Array Value} {s u : Int} {T : Sto} {x : Sp} (h0 : RdSt (· < w.heap.size) w (.agg cs0) T) (h1 : (Lit.int .i64 s).wf = true) (h2 : RdSp (· < w.heap.size) w (.agg cs2) x) (h3 : (Lit.int .i64 u).wf = true) :
  Calls Tryz.prog 5 #[.agg cs0,.int .i64 s,.agg cs2,.int .i64 u] w fun e w' => e = .returned (.bool true) ∧ Below w.heap.size w w' := by
 have _ := h1
 have _ := h3
 have hd := h0
 obtain ⟨aS,mS,cS,e,hS0⟩ := h0
 injection e with e
 subst e
 clear hS0
 have hx := h2
 obtain ⟨xl,xc,xh,xd,e,hl0,hh0,hxt⟩ := h2
 injection e with e
 subst e
 clear hl0 hh0
 obtain ⟨W0,hW,q,Bs,Bx,hsz⟩ := zmj w 29 32 [.slice (aS 0) (mS 0) (cS 0),.slice (aS 1) (mS 1) (cS 1),.slice (aS 2) (mS 2) (cS 2),.slice (aS 3) (mS 3) (cS 3),.slice (aS 4) (mS 4) (cS 4),.slice (aS 5) (mS 5) (cS 5),.slice (aS 6) (mS 6) (cS 6),.slice (aS 7) (mS 7) (cS 7),.slice (aS 8) (mS 8) (cS 8),.slice (aS 9) (mS 9) (cS 9),.slice (aS 10) (mS 10) (cS 10),.slice (aS 11) (mS 11) (cS 11)] [.int .i64 x.table,.slice xl x.lo.length xc,.slice xh x.hi.length xd,.bool x.isOpen]
 clear hsz
 replace Bs : StB W0 w.heap.size aS mS cS := Bs
 go_enter Tryz.func5,Tryz.ntmps5
 go_upto_region 1 with (fail)
 rw [show (w.alloc (.cells #[.slice (aS 0) (mS 0) (cS 0),.slice (aS 1) (mS 1) (cS 1),.slice (aS 2) (mS 2) (cS 2),.slice (aS 3) (mS 3) (cS 3),.slice (aS 4) (mS 4) (cS 4),.slice (aS 5) (mS 5) (cS 5),.slice (aS 6) (mS 6) (cS 6),.slice (aS 7) (mS 7) (cS 7),.slice (aS 8) (mS 8) (cS 8),.slice (aS 9) (mS 9) (cS 9),.slice (aS 10) (mS 10) (cS 10),.slice (aS 11) (mS 11) (cS 11)] 29)).alloc (.cells #[.int .i64 x.table,.slice xl x.lo.length xc,.slice xh x.hi.length xd,.bool x.isOpen] 32) = W0 from hW.symm]
 clear hW
 go_wp2_with fail
 refine (zpl W0).mono ?_
 rintro e w1 ⟨rfl,hb⟩
 replace Bs := Bs.below hb Bs.lt
 replace Bx := Bx.below hb Bx.lt
 replace q := q.trans (hb.mono q.size)
 clear hb
 obtain ⟨d0,d1,d2,d3,d4,d5,d6,d7,d8,d9,d10,d11⟩ := Bs.c12
 have hcl := zjq _ (hd.below q)
 go_wp2_with fail
 refine hcl.mono ?_
 rintro e ws1 ⟨rfl,hb⟩
 clear hcl d0 d1 d2 d3 d4 d5 d6 d7 d8 d9 d10 d11
 replace Bs := Bs.below hb Bs.lt
 replace Bx := Bx.below hb Bx.lt
 replace q := q.trans (hb.mono q.size)
 clear hb
 by_cases hs : zfd T
 case neg =>
  rw [decide_eq_false hs]
  go_wp2_with fail
  go_ret
  exact ⟨rfl,q⟩
 rw [decide_eq_true hs]
 obtain ⟨b0,b1,b2,b3⟩ := Bx.c4
 have hcl := zo3 _ (hx.below q)
 go_wp2_with fail
 refine hcl.mono ?_
 rintro e wh ⟨rfl,hb⟩
 clear hcl b0 b1 b2 b3
 replace Bs := Bs.below hb Bs.lt
 replace Bx := Bx.below hb Bx.lt
 replace q := q.trans (hb.mono q.size)
 clear hb
 by_cases hsh : shS x
 case neg =>
  rw [decide_eq_false hsh]
  go_wp2_with fail
  go_ret
  exact ⟨rfl,q⟩
 rw [decide_eq_true hsh]
 clear hsh
 obtain ⟨d0,d1,d2,d3,d4,d5,d6,d7,d8,d9,d10,d11⟩ := Bs.c12
 have hcl := zcx _ (hd.below q) (zde hs)
 go_wp2_with fail
 refine hcl.mono ?_
 rintro e wk ⟨rfl,hb⟩
 clear hcl d0 d1 d2 d3 d4 d5 d6 d7 d8 d9 d10 d11
 replace Bs := Bs.below hb Bs.lt
 replace Bx := Bx.below hb Bx.lt
 replace q := q.trans (hb.mono q.size)
 clear hb
 by_cases hok : okS T
 case neg =>
  rw [decide_eq_false hok]
  go_wp2_with fail
  go_ret
  exact ⟨rfl,q⟩
 rw [decide_eq_true hok]
 replace hok := Lib.hid hok
 go_upto_region 4 with (fail)
 obtain ⟨d0,d1,d2,d3,d4,d5,d6,d7,d8,d9,d10,d11⟩ := Bs.c12
 have hcl := zfg _ (T := T) (o := s) (hd.below q) (zde hs)
 go_wp2_with fail
 refine hcl.mono ?_
 rintro e wcA ⟨vA,TA,rfl,hVA,⟨aA,mA,cA,rfl,hA⟩,hb⟩
 clear hcl
 replace Bs := Bs.below hb Bs.lt
 replace Bx := Bx.below hb Bx.lt
 replace q := q.trans (hb.mono q.size)
 clear hb
 have rA : RdSt (fun _ => True) wcA (.agg #[.slice (aA 0) (mA 0) (cA 0),.slice (aA 1) (mA 1) (cA 1),.slice (aA 2) (mA 2) (cA 2),.slice (aA 3) (mA 3) (cA 3),.slice (aA 4) (mA 4) (cA 4),.slice (aA 5) (mA 5) (cA 5),.slice (aA 6) (mA 6) (cA 6),.slice (aA 7) (mA 7) (cA 7),.slice (aA 8) (mA 8) (cA 8),.slice (aA 9) (mA 9) (cA 9),.slice (aA 10) (mA 10) (cA 10),.slice (aA 11) (mA 11) (cA 11)]) TA := ⟨aA,mA,cA,rfl,fun i hi => (hA i hi).weak fun _ _ => trivial⟩
 clear hA
 go_upto_region 5 with (first | (refine zbf (vs := [.slice none 0 0,.slice none 0 0,.slice none 0 0,.slice none 0 0,.slice none 0 0,.slice none 0 0,.slice none 0 0,.slice none 0 0,.slice none 0 0,.slice none 0 0,.slice none 0 0,.slice none 0 0]) (by kernel_rfl) rfl rfl ?_; intro wa hba hBa) | (refine zam (us := [.slice (aA 0) (mA 0) (cA 0),.slice (aA 1) (mA 1) (cA 1),.slice (aA 2) (mA 2) (cA 2),.slice (aA 3) (mA 3) (cA 3),.slice (aA 4) (mA 4) (cA 4),.slice (aA 5) (mA 5) (cA 5),.slice (aA 6) (mA 6) (cA 6),.slice (aA 7) (mA 7) (cA 7),.slice (aA 8) (mA 8) (cA 8),.slice (aA 9) (mA 9) (cA 9),.slice (aA 10) (mA 10) (cA 10),.slice (aA 11) (mA 11) (cA 11)]) (by kernel_rfl) rfl rfl rfl rfl rfl rfl hBa rfl ?_; intro wbA hgw xA) | fail)
 try go_simp
 have hbw := hba.grown hgw hba.size fun k hk => by injection hk with hk; omega
 replace Bs := Bs.below hbw Bs.lt
 replace Bx := Bx.below hbw Bx.lt
 replace rA := rA.below hbw
 replace q := q.trans (hbw.mono q.size)
 clear hbw hgw hba hBa
 replace xA : StB _ _ aA mA cA := xA
 clear d0 d1 d2 d3 d4 d5 d6 d7 d8 d9 d10 d11
 obtain ⟨d0,d1,d2,d3,d4,d5,d6,d7,d8,d9,d10,d11⟩ := xA.c12
 have hfA0 := (hVA.facts hok.out (zde hs)).2.1
 have hcl := zfg _ (T := TA) (o := s) rA hfA0
 go_wp2_with fail
 refine hcl.mono ?_
 rintro e wcB ⟨vB,TB,rfl,hVB,⟨aB,mB,cB,rfl,hB⟩,hb⟩
 clear hcl
 replace Bs := Bs.below hb Bs.lt
 replace Bx := Bx.below hb Bx.lt
 replace rA := rA.below hb
 replace xA := xA.below hb xA.lt
 replace q := q.trans (hb.mono q.size)
 clear hb
 have rB : RdSt (fun _ => True) wcB (.agg #[.slice (aB 0) (mB 0) (cB 0),.slice (aB 1) (mB 1) (cB 1),.slice (aB 2) (mB 2) (cB 2),.slice (aB 3) (mB 3) (cB 3),.slice (aB 4) (mB 4) (cB 4),.slice (aB 5) (mB 5) (cB 5),.slice (aB 6) (mB 6) (cB 6),.slice (aB 7) (mB 7) (cB 7),.slice (aB 8) (mB 8) (cB 8),.slice (aB 9) (mB 9) (cB 9),.slice (aB 10) (mB 10) (cB 10),.slice (aB 11) (mB 11) (cB 11)]) TB := ⟨aB,mB,cB,rfl,fun i hi => (hB i hi).weak fun _ _ => trivial⟩
 clear hB
 go_upto_region 6 with (first | (refine zbf (vs := [.slice none 0 0,.slice none 0 0,.slice none 0 0,.slice none 0 0,.slice none 0 0,.slice none 0 0,.slice none 0 0,.slice none 0 0,.slice none 0 0,.slice none 0 0,.slice none 0 0,.slice none 0 0]) (by kernel_rfl) rfl rfl ?_; intro wa hba hBa) | (refine zam (us := [.slice (aB 0) (mB 0) (cB 0),.slice (aB 1) (mB 1) (cB 1),.slice (aB 2) (mB 2) (cB 2),.slice (aB 3) (mB 3) (cB 3),.slice (aB 4) (mB 4) (cB 4),.slice (aB 5) (mB 5) (cB 5),.slice (aB 6) (mB 6) (cB 6),.slice (aB 7) (mB 7) (cB 7),.slice (aB 8) (mB 8) (cB 8),.slice (aB 9) (mB 9) (cB 9),.slice (aB 10) (mB 10) (cB 10),.slice (aB 11) (mB 11) (cB 11)]) (by kernel_rfl) rfl rfl rfl rfl rfl rfl hBa rfl ?_; intro wbB hgw xB) | fail)
 try go_simp
 have hbw := hba.grown hgw hba.size fun k hk => by injection hk with hk; omega
 replace Bs := Bs.below hbw Bs.lt
 replace Bx := Bx.below hbw Bx.lt
 replace rA := rA.below hbw
 replace xA := xA.below hbw xA.lt
 replace rB := rB.below hbw
 replace q := q.trans (hbw.mono q.size)
 clear hbw hgw hba hBa
 replace xB : StB _ _ aB mB cB := xB
 clear d0 d1 d2 d3 d4 d5 d6 d7 d8 d9 d10 d11
 obtain ⟨hkA,hfA,hfB,hsame,hpic⟩ := zp0 hok.out (zde hs) hVA hVB
 clear hVA hVB hfA0
 replace hsame := Lib.hid hsame
 replace hpic := Lib.hid hpic
 have eO : ∀ args w,(callFunc 15 args).run Tryz.prog w = .ok (.enter 15 args) w := enters_of Tryz.func15 (by kernel_rfl) rfl
 have eS : ∀ args w,(callFunc 26 args).run Tryz.prog w = .ok (.enter 26 args) w := enters_of Tryz.func26 (by kernel_rfl) rfl
 obtain ⟨U,hU⟩ : ∃ V,V = wbB := ⟨_,rfl⟩
 rw [← hU] at q Bs Bx rA xA rB xB
 rw [← hU]
 clear hU
 refine zbu (by kernel_rfl) (by kernel_rfl) [sgEq (.agg #[.slice (aA 0) (mA 0) (cA 0),.slice (aA 1) (mA 1) (cA 1),.slice (aA 2) (mA 2) (cA 2),.slice (aA 3) (mA 3) (cA 3),.slice (aA 4) (mA 4) (cA 4),.slice (aA 5) (mA 5) (cA 5),.slice (aA 6) (mA 6) (cA 6),.slice (aA 7) (mA 7) (cA 7),.slice (aA 8) (mA 8) (cA 8),.slice (aA 9) (mA 9) (cA 9),.slice (aA 10) (mA 10) (cA 10),.slice (aA 11) (mA 11) (cA 11)]),sgVT (tabS TA),sgEq (.agg #[.slice (aB 0) (mB 0) (cB 0),.slice (aB 1) (mB 1) (cB 1),.slice (aB 2) (mB 2) (cB 2),.slice (aB 3) (mB 3) (cB 3),.slice (aB 4) (mB 4) (cB 4),.slice (aB 5) (mB 5) (cB 5),.slice (aB 6) (mB 6) (cB 6),.slice (aB 7) (mB 7) (cB 7),.slice (aB 8) (mB 8) (cB 8),.slice (aB 9) (mB 9) (cB 9),.slice (aB 10) (mB 10) (cB 10),.slice (aB 11) (mB 11) (cB 11)]),sgVT (tabS TB),sgEq (.bool true),sgEq (.bool true)]
  ⟨?o0,?o1,?o2,?o3,?o4,?o5,trivial⟩ ?fin
 case o0 =>
  refine GdOp.plain rfl (fun A vs w' hF hT hb hd => ?_)
  have e1 : A.eval (.tmp 10) = .pointer (some ⟨wcA.heap.size,0,none⟩) := hF 10 rfl
  exact zcf (us := [.slice (aA 0) (mA 0) (cA 0),.slice (aA 1) (mA 1) (cA 1),.slice (aA 2) (mA 2) (cA 2),.slice (aA 3) (mA 3) (cA 3),.slice (aA 4) (mA 4) (cA 4),.slice (aA 5) (mA 5) (cA 5),.slice (aA 6) (mA 6) (cA 6),.slice (aA 7) (mA 7) (cA 7),.slice (aA 8) (mA 8) (cA 8),.slice (aA 9) (mA 9) (cA 9),.slice (aA 10) (mA 10) (cA 10),.slice (aA 11) (mA 11) (cA 11)]) stS7 rfl e1 (fun j v hj => by rw [Nat.zero_add]; exact (BoxN.below xA hb xA.lt).cell hj) ⟨_,rfl,rfl,Below.refl _ _⟩
 case o1 =>
  refine GdOp.plain rfl (fun A vs w' hF hT hb hd => ?_)
  have e1 : A.eval (.tmp 35) = .agg #[.slice (aA 0) (mA 0) (cA 0),.slice (aA 1) (mA 1) (cA 1),.slice (aA 2) (mA 2) (cA 2),.slice (aA 3) (mA 3) (cA 3),.slice (aA 4) (mA 4) (cA 4),.slice (aA 5) (mA 5) (cA 5),.slice (aA 6) (mA 6) (cA 6),.slice (aA 7) (mA 7) (cA 7),.slice (aA 8) (mA 8) (cA 8),.slice (aA 9) (mA 9) (cA 9),.slice (aA 10) (mA 10) (cA 10),.slice (aA 11) (mA 11) (cA 11)] := (hT 35 0 (by simp) rfl).trans (hd ⟨0,.data⟩ (by simp) rfl)
  refine zak rfl eO (args := #[.agg #[.slice (aA 0) (mA 0) (cA 0),.slice (aA 1) (mA 1) (cA 1),.slice (aA 2) (mA 2) (cA 2),.slice (aA 3) (mA 3) (cA 3),.slice (aA 4) (mA 4) (cA 4),.slice (aA 5) (mA 5) (cA 5),.slice (aA 6) (mA 6) (cA 6),.slice (aA 7) (mA 7) (cA 7),.slice (aA 8) (mA 8) (cA 8),.slice (aA 9) (mA 9) (cA 9),.slice (aA 10) (mA 10) (cA 10),.slice (aA 11) (mA 11) (cA 11)]]) (by simp only [List.map_toArray,List.map_cons,List.map_nil,e1]) ((zla w' (rA.below hb) hfA).mono ?_)
  rintro e w2 ⟨v9,rfl,ht9,hb2⟩
  exact ⟨_,rfl,_,rfl,ht9,hb2⟩
 case o2 =>
  refine GdOp.plain rfl (fun A vs w' hF hT hb hd => ?_)
  have e1 : A.eval (.tmp 11) = .pointer (some ⟨wcB.heap.size,0,none⟩) := hF 11 rfl
  exact zcf (us := [.slice (aB 0) (mB 0) (cB 0),.slice (aB 1) (mB 1) (cB 1),.slice (aB 2) (mB 2) (cB 2),.slice (aB 3) (mB 3) (cB 3),.slice (aB 4) (mB 4) (cB 4),.slice (aB 5) (mB 5) (cB 5),.slice (aB 6) (mB 6) (cB 6),.slice (aB 7) (mB 7) (cB 7),.slice (aB 8) (mB 8) (cB 8),.slice (aB 9) (mB 9) (cB 9),.slice (aB 10) (mB 10) (cB 10),.slice (aB 11) (mB 11) (cB 11)]) stS7 rfl e1 (fun j v hj => by rw [Nat.zero_add]; exact (BoxN.below xB hb xB.lt).cell hj) ⟨_,rfl,rfl,Below.refl _ _⟩
 case o3 =>
  refine GdOp.plain rfl (fun A vs w' hF hT hb hd => ?_)
  have e1 : A.eval (.tmp 37) = .agg #[.slice (aB 0) (mB 0) (cB 0),.slice (aB 1) (mB 1) (cB 1),.slice (aB 2) (mB 2) (cB 2),.slice (aB 3) (mB 3) (cB 3),.slice (aB 4) (mB 4) (cB 4),.slice (aB 5) (mB 5) (cB 5),.slice (aB 6) (mB 6) (cB 6),.slice (aB 7) (mB 7) (cB 7),.slice (aB 8) (mB 8) (cB 8),.slice (aB 9) (mB 9) (cB 9),.slice (aB 10) (mB 10) (cB 10),.slice (aB 11) (mB 11) (cB 11)] := (hT 37 2 (by simp) rfl).trans (hd ⟨2,.data⟩ (by simp) rfl)
  refine zak rfl eO (args := #[.agg #[.slice (aB 0) (mB 0) (cB 0),.slice (aB 1) (mB 1) (cB 1),.slice (aB 2) (mB 2) (cB 2),.slice (aB 3) (mB 3) (cB 3),.slice (aB 4) (mB 4) (cB 4),.slice (aB 5) (mB 5) (cB 5),.slice (aB 6) (mB 6) (cB 6),.slice (aB 7) (mB 7) (cB 7),.slice (aB 8) (mB 8) (cB 8),.slice (aB 9) (mB 9) (cB 9),.slice (aB 10) (mB 10) (cB 10),.slice (aB 11) (mB 11) (cB 11)]]) (by simp only [List.map_toArray,List.map_cons,List.map_nil,e1]) ((zla w' (rB.below hb) hfB).mono ?_)
  rintro e w2 ⟨v9,rfl,ht9,hb2⟩
  exact ⟨_,rfl,_,rfl,ht9,hb2⟩
 case o4 =>
  refine GdOp.plain rfl (fun A vs w' hF hT hb hd => ?_)
  have hr1 : RdTb (fun _ => True) w' (vs 1) (tabS TA) := hd ⟨1,.data⟩ (by simp) rfl
  have hr2 : RdTb (fun _ => True) w' (vs 3) (tabS TB) := hd ⟨3,.data⟩ (by simp) rfl
  refine zak rfl eS (args := #[vs 1,vs 3]) (by simp only [List.map_toArray,List.map_cons,List.map_nil,hT 36 1 (by simp) rfl,hT 38 3 (by simp) rfl]) ((zk9 w' hr1 hr2).mono ?_)
  rintro e w2 ⟨rfl,hb2⟩
  exact ⟨_,rfl,_,rfl,congrArg Value.bool (decide_eq_true hsame.out),hb2⟩
 case o5 =>
  refine GdOp.plain rfl (fun A vs w' hF hT hb hd => ?_)
  have e1 : A.eval (.tmp 39) = .bool true := (hT 39 4 (by simp) rfl).trans (hd ⟨4,.data⟩ (by simp) rfl)
  exact BigFrame.wp_assign _ rfl ⟨_,rfl,e1,Below.refl _ _⟩
 case fin =>
 intro vs9 W9 hb9 hG9
 have e0 : vs9 0 = .agg #[.slice (aA 0) (mA 0) (cA 0),.slice (aA 1) (mA 1) (cA 1),.slice (aA 2) (mA 2) (cA 2),.slice (aA 3) (mA 3) (cA 3),.slice (aA 4) (mA 4) (cA 4),.slice (aA 5) (mA 5) (cA 5),.slice (aA 6) (mA 6) (cA 6),.slice (aA 7) (mA 7) (cA 7),.slice (aA 8) (mA 8) (cA 8),.slice (aA 9) (mA 9) (cA 9),.slice (aA 10) (mA 10) (cA 10),.slice (aA 11) (mA 11) (cA 11)] := hG9 0 (by decide)
 have e2 : vs9 2 = .agg #[.slice (aB 0) (mB 0) (cB 0),.slice (aB 1) (mB 1) (cB 1),.slice (aB 2) (mB 2) (cB 2),.slice (aB 3) (mB 3) (cB 3),.slice (aB 4) (mB 4) (cB 4),.slice (aB 5) (mB 5) (cB 5),.slice (aB 6) (mB 6) (cB 6),.slice (aB 7) (mB 7) (cB 7),.slice (aB 8) (mB 8) (cB 8),.slice (aB 9) (mB 9) (cB 9),.slice (aB 10) (mB 10) (cB 10),.slice (aB 11) (mB 11) (cB 11)] := hG9 2 (by decide)
 have e4 : vs9 4 = .bool true := hG9 4 (by decide)
 have e5 : vs9 5 = .bool true := hG9 5 (by decide)
 simp only [zae,e0,e2,e4,e5]
 clear hG9 e0 e2 e4 e5
 clear xB rB
 replace Bs := Bs.below hb9 Bs.lt
 replace Bx := Bx.below hb9 Bx.lt
 replace rA := rA.below hb9
 replace xA := xA.below hb9 xA.lt
 replace q := q.trans (hb9.mono q.size)
 clear hb9
 go_simp
 go_upto_region 7 with (fail)
 have eA : ∀ args w,(callFunc 19 args).run Tryz.prog w = .ok (.enter 19 args) w := enters_of Tryz.func19 (by kernel_rfl) rfl
 have eB : ∀ args w,(callFunc 18 args).run Tryz.prog w = .ok (.enter 18 args) w := enters_of Tryz.func18 (by kernel_rfl) rfl
 have eC : ∀ args w,(callFunc 22 args).run Tryz.prog w = .ok (.enter 22 args) w := enters_of Tryz.func22 (by kernel_rfl) rfl
 obtain ⟨U,hU⟩ : ∃ V,V = W9 := ⟨_,rfl⟩
 rw [← hU] at q Bs Bx rA xA
 rw [← hU]
 clear hU
 have hdU := hd.below q
 have hxU := hx.below q
 by_cases hos : u < s
 ·have hz : decide (u < s) = true := decide_eq_true hos
  clear hos
  refine zbu (by kernel_rfl) (by kernel_rfl) [sgEq (.int .i64 u),sgEq (.int .i64 s),sgEq (.bool true),sgEq (.bool true),sgEq undef,sgEq undef,sgEq undef,sgEq undef,sgEq undef,sgEq undef,sgEq undef,sgEq undef,sgEq undef,sgEq undef,sgEq undef,sgEq undef,sgEq undef,sgEq undef,sgEq undef,sgEq undef,sgEq undef,sgEq undef,sgEq undef,sgEq undef,sgEq (.bool true),sgEq (.bool true)]
   ⟨?o0,?o1,?o2,?o3,?o4,?o5,?o6,?o7,?o8,?o9,?o10,?o11,?o12,?o13,?o14,?o15,?o16,?o17,?o18,?o19,?o20,?o21,?o22,?o23,?o24,?o25,trivial⟩ ?fin
  case o0 =>
   refine GdOp.plain rfl (fun A vs w' hF hT hb hd => ?_)
   have e1 : A.eval (.tmp 3) = .int .i64 u := hF 3 rfl
   exact BigFrame.wp_move _ rfl ⟨_,rfl,e1,Below.refl _ _⟩
  case o1 =>
   refine GdOp.plain rfl (fun A vs w' hF hT hb hd => ?_)
   have e1 : A.eval (.tmp 1) = .int .i64 s := hF 1 rfl
   exact BigFrame.wp_move _ rfl ⟨_,rfl,e1,Below.refl _ _⟩
  case o2 =>
   refine GdOp.plain rfl (fun A vs w' hF hT hb hd => ?_)
   have e1 : A.eval (.tmp 40) = .int .i64 u := (hT 40 0 (by simp) rfl).trans (hd ⟨0,.data⟩ (by simp) rfl)
   have e2 : A.eval (.tmp 41) = .int .i64 s := (hT 41 1 (by simp) rfl).trans (hd ⟨1,.data⟩ (by simp) rfl)
   exact zps rfl e1 e2 ⟨_,rfl,congrArg Value.bool hz,Below.refl _ _⟩
  case o3 =>
   refine GdOp.plain rfl (fun A vs w' hF hT hb hd => ?_)
   have e1 : A.eval (.tmp 42) = .bool true := (hT 42 2 (by simp) rfl).trans (hd ⟨2,.data⟩ (by simp) rfl)
   exact BigFrame.wp_move _ rfl ⟨_,rfl,e1,Below.refl _ _⟩
  case o4 =>
   exact GdOp.left rfl ⟨_,_,rfl,rfl,by simp⟩ (by kernel_rfl) (fun w v h => .inl h) (fun w => rfl)
  case o5 =>
   exact GdOp.left rfl ⟨_,_,rfl,rfl,by simp⟩ (by kernel_rfl) (fun w v h => .inl h) (fun w => rfl)
  case o6 =>
   exact GdOp.left rfl ⟨_,_,rfl,rfl,by simp⟩ (by kernel_rfl) (fun w v h => .inl h) (fun w => rfl)
  case o7 =>
   exact GdOp.left rfl ⟨_,_,rfl,rfl,by simp⟩ (by kernel_rfl) (fun w v h => .inl h) (fun w => rfl)
  case o8 =>
   exact GdOp.left rfl ⟨_,_,rfl,rfl,by simp⟩ (by kernel_rfl) (fun w v h => .inl h) (fun w => rfl)
  case o9 =>
   exact GdOp.left rfl ⟨_,_,rfl,rfl,by simp⟩ (by kernel_rfl) (fun w v h => .inl h) (fun w => rfl)
  case o10 =>
   exact GdOp.left rfl ⟨_,_,rfl,rfl,by simp⟩ (by kernel_rfl) (fun w v h => .inl h) (fun w => rfl)
  case o11 =>
   exact GdOp.left rfl ⟨_,_,rfl,rfl,by simp⟩ (by kernel_rfl) (fun w v h => .inl h) (fun w => rfl)
  case o12 =>
   exact GdOp.left rfl ⟨_,_,rfl,rfl,by simp⟩ (by kernel_rfl) (fun w v h => .inl h) (fun w => rfl)
  case o13 =>
   exact GdOp.left rfl ⟨_,_,rfl,rfl,by simp⟩ (by kernel_rfl) (fun w v h => .inl h) (fun w => rfl)
  case o14 =>
   exact GdOp.left rfl ⟨_,_,rfl,rfl,by simp⟩ (by kernel_rfl) (fun w v h => .inr h) (fun w => rfl)
  case o15 =>
   exact GdOp.left rfl ⟨_,_,rfl,rfl,by simp⟩ (by kernel_rfl) (fun w v h => .inr h) (fun w => rfl)
  case o16 =>
   exact GdOp.left rfl ⟨_,_,rfl,rfl,by simp⟩ (by kernel_rfl) (fun w v h => .inr h) (fun w => rfl)
  case o17 =>
   exact GdOp.left rfl ⟨_,_,rfl,rfl,by simp⟩ (by kernel_rfl) (fun w v h => .inr h) (fun w => rfl)
  case o18 =>
   exact GdOp.left rfl ⟨_,_,rfl,rfl,by simp⟩ (by kernel_rfl) (fun w v h => .inr h) (fun w => rfl)
  case o19 =>
   exact GdOp.left rfl ⟨_,_,rfl,rfl,by simp⟩ (by kernel_rfl) (fun w v h => .inr h) (fun w => rfl)
  case o20 =>
   exact GdOp.left rfl ⟨_,_,rfl,rfl,by simp⟩ (by kernel_rfl) (fun w v h => .inr h) (fun w => rfl)
  case o21 =>
   exact GdOp.left rfl ⟨_,_,rfl,rfl,by simp⟩ (by kernel_rfl) (fun w v h => .inr h) (fun w => rfl)
  case o22 =>
   exact GdOp.left rfl ⟨_,_,rfl,rfl,by simp⟩ (by kernel_rfl) (fun w v h => .inr h) (fun w => rfl)
  case o23 =>
   exact GdOp.left rfl ⟨_,_,rfl,rfl,by simp⟩ (by kernel_rfl) (fun w v h => .inl h) (fun w => rfl)
  case o24 =>
   refine GdOp.plain rfl (fun A vs w' hF hT hb hd => ?_)
   have e1 : A.eval (.tmp 43) = .bool true := (hT 43 3 (by simp) rfl).trans (hd ⟨3,.data⟩ (by simp) rfl)
   have e3 : A.eval (.tmp 63) = undef := (hT 63 23 (by simp) rfl).trans (hd ⟨23,.data⟩ (by simp) rfl)
   exact wp_pk rfl e1 (fun _ => rfl) (by simp) ⟨_,rfl,rfl,Below.refl _ _⟩
  case o25 =>
   refine GdOp.plain rfl (fun A vs w' hF hT hb hd => ?_)
   have e1 : A.eval (.tmp 64) = .bool true := (hT 64 24 (by simp) rfl).trans (hd ⟨24,.data⟩ (by simp) rfl)
   exact BigFrame.wp_assign _ rfl ⟨_,rfl,e1,Below.refl _ _⟩
  case fin =>
  intro vs9 W9 hb9 hG9
  have e0 : vs9 0 = .int .i64 u := hG9 0 (by decide)
  have e1 : vs9 1 = .int .i64 s := hG9 1 (by decide)
  have e2 : vs9 2 = .bool true := hG9 2 (by decide)
  have e3 : vs9 3 = .bool true := hG9 3 (by decide)
  have e4 : vs9 4 = undef := hG9 4 (by decide)
  have e5 : vs9 5 = undef := hG9 5 (by decide)
  have e6 : vs9 6 = undef := hG9 6 (by decide)
  have e7 : vs9 7 = undef := hG9 7 (by decide)
  have e8 : vs9 8 = undef := hG9 8 (by decide)
  have e9 : vs9 9 = undef := hG9 9 (by decide)
  have e10 : vs9 10 = undef := hG9 10 (by decide)
  have e11 : vs9 11 = undef := hG9 11 (by decide)
  have e12 : vs9 12 = undef := hG9 12 (by decide)
  have e13 : vs9 13 = undef := hG9 13 (by decide)
  have e14 : vs9 14 = undef := hG9 14 (by decide)
  have e15 : vs9 15 = undef := hG9 15 (by decide)
  have e16 : vs9 16 = undef := hG9 16 (by decide)
  have e17 : vs9 17 = undef := hG9 17 (by decide)
  have e18 : vs9 18 = undef := hG9 18 (by decide)
  have e19 : vs9 19 = undef := hG9 19 (by decide)
  have e20 : vs9 20 = undef := hG9 20 (by decide)
  have e21 : vs9 21 = undef := hG9 21 (by decide)
  have e22 : vs9 22 = undef := hG9 22 (by decide)
  have e23 : vs9 23 = undef := hG9 23 (by decide)
  have e24 : vs9 24 = .bool true := hG9 24 (by decide)
  have e25 : vs9 25 = .bool true := hG9 25 (by decide)
  simp only [zae,e0,e1,e2,e3,e4,e5,e6,e7,e8,e9,e10,e11,e12,e13,e14,e15,e16,e17,e18,e19,e20,e21,e22,e23,e24,e25]
  clear hG9 e0 e1 e2 e3 e4 e5 e6 e7 e8 e9 e10 e11 e12 e13 e14 e15 e16 e17 e18 e19 e20 e21 e22 e23 e24 e25
  replace Bs := Bs.below hb9 Bs.lt
  replace Bx := Bx.below hb9 Bx.lt
  replace rA := rA.below hb9
  replace xA := xA.below hb9 xA.lt
  replace q := q.trans (hb9.mono q.size)
  clear hb9
  go_simp
  go_upto_region 8 with (fail)
  obtain ⟨d0,d1,d2,d3,d4,d5,d6,d7,d8,d9,d10,d11⟩ := xA.c12
  have hcl := zcx _ rA hfA
  rw [decide_eq_true hkA] at hcl
  go_wp2_with fail
  refine hcl.mono ?_
  rintro e wz ⟨rfl,hb⟩
  go_wp2_with fail
  go_ret
  exact ⟨rfl,q.trans (hb.mono q.size)⟩
 ·have hz : decide (u < s) = false := decide_eq_false hos
  obtain ⟨g1,g2⟩ := hpic.out x u (by omega)
  clear hos hpic
  obtain ⟨L,hL⟩ : ∃ l,l = zgd (zdo T x.table) x u := ⟨_,rfl⟩
  obtain ⟨nw,hN⟩ : ∃ b,b = newP (zdo T x.table) x u := ⟨_,rfl⟩
  have k1 := fun (V : World) (hV : Below U.heap.size U V) => zhq V (s := u) (rA.below hV) hfA (hxU.below hV)
  have k2 := fun (V : World) (hV : Below U.heap.size U V) => zhq V (s := u) (hdU.below hV) (zde hs) (hxU.below hV)
  have k3 := fun (V : World) (hV : Below U.heap.size U V) => ze4 V (s := u) (rA.below hV) hfA (hxU.below hV)
  have k4 := fun (V : World) (hV : Below U.heap.size U V) => ze4 V (s := u) (hdU.below hV) (zde hs) (hxU.below hV)
  rw [g1,← hL] at k1
  rw [← hL] at k2
  rw [g2,← hN] at k3
  rw [← hN] at k4
  clear g1 g2 hL hN
  refine zbu (by kernel_rfl) (by kernel_rfl) [sgEq (.int .i64 u),sgEq (.int .i64 s),sgEq (.bool false),sgEq (.bool false),sgEq (.agg #[.slice (aA 0) (mA 0) (cA 0),.slice (aA 1) (mA 1) (cA 1),.slice (aA 2) (mA 2) (cA 2),.slice (aA 3) (mA 3) (cA 3),.slice (aA 4) (mA 4) (cA 4),.slice (aA 5) (mA 5) (cA 5),.slice (aA 6) (mA 6) (cA 6),.slice (aA 7) (mA 7) (cA 7),.slice (aA 8) (mA 8) (cA 8),.slice (aA 9) (mA 9) (cA 9),.slice (aA 10) (mA 10) (cA 10),.slice (aA 11) (mA 11) (cA 11)]),sgEq (.agg #[.int .i64 x.table,.slice xl x.lo.length xc,.slice xh x.hi.length xd,.bool x.isOpen]),sgEq (.int .i64 u),sgVq L,sgEq (.agg #[.slice (aS 0) (mS 0) (cS 0),.slice (aS 1) (mS 1) (cS 1),.slice (aS 2) (mS 2) (cS 2),.slice (aS 3) (mS 3) (cS 3),.slice (aS 4) (mS 4) (cS 4),.slice (aS 5) (mS 5) (cS 5),.slice (aS 6) (mS 6) (cS 6),.slice (aS 7) (mS 7) (cS 7),.slice (aS 8) (mS 8) (cS 8),.slice (aS 9) (mS 9) (cS 9),.slice (aS 10) (mS 10) (cS 10),.slice (aS 11) (mS 11) (cS 11)]),sgEq (.agg #[.int .i64 x.table,.slice xl x.lo.length xc,.slice xh x.hi.length xd,.bool x.isOpen]),sgEq (.int .i64 u),sgVq L,sgEq (.bool true),sgEq (.bool true),sgEq (.agg #[.slice (aA 0) (mA 0) (cA 0),.slice (aA 1) (mA 1) (cA 1),.slice (aA 2) (mA 2) (cA 2),.slice (aA 3) (mA 3) (cA 3),.slice (aA 4) (mA 4) (cA 4),.slice (aA 5) (mA 5) (cA 5),.slice (aA 6) (mA 6) (cA 6),.slice (aA 7) (mA 7) (cA 7),.slice (aA 8) (mA 8) (cA 8),.slice (aA 9) (mA 9) (cA 9),.slice (aA 10) (mA 10) (cA 10),.slice (aA 11) (mA 11) (cA 11)]),sgEq (.agg #[.int .i64 x.table,.slice xl x.lo.length xc,.slice xh x.hi.length xd,.bool x.isOpen]),sgEq (.int .i64 u),sgEq (.bool nw),sgEq (.agg #[.slice (aS 0) (mS 0) (cS 0),.slice (aS 1) (mS 1) (cS 1),.slice (aS 2) (mS 2) (cS 2),.slice (aS 3) (mS 3) (cS 3),.slice (aS 4) (mS 4) (cS 4),.slice (aS 5) (mS 5) (cS 5),.slice (aS 6) (mS 6) (cS 6),.slice (aS 7) (mS 7) (cS 7),.slice (aS 8) (mS 8) (cS 8),.slice (aS 9) (mS 9) (cS 9),.slice (aS 10) (mS 10) (cS 10),.slice (aS 11) (mS 11) (cS 11)]),sgEq (.agg #[.int .i64 x.table,.slice xl x.lo.length xc,.slice xh x.hi.length xd,.bool x.isOpen]),sgEq (.int .i64 u),sgEq (.bool nw),sgEq (.bool true),sgEq (.bool true),sgEq (.bool true),sgEq (.bool true)]
   ⟨?o0,?o1,?o2,?o3,?o4,?o5,?o6,?o7,?o8,?o9,?o10,?o11,?o12,?o13,?o14,?o15,?o16,?o17,?o18,?o19,?o20,?o21,?o22,?o23,?o24,?o25,trivial⟩ ?fin
  case o0 =>
   refine GdOp.plain rfl (fun A vs w' hF hT hb hd => ?_)
   have e1 : A.eval (.tmp 3) = .int .i64 u := hF 3 rfl
   exact BigFrame.wp_move _ rfl ⟨_,rfl,e1,Below.refl _ _⟩
  case o1 =>
   refine GdOp.plain rfl (fun A vs w' hF hT hb hd => ?_)
   have e1 : A.eval (.tmp 1) = .int .i64 s := hF 1 rfl
   exact BigFrame.wp_move _ rfl ⟨_,rfl,e1,Below.refl _ _⟩
  case o2 =>
   refine GdOp.plain rfl (fun A vs w' hF hT hb hd => ?_)
   have e1 : A.eval (.tmp 40) = .int .i64 u := (hT 40 0 (by simp) rfl).trans (hd ⟨0,.data⟩ (by simp) rfl)
   have e2 : A.eval (.tmp 41) = .int .i64 s := (hT 41 1 (by simp) rfl).trans (hd ⟨1,.data⟩ (by simp) rfl)
   exact zps rfl e1 e2 ⟨_,rfl,congrArg Value.bool hz,Below.refl _ _⟩
  case o3 =>
   refine GdOp.plain rfl (fun A vs w' hF hT hb hd => ?_)
   have e1 : A.eval (.tmp 42) = .bool false := (hT 42 2 (by simp) rfl).trans (hd ⟨2,.data⟩ (by simp) rfl)
   exact BigFrame.wp_move _ rfl ⟨_,rfl,e1,Below.refl _ _⟩
  case o4 =>
   refine GdOp.taken rfl ⟨_,_,rfl,rfl,by simp⟩ (by kernel_rfl) (fun w v h => h) (fun A vs w' hF hT hb hd => ?_)
   have e1 : A.eval (.tmp 10) = .pointer (some ⟨wcA.heap.size,0,none⟩) := hF 10 rfl
   exact zcf (us := [.slice (aA 0) (mA 0) (cA 0),.slice (aA 1) (mA 1) (cA 1),.slice (aA 2) (mA 2) (cA 2),.slice (aA 3) (mA 3) (cA 3),.slice (aA 4) (mA 4) (cA 4),.slice (aA 5) (mA 5) (cA 5),.slice (aA 6) (mA 6) (cA 6),.slice (aA 7) (mA 7) (cA 7),.slice (aA 8) (mA 8) (cA 8),.slice (aA 9) (mA 9) (cA 9),.slice (aA 10) (mA 10) (cA 10),.slice (aA 11) (mA 11) (cA 11)]) stS7 rfl e1 (fun j v hj => by rw [Nat.zero_add]; exact (BoxN.below xA hb xA.lt).cell hj) ⟨_,rfl,rfl,Below.refl _ _⟩
  case o5 =>
   refine GdOp.taken rfl ⟨_,_,rfl,rfl,by simp⟩ (by kernel_rfl) (fun w v h => h) (fun A vs w' hF hT hb hd => ?_)
   have e1 : A.eval (.tmp 6) = .pointer (some ⟨w.heap.size + 1,0,none⟩) := hF 6 rfl
   exact zcf (us := [.int .i64 x.table,.slice xl x.lo.length xc,.slice xh x.hi.length xd,.bool x.isOpen]) spQ7 rfl e1 (fun j v hj => by rw [Nat.zero_add]; exact (Bx.below hb Bx.lt).cell hj) ⟨_,rfl,rfl,Below.refl _ _⟩
  case o6 =>
   refine GdOp.taken rfl ⟨_,_,rfl,rfl,by simp⟩ (by kernel_rfl) (fun w v h => h) (fun A vs w' hF hT hb hd => ?_)
   have e1 : A.eval (.tmp 3) = .int .i64 u := hF 3 rfl
   exact BigFrame.wp_move _ rfl ⟨_,rfl,e1,Below.refl _ _⟩
  case o7 =>
   refine GdOp.taken rfl ⟨_,_,rfl,rfl,by simp⟩ (by kernel_rfl) (fun w v h => h) (fun A vs w' hF hT hb hd => ?_)
   have e1 : A.eval (.tmp 44) = .agg #[.slice (aA 0) (mA 0) (cA 0),.slice (aA 1) (mA 1) (cA 1),.slice (aA 2) (mA 2) (cA 2),.slice (aA 3) (mA 3) (cA 3),.slice (aA 4) (mA 4) (cA 4),.slice (aA 5) (mA 5) (cA 5),.slice (aA 6) (mA 6) (cA 6),.slice (aA 7) (mA 7) (cA 7),.slice (aA 8) (mA 8) (cA 8),.slice (aA 9) (mA 9) (cA 9),.slice (aA 10) (mA 10) (cA 10),.slice (aA 11) (mA 11) (cA 11)] := (hT 44 4 (by simp) rfl).trans (hd ⟨4,.data⟩ (by simp) rfl)
   have e2 : A.eval (.tmp 45) = .agg #[.int .i64 x.table,.slice xl x.lo.length xc,.slice xh x.hi.length xd,.bool x.isOpen] := (hT 45 5 (by simp) rfl).trans (hd ⟨5,.data⟩ (by simp) rfl)
   have e3 : A.eval (.tmp 46) = .int .i64 u := (hT 46 6 (by simp) rfl).trans (hd ⟨6,.data⟩ (by simp) rfl)
   refine zak rfl eA (args := #[.agg #[.slice (aA 0) (mA 0) (cA 0),.slice (aA 1) (mA 1) (cA 1),.slice (aA 2) (mA 2) (cA 2),.slice (aA 3) (mA 3) (cA 3),.slice (aA 4) (mA 4) (cA 4),.slice (aA 5) (mA 5) (cA 5),.slice (aA 6) (mA 6) (cA 6),.slice (aA 7) (mA 7) (cA 7),.slice (aA 8) (mA 8) (cA 8),.slice (aA 9) (mA 9) (cA 9),.slice (aA 10) (mA 10) (cA 10),.slice (aA 11) (mA 11) (cA 11)],.agg #[.int .i64 x.table,.slice xl x.lo.length xc,.slice xh x.hi.length xd,.bool x.isOpen],.int .i64 u]) (by simp only [List.map_toArray,List.map_cons,List.map_nil,e1,e2,e3]) ((k1 w' hb).mono ?_)
   rintro e w2 ⟨a9,c9,rfl,ho9,hb2⟩
   exact ⟨_,rfl,_,rfl,⟨a9,c9,rfl,ho9.weak fun _ _ => trivial⟩,hb2⟩
  case o8 =>
   refine GdOp.taken rfl ⟨_,_,rfl,rfl,by simp⟩ (by kernel_rfl) (fun w v h => h) (fun A vs w' hF hT hb hd => ?_)
   have e1 : A.eval (.tmp 4) = .pointer (some ⟨w.heap.size,0,none⟩) := hF 4 rfl
   exact zcf (us := [.slice (aS 0) (mS 0) (cS 0),.slice (aS 1) (mS 1) (cS 1),.slice (aS 2) (mS 2) (cS 2),.slice (aS 3) (mS 3) (cS 3),.slice (aS 4) (mS 4) (cS 4),.slice (aS 5) (mS 5) (cS 5),.slice (aS 6) (mS 6) (cS 6),.slice (aS 7) (mS 7) (cS 7),.slice (aS 8) (mS 8) (cS 8),.slice (aS 9) (mS 9) (cS 9),.slice (aS 10) (mS 10) (cS 10),.slice (aS 11) (mS 11) (cS 11)]) stS7 rfl e1 (fun j v hj => by rw [Nat.zero_add]; exact (BoxN.below Bs hb Bs.lt).cell hj) ⟨_,rfl,rfl,Below.refl _ _⟩
  case o9 =>
   refine GdOp.taken rfl ⟨_,_,rfl,rfl,by simp⟩ (by kernel_rfl) (fun w v h => h) (fun A vs w' hF hT hb hd => ?_)
   have e1 : A.eval (.tmp 6) = .pointer (some ⟨w.heap.size + 1,0,none⟩) := hF 6 rfl
   exact zcf (us := [.int .i64 x.table,.slice xl x.lo.length xc,.slice xh x.hi.length xd,.bool x.isOpen]) spQ7 rfl e1 (fun j v hj => by rw [Nat.zero_add]; exact (Bx.below hb Bx.lt).cell hj) ⟨_,rfl,rfl,Below.refl _ _⟩
  case o10 =>
   refine GdOp.taken rfl ⟨_,_,rfl,rfl,by simp⟩ (by kernel_rfl) (fun w v h => h) (fun A vs w' hF hT hb hd => ?_)
   have e1 : A.eval (.tmp 3) = .int .i64 u := hF 3 rfl
   exact BigFrame.wp_move _ rfl ⟨_,rfl,e1,Below.refl _ _⟩
  case o11 =>
   refine GdOp.taken rfl ⟨_,_,rfl,rfl,by simp⟩ (by kernel_rfl) (fun w v h => h) (fun A vs w' hF hT hb hd => ?_)
   have e1 : A.eval (.tmp 48) = .agg #[.slice (aS 0) (mS 0) (cS 0),.slice (aS 1) (mS 1) (cS 1),.slice (aS 2) (mS 2) (cS 2),.slice (aS 3) (mS 3) (cS 3),.slice (aS 4) (mS 4) (cS 4),.slice (aS 5) (mS 5) (cS 5),.slice (aS 6) (mS 6) (cS 6),.slice (aS 7) (mS 7) (cS 7),.slice (aS 8) (mS 8) (cS 8),.slice (aS 9) (mS 9) (cS 9),.slice (aS 10) (mS 10) (cS 10),.slice (aS 11) (mS 11) (cS 11)] := (hT 48 8 (by simp) rfl).trans (hd ⟨8,.data⟩ (by simp) rfl)
   have e2 : A.eval (.tmp 49) = .agg #[.int .i64 x.table,.slice xl x.lo.length xc,.slice xh x.hi.length xd,.bool x.isOpen] := (hT 49 9 (by simp) rfl).trans (hd ⟨9,.data⟩ (by simp) rfl)
   have e3 : A.eval (.tmp 50) = .int .i64 u := (hT 50 10 (by simp) rfl).trans (hd ⟨10,.data⟩ (by simp) rfl)
   refine zak rfl eA (args := #[.agg #[.slice (aS 0) (mS 0) (cS 0),.slice (aS 1) (mS 1) (cS 1),.slice (aS 2) (mS 2) (cS 2),.slice (aS 3) (mS 3) (cS 3),.slice (aS 4) (mS 4) (cS 4),.slice (aS 5) (mS 5) (cS 5),.slice (aS 6) (mS 6) (cS 6),.slice (aS 7) (mS 7) (cS 7),.slice (aS 8) (mS 8) (cS 8),.slice (aS 9) (mS 9) (cS 9),.slice (aS 10) (mS 10) (cS 10),.slice (aS 11) (mS 11) (cS 11)],.agg #[.int .i64 x.table,.slice xl x.lo.length xc,.slice xh x.hi.length xd,.bool x.isOpen],.int .i64 u]) (by simp only [List.map_toArray,List.map_cons,List.map_nil,e1,e2,e3]) ((k2 w' hb).mono ?_)
   rintro e w2 ⟨a9,c9,rfl,ho9,hb2⟩
   exact ⟨_,rfl,_,rfl,⟨a9,c9,rfl,ho9.weak fun _ _ => trivial⟩,hb2⟩
  case o12 =>
   refine GdOp.taken rfl ⟨_,_,rfl,rfl,by simp⟩ (by kernel_rfl) (fun w v h => h) (fun A vs w' hF hT hb hd => ?_)
   obtain ⟨a1,c1,q1,hr1⟩ := hd ⟨7,.data⟩ (by simp) rfl
   have e1 : A.eval (.tmp 47) = .slice a1 (L).length c1 := (hT 47 7 (by simp) rfl).trans q1
   obtain ⟨a2,c2,q2,hr2⟩ := hd ⟨11,.data⟩ (by simp) rfl
   have e2 : A.eval (.tmp 51) = .slice a2 (L).length c2 := (hT 51 11 (by simp) rfl).trans q2
   refine zak rfl eB (args := #[.slice a1 L.length c1,.slice a2 L.length c2]) (by simp only [List.map_toArray,List.map_cons,List.map_nil,e1,e2]) ((zql w' hr1 hr2).mono ?_)
   rintro e w2 ⟨rfl,hb2⟩
   exact ⟨_,rfl,_,rfl,congrArg Value.bool (decide_eq_true rfl),hb2⟩
  case o13 =>
   refine GdOp.taken rfl ⟨_,_,rfl,rfl,by simp⟩ (by kernel_rfl) (fun w v h => h) (fun A vs w' hF hT hb hd => ?_)
   have e1 : A.eval (.tmp 52) = .bool true := (hT 52 12 (by simp) rfl).trans (hd ⟨12,.data⟩ (by simp) rfl)
   exact BigFrame.wp_move _ rfl ⟨_,rfl,e1,Below.refl _ _⟩
  case o14 =>
   refine GdOp.taken rfl ⟨_,_,rfl,rfl,by simp⟩ (by kernel_rfl) (fun w v h => h) (fun A vs w' hF hT hb hd => ?_)
   have e1 : A.eval (.tmp 10) = .pointer (some ⟨wcA.heap.size,0,none⟩) := hF 10 rfl
   exact zcf (us := [.slice (aA 0) (mA 0) (cA 0),.slice (aA 1) (mA 1) (cA 1),.slice (aA 2) (mA 2) (cA 2),.slice (aA 3) (mA 3) (cA 3),.slice (aA 4) (mA 4) (cA 4),.slice (aA 5) (mA 5) (cA 5),.slice (aA 6) (mA 6) (cA 6),.slice (aA 7) (mA 7) (cA 7),.slice (aA 8) (mA 8) (cA 8),.slice (aA 9) (mA 9) (cA 9),.slice (aA 10) (mA 10) (cA 10),.slice (aA 11) (mA 11) (cA 11)]) stS7 rfl e1 (fun j v hj => by rw [Nat.zero_add]; exact (BoxN.below xA hb xA.lt).cell hj) ⟨_,rfl,rfl,Below.refl _ _⟩
  case o15 =>
   refine GdOp.taken rfl ⟨_,_,rfl,rfl,by simp⟩ (by kernel_rfl) (fun w v h => h) (fun A vs w' hF hT hb hd => ?_)
   have e1 : A.eval (.tmp 6) = .pointer (some ⟨w.heap.size + 1,0,none⟩) := hF 6 rfl
   exact zcf (us := [.int .i64 x.table,.slice xl x.lo.length xc,.slice xh x.hi.length xd,.bool x.isOpen]) spQ7 rfl e1 (fun j v hj => by rw [Nat.zero_add]; exact (Bx.below hb Bx.lt).cell hj) ⟨_,rfl,rfl,Below.refl _ _⟩
  case o16 =>
   refine GdOp.taken rfl ⟨_,_,rfl,rfl,by simp⟩ (by kernel_rfl) (fun w v h => h) (fun A vs w' hF hT hb hd => ?_)
   have e1 : A.eval (.tmp 3) = .int .i64 u := hF 3 rfl
   exact BigFrame.wp_move _ rfl ⟨_,rfl,e1,Below.refl _ _⟩
  case o17 =>
   refine GdOp.taken rfl ⟨_,_,rfl,rfl,by simp⟩ (by kernel_rfl) (fun w v h => h) (fun A vs w' hF hT hb hd => ?_)
   have e1 : A.eval (.tmp 54) = .agg #[.slice (aA 0) (mA 0) (cA 0),.slice (aA 1) (mA 1) (cA 1),.slice (aA 2) (mA 2) (cA 2),.slice (aA 3) (mA 3) (cA 3),.slice (aA 4) (mA 4) (cA 4),.slice (aA 5) (mA 5) (cA 5),.slice (aA 6) (mA 6) (cA 6),.slice (aA 7) (mA 7) (cA 7),.slice (aA 8) (mA 8) (cA 8),.slice (aA 9) (mA 9) (cA 9),.slice (aA 10) (mA 10) (cA 10),.slice (aA 11) (mA 11) (cA 11)] := (hT 54 14 (by simp) rfl).trans (hd ⟨14,.data⟩ (by simp) rfl)
   have e2 : A.eval (.tmp 55) = .agg #[.int .i64 x.table,.slice xl x.lo.length xc,.slice xh x.hi.length xd,.bool x.isOpen] := (hT 55 15 (by simp) rfl).trans (hd ⟨15,.data⟩ (by simp) rfl)
   have e3 : A.eval (.tmp 56) = .int .i64 u := (hT 56 16 (by simp) rfl).trans (hd ⟨16,.data⟩ (by simp) rfl)
   refine zak rfl eC (args := #[.agg #[.slice (aA 0) (mA 0) (cA 0),.slice (aA 1) (mA 1) (cA 1),.slice (aA 2) (mA 2) (cA 2),.slice (aA 3) (mA 3) (cA 3),.slice (aA 4) (mA 4) (cA 4),.slice (aA 5) (mA 5) (cA 5),.slice (aA 6) (mA 6) (cA 6),.slice (aA 7) (mA 7) (cA 7),.slice (aA 8) (mA 8) (cA 8),.slice (aA 9) (mA 9) (cA 9),.slice (aA 10) (mA 10) (cA 10),.slice (aA 11) (mA 11) (cA 11)],.agg #[.int .i64 x.table,.slice xl x.lo.length xc,.slice xh x.hi.length xd,.bool x.isOpen],.int .i64 u]) (by simp only [List.map_toArray,List.map_cons,List.map_nil,e1,e2,e3]) ((k3 w' hb).mono ?_)
   rintro e w2 ⟨rfl,hb2⟩
   exact ⟨_,rfl,_,rfl,rfl,hb2⟩
  case o18 =>
   refine GdOp.taken rfl ⟨_,_,rfl,rfl,by simp⟩ (by kernel_rfl) (fun w v h => h) (fun A vs w' hF hT hb hd => ?_)
   have e1 : A.eval (.tmp 4) = .pointer (some ⟨w.heap.size,0,none⟩) := hF 4 rfl
   exact zcf (us := [.slice (aS 0) (mS 0) (cS 0),.slice (aS 1) (mS 1) (cS 1),.slice (aS 2) (mS 2) (cS 2),.slice (aS 3) (mS 3) (cS 3),.slice (aS 4) (mS 4) (cS 4),.slice (aS 5) (mS 5) (cS 5),.slice (aS 6) (mS 6) (cS 6),.slice (aS 7) (mS 7) (cS 7),.slice (aS 8) (mS 8) (cS 8),.slice (aS 9) (mS 9) (cS 9),.slice (aS 10) (mS 10) (cS 10),.slice (aS 11) (mS 11) (cS 11)]) stS7 rfl e1 (fun j v hj => by rw [Nat.zero_add]; exact (BoxN.below Bs hb Bs.lt).cell hj) ⟨_,rfl,rfl,Below.refl _ _⟩
  case o19 =>
   refine GdOp.taken rfl ⟨_,_,rfl,rfl,by simp⟩ (by kernel_rfl) (fun w v h => h) (fun A vs w' hF hT hb hd => ?_)
   have e1 : A.eval (.tmp 6) = .pointer (some ⟨w.heap.size + 1,0,none⟩) := hF 6 rfl
   exact zcf (us := [.int .i64 x.table,.slice xl x.lo.length xc,.slice xh x.hi.length xd,.bool x.isOpen]) spQ7 rfl e1 (fun j v hj => by rw [Nat.zero_add]; exact (Bx.below hb Bx.lt).cell hj) ⟨_,rfl,rfl,Below.refl _ _⟩
  case o20 =>
   refine GdOp.taken rfl ⟨_,_,rfl,rfl,by simp⟩ (by kernel_rfl) (fun w v h => h) (fun A vs w' hF hT hb hd => ?_)
   have e1 : A.eval (.tmp 3) = .int .i64 u := hF 3 rfl
   exact BigFrame.wp_move _ rfl ⟨_,rfl,e1,Below.refl _ _⟩
  case o21 =>
   refine GdOp.taken rfl ⟨_,_,rfl,rfl,by simp⟩ (by kernel_rfl) (fun w v h => h) (fun A vs w' hF hT hb hd => ?_)
   have e1 : A.eval (.tmp 58) = .agg #[.slice (aS 0) (mS 0) (cS 0),.slice (aS 1) (mS 1) (cS 1),.slice (aS 2) (mS 2) (cS 2),.slice (aS 3) (mS 3) (cS 3),.slice (aS 4) (mS 4) (cS 4),.slice (aS 5) (mS 5) (cS 5),.slice (aS 6) (mS 6) (cS 6),.slice (aS 7) (mS 7) (cS 7),.slice (aS 8) (mS 8) (cS 8),.slice (aS 9) (mS 9) (cS 9),.slice (aS 10) (mS 10) (cS 10),.slice (aS 11) (mS 11) (cS 11)] := (hT 58 18 (by simp) rfl).trans (hd ⟨18,.data⟩ (by simp) rfl)
   have e2 : A.eval (.tmp 59) = .agg #[.int .i64 x.table,.slice xl x.lo.length xc,.slice xh x.hi.length xd,.bool x.isOpen] := (hT 59 19 (by simp) rfl).trans (hd ⟨19,.data⟩ (by simp) rfl)
   have e3 : A.eval (.tmp 60) = .int .i64 u := (hT 60 20 (by simp) rfl).trans (hd ⟨20,.data⟩ (by simp) rfl)
   refine zak rfl eC (args := #[.agg #[.slice (aS 0) (mS 0) (cS 0),.slice (aS 1) (mS 1) (cS 1),.slice (aS 2) (mS 2) (cS 2),.slice (aS 3) (mS 3) (cS 3),.slice (aS 4) (mS 4) (cS 4),.slice (aS 5) (mS 5) (cS 5),.slice (aS 6) (mS 6) (cS 6),.slice (aS 7) (mS 7) (cS 7),.slice (aS 8) (mS 8) (cS 8),.slice (aS 9) (mS 9) (cS 9),.slice (aS 10) (mS 10) (cS 10),.slice (aS 11) (mS 11) (cS 11)],.agg #[.int .i64 x.table,.slice xl x.lo.length xc,.slice xh x.hi.length xd,.bool x.isOpen],.int .i64 u]) (by simp only [List.map_toArray,List.map_cons,List.map_nil,e1,e2,e3]) ((k4 w' hb).mono ?_)
   rintro e w2 ⟨rfl,hb2⟩
   exact ⟨_,rfl,_,rfl,rfl,hb2⟩
  case o22 =>
   refine GdOp.taken rfl ⟨_,_,rfl,rfl,by simp⟩ (by kernel_rfl) (fun w v h => h) (fun A vs w' hF hT hb hd => ?_)
   have e1 : A.eval (.tmp 57) = .bool nw := (hT 57 17 (by simp) rfl).trans (hd ⟨17,.data⟩ (by simp) rfl)
   have e2 : A.eval (.tmp 61) = .bool nw := (hT 61 21 (by simp) rfl).trans (hd ⟨21,.data⟩ (by simp) rfl)
   exact wp_eqlB (by kernel_rfl) rfl e1 e2 ⟨_,rfl,congrArg Value.bool (beq_self_eq_true _),Below.refl _ _⟩
  case o23 =>
   refine GdOp.taken rfl ⟨_,_,rfl,rfl,by simp⟩ (by kernel_rfl) (fun w v h => h) (fun A vs w' hF hT hb hd => ?_)
   have e1 : A.eval (.tmp 53) = .bool true := (hT 53 13 (by simp) rfl).trans (hd ⟨13,.data⟩ (by simp) rfl)
   have e2 : A.eval (.tmp 62) = .bool true := (hT 62 22 (by simp) rfl).trans (hd ⟨22,.data⟩ (by simp) rfl)
   exact wp_pk rfl e1 (fun _ => e2) (by simp) ⟨_,rfl,rfl,Below.refl _ _⟩
  case o24 =>
   refine GdOp.plain rfl (fun A vs w' hF hT hb hd => ?_)
   have e1 : A.eval (.tmp 43) = .bool false := (hT 43 3 (by simp) rfl).trans (hd ⟨3,.data⟩ (by simp) rfl)
   have e3 : A.eval (.tmp 63) = .bool true := (hT 63 23 (by simp) rfl).trans (hd ⟨23,.data⟩ (by simp) rfl)
   exact wp_pk rfl e1 (by simp) (fun _ => e3) ⟨_,rfl,rfl,Below.refl _ _⟩
  case o25 =>
   refine GdOp.plain rfl (fun A vs w' hF hT hb hd => ?_)
   have e1 : A.eval (.tmp 64) = .bool true := (hT 64 24 (by simp) rfl).trans (hd ⟨24,.data⟩ (by simp) rfl)
   exact BigFrame.wp_assign _ rfl ⟨_,rfl,e1,Below.refl _ _⟩
  case fin =>
  intro vs9 W9 hb9 hG9
  have e0 : vs9 0 = .int .i64 u := hG9 0 (by decide)
  have e1 : vs9 1 = .int .i64 s := hG9 1 (by decide)
  have e2 : vs9 2 = .bool false := hG9 2 (by decide)
  have e3 : vs9 3 = .bool false := hG9 3 (by decide)
  have e4 : vs9 4 = .agg #[.slice (aA 0) (mA 0) (cA 0),.slice (aA 1) (mA 1) (cA 1),.slice (aA 2) (mA 2) (cA 2),.slice (aA 3) (mA 3) (cA 3),.slice (aA 4) (mA 4) (cA 4),.slice (aA 5) (mA 5) (cA 5),.slice (aA 6) (mA 6) (cA 6),.slice (aA 7) (mA 7) (cA 7),.slice (aA 8) (mA 8) (cA 8),.slice (aA 9) (mA 9) (cA 9),.slice (aA 10) (mA 10) (cA 10),.slice (aA 11) (mA 11) (cA 11)] := hG9 4 (by decide)
  have e5 : vs9 5 = .agg #[.int .i64 x.table,.slice xl x.lo.length xc,.slice xh x.hi.length xd,.bool x.isOpen] := hG9 5 (by decide)
  have e6 : vs9 6 = .int .i64 u := hG9 6 (by decide)
  obtain ⟨gx7,gy7,e7,_⟩ := hG9 7 (by decide)
  have e8 : vs9 8 = .agg #[.slice (aS 0) (mS 0) (cS 0),.slice (aS 1) (mS 1) (cS 1),.slice (aS 2) (mS 2) (cS 2),.slice (aS 3) (mS 3) (cS 3),.slice (aS 4) (mS 4) (cS 4),.slice (aS 5) (mS 5) (cS 5),.slice (aS 6) (mS 6) (cS 6),.slice (aS 7) (mS 7) (cS 7),.slice (aS 8) (mS 8) (cS 8),.slice (aS 9) (mS 9) (cS 9),.slice (aS 10) (mS 10) (cS 10),.slice (aS 11) (mS 11) (cS 11)] := hG9 8 (by decide)
  have e9 : vs9 9 = .agg #[.int .i64 x.table,.slice xl x.lo.length xc,.slice xh x.hi.length xd,.bool x.isOpen] := hG9 9 (by decide)
  have e10 : vs9 10 = .int .i64 u := hG9 10 (by decide)
  obtain ⟨gx11,gy11,e11,_⟩ := hG9 11 (by decide)
  have e12 : vs9 12 = .bool true := hG9 12 (by decide)
  have e13 : vs9 13 = .bool true := hG9 13 (by decide)
  have e14 : vs9 14 = .agg #[.slice (aA 0) (mA 0) (cA 0),.slice (aA 1) (mA 1) (cA 1),.slice (aA 2) (mA 2) (cA 2),.slice (aA 3) (mA 3) (cA 3),.slice (aA 4) (mA 4) (cA 4),.slice (aA 5) (mA 5) (cA 5),.slice (aA 6) (mA 6) (cA 6),.slice (aA 7) (mA 7) (cA 7),.slice (aA 8) (mA 8) (cA 8),.slice (aA 9) (mA 9) (cA 9),.slice (aA 10) (mA 10) (cA 10),.slice (aA 11) (mA 11) (cA 11)] := hG9 14 (by decide)
  have e15 : vs9 15 = .agg #[.int .i64 x.table,.slice xl x.lo.length xc,.slice xh x.hi.length xd,.bool x.isOpen] := hG9 15 (by decide)
  have e16 : vs9 16 = .int .i64 u := hG9 16 (by decide)
  have e17 : vs9 17 = .bool nw := hG9 17 (by decide)
  have e18 : vs9 18 = .agg #[.slice (aS 0) (mS 0) (cS 0),.slice (aS 1) (mS 1) (cS 1),.slice (aS 2) (mS 2) (cS 2),.slice (aS 3) (mS 3) (cS 3),.slice (aS 4) (mS 4) (cS 4),.slice (aS 5) (mS 5) (cS 5),.slice (aS 6) (mS 6) (cS 6),.slice (aS 7) (mS 7) (cS 7),.slice (aS 8) (mS 8) (cS 8),.slice (aS 9) (mS 9) (cS 9),.slice (aS 10) (mS 10) (cS 10),.slice (aS 11) (mS 11) (cS 11)] := hG9 18 (by decide)
  have e19 : vs9 19 = .agg #[.int .i64 x.table,.slice xl x.lo.length xc,.slice xh x.hi.length xd,.bool x.isOpen] := hG9 19 (by decide)
  have e20 : vs9 20 = .int .i64 u := hG9 20 (by decide)
  have e21 : vs9 21 = .bool nw := hG9 21 (by decide)
  have e22 : vs9 22 = .bool true := hG9 22 (by decide)
  have e23 : vs9 23 = .bool true := hG9 23 (by decide)
  have e24 : vs9 24 = .bool true := hG9 24 (by decide)
  have e25 : vs9 25 = .bool true := hG9 25 (by decide)
  simp only [zae,e0,e1,e2,e3,e4,e5,e6,e7,e8,e9,e10,e11,e12,e13,e14,e15,e16,e17,e18,e19,e20,e21,e22,e23,e24,e25]
  clear hG9 e0 e1 e2 e3 e4 e5 e6 e7 e8 e9 e10 e11 e12 e13 e14 e15 e16 e17 e18 e19 e20 e21 e22 e23 e24 e25
  replace Bs := Bs.below hb9 Bs.lt
  replace Bx := Bx.below hb9 Bx.lt
  replace rA := rA.below hb9
  replace xA := xA.below hb9 xA.lt
  replace q := q.trans (hb9.mono q.size)
  clear hb9
  go_simp
  go_upto_region 8 with (fail)
  obtain ⟨d0,d1,d2,d3,d4,d5,d6,d7,d8,d9,d10,d11⟩ := xA.c12
  have hcl := zcx _ rA hfA
  rw [decide_eq_true hkA] at hcl
  go_wp2_with fail
  refine hcl.mono ?_
  rintro e wz ⟨rfl,hb⟩
  go_wp2_with fail
  go_ret
  exact ⟨rfl,q.trans (hb.mono q.size)⟩
end Go.Proofs.YtlpfhgdnmjkngaaGreat
