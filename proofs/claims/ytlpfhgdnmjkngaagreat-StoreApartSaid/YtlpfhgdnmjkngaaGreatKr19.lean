/-
  TEXTS OF ONE PROOF, merged: StoreApartW.
-/
import Derived.Test.YtlpfhgdnmjkngaaGreatKr17
namespace Go.Proofs.YtlpfhgdnmjkngaaGreat
open Go.RowKit Go.Shelf
set_option maxRecDepth 100000 in
set_option maxHeartbeats 16000000 in
theorem StoreApart_w (w : World) {cs0 cs3 : Array Value} {s u : Int} {T : Sto} {x : Sp} {A : Option Addr} {n C : Nat} {l : List Wr} (h0 : RdSt (· < w.heap.size) w (.agg cs0) T) (h1 : (Lit.int .i64 s).wf = true) (h2 : RdL Elt.wr (· < w.heap.size) w (.slice A n C) l) (h3 : RdSp (· < w.heap.size) w (.agg cs3) x) (h4 : (Lit.int .i64 u).wf = true) :
  Calls Tryz.prog 8 #[.agg cs0,.int .i64 s,.slice A n C,.agg cs3,.int .i64 u] w fun e w' => e = .returned (.bool true) ∧ Below w.heap.size w w' := by
 have _ := h4
 obtain ⟨rfl,hlc,hlm⟩ := h2.len
 have hlm2 : l.length ≤ 9223372036854775807 := by unfold maxLen at hlm; omega
 have hd := h0
 obtain ⟨aS,mS,cS,e,hS0⟩ := h0
 injection e with e
 subst e
 clear hS0
 have hx := h3
 obtain ⟨xl,xc,xh,xd,e,hl0,hh0,hxt⟩ := h3
 injection e with e
 subst e
 clear hl0 hh0
 obtain ⟨W0,hW,q,Bs,Bx,hsz⟩ := stBoxes w 29 32 [.slice (aS 0) (mS 0) (cS 0),.slice (aS 1) (mS 1) (cS 1),.slice (aS 2) (mS 2) (cS 2),.slice (aS 3) (mS 3) (cS 3),.slice (aS 4) (mS 4) (cS 4),.slice (aS 5) (mS 5) (cS 5),.slice (aS 6) (mS 6) (cS 6),.slice (aS 7) (mS 7) (cS 7),.slice (aS 8) (mS 8) (cS 8),.slice (aS 9) (mS 9) (cS 9),.slice (aS 10) (mS 10) (cS 10),.slice (aS 11) (mS 11) (cS 11)] [.int .i64 x.table,.slice xl x.lo.length xc,.slice xh x.hi.length xd,.bool x.isOpen]
 clear hsz
 replace Bs : StB W0 w.heap.size aS mS cS := Bs
 go_enter Tryz.func8,Tryz.ntmps8
 go_upto_region 1 with (fail)
 rw [show (w.alloc (.cells #[.slice (aS 0) (mS 0) (cS 0),.slice (aS 1) (mS 1) (cS 1),.slice (aS 2) (mS 2) (cS 2),.slice (aS 3) (mS 3) (cS 3),.slice (aS 4) (mS 4) (cS 4),.slice (aS 5) (mS 5) (cS 5),.slice (aS 6) (mS 6) (cS 6),.slice (aS 7) (mS 7) (cS 7),.slice (aS 8) (mS 8) (cS 8),.slice (aS 9) (mS 9) (cS 9),.slice (aS 10) (mS 10) (cS 10),.slice (aS 11) (mS 11) (cS 11)] 29)).alloc (.cells #[.int .i64 x.table,.slice xl x.lo.length xc,.slice xh x.hi.length xd,.bool x.isOpen] 32) = W0 from hW.symm]
 clear hW
 go_wp2_with fail
 refine (awake7_any W0).mono ?_
 rintro e w1 ⟨rfl,hb⟩
 replace Bs := Bs.below hb Bs.lt
 replace Bx := Bx.below hb Bx.lt
 replace q := q.trans (hb.mono q.size)
 clear hb
 obtain ⟨d0,d1,d2,d3,d4,d5,d6,d7,d8,d9,d10,d11⟩ := Bs.c12
 have hcl := refSmallS_any _ (hd.below q)
 go_wp2_with fail
 refine hcl.mono ?_
 rintro e ws1 ⟨rfl,hb⟩
 clear hcl d0 d1 d2 d3 d4 d5 d6 d7 d8 d9 d10 d11
 replace Bs := Bs.below hb Bs.lt
 replace Bx := Bx.below hb Bx.lt
 replace q := q.trans (hb.mono q.size)
 clear hb
 by_cases hs : smallS T
 case neg =>
  rw [decide_eq_false hs]
  go_wp2_with fail
  go_ret
  exact ⟨rfl,q⟩
 rw [decide_eq_true hs]
 have hcl := few7_any _ (h2.below q)
 go_wp2_with fail
 refine hcl.mono ?_
 rintro e wf ⟨rfl,hb⟩
 clear hcl
 replace Bs := Bs.below hb Bs.lt
 replace Bx := Bx.below hb Bx.lt
 replace q := q.trans (hb.mono q.size)
 clear hb
 by_cases hfw : fewW l
 case neg =>
  rw [decide_eq_false hfw]
  go_wp2_with fail
  go_ret
  exact ⟨rfl,q⟩
 rw [decide_eq_true hfw]
 obtain ⟨b0,b1,b2,b3⟩ := Bx.c4
 have hcl := short7_any _ (hx.below q)
 go_wp2_with fail
 refine hcl.mono ?_
 rintro e wh ⟨rfl,hb⟩
 clear hcl b0 b1 b2 b3
 replace Bs := Bs.below hb Bs.lt
 replace Bx := Bx.below hb Bx.lt
 replace q := q.trans (hb.mono q.size)
 clear hb
 by_cases hsh : shS x
 case neg =>
  rw [decide_eq_false hsh]
  go_wp2_with fail
  go_ret
  exact ⟨rfl,q⟩
 rw [decide_eq_true hsh]
 have hln := hfw.1
 clear hfw hsh
 go_upto_region 5 with (fail)
 obtain ⟨V,hV⟩ : ∃ V,V = wh := ⟨_,rfl⟩
 rw [← hV] at q Bs Bx
 rw [← hV]
 clear hV
 go_loopw [12] (fun iv wr => ∃ i : Nat,iv = .int .i64 (i : Int) ∧ i ≤ l.length ∧ (∀ y ∈ l.take i,y.table ≠ x.table) ∧ Below V.heap.size V wr) (fun iv _ => l.length - (intOf iv).toNat)
 case atStart => exact ⟨0,rfl,Nat.zero_le _,by simp,Below.refl _ _⟩
 case round =>
 obtain ⟨i,rfl,hil,hall,q2⟩ := hrel
 rcases Nat.lt_or_ge i l.length with hlt | hge
 ·have hz : decide ((i : Int) < (l.length : Int)) = true := decide_eq_true (by omega)
  obtain ⟨b,off,A,C,A2,C2,rfl,hb,c0,c1,c2,c3,hk1,hk2,_⟩ := ((h2.below q).below q2).wr i hlt
  obtain ⟨b0,b1,b2,b3⟩ := (Bx.below q2 Bx.lt).c4
  clear hb hk1 hk2
  by_cases ht : l[i].table = x.table
  ·have y1 : (l[i].table == x.table) = true := beq_iff_eq.2 ht
   have y2 : decide (l[i].table = x.table) = true := decide_eq_true ht
   clear ht hall
   go_upto_region 7 with (fail)
   go_quiet (fail)
   go_wp2_with fail
   go_ret
   exact ⟨rfl,q.trans ((q2.mono q.size).trans (Below.drewN (Below.refl _ _) _))⟩
  ·have y1 : (l[i].table == x.table) = false := beq_eq_false_iff_ne.2 ht
   have y2 : decide (l[i].table = x.table) = false := decide_eq_false ht
   have hall2 := Lib.hid (all_succ7 hlt hall ht)
   clear ht hall
   go_upto_region 7 with (fail)
   go_quiet (fail)
   go_wp2_with fail
   go_roundw
   case rel => exact ⟨i + 1,by go_num,by omega,hall2.out,Below.drewN q2 _⟩
   case measure => simp [intOf]; omega
 ·obtain rfl : i = l.length := by omega
  rw [List.take_length] at hall
  have hz : decide ((l.length : Int) < (l.length : Int)) = false := decide_eq_false (by omega)
  replace hall := Lib.hid hall
  replace Bs := Bs.below q2 Bs.lt
  replace Bx := Bx.below q2 Bx.lt
  replace q := q.trans (q2.mono q.size)
  clear q2 hge hil
  go_upto_region 9 with (fail)
  obtain ⟨d0,d1,d2,d3,d4,d5,d6,d7,d8,d9,d10,d11⟩ := Bs.c12
  have hcl := sInstall_any _ (T := T) (s := s) (l := l) (K := 20) (hd.below q) (smallS_fit hs) (wf_I64 h1) (h2.below q) (fun _ => smallS_ch hs) (by omega)
  unfold InsEnd at hcl
  obtain ⟨erA,herA⟩ : ∃ n,n = (instI T s l).2 := ⟨_,rfl⟩
  rw [← herA] at hcl
  replace herA := Lib.hid herA
  go_wp2_with fail
  refine hcl.mono ?_
  rintro e wcA ⟨vA,TA,rfl,⟨aA,mA,cA,rfl,hA⟩,hb,hIA⟩
  clear hcl
  replace Bs := Bs.below hb Bs.lt
  replace Bx := Bx.below hb Bx.lt
  replace q := q.trans (hb.mono q.size)
  clear hb
  have rA : RdSt (fun _ => True) wcA (.agg #[.slice (aA 0) (mA 0) (cA 0),.slice (aA 1) (mA 1) (cA 1),.slice (aA 2) (mA 2) (cA 2),.slice (aA 3) (mA 3) (cA 3),.slice (aA 4) (mA 4) (cA 4),.slice (aA 5) (mA 5) (cA 5),.slice (aA 6) (mA 6) (cA 6),.slice (aA 7) (mA 7) (cA 7),.slice (aA 8) (mA 8) (cA 8),.slice (aA 9) (mA 9) (cA 9),.slice (aA 10) (mA 10) (cA 10),.slice (aA 11) (mA 11) (cA 11)]) TA := ⟨aA,mA,cA,rfl,fun i hi => (hA i hi).weak fun _ _ => trivial⟩
  clear hA
  go_upto_region 10 with (first | (refine wpList_boxNew (vs := [.slice none 0 0,.slice none 0 0,.slice none 0 0,.slice none 0 0,.slice none 0 0,.slice none 0 0,.slice none 0 0,.slice none 0 0,.slice none 0 0,.slice none 0 0,.slice none 0 0,.slice none 0 0]) (by kernel_rfl) rfl rfl ?_; intro wa hba hBa) | (refine wpList_boxStore (us := [.slice (aA 0) (mA 0) (cA 0),.slice (aA 1) (mA 1) (cA 1),.slice (aA 2) (mA 2) (cA 2),.slice (aA 3) (mA 3) (cA 3),.slice (aA 4) (mA 4) (cA 4),.slice (aA 5) (mA 5) (cA 5),.slice (aA 6) (mA 6) (cA 6),.slice (aA 7) (mA 7) (cA 7),.slice (aA 8) (mA 8) (cA 8),.slice (aA 9) (mA 9) (cA 9),.slice (aA 10) (mA 10) (cA 10),.slice (aA 11) (mA 11) (cA 11)]) (by kernel_rfl) rfl rfl rfl rfl rfl rfl hBa rfl ?_; intro wbA hgw xA) | fail)
  try go_simp
  have hbw := hba.grown hgw hba.size fun k hk => by injection hk with hk; omega
  replace Bs := Bs.below hbw Bs.lt
  replace Bx := Bx.below hbw Bx.lt
  replace rA := rA.below hbw
  replace q := q.trans (hbw.mono q.size)
  clear hbw hgw hba hBa
  replace xA : StB _ _ aA mA cA := xA
  clear herA d0 d1 d2 d3 d4 d5 d6 d7 d8 d9 d10 d11
  have hfA := hIA.fits (smallS_fit hs) (by omega)
  have hp := apart_pick hIA (by omega) hall.out
  clear hIA hall
  have eA : ∀ args w,(callFunc 19 args).run Tryz.prog w = .ok (.enter 19 args) w := enters_of Tryz.func19 (by kernel_rfl) rfl
  have eB : ∀ args w,(callFunc 18 args).run Tryz.prog w = .ok (.enter 18 args) w := enters_of Tryz.func18 (by kernel_rfl) rfl
  have eC : ∀ args w,(callFunc 22 args).run Tryz.prog w = .ok (.enter 22 args) w := enters_of Tryz.func22 (by kernel_rfl) rfl
  obtain ⟨U,hU⟩ : ∃ V,V = wbA := ⟨_,rfl⟩
  rw [← hU] at q Bs Bx rA xA
  rw [← hU]
  clear hU
  have hdU := hd.below q
  have hxU := hx.below q
  obtain ⟨L,hL⟩ : ∃ l,l = scanP (pickS T x.table) x u := ⟨_,rfl⟩
  obtain ⟨nw,hN⟩ : ∃ b,b = newP (pickS T x.table) x u := ⟨_,rfl⟩
  have k1 := fun (V : World) (hV : Below U.heap.size U V) => sScan_any V (s := u) (rA.below hV) hfA (hxU.below hV)
  have k2 := fun (V : World) (hV : Below U.heap.size U V) => sScan_any V (s := u) (hdU.below hV) (smallS_fit hs) (hxU.below hV)
  have k3 := fun (V : World) (hV : Below U.heap.size U V) => sNewer_any V (s := u) (rA.below hV) hfA (hxU.below hV)
  have k4 := fun (V : World) (hV : Below U.heap.size U V) => sNewer_any V (s := u) (hdU.below hV) (smallS_fit hs) (hxU.below hV)
  rw [hp,← hL] at k1
  rw [← hL] at k2
  rw [hp,← hN] at k3
  rw [← hN] at k4
  clear hp hL hN
  refine wp_region_gsa (by kernel_rfl) (by kernel_rfl) [sgEq (.bool true),sgEq (.bool true),sgEq (.agg #[.slice (aA 0) (mA 0) (cA 0),.slice (aA 1) (mA 1) (cA 1),.slice (aA 2) (mA 2) (cA 2),.slice (aA 3) (mA 3) (cA 3),.slice (aA 4) (mA 4) (cA 4),.slice (aA 5) (mA 5) (cA 5),.slice (aA 6) (mA 6) (cA 6),.slice (aA 7) (mA 7) (cA 7),.slice (aA 8) (mA 8) (cA 8),.slice (aA 9) (mA 9) (cA 9),.slice (aA 10) (mA 10) (cA 10),.slice (aA 11) (mA 11) (cA 11)]),sgEq (.agg #[.int .i64 x.table,.slice xl x.lo.length xc,.slice xh x.hi.length xd,.bool x.isOpen]),sgEq (.int .i64 u),sgVq L,sgEq (.agg #[.slice (aS 0) (mS 0) (cS 0),.slice (aS 1) (mS 1) (cS 1),.slice (aS 2) (mS 2) (cS 2),.slice (aS 3) (mS 3) (cS 3),.slice (aS 4) (mS 4) (cS 4),.slice (aS 5) (mS 5) (cS 5),.slice (aS 6) (mS 6) (cS 6),.slice (aS 7) (mS 7) (cS 7),.slice (aS 8) (mS 8) (cS 8),.slice (aS 9) (mS 9) (cS 9),.slice (aS 10) (mS 10) (cS 10),.slice (aS 11) (mS 11) (cS 11)]),sgEq (.agg #[.int .i64 x.table,.slice xl x.lo.length xc,.slice xh x.hi.length xd,.bool x.isOpen]),sgEq (.int .i64 u),sgVq L,sgEq (.bool true),sgEq (.bool true),sgEq (.bool true),sgEq (.agg #[.slice (aA 0) (mA 0) (cA 0),.slice (aA 1) (mA 1) (cA 1),.slice (aA 2) (mA 2) (cA 2),.slice (aA 3) (mA 3) (cA 3),.slice (aA 4) (mA 4) (cA 4),.slice (aA 5) (mA 5) (cA 5),.slice (aA 6) (mA 6) (cA 6),.slice (aA 7) (mA 7) (cA 7),.slice (aA 8) (mA 8) (cA 8),.slice (aA 9) (mA 9) (cA 9),.slice (aA 10) (mA 10) (cA 10),.slice (aA 11) (mA 11) (cA 11)]),sgEq (.agg #[.int .i64 x.table,.slice xl x.lo.length xc,.slice xh x.hi.length xd,.bool x.isOpen]),sgEq (.int .i64 u),sgEq (.bool nw),sgEq (.agg #[.slice (aS 0) (mS 0) (cS 0),.slice (aS 1) (mS 1) (cS 1),.slice (aS 2) (mS 2) (cS 2),.slice (aS 3) (mS 3) (cS 3),.slice (aS 4) (mS 4) (cS 4),.slice (aS 5) (mS 5) (cS 5),.slice (aS 6) (mS 6) (cS 6),.slice (aS 7) (mS 7) (cS 7),.slice (aS 8) (mS 8) (cS 8),.slice (aS 9) (mS 9) (cS 9),.slice (aS 10) (mS 10) (cS 10),.slice (aS 11) (mS 11) (cS 11)]),sgEq (.agg #[.int .i64 x.table,.slice xl x.lo.length xc,.slice xh x.hi.length xd,.bool x.isOpen]),sgEq (.int .i64 u),sgEq (.bool nw),sgEq (.bool true),sgEq (.bool true),sgEq (.bool true)]
   ⟨?o0,?o1,?o2,?o3,?o4,?o5,?o6,?o7,?o8,?o9,?o10,?o11,?o12,?o13,?o14,?o15,?o16,?o17,?o18,?o19,?o20,?o21,?o22,?o23,trivial⟩ ?fin
  case o0 =>
   refine GdOp.plain rfl (fun A vs w' hF hT hb hd => ?_)
   have e1 : A.eval (.tmp 11) = .bool true := hF 11 rfl
   exact BigFrame.wp_move _ rfl ⟨_,rfl,e1,Below.refl _ _⟩
  case o1 =>
   refine GdOp.plain rfl (fun A vs w' hF hT hb hd => ?_)
   have e1 : A.eval (.tmp 52) = .bool true := (hT 52 0 (by simp) rfl).trans (hd ⟨0,.data⟩ (by simp) rfl)
   exact BigFrame.wp_move _ rfl ⟨_,rfl,e1,Below.refl _ _⟩
  case o2 =>
   refine GdOp.taken rfl ⟨_,_,rfl,rfl,by simp⟩ (by kernel_rfl) (fun w v h => h) (fun A vs w' hF hT hb hd => ?_)
   have e1 : A.eval (.tmp 13) = .pointer (some ⟨wcA.heap.size,0,none⟩) := hF 13 rfl
   exact wp_loadQ (us := [.slice (aA 0) (mA 0) (cA 0),.slice (aA 1) (mA 1) (cA 1),.slice (aA 2) (mA 2) (cA 2),.slice (aA 3) (mA 3) (cA 3),.slice (aA 4) (mA 4) (cA 4),.slice (aA 5) (mA 5) (cA 5),.slice (aA 6) (mA 6) (cA 6),.slice (aA 7) (mA 7) (cA 7),.slice (aA 8) (mA 8) (cA 8),.slice (aA 9) (mA 9) (cA 9),.slice (aA 10) (mA 10) (cA 10),.slice (aA 11) (mA 11) (cA 11)]) stS7 rfl e1 (fun j v hj => by rw [Nat.zero_add]; exact (BoxN.below xA hb xA.lt).cell hj) ⟨_,rfl,rfl,Below.refl _ _⟩
  case o3 =>
   refine GdOp.taken rfl ⟨_,_,rfl,rfl,by simp⟩ (by kernel_rfl) (fun w v h => h) (fun A vs w' hF hT hb hd => ?_)
   have e1 : A.eval (.tmp 8) = .pointer (some ⟨w.heap.size + 1,0,none⟩) := hF 8 rfl
   exact wp_loadQ (us := [.int .i64 x.table,.slice xl x.lo.length xc,.slice xh x.hi.length xd,.bool x.isOpen]) spQ7 rfl e1 (fun j v hj => by rw [Nat.zero_add]; exact (Bx.below hb Bx.lt).cell hj) ⟨_,rfl,rfl,Below.refl _ _⟩
  case o4 =>
   refine GdOp.taken rfl ⟨_,_,rfl,rfl,by simp⟩ (by kernel_rfl) (fun w v h => h) (fun A vs w' hF hT hb hd => ?_)
   have e1 : A.eval (.tmp 4) = .int .i64 u := hF 4 rfl
   exact BigFrame.wp_move _ rfl ⟨_,rfl,e1,Below.refl _ _⟩
  case o5 =>
   refine GdOp.taken rfl ⟨_,_,rfl,rfl,by simp⟩ (by kernel_rfl) (fun w v h => h) (fun A vs w' hF hT hb hd => ?_)
   have e1 : A.eval (.tmp 54) = .agg #[.slice (aA 0) (mA 0) (cA 0),.slice (aA 1) (mA 1) (cA 1),.slice (aA 2) (mA 2) (cA 2),.slice (aA 3) (mA 3) (cA 3),.slice (aA 4) (mA 4) (cA 4),.slice (aA 5) (mA 5) (cA 5),.slice (aA 6) (mA 6) (cA 6),.slice (aA 7) (mA 7) (cA 7),.slice (aA 8) (mA 8) (cA 8),.slice (aA 9) (mA 9) (cA 9),.slice (aA 10) (mA 10) (cA 10),.slice (aA 11) (mA 11) (cA 11)] := (hT 54 2 (by simp) rfl).trans (hd ⟨2,.data⟩ (by simp) rfl)
   have e2 : A.eval (.tmp 55) = .agg #[.int .i64 x.table,.slice xl x.lo.length xc,.slice xh x.hi.length xd,.bool x.isOpen] := (hT 55 3 (by simp) rfl).trans (hd ⟨3,.data⟩ (by simp) rfl)
   have e3 : A.eval (.tmp 56) = .int .i64 u := (hT 56 4 (by simp) rfl).trans (hd ⟨4,.data⟩ (by simp) rfl)
   refine wp_callFn rfl eA (args := #[.agg #[.slice (aA 0) (mA 0) (cA 0),.slice (aA 1) (mA 1) (cA 1),.slice (aA 2) (mA 2) (cA 2),.slice (aA 3) (mA 3) (cA 3),.slice (aA 4) (mA 4) (cA 4),.slice (aA 5) (mA 5) (cA 5),.slice (aA 6) (mA 6) (cA 6),.slice (aA 7) (mA 7) (cA 7),.slice (aA 8) (mA 8) (cA 8),.slice (aA 9) (mA 9) (cA 9),.slice (aA 10) (mA 10) (cA 10),.slice (aA 11) (mA 11) (cA 11)],.agg #[.int .i64 x.table,.slice xl x.lo.length xc,.slice xh x.hi.length xd,.bool x.isOpen],.int .i64 u]) (by simp only [List.map_toArray,List.map_cons,List.map_nil,e1,e2,e3]) ((k1 w' hb).mono ?_)
   rintro e w2 ⟨a9,c9,rfl,ho9,hb2⟩
   exact ⟨_,rfl,_,rfl,⟨a9,c9,rfl,ho9.weak fun _ _ => trivial⟩,hb2⟩
  case o6 =>
   refine GdOp.taken rfl ⟨_,_,rfl,rfl,by simp⟩ (by kernel_rfl) (fun w v h => h) (fun A vs w' hF hT hb hd => ?_)
   have e1 : A.eval (.tmp 5) = .pointer (some ⟨w.heap.size,0,none⟩) := hF 5 rfl
   exact wp_loadQ (us := [.slice (aS 0) (mS 0) (cS 0),.slice (aS 1) (mS 1) (cS 1),.slice (aS 2) (mS 2) (cS 2),.slice (aS 3) (mS 3) (cS 3),.slice (aS 4) (mS 4) (cS 4),.slice (aS 5) (mS 5) (cS 5),.slice (aS 6) (mS 6) (cS 6),.slice (aS 7) (mS 7) (cS 7),.slice (aS 8) (mS 8) (cS 8),.slice (aS 9) (mS 9) (cS 9),.slice (aS 10) (mS 10) (cS 10),.slice (aS 11) (mS 11) (cS 11)]) stS7 rfl e1 (fun j v hj => by rw [Nat.zero_add]; exact (BoxN.below Bs hb Bs.lt).cell hj) ⟨_,rfl,rfl,Below.refl _ _⟩
  case o7 =>
   refine GdOp.taken rfl ⟨_,_,rfl,rfl,by simp⟩ (by kernel_rfl) (fun w v h => h) (fun A vs w' hF hT hb hd => ?_)
   have e1 : A.eval (.tmp 8) = .pointer (some ⟨w.heap.size + 1,0,none⟩) := hF 8 rfl
   exact wp_loadQ (us := [.int .i64 x.table,.slice xl x.lo.length xc,.slice xh x.hi.length xd,.bool x.isOpen]) spQ7 rfl e1 (fun j v hj => by rw [Nat.zero_add]; exact (Bx.below hb Bx.lt).cell hj) ⟨_,rfl,rfl,Below.refl _ _⟩
  case o8 =>
   refine GdOp.taken rfl ⟨_,_,rfl,rfl,by simp⟩ (by kernel_rfl) (fun w v h => h) (fun A vs w' hF hT hb hd => ?_)
   have e1 : A.eval (.tmp 4) = .int .i64 u := hF 4 rfl
   exact BigFrame.wp_move _ rfl ⟨_,rfl,e1,Below.refl _ _⟩
  case o9 =>
   refine GdOp.taken rfl ⟨_,_,rfl,rfl,by simp⟩ (by kernel_rfl) (fun w v h => h) (fun A vs w' hF hT hb hd => ?_)
   have e1 : A.eval (.tmp 58) = .agg #[.slice (aS 0) (mS 0) (cS 0),.slice (aS 1) (mS 1) (cS 1),.slice (aS 2) (mS 2) (cS 2),.slice (aS 3) (mS 3) (cS 3),.slice (aS 4) (mS 4) (cS 4),.slice (aS 5) (mS 5) (cS 5),.slice (aS 6) (mS 6) (cS 6),.slice (aS 7) (mS 7) (cS 7),.slice (aS 8) (mS 8) (cS 8),.slice (aS 9) (mS 9) (cS 9),.slice (aS 10) (mS 10) (cS 10),.slice (aS 11) (mS 11) (cS 11)] := (hT 58 6 (by simp) rfl).trans (hd ⟨6,.data⟩ (by simp) rfl)
   have e2 : A.eval (.tmp 59) = .agg #[.int .i64 x.table,.slice xl x.lo.length xc,.slice xh x.hi.length xd,.bool x.isOpen] := (hT 59 7 (by simp) rfl).trans (hd ⟨7,.data⟩ (by simp) rfl)
   have e3 : A.eval (.tmp 60) = .int .i64 u := (hT 60 8 (by simp) rfl).trans (hd ⟨8,.data⟩ (by simp) rfl)
   refine wp_callFn rfl eA (args := #[.agg #[.slice (aS 0) (mS 0) (cS 0),.slice (aS 1) (mS 1) (cS 1),.slice (aS 2) (mS 2) (cS 2),.slice (aS 3) (mS 3) (cS 3),.slice (aS 4) (mS 4) (cS 4),.slice (aS 5) (mS 5) (cS 5),.slice (aS 6) (mS 6) (cS 6),.slice (aS 7) (mS 7) (cS 7),.slice (aS 8) (mS 8) (cS 8),.slice (aS 9) (mS 9) (cS 9),.slice (aS 10) (mS 10) (cS 10),.slice (aS 11) (mS 11) (cS 11)],.agg #[.int .i64 x.table,.slice xl x.lo.length xc,.slice xh x.hi.length xd,.bool x.isOpen],.int .i64 u]) (by simp only [List.map_toArray,List.map_cons,List.map_nil,e1,e2,e3]) ((k2 w' hb).mono ?_)
   rintro e w2 ⟨a9,c9,rfl,ho9,hb2⟩
   exact ⟨_,rfl,_,rfl,⟨a9,c9,rfl,ho9.weak fun _ _ => trivial⟩,hb2⟩
  case o10 =>
   refine GdOp.taken rfl ⟨_,_,rfl,rfl,by simp⟩ (by kernel_rfl) (fun w v h => h) (fun A vs w' hF hT hb hd => ?_)
   obtain ⟨a1,c1,q1,hr1⟩ := hd ⟨5,.data⟩ (by simp) rfl
   have e1 : A.eval (.tmp 57) = .slice a1 (L).length c1 := (hT 57 5 (by simp) rfl).trans q1
   obtain ⟨a2,c2,q2,hr2⟩ := hd ⟨9,.data⟩ (by simp) rfl
   have e2 : A.eval (.tmp 61) = .slice a2 (L).length c2 := (hT 61 9 (by simp) rfl).trans q2
   refine wp_callFn rfl eB (args := #[.slice a1 L.length c1,.slice a2 L.length c2]) (by simp only [List.map_toArray,List.map_cons,List.map_nil,e1,e2]) ((refPq_any w' hr1 hr2).mono ?_)
   rintro e w2 ⟨rfl,hb2⟩
   exact ⟨_,rfl,_,rfl,congrArg Value.bool (decide_eq_true rfl),hb2⟩
  case o11 =>
   refine GdOp.plain rfl (fun A vs w' hF hT hb hd => ?_)
   have e1 : A.eval (.tmp 53) = .bool true := (hT 53 1 (by simp) rfl).trans (hd ⟨1,.data⟩ (by simp) rfl)
   have e2 : A.eval (.tmp 62) = .bool true := (hT 62 10 (by simp) rfl).trans (hd ⟨10,.data⟩ (by simp) rfl)
   exact wp_pk rfl e1 (fun _ => e2) (by simp) ⟨_,rfl,rfl,Below.refl _ _⟩
  case o12 =>
   refine GdOp.plain rfl (fun A vs w' hF hT hb hd => ?_)
   have e1 : A.eval (.tmp 63) = .bool true := (hT 63 11 (by simp) rfl).trans (hd ⟨11,.data⟩ (by simp) rfl)
   exact BigFrame.wp_move _ rfl ⟨_,rfl,e1,Below.refl _ _⟩
  case o13 =>
   refine GdOp.taken rfl ⟨_,_,rfl,rfl,by simp⟩ (by kernel_rfl) (fun w v h => h) (fun A vs w' hF hT hb hd => ?_)
   have e1 : A.eval (.tmp 13) = .pointer (some ⟨wcA.heap.size,0,none⟩) := hF 13 rfl
   exact wp_loadQ (us := [.slice (aA 0) (mA 0) (cA 0),.slice (aA 1) (mA 1) (cA 1),.slice (aA 2) (mA 2) (cA 2),.slice (aA 3) (mA 3) (cA 3),.slice (aA 4) (mA 4) (cA 4),.slice (aA 5) (mA 5) (cA 5),.slice (aA 6) (mA 6) (cA 6),.slice (aA 7) (mA 7) (cA 7),.slice (aA 8) (mA 8) (cA 8),.slice (aA 9) (mA 9) (cA 9),.slice (aA 10) (mA 10) (cA 10),.slice (aA 11) (mA 11) (cA 11)]) stS7 rfl e1 (fun j v hj => by rw [Nat.zero_add]; exact (BoxN.below xA hb xA.lt).cell hj) ⟨_,rfl,rfl,Below.refl _ _⟩
  case o14 =>
   refine GdOp.taken rfl ⟨_,_,rfl,rfl,by simp⟩ (by kernel_rfl) (fun w v h => h) (fun A vs w' hF hT hb hd => ?_)
   have e1 : A.eval (.tmp 8) = .pointer (some ⟨w.heap.size + 1,0,none⟩) := hF 8 rfl
   exact wp_loadQ (us := [.int .i64 x.table,.slice xl x.lo.length xc,.slice xh x.hi.length xd,.bool x.isOpen]) spQ7 rfl e1 (fun j v hj => by rw [Nat.zero_add]; exact (Bx.below hb Bx.lt).cell hj) ⟨_,rfl,rfl,Below.refl _ _⟩
  case o15 =>
   refine GdOp.taken rfl ⟨_,_,rfl,rfl,by simp⟩ (by kernel_rfl) (fun w v h => h) (fun A vs w' hF hT hb hd => ?_)
   have e1 : A.eval (.tmp 4) = .int .i64 u := hF 4 rfl
   exact BigFrame.wp_move _ rfl ⟨_,rfl,e1,Below.refl _ _⟩
  case o16 =>
   refine GdOp.taken rfl ⟨_,_,rfl,rfl,by simp⟩ (by kernel_rfl) (fun w v h => h) (fun A vs w' hF hT hb hd => ?_)
   have e1 : A.eval (.tmp 65) = .agg #[.slice (aA 0) (mA 0) (cA 0),.slice (aA 1) (mA 1) (cA 1),.slice (aA 2) (mA 2) (cA 2),.slice (aA 3) (mA 3) (cA 3),.slice (aA 4) (mA 4) (cA 4),.slice (aA 5) (mA 5) (cA 5),.slice (aA 6) (mA 6) (cA 6),.slice (aA 7) (mA 7) (cA 7),.slice (aA 8) (mA 8) (cA 8),.slice (aA 9) (mA 9) (cA 9),.slice (aA 10) (mA 10) (cA 10),.slice (aA 11) (mA 11) (cA 11)] := (hT 65 13 (by simp) rfl).trans (hd ⟨13,.data⟩ (by simp) rfl)
   have e2 : A.eval (.tmp 66) = .agg #[.int .i64 x.table,.slice xl x.lo.length xc,.slice xh x.hi.length xd,.bool x.isOpen] := (hT 66 14 (by simp) rfl).trans (hd ⟨14,.data⟩ (by simp) rfl)
   have e3 : A.eval (.tmp 67) = .int .i64 u := (hT 67 15 (by simp) rfl).trans (hd ⟨15,.data⟩ (by simp) rfl)
   refine wp_callFn rfl eC (args := #[.agg #[.slice (aA 0) (mA 0) (cA 0),.slice (aA 1) (mA 1) (cA 1),.slice (aA 2) (mA 2) (cA 2),.slice (aA 3) (mA 3) (cA 3),.slice (aA 4) (mA 4) (cA 4),.slice (aA 5) (mA 5) (cA 5),.slice (aA 6) (mA 6) (cA 6),.slice (aA 7) (mA 7) (cA 7),.slice (aA 8) (mA 8) (cA 8),.slice (aA 9) (mA 9) (cA 9),.slice (aA 10) (mA 10) (cA 10),.slice (aA 11) (mA 11) (cA 11)],.agg #[.int .i64 x.table,.slice xl x.lo.length xc,.slice xh x.hi.length xd,.bool x.isOpen],.int .i64 u]) (by simp only [List.map_toArray,List.map_cons,List.map_nil,e1,e2,e3]) ((k3 w' hb).mono ?_)
   rintro e w2 ⟨rfl,hb2⟩
   exact ⟨_,rfl,_,rfl,rfl,hb2⟩
  case o17 =>
   refine GdOp.taken rfl ⟨_,_,rfl,rfl,by simp⟩ (by kernel_rfl) (fun w v h => h) (fun A vs w' hF hT hb hd => ?_)
   have e1 : A.eval (.tmp 5) = .pointer (some ⟨w.heap.size,0,none⟩) := hF 5 rfl
   exact wp_loadQ (us := [.slice (aS 0) (mS 0) (cS 0),.slice (aS 1) (mS 1) (cS 1),.slice (aS 2) (mS 2) (cS 2),.slice (aS 3) (mS 3) (cS 3),.slice (aS 4) (mS 4) (cS 4),.slice (aS 5) (mS 5) (cS 5),.slice (aS 6) (mS 6) (cS 6),.slice (aS 7) (mS 7) (cS 7),.slice (aS 8) (mS 8) (cS 8),.slice (aS 9) (mS 9) (cS 9),.slice (aS 10) (mS 10) (cS 10),.slice (aS 11) (mS 11) (cS 11)]) stS7 rfl e1 (fun j v hj => by rw [Nat.zero_add]; exact (BoxN.below Bs hb Bs.lt).cell hj) ⟨_,rfl,rfl,Below.refl _ _⟩
  case o18 =>
   refine GdOp.taken rfl ⟨_,_,rfl,rfl,by simp⟩ (by kernel_rfl) (fun w v h => h) (fun A vs w' hF hT hb hd => ?_)
   have e1 : A.eval (.tmp 8) = .pointer (some ⟨w.heap.size + 1,0,none⟩) := hF 8 rfl
   exact wp_loadQ (us := [.int .i64 x.table,.slice xl x.lo.length xc,.slice xh x.hi.length xd,.bool x.isOpen]) spQ7 rfl e1 (fun j v hj => by rw [Nat.zero_add]; exact (Bx.below hb Bx.lt).cell hj) ⟨_,rfl,rfl,Below.refl _ _⟩
  case o19 =>
   refine GdOp.taken rfl ⟨_,_,rfl,rfl,by simp⟩ (by kernel_rfl) (fun w v h => h) (fun A vs w' hF hT hb hd => ?_)
   have e1 : A.eval (.tmp 4) = .int .i64 u := hF 4 rfl
   exact BigFrame.wp_move _ rfl ⟨_,rfl,e1,Below.refl _ _⟩
  case o20 =>
   refine GdOp.taken rfl ⟨_,_,rfl,rfl,by simp⟩ (by kernel_rfl) (fun w v h => h) (fun A vs w' hF hT hb hd => ?_)
   have e1 : A.eval (.tmp 69) = .agg #[.slice (aS 0) (mS 0) (cS 0),.slice (aS 1) (mS 1) (cS 1),.slice (aS 2) (mS 2) (cS 2),.slice (aS 3) (mS 3) (cS 3),.slice (aS 4) (mS 4) (cS 4),.slice (aS 5) (mS 5) (cS 5),.slice (aS 6) (mS 6) (cS 6),.slice (aS 7) (mS 7) (cS 7),.slice (aS 8) (mS 8) (cS 8),.slice (aS 9) (mS 9) (cS 9),.slice (aS 10) (mS 10) (cS 10),.slice (aS 11) (mS 11) (cS 11)] := (hT 69 17 (by simp) rfl).trans (hd ⟨17,.data⟩ (by simp) rfl)
   have e2 : A.eval (.tmp 70) = .agg #[.int .i64 x.table,.slice xl x.lo.length xc,.slice xh x.hi.length xd,.bool x.isOpen] := (hT 70 18 (by simp) rfl).trans (hd ⟨18,.data⟩ (by simp) rfl)
   have e3 : A.eval (.tmp 71) = .int .i64 u := (hT 71 19 (by simp) rfl).trans (hd ⟨19,.data⟩ (by simp) rfl)
   refine wp_callFn rfl eC (args := #[.agg #[.slice (aS 0) (mS 0) (cS 0),.slice (aS 1) (mS 1) (cS 1),.slice (aS 2) (mS 2) (cS 2),.slice (aS 3) (mS 3) (cS 3),.slice (aS 4) (mS 4) (cS 4),.slice (aS 5) (mS 5) (cS 5),.slice (aS 6) (mS 6) (cS 6),.slice (aS 7) (mS 7) (cS 7),.slice (aS 8) (mS 8) (cS 8),.slice (aS 9) (mS 9) (cS 9),.slice (aS 10) (mS 10) (cS 10),.slice (aS 11) (mS 11) (cS 11)],.agg #[.int .i64 x.table,.slice xl x.lo.length xc,.slice xh x.hi.length xd,.bool x.isOpen],.int .i64 u]) (by simp only [List.map_toArray,List.map_cons,List.map_nil,e1,e2,e3]) ((k4 w' hb).mono ?_)
   rintro e w2 ⟨rfl,hb2⟩
   exact ⟨_,rfl,_,rfl,rfl,hb2⟩
  case o21 =>
   refine GdOp.taken rfl ⟨_,_,rfl,rfl,by simp⟩ (by kernel_rfl) (fun w v h => h) (fun A vs w' hF hT hb hd => ?_)
   have e1 : A.eval (.tmp 68) = .bool nw := (hT 68 16 (by simp) rfl).trans (hd ⟨16,.data⟩ (by simp) rfl)
   have e2 : A.eval (.tmp 72) = .bool nw := (hT 72 20 (by simp) rfl).trans (hd ⟨20,.data⟩ (by simp) rfl)
   exact wp_eqlB (by kernel_rfl) rfl e1 e2 ⟨_,rfl,congrArg Value.bool (beq_self_eq_true _),Below.refl _ _⟩
  case o22 =>
   refine GdOp.plain rfl (fun A vs w' hF hT hb hd => ?_)
   have e1 : A.eval (.tmp 64) = .bool true := (hT 64 12 (by simp) rfl).trans (hd ⟨12,.data⟩ (by simp) rfl)
   have e2 : A.eval (.tmp 73) = .bool true := (hT 73 21 (by simp) rfl).trans (hd ⟨21,.data⟩ (by simp) rfl)
   exact wp_pk rfl e1 (fun _ => e2) (by simp) ⟨_,rfl,rfl,Below.refl _ _⟩
  case o23 =>
   refine GdOp.plain rfl (fun A vs w' hF hT hb hd => ?_)
   have e1 : A.eval (.tmp 74) = .bool true := (hT 74 22 (by simp) rfl).trans (hd ⟨22,.data⟩ (by simp) rfl)
   exact BigFrame.wp_assign _ rfl ⟨_,rfl,e1,Below.refl _ _⟩
  case fin =>
  intro A9 vs9 W8 hA9 hb9 hG9
  have e8 : A9.eval (.tmp 10) = .bool true := (hA9.2.2.2 10 23 (by simp) rfl).trans (hG9 23 (by decide))
  have hd9 : A9.defers = [] := hA9.1
  clear hG9 hA9
  go_wp2
  refine bodyPost_ret (v := .bool true) ?_ hd9 ⟨rfl,q.trans (hb9.mono q.size)⟩
  rw [← e8]
  exact results_tmp rfl _ _ _
end Go.Proofs.YtlpfhgdnmjkngaaGreat
