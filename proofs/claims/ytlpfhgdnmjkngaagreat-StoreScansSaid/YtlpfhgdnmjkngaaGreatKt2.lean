/-
  TEXTS OF ONE PROOF, merged: StoreScansW.
-/
import Derived.Test.YtlpfhgdnmjkngaaGreatKr1
import Derived.Test.YtlpfhgdnmjkngaaGreatKr2
import Derived.Test.YtlpfhgdnmjkngaaGreatKr3
import Derived.Test.YtlpfhgdnmjkngaaGreatKr4
import Derived.Test.YtlpfhgdnmjkngaaGreatKr5
import Derived.Test.YtlpfhgdnmjkngaaGreatKr6
import Derived.Test.YtlpfhgdnmjkngaaGreatKr7
import Derived.Test.YtlpfhgdnmjkngaaGreatKr8
import Derived.Test.YtlpfhgdnmjkngaaGreatKr9
import Derived.Test.YtlpfhgdnmjkngaaGreatKr10
import Derived.Test.YtlpfhgdnmjkngaaGreatKr11
import Derived.Test.YtlpfhgdnmjkngaaGreatKr12
import Derived.Test.YtlpfhgdnmjkngaaGreatKr13
import Derived.Test.YtlpfhgdnmjkngaaGreatKr14
import Derived.Test.YtlpfhgdnmjkngaaGreatKr15
import Derived.Test.YtlpfhgdnmjkngaaGreatKr16
import Derived.Test.YtlpfhgdnmjkngaaGreatKr17
import Derived.Test.YtlpfhgdnmjkngaaGreatKt1
namespace Go.Proofs.YtlpfhgdnmjkngaaGreat
open Go.RowKit Go.Shelf
set_option maxRecDepth 100000 in
set_option maxHeartbeats 16000000 in
theorem StoreScans_w (w : World) {cs0 cs1 : Array Value} {u : Int} {T : Sto} {x : Sp} {A : Option Addr} {n C : Nat} {k : List UInt8} (h0 : RdSt (· < w.heap.size) w (.agg cs0) T) (h1 : RdSp (· < w.heap.size) w (.agg cs1) x) (h2 : Rd w.heap.size w (.slice A n C) k) (h3 : (Lit.int .i64 u).wf = true) :
  Calls Tryz.prog 6 #[.agg cs0,.agg cs1,.slice A n C,.int .i64 u] w fun e w' => e = .returned (.bool true) ∧ Below w.heap.size w w' := by
 have _ := h3
 have hks := h2.s
 obtain rfl : n = k.length := hks.len.1
 have hd := h0
 obtain ⟨aS,mS,cS,e,hS0⟩ := h0
 injection e with e
 subst e
 clear hS0
 have hx := h1
 obtain ⟨xl,xc,xh,xd,e,hl0,hh0,hxt⟩ := h1
 injection e with e
 subst e
 obtain ⟨W0,hW,q,Bs,Bx,hsz⟩ := stBoxes w 29 32 [.slice (aS 0) (mS 0) (cS 0),.slice (aS 1) (mS 1) (cS 1),.slice (aS 2) (mS 2) (cS 2),.slice (aS 3) (mS 3) (cS 3),.slice (aS 4) (mS 4) (cS 4),.slice (aS 5) (mS 5) (cS 5),.slice (aS 6) (mS 6) (cS 6),.slice (aS 7) (mS 7) (cS 7),.slice (aS 8) (mS 8) (cS 8),.slice (aS 9) (mS 9) (cS 9),.slice (aS 10) (mS 10) (cS 10),.slice (aS 11) (mS 11) (cS 11)] [.int .i64 x.table,.slice xl x.lo.length xc,.slice xh x.hi.length xd,.bool x.isOpen]
 clear hsz
 replace Bs : StB W0 w.heap.size aS mS cS := Bs
 go_enter Tryz.func6,Tryz.ntmps6
 go_upto_region 1 with (fail)
 rw [show (w.alloc (.cells #[.slice (aS 0) (mS 0) (cS 0),.slice (aS 1) (mS 1) (cS 1),.slice (aS 2) (mS 2) (cS 2),.slice (aS 3) (mS 3) (cS 3),.slice (aS 4) (mS 4) (cS 4),.slice (aS 5) (mS 5) (cS 5),.slice (aS 6) (mS 6) (cS 6),.slice (aS 7) (mS 7) (cS 7),.slice (aS 8) (mS 8) (cS 8),.slice (aS 9) (mS 9) (cS 9),.slice (aS 10) (mS 10) (cS 10),.slice (aS 11) (mS 11) (cS 11)] 29)).alloc (.cells #[.int .i64 x.table,.slice xl x.lo.length xc,.slice xh x.hi.length xd,.bool x.isOpen] 32) = W0 from hW.symm]
 clear hW
 go_wp2_with fail
 refine (awake7_any W0).mono ?_
 rintro e w1 ⟨rfl,hb⟩
 replace Bs := Bs.below hb Bs.lt
 replace Bx := Bx.below hb Bx.lt
 replace q := q.trans (hb.mono q.size)
 clear hb
 obtain ⟨d0,d1,d2,d3,d4,d5,d6,d7,d8,d9,d10,d11⟩ := Bs.c12
 have hcl := refSmallS_any _ (hd.below q)
 go_wp2_with fail
 refine hcl.mono ?_
 rintro e ws1 ⟨rfl,hb⟩
 clear hcl d0 d1 d2 d3 d4 d5 d6 d7 d8 d9 d10 d11
 replace Bs := Bs.below hb Bs.lt
 replace Bx := Bx.below hb Bx.lt
 replace q := q.trans (hb.mono q.size)
 clear hb
 by_cases hs : smallS T
 case neg =>
  rw [decide_eq_false hs]
  go_wp2_with fail
  go_ret
  exact ⟨rfl,q⟩
 rw [decide_eq_true hs]
 obtain ⟨b0,b1,b2,b3⟩ := Bx.c4
 have hcl := short7_any _ (hx.below q)
 go_wp2_with fail
 refine hcl.mono ?_
 rintro e wh ⟨rfl,hb⟩
 clear hcl b0 b1 b2 b3
 replace Bs := Bs.below hb Bs.lt
 replace Bx := Bx.below hb Bx.lt
 replace q := q.trans (hb.mono q.size)
 clear hb
 by_cases hsh : shS x
 case neg =>
  rw [decide_eq_false hsh]
  go_wp2_with fail
  go_ret
  exact ⟨rfl,q⟩
 rw [decide_eq_true hsh]
 clear hsh
 by_cases g1 : 100 < k.length
 case pos =>
  have z1 : decide ((100 : Int) < (k.length : Int)) = true := decide_eq_true (by omega)
  go_wp2_with fail
  go_ret
  exact ⟨rfl,q⟩
 have z1 : decide ((100 : Int) < (k.length : Int)) = false := decide_eq_false (by omega)
 clear g1
 obtain ⟨b0,b1,b2,b3⟩ := Bx.c4
 have cvk := run_conv byP (hks.below q).rd
 have cvl := run_conv byP (hl0.below q).rd
 have cvh := run_conv byP (hh0.below q).rd
 cases hlo : ltB k x.lo with
 | true =>
  have y0 : Op.bytesLess (strOf k).toList (strOf x.lo).toList = true := str_lt7.trans hlo
  go_wp2_with (first | rw [cvk] | rw [cvl] | rw [cvh] | fail)
  go_ret
  exact ⟨rfl,q⟩
 | false =>
 have y0 : Op.bytesLess (strOf k).toList (strOf x.lo).toList = false := str_lt7.trans hlo
 cases hop : x.isOpen with
 | true =>
  rw [hop] at b3
  have hhi : x.isOpen = true ∨ ltB x.hi k = false := .inl hop
  clear hop
  replace hhi := Lib.hid hhi
  replace hlo := Lib.hid hlo
  go_upto_region 4 with (first | rw [cvk] | rw [cvl] | rw [cvh] | fail)
  clear b0 b1 b2 b3 cvk cvl cvh y0 z1
  replace hhi := hhi.out
  replace hlo := hlo.out
  obtain ⟨L,hLe⟩ : ∃ l,l = scanP (pickS T x.table) x u := ⟨_,rfl⟩
  obtain ⟨LA,hLAe⟩ : ∃ l,l = scanP (pickS T x.table) ⟨x.table,x.lo,k,false⟩ u := ⟨_,rfl⟩
  obtain ⟨LB,hLBe⟩ : ∃ l,l = scanP (pickS T x.table) ⟨x.table,k,x.hi,x.isOpen⟩ u := ⟨_,rfl⟩
  have hsum := Lib.hid (show L = LA ++ LB from by rw [hLe,hLAe,hLBe]; exact scan_cut hlo hhi (pickS_srt T _))
  have hsrt := Lib.hid (show L.Pairwise (fun a b => ltB a.key b.key = true) from by rw [hLe]; exact scan_srt (pickS_srt T _))
  have hgt := Lib.hid (show ∀ y ∈ L,getP (pickS T x.table) y.key u = some y.val from fun y hy => by rw [hLe] at hy; exact scan_mem (pickS_srt T _) hy)
  have hLs := Lib.hid (show L.length ≤ 60 from by rw [hLe]; exact scan_few T x u)
  replace hLe := Lib.hid hLe
  replace hLAe := Lib.hid hLAe
  replace hLBe := Lib.hid hLBe
  clear hlo hhi
  go_upto_region 4 with (fail)
  obtain ⟨d0,d1,d2,d3,d4,d5,d6,d7,d8,d9,d10,d11⟩ := Bs.c12
  obtain ⟨b0,b1,b2,b3⟩ := Bx.c4
  have hcl := sScan_any _ (T := T) (x := x) (s := u) (hd.below q) (smallS_fit hs) (hx.below q)
  rw [show scanP (pickS T (Sp.table x)) x u = L from hLe.out.symm] at hcl
  go_wp2_with fail
  refine hcl.mono ?_
  rintro e wnL ⟨aL,cL,rfl,rrL,hb⟩
  clear hcl d0 d1 d2 d3 d4 d5 d6 d7 d8 d9 d10 d11 b0 b1 b2 b3
  replace Bs := Bs.below hb Bs.lt
  replace Bx := Bx.below hb Bx.lt
  replace q := q.trans (hb.mono q.size)
  clear hb
  replace rrL : RdL Elt.pq (fun _ => True) wnL _ _ := rrL.weak fun _ _ => trivial
  go_upto_region 5 with (fail)
  obtain ⟨d0,d1,d2,d3,d4,d5,d6,d7,d8,d9,d10,d11⟩ := Bs.c12
  obtain ⟨b0,b1,b2,b3⟩ := Bx.c4
  have hcl := sScan_any _ (T := T) (x := ⟨x.table,x.lo,k,false⟩) (s := u) (hd.below q) (smallS_fit hs) (S2 := fun _ => True) ⟨_,_,_,_,rfl,(hl0.below q).weak fun _ _ => trivial,(hks.below q).weak fun _ _ => trivial,hxt⟩
  rw [show scanP (pickS T (Sp.table ⟨x.table,x.lo,k,false⟩)) ⟨x.table,x.lo,k,false⟩ u = LA from hLAe.out.symm] at hcl
  go_wp2_with fail
  refine hcl.mono ?_
  rintro e wnA ⟨aA,cA,rfl,rrA,hb⟩
  clear hcl d0 d1 d2 d3 d4 d5 d6 d7 d8 d9 d10 d11 b0 b1 b2 b3
  replace Bs := Bs.below hb Bs.lt
  replace Bx := Bx.below hb Bx.lt
  replace rrL := rrL.below hb
  replace q := q.trans (hb.mono q.size)
  clear hb
  replace rrA : RdL Elt.pq (fun _ => True) wnA _ _ := rrA.weak fun _ _ => trivial
  go_upto_region 6 with (fail)
  obtain ⟨d0,d1,d2,d3,d4,d5,d6,d7,d8,d9,d10,d11⟩ := Bs.c12
  obtain ⟨b0,b1,b2,b3⟩ := Bx.c4
  have hcl := sScan_any _ (T := T) (x := ⟨x.table,k,x.hi,x.isOpen⟩) (s := u) (hd.below q) (smallS_fit hs) (S2 := fun _ => True) ⟨_,_,_,_,rfl,(hks.below q).weak fun _ _ => trivial,(hh0.below q).weak fun _ _ => trivial,hxt⟩
  rw [show scanP (pickS T (Sp.table ⟨x.table,k,x.hi,x.isOpen⟩)) ⟨x.table,k,x.hi,x.isOpen⟩ u = LB from hLBe.out.symm] at hcl
  go_wp2_with fail
  refine hcl.mono ?_
  rintro e wnB ⟨aB,cB,rfl,rrB,hb⟩
  clear hcl d0 d1 d2 d3 d4 d5 d6 d7 d8 d9 d10 d11 b0 b1 b2 b3
  replace Bs := Bs.below hb Bs.lt
  replace Bx := Bx.below hb Bx.lt
  replace rrL := rrL.below hb
  replace rrA := rrA.below hb
  replace q := q.trans (hb.mono q.size)
  clear hb
  replace rrB : RdL Elt.pq (fun _ => True) wnB _ _ := rrB.weak fun _ _ => trivial
  go_upto_region 7 with (fail)
  obtain ⟨V,hV⟩ : ∃ V,V = wnB := ⟨_,rfl⟩
  rw [← hV] at q Bs Bx rrL rrA rrB
  rw [← hV]
  clear hV hLe hLAe hLBe
  have eG : ∀ args w,(callFunc 16 args).run Tryz.prog w = .ok (.enter 16 args) w := enters_of Tryz.func16 (by kernel_rfl) rfl
  go_upto_region 8 with (fail)
  have hLm : L.length ≤ 9223372036854775807 := by obtain ⟨_,hc,hm⟩ := rrL.len; unfold maxLen at hm; omega
  go_loopw [13] (fun iv wr => ∃ i : Nat,iv = .int .i64 (i : Int) ∧ i ≤ L.length ∧ Below V.heap.size V wr) (fun iv _ => L.length - (intOf iv).toNat)
  case atStart => exact ⟨0,rfl,Nat.zero_le _,Below.refl _ _⟩
  case round =>
  obtain ⟨i,rfl,hil,q2⟩ := hrel
  rcases Nat.lt_or_ge i L.length with hlt | hge
  ·have hz : decide ((i : Int) < (L.length : Int)) = true := decide_eq_true (by omega)
   have hdW := (hd.below q).below q2
   replace Bs := Bs.below q2 Bs.lt
   replace Bx := Bx.below q2 Bx.lt
   obtain ⟨b,off,A1,C1,A2,C2,eL,hb0,g0,g1,hk1,hk2⟩ := (rrL.below q2).pq i hlt
   subst eL
   clear hb0
   obtain ⟨b0,b1,b2,b3⟩ := Bx.c4
   clear b1 b2 b3
   go_upto_region 10 with (fail)
   refine wp_region_gsg (by kernel_rfl) (by kernel_rfl) [sgEq (.agg #[.slice (aS 0) (mS 0) (cS 0),.slice (aS 1) (mS 1) (cS 1),.slice (aS 2) (mS 2) (cS 2),.slice (aS 3) (mS 3) (cS 3),.slice (aS 4) (mS 4) (cS 4),.slice (aS 5) (mS 5) (cS 5),.slice (aS 6) (mS 6) (cS 6),.slice (aS 7) (mS 7) (cS 7),.slice (aS 8) (mS 8) (cS 8),.slice (aS 9) (mS 9) (cS 9),.slice (aS 10) (mS 10) (cS 10),.slice (aS 11) (mS 11) (cS 11)]),sgEq (.pointer (some ⟨w.heap.size + 1,0,none⟩)),sgEq (.int .i64 x.table),sgEq (.slice (some ⟨b,off,none⟩) L.length cL),sgEq (.int .i64 (i : Int)),sgEq (.pointer (some ⟨b,off + i * 2,none⟩)),sgEq (.pointer (some ⟨b,off + i * 2,none⟩)),sgEq (.slice A1 L[i].key.length C1),sgEq (.int .i64 u),sgVt L[i].val,sgVt L[i].val,sgVb L[i].val,sgEq (.bool true),sgVb L[i].val,sgEq (.bool true)]
    ⟨?o0,?o1,?o2,?o3,?o4,?o5,?o6,?o7,?o8,?o9,?o10,?o11,?o12,?o13,?o14,trivial⟩ ?fin
   case o0 =>
    refine GdOp.plain rfl (fun A vs w' hF hT hb hd => ?_)
    have e1 : A.eval (.tmp 4) = .pointer (some ⟨w.heap.size,0,none⟩) := hF 4 rfl
    exact wp_loadQ (us := [.slice (aS 0) (mS 0) (cS 0),.slice (aS 1) (mS 1) (cS 1),.slice (aS 2) (mS 2) (cS 2),.slice (aS 3) (mS 3) (cS 3),.slice (aS 4) (mS 4) (cS 4),.slice (aS 5) (mS 5) (cS 5),.slice (aS 6) (mS 6) (cS 6),.slice (aS 7) (mS 7) (cS 7),.slice (aS 8) (mS 8) (cS 8),.slice (aS 9) (mS 9) (cS 9),.slice (aS 10) (mS 10) (cS 10),.slice (aS 11) (mS 11) (cS 11)]) stS7 rfl e1 (fun j v hj => by rw [Nat.zero_add]; exact (BoxN.below Bs hb Bs.lt).cell hj) ⟨_,rfl,rfl,Below.refl _ _⟩
   case o1 =>
    refine GdOp.plain rfl (fun A vs w' hF hT hb hd => ?_)
    have e1 : A.eval (.tmp 5) = .pointer (some ⟨w.heap.size + 1,0,none⟩) := hF 5 rfl
    exact wp_fieldN spS7 rfl (e1) (by omega) ⟨_,rfl,rfl,Below.refl _ _⟩
   case o2 =>
    refine GdOp.plain rfl (fun A vs w' hF hT hb hd => ?_)
    have e1 : A.eval (.tmp 85) = .pointer (some ⟨w.heap.size + 1,0,none⟩) := (hT 85 1 (by simp) rfl).trans (hd ⟨1,.data⟩ (by simp) rfl)
    exact wp_ld_int (k := .i64) rfl e1 (by kernel_rfl) (((hb.cell (p := ⟨_,_,none⟩) (cell_lt b0)).trans b0)) ⟨_,rfl,rfl,Below.refl _ _⟩
   case o3 =>
    refine GdOp.plain rfl (fun A vs w' hF hT hb hd => ?_)
    have e1 : A.eval (.tmp 10) = .slice (some ⟨b,off,none⟩) L.length cL := hF 10 rfl
    exact BigFrame.wp_move _ rfl ⟨_,rfl,e1,Below.refl _ _⟩
   case o4 =>
    refine GdOp.plain rfl (fun A vs w' hF hT hb hd => ?_)
    have e1 : A.eval (.tmp 13) = .int .i64 (i : Int) := hF 13 rfl
    exact BigFrame.wp_move _ rfl ⟨_,rfl,e1,Below.refl _ _⟩
   case o5 =>
    refine GdOp.plain rfl (fun A vs w' hF hT hb hd => ?_)
    have e1 : A.eval (.tmp 87) = .slice (some ⟨b,off,none⟩) L.length cL := (hT 87 3 (by simp) rfl).trans (hd ⟨3,.data⟩ (by simp) rfl)
    have e2 : A.eval (.tmp 88) = .int .i64 (i : Int) := (hT 88 4 (by simp) rfl).trans (hd ⟨4,.data⟩ (by simp) rfl)
    exact wp_ixN (e := 60) rfl (by kernel_rfl) (by kernel_rfl) (e1) (e2) rfl (by omega) ⟨_,rfl,rfl,Below.refl _ _⟩
   case o6 =>
    refine GdOp.plain rfl (fun A vs w' hF hT hb hd => ?_)
    have e1 : A.eval (.tmp 89) = .pointer (some ⟨b,off + i * 2,none⟩) := (hT 89 5 (by simp) rfl).trans (hd ⟨5,.data⟩ (by simp) rfl)
    exact wp_fieldN pqS rfl (e1) (by omega) ⟨_,rfl,rfl,Below.refl _ _⟩
   case o7 =>
    refine GdOp.plain rfl (fun A vs w' hF hT hb hd => ?_)
    have e1 : A.eval (.tmp 90) = .pointer (some ⟨b,off + i * 2,none⟩) := (hT 90 6 (by simp) rfl).trans (hd ⟨6,.data⟩ (by simp) rfl)
    exact wp_ld_slice (e := 5) rfl e1 (by kernel_rfl) (((hb.cell (p := ⟨_,_,none⟩) (cell_lt g0)).trans g0)) ⟨_,rfl,rfl,Below.refl _ _⟩
   case o8 =>
    refine GdOp.plain rfl (fun A vs w' hF hT hb hd => ?_)
    have e1 : A.eval (.tmp 3) = .int .i64 u := hF 3 rfl
    exact BigFrame.wp_move _ rfl ⟨_,rfl,e1,Below.refl _ _⟩
   case o9 =>
    refine GdOp.plain rfl (fun A vs w' hF hT hb hd => ?_)
    have e1 : A.eval (.tmp 84) = .agg #[.slice (aS 0) (mS 0) (cS 0),.slice (aS 1) (mS 1) (cS 1),.slice (aS 2) (mS 2) (cS 2),.slice (aS 3) (mS 3) (cS 3),.slice (aS 4) (mS 4) (cS 4),.slice (aS 5) (mS 5) (cS 5),.slice (aS 6) (mS 6) (cS 6),.slice (aS 7) (mS 7) (cS 7),.slice (aS 8) (mS 8) (cS 8),.slice (aS 9) (mS 9) (cS 9),.slice (aS 10) (mS 10) (cS 10),.slice (aS 11) (mS 11) (cS 11)] := (hT 84 0 (by simp) rfl).trans (hd ⟨0,.data⟩ (by simp) rfl)
    have e2 : A.eval (.tmp 86) = .int .i64 x.table := (hT 86 2 (by simp) rfl).trans (hd ⟨2,.data⟩ (by simp) rfl)
    have e3 : A.eval (.tmp 91) = .slice A1 L[i].key.length C1 := (hT 91 7 (by simp) rfl).trans (hd ⟨7,.data⟩ (by simp) rfl)
    have e4 : A.eval (.tmp 92) = .int .i64 u := (hT 92 8 (by simp) rfl).trans (hd ⟨8,.data⟩ (by simp) rfl)
    refine wp_callFn rfl eG (args := #[.agg #[.slice (aS 0) (mS 0) (cS 0),.slice (aS 1) (mS 1) (cS 1),.slice (aS 2) (mS 2) (cS 2),.slice (aS 3) (mS 3) (cS 3),.slice (aS 4) (mS 4) (cS 4),.slice (aS 5) (mS 5) (cS 5),.slice (aS 6) (mS 6) (cS 6),.slice (aS 7) (mS 7) (cS 7),.slice (aS 8) (mS 8) (cS 8),.slice (aS 9) (mS 9) (cS 9),.slice (aS 10) (mS 10) (cS 10),.slice (aS 11) (mS 11) (cS 11)],.int .i64 x.table,.slice A1 L[i].key.length C1,.int .i64 u]) (by simp only [List.map_toArray,List.map_cons,List.map_nil,e1,e2,e3,e4]) ((sGet_any w' (T := T) (t := x.table) (s := u) (hdW.below hb) (smallS_fit hs) (hk1.below hb)).mono ?_)
    rintro e w2 h9
    obtain ⟨a9,c9,rfl,ho9,hb2⟩ := h9.got (hgt.out _ (List.getElem_mem hlt))
    exact ⟨_,rfl,_,rfl,⟨a9,c9,rfl,ho9⟩,hb2⟩
   case o10 =>
    refine GdOp.plain rfl (fun A vs w' hF hT hb hd => ?_)
    obtain ⟨a1,c1,q1,hr1⟩ := hd ⟨9,.data⟩ (by simp) rfl
    exact BigFrame.wp_move _ rfl ⟨_,rfl,⟨a1,c1,(hT 93 9 (by simp) rfl).trans q1,hr1⟩,Below.refl _ _⟩
   case o11 =>
    refine GdOp.plain rfl (fun A vs w' hF hT hb hd => ?_)
    obtain ⟨a1,c1,q1,hr1⟩ := hd ⟨10,.data⟩ (by simp) rfl
    have e1 : A.eval (.tmp 83) = .tuple #[.slice a1 L[i].val.length c1,.bool true] := (hT 83 10 (by simp) rfl).trans q1
    exact wp_ex rfl e1 rfl ⟨_,rfl,⟨a1,c1,rfl,hr1⟩,Below.refl _ _⟩
   case o12 =>
    refine GdOp.plain rfl (fun A vs w' hF hT hb hd => ?_)
    obtain ⟨a1,c1,q1,hr1⟩ := hd ⟨10,.data⟩ (by simp) rfl
    have e1 : A.eval (.tmp 83) = .tuple #[.slice a1 L[i].val.length c1,.bool true] := (hT 83 10 (by simp) rfl).trans q1
    exact wp_ex rfl e1 rfl ⟨_,rfl,rfl,Below.refl _ _⟩
   case o13 =>
    refine GdOp.plain rfl (fun A vs w' hF hT hb hd => ?_)
    obtain ⟨a1,c1,q1,hr1⟩ := hd ⟨11,.data⟩ (by simp) rfl
    exact BigFrame.wp_assign _ rfl ⟨_,rfl,⟨a1,c1,(hT 94 11 (by simp) rfl).trans q1,hr1⟩,Below.refl _ _⟩
   case o14 =>
    refine GdOp.plain rfl (fun A vs w' hF hT hb hd => ?_)
    have e1 : A.eval (.tmp 95) = .bool true := (hT 95 12 (by simp) rfl).trans (hd ⟨12,.data⟩ (by simp) rfl)
    exact BigFrame.wp_assign _ rfl ⟨_,rfl,e1,Below.refl _ _⟩
   case fin =>
   intro vs9 W9 hb9 hG9
   have e0 : vs9 0 = .agg #[.slice (aS 0) (mS 0) (cS 0),.slice (aS 1) (mS 1) (cS 1),.slice (aS 2) (mS 2) (cS 2),.slice (aS 3) (mS 3) (cS 3),.slice (aS 4) (mS 4) (cS 4),.slice (aS 5) (mS 5) (cS 5),.slice (aS 6) (mS 6) (cS 6),.slice (aS 7) (mS 7) (cS 7),.slice (aS 8) (mS 8) (cS 8),.slice (aS 9) (mS 9) (cS 9),.slice (aS 10) (mS 10) (cS 10),.slice (aS 11) (mS 11) (cS 11)] := hG9 0 (by decide)
   have e1 : vs9 1 = .pointer (some ⟨w.heap.size + 1,0,none⟩) := hG9 1 (by decide)
   have e2 : vs9 2 = .int .i64 x.table := hG9 2 (by decide)
   have e3 : vs9 3 = .slice (some ⟨b,off,none⟩) L.length cL := hG9 3 (by decide)
   have e4 : vs9 4 = .int .i64 (i : Int) := hG9 4 (by decide)
   have e5 : vs9 5 = .pointer (some ⟨b,off + i * 2,none⟩) := hG9 5 (by decide)
   have e6 : vs9 6 = .pointer (some ⟨b,off + i * 2,none⟩) := hG9 6 (by decide)
   have e7 : vs9 7 = .slice A1 L[i].key.length C1 := hG9 7 (by decide)
   have e8 : vs9 8 = .int .i64 u := hG9 8 (by decide)
   obtain ⟨gx9,gy9,e9,_⟩ := hG9 9 (by decide)
   obtain ⟨gx10,gy10,e10,_⟩ := hG9 10 (by decide)
   obtain ⟨gx11,gy11,e11,_⟩ := hG9 11 (by decide)
   have e12 : vs9 12 = .bool true := hG9 12 (by decide)
   obtain ⟨gx13,gy13,e13,rv⟩ := hG9 13 (by decide)
   have e14 : vs9 14 = .bool true := hG9 14 (by decide)
   simp only [putAll,e0,e1,e2,e3,e4,e5,e6,e7,e8,e9,e10,e11,e12,e13,e14]
   clear hG9 e0 e1 e2 e3 e4 e5 e6 e7 e8 e9 e10 e11 e12 e13 e14
   clear g0 g1 hk1 hk2 b0
   replace q2 := q2.trans (hb9.mono q2.size)
   clear hb9
   go_simp
   go_upto_region 11 with (fail)
   obtain ⟨b',off',A1,C1,A2,C2,eL,hb0,g0,g1,hk1,hk2⟩ := (rrL.below q2).pq i hlt
   injection eL with eL
   injection eL with eb eo _
   subst eb eo
   clear hb0
   have r1 := hk1.rd
   have r2 := hk2.rd
   have r3 := rv.rd
   have d0 : ((strOf L[i].val).toList == (strOf L[i].val).toList) = true := beq_self_eq_true _
   cases i with
   | zero =>
    simp only [Nat.zero_mul,Nat.add_zero] at g0 g1
    refine wp_region_quiet_lit (by kernel_rfl) (by kernel_rfl) ?_
    repeat (first | go_big_quiet_step (fail) | (go_big_quiet_want; refine quiet_conv byP rfl rfl r3 ?_; go_big_quiet_on; go_simp) | (go_big_quiet_want; refine quiet_conv byP rfl rfl r2 ?_; go_big_quiet_on; go_simp) | (go_big_quiet_want; refine quiet_conv byP rfl rfl r1 ?_; go_big_quiet_on; go_simp))
    first | (refine wpQuiet_nil ?_; intro _ hw'; obtain ⟨nq,hw''⟩ := hw'; subst hw'') | intro nq
    go_wp2_with fail
    go_roundw
    case rel => exact ⟨1,by go_num,by omega,Below.drewN q2 _⟩
    case measure => simp [intOf]; omega
   | succ i =>
    have hlt' : i < L.length := by omega
    obtain ⟨b',off',A0,C0,A3,C3,eL,hb0,f0,f1,hk3,hk4⟩ := (rrL.below q2).pq i hlt'
    injection eL with eL
    injection eL with eb eo _
    subst eb eo
    clear hb0
    have r4 := hk3.rd
    have e1 : ((i + 1 : Nat) : Int) - 1 = (i : Int) := by omega
    have dl : ltB L[i].key L[i + 1].key = true := List.pairwise_iff_getElem.1 hsrt.out i (i + 1) hlt' hlt (by omega)
    have d4 : Op.bytesLess (strOf L[i].key).toList (strOf L[i + 1].key).toList = true := str_lt7.trans dl
    clear dl
    refine wp_region_quiet_lit (by kernel_rfl) (by kernel_rfl) ?_
    repeat (first | go_big_quiet_step (fail) | (go_big_quiet_want; refine quiet_conv byP rfl rfl r3 ?_; go_big_quiet_on; go_simp) | (go_big_quiet_want; refine quiet_conv byP rfl rfl r2 ?_; go_big_quiet_on; go_simp) | (go_big_quiet_want; refine quiet_conv byP rfl rfl r4 ?_; go_big_quiet_on; go_simp) | (go_big_quiet_want; refine quiet_conv byP rfl rfl r1 ?_; go_big_quiet_on; go_simp))
    first | (refine wpQuiet_nil ?_; intro _ hw'; obtain ⟨nq,hw''⟩ := hw'; subst hw'') | intro nq
    go_wp2_with fail
    go_roundw
    case rel => exact ⟨i + 2,by go_num,by omega,Below.drewN q2 _⟩
    case measure => simp [intOf]; omega
  ·obtain rfl : i = L.length := by omega
   have hz : decide ((L.length : Int) < (L.length : Int)) = false := decide_eq_false (by omega)
   replace Bs := Bs.below q2 Bs.lt
   replace Bx := Bx.below q2 Bx.lt
   replace rrL := rrL.below q2
   replace rrA := rrA.below q2
   replace rrB := rrB.below q2
   replace q := q.trans (q2.mono q.size)
   clear q2 hge hil
   go_upto_region 13 with (fail)
   obtain ⟨U,hU⟩ : ∃ V,V = wr := ⟨_,rfl⟩
   rw [← hU] at q rrL rrA rrB
   rw [← hU]
   clear hU
   have rL : RdL Elt.pq (· < U.heap.size) U _ _ := rrL.fit.weak fun k hk => hk.2
   have rA : RdL Elt.pq (· < U.heap.size) U _ _ := rrA.fit.weak fun k hk => hk.2
   have rB : RdL Elt.pq (· < U.heap.size) U _ _ := rrB.fit.weak fun k hk => hk.2
   have hlA : LA.length + LB.length = L.length := by rw [hsum.out,List.length_append]
   have hL60 := hLs.out
   clear rrL rrA rrB
   go_wp2_with (first
    | (refine wpList_buildZero (E := Elt.pq) pqP rfl rfl ?_; intro w5 hb5 hO5)
    | (refine wpList_append_zeroL (E := Elt.pq) pqP rfl rfl rfl (hO5.to (Nat.le_refl _) (Nat.zero_le _)) rfl ((rA.below hb5).weak fun k hk => hk) (fun k hk => ⟨Nat.zero_le _,Nat.lt_of_lt_of_le hk hb5.size⟩) hb5.size ?_ (by omega); intro ad6 k6 c6 w6 hO6 hb6)
    | (refine wpList_appendRL (E := Elt.pq) pqP rfl rfl rfl hO6 rfl ((rB.below hb5).below hb6) (fun k hk => ⟨Nat.zero_le _,Nat.lt_of_lt_of_le hk (Nat.le_trans hb5.size hb6.size),fun e => by have := (hO6.block_lt k e.symm).1; omega⟩) (Nat.le_trans hb5.size hb6.size) ?_ (by omega); intro ad7 k7 c7 w7 hO7 hg7)
    | fail)
   have rL7 : RdL Elt.pq (· < U.heap.size) w7 _ _ := ((rL.below hb5).below hb6).keep fun k hk => hg7.block k (Nat.lt_of_lt_of_le hk (Nat.le_trans hb5.size hb6.size)) (fun e => by have := (hO6.block_lt k e.symm).1; omega)
   have hcl := refPq_any w7 rL7 hO7.rdL
   rw [decide_eq_true hsum.out] at hcl
   refine hcl.mono ?_
   rintro e w8 ⟨rfl,hb8⟩
   go_wp2_with fail
   go_ret
   exact ⟨rfl,q.trans (((hb5.trans (hb6.mono hb5.size)).grown hg7 (Nat.le_trans hb5.size hb6.size) (fun k hk => (hO6.block_lt k hk).1) |>.trans (hb8.mono (Nat.le_trans (Nat.le_trans hb5.size hb6.size) hg7.size))).mono q.size)⟩
 | false =>
  rw [hop] at b3
  clear hop
  cases hh : ltB x.hi k with
  | true =>
   have y1 : Op.bytesLess (strOf k).toList (strOf x.hi).toList = false := str_lt7.trans (ltB_asymm hh)
   have y2 : ((strOf k).toList == (strOf x.hi).toList) = false := str_eq7.trans (decide_eq_false fun e => ltB_ne hh e.symm)
   go_wp2_with (first | rw [cvk] | rw [cvl] | rw [cvh] | fail)
   go_ret
   exact ⟨rfl,q⟩
  | false =>
   have hhi : x.isOpen = true ∨ ltB x.hi k = false := .inr hh
   by_cases he : k = x.hi
   ·have y1 : Op.bytesLess (strOf k).toList (strOf x.hi).toList = false := str_lt7.trans (by rw [he,ltB_irrefl])
    have y2 : ((strOf k).toList == (strOf x.hi).toList) = true := str_eq7.trans (decide_eq_true he)
    clear he
    clear hh
    replace hhi := Lib.hid hhi
    replace hlo := Lib.hid hlo
    go_upto_region 4 with (first | rw [cvk] | rw [cvl] | rw [cvh] | fail)
    clear b0 b1 b2 b3 cvk cvl cvh y0 y1 y2 z1
    replace hhi := hhi.out
    replace hlo := hlo.out
    obtain ⟨L,hLe⟩ : ∃ l,l = scanP (pickS T x.table) x u := ⟨_,rfl⟩
    obtain ⟨LA,hLAe⟩ : ∃ l,l = scanP (pickS T x.table) ⟨x.table,x.lo,k,false⟩ u := ⟨_,rfl⟩
    obtain ⟨LB,hLBe⟩ : ∃ l,l = scanP (pickS T x.table) ⟨x.table,k,x.hi,x.isOpen⟩ u := ⟨_,rfl⟩
    have hsum := Lib.hid (show L = LA ++ LB from by rw [hLe,hLAe,hLBe]; exact scan_cut hlo hhi (pickS_srt T _))
    have hsrt := Lib.hid (show L.Pairwise (fun a b => ltB a.key b.key = true) from by rw [hLe]; exact scan_srt (pickS_srt T _))
    have hgt := Lib.hid (show ∀ y ∈ L,getP (pickS T x.table) y.key u = some y.val from fun y hy => by rw [hLe] at hy; exact scan_mem (pickS_srt T _) hy)
    have hLs := Lib.hid (show L.length ≤ 60 from by rw [hLe]; exact scan_few T x u)
    replace hLe := Lib.hid hLe
    replace hLAe := Lib.hid hLAe
    replace hLBe := Lib.hid hLBe
    clear hlo hhi
    go_upto_region 4 with (fail)
    obtain ⟨d0,d1,d2,d3,d4,d5,d6,d7,d8,d9,d10,d11⟩ := Bs.c12
    obtain ⟨b0,b1,b2,b3⟩ := Bx.c4
    have hcl := sScan_any _ (T := T) (x := x) (s := u) (hd.below q) (smallS_fit hs) (hx.below q)
    rw [show scanP (pickS T (Sp.table x)) x u = L from hLe.out.symm] at hcl
    go_wp2_with fail
    refine hcl.mono ?_
    rintro e wnL ⟨aL,cL,rfl,rrL,hb⟩
    clear hcl d0 d1 d2 d3 d4 d5 d6 d7 d8 d9 d10 d11 b0 b1 b2 b3
    replace Bs := Bs.below hb Bs.lt
    replace Bx := Bx.below hb Bx.lt
    replace q := q.trans (hb.mono q.size)
    clear hb
    replace rrL : RdL Elt.pq (fun _ => True) wnL _ _ := rrL.weak fun _ _ => trivial
    go_upto_region 5 with (fail)
    obtain ⟨d0,d1,d2,d3,d4,d5,d6,d7,d8,d9,d10,d11⟩ := Bs.c12
    obtain ⟨b0,b1,b2,b3⟩ := Bx.c4
    have hcl := sScan_any _ (T := T) (x := ⟨x.table,x.lo,k,false⟩) (s := u) (hd.below q) (smallS_fit hs) (S2 := fun _ => True) ⟨_,_,_,_,rfl,(hl0.below q).weak fun _ _ => trivial,(hks.below q).weak fun _ _ => trivial,hxt⟩
    rw [show scanP (pickS T (Sp.table ⟨x.table,x.lo,k,false⟩)) ⟨x.table,x.lo,k,false⟩ u = LA from hLAe.out.symm] at hcl
    go_wp2_with fail
    refine hcl.mono ?_
    rintro e wnA ⟨aA,cA,rfl,rrA,hb⟩
    clear hcl d0 d1 d2 d3 d4 d5 d6 d7 d8 d9 d10 d11 b0 b1 b2 b3
    replace Bs := Bs.below hb Bs.lt
    replace Bx := Bx.below hb Bx.lt
    replace rrL := rrL.below hb
    replace q := q.trans (hb.mono q.size)
    clear hb
    replace rrA : RdL Elt.pq (fun _ => True) wnA _ _ := rrA.weak fun _ _ => trivial
    go_upto_region 6 with (fail)
    obtain ⟨d0,d1,d2,d3,d4,d5,d6,d7,d8,d9,d10,d11⟩ := Bs.c12
    obtain ⟨b0,b1,b2,b3⟩ := Bx.c4
    have hcl := sScan_any _ (T := T) (x := ⟨x.table,k,x.hi,x.isOpen⟩) (s := u) (hd.below q) (smallS_fit hs) (S2 := fun _ => True) ⟨_,_,_,_,rfl,(hks.below q).weak fun _ _ => trivial,(hh0.below q).weak fun _ _ => trivial,hxt⟩
    rw [show scanP (pickS T (Sp.table ⟨x.table,k,x.hi,x.isOpen⟩)) ⟨x.table,k,x.hi,x.isOpen⟩ u = LB from hLBe.out.symm] at hcl
    go_wp2_with fail
    refine hcl.mono ?_
    rintro e wnB ⟨aB,cB,rfl,rrB,hb⟩
    clear hcl d0 d1 d2 d3 d4 d5 d6 d7 d8 d9 d10 d11 b0 b1 b2 b3
    replace Bs := Bs.below hb Bs.lt
    replace Bx := Bx.below hb Bx.lt
    replace rrL := rrL.below hb
    replace rrA := rrA.below hb
    replace q := q.trans (hb.mono q.size)
    clear hb
    replace rrB : RdL Elt.pq (fun _ => True) wnB _ _ := rrB.weak fun _ _ => trivial
    go_upto_region 7 with (fail)
    obtain ⟨V,hV⟩ : ∃ V,V = wnB := ⟨_,rfl⟩
    rw [← hV] at q Bs Bx rrL rrA rrB
    rw [← hV]
    clear hV hLe hLAe hLBe
    have eG : ∀ args w,(callFunc 16 args).run Tryz.prog w = .ok (.enter 16 args) w := enters_of Tryz.func16 (by kernel_rfl) rfl
    go_upto_region 8 with (fail)
    have hLm : L.length ≤ 9223372036854775807 := by obtain ⟨_,hc,hm⟩ := rrL.len; unfold maxLen at hm; omega
    go_loopw [13] (fun iv wr => ∃ i : Nat,iv = .int .i64 (i : Int) ∧ i ≤ L.length ∧ Below V.heap.size V wr) (fun iv _ => L.length - (intOf iv).toNat)
    case atStart => exact ⟨0,rfl,Nat.zero_le _,Below.refl _ _⟩
    case round =>
    obtain ⟨i,rfl,hil,q2⟩ := hrel
    rcases Nat.lt_or_ge i L.length with hlt | hge
    ·have hz : decide ((i : Int) < (L.length : Int)) = true := decide_eq_true (by omega)
     have hdW := (hd.below q).below q2
     replace Bs := Bs.below q2 Bs.lt
     replace Bx := Bx.below q2 Bx.lt
     obtain ⟨b,off,A1,C1,A2,C2,eL,hb0,g0,g1,hk1,hk2⟩ := (rrL.below q2).pq i hlt
     subst eL
     clear hb0
     obtain ⟨b0,b1,b2,b3⟩ := Bx.c4
     clear b1 b2 b3
     go_upto_region 10 with (fail)
     refine wp_region_gsg (by kernel_rfl) (by kernel_rfl) [sgEq (.agg #[.slice (aS 0) (mS 0) (cS 0),.slice (aS 1) (mS 1) (cS 1),.slice (aS 2) (mS 2) (cS 2),.slice (aS 3) (mS 3) (cS 3),.slice (aS 4) (mS 4) (cS 4),.slice (aS 5) (mS 5) (cS 5),.slice (aS 6) (mS 6) (cS 6),.slice (aS 7) (mS 7) (cS 7),.slice (aS 8) (mS 8) (cS 8),.slice (aS 9) (mS 9) (cS 9),.slice (aS 10) (mS 10) (cS 10),.slice (aS 11) (mS 11) (cS 11)]),sgEq (.pointer (some ⟨w.heap.size + 1,0,none⟩)),sgEq (.int .i64 x.table),sgEq (.slice (some ⟨b,off,none⟩) L.length cL),sgEq (.int .i64 (i : Int)),sgEq (.pointer (some ⟨b,off + i * 2,none⟩)),sgEq (.pointer (some ⟨b,off + i * 2,none⟩)),sgEq (.slice A1 L[i].key.length C1),sgEq (.int .i64 u),sgVt L[i].val,sgVt L[i].val,sgVb L[i].val,sgEq (.bool true),sgVb L[i].val,sgEq (.bool true)]
      ⟨?o0,?o1,?o2,?o3,?o4,?o5,?o6,?o7,?o8,?o9,?o10,?o11,?o12,?o13,?o14,trivial⟩ ?fin
     case o0 =>
      refine GdOp.plain rfl (fun A vs w' hF hT hb hd => ?_)
      have e1 : A.eval (.tmp 4) = .pointer (some ⟨w.heap.size,0,none⟩) := hF 4 rfl
      exact wp_loadQ (us := [.slice (aS 0) (mS 0) (cS 0),.slice (aS 1) (mS 1) (cS 1),.slice (aS 2) (mS 2) (cS 2),.slice (aS 3) (mS 3) (cS 3),.slice (aS 4) (mS 4) (cS 4),.slice (aS 5) (mS 5) (cS 5),.slice (aS 6) (mS 6) (cS 6),.slice (aS 7) (mS 7) (cS 7),.slice (aS 8) (mS 8) (cS 8),.slice (aS 9) (mS 9) (cS 9),.slice (aS 10) (mS 10) (cS 10),.slice (aS 11) (mS 11) (cS 11)]) stS7 rfl e1 (fun j v hj => by rw [Nat.zero_add]; exact (BoxN.below Bs hb Bs.lt).cell hj) ⟨_,rfl,rfl,Below.refl _ _⟩
     case o1 =>
      refine GdOp.plain rfl (fun A vs w' hF hT hb hd => ?_)
      have e1 : A.eval (.tmp 5) = .pointer (some ⟨w.heap.size + 1,0,none⟩) := hF 5 rfl
      exact wp_fieldN spS7 rfl (e1) (by omega) ⟨_,rfl,rfl,Below.refl _ _⟩
     case o2 =>
      refine GdOp.plain rfl (fun A vs w' hF hT hb hd => ?_)
      have e1 : A.eval (.tmp 85) = .pointer (some ⟨w.heap.size + 1,0,none⟩) := (hT 85 1 (by simp) rfl).trans (hd ⟨1,.data⟩ (by simp) rfl)
      exact wp_ld_int (k := .i64) rfl e1 (by kernel_rfl) (((hb.cell (p := ⟨_,_,none⟩) (cell_lt b0)).trans b0)) ⟨_,rfl,rfl,Below.refl _ _⟩
     case o3 =>
      refine GdOp.plain rfl (fun A vs w' hF hT hb hd => ?_)
      have e1 : A.eval (.tmp 10) = .slice (some ⟨b,off,none⟩) L.length cL := hF 10 rfl
      exact BigFrame.wp_move _ rfl ⟨_,rfl,e1,Below.refl _ _⟩
     case o4 =>
      refine GdOp.plain rfl (fun A vs w' hF hT hb hd => ?_)
      have e1 : A.eval (.tmp 13) = .int .i64 (i : Int) := hF 13 rfl
      exact BigFrame.wp_move _ rfl ⟨_,rfl,e1,Below.refl _ _⟩
     case o5 =>
      refine GdOp.plain rfl (fun A vs w' hF hT hb hd => ?_)
      have e1 : A.eval (.tmp 87) = .slice (some ⟨b,off,none⟩) L.length cL := (hT 87 3 (by simp) rfl).trans (hd ⟨3,.data⟩ (by simp) rfl)
      have e2 : A.eval (.tmp 88) = .int .i64 (i : Int) := (hT 88 4 (by simp) rfl).trans (hd ⟨4,.data⟩ (by simp) rfl)
      exact wp_ixN (e := 60) rfl (by kernel_rfl) (by kernel_rfl) (e1) (e2) rfl (by omega) ⟨_,rfl,rfl,Below.refl _ _⟩
     case o6 =>
      refine GdOp.plain rfl (fun A vs w' hF hT hb hd => ?_)
      have e1 : A.eval (.tmp 89) = .pointer (some ⟨b,off + i * 2,none⟩) := (hT 89 5 (by simp) rfl).trans (hd ⟨5,.data⟩ (by simp) rfl)
      exact wp_fieldN pqS rfl (e1) (by omega) ⟨_,rfl,rfl,Below.refl _ _⟩
     case o7 =>
      refine GdOp.plain rfl (fun A vs w' hF hT hb hd => ?_)
      have e1 : A.eval (.tmp 90) = .pointer (some ⟨b,off + i * 2,none⟩) := (hT 90 6 (by simp) rfl).trans (hd ⟨6,.data⟩ (by simp) rfl)
      exact wp_ld_slice (e := 5) rfl e1 (by kernel_rfl) (((hb.cell (p := ⟨_,_,none⟩) (cell_lt g0)).trans g0)) ⟨_,rfl,rfl,Below.refl _ _⟩
     case o8 =>
      refine GdOp.plain rfl (fun A vs w' hF hT hb hd => ?_)
      have e1 : A.eval (.tmp 3) = .int .i64 u := hF 3 rfl
      exact BigFrame.wp_move _ rfl ⟨_,rfl,e1,Below.refl _ _⟩
     case o9 =>
      refine GdOp.plain rfl (fun A vs w' hF hT hb hd => ?_)
      have e1 : A.eval (.tmp 84) = .agg #[.slice (aS 0) (mS 0) (cS 0),.slice (aS 1) (mS 1) (cS 1),.slice (aS 2) (mS 2) (cS 2),.slice (aS 3) (mS 3) (cS 3),.slice (aS 4) (mS 4) (cS 4),.slice (aS 5) (mS 5) (cS 5),.slice (aS 6) (mS 6) (cS 6),.slice (aS 7) (mS 7) (cS 7),.slice (aS 8) (mS 8) (cS 8),.slice (aS 9) (mS 9) (cS 9),.slice (aS 10) (mS 10) (cS 10),.slice (aS 11) (mS 11) (cS 11)] := (hT 84 0 (by simp) rfl).trans (hd ⟨0,.data⟩ (by simp) rfl)
      have e2 : A.eval (.tmp 86) = .int .i64 x.table := (hT 86 2 (by simp) rfl).trans (hd ⟨2,.data⟩ (by simp) rfl)
      have e3 : A.eval (.tmp 91) = .slice A1 L[i].key.length C1 := (hT 91 7 (by simp) rfl).trans (hd ⟨7,.data⟩ (by simp) rfl)
      have e4 : A.eval (.tmp 92) = .int .i64 u := (hT 92 8 (by simp) rfl).trans (hd ⟨8,.data⟩ (by simp) rfl)
      refine wp_callFn rfl eG (args := #[.agg #[.slice (aS 0) (mS 0) (cS 0),.slice (aS 1) (mS 1) (cS 1),.slice (aS 2) (mS 2) (cS 2),.slice (aS 3) (mS 3) (cS 3),.slice (aS 4) (mS 4) (cS 4),.slice (aS 5) (mS 5) (cS 5),.slice (aS 6) (mS 6) (cS 6),.slice (aS 7) (mS 7) (cS 7),.slice (aS 8) (mS 8) (cS 8),.slice (aS 9) (mS 9) (cS 9),.slice (aS 10) (mS 10) (cS 10),.slice (aS 11) (mS 11) (cS 11)],.int .i64 x.table,.slice A1 L[i].key.length C1,.int .i64 u]) (by simp only [List.map_toArray,List.map_cons,List.map_nil,e1,e2,e3,e4]) ((sGet_any w' (T := T) (t := x.table) (s := u) (hdW.below hb) (smallS_fit hs) (hk1.below hb)).mono ?_)
      rintro e w2 h9
      obtain ⟨a9,c9,rfl,ho9,hb2⟩ := h9.got (hgt.out _ (List.getElem_mem hlt))
      exact ⟨_,rfl,_,rfl,⟨a9,c9,rfl,ho9⟩,hb2⟩
     case o10 =>
      refine GdOp.plain rfl (fun A vs w' hF hT hb hd => ?_)
      obtain ⟨a1,c1,q1,hr1⟩ := hd ⟨9,.data⟩ (by simp) rfl
      exact BigFrame.wp_move _ rfl ⟨_,rfl,⟨a1,c1,(hT 93 9 (by simp) rfl).trans q1,hr1⟩,Below.refl _ _⟩
     case o11 =>
      refine GdOp.plain rfl (fun A vs w' hF hT hb hd => ?_)
      obtain ⟨a1,c1,q1,hr1⟩ := hd ⟨10,.data⟩ (by simp) rfl
      have e1 : A.eval (.tmp 83) = .tuple #[.slice a1 L[i].val.length c1,.bool true] := (hT 83 10 (by simp) rfl).trans q1
      exact wp_ex rfl e1 rfl ⟨_,rfl,⟨a1,c1,rfl,hr1⟩,Below.refl _ _⟩
     case o12 =>
      refine GdOp.plain rfl (fun A vs w' hF hT hb hd => ?_)
      obtain ⟨a1,c1,q1,hr1⟩ := hd ⟨10,.data⟩ (by simp) rfl
      have e1 : A.eval (.tmp 83) = .tuple #[.slice a1 L[i].val.length c1,.bool true] := (hT 83 10 (by simp) rfl).trans q1
      exact wp_ex rfl e1 rfl ⟨_,rfl,rfl,Below.refl _ _⟩
     case o13 =>
      refine GdOp.plain rfl (fun A vs w' hF hT hb hd => ?_)
      obtain ⟨a1,c1,q1,hr1⟩ := hd ⟨11,.data⟩ (by simp) rfl
      exact BigFrame.wp_assign _ rfl ⟨_,rfl,⟨a1,c1,(hT 94 11 (by simp) rfl).trans q1,hr1⟩,Below.refl _ _⟩
     case o14 =>
      refine GdOp.plain rfl (fun A vs w' hF hT hb hd => ?_)
      have e1 : A.eval (.tmp 95) = .bool true := (hT 95 12 (by simp) rfl).trans (hd ⟨12,.data⟩ (by simp) rfl)
      exact BigFrame.wp_assign _ rfl ⟨_,rfl,e1,Below.refl _ _⟩
     case fin =>
     intro vs9 W9 hb9 hG9
     have e0 : vs9 0 = .agg #[.slice (aS 0) (mS 0) (cS 0),.slice (aS 1) (mS 1) (cS 1),.slice (aS 2) (mS 2) (cS 2),.slice (aS 3) (mS 3) (cS 3),.slice (aS 4) (mS 4) (cS 4),.slice (aS 5) (mS 5) (cS 5),.slice (aS 6) (mS 6) (cS 6),.slice (aS 7) (mS 7) (cS 7),.slice (aS 8) (mS 8) (cS 8),.slice (aS 9) (mS 9) (cS 9),.slice (aS 10) (mS 10) (cS 10),.slice (aS 11) (mS 11) (cS 11)] := hG9 0 (by decide)
     have e1 : vs9 1 = .pointer (some ⟨w.heap.size + 1,0,none⟩) := hG9 1 (by decide)
     have e2 : vs9 2 = .int .i64 x.table := hG9 2 (by decide)
     have e3 : vs9 3 = .slice (some ⟨b,off,none⟩) L.length cL := hG9 3 (by decide)
     have e4 : vs9 4 = .int .i64 (i : Int) := hG9 4 (by decide)
     have e5 : vs9 5 = .pointer (some ⟨b,off + i * 2,none⟩) := hG9 5 (by decide)
     have e6 : vs9 6 = .pointer (some ⟨b,off + i * 2,none⟩) := hG9 6 (by decide)
     have e7 : vs9 7 = .slice A1 L[i].key.length C1 := hG9 7 (by decide)
     have e8 : vs9 8 = .int .i64 u := hG9 8 (by decide)
     obtain ⟨gx9,gy9,e9,_⟩ := hG9 9 (by decide)
     obtain ⟨gx10,gy10,e10,_⟩ := hG9 10 (by decide)
     obtain ⟨gx11,gy11,e11,_⟩ := hG9 11 (by decide)
     have e12 : vs9 12 = .bool true := hG9 12 (by decide)
     obtain ⟨gx13,gy13,e13,rv⟩ := hG9 13 (by decide)
     have e14 : vs9 14 = .bool true := hG9 14 (by decide)
     simp only [putAll,e0,e1,e2,e3,e4,e5,e6,e7,e8,e9,e10,e11,e12,e13,e14]
     clear hG9 e0 e1 e2 e3 e4 e5 e6 e7 e8 e9 e10 e11 e12 e13 e14
     clear g0 g1 hk1 hk2 b0
     replace q2 := q2.trans (hb9.mono q2.size)
     clear hb9
     go_simp
     go_upto_region 11 with (fail)
     obtain ⟨b',off',A1,C1,A2,C2,eL,hb0,g0,g1,hk1,hk2⟩ := (rrL.below q2).pq i hlt
     injection eL with eL
     injection eL with eb eo _
     subst eb eo
     clear hb0
     have r1 := hk1.rd
     have r2 := hk2.rd
     have r3 := rv.rd
     have d0 : ((strOf L[i].val).toList == (strOf L[i].val).toList) = true := beq_self_eq_true _
     cases i with
     | zero =>
      simp only [Nat.zero_mul,Nat.add_zero] at g0 g1
      refine wp_region_quiet_lit (by kernel_rfl) (by kernel_rfl) ?_
      repeat (first | go_big_quiet_step (fail) | (go_big_quiet_want; refine quiet_conv byP rfl rfl r3 ?_; go_big_quiet_on; go_simp) | (go_big_quiet_want; refine quiet_conv byP rfl rfl r2 ?_; go_big_quiet_on; go_simp) | (go_big_quiet_want; refine quiet_conv byP rfl rfl r1 ?_; go_big_quiet_on; go_simp))
      first | (refine wpQuiet_nil ?_; intro _ hw'; obtain ⟨nq,hw''⟩ := hw'; subst hw'') | intro nq
      go_wp2_with fail
      go_roundw
      case rel => exact ⟨1,by go_num,by omega,Below.drewN q2 _⟩
      case measure => simp [intOf]; omega
     | succ i =>
      have hlt' : i < L.length := by omega
      obtain ⟨b',off',A0,C0,A3,C3,eL,hb0,f0,f1,hk3,hk4⟩ := (rrL.below q2).pq i hlt'
      injection eL with eL
      injection eL with eb eo _
      subst eb eo
      clear hb0
      have r4 := hk3.rd
      have e1 : ((i + 1 : Nat) : Int) - 1 = (i : Int) := by omega
      have dl : ltB L[i].key L[i + 1].key = true := List.pairwise_iff_getElem.1 hsrt.out i (i + 1) hlt' hlt (by omega)
      have d4 : Op.bytesLess (strOf L[i].key).toList (strOf L[i + 1].key).toList = true := str_lt7.trans dl
      clear dl
      refine wp_region_quiet_lit (by kernel_rfl) (by kernel_rfl) ?_
      repeat (first | go_big_quiet_step (fail) | (go_big_quiet_want; refine quiet_conv byP rfl rfl r3 ?_; go_big_quiet_on; go_simp) | (go_big_quiet_want; refine quiet_conv byP rfl rfl r2 ?_; go_big_quiet_on; go_simp) | (go_big_quiet_want; refine quiet_conv byP rfl rfl r4 ?_; go_big_quiet_on; go_simp) | (go_big_quiet_want; refine quiet_conv byP rfl rfl r1 ?_; go_big_quiet_on; go_simp))
      first | (refine wpQuiet_nil ?_; intro _ hw'; obtain ⟨nq,hw''⟩ := hw'; subst hw'') | intro nq
      go_wp2_with fail
      go_roundw
      case rel => exact ⟨i + 2,by go_num,by omega,Below.drewN q2 _⟩
      case measure => simp [intOf]; omega
    ·obtain rfl : i = L.length := by omega
     have hz : decide ((L.length : Int) < (L.length : Int)) = false := decide_eq_false (by omega)
     replace Bs := Bs.below q2 Bs.lt
     replace Bx := Bx.below q2 Bx.lt
     replace rrL := rrL.below q2
     replace rrA := rrA.below q2
     replace rrB := rrB.below q2
     replace q := q.trans (q2.mono q.size)
     clear q2 hge hil
     go_upto_region 13 with (fail)
     obtain ⟨U,hU⟩ : ∃ V,V = wr := ⟨_,rfl⟩
     rw [← hU] at q rrL rrA rrB
     rw [← hU]
     clear hU
     have rL : RdL Elt.pq (· < U.heap.size) U _ _ := rrL.fit.weak fun k hk => hk.2
     have rA : RdL Elt.pq (· < U.heap.size) U _ _ := rrA.fit.weak fun k hk => hk.2
     have rB : RdL Elt.pq (· < U.heap.size) U _ _ := rrB.fit.weak fun k hk => hk.2
     have hlA : LA.length + LB.length = L.length := by rw [hsum.out,List.length_append]
     have hL60 := hLs.out
     clear rrL rrA rrB
     go_wp2_with (first
      | (refine wpList_buildZero (E := Elt.pq) pqP rfl rfl ?_; intro w5 hb5 hO5)
      | (refine wpList_append_zeroL (E := Elt.pq) pqP rfl rfl rfl (hO5.to (Nat.le_refl _) (Nat.zero_le _)) rfl ((rA.below hb5).weak fun k hk => hk) (fun k hk => ⟨Nat.zero_le _,Nat.lt_of_lt_of_le hk hb5.size⟩) hb5.size ?_ (by omega); intro ad6 k6 c6 w6 hO6 hb6)
      | (refine wpList_appendRL (E := Elt.pq) pqP rfl rfl rfl hO6 rfl ((rB.below hb5).below hb6) (fun k hk => ⟨Nat.zero_le _,Nat.lt_of_lt_of_le hk (Nat.le_trans hb5.size hb6.size),fun e => by have := (hO6.block_lt k e.symm).1; omega⟩) (Nat.le_trans hb5.size hb6.size) ?_ (by omega); intro ad7 k7 c7 w7 hO7 hg7)
      | fail)
     have rL7 : RdL Elt.pq (· < U.heap.size) w7 _ _ := ((rL.below hb5).below hb6).keep fun k hk => hg7.block k (Nat.lt_of_lt_of_le hk (Nat.le_trans hb5.size hb6.size)) (fun e => by have := (hO6.block_lt k e.symm).1; omega)
     have hcl := refPq_any w7 rL7 hO7.rdL
     rw [decide_eq_true hsum.out] at hcl
     refine hcl.mono ?_
     rintro e w8 ⟨rfl,hb8⟩
     go_wp2_with fail
     go_ret
     exact ⟨rfl,q.trans (((hb5.trans (hb6.mono hb5.size)).grown hg7 (Nat.le_trans hb5.size hb6.size) (fun k hk => (hO6.block_lt k hk).1) |>.trans (hb8.mono (Nat.le_trans (Nat.le_trans hb5.size hb6.size) hg7.size))).mono q.size)⟩
   ·have y1 : Op.bytesLess (strOf k).toList (strOf x.hi).toList = true := str_lt7.trans (ltB_total (fun e => he e.symm) hh)
    have y2 : ((strOf k).toList == (strOf x.hi).toList) = false := str_eq7.trans (decide_eq_false he)
    clear he
    clear hh
    replace hhi := Lib.hid hhi
    replace hlo := Lib.hid hlo
    go_upto_region 4 with (first | rw [cvk] | rw [cvl] | rw [cvh] | fail)
    clear b0 b1 b2 b3 cvk cvl cvh y0 y1 y2 z1
    replace hhi := hhi.out
    replace hlo := hlo.out
    obtain ⟨L,hLe⟩ : ∃ l,l = scanP (pickS T x.table) x u := ⟨_,rfl⟩
    obtain ⟨LA,hLAe⟩ : ∃ l,l = scanP (pickS T x.table) ⟨x.table,x.lo,k,false⟩ u := ⟨_,rfl⟩
    obtain ⟨LB,hLBe⟩ : ∃ l,l = scanP (pickS T x.table) ⟨x.table,k,x.hi,x.isOpen⟩ u := ⟨_,rfl⟩
    have hsum := Lib.hid (show L = LA ++ LB from by rw [hLe,hLAe,hLBe]; exact scan_cut hlo hhi (pickS_srt T _))
    have hsrt := Lib.hid (show L.Pairwise (fun a b => ltB a.key b.key = true) from by rw [hLe]; exact scan_srt (pickS_srt T _))
    have hgt := Lib.hid (show ∀ y ∈ L,getP (pickS T x.table) y.key u = some y.val from fun y hy => by rw [hLe] at hy; exact scan_mem (pickS_srt T _) hy)
    have hLs := Lib.hid (show L.length ≤ 60 from by rw [hLe]; exact scan_few T x u)
    replace hLe := Lib.hid hLe
    replace hLAe := Lib.hid hLAe
    replace hLBe := Lib.hid hLBe
    clear hlo hhi
    go_upto_region 4 with (fail)
    obtain ⟨d0,d1,d2,d3,d4,d5,d6,d7,d8,d9,d10,d11⟩ := Bs.c12
    obtain ⟨b0,b1,b2,b3⟩ := Bx.c4
    have hcl := sScan_any _ (T := T) (x := x) (s := u) (hd.below q) (smallS_fit hs) (hx.below q)
    rw [show scanP (pickS T (Sp.table x)) x u = L from hLe.out.symm] at hcl
    go_wp2_with fail
    refine hcl.mono ?_
    rintro e wnL ⟨aL,cL,rfl,rrL,hb⟩
    clear hcl d0 d1 d2 d3 d4 d5 d6 d7 d8 d9 d10 d11 b0 b1 b2 b3
    replace Bs := Bs.below hb Bs.lt
    replace Bx := Bx.below hb Bx.lt
    replace q := q.trans (hb.mono q.size)
    clear hb
    replace rrL : RdL Elt.pq (fun _ => True) wnL _ _ := rrL.weak fun _ _ => trivial
    go_upto_region 5 with (fail)
    obtain ⟨d0,d1,d2,d3,d4,d5,d6,d7,d8,d9,d10,d11⟩ := Bs.c12
    obtain ⟨b0,b1,b2,b3⟩ := Bx.c4
    have hcl := sScan_any _ (T := T) (x := ⟨x.table,x.lo,k,false⟩) (s := u) (hd.below q) (smallS_fit hs) (S2 := fun _ => True) ⟨_,_,_,_,rfl,(hl0.below q).weak fun _ _ => trivial,(hks.below q).weak fun _ _ => trivial,hxt⟩
    rw [show scanP (pickS T (Sp.table ⟨x.table,x.lo,k,false⟩)) ⟨x.table,x.lo,k,false⟩ u = LA from hLAe.out.symm] at hcl
    go_wp2_with fail
    refine hcl.mono ?_
    rintro e wnA ⟨aA,cA,rfl,rrA,hb⟩
    clear hcl d0 d1 d2 d3 d4 d5 d6 d7 d8 d9 d10 d11 b0 b1 b2 b3
    replace Bs := Bs.below hb Bs.lt
    replace Bx := Bx.below hb Bx.lt
    replace rrL := rrL.below hb
    replace q := q.trans (hb.mono q.size)
    clear hb
    replace rrA : RdL Elt.pq (fun _ => True) wnA _ _ := rrA.weak fun _ _ => trivial
    go_upto_region 6 with (fail)
    obtain ⟨d0,d1,d2,d3,d4,d5,d6,d7,d8,d9,d10,d11⟩ := Bs.c12
    obtain ⟨b0,b1,b2,b3⟩ := Bx.c4
    have hcl := sScan_any _ (T := T) (x := ⟨x.table,k,x.hi,x.isOpen⟩) (s := u) (hd.below q) (smallS_fit hs) (S2 := fun _ => True) ⟨_,_,_,_,rfl,(hks.below q).weak fun _ _ => trivial,(hh0.below q).weak fun _ _ => trivial,hxt⟩
    rw [show scanP (pickS T (Sp.table ⟨x.table,k,x.hi,x.isOpen⟩)) ⟨x.table,k,x.hi,x.isOpen⟩ u = LB from hLBe.out.symm] at hcl
    go_wp2_with fail
    refine hcl.mono ?_
    rintro e wnB ⟨aB,cB,rfl,rrB,hb⟩
    clear hcl d0 d1 d2 d3 d4 d5 d6 d7 d8 d9 d10 d11 b0 b1 b2 b3
    replace Bs := Bs.below hb Bs.lt
    replace Bx := Bx.below hb Bx.lt
    replace rrL := rrL.below hb
    replace rrA := rrA.below hb
    replace q := q.trans (hb.mono q.size)
    clear hb
    replace rrB : RdL Elt.pq (fun _ => True) wnB _ _ := rrB.weak fun _ _ => trivial
    go_upto_region 7 with (fail)
    obtain ⟨V,hV⟩ : ∃ V,V = wnB := ⟨_,rfl⟩
    rw [← hV] at q Bs Bx rrL rrA rrB
    rw [← hV]
    clear hV hLe hLAe hLBe
    have eG : ∀ args w,(callFunc 16 args).run Tryz.prog w = .ok (.enter 16 args) w := enters_of Tryz.func16 (by kernel_rfl) rfl
    go_upto_region 8 with (fail)
    have hLm : L.length ≤ 9223372036854775807 := by obtain ⟨_,hc,hm⟩ := rrL.len; unfold maxLen at hm; omega
    go_loopw [13] (fun iv wr => ∃ i : Nat,iv = .int .i64 (i : Int) ∧ i ≤ L.length ∧ Below V.heap.size V wr) (fun iv _ => L.length - (intOf iv).toNat)
    case atStart => exact ⟨0,rfl,Nat.zero_le _,Below.refl _ _⟩
    case round =>
    obtain ⟨i,rfl,hil,q2⟩ := hrel
    rcases Nat.lt_or_ge i L.length with hlt | hge
    ·have hz : decide ((i : Int) < (L.length : Int)) = true := decide_eq_true (by omega)
     have hdW := (hd.below q).below q2
     replace Bs := Bs.below q2 Bs.lt
     replace Bx := Bx.below q2 Bx.lt
     obtain ⟨b,off,A1,C1,A2,C2,eL,hb0,g0,g1,hk1,hk2⟩ := (rrL.below q2).pq i hlt
     subst eL
     clear hb0
     obtain ⟨b0,b1,b2,b3⟩ := Bx.c4
     clear b1 b2 b3
     go_upto_region 10 with (fail)
     refine wp_region_gsg (by kernel_rfl) (by kernel_rfl) [sgEq (.agg #[.slice (aS 0) (mS 0) (cS 0),.slice (aS 1) (mS 1) (cS 1),.slice (aS 2) (mS 2) (cS 2),.slice (aS 3) (mS 3) (cS 3),.slice (aS 4) (mS 4) (cS 4),.slice (aS 5) (mS 5) (cS 5),.slice (aS 6) (mS 6) (cS 6),.slice (aS 7) (mS 7) (cS 7),.slice (aS 8) (mS 8) (cS 8),.slice (aS 9) (mS 9) (cS 9),.slice (aS 10) (mS 10) (cS 10),.slice (aS 11) (mS 11) (cS 11)]),sgEq (.pointer (some ⟨w.heap.size + 1,0,none⟩)),sgEq (.int .i64 x.table),sgEq (.slice (some ⟨b,off,none⟩) L.length cL),sgEq (.int .i64 (i : Int)),sgEq (.pointer (some ⟨b,off + i * 2,none⟩)),sgEq (.pointer (some ⟨b,off + i * 2,none⟩)),sgEq (.slice A1 L[i].key.length C1),sgEq (.int .i64 u),sgVt L[i].val,sgVt L[i].val,sgVb L[i].val,sgEq (.bool true),sgVb L[i].val,sgEq (.bool true)]
      ⟨?o0,?o1,?o2,?o3,?o4,?o5,?o6,?o7,?o8,?o9,?o10,?o11,?o12,?o13,?o14,trivial⟩ ?fin
     case o0 =>
      refine GdOp.plain rfl (fun A vs w' hF hT hb hd => ?_)
      have e1 : A.eval (.tmp 4) = .pointer (some ⟨w.heap.size,0,none⟩) := hF 4 rfl
      exact wp_loadQ (us := [.slice (aS 0) (mS 0) (cS 0),.slice (aS 1) (mS 1) (cS 1),.slice (aS 2) (mS 2) (cS 2),.slice (aS 3) (mS 3) (cS 3),.slice (aS 4) (mS 4) (cS 4),.slice (aS 5) (mS 5) (cS 5),.slice (aS 6) (mS 6) (cS 6),.slice (aS 7) (mS 7) (cS 7),.slice (aS 8) (mS 8) (cS 8),.slice (aS 9) (mS 9) (cS 9),.slice (aS 10) (mS 10) (cS 10),.slice (aS 11) (mS 11) (cS 11)]) stS7 rfl e1 (fun j v hj => by rw [Nat.zero_add]; exact (BoxN.below Bs hb Bs.lt).cell hj) ⟨_,rfl,rfl,Below.refl _ _⟩
     case o1 =>
      refine GdOp.plain rfl (fun A vs w' hF hT hb hd => ?_)
      have e1 : A.eval (.tmp 5) = .pointer (some ⟨w.heap.size + 1,0,none⟩) := hF 5 rfl
      exact wp_fieldN spS7 rfl (e1) (by omega) ⟨_,rfl,rfl,Below.refl _ _⟩
     case o2 =>
      refine GdOp.plain rfl (fun A vs w' hF hT hb hd => ?_)
      have e1 : A.eval (.tmp 85) = .pointer (some ⟨w.heap.size + 1,0,none⟩) := (hT 85 1 (by simp) rfl).trans (hd ⟨1,.data⟩ (by simp) rfl)
      exact wp_ld_int (k := .i64) rfl e1 (by kernel_rfl) (((hb.cell (p := ⟨_,_,none⟩) (cell_lt b0)).trans b0)) ⟨_,rfl,rfl,Below.refl _ _⟩
     case o3 =>
      refine GdOp.plain rfl (fun A vs w' hF hT hb hd => ?_)
      have e1 : A.eval (.tmp 10) = .slice (some ⟨b,off,none⟩) L.length cL := hF 10 rfl
      exact BigFrame.wp_move _ rfl ⟨_,rfl,e1,Below.refl _ _⟩
     case o4 =>
      refine GdOp.plain rfl (fun A vs w' hF hT hb hd => ?_)
      have e1 : A.eval (.tmp 13) = .int .i64 (i : Int) := hF 13 rfl
      exact BigFrame.wp_move _ rfl ⟨_,rfl,e1,Below.refl _ _⟩
     case o5 =>
      refine GdOp.plain rfl (fun A vs w' hF hT hb hd => ?_)
      have e1 : A.eval (.tmp 87) = .slice (some ⟨b,off,none⟩) L.length cL := (hT 87 3 (by simp) rfl).trans (hd ⟨3,.data⟩ (by simp) rfl)
      have e2 : A.eval (.tmp 88) = .int .i64 (i : Int) := (hT 88 4 (by simp) rfl).trans (hd ⟨4,.data⟩ (by simp) rfl)
      exact wp_ixN (e := 60) rfl (by kernel_rfl) (by kernel_rfl) (e1) (e2) rfl (by omega) ⟨_,rfl,rfl,Below.refl _ _⟩
     case o6 =>
      refine GdOp.plain rfl (fun A vs w' hF hT hb hd => ?_)
      have e1 : A.eval (.tmp 89) = .pointer (some ⟨b,off + i * 2,none⟩) := (hT 89 5 (by simp) rfl).trans (hd ⟨5,.data⟩ (by simp) rfl)
      exact wp_fieldN pqS rfl (e1) (by omega) ⟨_,rfl,rfl,Below.refl _ _⟩
     case o7 =>
      refine GdOp.plain rfl (fun A vs w' hF hT hb hd => ?_)
      have e1 : A.eval (.tmp 90) = .pointer (some ⟨b,off + i * 2,none⟩) := (hT 90 6 (by simp) rfl).trans (hd ⟨6,.data⟩ (by simp) rfl)
      exact wp_ld_slice (e := 5) rfl e1 (by kernel_rfl) (((hb.cell (p := ⟨_,_,none⟩) (cell_lt g0)).trans g0)) ⟨_,rfl,rfl,Below.refl _ _⟩
     case o8 =>
      refine GdOp.plain rfl (fun A vs w' hF hT hb hd => ?_)
      have e1 : A.eval (.tmp 3) = .int .i64 u := hF 3 rfl
      exact BigFrame.wp_move _ rfl ⟨_,rfl,e1,Below.refl _ _⟩
     case o9 =>
      refine GdOp.plain rfl (fun A vs w' hF hT hb hd => ?_)
      have e1 : A.eval (.tmp 84) = .agg #[.slice (aS 0) (mS 0) (cS 0),.slice (aS 1) (mS 1) (cS 1),.slice (aS 2) (mS 2) (cS 2),.slice (aS 3) (mS 3) (cS 3),.slice (aS 4) (mS 4) (cS 4),.slice (aS 5) (mS 5) (cS 5),.slice (aS 6) (mS 6) (cS 6),.slice (aS 7) (mS 7) (cS 7),.slice (aS 8) (mS 8) (cS 8),.slice (aS 9) (mS 9) (cS 9),.slice (aS 10) (mS 10) (cS 10),.slice (aS 11) (mS 11) (cS 11)] := (hT 84 0 (by simp) rfl).trans (hd ⟨0,.data⟩ (by simp) rfl)
      have e2 : A.eval (.tmp 86) = .int .i64 x.table := (hT 86 2 (by simp) rfl).trans (hd ⟨2,.data⟩ (by simp) rfl)
      have e3 : A.eval (.tmp 91) = .slice A1 L[i].key.length C1 := (hT 91 7 (by simp) rfl).trans (hd ⟨7,.data⟩ (by simp) rfl)
      have e4 : A.eval (.tmp 92) = .int .i64 u := (hT 92 8 (by simp) rfl).trans (hd ⟨8,.data⟩ (by simp) rfl)
      refine wp_callFn rfl eG (args := #[.agg #[.slice (aS 0) (mS 0) (cS 0),.slice (aS 1) (mS 1) (cS 1),.slice (aS 2) (mS 2) (cS 2),.slice (aS 3) (mS 3) (cS 3),.slice (aS 4) (mS 4) (cS 4),.slice (aS 5) (mS 5) (cS 5),.slice (aS 6) (mS 6) (cS 6),.slice (aS 7) (mS 7) (cS 7),.slice (aS 8) (mS 8) (cS 8),.slice (aS 9) (mS 9) (cS 9),.slice (aS 10) (mS 10) (cS 10),.slice (aS 11) (mS 11) (cS 11)],.int .i64 x.table,.slice A1 L[i].key.length C1,.int .i64 u]) (by simp only [List.map_toArray,List.map_cons,List.map_nil,e1,e2,e3,e4]) ((sGet_any w' (T := T) (t := x.table) (s := u) (hdW.below hb) (smallS_fit hs) (hk1.below hb)).mono ?_)
      rintro e w2 h9
      obtain ⟨a9,c9,rfl,ho9,hb2⟩ := h9.got (hgt.out _ (List.getElem_mem hlt))
      exact ⟨_,rfl,_,rfl,⟨a9,c9,rfl,ho9⟩,hb2⟩
     case o10 =>
      refine GdOp.plain rfl (fun A vs w' hF hT hb hd => ?_)
      obtain ⟨a1,c1,q1,hr1⟩ := hd ⟨9,.data⟩ (by simp) rfl
      exact BigFrame.wp_move _ rfl ⟨_,rfl,⟨a1,c1,(hT 93 9 (by simp) rfl).trans q1,hr1⟩,Below.refl _ _⟩
     case o11 =>
      refine GdOp.plain rfl (fun A vs w' hF hT hb hd => ?_)
      obtain ⟨a1,c1,q1,hr1⟩ := hd ⟨10,.data⟩ (by simp) rfl
      have e1 : A.eval (.tmp 83) = .tuple #[.slice a1 L[i].val.length c1,.bool true] := (hT 83 10 (by simp) rfl).trans q1
      exact wp_ex rfl e1 rfl ⟨_,rfl,⟨a1,c1,rfl,hr1⟩,Below.refl _ _⟩
     case o12 =>
      refine GdOp.plain rfl (fun A vs w' hF hT hb hd => ?_)
      obtain ⟨a1,c1,q1,hr1⟩ := hd ⟨10,.data⟩ (by simp) rfl
      have e1 : A.eval (.tmp 83) = .tuple #[.slice a1 L[i].val.length c1,.bool true] := (hT 83 10 (by simp) rfl).trans q1
      exact wp_ex rfl e1 rfl ⟨_,rfl,rfl,Below.refl _ _⟩
     case o13 =>
      refine GdOp.plain rfl (fun A vs w' hF hT hb hd => ?_)
      obtain ⟨a1,c1,q1,hr1⟩ := hd ⟨11,.data⟩ (by simp) rfl
      exact BigFrame.wp_assign _ rfl ⟨_,rfl,⟨a1,c1,(hT 94 11 (by simp) rfl).trans q1,hr1⟩,Below.refl _ _⟩
     case o14 =>
      refine GdOp.plain rfl (fun A vs w' hF hT hb hd => ?_)
      have e1 : A.eval (.tmp 95) = .bool true := (hT 95 12 (by simp) rfl).trans (hd ⟨12,.data⟩ (by simp) rfl)
      exact BigFrame.wp_assign _ rfl ⟨_,rfl,e1,Below.refl _ _⟩
     case fin =>
     intro vs9 W9 hb9 hG9
     have e0 : vs9 0 = .agg #[.slice (aS 0) (mS 0) (cS 0),.slice (aS 1) (mS 1) (cS 1),.slice (aS 2) (mS 2) (cS 2),.slice (aS 3) (mS 3) (cS 3),.slice (aS 4) (mS 4) (cS 4),.slice (aS 5) (mS 5) (cS 5),.slice (aS 6) (mS 6) (cS 6),.slice (aS 7) (mS 7) (cS 7),.slice (aS 8) (mS 8) (cS 8),.slice (aS 9) (mS 9) (cS 9),.slice (aS 10) (mS 10) (cS 10),.slice (aS 11) (mS 11) (cS 11)] := hG9 0 (by decide)
     have e1 : vs9 1 = .pointer (some ⟨w.heap.size + 1,0,none⟩) := hG9 1 (by decide)
     have e2 : vs9 2 = .int .i64 x.table := hG9 2 (by decide)
     have e3 : vs9 3 = .slice (some ⟨b,off,none⟩) L.length cL := hG9 3 (by decide)
     have e4 : vs9 4 = .int .i64 (i : Int) := hG9 4 (by decide)
     have e5 : vs9 5 = .pointer (some ⟨b,off + i * 2,none⟩) := hG9 5 (by decide)
     have e6 : vs9 6 = .pointer (some ⟨b,off + i * 2,none⟩) := hG9 6 (by decide)
     have e7 : vs9 7 = .slice A1 L[i].key.length C1 := hG9 7 (by decide)
     have e8 : vs9 8 = .int .i64 u := hG9 8 (by decide)
     obtain ⟨gx9,gy9,e9,_⟩ := hG9 9 (by decide)
     obtain ⟨gx10,gy10,e10,_⟩ := hG9 10 (by decide)
     obtain ⟨gx11,gy11,e11,_⟩ := hG9 11 (by decide)
     have e12 : vs9 12 = .bool true := hG9 12 (by decide)
     obtain ⟨gx13,gy13,e13,rv⟩ := hG9 13 (by decide)
     have e14 : vs9 14 = .bool true := hG9 14 (by decide)
     simp only [putAll,e0,e1,e2,e3,e4,e5,e6,e7,e8,e9,e10,e11,e12,e13,e14]
     clear hG9 e0 e1 e2 e3 e4 e5 e6 e7 e8 e9 e10 e11 e12 e13 e14
     clear g0 g1 hk1 hk2 b0
     replace q2 := q2.trans (hb9.mono q2.size)
     clear hb9
     go_simp
     go_upto_region 11 with (fail)
     obtain ⟨b',off',A1,C1,A2,C2,eL,hb0,g0,g1,hk1,hk2⟩ := (rrL.below q2).pq i hlt
     injection eL with eL
     injection eL with eb eo _
     subst eb eo
     clear hb0
     have r1 := hk1.rd
     have r2 := hk2.rd
     have r3 := rv.rd
     have d0 : ((strOf L[i].val).toList == (strOf L[i].val).toList) = true := beq_self_eq_true _
     cases i with
     | zero =>
      simp only [Nat.zero_mul,Nat.add_zero] at g0 g1
      refine wp_region_quiet_lit (by kernel_rfl) (by kernel_rfl) ?_
      repeat (first | go_big_quiet_step (fail) | (go_big_quiet_want; refine quiet_conv byP rfl rfl r3 ?_; go_big_quiet_on; go_simp) | (go_big_quiet_want; refine quiet_conv byP rfl rfl r2 ?_; go_big_quiet_on; go_simp) | (go_big_quiet_want; refine quiet_conv byP rfl rfl r1 ?_; go_big_quiet_on; go_simp))
      first | (refine wpQuiet_nil ?_; intro _ hw'; obtain ⟨nq,hw''⟩ := hw'; subst hw'') | intro nq
      go_wp2_with fail
      go_roundw
      case rel => exact ⟨1,by go_num,by omega,Below.drewN q2 _⟩
      case measure => simp [intOf]; omega
     | succ i =>
      have hlt' : i < L.length := by omega
      obtain ⟨b',off',A0,C0,A3,C3,eL,hb0,f0,f1,hk3,hk4⟩ := (rrL.below q2).pq i hlt'
      injection eL with eL
      injection eL with eb eo _
      subst eb eo
      clear hb0
      have r4 := hk3.rd
      have e1 : ((i + 1 : Nat) : Int) - 1 = (i : Int) := by omega
      have dl : ltB L[i].key L[i + 1].key = true := List.pairwise_iff_getElem.1 hsrt.out i (i + 1) hlt' hlt (by omega)
      have d4 : Op.bytesLess (strOf L[i].key).toList (strOf L[i + 1].key).toList = true := str_lt7.trans dl
      clear dl
      refine wp_region_quiet_lit (by kernel_rfl) (by kernel_rfl) ?_
      repeat (first | go_big_quiet_step (fail) | (go_big_quiet_want; refine quiet_conv byP rfl rfl r3 ?_; go_big_quiet_on; go_simp) | (go_big_quiet_want; refine quiet_conv byP rfl rfl r2 ?_; go_big_quiet_on; go_simp) | (go_big_quiet_want; refine quiet_conv byP rfl rfl r4 ?_; go_big_quiet_on; go_simp) | (go_big_quiet_want; refine quiet_conv byP rfl rfl r1 ?_; go_big_quiet_on; go_simp))
      first | (refine wpQuiet_nil ?_; intro _ hw'; obtain ⟨nq,hw''⟩ := hw'; subst hw'') | intro nq
      go_wp2_with fail
      go_roundw
      case rel => exact ⟨i + 2,by go_num,by omega,Below.drewN q2 _⟩
      case measure => simp [intOf]; omega
    ·obtain rfl : i = L.length := by omega
     have hz : decide ((L.length : Int) < (L.length : Int)) = false := decide_eq_false (by omega)
     replace Bs := Bs.below q2 Bs.lt
     replace Bx := Bx.below q2 Bx.lt
     replace rrL := rrL.below q2
     replace rrA := rrA.below q2
     replace rrB := rrB.below q2
     replace q := q.trans (q2.mono q.size)
     clear q2 hge hil
     go_upto_region 13 with (fail)
     obtain ⟨U,hU⟩ : ∃ V,V = wr := ⟨_,rfl⟩
     rw [← hU] at q rrL rrA rrB
     rw [← hU]
     clear hU
     have rL : RdL Elt.pq (· < U.heap.size) U _ _ := rrL.fit.weak fun k hk => hk.2
     have rA : RdL Elt.pq (· < U.heap.size) U _ _ := rrA.fit.weak fun k hk => hk.2
     have rB : RdL Elt.pq (· < U.heap.size) U _ _ := rrB.fit.weak fun k hk => hk.2
     have hlA : LA.length + LB.length = L.length := by rw [hsum.out,List.length_append]
     have hL60 := hLs.out
     clear rrL rrA rrB
     go_wp2_with (first
      | (refine wpList_buildZero (E := Elt.pq) pqP rfl rfl ?_; intro w5 hb5 hO5)
      | (refine wpList_append_zeroL (E := Elt.pq) pqP rfl rfl rfl (hO5.to (Nat.le_refl _) (Nat.zero_le _)) rfl ((rA.below hb5).weak fun k hk => hk) (fun k hk => ⟨Nat.zero_le _,Nat.lt_of_lt_of_le hk hb5.size⟩) hb5.size ?_ (by omega); intro ad6 k6 c6 w6 hO6 hb6)
      | (refine wpList_appendRL (E := Elt.pq) pqP rfl rfl rfl hO6 rfl ((rB.below hb5).below hb6) (fun k hk => ⟨Nat.zero_le _,Nat.lt_of_lt_of_le hk (Nat.le_trans hb5.size hb6.size),fun e => by have := (hO6.block_lt k e.symm).1; omega⟩) (Nat.le_trans hb5.size hb6.size) ?_ (by omega); intro ad7 k7 c7 w7 hO7 hg7)
      | fail)
     have rL7 : RdL Elt.pq (· < U.heap.size) w7 _ _ := ((rL.below hb5).below hb6).keep fun k hk => hg7.block k (Nat.lt_of_lt_of_le hk (Nat.le_trans hb5.size hb6.size)) (fun e => by have := (hO6.block_lt k e.symm).1; omega)
     have hcl := refPq_any w7 rL7 hO7.rdL
     rw [decide_eq_true hsum.out] at hcl
     refine hcl.mono ?_
     rintro e w8 ⟨rfl,hb8⟩
     go_wp2_with fail
     go_ret
     exact ⟨rfl,q.trans (((hb5.trans (hb6.mono hb5.size)).grown hg7 (Nat.le_trans hb5.size hb6.size) (fun k hk => (hO6.block_lt k hk).1) |>.trans (hb8.mono (Nat.le_trans (Nat.le_trans hb5.size hb6.size) hg7.size))).mono q.size)⟩
end Go.Proofs.YtlpfhgdnmjkngaaGreat
