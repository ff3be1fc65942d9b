/-
  TEXTS OF ONE PROOF, merged: StoreTurnsW.
-/
import Derived.Test.YtlpfhgdnmjkngaaGreatKr1
import Derived.Test.YtlpfhgdnmjkngaaGreatKr2
import Derived.Test.YtlpfhgdnmjkngaaGreatKr3
import Derived.Test.YtlpfhgdnmjkngaaGreatKr4
import Derived.Test.YtlpfhgdnmjkngaaGreatKr5
import Derived.Test.YtlpfhgdnmjkngaaGreatKr6
import Derived.Test.YtlpfhgdnmjkngaaGreatKr7
import Derived.Test.YtlpfhgdnmjkngaaGreatKr8
import Derived.Test.YtlpfhgdnmjkngaaGreatKr9
import Derived.Test.YtlpfhgdnmjkngaaGreatKr10
import Derived.Test.YtlpfhgdnmjkngaaGreatKr11
import Derived.Test.YtlpfhgdnmjkngaaGreatKr12
import Derived.Test.YtlpfhgdnmjkngaaGreatKr13
import Derived.Test.YtlpfhgdnmjkngaaGreatKr14
import Derived.Test.YtlpfhgdnmjkngaaGreatKr15
import Derived.Test.YtlpfhgdnmjkngaaGreatKr16
import Derived.Test.YtlpfhgdnmjkngaaGreatKr17
import Derived.Test.YtlpfhgdnmjkngaaGreatKs1
namespace Go.Proofs.YtlpfhgdnmjkngaaGreat
open Go.RowKit Go.Shelf
set_option maxRecDepth 100000 in
set_option maxHeartbeats 16000000 in
theorem StoreTurns_w (w : World) {cs0 cs3 : Array Value} {s u : Int} {T : Sto} {x : Sp} {A : Option Addr} {n C : Nat} {l : List Wr} (h0 : RdSt (· < w.heap.size) w (.agg cs0) T) (h1 : (Lit.int .i64 s).wf = true) (h2 : RdL Elt.wr (· < w.heap.size) w (.slice A n C) l) (h3 : RdSp (· < w.heap.size) w (.agg cs3) x) (h4 : (Lit.int .i64 u).wf = true) :
  Calls Tryz.prog 10 #[.agg cs0,.int .i64 s,.slice A n C,.agg cs3,.int .i64 u] w fun e w' => e = .returned (.bool true) ∧ Below w.heap.size w w' := by
 have _ := h4
 obtain ⟨rfl,hlc,hlm⟩ := h2.len
 have hlm2 : l.length ≤ 9223372036854775807 := by unfold maxLen at hlm; omega
 have hd := h0
 obtain ⟨aS,mS,cS,e,hS0⟩ := h0
 injection e with e
 subst e
 clear hS0
 have hx := h3
 obtain ⟨xl,xc,xh,xd,e,hl0,hh0,hxt⟩ := h3
 injection e with e
 subst e
 clear hl0 hh0
 obtain ⟨W0,hW,q,Bs,Bx,hsz⟩ := stBoxes w 29 32 [.slice (aS 0) (mS 0) (cS 0),.slice (aS 1) (mS 1) (cS 1),.slice (aS 2) (mS 2) (cS 2),.slice (aS 3) (mS 3) (cS 3),.slice (aS 4) (mS 4) (cS 4),.slice (aS 5) (mS 5) (cS 5),.slice (aS 6) (mS 6) (cS 6),.slice (aS 7) (mS 7) (cS 7),.slice (aS 8) (mS 8) (cS 8),.slice (aS 9) (mS 9) (cS 9),.slice (aS 10) (mS 10) (cS 10),.slice (aS 11) (mS 11) (cS 11)] [.int .i64 x.table,.slice xl x.lo.length xc,.slice xh x.hi.length xd,.bool x.isOpen]
 clear hsz
 replace Bs : StB W0 w.heap.size aS mS cS := Bs
 go_enter Tryz.func10,Tryz.ntmps10
 go_upto_region 1 with (fail)
 rw [show (w.alloc (.cells #[.slice (aS 0) (mS 0) (cS 0),.slice (aS 1) (mS 1) (cS 1),.slice (aS 2) (mS 2) (cS 2),.slice (aS 3) (mS 3) (cS 3),.slice (aS 4) (mS 4) (cS 4),.slice (aS 5) (mS 5) (cS 5),.slice (aS 6) (mS 6) (cS 6),.slice (aS 7) (mS 7) (cS 7),.slice (aS 8) (mS 8) (cS 8),.slice (aS 9) (mS 9) (cS 9),.slice (aS 10) (mS 10) (cS 10),.slice (aS 11) (mS 11) (cS 11)] 29)).alloc (.cells #[.int .i64 x.table,.slice xl x.lo.length xc,.slice xh x.hi.length xd,.bool x.isOpen] 32) = W0 from hW.symm]
 clear hW
 go_wp2_with fail
 refine (awake7_any W0).mono ?_
 rintro e w1 ⟨rfl,hb⟩
 replace Bs := Bs.below hb Bs.lt
 replace Bx := Bx.below hb Bx.lt
 replace q := q.trans (hb.mono q.size)
 clear hb
 obtain ⟨d0,d1,d2,d3,d4,d5,d6,d7,d8,d9,d10,d11⟩ := Bs.c12
 have hcl := refSmallS_any _ (hd.below q)
 go_wp2_with fail
 refine hcl.mono ?_
 rintro e ws1 ⟨rfl,hb⟩
 clear hcl d0 d1 d2 d3 d4 d5 d6 d7 d8 d9 d10 d11
 replace Bs := Bs.below hb Bs.lt
 replace Bx := Bx.below hb Bx.lt
 replace q := q.trans (hb.mono q.size)
 clear hb
 by_cases hs : smallS T
 case neg =>
  rw [decide_eq_false hs]
  go_wp2_with fail
  go_ret
  exact ⟨rfl,q⟩
 rw [decide_eq_true hs]
 have hcl := few7_any _ (h2.below q)
 go_wp2_with fail
 refine hcl.mono ?_
 rintro e wf ⟨rfl,hb⟩
 clear hcl
 replace Bs := Bs.below hb Bs.lt
 replace Bx := Bx.below hb Bx.lt
 replace q := q.trans (hb.mono q.size)
 clear hb
 by_cases hfw : fewW l
 case neg =>
  rw [decide_eq_false hfw]
  go_wp2_with fail
  go_ret
  exact ⟨rfl,q⟩
 rw [decide_eq_true hfw]
 obtain ⟨b0,b1,b2,b3⟩ := Bx.c4
 have hcl := short7_any _ (hx.below q)
 go_wp2_with fail
 refine hcl.mono ?_
 rintro e wh ⟨rfl,hb⟩
 clear hcl b0 b1 b2 b3
 replace Bs := Bs.below hb Bs.lt
 replace Bx := Bx.below hb Bx.lt
 replace q := q.trans (hb.mono q.size)
 clear hb
 by_cases hsh : shS x
 case neg =>
  rw [decide_eq_false hsh]
  go_wp2_with fail
  go_ret
  exact ⟨rfl,q⟩
 rw [decide_eq_true hsh]
 have hln := hfw.1
 clear hfw hsh
 go_upto_region 6 with (fail)
 obtain ⟨V,hV⟩ : ∃ V,V = wh := ⟨_,rfl⟩
 rw [← hV] at q Bs Bx
 rw [← hV]
 clear hV
 have hqz := q.size
 go_loopw [12,13] (fun tv iv wr => ∃ m : Nat,iv = .int .i64 ((m : Int) - 1) ∧ m ≤ l.length ∧ OwnL Elt.wr 51 V.heap.size 0 wr tv (l.drop m).reverse ∧ (∀ i j (hi : i < j) (hj : j < l.length),m ≤ j → ¬ (l[i].table = l[j].table ∧ l[i].key = l[j].key)) ∧ Below V.heap.size V wr) (fun _ iv _ => (intOf iv + 1).toNat)
 case atStart => exact ⟨l.length,rfl,Nat.le_refl _,by rw [List.drop_length]; exact OwnL.nil _ _ _ _ _,fun i j hi hj hm => absurd hm (by omega),Below.refl _ _⟩
 case round =>
 obtain ⟨m,rfl,hm,hO,hun,q2⟩ := hrel
 rcases m with _ | j
 ·have hz : decide ((0 : Int) ≤ ((0 : Nat) : Int) - 1) = false := rfl
  have hu : unlike l := List.pairwise_iff_getElem.2 fun i j hi hj hij => hun i j hij hj (Nat.zero_le _)
  clear hun
  replace hu := Lib.hid hu
  rw [List.drop_zero] at hO
  obtain ⟨at',ct,rfl⟩ := hO.shape
  obtain ⟨nt,hnt⟩ : ∃ n,n = l.reverse.length := ⟨_,rfl⟩
  rw [← hnt] at hO
  rw [← hnt]
  clear hnt
  have rT : RdL Elt.wr (fun _ => True) wr _ _ := hO.rdL.weak fun _ _ => trivial
  clear hO
  replace Bs := Bs.below q2 Bs.lt
  replace Bx := Bx.below q2 Bx.lt
  replace q := q.trans (q2.mono q.size)
  clear q2 hqz
  go_upto_region 14 with (fail)
  obtain ⟨d0,d1,d2,d3,d4,d5,d6,d7,d8,d9,d10,d11⟩ := Bs.c12
  have hcl := sInstall_any _ (T := T) (s := s) (l := l) (K := 20) (hd.below q) (smallS_fit hs) (wf_I64 h1) (h2.below q) (fun _ => smallS_ch hs) (by omega)
  unfold InsEnd at hcl
  obtain ⟨erA,herA⟩ : ∃ n,n = (instI T s l).2 := ⟨_,rfl⟩
  rw [← herA] at hcl
  replace herA := Lib.hid herA
  go_wp2_with fail
  refine hcl.mono ?_
  rintro e wcA ⟨vA,TA,rfl,⟨aA,mA,cA,rfl,hA⟩,hb,hIA⟩
  clear hcl
  replace Bs := Bs.below hb Bs.lt
  replace Bx := Bx.below hb Bx.lt
  replace rT := rT.below hb
  replace q := q.trans (hb.mono q.size)
  clear hb
  have rA : RdSt (fun _ => True) wcA (.agg #[.slice (aA 0) (mA 0) (cA 0),.slice (aA 1) (mA 1) (cA 1),.slice (aA 2) (mA 2) (cA 2),.slice (aA 3) (mA 3) (cA 3),.slice (aA 4) (mA 4) (cA 4),.slice (aA 5) (mA 5) (cA 5),.slice (aA 6) (mA 6) (cA 6),.slice (aA 7) (mA 7) (cA 7),.slice (aA 8) (mA 8) (cA 8),.slice (aA 9) (mA 9) (cA 9),.slice (aA 10) (mA 10) (cA 10),.slice (aA 11) (mA 11) (cA 11)]) TA := ⟨aA,mA,cA,rfl,fun i hi => (hA i hi).weak fun _ _ => trivial⟩
  clear hA
  go_upto_region 15 with (first | (refine wpList_boxNew (vs := [.slice none 0 0,.slice none 0 0,.slice none 0 0,.slice none 0 0,.slice none 0 0,.slice none 0 0,.slice none 0 0,.slice none 0 0,.slice none 0 0,.slice none 0 0,.slice none 0 0,.slice none 0 0]) (by kernel_rfl) rfl rfl ?_; intro wa hba hBa) | (refine wpList_boxStore (us := [.slice (aA 0) (mA 0) (cA 0),.slice (aA 1) (mA 1) (cA 1),.slice (aA 2) (mA 2) (cA 2),.slice (aA 3) (mA 3) (cA 3),.slice (aA 4) (mA 4) (cA 4),.slice (aA 5) (mA 5) (cA 5),.slice (aA 6) (mA 6) (cA 6),.slice (aA 7) (mA 7) (cA 7),.slice (aA 8) (mA 8) (cA 8),.slice (aA 9) (mA 9) (cA 9),.slice (aA 10) (mA 10) (cA 10),.slice (aA 11) (mA 11) (cA 11)]) (by kernel_rfl) rfl rfl rfl rfl rfl rfl hBa rfl ?_; intro wbA hgw xA) | fail)
  try go_simp
  have hbw := hba.grown hgw hba.size fun k hk => by injection hk with hk; omega
  replace Bs := Bs.below hbw Bs.lt
  replace Bx := Bx.below hbw Bx.lt
  replace rT := rT.below hbw
  replace rA := rA.below hbw
  replace q := q.trans (hbw.mono q.size)
  clear hbw hgw hba hBa
  replace xA : StB _ _ aA mA cA := xA
  clear d0 d1 d2 d3 d4 d5 d6 d7 d8 d9 d10 d11
  obtain ⟨d0,d1,d2,d3,d4,d5,d6,d7,d8,d9,d10,d11⟩ := Bs.c12
  have hcl := sInstall_any _ (T := T) (s := s) (l := l.reverse) (K := 20) (hd.below q) (smallS_fit hs) (wf_I64 h1) rT (fun _ => smallS_ch hs) (by simp; omega)
  unfold InsEnd at hcl
  obtain ⟨erB,herB⟩ : ∃ n,n = (instI T s l.reverse).2 := ⟨_,rfl⟩
  rw [← herB] at hcl
  replace herB := Lib.hid herB
  go_wp2_with fail
  refine hcl.mono ?_
  rintro e wcB ⟨vB,TB,rfl,⟨aB,mB,cB,rfl,hB⟩,hb,hIB⟩
  clear hcl
  replace Bs := Bs.below hb Bs.lt
  replace Bx := Bx.below hb Bx.lt
  replace rT := rT.below hb
  replace rA := rA.below hb
  replace xA := xA.below hb xA.lt
  replace q := q.trans (hb.mono q.size)
  clear hb
  have rB : RdSt (fun _ => True) wcB (.agg #[.slice (aB 0) (mB 0) (cB 0),.slice (aB 1) (mB 1) (cB 1),.slice (aB 2) (mB 2) (cB 2),.slice (aB 3) (mB 3) (cB 3),.slice (aB 4) (mB 4) (cB 4),.slice (aB 5) (mB 5) (cB 5),.slice (aB 6) (mB 6) (cB 6),.slice (aB 7) (mB 7) (cB 7),.slice (aB 8) (mB 8) (cB 8),.slice (aB 9) (mB 9) (cB 9),.slice (aB 10) (mB 10) (cB 10),.slice (aB 11) (mB 11) (cB 11)]) TB := ⟨aB,mB,cB,rfl,fun i hi => (hB i hi).weak fun _ _ => trivial⟩
  clear hB
  go_upto_region 16 with (first | (refine wpList_boxNew (vs := [.slice none 0 0,.slice none 0 0,.slice none 0 0,.slice none 0 0,.slice none 0 0,.slice none 0 0,.slice none 0 0,.slice none 0 0,.slice none 0 0,.slice none 0 0,.slice none 0 0,.slice none 0 0]) (by kernel_rfl) rfl rfl ?_; intro wa hba hBa) | (refine wpList_boxStore (us := [.slice (aB 0) (mB 0) (cB 0),.slice (aB 1) (mB 1) (cB 1),.slice (aB 2) (mB 2) (cB 2),.slice (aB 3) (mB 3) (cB 3),.slice (aB 4) (mB 4) (cB 4),.slice (aB 5) (mB 5) (cB 5),.slice (aB 6) (mB 6) (cB 6),.slice (aB 7) (mB 7) (cB 7),.slice (aB 8) (mB 8) (cB 8),.slice (aB 9) (mB 9) (cB 9),.slice (aB 10) (mB 10) (cB 10),.slice (aB 11) (mB 11) (cB 11)]) (by kernel_rfl) rfl rfl rfl rfl rfl rfl hBa rfl ?_; intro wbB hgw xB) | fail)
  try go_simp
  have hbw := hba.grown hgw hba.size fun k hk => by injection hk with hk; omega
  replace Bs := Bs.below hbw Bs.lt
  replace Bx := Bx.below hbw Bx.lt
  replace rT := rT.below hbw
  replace rA := rA.below hbw
  replace xA := xA.below hbw xA.lt
  replace rB := rB.below hbw
  replace q := q.trans (hbw.mono q.size)
  clear hbw hgw hba hBa
  replace xB : StB _ _ aB mB cB := xB
  clear d0 d1 d2 d3 d4 d5 d6 d7 d8 d9 d10 d11
  clear rT
  have hfA := hIA.fits (smallS_fit hs) (by omega)
  have hfB := hIB.fits (smallS_fit hs) (by simp; omega)
  obtain ⟨t1,t2,t3⟩ := turns_of hu.out hIA hIB (by omega)
  obtain ⟨z,hzA⟩ : ∃ z,decide ((erA : Int) = 0) = z := ⟨_,rfl⟩
  have hzB : decide ((erB : Int) = 0) = z := by
   rw [← hzA,decide_eq_decide]
   have e1 := herA.out
   have e2 := herB.out
   rw [← e1,← e2] at t1
   omega
  obtain ⟨ck,hck⟩ : ∃ b,b = decide (okS T) := ⟨_,rfl⟩
  have hcA : decide (okS TA) = ck := by rw [hck,decide_eq_decide]; exact t3
  clear t1 t3 hIA hIB herA herB hu
  have eA : ∀ args w,(callFunc 19 args).run Tryz.prog w = .ok (.enter 19 args) w := enters_of Tryz.func19 (by kernel_rfl) rfl
  have eB : ∀ args w,(callFunc 18 args).run Tryz.prog w = .ok (.enter 18 args) w := enters_of Tryz.func18 (by kernel_rfl) rfl
  have eC : ∀ args w,(callFunc 21 args).run Tryz.prog w = .ok (.enter 21 args) w := enters_of Tryz.func21 (by kernel_rfl) rfl
  obtain ⟨U,hU⟩ : ∃ V,V = wbB := ⟨_,rfl⟩
  rw [← hU] at q Bs Bx rA xA rB xB
  rw [← hU]
  clear hU
  have hdU := hd.below q
  have hxU := hx.below q
  obtain ⟨L,hL⟩ : ∃ l,l = scanP (pickS TB x.table) x u := ⟨_,rfl⟩
  have k1 := fun (V : World) (hV : Below U.heap.size U V) => sScan_any V (s := u) (rA.below hV) hfA (hxU.below hV)
  have k2 := fun (V : World) (hV : Below U.heap.size U V) => sScan_any V (s := u) (rB.below hV) hfB (hxU.below hV)
  have k3 := fun (V : World) (hV : Below U.heap.size U V) => sCheck_any V (rA.below hV) hfA
  have k4 := fun (V : World) (hV : Below U.heap.size U V) => sCheck_any V (hdU.below hV) (smallS_fit hs)
  rw [t2,← hL] at k1
  rw [← hL] at k2
  rw [hcA] at k3
  rw [← hck] at k4
  clear t2 hL hcA hck
  refine wp_region_gsa (by kernel_rfl) (by kernel_rfl) [sgEq (.bool true),sgEq (.bool true),sgEq (.int .i64 (erA : Int)),sgEq (.bool z),sgEq (.int .i64 (erB : Int)),sgEq (.bool z),sgEq (.bool true),sgEq (.bool true),sgEq (.bool true),sgEq (.agg #[.slice (aA 0) (mA 0) (cA 0),.slice (aA 1) (mA 1) (cA 1),.slice (aA 2) (mA 2) (cA 2),.slice (aA 3) (mA 3) (cA 3),.slice (aA 4) (mA 4) (cA 4),.slice (aA 5) (mA 5) (cA 5),.slice (aA 6) (mA 6) (cA 6),.slice (aA 7) (mA 7) (cA 7),.slice (aA 8) (mA 8) (cA 8),.slice (aA 9) (mA 9) (cA 9),.slice (aA 10) (mA 10) (cA 10),.slice (aA 11) (mA 11) (cA 11)]),sgEq (.agg #[.int .i64 x.table,.slice xl x.lo.length xc,.slice xh x.hi.length xd,.bool x.isOpen]),sgEq (.int .i64 u),sgVq L,sgEq (.agg #[.slice (aB 0) (mB 0) (cB 0),.slice (aB 1) (mB 1) (cB 1),.slice (aB 2) (mB 2) (cB 2),.slice (aB 3) (mB 3) (cB 3),.slice (aB 4) (mB 4) (cB 4),.slice (aB 5) (mB 5) (cB 5),.slice (aB 6) (mB 6) (cB 6),.slice (aB 7) (mB 7) (cB 7),.slice (aB 8) (mB 8) (cB 8),.slice (aB 9) (mB 9) (cB 9),.slice (aB 10) (mB 10) (cB 10),.slice (aB 11) (mB 11) (cB 11)]),sgEq (.agg #[.int .i64 x.table,.slice xl x.lo.length xc,.slice xh x.hi.length xd,.bool x.isOpen]),sgEq (.int .i64 u),sgVq L,sgEq (.bool true),sgEq (.bool true),sgEq (.bool true),sgEq (.agg #[.slice (aA 0) (mA 0) (cA 0),.slice (aA 1) (mA 1) (cA 1),.slice (aA 2) (mA 2) (cA 2),.slice (aA 3) (mA 3) (cA 3),.slice (aA 4) (mA 4) (cA 4),.slice (aA 5) (mA 5) (cA 5),.slice (aA 6) (mA 6) (cA 6),.slice (aA 7) (mA 7) (cA 7),.slice (aA 8) (mA 8) (cA 8),.slice (aA 9) (mA 9) (cA 9),.slice (aA 10) (mA 10) (cA 10),.slice (aA 11) (mA 11) (cA 11)]),sgEq (.bool ck),sgEq (.agg #[.slice (aS 0) (mS 0) (cS 0),.slice (aS 1) (mS 1) (cS 1),.slice (aS 2) (mS 2) (cS 2),.slice (aS 3) (mS 3) (cS 3),.slice (aS 4) (mS 4) (cS 4),.slice (aS 5) (mS 5) (cS 5),.slice (aS 6) (mS 6) (cS 6),.slice (aS 7) (mS 7) (cS 7),.slice (aS 8) (mS 8) (cS 8),.slice (aS 9) (mS 9) (cS 9),.slice (aS 10) (mS 10) (cS 10),.slice (aS 11) (mS 11) (cS 11)]),sgEq (.bool ck),sgEq (.bool true),sgEq (.bool true),sgEq (.bool true)]
   ⟨?o0,?o1,?o2,?o3,?o4,?o5,?o6,?o7,?o8,?o9,?o10,?o11,?o12,?o13,?o14,?o15,?o16,?o17,?o18,?o19,?o20,?o21,?o22,?o23,?o24,?o25,?o26,trivial⟩ ?fin
  case o0 =>
   refine GdOp.plain rfl (fun A vs w' hF hT hb hd => ?_)
   have e1 : A.eval (.tmp 11) = .bool true := hF 11 rfl
   exact BigFrame.wp_move _ rfl ⟨_,rfl,e1,Below.refl _ _⟩
  case o1 =>
   refine GdOp.plain rfl (fun A vs w' hF hT hb hd => ?_)
   have e1 : A.eval (.tmp 94) = .bool true := (hT 94 0 (by simp) rfl).trans (hd ⟨0,.data⟩ (by simp) rfl)
   exact BigFrame.wp_move _ rfl ⟨_,rfl,e1,Below.refl _ _⟩
  case o2 =>
   refine GdOp.taken rfl ⟨_,_,rfl,rfl,by simp⟩ (by kernel_rfl) (fun w v h => h) (fun A vs w' hF hT hb hd => ?_)
   have e1 : A.eval (.tmp 16) = .int .i64 (erA : Int) := hF 16 rfl
   exact BigFrame.wp_move _ rfl ⟨_,rfl,e1,Below.refl _ _⟩
  case o3 =>
   refine GdOp.taken rfl ⟨_,_,rfl,rfl,by simp⟩ (by kernel_rfl) (fun w v h => h) (fun A vs w' hF hT hb hd => ?_)
   have e1 : A.eval (.tmp 96) = .int .i64 (erA : Int) := (hT 96 2 (by simp) rfl).trans (hd ⟨2,.data⟩ (by simp) rfl)
   exact wp_eqlI rfl e1 rfl ⟨_,rfl,congrArg Value.bool hzA,Below.refl _ _⟩
  case o4 =>
   refine GdOp.taken rfl ⟨_,_,rfl,rfl,by simp⟩ (by kernel_rfl) (fun w v h => h) (fun A vs w' hF hT hb hd => ?_)
   have e1 : A.eval (.tmp 18) = .int .i64 (erB : Int) := hF 18 rfl
   exact BigFrame.wp_move _ rfl ⟨_,rfl,e1,Below.refl _ _⟩
  case o5 =>
   refine GdOp.taken rfl ⟨_,_,rfl,rfl,by simp⟩ (by kernel_rfl) (fun w v h => h) (fun A vs w' hF hT hb hd => ?_)
   have e1 : A.eval (.tmp 98) = .int .i64 (erB : Int) := (hT 98 4 (by simp) rfl).trans (hd ⟨4,.data⟩ (by simp) rfl)
   exact wp_eqlI rfl e1 rfl ⟨_,rfl,congrArg Value.bool hzB,Below.refl _ _⟩
  case o6 =>
   refine GdOp.taken rfl ⟨_,_,rfl,rfl,by simp⟩ (by kernel_rfl) (fun w v h => h) (fun A vs w' hF hT hb hd => ?_)
   have e1 : A.eval (.tmp 97) = .bool z := (hT 97 3 (by simp) rfl).trans (hd ⟨3,.data⟩ (by simp) rfl)
   have e2 : A.eval (.tmp 99) = .bool z := (hT 99 5 (by simp) rfl).trans (hd ⟨5,.data⟩ (by simp) rfl)
   exact wp_eqlB (by kernel_rfl) rfl e1 e2 ⟨_,rfl,congrArg Value.bool (beq_self_eq_true _),Below.refl _ _⟩
  case o7 =>
   refine GdOp.plain rfl (fun A vs w' hF hT hb hd => ?_)
   have e1 : A.eval (.tmp 95) = .bool true := (hT 95 1 (by simp) rfl).trans (hd ⟨1,.data⟩ (by simp) rfl)
   have e2 : A.eval (.tmp 100) = .bool true := (hT 100 6 (by simp) rfl).trans (hd ⟨6,.data⟩ (by simp) rfl)
   exact wp_pk rfl e1 (fun _ => e2) (by simp) ⟨_,rfl,rfl,Below.refl _ _⟩
  case o8 =>
   refine GdOp.plain rfl (fun A vs w' hF hT hb hd => ?_)
   have e1 : A.eval (.tmp 101) = .bool true := (hT 101 7 (by simp) rfl).trans (hd ⟨7,.data⟩ (by simp) rfl)
   exact BigFrame.wp_move _ rfl ⟨_,rfl,e1,Below.refl _ _⟩
  case o9 =>
   refine GdOp.taken rfl ⟨_,_,rfl,rfl,by simp⟩ (by kernel_rfl) (fun w v h => h) (fun A vs w' hF hT hb hd => ?_)
   have e1 : A.eval (.tmp 15) = .pointer (some ⟨wcA.heap.size,0,none⟩) := hF 15 rfl
   exact wp_loadQ (us := [.slice (aA 0) (mA 0) (cA 0),.slice (aA 1) (mA 1) (cA 1),.slice (aA 2) (mA 2) (cA 2),.slice (aA 3) (mA 3) (cA 3),.slice (aA 4) (mA 4) (cA 4),.slice (aA 5) (mA 5) (cA 5),.slice (aA 6) (mA 6) (cA 6),.slice (aA 7) (mA 7) (cA 7),.slice (aA 8) (mA 8) (cA 8),.slice (aA 9) (mA 9) (cA 9),.slice (aA 10) (mA 10) (cA 10),.slice (aA 11) (mA 11) (cA 11)]) stS7 rfl e1 (fun j v hj => by rw [Nat.zero_add]; exact (BoxN.below xA hb xA.lt).cell hj) ⟨_,rfl,rfl,Below.refl _ _⟩
  case o10 =>
   refine GdOp.taken rfl ⟨_,_,rfl,rfl,by simp⟩ (by kernel_rfl) (fun w v h => h) (fun A vs w' hF hT hb hd => ?_)
   have e1 : A.eval (.tmp 8) = .pointer (some ⟨w.heap.size + 1,0,none⟩) := hF 8 rfl
   exact wp_loadQ (us := [.int .i64 x.table,.slice xl x.lo.length xc,.slice xh x.hi.length xd,.bool x.isOpen]) spQ7 rfl e1 (fun j v hj => by rw [Nat.zero_add]; exact (Bx.below hb Bx.lt).cell hj) ⟨_,rfl,rfl,Below.refl _ _⟩
  case o11 =>
   refine GdOp.taken rfl ⟨_,_,rfl,rfl,by simp⟩ (by kernel_rfl) (fun w v h => h) (fun A vs w' hF hT hb hd => ?_)
   have e1 : A.eval (.tmp 4) = .int .i64 u := hF 4 rfl
   exact BigFrame.wp_move _ rfl ⟨_,rfl,e1,Below.refl _ _⟩
  case o12 =>
   refine GdOp.taken rfl ⟨_,_,rfl,rfl,by simp⟩ (by kernel_rfl) (fun w v h => h) (fun A vs w' hF hT hb hd => ?_)
   have e1 : A.eval (.tmp 103) = .agg #[.slice (aA 0) (mA 0) (cA 0),.slice (aA 1) (mA 1) (cA 1),.slice (aA 2) (mA 2) (cA 2),.slice (aA 3) (mA 3) (cA 3),.slice (aA 4) (mA 4) (cA 4),.slice (aA 5) (mA 5) (cA 5),.slice (aA 6) (mA 6) (cA 6),.slice (aA 7) (mA 7) (cA 7),.slice (aA 8) (mA 8) (cA 8),.slice (aA 9) (mA 9) (cA 9),.slice (aA 10) (mA 10) (cA 10),.slice (aA 11) (mA 11) (cA 11)] := (hT 103 9 (by simp) rfl).trans (hd ⟨9,.data⟩ (by simp) rfl)
   have e2 : A.eval (.tmp 104) = .agg #[.int .i64 x.table,.slice xl x.lo.length xc,.slice xh x.hi.length xd,.bool x.isOpen] := (hT 104 10 (by simp) rfl).trans (hd ⟨10,.data⟩ (by simp) rfl)
   have e3 : A.eval (.tmp 105) = .int .i64 u := (hT 105 11 (by simp) rfl).trans (hd ⟨11,.data⟩ (by simp) rfl)
   refine wp_callFn rfl eA (args := #[.agg #[.slice (aA 0) (mA 0) (cA 0),.slice (aA 1) (mA 1) (cA 1),.slice (aA 2) (mA 2) (cA 2),.slice (aA 3) (mA 3) (cA 3),.slice (aA 4) (mA 4) (cA 4),.slice (aA 5) (mA 5) (cA 5),.slice (aA 6) (mA 6) (cA 6),.slice (aA 7) (mA 7) (cA 7),.slice (aA 8) (mA 8) (cA 8),.slice (aA 9) (mA 9) (cA 9),.slice (aA 10) (mA 10) (cA 10),.slice (aA 11) (mA 11) (cA 11)],.agg #[.int .i64 x.table,.slice xl x.lo.length xc,.slice xh x.hi.length xd,.bool x.isOpen],.int .i64 u]) (by simp only [List.map_toArray,List.map_cons,List.map_nil,e1,e2,e3]) ((k1 w' hb).mono ?_)
   rintro e w2 ⟨a9,c9,rfl,ho9,hb2⟩
   exact ⟨_,rfl,_,rfl,⟨a9,c9,rfl,ho9.weak fun _ _ => trivial⟩,hb2⟩
  case o13 =>
   refine GdOp.taken rfl ⟨_,_,rfl,rfl,by simp⟩ (by kernel_rfl) (fun w v h => h) (fun A vs w' hF hT hb hd => ?_)
   have e1 : A.eval (.tmp 17) = .pointer (some ⟨wcB.heap.size,0,none⟩) := hF 17 rfl
   exact wp_loadQ (us := [.slice (aB 0) (mB 0) (cB 0),.slice (aB 1) (mB 1) (cB 1),.slice (aB 2) (mB 2) (cB 2),.slice (aB 3) (mB 3) (cB 3),.slice (aB 4) (mB 4) (cB 4),.slice (aB 5) (mB 5) (cB 5),.slice (aB 6) (mB 6) (cB 6),.slice (aB 7) (mB 7) (cB 7),.slice (aB 8) (mB 8) (cB 8),.slice (aB 9) (mB 9) (cB 9),.slice (aB 10) (mB 10) (cB 10),.slice (aB 11) (mB 11) (cB 11)]) stS7 rfl e1 (fun j v hj => by rw [Nat.zero_add]; exact (BoxN.below xB hb xB.lt).cell hj) ⟨_,rfl,rfl,Below.refl _ _⟩
  case o14 =>
   refine GdOp.taken rfl ⟨_,_,rfl,rfl,by simp⟩ (by kernel_rfl) (fun w v h => h) (fun A vs w' hF hT hb hd => ?_)
   have e1 : A.eval (.tmp 8) = .pointer (some ⟨w.heap.size + 1,0,none⟩) := hF 8 rfl
   exact wp_loadQ (us := [.int .i64 x.table,.slice xl x.lo.length xc,.slice xh x.hi.length xd,.bool x.isOpen]) spQ7 rfl e1 (fun j v hj => by rw [Nat.zero_add]; exact (Bx.below hb Bx.lt).cell hj) ⟨_,rfl,rfl,Below.refl _ _⟩
  case o15 =>
   refine GdOp.taken rfl ⟨_,_,rfl,rfl,by simp⟩ (by kernel_rfl) (fun w v h => h) (fun A vs w' hF hT hb hd => ?_)
   have e1 : A.eval (.tmp 4) = .int .i64 u := hF 4 rfl
   exact BigFrame.wp_move _ rfl ⟨_,rfl,e1,Below.refl _ _⟩
  case o16 =>
   refine GdOp.taken rfl ⟨_,_,rfl,rfl,by simp⟩ (by kernel_rfl) (fun w v h => h) (fun A vs w' hF hT hb hd => ?_)
   have e1 : A.eval (.tmp 107) = .agg #[.slice (aB 0) (mB 0) (cB 0),.slice (aB 1) (mB 1) (cB 1),.slice (aB 2) (mB 2) (cB 2),.slice (aB 3) (mB 3) (cB 3),.slice (aB 4) (mB 4) (cB 4),.slice (aB 5) (mB 5) (cB 5),.slice (aB 6) (mB 6) (cB 6),.slice (aB 7) (mB 7) (cB 7),.slice (aB 8) (mB 8) (cB 8),.slice (aB 9) (mB 9) (cB 9),.slice (aB 10) (mB 10) (cB 10),.slice (aB 11) (mB 11) (cB 11)] := (hT 107 13 (by simp) rfl).trans (hd ⟨13,.data⟩ (by simp) rfl)
   have e2 : A.eval (.tmp 108) = .agg #[.int .i64 x.table,.slice xl x.lo.length xc,.slice xh x.hi.length xd,.bool x.isOpen] := (hT 108 14 (by simp) rfl).trans (hd ⟨14,.data⟩ (by simp) rfl)
   have e3 : A.eval (.tmp 109) = .int .i64 u := (hT 109 15 (by simp) rfl).trans (hd ⟨15,.data⟩ (by simp) rfl)
   refine wp_callFn rfl eA (args := #[.agg #[.slice (aB 0) (mB 0) (cB 0),.slice (aB 1) (mB 1) (cB 1),.slice (aB 2) (mB 2) (cB 2),.slice (aB 3) (mB 3) (cB 3),.slice (aB 4) (mB 4) (cB 4),.slice (aB 5) (mB 5) (cB 5),.slice (aB 6) (mB 6) (cB 6),.slice (aB 7) (mB 7) (cB 7),.slice (aB 8) (mB 8) (cB 8),.slice (aB 9) (mB 9) (cB 9),.slice (aB 10) (mB 10) (cB 10),.slice (aB 11) (mB 11) (cB 11)],.agg #[.int .i64 x.table,.slice xl x.lo.length xc,.slice xh x.hi.length xd,.bool x.isOpen],.int .i64 u]) (by simp only [List.map_toArray,List.map_cons,List.map_nil,e1,e2,e3]) ((k2 w' hb).mono ?_)
   rintro e w2 ⟨a9,c9,rfl,ho9,hb2⟩
   exact ⟨_,rfl,_,rfl,⟨a9,c9,rfl,ho9.weak fun _ _ => trivial⟩,hb2⟩
  case o17 =>
   refine GdOp.taken rfl ⟨_,_,rfl,rfl,by simp⟩ (by kernel_rfl) (fun w v h => h) (fun A vs w' hF hT hb hd => ?_)
   obtain ⟨a1,c1,q1,hr1⟩ := hd ⟨12,.data⟩ (by simp) rfl
   have e1 : A.eval (.tmp 106) = .slice a1 (L).length c1 := (hT 106 12 (by simp) rfl).trans q1
   obtain ⟨a2,c2,q2,hr2⟩ := hd ⟨16,.data⟩ (by simp) rfl
   have e2 : A.eval (.tmp 110) = .slice a2 (L).length c2 := (hT 110 16 (by simp) rfl).trans q2
   refine wp_callFn rfl eB (args := #[.slice a1 L.length c1,.slice a2 L.length c2]) (by simp only [List.map_toArray,List.map_cons,List.map_nil,e1,e2]) ((refPq_any w' hr1 hr2).mono ?_)
   rintro e w2 ⟨rfl,hb2⟩
   exact ⟨_,rfl,_,rfl,congrArg Value.bool (decide_eq_true rfl),hb2⟩
  case o18 =>
   refine GdOp.plain rfl (fun A vs w' hF hT hb hd => ?_)
   have e1 : A.eval (.tmp 102) = .bool true := (hT 102 8 (by simp) rfl).trans (hd ⟨8,.data⟩ (by simp) rfl)
   have e2 : A.eval (.tmp 111) = .bool true := (hT 111 17 (by simp) rfl).trans (hd ⟨17,.data⟩ (by simp) rfl)
   exact wp_pk rfl e1 (fun _ => e2) (by simp) ⟨_,rfl,rfl,Below.refl _ _⟩
  case o19 =>
   refine GdOp.plain rfl (fun A vs w' hF hT hb hd => ?_)
   have e1 : A.eval (.tmp 112) = .bool true := (hT 112 18 (by simp) rfl).trans (hd ⟨18,.data⟩ (by simp) rfl)
   exact BigFrame.wp_move _ rfl ⟨_,rfl,e1,Below.refl _ _⟩
  case o20 =>
   refine GdOp.taken rfl ⟨_,_,rfl,rfl,by simp⟩ (by kernel_rfl) (fun w v h => h) (fun A vs w' hF hT hb hd => ?_)
   have e1 : A.eval (.tmp 15) = .pointer (some ⟨wcA.heap.size,0,none⟩) := hF 15 rfl
   exact wp_loadQ (us := [.slice (aA 0) (mA 0) (cA 0),.slice (aA 1) (mA 1) (cA 1),.slice (aA 2) (mA 2) (cA 2),.slice (aA 3) (mA 3) (cA 3),.slice (aA 4) (mA 4) (cA 4),.slice (aA 5) (mA 5) (cA 5),.slice (aA 6) (mA 6) (cA 6),.slice (aA 7) (mA 7) (cA 7),.slice (aA 8) (mA 8) (cA 8),.slice (aA 9) (mA 9) (cA 9),.slice (aA 10) (mA 10) (cA 10),.slice (aA 11) (mA 11) (cA 11)]) stS7 rfl e1 (fun j v hj => by rw [Nat.zero_add]; exact (BoxN.below xA hb xA.lt).cell hj) ⟨_,rfl,rfl,Below.refl _ _⟩
  case o21 =>
   refine GdOp.taken rfl ⟨_,_,rfl,rfl,by simp⟩ (by kernel_rfl) (fun w v h => h) (fun A vs w' hF hT hb hd => ?_)
   have e1 : A.eval (.tmp 114) = .agg #[.slice (aA 0) (mA 0) (cA 0),.slice (aA 1) (mA 1) (cA 1),.slice (aA 2) (mA 2) (cA 2),.slice (aA 3) (mA 3) (cA 3),.slice (aA 4) (mA 4) (cA 4),.slice (aA 5) (mA 5) (cA 5),.slice (aA 6) (mA 6) (cA 6),.slice (aA 7) (mA 7) (cA 7),.slice (aA 8) (mA 8) (cA 8),.slice (aA 9) (mA 9) (cA 9),.slice (aA 10) (mA 10) (cA 10),.slice (aA 11) (mA 11) (cA 11)] := (hT 114 20 (by simp) rfl).trans (hd ⟨20,.data⟩ (by simp) rfl)
   refine wp_callFn rfl eC (args := #[.agg #[.slice (aA 0) (mA 0) (cA 0),.slice (aA 1) (mA 1) (cA 1),.slice (aA 2) (mA 2) (cA 2),.slice (aA 3) (mA 3) (cA 3),.slice (aA 4) (mA 4) (cA 4),.slice (aA 5) (mA 5) (cA 5),.slice (aA 6) (mA 6) (cA 6),.slice (aA 7) (mA 7) (cA 7),.slice (aA 8) (mA 8) (cA 8),.slice (aA 9) (mA 9) (cA 9),.slice (aA 10) (mA 10) (cA 10),.slice (aA 11) (mA 11) (cA 11)]]) (by simp only [List.map_toArray,List.map_cons,List.map_nil,e1]) ((k3 w' hb).mono ?_)
   rintro e w2 ⟨rfl,hb2⟩
   exact ⟨_,rfl,_,rfl,rfl,hb2⟩
  case o22 =>
   refine GdOp.taken rfl ⟨_,_,rfl,rfl,by simp⟩ (by kernel_rfl) (fun w v h => h) (fun A vs w' hF hT hb hd => ?_)
   have e1 : A.eval (.tmp 5) = .pointer (some ⟨w.heap.size,0,none⟩) := hF 5 rfl
   exact wp_loadQ (us := [.slice (aS 0) (mS 0) (cS 0),.slice (aS 1) (mS 1) (cS 1),.slice (aS 2) (mS 2) (cS 2),.slice (aS 3) (mS 3) (cS 3),.slice (aS 4) (mS 4) (cS 4),.slice (aS 5) (mS 5) (cS 5),.slice (aS 6) (mS 6) (cS 6),.slice (aS 7) (mS 7) (cS 7),.slice (aS 8) (mS 8) (cS 8),.slice (aS 9) (mS 9) (cS 9),.slice (aS 10) (mS 10) (cS 10),.slice (aS 11) (mS 11) (cS 11)]) stS7 rfl e1 (fun j v hj => by rw [Nat.zero_add]; exact (BoxN.below Bs hb Bs.lt).cell hj) ⟨_,rfl,rfl,Below.refl _ _⟩
  case o23 =>
   refine GdOp.taken rfl ⟨_,_,rfl,rfl,by simp⟩ (by kernel_rfl) (fun w v h => h) (fun A vs w' hF hT hb hd => ?_)
   have e1 : A.eval (.tmp 116) = .agg #[.slice (aS 0) (mS 0) (cS 0),.slice (aS 1) (mS 1) (cS 1),.slice (aS 2) (mS 2) (cS 2),.slice (aS 3) (mS 3) (cS 3),.slice (aS 4) (mS 4) (cS 4),.slice (aS 5) (mS 5) (cS 5),.slice (aS 6) (mS 6) (cS 6),.slice (aS 7) (mS 7) (cS 7),.slice (aS 8) (mS 8) (cS 8),.slice (aS 9) (mS 9) (cS 9),.slice (aS 10) (mS 10) (cS 10),.slice (aS 11) (mS 11) (cS 11)] := (hT 116 22 (by simp) rfl).trans (hd ⟨22,.data⟩ (by simp) rfl)
   refine wp_callFn rfl eC (args := #[.agg #[.slice (aS 0) (mS 0) (cS 0),.slice (aS 1) (mS 1) (cS 1),.slice (aS 2) (mS 2) (cS 2),.slice (aS 3) (mS 3) (cS 3),.slice (aS 4) (mS 4) (cS 4),.slice (aS 5) (mS 5) (cS 5),.slice (aS 6) (mS 6) (cS 6),.slice (aS 7) (mS 7) (cS 7),.slice (aS 8) (mS 8) (cS 8),.slice (aS 9) (mS 9) (cS 9),.slice (aS 10) (mS 10) (cS 10),.slice (aS 11) (mS 11) (cS 11)]]) (by simp only [List.map_toArray,List.map_cons,List.map_nil,e1]) ((k4 w' hb).mono ?_)
   rintro e w2 ⟨rfl,hb2⟩
   exact ⟨_,rfl,_,rfl,rfl,hb2⟩
  case o24 =>
   refine GdOp.taken rfl ⟨_,_,rfl,rfl,by simp⟩ (by kernel_rfl) (fun w v h => h) (fun A vs w' hF hT hb hd => ?_)
   have e1 : A.eval (.tmp 115) = .bool ck := (hT 115 21 (by simp) rfl).trans (hd ⟨21,.data⟩ (by simp) rfl)
   have e2 : A.eval (.tmp 117) = .bool ck := (hT 117 23 (by simp) rfl).trans (hd ⟨23,.data⟩ (by simp) rfl)
   exact wp_eqlB (by kernel_rfl) rfl e1 e2 ⟨_,rfl,congrArg Value.bool (beq_self_eq_true _),Below.refl _ _⟩
  case o25 =>
   refine GdOp.plain rfl (fun A vs w' hF hT hb hd => ?_)
   have e1 : A.eval (.tmp 113) = .bool true := (hT 113 19 (by simp) rfl).trans (hd ⟨19,.data⟩ (by simp) rfl)
   have e2 : A.eval (.tmp 118) = .bool true := (hT 118 24 (by simp) rfl).trans (hd ⟨24,.data⟩ (by simp) rfl)
   exact wp_pk rfl e1 (fun _ => e2) (by simp) ⟨_,rfl,rfl,Below.refl _ _⟩
  case o26 =>
   refine GdOp.plain rfl (fun A vs w' hF hT hb hd => ?_)
   have e1 : A.eval (.tmp 119) = .bool true := (hT 119 25 (by simp) rfl).trans (hd ⟨25,.data⟩ (by simp) rfl)
   exact BigFrame.wp_assign _ rfl ⟨_,rfl,e1,Below.refl _ _⟩
  case fin =>
  intro A9 vs9 W8 hA9 hb9 hG9
  have e8 : A9.eval (.tmp 10) = .bool true := (hA9.2.2.2 10 26 (by simp) rfl).trans (hG9 26 (by decide))
  have hd9 : A9.defers = [] := hA9.1
  clear hG9 hA9
  go_wp2
  refine bodyPost_ret (v := .bool true) ?_ hd9 ⟨rfl,q.trans (hb9.mono q.size)⟩
  rw [← e8]
  exact results_tmp rfl _ _ _
 ·have e1 : ((j + 1 : Nat) : Int) - 1 = (j : Int) := by omega
  rw [e1]
  clear e1
  have hz : decide ((0 : Int) ≤ (j : Int)) = true := decide_eq_true (by omega)
  have hjl : j < l.length := hm
  obtain ⟨b,off,A1,C1,A2,C2,rfl,hb0,c0,c1,c2,c3,hk1,hk2,hk3⟩ := ((h2.below q).below q2).wr j hjl
  clear hb0
  obtain ⟨at',ct,rfl⟩ := hO.shape
  obtain ⟨xs,hxs⟩ : ∃ xs,xs = (l.drop (j + 1)).reverse := ⟨_,rfl⟩
  rw [← hxs] at hO
  rw [← hxs]
  have hrr : ∀ k,Value.ownBlock (.slice at' xs.length ct) = some k → V.heap.size ≤ k ∧ k < wr.heap.size := fun k hk => hO.block_lt k hk
  have hxl : xs.length + 1 ≤ 1073741824 := by rw [hxs,List.length_reverse,List.length_drop]; omega
  obtain ⟨y,ey⟩ : ∃ y,y = l[j] := ⟨_,rfl⟩
  rw [← ey] at c0 c1 c2 c3 hk1 hk2 hk3
  have hR : Elt.wr.R (· < w.heap.size) wr y (wrC y (.slice A1 y.key.length C1) (.slice A2 y.val.length C2)) := ⟨_,_,rfl,hk1,hk2,hk3⟩
  have hjl2 : ((j : Int) < (l.length : Int)) = True := eq_true (by omega)
  replace hxs := Lib.hid hxs
  replace ey := Lib.hid ey
  replace hun := Lib.hid hun
  go_upto_region 9 with (first
   | (refine wpList_buildOne wrP rfl rfl rfl (us := wrC y (.slice A1 y.key.length C1) (.slice A2 y.val.length C2)) rfl rfl (by decide) (by decide) ?_; intro w4 hrow hb4)
   | (refine wpList_row7 (E := Elt.wr) (n := xs.length + 1) wrP rfl rfl rfl rfl (hO.below hb4) hrow (Elt.below hR hb4) (fun k hk => ⟨Nat.zero_le _,by have := hb4.size; have := q2.size; omega,fun e => by have := (hrr k e.symm).1; omega⟩) (Nat.le_trans q2.size hb4.size) hxl rfl ?_; intro ad9 c9 w5 hO9 hg5)
   | fail)
  have q5 : Below V.heap.size V w5 := (q2.trans (hb4.mono q2.size)).grown hg5 (Nat.le_trans q2.size hb4.size) fun k hk => (hrr k hk).1
  clear hO hrow hb4 hg5 hrr hR c0 c1 c2 c3 hk1 hk2 hk3 q2
  have hO5 : OwnL Elt.wr 51 V.heap.size 0 w5 (.slice ad9 (xs.length + 1) c9) (l.drop j).reverse := by
   have e : (l.drop j).reverse = xs ++ [y] := by rw [List.drop_eq_getElem_cons hjl,List.reverse_cons,hxs.out,ey.out]
   rw [e]
   exact hO9
  clear hO9
  obtain ⟨nt,hnt⟩ : ∃ n,n = xs.length + 1 := ⟨_,rfl⟩
  rw [← hnt] at hO5
  rw [← hnt]
  clear hnt hxs ey hxl
  go_upto_region 10 with (fail)
  go_loopw [14] (fun kv wx => ∃ k : Nat,kv = .int .i64 (k : Int) ∧ k ≤ j ∧ (∀ i (hi : i < k) (hk : k ≤ j),¬ (l[i].table = l[j].table ∧ l[i].key = l[j].key)) ∧ Below w5.heap.size w5 wx) (fun kv _ => j - (intOf kv).toNat)
  case atStart => exact ⟨0,rfl,Nat.zero_le _,fun i hi => absurd hi (Nat.not_lt_zero _),Below.refl _ _⟩
  case round =>
   obtain ⟨k,rfl,hkj,hno,q6⟩ := hrel
   rcases Nat.lt_or_ge k j with hlt | hge
   ·have hy : decide ((k : Int) < (j : Int)) = true := decide_eq_true (by omega)
    have hkl : k < l.length := by omega
    have q7 := q.trans ((q5.trans (q6.mono q5.size)).mono q.size)
    obtain ⟨b',off',A1,C1,A2,C2,eL,hb0,c0,c1,c2,c3,hk1,hk2,hk3⟩ := (h2.below q7).wr k hkl
    injection eL with eL
    injection eL with eb eo _
    subst eb eo
    obtain ⟨b',off',A3,C3,A4,C4,eL,hb1,f0,f1,f2,f3,hk4,hk5,hk6⟩ := (h2.below q7).wr j hjl
    injection eL with eL
    injection eL with eb eo _
    subst eb eo
    have r1 := hk1.rd
    have r2 := hk4.rd
    clear hb0 hb1 c2 c3 f2 f3
    have hnext := Lib.hid (show ¬ (l[k].table = l[j].table ∧ l[k].key = l[j].key) → ∀ i (hi : i < k + 1) (hk : k + 1 ≤ j),¬ (l[i].table = l[j].table ∧ l[i].key = l[j].key) from fun hn i hi hk => by
     rcases Nat.lt_or_ge i k with h | h
     ·exact hno i h (by omega)
     ·obtain rfl : i = k := by omega
      exact hn)
    clear hno
    by_cases ht : l[k].table = l[j].table
    ·have y1 : (l[k].table == l[j].table) = true := beq_iff_eq.2 ht
     have y2 : decide (l[k].table = l[j].table) = true := decide_eq_true ht
     by_cases hk : l[k].key = l[j].key
     ·have y3 : ((strOf l[k].key).toList == (strOf l[j].key).toList) = true := str_eq7.trans (decide_eq_true hk)
      clear ht hk hnext
      go_upto_region 12 with (fail)
      refine wp_region_quiet_lit (by kernel_rfl) (by kernel_rfl) ?_
      repeat (first | go_big_quiet_step (fail) | (go_big_quiet_want; refine quiet_conv byP rfl rfl r1 ?_; go_big_quiet_on; go_simp) | (go_big_quiet_want; refine quiet_conv byP rfl rfl r2 ?_; go_big_quiet_on; go_simp))
      first | (refine wpQuiet_nil ?_; intro _ hw'; obtain ⟨nq,hw''⟩ := hw'; subst hw'') | intro nq
      go_wp2_with fail
      go_ret
      exact ⟨rfl,Below.drewN q7 _⟩
     ·have y3 : ((strOf l[k].key).toList == (strOf l[j].key).toList) = false := str_eq7.trans (decide_eq_false hk)
      replace hk := Lib.hid hk
      clear ht
      go_upto_region 12 with (fail)
      refine wp_region_quiet_lit (by kernel_rfl) (by kernel_rfl) ?_
      repeat (first | go_big_quiet_step (fail) | (go_big_quiet_want; refine quiet_conv byP rfl rfl r1 ?_; go_big_quiet_on; go_simp) | (go_big_quiet_want; refine quiet_conv byP rfl rfl r2 ?_; go_big_quiet_on; go_simp))
      first | (refine wpQuiet_nil ?_; intro _ hw'; obtain ⟨nq,hw''⟩ := hw'; subst hw'') | intro nq
      go_wp2_with fail
      go_roundw
      case rel => exact ⟨k + 1,by go_num,by omega,hnext.out (fun h => hk.out h.2),Below.drewN q6 _⟩
      case measure => simp [intOf]; omega
    ·have y1 : (l[k].table == l[j].table) = false := beq_eq_false_iff_ne.2 ht
     have y2 : decide (l[k].table = l[j].table) = false := decide_eq_false ht
     replace ht := Lib.hid ht
     go_upto_region 12 with (fail)
     refine wp_region_quiet_lit (by kernel_rfl) (by kernel_rfl) ?_
     repeat (first | go_big_quiet_step (fail) | (go_big_quiet_want; refine quiet_conv byP rfl rfl r1 ?_; go_big_quiet_on; go_simp) | (go_big_quiet_want; refine quiet_conv byP rfl rfl r2 ?_; go_big_quiet_on; go_simp))
     first | (refine wpQuiet_nil ?_; intro _ hw'; obtain ⟨nq,hw''⟩ := hw'; subst hw'') | intro nq
     go_wp2_with fail
     go_roundw
     case rel => exact ⟨k + 1,by go_num,by omega,hnext.out (fun h => ht.out h.1),Below.drewN q6 _⟩
     case measure => simp [intOf]; omega
   ·obtain rfl : k = j := by omega
    have hy : decide ((k : Int) < (k : Int)) = false := decide_eq_false (by omega)
    have hun2 := Lib.hid (show ∀ i j (hi : i < j) (hj : j < l.length),k ≤ j → ¬ (l[i].table = l[j].table ∧ l[i].key = l[j].key) from fun i j hi hj hm => by
     rcases Nat.eq_or_lt_of_le hm with h | h
     ·subst h
      exact hno i hi (Nat.le_refl _)
     ·exact hun.out i j hi hj h)
    clear hno hun
    go_wp2_with fail
    go_roundw
    case rel => exact ⟨k,by go_num,by omega,hO5.below q6,hun2.out,q5.trans (q6.mono q5.size)⟩
    case measure => simp [intOf]
end Go.Proofs.YtlpfhgdnmjkngaaGreat
