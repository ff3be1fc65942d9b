/-
  TEXTS OF ONE PROOF, merged: StoreReadsW.
-/
import Derived.Test.YtlpfhgdnmjkngaaGreatKr17
namespace Go.Proofs.YtlpfhgdnmjkngaaGreat
open Go.RowKit Go.Shelf
set_option maxRecDepth 100000 in
set_option maxHeartbeats 16000000 in
theorem StoreReads_w (w : World) {cs0 cs2 : Array Value} {s t u : Int} {T : Sto} {x : Wr} {A : Option Addr} {n C : Nat} {k : List UInt8} (h0 : RdSt (· < w.heap.size) w (.agg cs0) T) (h1 : (Lit.int .i64 s).wf = true) (h2 : RdWr (· < w.heap.size) w (.agg cs2) x) (h3 : (Lit.int .i64 t).wf = true) (h4 : Rd w.heap.size w (.slice A n C) k) (h5 : (Lit.int .i64 u).wf = true) :
  Calls Tryz.prog 4 #[.agg cs0,.int .i64 s,.agg cs2,.int .i64 t,.slice A n C,.int .i64 u] w fun e w' => e = .returned (.bool true) ∧ Below w.heap.size w w' := by
 have _ := h3
 have _ := h5
 have hks := h4.s
 obtain rfl : n = k.length := hks.len.1
 have hd := h0
 obtain ⟨aS,mS,cS,e,hS0⟩ := h0
 injection e with e
 subst e
 clear hS0
 obtain ⟨xk,xc,xv,xd,e,hk0,hv0,hxt⟩ := h2
 injection e with e
 subst e
 obtain ⟨W0,hW,q,Bs,Bx,hsz⟩ := stBoxes w 29 51 [.slice (aS 0) (mS 0) (cS 0),.slice (aS 1) (mS 1) (cS 1),.slice (aS 2) (mS 2) (cS 2),.slice (aS 3) (mS 3) (cS 3),.slice (aS 4) (mS 4) (cS 4),.slice (aS 5) (mS 5) (cS 5),.slice (aS 6) (mS 6) (cS 6),.slice (aS 7) (mS 7) (cS 7),.slice (aS 8) (mS 8) (cS 8),.slice (aS 9) (mS 9) (cS 9),.slice (aS 10) (mS 10) (cS 10),.slice (aS 11) (mS 11) (cS 11)] [.int .i64 x.table,.slice xk x.key.length xc,.bool x.gone,.slice xv x.val.length xd]
 clear hsz
 replace Bs : StB W0 w.heap.size aS mS cS := Bs
 go_enter Tryz.func4,Tryz.ntmps4
 go_upto_region 1 with (fail)
 rw [show (w.alloc (.cells #[.slice (aS 0) (mS 0) (cS 0),.slice (aS 1) (mS 1) (cS 1),.slice (aS 2) (mS 2) (cS 2),.slice (aS 3) (mS 3) (cS 3),.slice (aS 4) (mS 4) (cS 4),.slice (aS 5) (mS 5) (cS 5),.slice (aS 6) (mS 6) (cS 6),.slice (aS 7) (mS 7) (cS 7),.slice (aS 8) (mS 8) (cS 8),.slice (aS 9) (mS 9) (cS 9),.slice (aS 10) (mS 10) (cS 10),.slice (aS 11) (mS 11) (cS 11)] 29)).alloc (.cells #[.int .i64 x.table,.slice xk x.key.length xc,.bool x.gone,.slice xv x.val.length xd] 51) = W0 from hW.symm]
 clear hW
 go_wp2_with fail
 refine (awake7_any W0).mono ?_
 rintro e w1 ⟨rfl,hb⟩
 replace Bs := Bs.below hb Bs.lt
 replace Bx := Bx.below hb Bx.lt
 replace q := q.trans (hb.mono q.size)
 clear hb
 obtain ⟨d0,d1,d2,d3,d4,d5,d6,d7,d8,d9,d10,d11⟩ := Bs.c12
 have hcl := refSmallS_any _ (hd.below q)
 go_wp2_with fail
 refine hcl.mono ?_
 rintro e ws1 ⟨rfl,hb⟩
 clear hcl d0 d1 d2 d3 d4 d5 d6 d7 d8 d9 d10 d11
 replace Bs := Bs.below hb Bs.lt
 replace Bx := Bx.below hb Bx.lt
 replace q := q.trans (hb.mono q.size)
 clear hb
 by_cases hs : smallS T
 case neg =>
  rw [decide_eq_false hs]
  go_wp2_with fail
  go_ret
  exact ⟨rfl,q⟩
 rw [decide_eq_true hs]
 obtain ⟨b0,b1,b2,b3⟩ := Bx.c4
 by_cases g1 : 100 < x.key.length
 case pos =>
  have z1 : decide ((100 : Int) < (x.key.length : Int)) = true := decide_eq_true (by omega)
  go_wp2_with fail
  go_ret
  exact ⟨rfl,q⟩
 have z1 : decide ((100 : Int) < (x.key.length : Int)) = false := decide_eq_false (by omega)
 by_cases g2 : 100 < x.val.length
 case pos =>
  have z2 : decide ((100 : Int) < (x.val.length : Int)) = true := decide_eq_true (by omega)
  go_wp2_with fail
  go_ret
  exact ⟨rfl,q⟩
 have z2 : decide ((100 : Int) < (x.val.length : Int)) = false := decide_eq_false (by omega)
 by_cases g3 : 100 < k.length
 case pos =>
  have z3 : decide ((100 : Int) < (k.length : Int)) = true := decide_eq_true (by omega)
  go_wp2_with fail
  go_ret
  exact ⟨rfl,q⟩
 have z3 : decide ((100 : Int) < (k.length : Int)) = false := decide_eq_false (by omega)
 clear g1 g2 g3
 obtain ⟨d0,d1,d2,d3,d4,d5,d6,d7,d8,d9,d10,d11⟩ := Bs.c12
 go_wp2_with fail
 clear z1 z2 z3 b0 b1 b2 b3 d0 d1 d2 d3 d4 d5 d6 d7 d8 d9 d10 d11
 obtain ⟨w4,hw4⟩ : ∃ w4,w4 = ws1.alloc (.cells #[.int .i64 x.table,.slice xk x.key.length xc,.bool x.gone,.slice xv x.val.length xd] 51) := ⟨_,rfl⟩
 have hb : Below ws1.heap.size ws1 w4 := by rw [hw4]; exact (Below.refl _ _).alloc (Nat.le_refl _) _
 have xr : BoxN w4 ws1.heap.size 51 [.int .i64 x.table,.slice xk x.key.length xc,.bool x.gone,.slice xv x.val.length xd] := by rw [hw4]; exact BoxN.new _ _ _
 rw [← hw4]
 clear hw4
 replace Bs := Bs.below hb Bs.lt
 replace Bx := Bx.below hb Bx.lt
 replace q := q.trans (hb.mono q.size)
 have hlw : RdL Elt.wr (fun _ => True) w4 (.slice (some ⟨ws1.heap.size,0,none⟩) 1 1) [x] := one_w xr ((hk0.below q).weak fun _ _ => trivial) ((hv0.below q).weak fun _ _ => trivial) hxt
 clear hb xr
 have hcl := sInstall_any _ (T := T) (s := s) (l := [x]) (K := 20) (hd.below q) (smallS_fit hs) (wf_I64 h1) hlw (fun _ => smallS_ch hs) (by simp)
 unfold InsEnd at hcl
 obtain ⟨erA,herA⟩ : ∃ n,n = (instI T s [x]).2 := ⟨_,rfl⟩
 rw [← herA] at hcl
 replace herA := Lib.hid herA
 refine hcl.mono ?_
 rintro e wcA ⟨vA,TA,rfl,⟨aA,mA,cA,rfl,hA⟩,hb,hIA⟩
 clear hcl
 replace Bs := Bs.below hb Bs.lt
 replace Bx := Bx.below hb Bx.lt
 replace q := q.trans (hb.mono q.size)
 clear hb
 have rA : RdSt (fun _ => True) wcA (.agg #[.slice (aA 0) (mA 0) (cA 0),.slice (aA 1) (mA 1) (cA 1),.slice (aA 2) (mA 2) (cA 2),.slice (aA 3) (mA 3) (cA 3),.slice (aA 4) (mA 4) (cA 4),.slice (aA 5) (mA 5) (cA 5),.slice (aA 6) (mA 6) (cA 6),.slice (aA 7) (mA 7) (cA 7),.slice (aA 8) (mA 8) (cA 8),.slice (aA 9) (mA 9) (cA 9),.slice (aA 10) (mA 10) (cA 10),.slice (aA 11) (mA 11) (cA 11)]) TA := ⟨aA,mA,cA,rfl,fun i hi => (hA i hi).weak fun _ _ => trivial⟩
 clear hA
 go_upto_region 5 with (first | (refine wpList_boxNew (vs := [.slice none 0 0,.slice none 0 0,.slice none 0 0,.slice none 0 0,.slice none 0 0,.slice none 0 0,.slice none 0 0,.slice none 0 0,.slice none 0 0,.slice none 0 0,.slice none 0 0,.slice none 0 0]) (by kernel_rfl) rfl rfl ?_; intro wa hba hBa) | (refine wpList_boxStore (us := [.slice (aA 0) (mA 0) (cA 0),.slice (aA 1) (mA 1) (cA 1),.slice (aA 2) (mA 2) (cA 2),.slice (aA 3) (mA 3) (cA 3),.slice (aA 4) (mA 4) (cA 4),.slice (aA 5) (mA 5) (cA 5),.slice (aA 6) (mA 6) (cA 6),.slice (aA 7) (mA 7) (cA 7),.slice (aA 8) (mA 8) (cA 8),.slice (aA 9) (mA 9) (cA 9),.slice (aA 10) (mA 10) (cA 10),.slice (aA 11) (mA 11) (cA 11)]) (by kernel_rfl) rfl rfl rfl rfl rfl rfl hBa rfl ?_; intro wbA hgw xA) | fail)
 try go_simp
 have hbw := hba.grown hgw hba.size fun k hk => by injection hk with hk; omega
 replace Bs := Bs.below hbw Bs.lt
 replace Bx := Bx.below hbw Bx.lt
 replace rA := rA.below hbw
 replace q := q.trans (hbw.mono q.size)
 clear hbw hgw hba hBa
 replace xA : StB _ _ aA mA cA := xA
 clear hlw
 by_cases h0 : erA = 0
 case neg =>
  have z1 : (((erA : Nat) : Int) != 0) = true := bne_iff_ne.2 (by omega)
  have z2 : (((erA : Nat) : Int) == 0) = false := beq_eq_false_iff_ne.2 (by omega)
  have z3 : decide (((erA : Nat) : Int) = 0) = false := decide_eq_false (by omega)
  go_wp2_with fail
  go_ret
  exact ⟨rfl,q⟩
 have her := herA.out
 rw [h0] at her
 subst h0
 clear herA
 have z1 : ((((0 : Nat) : Nat) : Int) != 0) = false := rfl
 obtain ⟨hold,hnew⟩ := one_reads hIA her.symm (by decide)
 have hfA := hIA.fits (smallS_fit hs) (by simp)
 clear her hIA
 replace hold := Lib.hid hold
 replace hnew := Lib.hid hnew
 obtain ⟨d0,d1,d2,d3,d4,d5,d6,d7,d8,d9,d10,d11⟩ := Bs.c12
 obtain ⟨g1,hg1⟩ : ∃ g,g = getP (pickS T t) k u := ⟨_,rfl⟩
 have hcl := sGet_any _ (T := T) (t := t) (s := u) (hd.below q) (smallS_fit hs) (hks.below q)
 rw [← hg1] at hcl
 replace hg1 := Lib.hid hg1
 go_wp2_with fail
 refine hcl.mono ?_
 rintro e wg1 ⟨va1,vc1,rfl,rg1,hb⟩
 clear hcl d0 d1 d2 d3 d4 d5 d6 d7 d8 d9 d10 d11
 replace Bs := Bs.below hb Bs.lt
 replace Bx := Bx.below hb Bx.lt
 replace rA := rA.below hb
 replace xA := xA.below hb xA.lt
 replace q := q.trans (hb.mono q.size)
 clear hb
 replace rg1 : RdS (fun _ => True) wg1 (.slice va1 (g1.getD []).length vc1) (g1.getD []) := rg1.weak fun _ _ => trivial
 go_upto_region 8 with (fail)
 obtain ⟨d0,d1,d2,d3,d4,d5,d6,d7,d8,d9,d10,d11⟩ := xA.c12
 obtain ⟨g2,hg2⟩ : ∃ g,g = getP (pickS TA t) k u := ⟨_,rfl⟩
 have hcl := sGet_any _ (T := TA) (t := t) (s := u) rA hfA (hks.below q)
 rw [← hg2] at hcl
 replace hg2 := Lib.hid hg2
 go_wp2_with fail
 refine hcl.mono ?_
 rintro e wg2 ⟨va2,vc2,rfl,rg2,hb⟩
 clear hcl d0 d1 d2 d3 d4 d5 d6 d7 d8 d9 d10 d11
 replace Bs := Bs.below hb Bs.lt
 replace Bx := Bx.below hb Bx.lt
 replace rA := rA.below hb
 replace xA := xA.below hb xA.lt
 replace rg1 := rg1.below hb
 replace q := q.trans (hb.mono q.size)
 clear hb
 replace rg2 : RdS (fun _ => True) wg2 (.slice va2 (g2.getD []).length vc2) (g2.getD []) := rg2.weak fun _ _ => trivial
 go_upto_region 9 with (fail)
 obtain ⟨d0,d1,d2,d3,d4,d5,d6,d7,d8,d9,d10,d11⟩ := xA.c12
 obtain ⟨b0,b1,b2,b3⟩ := Bx.c4
 obtain ⟨mx,hmx⟩ : ∃ m,m = max u s := ⟨_,rfl⟩
 replace hmx := Lib.hid hmx
 go_wp2_with (first | (refine wpList_maxI rfl rfl rfl rfl hmx.out ?_) | fail)
 obtain ⟨g3,hg3⟩ : ∃ g,g = getP (pickS TA x.table) x.key mx := ⟨_,rfl⟩
 have hcl := sGet_any _ (T := TA) (t := x.table) (s := mx) rA hfA (hk0.below q)
 rw [← hg3] at hcl
 replace hg3 := Lib.hid hg3
 refine hcl.mono ?_
 rintro e wg3 ⟨va3,vc3,rfl,rg3,hb⟩
 clear hcl d0 d1 d2 d3 d4 d5 d6 d7 d8 d9 d10 d11 b0 b1 b2 b3
 replace Bs := Bs.below hb Bs.lt
 replace Bx := Bx.below hb Bx.lt
 replace rA := rA.below hb
 replace xA := xA.below hb xA.lt
 replace rg1 := rg1.below hb
 replace rg2 := rg2.below hb
 replace q := q.trans (hb.mono q.size)
 clear hb
 replace rg3 : RdS (fun _ => True) wg3 (.slice va3 (g3.getD []).length vc3) (g3.getD []) := rg3.weak fun _ _ => trivial
 go_upto_region 10 with (fail)
 have y3 := hg3.out
 have hmx2 := hmx.out
 rw [hnew.out _ (by omega)] at y3
 clear hmx2
 clear hnew hg3 hmx
 obtain ⟨y,hy⟩ : ∃ y,y = g3.getD [] := ⟨_,rfl⟩
 obtain ⟨th,hth⟩ : ∃ b,b = g3.isSome := ⟨_,rfl⟩
 rw [← hy] at rg3 ⊢
 rw [← hth]
 have hyy : th = !x.gone ∧ (x.gone = false → y = x.val) := by
  rw [hy,hth,y3]
  cases x.gone <;> simp
 clear y3 hy hth
 replace hyy := Lib.hid hyy
 clear g3
 obtain ⟨b0,b1,b2,b3⟩ := Bx.c4
 have cvk := run_conv byP (hks.below q).rd
 have cvx := run_conv byP (hk0.below q).rd
 by_cases ht : t = x.table
 case neg =>
  have y0 : (t == x.table) = false := beq_eq_false_iff_ne.2 ht
  have y1 : (t != x.table) = true := bne_iff_ne.2 ht
  have hc : t ≠ x.table ∨ k ≠ x.key ∨ u < s := .inl ht
  obtain rfl : g2 = g1 := by rw [hg2.out,hg1.out]; exact hold.out _ _ _ hc
  have cv1 := run_conv byP rg1.rd
  have cv2 := run_conv byP rg2.rd
  have ds : ((strOf (g2.getD [])).toList == (strOf (g2.getD [])).toList) = true := beq_self_eq_true _
  have db : (g2.isSome == g2.isSome) = true := beq_self_eq_true _
  have dc : (g2.isSome != g2.isSome) = false := bne_self_eq_false _
  clear hc hg1 hg2 hold
  clear ht
  go_upto_region 11 with (first | rw [cvk] | rw [cvx] | rw [cv1] | rw [cv2] | rw [cvy] | rw [cvv] | fail)
  go_upto_region 13 with (first | rw [cvk] | rw [cvx] | rw [cv1] | rw [cv2] | rw [cvy] | rw [cvv] | fail)
  cases hgo : x.gone with
  | true =>
   obtain rfl : th = false := by have := hyy.out.1; rw [hgo] at this; exact this
   rw [hgo] at b2
   replace hgo := Lib.hid hgo
   go_wp2_with fail
   go_ret
   exact ⟨rfl,q⟩
  | false =>
   obtain rfl : th = true := by have := hyy.out.1; rw [hgo] at this; exact this
   obtain rfl : y = x.val := hyy.out.2 hgo
   rw [hgo] at b2
   replace hgo := Lib.hid hgo
   have cvy := run_conv byP rg3.rd
   have cvv := run_conv byP (hv0.below q).rd
   have dv : ((strOf x.val).toList == (strOf x.val).toList) = true := beq_self_eq_true _
   go_wp2_with (first | rw [cvy] | rw [cvv] | fail)
   go_ret
   exact ⟨rfl,q⟩
 case pos =>
 have y0 : (t == x.table) = true := beq_iff_eq.2 ht
 have y1 : (t != x.table) = false := bne_eq_false_iff_eq.2 ht
 by_cases hk : k = x.key
 case neg =>
  have y2 : ((strOf k).toList == (strOf x.key).toList) = false := str_eq7.trans (decide_eq_false hk)
  have hc : t ≠ x.table ∨ k ≠ x.key ∨ u < s := .inr (.inl hk)
  obtain rfl : g2 = g1 := by rw [hg2.out,hg1.out]; exact hold.out _ _ _ hc
  have cv1 := run_conv byP rg1.rd
  have cv2 := run_conv byP rg2.rd
  have ds : ((strOf (g2.getD [])).toList == (strOf (g2.getD [])).toList) = true := beq_self_eq_true _
  have db : (g2.isSome == g2.isSome) = true := beq_self_eq_true _
  have dc : (g2.isSome != g2.isSome) = false := bne_self_eq_false _
  clear hc hg1 hg2 hold
  clear ht hk
  go_upto_region 13 with (first | rw [cvk] | rw [cvx] | rw [cv1] | rw [cv2] | rw [cvy] | rw [cvv] | fail)
  cases hgo : x.gone with
  | true =>
   obtain rfl : th = false := by have := hyy.out.1; rw [hgo] at this; exact this
   rw [hgo] at b2
   replace hgo := Lib.hid hgo
   go_wp2_with fail
   go_ret
   exact ⟨rfl,q⟩
  | false =>
   obtain rfl : th = true := by have := hyy.out.1; rw [hgo] at this; exact this
   obtain rfl : y = x.val := hyy.out.2 hgo
   rw [hgo] at b2
   replace hgo := Lib.hid hgo
   have cvy := run_conv byP rg3.rd
   have cvv := run_conv byP (hv0.below q).rd
   have dv : ((strOf x.val).toList == (strOf x.val).toList) = true := beq_self_eq_true _
   go_wp2_with (first | rw [cvy] | rw [cvv] | fail)
   go_ret
   exact ⟨rfl,q⟩
 case pos =>
 have y2 : ((strOf k).toList == (strOf x.key).toList) = true := str_eq7.trans (decide_eq_true hk)
 by_cases hu : u < s
 case pos =>
  have y3 : decide (u < s) = true := decide_eq_true hu
  have hc : t ≠ x.table ∨ k ≠ x.key ∨ u < s := .inr (.inr hu)
  obtain rfl : g2 = g1 := by rw [hg2.out,hg1.out]; exact hold.out _ _ _ hc
  have cv1 := run_conv byP rg1.rd
  have cv2 := run_conv byP rg2.rd
  have ds : ((strOf (g2.getD [])).toList == (strOf (g2.getD [])).toList) = true := beq_self_eq_true _
  have db : (g2.isSome == g2.isSome) = true := beq_self_eq_true _
  have dc : (g2.isSome != g2.isSome) = false := bne_self_eq_false _
  clear hc hg1 hg2 hold
  clear ht hk hu
  go_upto_region 13 with (first | rw [cvk] | rw [cvx] | rw [cv1] | rw [cv2] | rw [cvy] | rw [cvv] | fail)
  cases hgo : x.gone with
  | true =>
   obtain rfl : th = false := by have := hyy.out.1; rw [hgo] at this; exact this
   rw [hgo] at b2
   replace hgo := Lib.hid hgo
   go_wp2_with fail
   go_ret
   exact ⟨rfl,q⟩
  | false =>
   obtain rfl : th = true := by have := hyy.out.1; rw [hgo] at this; exact this
   obtain rfl : y = x.val := hyy.out.2 hgo
   rw [hgo] at b2
   replace hgo := Lib.hid hgo
   have cvy := run_conv byP rg3.rd
   have cvv := run_conv byP (hv0.below q).rd
   have dv : ((strOf x.val).toList == (strOf x.val).toList) = true := beq_self_eq_true _
   go_wp2_with (first | rw [cvy] | rw [cvv] | fail)
   go_ret
   exact ⟨rfl,q⟩
 case neg =>
 have y3 : decide (u < s) = false := decide_eq_false hu
 clear ht hk hu hg1 hg2 hold
 go_upto_region 13 with (first | rw [cvk] | rw [cvx] | rw [cv1] | rw [cv2] | rw [cvy] | rw [cvv] | fail)
 cases hgo : x.gone with
 | true =>
  obtain rfl : th = false := by have := hyy.out.1; rw [hgo] at this; exact this
  rw [hgo] at b2
  replace hgo := Lib.hid hgo
  go_wp2_with fail
  go_ret
  exact ⟨rfl,q⟩
 | false =>
  obtain rfl : th = true := by have := hyy.out.1; rw [hgo] at this; exact this
  obtain rfl : y = x.val := hyy.out.2 hgo
  rw [hgo] at b2
  replace hgo := Lib.hid hgo
  have cvy := run_conv byP rg3.rd
  have cvv := run_conv byP (hv0.below q).rd
  have dv : ((strOf x.val).toList == (strOf x.val).toList) = true := beq_self_eq_true _
  go_wp2_with (first | rw [cvy] | rw [cvv] | fail)
  go_ret
  exact ⟨rfl,q⟩
end Go.Proofs.YtlpfhgdnmjkngaaGreat
