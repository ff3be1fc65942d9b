/-
  TEXTS OF ONE PROOF, merged: StoreOpenW.
-/
import Derived.Test.YtlpfhgdnmjkngaaGreatKr17
namespace Go.Proofs.YtlpfhgdnmjkngaaGreat
open Go.RowKit Go.Shelf
set_option maxRecDepth 100000 in
set_option maxHeartbeats 16000000 in
theorem StoreOpen_w (w : World) {cs0 : Array Value} {t u : Int} {T : Sto} {A : Option Addr} {n C : Nat} {k : List UInt8} (h0 : RdSt (· < w.heap.size) w (.agg cs0) T) (h1 : (Lit.int .i64 t).wf = true) (h2 : Rd w.heap.size w (.slice A n C) k) (h3 : (Lit.int .i64 u).wf = true) :
  Calls Tryz.prog 9 #[.agg cs0,.int .i64 t,.slice A n C,.int .i64 u] w fun e w' => e = .returned (.bool true) ∧ Below w.heap.size w w' := by
 have _ := h3
 have hks := h2.s
 obtain rfl : n = k.length := hks.len.1
 have hw64 : W64 t := w64w h1
 have hd := h0
 obtain ⟨aS,mS,cS,e,hS0⟩ := h0
 injection e with e
 subst e
 clear hS0
 obtain ⟨W0,hW,q,Bs,hsz⟩ := stBox w 29 [.slice (aS 0) (mS 0) (cS 0),.slice (aS 1) (mS 1) (cS 1),.slice (aS 2) (mS 2) (cS 2),.slice (aS 3) (mS 3) (cS 3),.slice (aS 4) (mS 4) (cS 4),.slice (aS 5) (mS 5) (cS 5),.slice (aS 6) (mS 6) (cS 6),.slice (aS 7) (mS 7) (cS 7),.slice (aS 8) (mS 8) (cS 8),.slice (aS 9) (mS 9) (cS 9),.slice (aS 10) (mS 10) (cS 10),.slice (aS 11) (mS 11) (cS 11)]
 clear hsz
 replace Bs : StB W0 w.heap.size aS mS cS := Bs
 go_enter Tryz.func9,Tryz.ntmps9
 go_upto_region 1 with (fail)
 rw [show w.alloc (.cells #[.slice (aS 0) (mS 0) (cS 0),.slice (aS 1) (mS 1) (cS 1),.slice (aS 2) (mS 2) (cS 2),.slice (aS 3) (mS 3) (cS 3),.slice (aS 4) (mS 4) (cS 4),.slice (aS 5) (mS 5) (cS 5),.slice (aS 6) (mS 6) (cS 6),.slice (aS 7) (mS 7) (cS 7),.slice (aS 8) (mS 8) (cS 8),.slice (aS 9) (mS 9) (cS 9),.slice (aS 10) (mS 10) (cS 10),.slice (aS 11) (mS 11) (cS 11)] 29) = W0 from hW.symm]
 clear hW
 go_wp2_with fail
 refine (awake7_any W0).mono ?_
 rintro e w1 ⟨rfl,hb⟩
 replace Bs := Bs.below hb Bs.lt
 replace q := q.trans (hb.mono q.size)
 clear hb
 obtain ⟨d0,d1,d2,d3,d4,d5,d6,d7,d8,d9,d10,d11⟩ := Bs.c12
 have hcl := refSmallS_any _ (hd.below q)
 go_wp2_with fail
 refine hcl.mono ?_
 rintro e ws1 ⟨rfl,hb⟩
 clear hcl d0 d1 d2 d3 d4 d5 d6 d7 d8 d9 d10 d11
 replace Bs := Bs.below hb Bs.lt
 replace q := q.trans (hb.mono q.size)
 clear hb
 by_cases hs : smallS T
 case neg =>
  rw [decide_eq_false hs]
  go_wp2_with fail
  go_ret
  exact ⟨rfl,q⟩
 rw [decide_eq_true hs]
 by_cases g1 : 100 < k.length
 case pos =>
  have z1 : decide ((100 : Int) < (k.length : Int)) = true := decide_eq_true (by omega)
  go_wp2_with fail
  go_ret
  exact ⟨rfl,q⟩
 have z1 : decide ((100 : Int) < (k.length : Int)) = false := decide_eq_false (by omega)
 clear g1
 go_upto_region 6 with (fail)
 clear z1
 obtain ⟨V,hV⟩ : ∃ V,V = ws1 := ⟨_,rfl⟩
 rw [← hV] at q Bs
 rw [← hV]
 clear hV
 go_loopw [10,11] (fun hv iv wr => ∃ j : Nat,iv = .int .i64 (j : Int) ∧ j ≤ 17 ∧ Own 5 V.heap.size wr hv (List.replicate j 255) ∧ Below V.heap.size V wr) (fun _ iv _ => 17 - (intOf iv).toNat)
 case atStart => exact ⟨0,rfl,by omega,Own.nil _ _ _,Below.refl _ _⟩
 case round =>
 obtain ⟨j,rfl,hj,hO,q2⟩ := hrel
 rcases Nat.lt_or_ge j 17 with hlt | hge
 ·have hz : decide ((j : Int) < 17) = true := decide_eq_true (by omega)
  go_wp2_with (refine wpList_append1 byP rfl (fun _ => rfl) rfl rfl (by simp) rfl (UInt8.ofNat 255) (fun _ => rfl) (by rfl) hO q2.size ?_ ?hlen; intro v9 ad3 k3 c3 w3 hO3 hb3)
  case hlen => simp; omega
  go_roundw
  case rel => exact ⟨j + 1,by go_num,by omega,by rw [List.replicate_succ']; exact hO3,q2.trans hb3⟩
  case measure => simp [intOf]; omega
 ·obtain rfl : j = 17 := by omega
  obtain ⟨ah,nh,ch,rfl⟩ := hO.shape
  obtain rfl : nh = 17 := hO.len
  have rh : RdS (fun _ => True) wr (.slice ah 17 ch) (List.replicate 17 255) := hO.rd.s.weak fun _ _ => trivial
  have hz : decide (((17 : Nat) : Int) < 17) = false := rfl
  replace Bs := Bs.below q2 Bs.lt
  replace q := q.trans (q2.mono q.size)
  clear q2 hO hge hj
  obtain ⟨L,hL⟩ : ∃ l,l = scanP (pickS T t) ⟨t,k,[],true⟩ u := ⟨_,rfl⟩
  have hL2 : scanP (pickS T t) ⟨t,k,List.replicate 17 255,false⟩ u = L := by rw [hL,scan_open (pickS_keys T t)]
  have hL3 := scan_void (pickS T t) t k u
  have hsrt := Lib.hid (show L.Pairwise (fun a b => ltB a.key b.key = true) from by rw [hL]; exact scan_srt (pickS_srt T t))
  have hgt := Lib.hid (show ∀ y ∈ L,getP (pickS T t) y.key u = some y.val from fun y hy => by rw [hL] at hy; exact scan_mem (pickS_srt T t) hy)
  replace hL := Lib.hid hL
  replace hL2 := Lib.hid hL2
  replace hL3 := Lib.hid hL3
  go_upto_region 9 with (fail)
  obtain ⟨d0,d1,d2,d3,d4,d5,d6,d7,d8,d9,d10,d11⟩ := Bs.c12
  have hcl := sScan_any _ (T := T) (x := ⟨t,k,[],true⟩) (s := u) (hd.below q) (smallS_fit hs) (S2 := fun _ => True) ⟨_,_,_,_,rfl,(hks.below q).weak fun _ _ => trivial,RdS.nil _ _,hw64⟩
  rw [show scanP (pickS T t) ⟨t,k,[],true⟩ u = L from hL.out.symm] at hcl
  go_wp2_with fail
  refine hcl.mono ?_
  rintro e wnA ⟨aA,cA,rfl,rrA,hb⟩
  clear hcl d0 d1 d2 d3 d4 d5 d6 d7 d8 d9 d10 d11
  replace Bs := Bs.below hb Bs.lt
  replace rh := rh.below hb
  replace q := q.trans (hb.mono q.size)
  clear hb
  replace rrA : RdL Elt.pq (fun _ => True) wnA _ _ := rrA.weak fun _ _ => trivial
  go_upto_region 10 with (fail)
  obtain ⟨d0,d1,d2,d3,d4,d5,d6,d7,d8,d9,d10,d11⟩ := Bs.c12
  have hcl := sScan_any _ (T := T) (x := ⟨t,k,List.replicate 17 255,false⟩) (s := u) (hd.below q) (smallS_fit hs) (S2 := fun _ => True) ⟨_,_,_,_,rfl,(hks.below q).weak fun _ _ => trivial,rh,hw64⟩
  rw [show scanP (pickS T t) ⟨t,k,List.replicate 17 255,false⟩ u = L from hL2.out] at hcl
  go_wp2_with fail
  refine hcl.mono ?_
  rintro e wnB ⟨aB,cB,rfl,rrB,hb⟩
  clear hcl d0 d1 d2 d3 d4 d5 d6 d7 d8 d9 d10 d11
  replace Bs := Bs.below hb Bs.lt
  replace rh := rh.below hb
  replace rrA := rrA.below hb
  replace q := q.trans (hb.mono q.size)
  clear hb
  replace rrB : RdL Elt.pq (fun _ => True) wnB _ _ := rrB.weak fun _ _ => trivial
  go_upto_region 11 with (fail)
  clear rh
  obtain ⟨d0,d1,d2,d3,d4,d5,d6,d7,d8,d9,d10,d11⟩ := Bs.c12
  have hcl := sScan_any _ (T := T) (x := ⟨t,k,k,false⟩) (s := u) (hd.below q) (smallS_fit hs) (S2 := fun _ => True) ⟨_,_,_,_,rfl,(hks.below q).weak fun _ _ => trivial,(hks.below q).weak fun _ _ => trivial,hw64⟩
  rw [show scanP (pickS T t) ⟨t,k,k,false⟩ u = [] from hL3.out] at hcl
  go_wp2_with fail
  refine hcl.mono ?_
  rintro e wnC ⟨aC,cC,rfl,rrC,hb⟩
  clear hcl d0 d1 d2 d3 d4 d5 d6 d7 d8 d9 d10 d11
  replace Bs := Bs.below hb Bs.lt
  replace rrA := rrA.below hb
  replace rrB := rrB.below hb
  replace q := q.trans (hb.mono q.size)
  clear hb
  replace rrC : RdL Elt.pq (fun _ => True) wnC _ _ := rrC.weak fun _ _ => trivial
  go_upto_region 12 with (fail)
  obtain ⟨V2,hV⟩ : ∃ V,V = wnC := ⟨_,rfl⟩
  rw [← hV] at q Bs rrA rrB
  rw [← hV]
  clear hV rrC hL hL2 hL3
  have eG : ∀ args w,(callFunc 16 args).run Tryz.prog w = .ok (.enter 16 args) w := enters_of Tryz.func16 (by kernel_rfl) rfl
  go_upto_region 13 with (fail)
  have hLm : L.length ≤ 9223372036854775807 := by obtain ⟨_,hc,hm⟩ := rrA.len; unfold maxLen at hm; omega
  go_loopw [15] (fun iv wr => ∃ i : Nat,iv = .int .i64 (i : Int) ∧ i ≤ L.length ∧ Below V2.heap.size V2 wr) (fun iv _ => L.length - (intOf iv).toNat)
  case atStart => exact ⟨0,rfl,Nat.zero_le _,Below.refl _ _⟩
  case round =>
  obtain ⟨i,rfl,hil,q2⟩ := hrel
  rcases Nat.lt_or_ge i L.length with hlt | hge
  ·have hz : decide ((i : Int) < (L.length : Int)) = true := decide_eq_true (by omega)
   have hdW := (hd.below q).below q2
   replace Bs := Bs.below q2 Bs.lt
   obtain ⟨b,off,A1,C1,A2,C2,eL,hb0,g0,g1,hk1,hk2⟩ := (rrA.below q2).pq i hlt
   subst eL
   clear hb0
   go_upto_region 15 with (fail)
   refine wp_region_gsg (by kernel_rfl) (by kernel_rfl) [sgEq (.agg #[.slice (aS 0) (mS 0) (cS 0),.slice (aS 1) (mS 1) (cS 1),.slice (aS 2) (mS 2) (cS 2),.slice (aS 3) (mS 3) (cS 3),.slice (aS 4) (mS 4) (cS 4),.slice (aS 5) (mS 5) (cS 5),.slice (aS 6) (mS 6) (cS 6),.slice (aS 7) (mS 7) (cS 7),.slice (aS 8) (mS 8) (cS 8),.slice (aS 9) (mS 9) (cS 9),.slice (aS 10) (mS 10) (cS 10),.slice (aS 11) (mS 11) (cS 11)]),sgEq (.int .i64 t),sgEq (.slice (some ⟨b,off,none⟩) L.length cA),sgEq (.int .i64 (i : Int)),sgEq (.pointer (some ⟨b,off + i * 2,none⟩)),sgEq (.pointer (some ⟨b,off + i * 2,none⟩)),sgEq (.slice A1 L[i].key.length C1),sgEq (.int .i64 u),sgVt L[i].val,sgVt L[i].val,sgVb L[i].val,sgEq (.bool true),sgVb L[i].val,sgEq (.bool true)]
    ⟨?o0,?o1,?o2,?o3,?o4,?o5,?o6,?o7,?o8,?o9,?o10,?o11,?o12,?o13,trivial⟩ ?fin
   case o0 =>
    refine GdOp.plain rfl (fun A vs w' hF hT hb hd => ?_)
    have e1 : A.eval (.tmp 4) = .pointer (some ⟨w.heap.size,0,none⟩) := hF 4 rfl
    exact wp_loadQ (us := [.slice (aS 0) (mS 0) (cS 0),.slice (aS 1) (mS 1) (cS 1),.slice (aS 2) (mS 2) (cS 2),.slice (aS 3) (mS 3) (cS 3),.slice (aS 4) (mS 4) (cS 4),.slice (aS 5) (mS 5) (cS 5),.slice (aS 6) (mS 6) (cS 6),.slice (aS 7) (mS 7) (cS 7),.slice (aS 8) (mS 8) (cS 8),.slice (aS 9) (mS 9) (cS 9),.slice (aS 10) (mS 10) (cS 10),.slice (aS 11) (mS 11) (cS 11)]) stS7 rfl e1 (fun j v hj => by rw [Nat.zero_add]; exact (BoxN.below Bs hb Bs.lt).cell hj) ⟨_,rfl,rfl,Below.refl _ _⟩
   case o1 =>
    refine GdOp.plain rfl (fun A vs w' hF hT hb hd => ?_)
    have e1 : A.eval (.tmp 1) = .int .i64 t := hF 1 rfl
    exact BigFrame.wp_move _ rfl ⟨_,rfl,e1,Below.refl _ _⟩
   case o2 =>
    refine GdOp.plain rfl (fun A vs w' hF hT hb hd => ?_)
    have e1 : A.eval (.tmp 12) = .slice (some ⟨b,off,none⟩) L.length cA := hF 12 rfl
    exact BigFrame.wp_move _ rfl ⟨_,rfl,e1,Below.refl _ _⟩
   case o3 =>
    refine GdOp.plain rfl (fun A vs w' hF hT hb hd => ?_)
    have e1 : A.eval (.tmp 15) = .int .i64 (i : Int) := hF 15 rfl
    exact BigFrame.wp_move _ rfl ⟨_,rfl,e1,Below.refl _ _⟩
   case o4 =>
    refine GdOp.plain rfl (fun A vs w' hF hT hb hd => ?_)
    have e1 : A.eval (.tmp 64) = .slice (some ⟨b,off,none⟩) L.length cA := (hT 64 2 (by simp) rfl).trans (hd ⟨2,.data⟩ (by simp) rfl)
    have e2 : A.eval (.tmp 65) = .int .i64 (i : Int) := (hT 65 3 (by simp) rfl).trans (hd ⟨3,.data⟩ (by simp) rfl)
    exact wp_ixN (e := 60) rfl (by kernel_rfl) (by kernel_rfl) (e1) (e2) rfl (by omega) ⟨_,rfl,rfl,Below.refl _ _⟩
   case o5 =>
    refine GdOp.plain rfl (fun A vs w' hF hT hb hd => ?_)
    have e1 : A.eval (.tmp 66) = .pointer (some ⟨b,off + i * 2,none⟩) := (hT 66 4 (by simp) rfl).trans (hd ⟨4,.data⟩ (by simp) rfl)
    exact wp_fieldN pqS rfl (e1) (by omega) ⟨_,rfl,rfl,Below.refl _ _⟩
   case o6 =>
    refine GdOp.plain rfl (fun A vs w' hF hT hb hd => ?_)
    have e1 : A.eval (.tmp 67) = .pointer (some ⟨b,off + i * 2,none⟩) := (hT 67 5 (by simp) rfl).trans (hd ⟨5,.data⟩ (by simp) rfl)
    exact wp_ld_slice (e := 5) rfl e1 (by kernel_rfl) (((hb.cell (p := ⟨_,_,none⟩) (cell_lt g0)).trans g0)) ⟨_,rfl,rfl,Below.refl _ _⟩
   case o7 =>
    refine GdOp.plain rfl (fun A vs w' hF hT hb hd => ?_)
    have e1 : A.eval (.tmp 3) = .int .i64 u := hF 3 rfl
    exact BigFrame.wp_move _ rfl ⟨_,rfl,e1,Below.refl _ _⟩
   case o8 =>
    refine GdOp.plain rfl (fun A vs w' hF hT hb hd => ?_)
    have e1 : A.eval (.tmp 62) = .agg #[.slice (aS 0) (mS 0) (cS 0),.slice (aS 1) (mS 1) (cS 1),.slice (aS 2) (mS 2) (cS 2),.slice (aS 3) (mS 3) (cS 3),.slice (aS 4) (mS 4) (cS 4),.slice (aS 5) (mS 5) (cS 5),.slice (aS 6) (mS 6) (cS 6),.slice (aS 7) (mS 7) (cS 7),.slice (aS 8) (mS 8) (cS 8),.slice (aS 9) (mS 9) (cS 9),.slice (aS 10) (mS 10) (cS 10),.slice (aS 11) (mS 11) (cS 11)] := (hT 62 0 (by simp) rfl).trans (hd ⟨0,.data⟩ (by simp) rfl)
    have e2 : A.eval (.tmp 63) = .int .i64 t := (hT 63 1 (by simp) rfl).trans (hd ⟨1,.data⟩ (by simp) rfl)
    have e3 : A.eval (.tmp 68) = .slice A1 L[i].key.length C1 := (hT 68 6 (by simp) rfl).trans (hd ⟨6,.data⟩ (by simp) rfl)
    have e4 : A.eval (.tmp 69) = .int .i64 u := (hT 69 7 (by simp) rfl).trans (hd ⟨7,.data⟩ (by simp) rfl)
    refine wp_callFn rfl eG (args := #[.agg #[.slice (aS 0) (mS 0) (cS 0),.slice (aS 1) (mS 1) (cS 1),.slice (aS 2) (mS 2) (cS 2),.slice (aS 3) (mS 3) (cS 3),.slice (aS 4) (mS 4) (cS 4),.slice (aS 5) (mS 5) (cS 5),.slice (aS 6) (mS 6) (cS 6),.slice (aS 7) (mS 7) (cS 7),.slice (aS 8) (mS 8) (cS 8),.slice (aS 9) (mS 9) (cS 9),.slice (aS 10) (mS 10) (cS 10),.slice (aS 11) (mS 11) (cS 11)],.int .i64 t,.slice A1 L[i].key.length C1,.int .i64 u]) (by simp only [List.map_toArray,List.map_cons,List.map_nil,e1,e2,e3,e4]) ((sGet_any w' (T := T) (t := t) (s := u) (hdW.below hb) (smallS_fit hs) (hk1.below hb)).mono ?_)
    rintro e w2 h9
    obtain ⟨a9,c9,rfl,ho9,hb2⟩ := h9.got (hgt.out _ (List.getElem_mem hlt))
    exact ⟨_,rfl,_,rfl,⟨a9,c9,rfl,ho9⟩,hb2⟩
   case o9 =>
    refine GdOp.plain rfl (fun A vs w' hF hT hb hd => ?_)
    obtain ⟨a1,c1,q1,hr1⟩ := hd ⟨8,.data⟩ (by simp) rfl
    exact BigFrame.wp_move _ rfl ⟨_,rfl,⟨a1,c1,(hT 70 8 (by simp) rfl).trans q1,hr1⟩,Below.refl _ _⟩
   case o10 =>
    refine GdOp.plain rfl (fun A vs w' hF hT hb hd => ?_)
    obtain ⟨a1,c1,q1,hr1⟩ := hd ⟨9,.data⟩ (by simp) rfl
    have e1 : A.eval (.tmp 61) = .tuple #[.slice a1 L[i].val.length c1,.bool true] := (hT 61 9 (by simp) rfl).trans q1
    exact wp_ex rfl e1 rfl ⟨_,rfl,⟨a1,c1,rfl,hr1⟩,Below.refl _ _⟩
   case o11 =>
    refine GdOp.plain rfl (fun A vs w' hF hT hb hd => ?_)
    obtain ⟨a1,c1,q1,hr1⟩ := hd ⟨9,.data⟩ (by simp) rfl
    have e1 : A.eval (.tmp 61) = .tuple #[.slice a1 L[i].val.length c1,.bool true] := (hT 61 9 (by simp) rfl).trans q1
    exact wp_ex rfl e1 rfl ⟨_,rfl,rfl,Below.refl _ _⟩
   case o12 =>
    refine GdOp.plain rfl (fun A vs w' hF hT hb hd => ?_)
    obtain ⟨a1,c1,q1,hr1⟩ := hd ⟨10,.data⟩ (by simp) rfl
    exact BigFrame.wp_assign _ rfl ⟨_,rfl,⟨a1,c1,(hT 71 10 (by simp) rfl).trans q1,hr1⟩,Below.refl _ _⟩
   case o13 =>
    refine GdOp.plain rfl (fun A vs w' hF hT hb hd => ?_)
    have e1 : A.eval (.tmp 72) = .bool true := (hT 72 11 (by simp) rfl).trans (hd ⟨11,.data⟩ (by simp) rfl)
    exact BigFrame.wp_assign _ rfl ⟨_,rfl,e1,Below.refl _ _⟩
   case fin =>
   intro vs9 W9 hb9 hG9
   have e0 : vs9 0 = .agg #[.slice (aS 0) (mS 0) (cS 0),.slice (aS 1) (mS 1) (cS 1),.slice (aS 2) (mS 2) (cS 2),.slice (aS 3) (mS 3) (cS 3),.slice (aS 4) (mS 4) (cS 4),.slice (aS 5) (mS 5) (cS 5),.slice (aS 6) (mS 6) (cS 6),.slice (aS 7) (mS 7) (cS 7),.slice (aS 8) (mS 8) (cS 8),.slice (aS 9) (mS 9) (cS 9),.slice (aS 10) (mS 10) (cS 10),.slice (aS 11) (mS 11) (cS 11)] := hG9 0 (by decide)
   have e1 : vs9 1 = .int .i64 t := hG9 1 (by decide)
   have e2 : vs9 2 = .slice (some ⟨b,off,none⟩) L.length cA := hG9 2 (by decide)
   have e3 : vs9 3 = .int .i64 (i : Int) := hG9 3 (by decide)
   have e4 : vs9 4 = .pointer (some ⟨b,off + i * 2,none⟩) := hG9 4 (by decide)
   have e5 : vs9 5 = .pointer (some ⟨b,off + i * 2,none⟩) := hG9 5 (by decide)
   have e6 : vs9 6 = .slice A1 L[i].key.length C1 := hG9 6 (by decide)
   have e7 : vs9 7 = .int .i64 u := hG9 7 (by decide)
   obtain ⟨gx8,gy8,e8,_⟩ := hG9 8 (by decide)
   obtain ⟨gx9,gy9,e9,_⟩ := hG9 9 (by decide)
   obtain ⟨gx10,gy10,e10,_⟩ := hG9 10 (by decide)
   have e11 : vs9 11 = .bool true := hG9 11 (by decide)
   obtain ⟨gx12,gy12,e12,rv⟩ := hG9 12 (by decide)
   have e13 : vs9 13 = .bool true := hG9 13 (by decide)
   simp only [putAll,e0,e1,e2,e3,e4,e5,e6,e7,e8,e9,e10,e11,e12,e13]
   clear hG9 e0 e1 e2 e3 e4 e5 e6 e7 e8 e9 e10 e11 e12 e13
   clear g0 g1 hk1 hk2
   replace q2 := q2.trans (hb9.mono q2.size)
   clear hb9
   go_simp
   go_upto_region 16 with (fail)
   obtain ⟨b',off',A1,C1,A2,C2,eL,hb0,g0,g1,hk1,hk2⟩ := (rrA.below q2).pq i hlt
   injection eL with eL
   injection eL with eb eo _
   subst eb eo
   clear hb0
   have r1 := hk1.rd
   have r2 := hk2.rd
   have r3 := rv.rd
   have d0 : ((strOf L[i].val).toList == (strOf L[i].val).toList) = true := beq_self_eq_true _
   cases i with
   | zero =>
    simp only [Nat.zero_mul,Nat.add_zero] at g0 g1
    refine wp_region_quiet_lit (by kernel_rfl) (by kernel_rfl) ?_
    repeat (first | go_big_quiet_step (fail) | (go_big_quiet_want; refine quiet_conv byP rfl rfl r3 ?_; go_big_quiet_on; go_simp) | (go_big_quiet_want; refine quiet_conv byP rfl rfl r2 ?_; go_big_quiet_on; go_simp) | (go_big_quiet_want; refine quiet_conv byP rfl rfl r1 ?_; go_big_quiet_on; go_simp))
    first | (refine wpQuiet_nil ?_; intro _ hw'; obtain ⟨nq,hw''⟩ := hw'; subst hw'') | intro nq
    go_wp2_with fail
    go_roundw
    case rel => exact ⟨1,by go_num,by omega,Below.drewN q2 _⟩
    case measure => simp [intOf]; omega
   | succ i =>
    have hlt' : i < L.length := by omega
    obtain ⟨b',off',A0,C0,A3,C3,eL,hb0,f0,f1,hk3,hk4⟩ := (rrA.below q2).pq i hlt'
    injection eL with eL
    injection eL with eb eo _
    subst eb eo
    clear hb0
    have r4 := hk3.rd
    have e1 : ((i + 1 : Nat) : Int) - 1 = (i : Int) := by omega
    have dl : ltB L[i].key L[i + 1].key = true := List.pairwise_iff_getElem.1 hsrt.out i (i + 1) hlt' hlt (by omega)
    have d4 : Op.bytesLess (strOf L[i].key).toList (strOf L[i + 1].key).toList = true := str_lt7.trans dl
    have d5 : Op.bytesLess (strOf L[i + 1].key).toList (strOf L[i].key).toList = false := str_lt7.trans (ltB_asymm dl)
    have d6 : ((strOf L[i + 1].key).toList == (strOf L[i].key).toList) = false := str_eq7.trans (decide_eq_false fun e => ltB_ne dl e.symm)
    clear dl
    refine wp_region_quiet_lit (by kernel_rfl) (by kernel_rfl) ?_
    repeat (first | go_big_quiet_step (fail) | (go_big_quiet_want; refine quiet_conv byP rfl rfl r3 ?_; go_big_quiet_on; go_simp) | (go_big_quiet_want; refine quiet_conv byP rfl rfl r2 ?_; go_big_quiet_on; go_simp) | (go_big_quiet_want; refine quiet_conv byP rfl rfl r4 ?_; go_big_quiet_on; go_simp) | (go_big_quiet_want; refine quiet_conv byP rfl rfl r1 ?_; go_big_quiet_on; go_simp))
    first | (refine wpQuiet_nil ?_; intro _ hw'; obtain ⟨nq,hw''⟩ := hw'; subst hw'') | intro nq
    go_wp2_with fail
    go_roundw
    case rel => exact ⟨i + 2,by go_num,by omega,Below.drewN q2 _⟩
    case measure => simp [intOf]; omega
  ·obtain rfl : i = L.length := by omega
   have hz : decide ((L.length : Int) < (L.length : Int)) = false := decide_eq_false (by omega)
   replace Bs := Bs.below q2 Bs.lt
   replace rrA := rrA.below q2
   replace rrB := rrB.below q2
   replace q := q.trans (q2.mono q.size)
   clear q2 hge hil
   go_upto_region 18 with (fail)
   have hcl := refPq_any _ rrA rrB
   rw [decide_eq_true rfl] at hcl
   go_wp2_with fail
   refine hcl.mono ?_
   rintro e wz ⟨rfl,hb⟩
   go_wp2_with fail
   go_ret
   exact ⟨rfl,q.trans (hb.mono q.size)⟩
end Go.Proofs.YtlpfhgdnmjkngaaGreat
