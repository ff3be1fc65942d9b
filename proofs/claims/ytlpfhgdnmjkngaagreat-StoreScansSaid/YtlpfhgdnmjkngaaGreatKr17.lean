/-
  TEXTS OF ONE PROOF, merged: StW, StS, StT, StX.
-/
import Derived.Test.YtlpfhgdnmjkngaaGreatKr16
namespace Go.Proofs.YtlpfhgdnmjkngaaGreat
open Go.RowKit Go.Shelf
theorem keys_few {n:Nd} (h:okN n) (hl:(pairsN n).length≤1):n.keys.length=(pairsN n).length:=by
 obtain⟨d,hd⟩:∃ d:Nat,formI n true=(d:Int):=⟨(formI n true).toNat,by have:=h.1;omega⟩
 obtain⟨h1,_,h2⟩:=pairs_bounds d hd
 have hd1:d=1:=by
  rcases h2 with h2 | h2
  ·rcases Nat.lt_or_ge 1 d with h3 | h3
   ·have:2 ^ 2≤2 ^ d:=Nat.pow_le_pow_right (by omega) h3
    omega
   ·omega
  ·exact h2.2.1
 subst hd1
 obtain⟨_,_,_,h4⟩:=form_inv hd (by omega)
 rcases h4 with⟨h5,_⟩|⟨h5,h6,_,h8⟩
 ·exact (pairs_leaf n h5).symm
 ·obtain⟨m,hm⟩:∃ m,m∈n.kids:=⟨n.kids[0]'(by omega),List.getElem_mem _⟩
  have:=h8 m hm
  have:=form_pos (n:=m) (root:=false) (by omega)
  omega
section
variable {ops : Array Oper} {rest : List Oper} {o : Oper} {a : Act} {Q : Exit → Act → World → Prop} {w : World}
theorem wpList_byte7 (hP : ByP Tryz.prog 30 5 9) {o' : Oper} {k : Int} {d : Tmp} (ho : o.op = .buildSlice 30 1 #[(0,.const (.int .u8 k))]) (hgd' : ∀ u,Region.wanted o' (yielded ops (a.put o.dst u).tmps) = true) (hgd : Region.wanted o (yielded ops a.tmps) = true) (hd : o.dst = some d) (hlt : d < a.tmps.size)
  (ho' : o'.op = .convert 30 30 (.tmp d)) (hk : 0 ≤ k ∧ k < 256)
  (h : ∀ u g n w',Below w.heap.size w w' → Rd w'.heap.size w' (.slice (some ⟨g,0,none⟩) n n) [UInt8.ofNat k.toNat] → wpList Tryz.prog ops Q rest ((a.put (some d) u).put o'.dst (.slice (some ⟨g,0,none⟩) n n)) w') : wpList Tryz.prog ops Q (o :: o' :: rest) a w :=
 wpList_const hP ho hgd' hgd hd hlt ho' [UInt8.ofNat k.toNat] (by
  simp [bv,Act.eval]
  omega) rfl (by simp) h
end
theorem one_w {w : World} {g : Nat} {x : Wr} {k v : Value} (hb : BoxN w g 51 [.int .i64 x.table,k,.bool x.gone,v]) (h1 : RdS (fun _ => True) w k x.key) (h2 : RdS (fun _ => True) w v x.val) (h3 : W64 x.table) : RdL Elt.wr (fun _ => True) w (.slice (some ⟨g,0,none⟩) 1 1) [x] :=
 ⟨some ⟨g,0,none⟩,1,rfl,Nat.le_refl _,by unfold maxLen; omega,.inr ⟨g,0,rfl,trivial,fun r hr => by
  obtain rfl : r = 0 := by simp at hr; omega
  exact ⟨_,⟨k,v,rfl,h1,h2,h3⟩,fun j u hj => by simpa using hb.cell hj⟩⟩⟩
theorem two_w {w : World} {g : Nat} {x y : Wr} {k v k2 v2 : Value} (hb : BoxN w g 51 [.int .i64 x.table,k,.bool x.gone,v,.int .i64 y.table,k2,.bool y.gone,v2]) (h1 : RdS (fun _ => True) w k x.key) (h2 : RdS (fun _ => True) w v x.val) (h3 : W64 x.table) (h4 : RdS (fun _ => True) w k2 y.key) (h5 : RdS (fun _ => True) w v2 y.val) (h6 : W64 y.table) : RdL Elt.wr (fun _ => True) w (.slice (some ⟨g,0,none⟩) 2 2) [x,y] :=
 ⟨some ⟨g,0,none⟩,2,rfl,Nat.le_refl _,by unfold maxLen; omega,.inr ⟨g,0,rfl,trivial,fun r hr => by
  have : r = 0 ∨ r = 1 := by simp at hr; omega
  rcases this with rfl | rfl
  ·refine ⟨_,⟨k,v,rfl,h1,h2,h3⟩,fun j u hj => ?_⟩
   have hj4 : j < 4 := by rcases Nat.lt_or_ge j 4 with h | h; exact h; rw [List.getElem?_eq_none (by simpa [wrC] using h)] at hj; cases hj
   match j,hj4,hj with
   | 0,_,hj => exact hb.cell (i := 0) hj
   | 1,_,hj => exact hb.cell (i := 1) hj
   | 2,_,hj => exact hb.cell (i := 2) hj
   | 3,_,hj => exact hb.cell (i := 3) hj
  ·refine ⟨_,⟨k2,v2,rfl,h4,h5,h6⟩,fun j u hj => ?_⟩
   have hj4 : j < 4 := by rcases Nat.lt_or_ge j 4 with h | h; exact h; rw [List.getElem?_eq_none (by simpa [wrC] using h)] at hj; cases hj
   match j,hj4,hj with
   | 0,_,hj => exact hb.cell (i := 4) hj
   | 1,_,hj => exact hb.cell (i := 5) hj
   | 2,_,hj => exact hb.cell (i := 6) hj
   | 3,_,hj => exact hb.cell (i := 7) hj⟩⟩
theorem rdSt_nil (S:Nat→Prop) (w:World):RdSt S w (.agg #[.slice none 0 0,.slice none 0 0,.slice none 0 0,.slice none 0 0,.slice none 0 0,.slice none 0 0,.slice none 0 0,.slice none 0 0,.slice none 0 0,.slice none 0 0,.slice none 0 0,.slice none 0 0]) T07:=⟨fun _=>none,fun _=>0,fun _=>0,rfl,fun _ _=>rdN_nil _ _⟩
theorem fit_07:fitS T07:=fun _ _=>fit_nil
theorem InT.facts {T T' : Sto} {s : Int} {l : List Wr} {K : Nat} (h : InT T s l K T') (h0 : (instI T s l).2 = 0) (hK : K + l.length ≤ 900) : okS T' ∧ (∀ j,j < 4 → tabS T' j = (instI T s l).1 j) ∧ (∀ j,j < 4 → ∀ p ∈ prN (T' j),p.chain.length ≤ K + l.length) ∧ fitS T' := by
 obtain ⟨_,h2⟩ := h
 obtain ⟨_,h3⟩ := h2 h0
 have hp : ∀ j,j < 4 → prN (T' j) = pairsN (T' j) := fun j hj => by unfold prN; rw [if_pos (h3 j hj).1]
 refine ⟨fun j hj => ⟨(h3 j hj).1,by rw [hp j hj]; exact (h3 j hj).2.2.1⟩,fun j hj => by show prN (T' j) = _; rw [hp j hj]; exact (h3 j hj).2.1,fun j hj => by rw [hp j hj]; exact (h3 j hj).2.2.2,fun j hj => ?_⟩
 obtain ⟨k1,k2,k3,k4⟩ := h3 j hj
 refine ok_fit k1 ⟨by omega,fun p hp2 => okV_small (((okP_iff _).1 k1.2).1 p hp2).1 ?_⟩
 have := k4 p hp2
 omega
theorem VacT.facts {T T' : Sto} {o : Int} (h : VacT o T T') (hk : okS T) (hf : fitS T) : okS T' ∧ fitS T' ∧ ∀ j,j < 4 → okN (T' j) ∧ pairsN (T' j) = vacP (tabS T j) o := by
 have h1 := h.1 hk
 have hp : ∀ j,j < 4 → okN (T' j) ∧ pairsN (T' j) = vacP (tabS T j) o := fun j hj => by
  obtain ⟨k1,k2⟩ := (h1 j hj).1 (hk j hj).1
  refine ⟨k1,?_⟩
  rw [k2]
  unfold tabS prN
  rw [if_pos (hk j hj).1]
 have hl : ∀ j,j < 4 → (pairsN (T' j)).length ≤ 60 := fun j hj => by
  rw [(hp j hj).2]
  exact Nat.le_trans (vacP_len _ _) (hk j hj).2
 refine ⟨fun j hj => ⟨(hp j hj).1,by have := hl j hj; unfold prN; rw [if_pos (hp j hj).1]; exact this⟩,fun j hj => ok_fit (hp j hj).1 ⟨by have := hl j hj; omega,fun p hp2 => ?_⟩,hp⟩
 rw [(hp j hj).2] at hp2
 obtain ⟨p0,hm,_,rfl⟩ := vacP_mem hp2
 have hs := prN_small (hf j hj) p0 hm
 exact ⟨Nat.le_trans (vacV_len _ _) hs.1,fun z hz => hs.2 z (vacV_mem hz)⟩
set_option maxRecDepth 100000 in
set_option maxHeartbeats 16000000 in
theorem awake7_any (w : World) : Calls Tryz.prog 11 #[] w fun e w' => e = .returned (.bool true) ∧ Below w.heap.size w w' := by
 go_enter Tryz.func11,Tryz.ntmps11
 have q := Below.refl w.heap.size w
 go_wp2_with (first | (have hx := hr2; refine wpList_byte7 byP rfl (fun _ => rfl) rfl rfl (by first | (simp; done) | (simp [Act.put]; done)) rfl (by decide) ?_; clear hx; intro u3 g3 k3 w3 hb3 hr3) | (have hx := hr1; refine wpList_byte7 byP rfl (fun _ => rfl) rfl rfl (by first | (simp; done) | (simp [Act.put]; done)) rfl (by decide) ?_; clear hx; intro u2 g2 k2 w2 hb2 hr2) | (refine wpList_byte7 byP rfl (fun _ => rfl) rfl rfl (by first | (simp; done) | (simp [Act.put]; done)) rfl (by decide) ?_; intro u1 g1 k1 w1 hb1 hr1) | fail)
 obtain rfl : k1 = 1 := hr1.s.len.1
 obtain rfl : k2 = 1 := hr2.s.len.1
 obtain rfl : k3 = 1 := hr3.s.len.1
 have t1 : RdS (fun _ => True) w3 (.slice (some ⟨g1,0,none⟩) 1 1) [97] := ((hr1.s.below hb2).below hb3).weak fun _ _ => trivial
 have t2 : RdS (fun _ => True) w3 (.slice (some ⟨g2,0,none⟩) 1 1) [118] := (hr2.s.below hb3).weak fun _ _ => trivial
 have t3 : RdS (fun _ => True) w3 (.slice (some ⟨g3,0,none⟩) 1 1) [98] := hr3.s.weak fun _ _ => trivial
 replace q := q.trans ((hb1.mono q.size).trans ((hb2.mono (by have := hb1.size; have := q.size; omega)).trans (hb3.mono (by have := hb1.size; have := hb2.size; have := q.size; omega))))
 obtain ⟨w4,hw4⟩ : ∃ w4,w4 = w3.alloc (.cells #[.int .i64 0,.slice (some ⟨g1,0,none⟩) 1 1,.bool false,.slice (some ⟨g2,0,none⟩) 1 1,.int .i64 1,.slice (some ⟨g3,0,none⟩) 1 1,.bool false,.slice none 0 0] 51) := ⟨_,rfl⟩
 have hb4 : Below w3.heap.size w3 w4 := by rw [hw4]; exact (Below.refl _ _).alloc (Nat.le_refl _) _
 have xr : BoxN w4 w3.heap.size 51 [.int .i64 0,.slice (some ⟨g1,0,none⟩) 1 1,.bool false,.slice (some ⟨g2,0,none⟩) 1 1,.int .i64 1,.slice (some ⟨g3,0,none⟩) 1 1,.bool false,.slice none 0 0] := by rw [hw4]; exact BoxN.new _ _ _
 rw [← hw4]
 clear hw4
 replace q := q.trans (hb4.mono q.size)
 have hlw : RdL Elt.wr (fun _ => True) w4 (.slice (some ⟨w3.heap.size,0,none⟩) 2 2) [xA7,xB7] := two_w xr (t1.below hb4) (t2.below hb4) ⟨by decide,by decide⟩ (t3.below hb4) (RdS.nil _ _) ⟨by decide,by decide⟩
 clear hr1 hr2 hr3 hb1 hb2 hb3 hb4 t1 t2 t3 xr
 have hch1 : okS T07 → ∀ j,j < 4 → ∀ p ∈ prN (T07 j),p.chain.length ≤ 100 := fun _ j _ p hp => by rw [show prN (T07 j) = [] from prN_nil] at hp; cases hp
 have hcl := sInstall_any w4 (T := T07) (s := 3) (l := [xA7,xB7]) (K := 100) (rdSt_nil (fun _ => True) w4) fit_07 ⟨by decide,by decide⟩ hlw hch1 (by decide)
 unfold InsEnd at hcl
 rw [insA7.1] at hcl
 refine hcl.mono ?_
 rintro e wcA ⟨vA,TA,rfl,⟨aA,mA,cA,rfl,hA⟩,hb,hIA⟩
 clear hcl
 replace q := q.trans (hb.mono q.size)
 clear hb
 have rA : RdSt (fun _ => True) wcA (.agg #[.slice (aA 0) (mA 0) (cA 0),.slice (aA 1) (mA 1) (cA 1),.slice (aA 2) (mA 2) (cA 2),.slice (aA 3) (mA 3) (cA 3),.slice (aA 4) (mA 4) (cA 4),.slice (aA 5) (mA 5) (cA 5),.slice (aA 6) (mA 6) (cA 6),.slice (aA 7) (mA 7) (cA 7),.slice (aA 8) (mA 8) (cA 8),.slice (aA 9) (mA 9) (cA 9),.slice (aA 10) (mA 10) (cA 10),.slice (aA 11) (mA 11) (cA 11)]) TA := ⟨aA,mA,cA,rfl,fun i hi => (hA i hi).weak fun _ _ => trivial⟩
 clear hA
 obtain ⟨kA,eA,cA2,fA⟩ := hIA.facts insA7.1 (by decide)
 have A0 : tabS TA 0 = pA7 := (eA 0 (by decide)).trans insA7.2.1
 have A1 : tabS TA 1 = pB7 := (eA 1 (by decide)).trans insA7.2.2.1
 clear hIA eA hlw hch1
 go_upto_region 2 with (first | (refine wpList_boxNew (vs := [.slice none 0 0,.slice none 0 0,.slice none 0 0,.slice none 0 0,.slice none 0 0,.slice none 0 0,.slice none 0 0,.slice none 0 0,.slice none 0 0,.slice none 0 0,.slice none 0 0,.slice none 0 0]) (by kernel_rfl) rfl rfl ?_; intro wa hba hBa) | (refine wpList_boxStore (us := [.slice (aA 0) (mA 0) (cA 0),.slice (aA 1) (mA 1) (cA 1),.slice (aA 2) (mA 2) (cA 2),.slice (aA 3) (mA 3) (cA 3),.slice (aA 4) (mA 4) (cA 4),.slice (aA 5) (mA 5) (cA 5),.slice (aA 6) (mA 6) (cA 6),.slice (aA 7) (mA 7) (cA 7),.slice (aA 8) (mA 8) (cA 8),.slice (aA 9) (mA 9) (cA 9),.slice (aA 10) (mA 10) (cA 10),.slice (aA 11) (mA 11) (cA 11)]) (by kernel_rfl) rfl rfl rfl rfl rfl rfl hBa rfl ?_; intro wbA hgw xA) | fail)
 have hbw := hba.grown hgw hba.size fun k hk => by injection hk with hk; omega
 replace rA := rA.below hbw
 replace q := q.trans (hbw.mono q.size)
 clear hbw hgw hba hBa
 have d0 := xA.cell (i := 0) rfl
 have d1 := xA.cell (i := 1) rfl
 have d2 := xA.cell (i := 2) rfl
 have d3 := xA.cell (i := 3) rfl
 have d4 := xA.cell (i := 4) rfl
 have d5 := xA.cell (i := 5) rfl
 have d6 := xA.cell (i := 6) rfl
 have d7 := xA.cell (i := 7) rfl
 have d8 := xA.cell (i := 8) rfl
 have d9 := xA.cell (i := 9) rfl
 have d10 := xA.cell (i := 10) rfl
 have d11 := xA.cell (i := 11) rfl
 go_wp2_with (first | (refine wpList_byte7 byP rfl (fun _ => rfl) rfl rfl (by first | (simp; done) | (simp [Act.put]; done)) rfl (by decide) ?_; intro u1 g1 k1 w1 hb1 hr1) | fail)
 obtain rfl : k1 = 1 := hr1.s.len.1
 clear d0 d1 d2 d3 d4 d5 d6 d7 d8 d9 d10 d11
 replace rA := rA.below hb1
 replace xA := xA.below hb1 xA.lt
 replace q := q.trans (hb1.mono q.size)
 obtain ⟨w4,hw4⟩ : ∃ w4,w4 = w1.alloc (.cells #[.int .i64 0,.slice (some ⟨g1,0,none⟩) 1 1,.bool true,.slice none 0 0] 51) := ⟨_,rfl⟩
 have hb4 : Below w1.heap.size w1 w4 := by rw [hw4]; exact (Below.refl _ _).alloc (Nat.le_refl _) _
 have xr : BoxN w4 w1.heap.size 51 [.int .i64 0,.slice (some ⟨g1,0,none⟩) 1 1,.bool true,.slice none 0 0] := by rw [hw4]; exact BoxN.new _ _ _
 rw [← hw4]
 clear hw4
 replace rA := rA.below hb4
 replace xA := xA.below hb4 xA.lt
 replace q := q.trans (hb4.mono q.size)
 have hlw : RdL Elt.wr (fun _ => True) w4 (.slice (some ⟨w1.heap.size,0,none⟩) 1 1) [xC7] := one_w xr ((hr1.s.below hb4).weak fun _ _ => trivial) (RdS.nil _ _) ⟨by decide,by decide⟩
 clear hr1 hb1 hb4 xr
 have hch2 : okS TA → ∀ j,j < 4 → ∀ p ∈ prN (TA j),p.chain.length ≤ 102 := fun _ j hj p hp => cA2 j hj p hp
 have hcl := sInstall_any w4 (T := TA) (s := 5) (l := [xC7]) (K := 102) rA fA ⟨by decide,by decide⟩ hlw hch2 (by decide)
 unfold InsEnd at hcl
 rw [(insC7 kA A0).1] at hcl
 refine hcl.mono ?_
 rintro e wcB ⟨vB,TB,rfl,⟨aB,mB,cB,rfl,hB⟩,hb,hIB⟩
 clear hcl
 replace rA := rA.below hb
 replace xA := xA.below hb xA.lt
 replace q := q.trans (hb.mono q.size)
 clear hb
 have rB : RdSt (fun _ => True) wcB (.agg #[.slice (aB 0) (mB 0) (cB 0),.slice (aB 1) (mB 1) (cB 1),.slice (aB 2) (mB 2) (cB 2),.slice (aB 3) (mB 3) (cB 3),.slice (aB 4) (mB 4) (cB 4),.slice (aB 5) (mB 5) (cB 5),.slice (aB 6) (mB 6) (cB 6),.slice (aB 7) (mB 7) (cB 7),.slice (aB 8) (mB 8) (cB 8),.slice (aB 9) (mB 9) (cB 9),.slice (aB 10) (mB 10) (cB 10),.slice (aB 11) (mB 11) (cB 11)]) TB := ⟨aB,mB,cB,rfl,fun i hi => (hB i hi).weak fun _ _ => trivial⟩
 clear hB
 clear hlw hch2
 obtain ⟨kB,eB,cB2,fB⟩ := hIB.facts (insC7 kA A0).1 (by decide)
 have B0 : tabS TB 0 = pC7 := (eB 0 (by decide)).trans (insC7 kA A0).2.1
 have B1 : tabS TB 1 = pB7 := ((eB 1 (by decide)).trans ((insC7 kA A0).2.2 1 (by decide))).trans A1
 clear hIB eB
 go_upto_region 3 with (first | (refine wpList_boxNew (vs := [.slice none 0 0,.slice none 0 0,.slice none 0 0,.slice none 0 0,.slice none 0 0,.slice none 0 0,.slice none 0 0,.slice none 0 0,.slice none 0 0,.slice none 0 0,.slice none 0 0,.slice none 0 0]) (by kernel_rfl) rfl rfl ?_; intro wa hba hBa) | (refine wpList_boxStore (us := [.slice (aB 0) (mB 0) (cB 0),.slice (aB 1) (mB 1) (cB 1),.slice (aB 2) (mB 2) (cB 2),.slice (aB 3) (mB 3) (cB 3),.slice (aB 4) (mB 4) (cB 4),.slice (aB 5) (mB 5) (cB 5),.slice (aB 6) (mB 6) (cB 6),.slice (aB 7) (mB 7) (cB 7),.slice (aB 8) (mB 8) (cB 8),.slice (aB 9) (mB 9) (cB 9),.slice (aB 10) (mB 10) (cB 10),.slice (aB 11) (mB 11) (cB 11)]) (by kernel_rfl) rfl rfl rfl rfl rfl rfl hBa rfl ?_; intro wbB hgw xB) | fail)
 have hbw := hba.grown hgw hba.size fun k hk => by injection hk with hk; omega
 replace rA := rA.below hbw
 replace xA := xA.below hbw xA.lt
 replace rB := rB.below hbw
 replace q := q.trans (hbw.mono q.size)
 clear hbw hgw hba hBa
 have d0 := xB.cell (i := 0) rfl
 have d1 := xB.cell (i := 1) rfl
 have d2 := xB.cell (i := 2) rfl
 have d3 := xB.cell (i := 3) rfl
 have d4 := xB.cell (i := 4) rfl
 have d5 := xB.cell (i := 5) rfl
 have d6 := xB.cell (i := 6) rfl
 have d7 := xB.cell (i := 7) rfl
 have d8 := xB.cell (i := 8) rfl
 have d9 := xB.cell (i := 9) rfl
 have d10 := xB.cell (i := 10) rfl
 have d11 := xB.cell (i := 11) rfl
 go_wp2_with (first | (refine wpList_byte7 byP rfl (fun _ => rfl) rfl rfl (by first | (simp; done) | (simp [Act.put]; done)) rfl (by decide) ?_; intro u1 g1 k1 w1 hb1 hr1) | fail)
 obtain rfl : k1 = 1 := hr1.s.len.1
 clear d0 d1 d2 d3 d4 d5 d6 d7 d8 d9 d10 d11
 replace rA := rA.below hb1
 replace xA := xA.below hb1 xA.lt
 replace rB := rB.below hb1
 replace xB := xB.below hb1 xB.lt
 replace q := q.trans (hb1.mono q.size)
 obtain ⟨w4,hw4⟩ : ∃ w4,w4 = w1.alloc (.cells #[.int .i64 0,.slice (some ⟨g1,0,none⟩) 1 1,.bool false,.slice none 0 0] 51) := ⟨_,rfl⟩
 have hb4 : Below w1.heap.size w1 w4 := by rw [hw4]; exact (Below.refl _ _).alloc (Nat.le_refl _) _
 have xr : BoxN w4 w1.heap.size 51 [.int .i64 0,.slice (some ⟨g1,0,none⟩) 1 1,.bool false,.slice none 0 0] := by rw [hw4]; exact BoxN.new _ _ _
 rw [← hw4]
 clear hw4
 replace rA := rA.below hb4
 replace xA := xA.below hb4 xA.lt
 replace rB := rB.below hb4
 replace xB := xB.below hb4 xB.lt
 replace q := q.trans (hb4.mono q.size)
 have hlw : RdL Elt.wr (fun _ => True) w4 (.slice (some ⟨w1.heap.size,0,none⟩) 1 1) [xD7] := one_w xr ((hr1.s.below hb4).weak fun _ _ => trivial) (RdS.nil _ _) ⟨by decide,by decide⟩
 clear hr1 hb1 hb4 xr
 have hch3 : okS TB → ∀ j,j < 4 → ∀ p ∈ prN (TB j),p.chain.length ≤ 103 := fun _ j hj p hp => cB2 j hj p hp
 have hcl := sInstall_any w4 (T := TB) (s := 5) (l := [xD7]) (K := 103) rB fB ⟨by decide,by decide⟩ hlw hch3 (by decide)
 unfold InsEnd at hcl
 rw [insD7 kB B0] at hcl
 refine hcl.mono ?_
 rintro e wcC ⟨vC,TC,rfl,⟨aC,mC,cC,rfl,hC⟩,hb,hIC⟩
 clear hcl
 replace rA := rA.below hb
 replace xA := xA.below hb xA.lt
 replace rB := rB.below hb
 replace xB := xB.below hb xB.lt
 replace q := q.trans (hb.mono q.size)
 clear hb
 have rC : RdSt (fun _ => True) wcC (.agg #[.slice (aC 0) (mC 0) (cC 0),.slice (aC 1) (mC 1) (cC 1),.slice (aC 2) (mC 2) (cC 2),.slice (aC 3) (mC 3) (cC 3),.slice (aC 4) (mC 4) (cC 4),.slice (aC 5) (mC 5) (cC 5),.slice (aC 6) (mC 6) (cC 6),.slice (aC 7) (mC 7) (cC 7),.slice (aC 8) (mC 8) (cC 8),.slice (aC 9) (mC 9) (cC 9),.slice (aC 10) (mC 10) (cC 10),.slice (aC 11) (mC 11) (cC 11)]) TC := ⟨aC,mC,cC,rfl,fun i hi => (hC i hi).weak fun _ _ => trivial⟩
 clear hC
 clear hlw hch3
 go_upto_region 4 with (first | (refine wpList_boxNew (vs := [.slice none 0 0,.slice none 0 0,.slice none 0 0,.slice none 0 0,.slice none 0 0,.slice none 0 0,.slice none 0 0,.slice none 0 0,.slice none 0 0,.slice none 0 0,.slice none 0 0,.slice none 0 0]) (by kernel_rfl) rfl rfl ?_; intro wa hba hBa) | (refine wpList_boxStore (us := [.slice (aC 0) (mC 0) (cC 0),.slice (aC 1) (mC 1) (cC 1),.slice (aC 2) (mC 2) (cC 2),.slice (aC 3) (mC 3) (cC 3),.slice (aC 4) (mC 4) (cC 4),.slice (aC 5) (mC 5) (cC 5),.slice (aC 6) (mC 6) (cC 6),.slice (aC 7) (mC 7) (cC 7),.slice (aC 8) (mC 8) (cC 8),.slice (aC 9) (mC 9) (cC 9),.slice (aC 10) (mC 10) (cC 10),.slice (aC 11) (mC 11) (cC 11)]) (by kernel_rfl) rfl rfl rfl rfl rfl rfl hBa rfl ?_; intro wbC hgw xC) | fail)
 have hbw := hba.grown hgw hba.size fun k hk => by injection hk with hk; omega
 replace rA := rA.below hbw
 replace xA := xA.below hbw xA.lt
 replace rB := rB.below hbw
 replace xB := xB.below hbw xB.lt
 replace rC := rC.below hbw
 replace q := q.trans (hbw.mono q.size)
 clear hbw hgw hba hBa
 clear xC rC
 have d0 := xB.cell (i := 0) rfl
 have d1 := xB.cell (i := 1) rfl
 have d2 := xB.cell (i := 2) rfl
 have d3 := xB.cell (i := 3) rfl
 have d4 := xB.cell (i := 4) rfl
 have d5 := xB.cell (i := 5) rfl
 have d6 := xB.cell (i := 6) rfl
 have d7 := xB.cell (i := 7) rfl
 have d8 := xB.cell (i := 8) rfl
 have d9 := xB.cell (i := 9) rfl
 have d10 := xB.cell (i := 10) rfl
 have d11 := xB.cell (i := 11) rfl
 go_wp2_with fail
 clear d0 d1 d2 d3 d4 d5 d6 d7 d8 d9 d10 d11
 obtain ⟨w4,hw4⟩ : ∃ w4,w4 = wbC.alloc (.cells #[.int .i64 4,.slice none 0 0,.bool false,.slice none 0 0] 51) := ⟨_,rfl⟩
 have hb4 : Below wbC.heap.size wbC w4 := by rw [hw4]; exact (Below.refl _ _).alloc (Nat.le_refl _) _
 have xr : BoxN w4 wbC.heap.size 51 [.int .i64 4,.slice none 0 0,.bool false,.slice none 0 0] := by rw [hw4]; exact BoxN.new _ _ _
 rw [← hw4]
 clear hw4
 replace rA := rA.below hb4
 replace xA := xA.below hb4 xA.lt
 replace rB := rB.below hb4
 replace xB := xB.below hb4 xB.lt
 replace q := q.trans (hb4.mono q.size)
 have hlw : RdL Elt.wr (fun _ => True) w4 (.slice (some ⟨wbC.heap.size,0,none⟩) 1 1) [xE7] := one_w xr (RdS.nil _ _) (RdS.nil _ _) ⟨by decide,by decide⟩
 clear hb4 xr
 have hch4 : okS TB → ∀ j,j < 4 → ∀ p ∈ prN (TB j),p.chain.length ≤ 103 := fun _ j hj p hp => cB2 j hj p hp
 have hcl := sInstall_any w4 (T := TB) (s := 6) (l := [xE7]) (K := 103) rB fB ⟨by decide,by decide⟩ hlw hch4 (by decide)
 unfold InsEnd at hcl
 rw [insE7 TB] at hcl
 refine hcl.mono ?_
 rintro e wcD ⟨vD,TD,rfl,⟨aD,mD,cD,rfl,hD⟩,hb,hID⟩
 clear hcl
 replace rA := rA.below hb
 replace xA := xA.below hb xA.lt
 replace rB := rB.below hb
 replace xB := xB.below hb xB.lt
 replace q := q.trans (hb.mono q.size)
 clear hb
 have rD : RdSt (fun _ => True) wcD (.agg #[.slice (aD 0) (mD 0) (cD 0),.slice (aD 1) (mD 1) (cD 1),.slice (aD 2) (mD 2) (cD 2),.slice (aD 3) (mD 3) (cD 3),.slice (aD 4) (mD 4) (cD 4),.slice (aD 5) (mD 5) (cD 5),.slice (aD 6) (mD 6) (cD 6),.slice (aD 7) (mD 7) (cD 7),.slice (aD 8) (mD 8) (cD 8),.slice (aD 9) (mD 9) (cD 9),.slice (aD 10) (mD 10) (cD 10),.slice (aD 11) (mD 11) (cD 11)]) TD := ⟨aD,mD,cD,rfl,fun i hi => (hD i hi).weak fun _ _ => trivial⟩
 clear hD
 clear hlw hch4
 go_upto_region 5 with (first | (refine wpList_boxNew (vs := [.slice none 0 0,.slice none 0 0,.slice none 0 0,.slice none 0 0,.slice none 0 0,.slice none 0 0,.slice none 0 0,.slice none 0 0,.slice none 0 0,.slice none 0 0,.slice none 0 0,.slice none 0 0]) (by kernel_rfl) rfl rfl ?_; intro wa hba hBa) | (refine wpList_boxStore (us := [.slice (aD 0) (mD 0) (cD 0),.slice (aD 1) (mD 1) (cD 1),.slice (aD 2) (mD 2) (cD 2),.slice (aD 3) (mD 3) (cD 3),.slice (aD 4) (mD 4) (cD 4),.slice (aD 5) (mD 5) (cD 5),.slice (aD 6) (mD 6) (cD 6),.slice (aD 7) (mD 7) (cD 7),.slice (aD 8) (mD 8) (cD 8),.slice (aD 9) (mD 9) (cD 9),.slice (aD 10) (mD 10) (cD 10),.slice (aD 11) (mD 11) (cD 11)]) (by kernel_rfl) rfl rfl rfl rfl rfl rfl hBa rfl ?_; intro wbD hgw xD) | fail)
 have hbw := hba.grown hgw hba.size fun k hk => by injection hk with hk; omega
 replace rA := rA.below hbw
 replace xA := xA.below hbw xA.lt
 replace rB := rB.below hbw
 replace xB := xB.below hbw xB.lt
 replace rD := rD.below hbw
 replace q := q.trans (hbw.mono q.size)
 clear hbw hgw hba hBa
 clear xD rD
 clear xA rA
 have P0 : pickS TB 0 = pC7 := by
  unfold pickS
  rw [if_pos ⟨by decide,by decide,kB⟩]
  exact B0
 have d0 := xB.cell (i := 0) rfl
 have d1 := xB.cell (i := 1) rfl
 have d2 := xB.cell (i := 2) rfl
 have d3 := xB.cell (i := 3) rfl
 have d4 := xB.cell (i := 4) rfl
 have d5 := xB.cell (i := 5) rfl
 have d6 := xB.cell (i := 6) rfl
 have d7 := xB.cell (i := 7) rfl
 have d8 := xB.cell (i := 8) rfl
 have d9 := xB.cell (i := 9) rfl
 have d10 := xB.cell (i := 10) rfl
 have d11 := xB.cell (i := 11) rfl
 go_wp2_with (first | (refine wpList_byte7 byP rfl (fun _ => rfl) rfl rfl (by first | (simp; done) | (simp [Act.put]; done)) rfl (by decide) ?_; intro u1 g1 k1 w1 hb1 hr1) | fail)
 obtain rfl : k1 = 1 := hr1.s.len.1
 clear d0 d1 d2 d3 d4 d5 d6 d7 d8 d9 d10 d11
 replace rB := rB.below hb1
 replace xB := xB.below hb1 xB.lt
 replace q := q.trans (hb1.mono q.size)
 have hcl : Calls Tryz.prog 16 _ w1 (NextEnd w1 (getP (pickS TB 0) [97] 4)) := sGet_any w1 (T := TB) (t := 0) (s := 4) rB fB hr1.s
 rw [P0,get7.1] at hcl
 refine hcl.mono ?_
 rintro e wg1 ⟨va1,vc1,e5,rv1,hb⟩
 clear hcl hr1 hb1
 replace e5 : e = .returned (.tuple #[.slice va1 1 vc1,.bool true]) := e5
 subst e5
 replace rB := rB.below hb
 replace xB := xB.below hb xB.lt
 replace q := q.trans (hb.mono q.size)
 clear hb
 replace rv1 : RdS (fun _ => True) wg1 (.slice va1 1 vc1) [118] := rv1.weak fun _ _ => trivial
 have d0 := xB.cell (i := 0) rfl
 have d1 := xB.cell (i := 1) rfl
 have d2 := xB.cell (i := 2) rfl
 have d3 := xB.cell (i := 3) rfl
 have d4 := xB.cell (i := 4) rfl
 have d5 := xB.cell (i := 5) rfl
 have d6 := xB.cell (i := 6) rfl
 have d7 := xB.cell (i := 7) rfl
 have d8 := xB.cell (i := 8) rfl
 have d9 := xB.cell (i := 9) rfl
 have d10 := xB.cell (i := 10) rfl
 have d11 := xB.cell (i := 11) rfl
 go_wp2_with (first | (refine wpList_byte7 byP rfl (fun _ => rfl) rfl rfl (by first | (simp; done) | (simp [Act.put]; done)) rfl (by decide) ?_; intro u1 g1 k1 w1 hb1 hr1) | fail)
 obtain rfl : k1 = 1 := hr1.s.len.1
 clear d0 d1 d2 d3 d4 d5 d6 d7 d8 d9 d10 d11
 replace rB := rB.below hb1
 replace xB := xB.below hb1 xB.lt
 replace rv1 := rv1.below hb1
 replace q := q.trans (hb1.mono q.size)
 have hcl : Calls Tryz.prog 16 _ w1 (NextEnd w1 (getP (pickS TB 0) [97] 2)) := sGet_any w1 (T := TB) (t := 0) (s := 2) rB fB hr1.s
 rw [P0,get7.2.1] at hcl
 refine hcl.mono ?_
 rintro e wg2 ⟨va2,vc2,e5,rv2,hb⟩
 clear hcl hr1 hb1
 replace e5 : e = .returned (.tuple #[.slice va2 0 vc2,.bool false]) := e5
 subst e5
 replace rB := rB.below hb
 replace xB := xB.below hb xB.lt
 replace rv1 := rv1.below hb
 replace q := q.trans (hb.mono q.size)
 clear hb
 clear rv2
 have d0 := xB.cell (i := 0) rfl
 have d1 := xB.cell (i := 1) rfl
 have d2 := xB.cell (i := 2) rfl
 have d3 := xB.cell (i := 3) rfl
 have d4 := xB.cell (i := 4) rfl
 have d5 := xB.cell (i := 5) rfl
 have d6 := xB.cell (i := 6) rfl
 have d7 := xB.cell (i := 7) rfl
 have d8 := xB.cell (i := 8) rfl
 have d9 := xB.cell (i := 9) rfl
 have d10 := xB.cell (i := 10) rfl
 have d11 := xB.cell (i := 11) rfl
 go_wp2_with (first | (refine wpList_byte7 byP rfl (fun _ => rfl) rfl rfl (by first | (simp; done) | (simp [Act.put]; done)) rfl (by decide) ?_; intro u1 g1 k1 w1 hb1 hr1) | fail)
 obtain rfl : k1 = 1 := hr1.s.len.1
 clear d0 d1 d2 d3 d4 d5 d6 d7 d8 d9 d10 d11
 replace rB := rB.below hb1
 replace xB := xB.below hb1 xB.lt
 replace rv1 := rv1.below hb1
 replace q := q.trans (hb1.mono q.size)
 have hcl : Calls Tryz.prog 16 _ w1 (NextEnd w1 (getP (pickS TB 0) [97] 5)) := sGet_any w1 (T := TB) (t := 0) (s := 5) rB fB hr1.s
 rw [P0,get7.2.2] at hcl
 refine hcl.mono ?_
 rintro e wg3 ⟨va3,vc3,e5,rv3,hb⟩
 clear hcl hr1 hb1
 replace e5 : e = .returned (.tuple #[.slice va3 0 vc3,.bool false]) := e5
 subst e5
 replace rB := rB.below hb
 replace xB := xB.below hb xB.lt
 replace rv1 := rv1.below hb
 replace q := q.trans (hb.mono q.size)
 clear hb
 clear rv3
 go_upto_region 9 with (first | (refine wpList_boxNew (vs := [.int .i64 0,.slice none 0 0,.slice none 0 0,.bool false]) (by kernel_rfl) rfl rfl ?_; intro wa hba hBa) | (refine wpList_boxStore (us := [.int .i64 0,.slice none 0 0,.slice none 0 0,.bool true]) (by kernel_rfl) rfl rfl rfl rfl rfl rfl hBa rfl ?_; intro wbS hgw xS) | fail)
 have hbw := hba.grown hgw hba.size fun k hk => by injection hk with hk; omega
 replace rB := rB.below hbw
 replace xB := xB.below hbw xB.lt
 replace rv1 := rv1.below hbw
 replace q := q.trans (hbw.mono q.size)
 clear hbw hgw hba hBa
 have d0 := xB.cell (i := 0) rfl
 have d1 := xB.cell (i := 1) rfl
 have d2 := xB.cell (i := 2) rfl
 have d3 := xB.cell (i := 3) rfl
 have d4 := xB.cell (i := 4) rfl
 have d5 := xB.cell (i := 5) rfl
 have d6 := xB.cell (i := 6) rfl
 have d7 := xB.cell (i := 7) rfl
 have d8 := xB.cell (i := 8) rfl
 have d9 := xB.cell (i := 9) rfl
 have d10 := xB.cell (i := 10) rfl
 have d11 := xB.cell (i := 11) rfl
 have s0 := xS.cell (i := 0) rfl
 have s1 := xS.cell (i := 1) rfl
 have s2 := xS.cell (i := 2) rfl
 have s3 := xS.cell (i := 3) rfl
 have hcl : Calls Tryz.prog 19 _ wbS (ScEnd wbS (scanP (pickS TB 0) (⟨0,[],[],true⟩ : Sp) 3)) := sScan_any wbS (T := TB) (x := (⟨0,[],[],true⟩ : Sp)) (s := 3) rB fB (S2 := fun _ => True) ⟨none,0,none,0,rfl,RdS.nil _ _,RdS.nil _ _,by constructor <;> decide⟩
 rw [P0] at hcl
 go_wp2_with fail
 refine hcl.mono ?_
 rintro e wn ⟨na,nc,rfl,_,hb⟩
 rw [scan7]
 clear hcl d0 d1 d2 d3 d4 d5 d6 d7 d8 d9 d10 d11 s0 s1 s2 s3
 replace rB := rB.below hb
 replace xB := xB.below hb xB.lt
 replace rv1 := rv1.below hb
 replace xS := xS.below hb xS.lt
 replace q := q.trans (hb.mono q.size)
 clear hb
 have d0 := xB.cell (i := 0) rfl
 have d1 := xB.cell (i := 1) rfl
 have d2 := xB.cell (i := 2) rfl
 have d3 := xB.cell (i := 3) rfl
 have d4 := xB.cell (i := 4) rfl
 have d5 := xB.cell (i := 5) rfl
 have d6 := xB.cell (i := 6) rfl
 have d7 := xB.cell (i := 7) rfl
 have d8 := xB.cell (i := 8) rfl
 have d9 := xB.cell (i := 9) rfl
 have d10 := xB.cell (i := 10) rfl
 have d11 := xB.cell (i := 11) rfl
 have hcl := sVacuum_any wn (o := 5) rB fB
 go_wp2_with fail
 refine hcl.mono ?_
 rintro e wv ⟨vV,TV,rfl,hV,⟨aV,mV,cV,rfl,hrV⟩,hb⟩
 clear hcl d0 d1 d2 d3 d4 d5 d6 d7 d8 d9 d10 d11
 replace rB := rB.below hb
 replace xB := xB.below hb xB.lt
 replace rv1 := rv1.below hb
 replace xS := xS.below hb xS.lt
 replace q := q.trans (hb.mono q.size)
 clear hb
 obtain ⟨kV,fV,eV⟩ := hV.facts kB fB
 have rV : RdSt (fun _ => True) wv (.agg #[.slice (aV 0) (mV 0) (cV 0),.slice (aV 1) (mV 1) (cV 1),.slice (aV 2) (mV 2) (cV 2),.slice (aV 3) (mV 3) (cV 3),.slice (aV 4) (mV 4) (cV 4),.slice (aV 5) (mV 5) (cV 5),.slice (aV 6) (mV 6) (cV 6),.slice (aV 7) (mV 7) (cV 7),.slice (aV 8) (mV 8) (cV 8),.slice (aV 9) (mV 9) (cV 9),.slice (aV 10) (mV 10) (cV 10),.slice (aV 11) (mV 11) (cV 11)]) TV := ⟨aV,mV,cV,rfl,fun i hi => (hrV i hi).weak fun _ _ => trivial⟩
 have N0 : mV 0 = 0 := by
  obtain ⟨_,_,_,_,_,_,e,_⟩ := hrV 0 (by decide)
  injection e with e
  injection e with e
  injection e with e _
  injection e with _ e _
  have h := eV 0 (by decide)
  rw [B0,vac7.1] at h
  have h2 := keys_few h.1 (by rw [h.2]; simp)
  rw [h.2] at h2
  exact e.trans h2
 have N1 : mV 3 = 1 := by
  obtain ⟨_,_,_,_,_,_,e,_⟩ := hrV 1 (by decide)
  injection e with e
  injection e with e
  injection e with e _
  injection e with _ e _
  have h := eV 1 (by decide)
  rw [B1,vac7.2] at h
  have h2 := keys_few h.1 (by rw [h.2]; decide)
  rw [h.2] at h2
  exact e.trans h2
 clear hV eV hrV
 replace N0 := Lib.hid N0
 replace N1 := Lib.hid N1
 have hN4 := fun (W : World) (hb : Below wv.heap.size wv W) => (show Calls Tryz.prog 22 #[.agg #[.slice (aB 0) (mB 0) (cB 0),.slice (aB 1) (mB 1) (cB 1),.slice (aB 2) (mB 2) (cB 2),.slice (aB 3) (mB 3) (cB 3),.slice (aB 4) (mB 4) (cB 4),.slice (aB 5) (mB 5) (cB 5),.slice (aB 6) (mB 6) (cB 6),.slice (aB 7) (mB 7) (cB 7),.slice (aB 8) (mB 8) (cB 8),.slice (aB 9) (mB 9) (cB 9),.slice (aB 10) (mB 10) (cB 10),.slice (aB 11) (mB 11) (cB 11)],.agg #[.int .i64 0,.slice none 0 0,.slice none 0 0,.bool true],.int .i64 4] W (fun e w2 => e = .returned (.bool (newP (pickS TB 0) (⟨0,[],[],true⟩ : Sp) 4)) ∧ Below W.heap.size W w2) from sNewer_any W (T := TB) (x := (⟨0,[],[],true⟩ : Sp)) (s := 4) (rB.below hb) fB (S2 := fun _ => True) ⟨none,0,none,0,rfl,RdS.nil _ _,RdS.nil _ _,by constructor <;> decide⟩)
 rw [P0,new7.1] at hN4
 have hN5 := fun (W : World) (hb : Below wv.heap.size wv W) => (show Calls Tryz.prog 22 #[.agg #[.slice (aB 0) (mB 0) (cB 0),.slice (aB 1) (mB 1) (cB 1),.slice (aB 2) (mB 2) (cB 2),.slice (aB 3) (mB 3) (cB 3),.slice (aB 4) (mB 4) (cB 4),.slice (aB 5) (mB 5) (cB 5),.slice (aB 6) (mB 6) (cB 6),.slice (aB 7) (mB 7) (cB 7),.slice (aB 8) (mB 8) (cB 8),.slice (aB 9) (mB 9) (cB 9),.slice (aB 10) (mB 10) (cB 10),.slice (aB 11) (mB 11) (cB 11)],.agg #[.int .i64 0,.slice none 0 0,.slice none 0 0,.bool true],.int .i64 5] W (fun e w2 => e = .returned (.bool (newP (pickS TB 0) (⟨0,[],[],true⟩ : Sp) 5)) ∧ Below W.heap.size W w2) from sNewer_any W (T := TB) (x := (⟨0,[],[],true⟩ : Sp)) (s := 5) (rB.below hb) fB (S2 := fun _ => True) ⟨none,0,none,0,rfl,RdS.nil _ _,RdS.nil _ _,by constructor <;> decide⟩)
 rw [P0,new7.2] at hN5
 have hCk := fun (W : World) (hb : Below wv.heap.size wv W) => sCheck_any W (rV.below hb) fV
 rw [decide_eq_true kV] at hCk
 go_wp2_with (first | (refine wpList_boxNew (vs := [.slice none 0 0,.slice none 0 0,.slice none 0 0,.slice none 0 0,.slice none 0 0,.slice none 0 0,.slice none 0 0,.slice none 0 0,.slice none 0 0,.slice none 0 0,.slice none 0 0,.slice none 0 0]) (by kernel_rfl) rfl rfl ?_; intro wa hba hBa) | (refine wpList_boxStore (us := [.slice (aV 0) (mV 0) (cV 0),.slice (aV 1) (mV 1) (cV 1),.slice (aV 2) (mV 2) (cV 2),.slice (aV 3) (mV 3) (cV 3),.slice (aV 4) (mV 4) (cV 4),.slice (aV 5) (mV 5) (cV 5),.slice (aV 6) (mV 6) (cV 6),.slice (aV 7) (mV 7) (cV 7),.slice (aV 8) (mV 8) (cV 8),.slice (aV 9) (mV 9) (cV 9),.slice (aV 10) (mV 10) (cV 10),.slice (aV 11) (mV 11) (cV 11)]) (by kernel_rfl) rfl rfl rfl rfl rfl rfl hBa rfl ?_; intro wbV hgw xV; have hbw := hba.grown hgw hba.size (fun k hk => by injection hk with hk; omega); replace xB := xB.below hbw xB.lt; replace xS := xS.below hbw xS.lt; replace rv1 := rv1.below hbw; have cv1 := run_conv byP rv1.rd; have st1 : (strOf [118]).toList = [118] := strOf_toList _; have d0 := xB.cell (i := 0) rfl; have d1 := xB.cell (i := 1) rfl; have d2 := xB.cell (i := 2) rfl; have d3 := xB.cell (i := 3) rfl; have d4 := xB.cell (i := 4) rfl; have d5 := xB.cell (i := 5) rfl; have d6 := xB.cell (i := 6) rfl; have d7 := xB.cell (i := 7) rfl; have d8 := xB.cell (i := 8) rfl; have d9 := xB.cell (i := 9) rfl; have d10 := xB.cell (i := 10) rfl; have d11 := xB.cell (i := 11) rfl; have s0 := xS.cell (i := 0) rfl; have s1 := xS.cell (i := 1) rfl; have s2 := xS.cell (i := 2) rfl; have s3 := xS.cell (i := 3) rfl; have y0 := xV.cell (i := 0) rfl; have y1 := xV.cell (i := 1) rfl; have y2 := xV.cell (i := 2) rfl; have y3 := xV.cell (i := 3) rfl; have y4 := xV.cell (i := 4) rfl; have y5 := xV.cell (i := 5) rfl; have y6 := xV.cell (i := 6) rfl; have y7 := xV.cell (i := 7) rfl; have y8 := xV.cell (i := 8) rfl; have y9 := xV.cell (i := 9) rfl; have y10 := xV.cell (i := 10) rfl; have y11 := xV.cell (i := 11) rfl; rw [N0.out] at y0; rw [N1.out] at y3) | rw [cv1] | fail)
 simp only [N0.out,N1.out] at hCk
 refine (hN4 _ hbw).mono ?_
 rintro e wx ⟨rfl,hb⟩
 replace xB := xB.below hb xB.lt
 replace xS := xS.below hb xS.lt
 replace xV := xV.below hb xV.lt
 replace hbw := hbw.trans (hb.mono hbw.size)
 clear d0 d1 d2 d3 d4 d5 d6 d7 d8 d9 d10 d11 s0 s1 s2 s3 y0 y1 y2 y3 y4 y5 y6 y7 y8 y9 y10 y11
 clear hb
 have d0 := xB.cell (i := 0) rfl
 have d1 := xB.cell (i := 1) rfl
 have d2 := xB.cell (i := 2) rfl
 have d3 := xB.cell (i := 3) rfl
 have d4 := xB.cell (i := 4) rfl
 have d5 := xB.cell (i := 5) rfl
 have d6 := xB.cell (i := 6) rfl
 have d7 := xB.cell (i := 7) rfl
 have d8 := xB.cell (i := 8) rfl
 have d9 := xB.cell (i := 9) rfl
 have d10 := xB.cell (i := 10) rfl
 have d11 := xB.cell (i := 11) rfl
 have s0 := xS.cell (i := 0) rfl
 have s1 := xS.cell (i := 1) rfl
 have s2 := xS.cell (i := 2) rfl
 have s3 := xS.cell (i := 3) rfl
 have y0 := xV.cell (i := 0) rfl
 have y1 := xV.cell (i := 1) rfl
 have y2 := xV.cell (i := 2) rfl
 have y3 := xV.cell (i := 3) rfl
 have y4 := xV.cell (i := 4) rfl
 have y5 := xV.cell (i := 5) rfl
 have y6 := xV.cell (i := 6) rfl
 have y7 := xV.cell (i := 7) rfl
 have y8 := xV.cell (i := 8) rfl
 have y9 := xV.cell (i := 9) rfl
 have y10 := xV.cell (i := 10) rfl
 have y11 := xV.cell (i := 11) rfl
 rw [N0.out] at y0
 rw [N1.out] at y3
 go_wp2_with fail
 refine (hN5 _ hbw).mono ?_
 rintro e wy ⟨rfl,hb⟩
 replace xB := xB.below hb xB.lt
 replace xS := xS.below hb xS.lt
 replace xV := xV.below hb xV.lt
 replace hbw := hbw.trans (hb.mono hbw.size)
 clear d0 d1 d2 d3 d4 d5 d6 d7 d8 d9 d10 d11 s0 s1 s2 s3 y0 y1 y2 y3 y4 y5 y6 y7 y8 y9 y10 y11
 clear hb
 have d0 := xB.cell (i := 0) rfl
 have d1 := xB.cell (i := 1) rfl
 have d2 := xB.cell (i := 2) rfl
 have d3 := xB.cell (i := 3) rfl
 have d4 := xB.cell (i := 4) rfl
 have d5 := xB.cell (i := 5) rfl
 have d6 := xB.cell (i := 6) rfl
 have d7 := xB.cell (i := 7) rfl
 have d8 := xB.cell (i := 8) rfl
 have d9 := xB.cell (i := 9) rfl
 have d10 := xB.cell (i := 10) rfl
 have d11 := xB.cell (i := 11) rfl
 have s0 := xS.cell (i := 0) rfl
 have s1 := xS.cell (i := 1) rfl
 have s2 := xS.cell (i := 2) rfl
 have s3 := xS.cell (i := 3) rfl
 have y0 := xV.cell (i := 0) rfl
 have y1 := xV.cell (i := 1) rfl
 have y2 := xV.cell (i := 2) rfl
 have y3 := xV.cell (i := 3) rfl
 have y4 := xV.cell (i := 4) rfl
 have y5 := xV.cell (i := 5) rfl
 have y6 := xV.cell (i := 6) rfl
 have y7 := xV.cell (i := 7) rfl
 have y8 := xV.cell (i := 8) rfl
 have y9 := xV.cell (i := 9) rfl
 have y10 := xV.cell (i := 10) rfl
 have y11 := xV.cell (i := 11) rfl
 rw [N0.out] at y0
 rw [N1.out] at y3
 go_wp2_with fail
 refine (hCk _ hbw).mono ?_
 rintro e wz ⟨rfl,hb⟩
 go_wp2_with fail
 go_ret
 exact ⟨rfl,q.trans ((hbw.trans (hb.mono hbw.size)).mono q.size)⟩
end Go.Proofs.YtlpfhgdnmjkngaaGreat
namespace Go.Proofs.YtlpfhgdnmjkngaaGreat
open Go.RowKit Go.Shelf
def smallS (T:Sto):Prop:=∀ j,j<4→smallB 5 (T j)=true
instance (T:Sto):Decidable (smallS T):=by unfold smallS;infer_instance
set_option maxRecDepth 100000 in
set_option maxHeartbeats 4000000 in
theorem refSmallS_any (w:World) {S:Nat→Prop} {v:Value} {T:Sto} (hr:RdSt S w v T):Calls Tryz.prog 12 #[v] w fun e w'=>e=.returned (.bool (decide (smallS T)))∧Below w.heap.size w w':=by
 obtain⟨a,m,c,rfl,hx⟩:=hr
 obtain⟨W,hW⟩:∃ W,W=w.alloc (.cells #[.slice (a 0) (m 0) (c 0),.slice (a 1) (m 1) (c 1),.slice (a 2) (m 2) (c 2),.slice (a 3) (m 3) (c 3),.slice (a 4) (m 4) (c 4),.slice (a 5) (m 5) (c 5),.slice (a 6) (m 6) (c 6),.slice (a 7) (m 7) (c 7),.slice (a 8) (m 8) (c 8),.slice (a 9) (m 9) (c 9),.slice (a 10) (m 10) (c 10),.slice (a 11) (m 11) (c 11)] 29):=⟨_,rfl⟩
 have q:Below w.heap.size w W:=by rw [hW];exact (Below.refl _ _).alloc (Nat.le_refl _) _
 have bn:StB W w.heap.size a m c:=by rw [hW];exact BoxN.new _ _ _
 go_enter Tryz.func12,Tryz.ntmps12
 go_upto_region 1 with (fail)
 rw [← hW]
 clear hW
 go_wp2
 go_loopw [3] (fun v wr=>∃ i:Nat,v=.int .i64 (i:Int)∧i≤4∧Below w.heap.size w wr∧StB wr w.heap.size a m c∧∀ j,j<i→smallB 5 (T j)=true) (fun v _=>4 - toN v)
 case atStart=>exact⟨0,rfl,by omega,q,bn,fun j hj=>by omega⟩
 case round =>
  obtain⟨i,rfl,hi,hb,bx,hA⟩:=hrel
  replace hA:=Lib.hid hA
  rcases Nat.lt_or_ge i 4 with hl | hl
  ·have dl:decide ((i:Int)<4)=true:=by simp;omega
   clear bn q
   have d0:=bx.cell (i:=0) rfl
   have d1:=bx.cell (i:=1) rfl
   have d2:=bx.cell (i:=2) rfl
   have d3:=bx.cell (i:=3) rfl
   have d4:=bx.cell (i:=4) rfl
   have d5:=bx.cell (i:=5) rfl
   have d6:=bx.cell (i:=6) rfl
   have d7:=bx.cell (i:=7) rfl
   have d8:=bx.cell (i:=8) rfl
   have d9:=bx.cell (i:=9) rfl
   have d10:=bx.cell (i:=10) rfl
   have d11:=bx.cell (i:=11) rfl
   rcases (show i=0∨i=1∨i=2∨i=3 by omega) with rfl | rfl | rfl | rfl
   ·have rN:RdN S w (.agg #[.slice (a 0) (m 0) (c 0),.slice (a 1) (m 1) (c 1),.slice (a 2) (m 2) (c 2)]) (T 0):=hx 0 (by omega)
    have hsm:=smallN_any 5 (T 0) wr S _ (by omega) (rN.below hb)
    rw [show (((5:Nat):Int) - 1)=4 from rfl] at hsm
    by_cases hs:smallB 5 (T 0)=true
    ·rw [hs] at hsm
     replace hs:=Lib.hid hs
     go_wp2_with fail
     refine hsm.mono ?_
     rintro e W4⟨rfl,hb4⟩
     go_wp2_with fail
     go_roundw
     case rel =>
      refine⟨1,by go_num,by omega,hb.trans (hb4.mono hb.size),bx.below hb4 bx.lt,fun j hj=>?_⟩
      rcases Nat.lt_succ_iff_lt_or_eq.1 hj with h | rfl
      ·exact hA.out j h
      ·exact hs.out
     case measure=>simp [toN]
    ·rw [Bool.not_eq_true _ |>.mp hs] at hsm
     have H:=Lib.hid (show decide (smallS T)=false from decide_eq_false fun h=>hs (h 0 (by omega)))
     clear hs
     go_wp2_with fail
     refine hsm.mono ?_
     rintro e W4⟨rfl,hb4⟩
     go_wp2_with fail
     go_ret
     exact⟨by first | (rw [H.out];done) | (rw [H.out];rfl),hb.trans (hb4.mono hb.size)⟩
   ·have rN:RdN S w (.agg #[.slice (a 3) (m 3) (c 3),.slice (a 4) (m 4) (c 4),.slice (a 5) (m 5) (c 5)]) (T 1):=hx 1 (by omega)
    have hsm:=smallN_any 5 (T 1) wr S _ (by omega) (rN.below hb)
    rw [show (((5:Nat):Int) - 1)=4 from rfl] at hsm
    by_cases hs:smallB 5 (T 1)=true
    ·rw [hs] at hsm
     replace hs:=Lib.hid hs
     go_wp2_with fail
     refine hsm.mono ?_
     rintro e W4⟨rfl,hb4⟩
     go_wp2_with fail
     go_roundw
     case rel =>
      refine⟨2,by go_num,by omega,hb.trans (hb4.mono hb.size),bx.below hb4 bx.lt,fun j hj=>?_⟩
      rcases Nat.lt_succ_iff_lt_or_eq.1 hj with h | rfl
      ·exact hA.out j h
      ·exact hs.out
     case measure=>simp [toN]
    ·rw [Bool.not_eq_true _ |>.mp hs] at hsm
     have H:=Lib.hid (show decide (smallS T)=false from decide_eq_false fun h=>hs (h 1 (by omega)))
     clear hs
     go_wp2_with fail
     refine hsm.mono ?_
     rintro e W4⟨rfl,hb4⟩
     go_wp2_with fail
     go_ret
     exact⟨by first | (rw [H.out];done) | (rw [H.out];rfl),hb.trans (hb4.mono hb.size)⟩
   ·have rN:RdN S w (.agg #[.slice (a 6) (m 6) (c 6),.slice (a 7) (m 7) (c 7),.slice (a 8) (m 8) (c 8)]) (T 2):=hx 2 (by omega)
    have hsm:=smallN_any 5 (T 2) wr S _ (by omega) (rN.below hb)
    rw [show (((5:Nat):Int) - 1)=4 from rfl] at hsm
    by_cases hs:smallB 5 (T 2)=true
    ·rw [hs] at hsm
     replace hs:=Lib.hid hs
     go_wp2_with fail
     refine hsm.mono ?_
     rintro e W4⟨rfl,hb4⟩
     go_wp2_with fail
     go_roundw
     case rel =>
      refine⟨3,by go_num,by omega,hb.trans (hb4.mono hb.size),bx.below hb4 bx.lt,fun j hj=>?_⟩
      rcases Nat.lt_succ_iff_lt_or_eq.1 hj with h | rfl
      ·exact hA.out j h
      ·exact hs.out
     case measure=>simp [toN]
    ·rw [Bool.not_eq_true _ |>.mp hs] at hsm
     have H:=Lib.hid (show decide (smallS T)=false from decide_eq_false fun h=>hs (h 2 (by omega)))
     clear hs
     go_wp2_with fail
     refine hsm.mono ?_
     rintro e W4⟨rfl,hb4⟩
     go_wp2_with fail
     go_ret
     exact⟨by first | (rw [H.out];done) | (rw [H.out];rfl),hb.trans (hb4.mono hb.size)⟩
   ·have rN:RdN S w (.agg #[.slice (a 9) (m 9) (c 9),.slice (a 10) (m 10) (c 10),.slice (a 11) (m 11) (c 11)]) (T 3):=hx 3 (by omega)
    have hsm:=smallN_any 5 (T 3) wr S _ (by omega) (rN.below hb)
    rw [show (((5:Nat):Int) - 1)=4 from rfl] at hsm
    by_cases hs:smallB 5 (T 3)=true
    ·rw [hs] at hsm
     replace hs:=Lib.hid hs
     go_wp2_with fail
     refine hsm.mono ?_
     rintro e W4⟨rfl,hb4⟩
     go_wp2_with fail
     go_roundw
     case rel =>
      refine⟨4,by go_num,by omega,hb.trans (hb4.mono hb.size),bx.below hb4 bx.lt,fun j hj=>?_⟩
      rcases Nat.lt_succ_iff_lt_or_eq.1 hj with h | rfl
      ·exact hA.out j h
      ·exact hs.out
     case measure=>simp [toN]
    ·rw [Bool.not_eq_true _ |>.mp hs] at hsm
     have H:=Lib.hid (show decide (smallS T)=false from decide_eq_false fun h=>hs (h 3 (by omega)))
     clear hs
     go_wp2_with fail
     refine hsm.mono ?_
     rintro e W4⟨rfl,hb4⟩
     go_wp2_with fail
     go_ret
     exact⟨by first | (rw [H.out];done) | (rw [H.out];rfl),hb.trans (hb4.mono hb.size)⟩
  ·obtain rfl:i=4:=by omega
   have H:=Lib.hid (show (decide (smallS T))=true from decide_eq_true fun j hj=>hA.out j hj)
   go_wp2_with fail
   go_ret
   exact⟨by first | (rw [H.out];done) | (rw [H.out];rfl),hb⟩
end Go.Proofs.YtlpfhgdnmjkngaaGreat
namespace Go.Proofs.YtlpfhgdnmjkngaaGreat
open Go.RowKit Go.Shelf
theorem strOf_list7(xs:List UInt8):(strOf xs).toList=xs:=by simp [strOf]
theorem str_eq7 {a b:List UInt8}:((strOf a).toList==(strOf b).toList)=decide (a=b):=by
 rw [strOf_list7,strOf_list7]
 by_cases e:a=b<;>simp [e]
theorem take_both7 {α:Type} {l m:List α} {i:Nat} (h1:i<l.length) (h2:i<m.length) (h:l.take i=m.take i) (e:l[i]=m[i]):l.take (i+1)=m.take (i+1):=by
 rw [List.take_succ_eq_append_getElem h1,List.take_succ_eq_append_getElem h2,h,e]
set_option maxRecDepth 100000 in
set_option maxHeartbeats 8000000 in
theorem refPq_any (w:World) {S S2:Nat→Prop} {a a2:Option Addr} {n cx n2 cy:Nat} {l m:List Pq} (hl:RdL Elt.pq S w (.slice a n cx) l) (hm:RdL Elt.pq S2 w (.slice a2 n2 cy) m) :
  Calls Tryz.prog 18 #[.slice a n cx,.slice a2 n2 cy] w fun e w'=>e=.returned (.bool (decide (l=m)))∧Below w.heap.size w w':=by
 obtain⟨rfl,hnc,hcm⟩:=hl.len
 obtain⟨rfl,hnc2,hcm2⟩:=hm.len
 have hlm:l.length≤9223372036854775807:=by unfold maxLen at hcm;omega
 have q:=Below.refl w.heap.size w
 by_cases hlen:l.length=m.length
 case neg =>
  have d:((l.length:Int)==(m.length:Int))=false:=beq_eq_false_iff_ne.2 (by omega)
  have d2:(l.length==m.length)=false:=beq_eq_false_iff_ne.2 hlen
  have d3:((l.length:Int) != (m.length:Int))=true:=bne_iff_ne.2 (by omega)
  have H:=Lib.hid (show decide (l=m)=false from decide_eq_false fun h=>hlen (by rw [h]))
  clear hlen
  go_enter Tryz.func18,Tryz.ntmps18
  go_wp2_with fail
  go_ret
  exact⟨by rw [H.out];rfl,q⟩
 case pos =>
 have d:((l.length:Int)==(m.length:Int))=true:=beq_iff_eq.2 (by omega)
 have d2:(l.length==m.length)=true:=beq_iff_eq.2 hlen
 have d3:((l.length:Int) != (m.length:Int))=false:=bne_eq_false_iff_eq.2 (by omega)
 have hle:l.length≤m.length:=by omega
 replace hlen:=Lib.hid hlen
 go_enter Tryz.func18,Tryz.ntmps18
 go_upto_region 4 with (fail)
 go_loopw [5] (fun iv wr=>∃ i:Nat,iv=.int .i64 i∧i≤l.length∧l.take i=m.take i∧Below w.heap.size w wr) (fun i _=>l.length - (intOf i).toNat)
 case atStart=>exact⟨0,rfl,Nat.zero_le _,by simp,q⟩
 case round =>
  clear q
  obtain⟨i,rfl,hil,hno,q⟩:=hrel
  rcases Nat.lt_or_ge i l.length with hlt | hge
  ·have hlt2:i<m.length:=Nat.lt_of_lt_of_le hlt hle
   obtain⟨b,off,A,C,A2,C2,rfl,hb,g0,g1,hk1,hk2⟩:=(hl.below q).pq i hlt
   obtain⟨b',off',A',C',A2',C2',rfl,hb',f0,f1,hk3,hk4⟩:=(hm.below q).pq i hlt2
   have r1:=hk1.rd
   have r2:=hk2.rd
   have r3:=hk3.rd
   have r4:=hk4.rd
   clear hb hb'
   by_cases e0:l[i].key=m[i].key
   ·by_cases e1:l[i].val=m[i].val
    ·have H:=Lib.hid (take_both7 hlt hlt2 hno (by cases h1:l[i];cases h2:m[i];rw [h1,h2] at e0 e1;simp_all))
     have d0:((strOf l[i].key).toList==(strOf m[i].key).toList)=true:=str_eq7.trans (decide_eq_true e0)
     have d1:((strOf l[i].val).toList==(strOf m[i].val).toList)=true:=str_eq7.trans (decide_eq_true e1)
     clear hno e0 e1
     go_upto_region 6 with (fail)
     refine wp_region_quiet_lit (by kernel_rfl) (by kernel_rfl) ?_
     repeat (first | go_big_quiet_step (fail) | (go_big_quiet_want;refine quiet_conv byP rfl rfl r1 ?_;go_big_quiet_on;go_simp) | (go_big_quiet_want;refine quiet_conv byP rfl rfl r2 ?_;go_big_quiet_on;go_simp) | (go_big_quiet_want;refine quiet_conv byP rfl rfl r3 ?_;go_big_quiet_on;go_simp) | (go_big_quiet_want;refine quiet_conv byP rfl rfl r4 ?_;go_big_quiet_on;go_simp))
     first | (refine wpQuiet_nil ?_;intro _ hw';obtain⟨nq,hw''⟩:=hw';subst hw'') | intro nq
     go_wp2_with fail
     go_roundw
     case rel=>exact⟨i+1,by go_num,by omega,H.out,Below.drewN q _⟩
     case measure=>simp [intOf];omega
    ·have H:=Lib.hid (show decide (l=m)=false from decide_eq_false fun h=>e1 (by subst h;rfl))
     have d0:((strOf l[i].key).toList==(strOf m[i].key).toList)=true:=str_eq7.trans (decide_eq_true e0)
     have d1:((strOf l[i].val).toList==(strOf m[i].val).toList)=false:=str_eq7.trans (decide_eq_false e1)
     clear hno e0 e1
     go_upto_region 6 with (fail)
     refine wp_region_quiet_lit (by kernel_rfl) (by kernel_rfl) ?_
     repeat (first | go_big_quiet_step (fail) | (go_big_quiet_want;refine quiet_conv byP rfl rfl r1 ?_;go_big_quiet_on;go_simp) | (go_big_quiet_want;refine quiet_conv byP rfl rfl r2 ?_;go_big_quiet_on;go_simp) | (go_big_quiet_want;refine quiet_conv byP rfl rfl r3 ?_;go_big_quiet_on;go_simp) | (go_big_quiet_want;refine quiet_conv byP rfl rfl r4 ?_;go_big_quiet_on;go_simp))
     first | (refine wpQuiet_nil ?_;intro _ hw';obtain⟨nq,hw''⟩:=hw';subst hw'') | intro nq
     go_wp2_with fail
     go_ret
     exact⟨by rw [H.out];rfl,Below.drewN q _⟩
   ·have H:=Lib.hid (show decide (l=m)=false from decide_eq_false fun h=>e0 (by subst h;rfl))
    have d0:((strOf l[i].key).toList==(strOf m[i].key).toList)=false:=str_eq7.trans (decide_eq_false e0)
    clear hno e0
    go_upto_region 6 with (fail)
    refine wp_region_quiet_lit (by kernel_rfl) (by kernel_rfl) ?_
    repeat (first | go_big_quiet_step (fail) | (go_big_quiet_want;refine quiet_conv byP rfl rfl r1 ?_;go_big_quiet_on;go_simp) | (go_big_quiet_want;refine quiet_conv byP rfl rfl r2 ?_;go_big_quiet_on;go_simp) | (go_big_quiet_want;refine quiet_conv byP rfl rfl r3 ?_;go_big_quiet_on;go_simp) | (go_big_quiet_want;refine quiet_conv byP rfl rfl r4 ?_;go_big_quiet_on;go_simp))
    first | (refine wpQuiet_nil ?_;intro _ hw';obtain⟨nq,hw''⟩:=hw';subst hw'') | intro nq
    go_wp2_with fail
    go_ret
    exact⟨by rw [H.out];rfl,Below.drewN q _⟩
  ·obtain rfl:i=l.length:=by omega
   have H:=Lib.hid (show decide (l=m)=true from decide_eq_true (by rw [List.take_length,hlen.out,List.take_length] at hno;exact hno))
   clear hno
   go_wp2_with fail
   go_ret
   exact⟨by rw [H.out];rfl,q⟩
theorem all_succ7 {α:Type} {P:α→Prop} {l:List α} {k:Nat} (hlt:k<l.length) (h:∀ x∈l.take k,P x) (hk:P l[k]):∀ x∈l.take (k+1),P x:=fun x hx=>by
 rw [List.take_succ_eq_append_getElem hlt] at hx
 rcases List.mem_append.1 hx with hx | hx
 ·exact h x hx
 ·simp at hx;rw [hx];exact hk
def fewW(l:List Wr):Prop:=l.length≤20∧∀ x∈l,x.key.length≤100∧x.val.length≤100
instance (l:List Wr):Decidable (fewW l):=by unfold fewW;exact inferInstance
set_option maxRecDepth 100000 in
set_option maxHeartbeats 4000000 in
theorem few7_any (w : World) {S : Nat → Prop} {a : Option Addr} {n c : Nat} {l : List Wr} (hl : RdL Elt.wr S w (.slice a n c) l) :
  Calls Tryz.prog 27 #[.slice a n c] w fun e w' => e = .returned (.bool (decide (fewW l))) ∧ Below w.heap.size w w' := by
 obtain ⟨rfl,hnc,hcm⟩ := hl.len
 have hlm : l.length ≤ 9223372036854775807 := by unfold maxLen at hcm; omega
 have q := Below.refl w.heap.size w
 rcases Nat.lt_or_ge 20 l.length with h1 | h1
 ·have d1 : (20 < l.length) = True := eq_true h1
  have HK := Lib.hid (show decide (fewW l) = false from decide_eq_false fun h => by have := h.1; omega)
  go_enter Tryz.func27,Tryz.ntmps27
  go_wp2_with fail
  go_ret
  exact ⟨by rw [HK.out]; rfl,q⟩
 have d1 : (20 < l.length) = False := eq_false (by omega)
 go_enter Tryz.func27,Tryz.ntmps27
 go_upto_region 4 with (fail)
 go_loopw [3] (fun iv wr => ∃ (k : Nat),iv = .int .i64 k ∧ k ≤ l.length ∧ (∀ x ∈ l.take k,x.key.length ≤ 100 ∧ x.val.length ≤ 100) ∧ Below w.heap.size w wr)
  (fun i _ => l.length - (intOf i).toNat)
 case atStart => exact ⟨0,rfl,Nat.zero_le _,by simp,q⟩
 case round =>
  clear q
  obtain ⟨k,rfl,hkl,hall,q⟩ := hrel
  rcases Nat.lt_or_ge k l.length with hlt | hge
  ·obtain ⟨b,off,A,C,A2,C2,rfl,hb,c0,c1,c2,c3,hk1,hk2,_⟩ := (hl.below q).wr k hlt
   by_cases h2 : 100 < l[k].key.length
   ·have d2 : (100 < l[k].key.length) = True := eq_true h2
    have hno := Lib.hid (show decide (fewW l) = false from decide_eq_false fun h => by have := (h.2 _ (List.getElem_mem hlt)).1; omega)
    clear hall
    go_wp2_with fail
    go_ret
    exact ⟨by rw [hno.out]; rfl,q⟩
   ·have d2 : (100 < l[k].key.length) = False := eq_false h2
    by_cases h3 : 100 < l[k].val.length
    ·have d3 : (100 < l[k].val.length) = True := eq_true h3
     have hno := Lib.hid (show decide (fewW l) = false from decide_eq_false fun h => by have := (h.2 _ (List.getElem_mem hlt)).2; omega)
     clear hall
     go_wp2_with fail
     go_ret
     exact ⟨by rw [hno.out]; rfl,q⟩
    ·have d3 : (100 < l[k].val.length) = False := eq_false h3
     have hall2 := Lib.hid (all_succ7 hlt hall ⟨by omega,by omega⟩)
     clear hall
     go_wp2_with fail
     go_roundw
     case rel => exact ⟨k + 1,by go_num,by omega,hall2.out,q⟩
     case measure => simp [intOf]; omega
  ·obtain rfl : k = l.length := by omega
   rw [List.take_length] at hall
   have hno := Lib.hid (show decide (fewW l) = true from decide_eq_true ⟨by omega,hall⟩)
   clear hall
   go_wp2_with fail
   go_ret
   exact ⟨by rw [hno.out]; rfl,q⟩
def shS(x:Sp):Prop:=x.lo.length≤100∧x.hi.length≤100
instance (x:Sp):Decidable (shS x):=by unfold shS;exact inferInstance
set_option maxRecDepth 100000 in
set_option maxHeartbeats 4000000 in
theorem short7_any (w : World) {S : Nat → Prop} {v : Value} {x : Sp} (h : RdSp S w v x) :
  Calls Tryz.prog 13 #[v] w fun e w' => e = .returned (.bool (decide (shS x))) ∧ Below w.heap.size w w' := by
 obtain ⟨a1,a2,a3,a4,rfl,hl,hh,ht⟩ := h
 obtain ⟨W,hW⟩ : ∃ W,W = w.alloc (.cells #[.int .i64 x.table,.slice a1 x.lo.length a2,.slice a3 x.hi.length a4,.bool x.isOpen] 32) := ⟨_,rfl⟩
 have q : Below w.heap.size w W := by rw [hW]; exact (Below.refl _ _).alloc (Nat.le_refl _) _
 have Bx : BoxN W w.heap.size 32 [.int .i64 x.table,.slice a1 x.lo.length a2,.slice a3 x.hi.length a4,.bool x.isOpen] := by rw [hW]; exact BoxN.new _ _ _
 have hm1 : x.lo.length ≤ 9223372036854775807 := by have := hl.len; unfold maxLen at this; omega
 have hm2 : x.hi.length ≤ 9223372036854775807 := by have := hh.len; unfold maxLen at this; omega
 go_enter Tryz.func13,Tryz.ntmps13
 go_upto_region 1 with (fail)
 rw [← hW]
 clear hW
 have cx1 := Bx.cell (i := 1) rfl
 have cx2 := Bx.cell (i := 2) rfl
 by_cases h1 : x.lo.length ≤ 100
 ·have d1 : decide ((x.lo.length : Int) ≤ 100) = true := by simp; omega
  by_cases h2 : x.hi.length ≤ 100
  ·have d2 : decide ((x.hi.length : Int) ≤ 100) = true := by simp; omega
   have H := Lib.hid (show decide (shS x) = true from decide_eq_true ⟨h1,h2⟩)
   clear h1 h2
   go_wp2_with fail
   go_ret
   exact ⟨by first | (rw [H.out]; done) | (rw [H.out]; rfl),q⟩
  ·have d2 : decide ((x.hi.length : Int) ≤ 100) = false := by simp; omega
   have H := Lib.hid (show decide (shS x) = false from decide_eq_false fun h => h2 h.2)
   clear h1 h2
   go_wp2_with fail
   go_ret
   exact ⟨by first | (rw [H.out]; done) | (rw [H.out]; rfl),q⟩
 ·have d1 : decide ((x.lo.length : Int) ≤ 100) = false := by simp; omega
  have H := Lib.hid (show decide (shS x) = false from decide_eq_false fun h => h1 h.1)
  clear h1
  go_wp2_with fail
  go_ret
  exact ⟨by first | (rw [H.out]; done) | (rw [H.out]; rfl),q⟩
end Go.Proofs.YtlpfhgdnmjkngaaGreat
namespace Go.Proofs.YtlpfhgdnmjkngaaGreat
theorem small_chains:∀ (t:Nat) {n:Nd},smallB t n=true→∀ p∈pairsN n,p.chain.length≤20
 | 0,n,h=>by simp [smallB] at h
 | t+1,.mk ks cs ns,h=>by
  simp only [smallB,Bool.and_eq_true,decide_eq_true_eq,List.all_eq_true,Nd.keys,Nd.chains,Nd.kids] at h
  obtain⟨⟨_,h5⟩,h6⟩:=h
  have hk:∀ j p,p∈(pairsL ns).getD j []→p.chain.length≤20:=fun j p hj=>by
   rw [pairsL_map,List.getD_eq_getElem?_getD,List.getElem?_map] at hj
   cases hm:ns[j]? with
   | none=>rw [hm] at hj;simp at hj
   | some m=>rw [hm] at hj;exact small_chains t (h6 m (List.mem_of_getElem? hm)) p hj
  intro p hp
  rw [pairsN] at hp
  rcases List.mem_append.1 hp with hp | hp
  ·rcases wv_mem hp with⟨j,_,hj⟩|⟨j,_,rfl⟩
   ·exact hk j p hj
   ·show (cs.getD j []).length≤20
    rw [List.getD_eq_getElem?_getD]
    cases hc:cs[j]? with
    | none=>simp
    | some c=>exact (h5 c (List.mem_of_getElem? hc)).1
  ·exact hk _ p hp
theorem smallS_fit {T:Sto} (h:smallS T):fitS T:=fun j hj=>small5_fit (h j hj)
theorem smallS_ch {T:Sto} (h:smallS T):∀ j,j<4→∀ p∈prN (T j),p.chain.length≤20:=fun j hj p hp=>by
 unfold prN at hp
 split at hp
 ·exact small_chains 5 (h j hj) p hp
 ·cases hp
theorem InT.fits {T T':Sto} {s:Int} {l:List Wr} {K:Nat}(h:InT T s l K T')(hf:fitS T)(hK:K+l.length≤900):fitS T':=by
 by_cases h0:(instI T s l).2=0
 ·exact(h.facts h0 hK).2.2.2
 ·rw [h.1 h0];exact hf
theorem pickS_yes {T : Sto} (h : okS T) (t : Int) : pickS T t = if 0 ≤ t ∧ t < 4 then tabS T t.toNat else [] := by
 unfold pickS
 by_cases h1 : 0 ≤ t ∧ t < 4
 ·rw [if_pos ⟨h1.1,h1.2,h⟩,if_pos h1]; rfl
 ·rw [if_neg fun h2 => h1 ⟨h2.1,h2.2.1⟩,if_neg h1]
theorem pickS_srt (T:Sto) (t:Int):Srt (pickS T t):=by
 unfold pickS
 split
 ·exact prN_srt _
 ·exact List.Pairwise.nil
theorem pickS_keys (T:Sto) (t:Int):∀ p∈pickS T t,p.key.length≤16:=fun p hp=>by
 unfold pickS at hp
 split at hp
 ·rename_i h
  have h1:=h.2.2 t.toNat (by omega)
  unfold prN at hp
  rw [if_pos h1.1] at hp
  exact (((okP_iff _).1 h1.1.2).1 p hp).2.2
 ·cases hp
theorem InT.pick {T T':Sto} {s:Int} {l:List Wr} {K:Nat} (h:InT T s l K T') (h0:(instI T s l).2=0) (hK:K+l.length≤900) (t:Int):pickS T' t=if 0≤t∧t<4 then (instI T s l).1 t.toNat else []:=by
 obtain⟨h1,h2,_⟩:=h.facts h0 hK
 rw [pickS_yes h1]
 by_cases h3:0≤t∧t<4
 ·rw [if_pos h3,if_pos h3,h2 _ (by omega)]
 ·rw [if_neg h3,if_neg h3]
theorem instI_ok {T:Sto} {s:Int} {l:List Wr} (h:(instI T s l).2=0):okS T∧l.any (badW s)=false∧instI T s l=goI (tabS T) (tabS T) s l:=by
 unfold instI at h ⊢
 split at h
 ·rename_i h1;exact⟨h1.1,h1.2.2.2,if_pos h1⟩
 ·cases h
theorem inst1_yes {l:List Pr} {k:List UInt8} {v:Ver} (h:(inst1 l k v).2=0):(inst1 l k v).1=putP l k ((findP l k).getD []++[v])∧(okV ((findP l k).getD [])∧mayV v∧∀ y∈(findP l k).getD [],y.stamp<v.stamp)∧(inst1 l k v).1.length≤60:=by
 revert h
 unfold inst1
 dsimp only
 rcases instV_cases ((findP l k).getD []) v with⟨er,h1,h2⟩|⟨h2,h3⟩
 ·rw [h2,if_pos h1];exact fun h=>absurd h h1
 ·rw [h2,if_neg (by simp)]
  split
  ·intro h;cases h
  ·rename_i h4
   exact fun _=>⟨rfl,h3,Nat.le_of_not_lt h4⟩
theorem inst1_other {l:List Pr} {k k':List UInt8} {v:Ver} {s:Int} (hs:Srt l) (h:(inst1 l k v).2=0) (hne:k≠k'∨s<v.stamp):getP (inst1 l k v).1 k' s=getP l k' s:=by
 obtain⟨h1,⟨h2,h3,h4⟩,_⟩:=inst1_yes h
 rw [h1,getP_eq,getP_eq,put_find hs]
 by_cases e:k=k'
 ·subst e
  rw [if_pos rfl]
  rcases hne with hne | hlt
  ·exact absurd rfl hne
  ·show readV ((findP l k).getD []++[v]) s=_
   exact read_snoc_old h2 h3 h4 (by omega)
 ·rw [if_neg e]
theorem inst1_read {l:List Pr} {k:List UInt8} {v:Ver} {s:Int} (hs:Srt l) (h:(inst1 l k v).2=0) (hle:v.stamp≤s):getP (inst1 l k v).1 k s=if v.gone then none else some v.value:=by
 obtain⟨h1,⟨h2,h3,h4⟩,_⟩:=inst1_yes h
 rw [h1,getP_eq,put_find hs,if_pos rfl]
 show readV ((findP l k).getD []++[v]) s=_
 cases hg:v.gone
 ·exact read_snoc_some h2 h3 h4 hle hg
 ·exact read_snoc_gone h2 h3 h4 hle hg
theorem one_reads {T T' : Sto} {s : Int} {x : Wr} {K : Nat} (h : InT T s [x] K T') (h0 : (instI T s [x]).2 = 0) (hK : K + 1 ≤ 900) :
  (∀ t k at',(t ≠ x.table ∨ k ≠ x.key ∨ at' < s) → getP (pickS T' t) k at' = getP (pickS T t) k at') ∧ ∀ at',s ≤ at' → getP (pickS T' x.table) x.key at' = if x.gone then none else some x.val := by
 obtain ⟨hk,hb,he⟩ := instI_ok h0
 have hp := h.pick h0 (by simpa using hK)
 have hb' : badW s x = false := by simpa using hb
 obtain ⟨b1,b2,_,_⟩ := bad_no hb'
 have hn : (inst1 (tabS T x.table.toNat) x.key (verW x s)).2 = 0 := by
  rw [he] at h0
  by_cases hn : (inst1 (tabS T x.table.toNat) x.key (verW x s)).2 = 0
  ·exact hn
  ·unfold goI at h0
   rw [if_pos hn] at h0
   exact absurd h0 hn
 have h1 : (instI T s [x]).1 = setT (tabS T) x.table (inst1 (tabS T x.table.toNat) x.key (verW x s)).1 := by
  rw [he]
  unfold goI
  rw [if_neg (by rw [hn]; simp)]
  rfl
 have hst : ∀ t,Srt (tabS T t) := fun t => prN_srt _
 refine ⟨fun t k at' hc => ?_,fun at' hle => ?_⟩
 ·rw [hp,pickS_yes hk,h1]
  by_cases ht : 0 ≤ t ∧ t < 4
  ·rw [if_pos ht,if_pos ht]
   unfold setT
   by_cases e : ((t.toNat : Nat) : Int) = x.table
   ·rw [if_pos e]
    have e2 : t = x.table := by omega
    subst e2
    refine inst1_other (hst _) hn ?_
    rcases hc with hc | hc | hc
    ·exact absurd rfl hc
    ·exact .inl fun e => hc e.symm
    ·exact .inr hc
   ·rw [if_neg e]
  ·rw [if_neg ht,if_neg ht]
 ·rw [hp,if_pos ⟨b1,b2⟩,h1]
  unfold setT
  rw [if_pos (by omega)]
  exact inst1_read (hst _) hn hle
theorem scanP_cons (p:Pr) (l:List Pr) (x:Sp) (s:Int):scanP (p::l) x s=(scan1 x s p).toList++scanP l x s:=by
 unfold scanP
 rw [List.filterMap_cons]
 cases scan1 x s p<;>rfl
theorem scan1_eq {x y:Sp} {s:Int} {p:Pr}(h:inS x p.key=inS y p.key):scan1 x s p=scan1 y s p:=by
 unfold scan1;rw [h]
theorem scanP_eq {x y:Sp} {s:Int}:∀ {l:List Pr},(∀ p∈l,inS x p.key=inS y p.key)→scanP l x s=scanP l y s
 | [],_=>rfl
 | p::r,h=>by rw [scanP_cons,scanP_cons,scan1_eq (h p (by simp)),scanP_eq fun q hq=>h q (by simp [hq])]
theorem scanP_none {x:Sp} {s:Int} {l:List Pr}(h:∀ p∈l,inS x p.key=false):scanP l x s=[]:=by
 unfold scanP
 rw [List.filterMap_eq_nil_iff]
 intro p hp
 unfold scan1
 rw [h p hp]
 rfl
theorem ltB_le {a b c:List UInt8} (h1:ltB a b=true) (h2:ltB c b=false):ltB a c=true:=by
 by_cases e:c=b
 ·rw [e];exact h1
 ·exact ltB_trans h1 (ltB_total e h2)
theorem scan_cut {t : Int} {lo hi c : List UInt8} {o : Bool} {s : Int} (h1 : ltB c lo = false) (h2 : o = true ∨ ltB hi c = false) : ∀ {l : List Pr},Srt l → scanP l ⟨t,lo,hi,o⟩ s = scanP l ⟨t,lo,c,false⟩ s ++ scanP l ⟨t,c,hi,o⟩ s
 | [],_ => rfl
 | p :: r,h => by
  have h' := List.pairwise_cons.1 h
  cases hc : ltB p.key c with
  | true =>
   have e1 : inS ⟨t,c,hi,o⟩ p.key = false := by unfold inS; simp [hc]
   have e2 : inS ⟨t,lo,hi,o⟩ p.key = inS ⟨t,lo,c,false⟩ p.key := by
    unfold inS
    have : (o || ltB p.key hi) = true := by
     rcases h2 with h2 | h2
     ·simp [h2]
     ·cases hh : ltB p.key hi with
      | true => simp
      | false => rw [ltB_le hc h2] at hh; cases hh
    simp only [this,hc,Bool.false_or]
   have ih := scan_cut (t := t) (s := s) h1 h2 h'.2
   rw [scanP_cons,scanP_cons,scanP_cons,ih,scan1_eq e2]
   have e3 : scan1 ⟨t,c,hi,o⟩ s p = none := by unfold scan1; rw [e1]; rfl
   rw [e3,List.append_assoc]
   rfl
  | false =>
   have hge : ∀ q ∈ p :: r,ltB q.key c = false := fun q hq => by
    rcases List.mem_cons.1 hq with rfl | hq
    ·exact hc
    ·cases hh : ltB q.key c with
     | false => rfl
     | true => exact absurd (ltB_trans (h'.1 q hq) hh) (by simp [hc])
   rw [scanP_none (x := ⟨t,lo,c,false⟩) fun q hq => by unfold inS; simp [hge q hq]]
   refine scanP_eq fun q hq => ?_
   unfold inS
   have : ltB q.key lo = false := by
    cases hh : ltB q.key lo with
    | false => rfl
    | true => exact absurd (ltB_le hh h1) (by simp [hge q hq])
   simp [this,hge q hq]
theorem scan_mem {l:List Pr} {x:Sp} {s:Int} {q:Pq}(hs:Srt l)(h:q∈scanP l x s):getP l q.key s=some q.val:=by
 unfold scanP at h
 obtain⟨p,hp,e⟩:=List.mem_filterMap.1 h
 unfold scan1 at e
 split at e
 ·rw [Option.map_eq_some_iff] at e
  obtain⟨v,hv,rfl⟩:=e
  unfold getP
  show(findP l p.key).bind _=_
  rw [findP_mem hs hp]
  exact hv
 ·cases e
theorem scan_srt {x : Sp} {s : Int} : ∀ {l : List Pr},Srt l → (scanP l x s).Pairwise fun a b => ltB a.key b.key = true
 | [],_ => List.Pairwise.nil
 | p :: r,h => by
  have h' := List.pairwise_cons.1 h
  rw [scanP_cons]
  cases hv : scan1 x s p with
  | none => exact scan_srt h'.2
  | some q =>
   refine List.pairwise_cons.2 ⟨fun y hy => ?_,scan_srt h'.2⟩
   have hq : q.key = p.key := by
    unfold scan1 at hv
    split at hv
    ·obtain ⟨v,_,rfl⟩ := Option.map_eq_some_iff.1 hv; rfl
    ·cases hv
   unfold scanP at hy
   obtain ⟨p2,hp2,e⟩ := List.mem_filterMap.1 hy
   have hy2 : y.key = p2.key := by
    unfold scan1 at e
    split at e
    ·obtain ⟨v,_,rfl⟩ := Option.map_eq_some_iff.1 e; rfl
    ·cases e
   rw [hq,hy2]
   exact h'.1 p2 hp2
theorem ltB_high:∀ {n:Nat} {k:List UInt8},k.length<n→ltB k (List.replicate n 255)=true
 | 0,_,h=>absurd h (Nat.not_lt_zero _)
 | n+1,[],_=>rfl
 | n+1,b::r,h=>by
  have ih:=ltB_high (n:=n) (k:=r) (by simpa using h)
  unfold ltB at ih
  rw [List.replicate_succ]
  simp only [ltB,Op.bytesLess,ih,Bool.and_true,Bool.or_eq_true,decide_eq_true_eq,beq_iff_eq]
  by_cases e:b<255
  ·exact .inl e
  ·refine .inr (UInt8.toNat_inj.1 ?_)
   have h1:¬ b.toNat<255:=e
   have h2:=b.toNat_lt
   show b.toNat=255
   omega
theorem scan_open {l : List Pr} (h : ∀ p ∈ l,p.key.length ≤ 16) (t : Int) (lo : List UInt8) (s : Int) : scanP l ⟨t,lo,[],true⟩ s = scanP l ⟨t,lo,List.replicate 17 255,false⟩ s :=
 scanP_eq fun p hp => by
  unfold inS
  have := ltB_high (n := 17) (k := p.key) (by have := h p hp; omega)
  simp only [this,Bool.true_or,Bool.or_true]
theorem scan_void (l : List Pr) (t : Int) (lo : List UInt8) (s : Int) : scanP l ⟨t,lo,lo,false⟩ s = [] :=
 scanP_none fun p _ => by unfold inS; cases ltB p.key lo <;> rfl
theorem goI_apart {L0:Tb} {s:Int} {t:Int}:∀ {l:List Wr} {L:Tb},(∀ x∈l,x.table≠t)→(goI L0 L s l).2=0→∀ j:Nat,(j:Int)=t→(goI L0 L s l).1 j=L j
 | [],_,_,_,_,_=>rfl
 | x::r,L,h,h0,j,hj=>by
  unfold goI at h0 ⊢
  by_cases hn:(inst1 (L x.table.toNat) x.key (verW x s)).2=0
  ·rw [if_neg (by rw [hn];simp)] at h0 ⊢
   rw [goI_apart (fun y hy=>h y (by simp [hy])) h0 j hj]
   unfold setT
   rw [if_neg (fun e=>h x (by simp) (by rw [← e,hj]))]
  ·rw [if_pos hn] at h0
   exact absurd h0 hn
theorem apart_pick {T T':Sto} {s:Int} {l:List Wr} {K:Nat} (h:InT T s l K T') (hK:K+l.length≤900) {t:Int} (hx:∀ x∈l,x.table≠t):pickS T' t=pickS T t:=by
 by_cases h0:(instI T s l).2=0
 ·obtain⟨hk,_,he⟩:=instI_ok h0
  rw [h.pick h0 hK,pickS_yes hk]
  by_cases ht:0≤t∧t<4
  ·rw [if_pos ht,if_pos ht]
   rw [he] at h0 ⊢
   exact goI_apart hx h0 _ (by omega)
  ·rw [if_neg ht,if_neg ht]
 ·rw [h.1 h0]
end Go.Proofs.YtlpfhgdnmjkngaaGreat
