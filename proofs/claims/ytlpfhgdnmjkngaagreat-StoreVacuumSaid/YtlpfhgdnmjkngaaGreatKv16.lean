/-
  TEXTS OF ONE PROOF, merged: StW, TreC, StS, StT, StX, SuM, VerF, TreS, StU.
-/
import Derived.Test.YtlpfhgdnmjkngaaGreatKv15
namespace Go.Proofs.YtlpfhgdnmjkngaaGreat
open Go.RowKit Go.Shelf
set_option maxRecDepth 100000
set_option maxHeartbeats 32000000
theorem zn9 {n:Nd} (h:okN n) (hl:(zaa n).length≤1):n.keys.length=(zaa n).length:=by
 obtain⟨d,hd⟩:∃ d:Nat,zax n true=(d:Int):=⟨(zax n true).toNat,by have:=h.1;omega⟩
 obtain⟨h1,_,h2⟩:=zey d hd
 have hd1:d=1:=by
  rcases h2 with h2 | h2
  ·rcases Nat.lt_or_ge 1 d with h3 | h3
   ·have:2 ^ 2≤2 ^ d:=Nat.pow_le_pow_right (by omega) h3
    omega
   ·omega
  ·exact h2.2.1
 subst hd1
 obtain⟨_,_,_,h4⟩:=zcb hd (by omega)
 rcases h4 with⟨h5,_⟩|⟨h5,h6,_,h8⟩
 ·exact (zd7 n h5).symm
 ·obtain⟨m,hm⟩:∃ m,m∈n.kids:=⟨n.kids[0]'(by omega),List.getElem_mem _⟩
  have:=h8 m hm
  have:=zka (n:=m) (root:=false) (by omega)
  omega
section
variable {ops : Array Oper} {rest : List Oper} {o : Oper} {a : Act} {Q : Exit → Act → World → Prop} {w : World}
theorem zbt (hP : ByP Tryz.prog 30 5 9) {o' : Oper} {k : Int} {d : Tmp} (ho : o.op = .buildSlice 30 1 #[(0,.const (.int .u8 k))]) (hgd' : ∀ u,Region.wanted o' (yielded ops (a.put o.dst u).tmps) = true) (hgd : Region.wanted o (yielded ops a.tmps) = true) (hd : o.dst = some d) (hlt : d < a.tmps.size)
  (ho' : o'.op = .convert 30 30 (.tmp d)) (hk : 0 ≤ k ∧ k < 256)
  (h : ∀ u g n w',Below w.heap.size w w' → Rd w'.heap.size w' (.slice (some ⟨g,0,none⟩) n n) [UInt8.ofNat k.toNat] → wpList Tryz.prog ops Q rest ((a.put (some d) u).put o'.dst (.slice (some ⟨g,0,none⟩) n n)) w') : wpList Tryz.prog ops Q (o :: o' :: rest) a w :=
 zkp hP ho hgd' hgd hd hlt ho' [UInt8.ofNat k.toNat] (by
  simp [bv,Act.eval]
  omega) rfl (by simp) h
end
theorem one_w {w : World} {g : Nat} {x : Wr} {k v : Value} (hb : BoxN w g 51 [.int .i64 x.table,k,.bool x.gone,v]) (h1 : RdS (fun _ => True) w k x.key) (h2 : RdS (fun _ => True) w v x.val) (h3 : W64 x.table) : RdL Elt.wr (fun _ => True) w (.slice (some ⟨g,0,none⟩) 1 1) [x] :=
 ⟨some ⟨g,0,none⟩,1,rfl,Nat.le_refl _,by unfold maxLen; omega,.inr ⟨g,0,rfl,trivial,fun r hr => by
  obtain rfl : r = 0 := by simp at hr; omega
  exact ⟨_,⟨k,v,rfl,h1,h2,h3⟩,fun j u hj => by simpa using hb.cell hj⟩⟩⟩
theorem two_w {w : World} {g : Nat} {x y : Wr} {k v k2 v2 : Value} (hb : BoxN w g 51 [.int .i64 x.table,k,.bool x.gone,v,.int .i64 y.table,k2,.bool y.gone,v2]) (h1 : RdS (fun _ => True) w k x.key) (h2 : RdS (fun _ => True) w v x.val) (h3 : W64 x.table) (h4 : RdS (fun _ => True) w k2 y.key) (h5 : RdS (fun _ => True) w v2 y.val) (h6 : W64 y.table) : RdL Elt.wr (fun _ => True) w (.slice (some ⟨g,0,none⟩) 2 2) [x,y] :=
 ⟨some ⟨g,0,none⟩,2,rfl,Nat.le_refl _,by unfold maxLen; omega,.inr ⟨g,0,rfl,trivial,fun r hr => by
  have : r = 0 ∨ r = 1 := by simp at hr; omega
  rcases this with rfl | rfl
  ·refine ⟨_,⟨k,v,rfl,h1,h2,h3⟩,fun j u hj => ?_⟩
   have hj4 : j < 4 := by rcases Nat.lt_or_ge j 4 with h | h; exact h; rw [List.getElem?_eq_none (by simpa [wrC] using h)] at hj; cases hj
   match j,hj4,hj with
   | 0,_,hj => exact hb.cell (i := 0) hj
   | 1,_,hj => exact hb.cell (i := 1) hj
   | 2,_,hj => exact hb.cell (i := 2) hj
   | 3,_,hj => exact hb.cell (i := 3) hj
  ·refine ⟨_,⟨k2,v2,rfl,h4,h5,h6⟩,fun j u hj => ?_⟩
   have hj4 : j < 4 := by rcases Nat.lt_or_ge j 4 with h | h; exact h; rw [List.getElem?_eq_none (by simpa [wrC] using h)] at hj; cases hj
   match j,hj4,hj with
   | 0,_,hj => exact hb.cell (i := 4) hj
   | 1,_,hj => exact hb.cell (i := 5) hj
   | 2,_,hj => exact hb.cell (i := 6) hj
   | 3,_,hj => exact hb.cell (i := 7) hj⟩⟩
theorem rdSt_nil (S:Nat→Prop) (w:World):RdSt S w (.agg #[.slice none 0 0,.slice none 0 0,.slice none 0 0,.slice none 0 0,.slice none 0 0,.slice none 0 0,.slice none 0 0,.slice none 0 0,.slice none 0 0,.slice none 0 0,.slice none 0 0,.slice none 0 0]) T07:=⟨fun _=>none,fun _=>0,fun _=>0,rfl,fun _ _=>zhs _ _⟩
theorem fit_07:fitS T07:=fun _ _=>zrm
theorem InT.facts {T T' : Sto} {s : Int} {l : List Wr} {K : Nat} (h : InT T s l K T') (h0 : (zbs T s l).2 = 0) (hK : K + l.length ≤ 900) : okS T' ∧ (∀ j,j < 4 → tabS T' j = (zbs T s l).1 j) ∧ (∀ j,j < 4 → ∀ p ∈ prN (T' j),p.chain.length ≤ K + l.length) ∧ fitS T' := by
 obtain ⟨_,h2⟩ := h
 obtain ⟨_,h3⟩ := h2 h0
 have hp : ∀ j,j < 4 → prN (T' j) = zaa (T' j) := fun j hj => by unfold prN; rw [if_pos (h3 j hj).1]
 refine ⟨fun j hj => ⟨(h3 j hj).1,by rw [hp j hj]; exact (h3 j hj).2.2.1⟩,fun j hj => by show prN (T' j) = _; rw [hp j hj]; exact (h3 j hj).2.1,fun j hj => by rw [hp j hj]; exact (h3 j hj).2.2.2,fun j hj => ?_⟩
 obtain ⟨k1,k2,k3,k4⟩ := h3 j hj
 refine zix k1 ⟨by omega,fun p hp2 => zlk (((zco _).1 k1.2).1 p hp2).1 ?_⟩
 have := k4 p hp2
 omega
theorem VacT.facts {T T' : Sto} {o : Int} (h : VacT o T T') (hk : okS T) (hf : fitS T) : okS T' ∧ fitS T' ∧ ∀ j,j < 4 → okN (T' j) ∧ zaa (T' j) = vacP (tabS T j) o := by
 have h1 := h.1 hk
 have hp : ∀ j,j < 4 → okN (T' j) ∧ zaa (T' j) = vacP (tabS T j) o := fun j hj => by
  obtain ⟨k1,k2⟩ := (h1 j hj).1 (hk j hj).1
  refine ⟨k1,?_⟩
  rw [k2]
  unfold tabS prN
  rw [if_pos (hk j hj).1]
 have hl : ∀ j,j < 4 → (zaa (T' j)).length ≤ 60 := fun j hj => by
  rw [(hp j hj).2]
  exact Nat.le_trans (vacP_len _ _) (hk j hj).2
 refine ⟨fun j hj => ⟨(hp j hj).1,by have := hl j hj; unfold prN; rw [if_pos (hp j hj).1]; exact this⟩,fun j hj => zix (hp j hj).1 ⟨by have := hl j hj; omega,fun p hp2 => ?_⟩,hp⟩
 rw [(hp j hj).2] at hp2
 obtain ⟨p0,hm,_,rfl⟩ := zjd hp2
 have hs := zft (hf j hj) p0 hm
 exact ⟨Nat.le_trans (zno _ _) hs.1,fun z hz => hs.2 z (znn hz)⟩
theorem zpl (w : World) : Calls Tryz.prog 11 #[] w fun e w' => e = .returned (.bool true) ∧ Below w.heap.size w w' := by
 go_enter Tryz.func11,Tryz.ntmps11
 have q := Below.refl w.heap.size w
 go_wp2_with (first | (have hx := hr2; refine zbt byP rfl (fun _ => rfl) rfl rfl (by first | (simp; done) | (simp [Act.put]; done)) rfl (by decide) ?_; clear hx; intro u3 g3 k3 w3 hb3 hr3) | (have hx := hr1; refine zbt byP rfl (fun _ => rfl) rfl rfl (by first | (simp; done) | (simp [Act.put]; done)) rfl (by decide) ?_; clear hx; intro u2 g2 k2 w2 hb2 hr2) | (refine zbt byP rfl (fun _ => rfl) rfl rfl (by first | (simp; done) | (simp [Act.put]; done)) rfl (by decide) ?_; intro u1 g1 k1 w1 hb1 hr1) | fail)
 obtain rfl : k1 = 1 := hr1.s.len.1
 obtain rfl : k2 = 1 := hr2.s.len.1
 obtain rfl : k3 = 1 := hr3.s.len.1
 have t1 : RdS (fun _ => True) w3 (.slice (some ⟨g1,0,none⟩) 1 1) [97] := ((hr1.s.below hb2).below hb3).weak fun _ _ => trivial
 have t2 : RdS (fun _ => True) w3 (.slice (some ⟨g2,0,none⟩) 1 1) [118] := (hr2.s.below hb3).weak fun _ _ => trivial
 have t3 : RdS (fun _ => True) w3 (.slice (some ⟨g3,0,none⟩) 1 1) [98] := hr3.s.weak fun _ _ => trivial
 replace q := q.trans ((hb1.mono q.size).trans ((hb2.mono (by have := hb1.size; have := q.size; omega)).trans (hb3.mono (by have := hb1.size; have := hb2.size; have := q.size; omega))))
 obtain ⟨w4,hw4⟩ : ∃ w4,w4 = w3.alloc (.cells #[.int .i64 0,.slice (some ⟨g1,0,none⟩) 1 1,.bool false,.slice (some ⟨g2,0,none⟩) 1 1,.int .i64 1,.slice (some ⟨g3,0,none⟩) 1 1,.bool false,.slice none 0 0] 51) := ⟨_,rfl⟩
 have hb4 : Below w3.heap.size w3 w4 := by rw [hw4]; exact (Below.refl _ _).alloc (Nat.le_refl _) _
 have xr : BoxN w4 w3.heap.size 51 [.int .i64 0,.slice (some ⟨g1,0,none⟩) 1 1,.bool false,.slice (some ⟨g2,0,none⟩) 1 1,.int .i64 1,.slice (some ⟨g3,0,none⟩) 1 1,.bool false,.slice none 0 0] := by rw [hw4]; exact BoxN.new _ _ _
 rw [← hw4]
 clear hw4
 replace q := q.trans (hb4.mono q.size)
 have hlw : RdL Elt.wr (fun _ => True) w4 (.slice (some ⟨w3.heap.size,0,none⟩) 2 2) [xA7,xB7] := two_w xr (t1.below hb4) (t2.below hb4) ⟨by decide,by decide⟩ (t3.below hb4) (RdS.nil _ _) ⟨by decide,by decide⟩
 clear hr1 hr2 hr3 hb1 hb2 hb3 hb4 t1 t2 t3 xr
 have hch1 : okS T07 → ∀ j,j < 4 → ∀ p ∈ prN (T07 j),p.chain.length ≤ 100 := fun _ j _ p hp => by rw [show prN (T07 j) = [] from zjy] at hp; cases hp
 have hcl := zdv w4 (T := T07) (s := 3) (l := [xA7,xB7]) (K := 100) (rdSt_nil (fun _ => True) w4) fit_07 ⟨by decide,by decide⟩ hlw hch1 (by decide)
 unfold zma at hcl
 rw [insA7.1] at hcl
 refine hcl.mono ?_
 rintro e wcA ⟨vA,TA,rfl,⟨aA,mA,cA,rfl,hA⟩,hb,hIA⟩
 clear hcl
 replace q := q.trans (hb.mono q.size)
 clear hb
 have rA : RdSt (fun _ => True) wcA (.agg #[.slice (aA 0) (mA 0) (cA 0),.slice (aA 1) (mA 1) (cA 1),.slice (aA 2) (mA 2) (cA 2),.slice (aA 3) (mA 3) (cA 3),.slice (aA 4) (mA 4) (cA 4),.slice (aA 5) (mA 5) (cA 5),.slice (aA 6) (mA 6) (cA 6),.slice (aA 7) (mA 7) (cA 7),.slice (aA 8) (mA 8) (cA 8),.slice (aA 9) (mA 9) (cA 9),.slice (aA 10) (mA 10) (cA 10),.slice (aA 11) (mA 11) (cA 11)]) TA := ⟨aA,mA,cA,rfl,fun i hi => (hA i hi).weak fun _ _ => trivial⟩
 clear hA
 obtain ⟨kA,eA,cA2,fA⟩ := hIA.facts insA7.1 (by decide)
 have A0 : tabS TA 0 = pA7 := (eA 0 (by decide)).trans insA7.2.1
 have A1 : tabS TA 1 = pB7 := (eA 1 (by decide)).trans insA7.2.2.1
 clear hIA eA hlw hch1
 go_upto_region 2 with (first | (refine zbf (vs := [.slice none 0 0,.slice none 0 0,.slice none 0 0,.slice none 0 0,.slice none 0 0,.slice none 0 0,.slice none 0 0,.slice none 0 0,.slice none 0 0,.slice none 0 0,.slice none 0 0,.slice none 0 0]) (by kernel_rfl) rfl rfl ?_; intro wa hba hBa) | (refine zam (us := [.slice (aA 0) (mA 0) (cA 0),.slice (aA 1) (mA 1) (cA 1),.slice (aA 2) (mA 2) (cA 2),.slice (aA 3) (mA 3) (cA 3),.slice (aA 4) (mA 4) (cA 4),.slice (aA 5) (mA 5) (cA 5),.slice (aA 6) (mA 6) (cA 6),.slice (aA 7) (mA 7) (cA 7),.slice (aA 8) (mA 8) (cA 8),.slice (aA 9) (mA 9) (cA 9),.slice (aA 10) (mA 10) (cA 10),.slice (aA 11) (mA 11) (cA 11)]) (by kernel_rfl) rfl rfl rfl rfl rfl rfl hBa rfl ?_; intro wbA hgw xA) | fail)
 have hbw := hba.grown hgw hba.size fun k hk => by injection hk with hk; omega
 replace rA := rA.below hbw
 replace q := q.trans (hbw.mono q.size)
 clear hbw hgw hba hBa
 have d0 := xA.cell (i := 0) rfl
 have d1 := xA.cell (i := 1) rfl
 have d2 := xA.cell (i := 2) rfl
 have d3 := xA.cell (i := 3) rfl
 have d4 := xA.cell (i := 4) rfl
 have d5 := xA.cell (i := 5) rfl
 have d6 := xA.cell (i := 6) rfl
 have d7 := xA.cell (i := 7) rfl
 have d8 := xA.cell (i := 8) rfl
 have d9 := xA.cell (i := 9) rfl
 have d10 := xA.cell (i := 10) rfl
 have d11 := xA.cell (i := 11) rfl
 go_wp2_with (first | (refine zbt byP rfl (fun _ => rfl) rfl rfl (by first | (simp; done) | (simp [Act.put]; done)) rfl (by decide) ?_; intro u1 g1 k1 w1 hb1 hr1) | fail)
 obtain rfl : k1 = 1 := hr1.s.len.1
 clear d0 d1 d2 d3 d4 d5 d6 d7 d8 d9 d10 d11
 replace rA := rA.below hb1
 replace xA := xA.below hb1 xA.lt
 replace q := q.trans (hb1.mono q.size)
 obtain ⟨w4,hw4⟩ : ∃ w4,w4 = w1.alloc (.cells #[.int .i64 0,.slice (some ⟨g1,0,none⟩) 1 1,.bool true,.slice none 0 0] 51) := ⟨_,rfl⟩
 have hb4 : Below w1.heap.size w1 w4 := by rw [hw4]; exact (Below.refl _ _).alloc (Nat.le_refl _) _
 have xr : BoxN w4 w1.heap.size 51 [.int .i64 0,.slice (some ⟨g1,0,none⟩) 1 1,.bool true,.slice none 0 0] := by rw [hw4]; exact BoxN.new _ _ _
 rw [← hw4]
 clear hw4
 replace rA := rA.below hb4
 replace xA := xA.below hb4 xA.lt
 replace q := q.trans (hb4.mono q.size)
 have hlw : RdL Elt.wr (fun _ => True) w4 (.slice (some ⟨w1.heap.size,0,none⟩) 1 1) [xC7] := one_w xr ((hr1.s.below hb4).weak fun _ _ => trivial) (RdS.nil _ _) ⟨by decide,by decide⟩
 clear hr1 hb1 hb4 xr
 have hch2 : okS TA → ∀ j,j < 4 → ∀ p ∈ prN (TA j),p.chain.length ≤ 102 := fun _ j hj p hp => cA2 j hj p hp
 have hcl := zdv w4 (T := TA) (s := 5) (l := [xC7]) (K := 102) rA fA ⟨by decide,by decide⟩ hlw hch2 (by decide)
 unfold zma at hcl
 rw [(insC7 kA A0).1] at hcl
 refine hcl.mono ?_
 rintro e wcB ⟨vB,TB,rfl,⟨aB,mB,cB,rfl,hB⟩,hb,hIB⟩
 clear hcl
 replace rA := rA.below hb
 replace xA := xA.below hb xA.lt
 replace q := q.trans (hb.mono q.size)
 clear hb
 have rB : RdSt (fun _ => True) wcB (.agg #[.slice (aB 0) (mB 0) (cB 0),.slice (aB 1) (mB 1) (cB 1),.slice (aB 2) (mB 2) (cB 2),.slice (aB 3) (mB 3) (cB 3),.slice (aB 4) (mB 4) (cB 4),.slice (aB 5) (mB 5) (cB 5),.slice (aB 6) (mB 6) (cB 6),.slice (aB 7) (mB 7) (cB 7),.slice (aB 8) (mB 8) (cB 8),.slice (aB 9) (mB 9) (cB 9),.slice (aB 10) (mB 10) (cB 10),.slice (aB 11) (mB 11) (cB 11)]) TB := ⟨aB,mB,cB,rfl,fun i hi => (hB i hi).weak fun _ _ => trivial⟩
 clear hB
 clear hlw hch2
 obtain ⟨kB,eB,cB2,fB⟩ := hIB.facts (insC7 kA A0).1 (by decide)
 have B0 : tabS TB 0 = pC7 := (eB 0 (by decide)).trans (insC7 kA A0).2.1
 have B1 : tabS TB 1 = pB7 := ((eB 1 (by decide)).trans ((insC7 kA A0).2.2 1 (by decide))).trans A1
 clear hIB eB
 go_upto_region 3 with (first | (refine zbf (vs := [.slice none 0 0,.slice none 0 0,.slice none 0 0,.slice none 0 0,.slice none 0 0,.slice none 0 0,.slice none 0 0,.slice none 0 0,.slice none 0 0,.slice none 0 0,.slice none 0 0,.slice none 0 0]) (by kernel_rfl) rfl rfl ?_; intro wa hba hBa) | (refine zam (us := [.slice (aB 0) (mB 0) (cB 0),.slice (aB 1) (mB 1) (cB 1),.slice (aB 2) (mB 2) (cB 2),.slice (aB 3) (mB 3) (cB 3),.slice (aB 4) (mB 4) (cB 4),.slice (aB 5) (mB 5) (cB 5),.slice (aB 6) (mB 6) (cB 6),.slice (aB 7) (mB 7) (cB 7),.slice (aB 8) (mB 8) (cB 8),.slice (aB 9) (mB 9) (cB 9),.slice (aB 10) (mB 10) (cB 10),.slice (aB 11) (mB 11) (cB 11)]) (by kernel_rfl) rfl rfl rfl rfl rfl rfl hBa rfl ?_; intro wbB hgw xB) | fail)
 have hbw := hba.grown hgw hba.size fun k hk => by injection hk with hk; omega
 replace rA := rA.below hbw
 replace xA := xA.below hbw xA.lt
 replace rB := rB.below hbw
 replace q := q.trans (hbw.mono q.size)
 clear hbw hgw hba hBa
 have d0 := xB.cell (i := 0) rfl
 have d1 := xB.cell (i := 1) rfl
 have d2 := xB.cell (i := 2) rfl
 have d3 := xB.cell (i := 3) rfl
 have d4 := xB.cell (i := 4) rfl
 have d5 := xB.cell (i := 5) rfl
 have d6 := xB.cell (i := 6) rfl
 have d7 := xB.cell (i := 7) rfl
 have d8 := xB.cell (i := 8) rfl
 have d9 := xB.cell (i := 9) rfl
 have d10 := xB.cell (i := 10) rfl
 have d11 := xB.cell (i := 11) rfl
 go_wp2_with (first | (refine zbt byP rfl (fun _ => rfl) rfl rfl (by first | (simp; done) | (simp [Act.put]; done)) rfl (by decide) ?_; intro u1 g1 k1 w1 hb1 hr1) | fail)
 obtain rfl : k1 = 1 := hr1.s.len.1
 clear d0 d1 d2 d3 d4 d5 d6 d7 d8 d9 d10 d11
 replace rA := rA.below hb1
 replace xA := xA.below hb1 xA.lt
 replace rB := rB.below hb1
 replace xB := xB.below hb1 xB.lt
 replace q := q.trans (hb1.mono q.size)
 obtain ⟨w4,hw4⟩ : ∃ w4,w4 = w1.alloc (.cells #[.int .i64 0,.slice (some ⟨g1,0,none⟩) 1 1,.bool false,.slice none 0 0] 51) := ⟨_,rfl⟩
 have hb4 : Below w1.heap.size w1 w4 := by rw [hw4]; exact (Below.refl _ _).alloc (Nat.le_refl _) _
 have xr : BoxN w4 w1.heap.size 51 [.int .i64 0,.slice (some ⟨g1,0,none⟩) 1 1,.bool false,.slice none 0 0] := by rw [hw4]; exact BoxN.new _ _ _
 rw [← hw4]
 clear hw4
 replace rA := rA.below hb4
 replace xA := xA.below hb4 xA.lt
 replace rB := rB.below hb4
 replace xB := xB.below hb4 xB.lt
 replace q := q.trans (hb4.mono q.size)
 have hlw : RdL Elt.wr (fun _ => True) w4 (.slice (some ⟨w1.heap.size,0,none⟩) 1 1) [xD7] := one_w xr ((hr1.s.below hb4).weak fun _ _ => trivial) (RdS.nil _ _) ⟨by decide,by decide⟩
 clear hr1 hb1 hb4 xr
 have hch3 : okS TB → ∀ j,j < 4 → ∀ p ∈ prN (TB j),p.chain.length ≤ 103 := fun _ j hj p hp => cB2 j hj p hp
 have hcl := zdv w4 (T := TB) (s := 5) (l := [xD7]) (K := 103) rB fB ⟨by decide,by decide⟩ hlw hch3 (by decide)
 unfold zma at hcl
 rw [insD7 kB B0] at hcl
 refine hcl.mono ?_
 rintro e wcC ⟨vC,TC,rfl,⟨aC,mC,cC,rfl,hC⟩,hb,hIC⟩
 clear hcl
 replace rA := rA.below hb
 replace xA := xA.below hb xA.lt
 replace rB := rB.below hb
 replace xB := xB.below hb xB.lt
 replace q := q.trans (hb.mono q.size)
 clear hb
 have rC : RdSt (fun _ => True) wcC (.agg #[.slice (aC 0) (mC 0) (cC 0),.slice (aC 1) (mC 1) (cC 1),.slice (aC 2) (mC 2) (cC 2),.slice (aC 3) (mC 3) (cC 3),.slice (aC 4) (mC 4) (cC 4),.slice (aC 5) (mC 5) (cC 5),.slice (aC 6) (mC 6) (cC 6),.slice (aC 7) (mC 7) (cC 7),.slice (aC 8) (mC 8) (cC 8),.slice (aC 9) (mC 9) (cC 9),.slice (aC 10) (mC 10) (cC 10),.slice (aC 11) (mC 11) (cC 11)]) TC := ⟨aC,mC,cC,rfl,fun i hi => (hC i hi).weak fun _ _ => trivial⟩
 clear hC
 clear hlw hch3
 go_upto_region 4 with (first | (refine zbf (vs := [.slice none 0 0,.slice none 0 0,.slice none 0 0,.slice none 0 0,.slice none 0 0,.slice none 0 0,.slice none 0 0,.slice none 0 0,.slice none 0 0,.slice none 0 0,.slice none 0 0,.slice none 0 0]) (by kernel_rfl) rfl rfl ?_; intro wa hba hBa) | (refine zam (us := [.slice (aC 0) (mC 0) (cC 0),.slice (aC 1) (mC 1) (cC 1),.slice (aC 2) (mC 2) (cC 2),.slice (aC 3) (mC 3) (cC 3),.slice (aC 4) (mC 4) (cC 4),.slice (aC 5) (mC 5) (cC 5),.slice (aC 6) (mC 6) (cC 6),.slice (aC 7) (mC 7) (cC 7),.slice (aC 8) (mC 8) (cC 8),.slice (aC 9) (mC 9) (cC 9),.slice (aC 10) (mC 10) (cC 10),.slice (aC 11) (mC 11) (cC 11)]) (by kernel_rfl) rfl rfl rfl rfl rfl rfl hBa rfl ?_; intro wbC hgw xC) | fail)
 have hbw := hba.grown hgw hba.size fun k hk => by injection hk with hk; omega
 replace rA := rA.below hbw
 replace xA := xA.below hbw xA.lt
 replace rB := rB.below hbw
 replace xB := xB.below hbw xB.lt
 replace rC := rC.below hbw
 replace q := q.trans (hbw.mono q.size)
 clear hbw hgw hba hBa
 clear xC rC
 have d0 := xB.cell (i := 0) rfl
 have d1 := xB.cell (i := 1) rfl
 have d2 := xB.cell (i := 2) rfl
 have d3 := xB.cell (i := 3) rfl
 have d4 := xB.cell (i := 4) rfl
 have d5 := xB.cell (i := 5) rfl
 have d6 := xB.cell (i := 6) rfl
 have d7 := xB.cell (i := 7) rfl
 have d8 := xB.cell (i := 8) rfl
 have d9 := xB.cell (i := 9) rfl
 have d10 := xB.cell (i := 10) rfl
 have d11 := xB.cell (i := 11) rfl
 go_wp2_with fail
 clear d0 d1 d2 d3 d4 d5 d6 d7 d8 d9 d10 d11
 obtain ⟨w4,hw4⟩ : ∃ w4,w4 = wbC.alloc (.cells #[.int .i64 4,.slice none 0 0,.bool false,.slice none 0 0] 51) := ⟨_,rfl⟩
 have hb4 : Below wbC.heap.size wbC w4 := by rw [hw4]; exact (Below.refl _ _).alloc (Nat.le_refl _) _
 have xr : BoxN w4 wbC.heap.size 51 [.int .i64 4,.slice none 0 0,.bool false,.slice none 0 0] := by rw [hw4]; exact BoxN.new _ _ _
 rw [← hw4]
 clear hw4
 replace rA := rA.below hb4
 replace xA := xA.below hb4 xA.lt
 replace rB := rB.below hb4
 replace xB := xB.below hb4 xB.lt
 replace q := q.trans (hb4.mono q.size)
 have hlw : RdL Elt.wr (fun _ => True) w4 (.slice (some ⟨wbC.heap.size,0,none⟩) 1 1) [xE7] := one_w xr (RdS.nil _ _) (RdS.nil _ _) ⟨by decide,by decide⟩
 clear hb4 xr
 have hch4 : okS TB → ∀ j,j < 4 → ∀ p ∈ prN (TB j),p.chain.length ≤ 103 := fun _ j hj p hp => cB2 j hj p hp
 have hcl := zdv w4 (T := TB) (s := 6) (l := [xE7]) (K := 103) rB fB ⟨by decide,by decide⟩ hlw hch4 (by decide)
 unfold zma at hcl
 rw [insE7 TB] at hcl
 refine hcl.mono ?_
 rintro e wcD ⟨vD,TD,rfl,⟨aD,mD,cD,rfl,hD⟩,hb,hID⟩
 clear hcl
 replace rA := rA.below hb
 replace xA := xA.below hb xA.lt
 replace rB := rB.below hb
 replace xB := xB.below hb xB.lt
 replace q := q.trans (hb.mono q.size)
 clear hb
 have rD : RdSt (fun _ => True) wcD (.agg #[.slice (aD 0) (mD 0) (cD 0),.slice (aD 1) (mD 1) (cD 1),.slice (aD 2) (mD 2) (cD 2),.slice (aD 3) (mD 3) (cD 3),.slice (aD 4) (mD 4) (cD 4),.slice (aD 5) (mD 5) (cD 5),.slice (aD 6) (mD 6) (cD 6),.slice (aD 7) (mD 7) (cD 7),.slice (aD 8) (mD 8) (cD 8),.slice (aD 9) (mD 9) (cD 9),.slice (aD 10) (mD 10) (cD 10),.slice (aD 11) (mD 11) (cD 11)]) TD := ⟨aD,mD,cD,rfl,fun i hi => (hD i hi).weak fun _ _ => trivial⟩
 clear hD
 clear hlw hch4
 go_upto_region 5 with (first | (refine zbf (vs := [.slice none 0 0,.slice none 0 0,.slice none 0 0,.slice none 0 0,.slice none 0 0,.slice none 0 0,.slice none 0 0,.slice none 0 0,.slice none 0 0,.slice none 0 0,.slice none 0 0,.slice none 0 0]) (by kernel_rfl) rfl rfl ?_; intro wa hba hBa) | (refine zam (us := [.slice (aD 0) (mD 0) (cD 0),.slice (aD 1) (mD 1) (cD 1),.slice (aD 2) (mD 2) (cD 2),.slice (aD 3) (mD 3) (cD 3),.slice (aD 4) (mD 4) (cD 4),.slice (aD 5) (mD 5) (cD 5),.slice (aD 6) (mD 6) (cD 6),.slice (aD 7) (mD 7) (cD 7),.slice (aD 8) (mD 8) (cD 8),.slice (aD 9) (mD 9) (cD 9),.slice (aD 10) (mD 10) (cD 10),.slice (aD 11) (mD 11) (cD 11)]) (by kernel_rfl) rfl rfl rfl rfl rfl rfl hBa rfl ?_; intro wbD hgw xD) | fail)
 have hbw := hba.grown hgw hba.size fun k hk => by injection hk with hk; omega
 replace rA := rA.below hbw
 replace xA := xA.below hbw xA.lt
 replace rB := rB.below hbw
 replace xB := xB.below hbw xB.lt
 replace rD := rD.below hbw
 replace q := q.trans (hbw.mono q.size)
 clear hbw hgw hba hBa
 clear xD rD
 clear xA rA
 have P0 : zdo TB 0 = pC7 := by
  unfold zdo
  rw [if_pos ⟨by decide,by decide,kB⟩]
  exact B0
 have d0 := xB.cell (i := 0) rfl
 have d1 := xB.cell (i := 1) rfl
 have d2 := xB.cell (i := 2) rfl
 have d3 := xB.cell (i := 3) rfl
 have d4 := xB.cell (i := 4) rfl
 have d5 := xB.cell (i := 5) rfl
 have d6 := xB.cell (i := 6) rfl
 have d7 := xB.cell (i := 7) rfl
 have d8 := xB.cell (i := 8) rfl
 have d9 := xB.cell (i := 9) rfl
 have d10 := xB.cell (i := 10) rfl
 have d11 := xB.cell (i := 11) rfl
 go_wp2_with (first | (refine zbt byP rfl (fun _ => rfl) rfl rfl (by first | (simp; done) | (simp [Act.put]; done)) rfl (by decide) ?_; intro u1 g1 k1 w1 hb1 hr1) | fail)
 obtain rfl : k1 = 1 := hr1.s.len.1
 clear d0 d1 d2 d3 d4 d5 d6 d7 d8 d9 d10 d11
 replace rB := rB.below hb1
 replace xB := xB.below hb1 xB.lt
 replace q := q.trans (hb1.mono q.size)
 have hcl : Calls Tryz.prog 16 _ w1 (zki w1 (getP (zdo TB 0) [97] 4)) := zjf w1 (T := TB) (t := 0) (s := 4) rB fB hr1.s
 rw [P0,get7.1] at hcl
 refine hcl.mono ?_
 rintro e wg1 ⟨va1,vc1,e5,rv1,hb⟩
 clear hcl hr1 hb1
 replace e5 : e = .returned (.tuple #[.slice va1 1 vc1,.bool true]) := e5
 subst e5
 replace rB := rB.below hb
 replace xB := xB.below hb xB.lt
 replace q := q.trans (hb.mono q.size)
 clear hb
 replace rv1 : RdS (fun _ => True) wg1 (.slice va1 1 vc1) [118] := rv1.weak fun _ _ => trivial
 have d0 := xB.cell (i := 0) rfl
 have d1 := xB.cell (i := 1) rfl
 have d2 := xB.cell (i := 2) rfl
 have d3 := xB.cell (i := 3) rfl
 have d4 := xB.cell (i := 4) rfl
 have d5 := xB.cell (i := 5) rfl
 have d6 := xB.cell (i := 6) rfl
 have d7 := xB.cell (i := 7) rfl
 have d8 := xB.cell (i := 8) rfl
 have d9 := xB.cell (i := 9) rfl
 have d10 := xB.cell (i := 10) rfl
 have d11 := xB.cell (i := 11) rfl
 go_wp2_with (first | (refine zbt byP rfl (fun _ => rfl) rfl rfl (by first | (simp; done) | (simp [Act.put]; done)) rfl (by decide) ?_; intro u1 g1 k1 w1 hb1 hr1) | fail)
 obtain rfl : k1 = 1 := hr1.s.len.1
 clear d0 d1 d2 d3 d4 d5 d6 d7 d8 d9 d10 d11
 replace rB := rB.below hb1
 replace xB := xB.below hb1 xB.lt
 replace rv1 := rv1.below hb1
 replace q := q.trans (hb1.mono q.size)
 have hcl : Calls Tryz.prog 16 _ w1 (zki w1 (getP (zdo TB 0) [97] 2)) := zjf w1 (T := TB) (t := 0) (s := 2) rB fB hr1.s
 rw [P0,get7.2.1] at hcl
 refine hcl.mono ?_
 rintro e wg2 ⟨va2,vc2,e5,rv2,hb⟩
 clear hcl hr1 hb1
 replace e5 : e = .returned (.tuple #[.slice va2 0 vc2,.bool false]) := e5
 subst e5
 replace rB := rB.below hb
 replace xB := xB.below hb xB.lt
 replace rv1 := rv1.below hb
 replace q := q.trans (hb.mono q.size)
 clear hb
 clear rv2
 have d0 := xB.cell (i := 0) rfl
 have d1 := xB.cell (i := 1) rfl
 have d2 := xB.cell (i := 2) rfl
 have d3 := xB.cell (i := 3) rfl
 have d4 := xB.cell (i := 4) rfl
 have d5 := xB.cell (i := 5) rfl
 have d6 := xB.cell (i := 6) rfl
 have d7 := xB.cell (i := 7) rfl
 have d8 := xB.cell (i := 8) rfl
 have d9 := xB.cell (i := 9) rfl
 have d10 := xB.cell (i := 10) rfl
 have d11 := xB.cell (i := 11) rfl
 go_wp2_with (first | (refine zbt byP rfl (fun _ => rfl) rfl rfl (by first | (simp; done) | (simp [Act.put]; done)) rfl (by decide) ?_; intro u1 g1 k1 w1 hb1 hr1) | fail)
 obtain rfl : k1 = 1 := hr1.s.len.1
 clear d0 d1 d2 d3 d4 d5 d6 d7 d8 d9 d10 d11
 replace rB := rB.below hb1
 replace xB := xB.below hb1 xB.lt
 replace rv1 := rv1.below hb1
 replace q := q.trans (hb1.mono q.size)
 have hcl : Calls Tryz.prog 16 _ w1 (zki w1 (getP (zdo TB 0) [97] 5)) := zjf w1 (T := TB) (t := 0) (s := 5) rB fB hr1.s
 rw [P0,get7.2.2] at hcl
 refine hcl.mono ?_
 rintro e wg3 ⟨va3,vc3,e5,rv3,hb⟩
 clear hcl hr1 hb1
 replace e5 : e = .returned (.tuple #[.slice va3 0 vc3,.bool false]) := e5
 subst e5
 replace rB := rB.below hb
 replace xB := xB.below hb xB.lt
 replace rv1 := rv1.below hb
 replace q := q.trans (hb.mono q.size)
 clear hb
 clear rv3
 go_upto_region 9 with (first | (refine zbf (vs := [.int .i64 0,.slice none 0 0,.slice none 0 0,.bool false]) (by kernel_rfl) rfl rfl ?_; intro wa hba hBa) | (refine zam (us := [.int .i64 0,.slice none 0 0,.slice none 0 0,.bool true]) (by kernel_rfl) rfl rfl rfl rfl rfl rfl hBa rfl ?_; intro wbS hgw xS) | fail)
 have hbw := hba.grown hgw hba.size fun k hk => by injection hk with hk; omega
 replace rB := rB.below hbw
 replace xB := xB.below hbw xB.lt
 replace rv1 := rv1.below hbw
 replace q := q.trans (hbw.mono q.size)
 clear hbw hgw hba hBa
 have d0 := xB.cell (i := 0) rfl
 have d1 := xB.cell (i := 1) rfl
 have d2 := xB.cell (i := 2) rfl
 have d3 := xB.cell (i := 3) rfl
 have d4 := xB.cell (i := 4) rfl
 have d5 := xB.cell (i := 5) rfl
 have d6 := xB.cell (i := 6) rfl
 have d7 := xB.cell (i := 7) rfl
 have d8 := xB.cell (i := 8) rfl
 have d9 := xB.cell (i := 9) rfl
 have d10 := xB.cell (i := 10) rfl
 have d11 := xB.cell (i := 11) rfl
 have s0 := xS.cell (i := 0) rfl
 have s1 := xS.cell (i := 1) rfl
 have s2 := xS.cell (i := 2) rfl
 have s3 := xS.cell (i := 3) rfl
 have hcl : Calls Tryz.prog 19 _ wbS (ScEnd wbS (zgd (zdo TB 0) (⟨0,[],[],true⟩ : Sp) 3)) := zhq wbS (T := TB) (x := (⟨0,[],[],true⟩ : Sp)) (s := 3) rB fB (S2 := fun _ => True) ⟨none,0,none,0,rfl,RdS.nil _ _,RdS.nil _ _,by constructor <;> decide⟩
 rw [P0] at hcl
 go_wp2_with fail
 refine hcl.mono ?_
 rintro e wn ⟨na,nc,rfl,_,hb⟩
 rw [scan7]
 clear hcl d0 d1 d2 d3 d4 d5 d6 d7 d8 d9 d10 d11 s0 s1 s2 s3
 replace rB := rB.below hb
 replace xB := xB.below hb xB.lt
 replace rv1 := rv1.below hb
 replace xS := xS.below hb xS.lt
 replace q := q.trans (hb.mono q.size)
 clear hb
 have d0 := xB.cell (i := 0) rfl
 have d1 := xB.cell (i := 1) rfl
 have d2 := xB.cell (i := 2) rfl
 have d3 := xB.cell (i := 3) rfl
 have d4 := xB.cell (i := 4) rfl
 have d5 := xB.cell (i := 5) rfl
 have d6 := xB.cell (i := 6) rfl
 have d7 := xB.cell (i := 7) rfl
 have d8 := xB.cell (i := 8) rfl
 have d9 := xB.cell (i := 9) rfl
 have d10 := xB.cell (i := 10) rfl
 have d11 := xB.cell (i := 11) rfl
 have hcl := zfg wn (o := 5) rB fB
 go_wp2_with fail
 refine hcl.mono ?_
 rintro e wv ⟨vV,TV,rfl,hV,⟨aV,mV,cV,rfl,hrV⟩,hb⟩
 clear hcl d0 d1 d2 d3 d4 d5 d6 d7 d8 d9 d10 d11
 replace rB := rB.below hb
 replace xB := xB.below hb xB.lt
 replace rv1 := rv1.below hb
 replace xS := xS.below hb xS.lt
 replace q := q.trans (hb.mono q.size)
 clear hb
 obtain ⟨kV,fV,eV⟩ := hV.facts kB fB
 have rV : RdSt (fun _ => True) wv (.agg #[.slice (aV 0) (mV 0) (cV 0),.slice (aV 1) (mV 1) (cV 1),.slice (aV 2) (mV 2) (cV 2),.slice (aV 3) (mV 3) (cV 3),.slice (aV 4) (mV 4) (cV 4),.slice (aV 5) (mV 5) (cV 5),.slice (aV 6) (mV 6) (cV 6),.slice (aV 7) (mV 7) (cV 7),.slice (aV 8) (mV 8) (cV 8),.slice (aV 9) (mV 9) (cV 9),.slice (aV 10) (mV 10) (cV 10),.slice (aV 11) (mV 11) (cV 11)]) TV := ⟨aV,mV,cV,rfl,fun i hi => (hrV i hi).weak fun _ _ => trivial⟩
 have N0 : mV 0 = 0 := by
  obtain ⟨_,_,_,_,_,_,e,_⟩ := hrV 0 (by decide)
  injection e with e
  injection e with e
  injection e with e _
  injection e with _ e _
  have h := eV 0 (by decide)
  rw [B0,vac7.1] at h
  have h2 := zn9 h.1 (by rw [h.2]; simp)
  rw [h.2] at h2
  exact e.trans h2
 have N1 : mV 3 = 1 := by
  obtain ⟨_,_,_,_,_,_,e,_⟩ := hrV 1 (by decide)
  injection e with e
  injection e with e
  injection e with e _
  injection e with _ e _
  have h := eV 1 (by decide)
  rw [B1,vac7.2] at h
  have h2 := zn9 h.1 (by rw [h.2]; decide)
  rw [h.2] at h2
  exact e.trans h2
 clear hV eV hrV
 replace N0 := Lib.hid N0
 replace N1 := Lib.hid N1
 have hN4 := fun (W : World) (hb : Below wv.heap.size wv W) => (show Calls Tryz.prog 22 #[.agg #[.slice (aB 0) (mB 0) (cB 0),.slice (aB 1) (mB 1) (cB 1),.slice (aB 2) (mB 2) (cB 2),.slice (aB 3) (mB 3) (cB 3),.slice (aB 4) (mB 4) (cB 4),.slice (aB 5) (mB 5) (cB 5),.slice (aB 6) (mB 6) (cB 6),.slice (aB 7) (mB 7) (cB 7),.slice (aB 8) (mB 8) (cB 8),.slice (aB 9) (mB 9) (cB 9),.slice (aB 10) (mB 10) (cB 10),.slice (aB 11) (mB 11) (cB 11)],.agg #[.int .i64 0,.slice none 0 0,.slice none 0 0,.bool true],.int .i64 4] W (fun e w2 => e = .returned (.bool (newP (zdo TB 0) (⟨0,[],[],true⟩ : Sp) 4)) ∧ Below W.heap.size W w2) from ze4 W (T := TB) (x := (⟨0,[],[],true⟩ : Sp)) (s := 4) (rB.below hb) fB (S2 := fun _ => True) ⟨none,0,none,0,rfl,RdS.nil _ _,RdS.nil _ _,by constructor <;> decide⟩)
 rw [P0,new7.1] at hN4
 have hN5 := fun (W : World) (hb : Below wv.heap.size wv W) => (show Calls Tryz.prog 22 #[.agg #[.slice (aB 0) (mB 0) (cB 0),.slice (aB 1) (mB 1) (cB 1),.slice (aB 2) (mB 2) (cB 2),.slice (aB 3) (mB 3) (cB 3),.slice (aB 4) (mB 4) (cB 4),.slice (aB 5) (mB 5) (cB 5),.slice (aB 6) (mB 6) (cB 6),.slice (aB 7) (mB 7) (cB 7),.slice (aB 8) (mB 8) (cB 8),.slice (aB 9) (mB 9) (cB 9),.slice (aB 10) (mB 10) (cB 10),.slice (aB 11) (mB 11) (cB 11)],.agg #[.int .i64 0,.slice none 0 0,.slice none 0 0,.bool true],.int .i64 5] W (fun e w2 => e = .returned (.bool (newP (zdo TB 0) (⟨0,[],[],true⟩ : Sp) 5)) ∧ Below W.heap.size W w2) from ze4 W (T := TB) (x := (⟨0,[],[],true⟩ : Sp)) (s := 5) (rB.below hb) fB (S2 := fun _ => True) ⟨none,0,none,0,rfl,RdS.nil _ _,RdS.nil _ _,by constructor <;> decide⟩)
 rw [P0,new7.2] at hN5
 have hCk := fun (W : World) (hb : Below wv.heap.size wv W) => zcx W (rV.below hb) fV
 rw [decide_eq_true kV] at hCk
 go_wp2_with (first | (refine zbf (vs := [.slice none 0 0,.slice none 0 0,.slice none 0 0,.slice none 0 0,.slice none 0 0,.slice none 0 0,.slice none 0 0,.slice none 0 0,.slice none 0 0,.slice none 0 0,.slice none 0 0,.slice none 0 0]) (by kernel_rfl) rfl rfl ?_; intro wa hba hBa) | (refine zam (us := [.slice (aV 0) (mV 0) (cV 0),.slice (aV 1) (mV 1) (cV 1),.slice (aV 2) (mV 2) (cV 2),.slice (aV 3) (mV 3) (cV 3),.slice (aV 4) (mV 4) (cV 4),.slice (aV 5) (mV 5) (cV 5),.slice (aV 6) (mV 6) (cV 6),.slice (aV 7) (mV 7) (cV 7),.slice (aV 8) (mV 8) (cV 8),.slice (aV 9) (mV 9) (cV 9),.slice (aV 10) (mV 10) (cV 10),.slice (aV 11) (mV 11) (cV 11)]) (by kernel_rfl) rfl rfl rfl rfl rfl rfl hBa rfl ?_; intro wbV hgw xV; have hbw := hba.grown hgw hba.size (fun k hk => by injection hk with hk; omega); replace xB := xB.below hbw xB.lt; replace xS := xS.below hbw xS.lt; replace rv1 := rv1.below hbw; have cv1 := znu byP rv1.rd; have st1 : (zbk [118]).toList = [118] := zku _; have d0 := xB.cell (i := 0) rfl; have d1 := xB.cell (i := 1) rfl; have d2 := xB.cell (i := 2) rfl; have d3 := xB.cell (i := 3) rfl; have d4 := xB.cell (i := 4) rfl; have d5 := xB.cell (i := 5) rfl; have d6 := xB.cell (i := 6) rfl; have d7 := xB.cell (i := 7) rfl; have d8 := xB.cell (i := 8) rfl; have d9 := xB.cell (i := 9) rfl; have d10 := xB.cell (i := 10) rfl; have d11 := xB.cell (i := 11) rfl; have s0 := xS.cell (i := 0) rfl; have s1 := xS.cell (i := 1) rfl; have s2 := xS.cell (i := 2) rfl; have s3 := xS.cell (i := 3) rfl; have y0 := xV.cell (i := 0) rfl; have y1 := xV.cell (i := 1) rfl; have y2 := xV.cell (i := 2) rfl; have y3 := xV.cell (i := 3) rfl; have y4 := xV.cell (i := 4) rfl; have y5 := xV.cell (i := 5) rfl; have y6 := xV.cell (i := 6) rfl; have y7 := xV.cell (i := 7) rfl; have y8 := xV.cell (i := 8) rfl; have y9 := xV.cell (i := 9) rfl; have y10 := xV.cell (i := 10) rfl; have y11 := xV.cell (i := 11) rfl; rw [N0.out] at y0; rw [N1.out] at y3) | rw [cv1] | fail)
 simp only [N0.out,N1.out] at hCk
 refine (hN4 _ hbw).mono ?_
 rintro e wx ⟨rfl,hb⟩
 replace xB := xB.below hb xB.lt
 replace xS := xS.below hb xS.lt
 replace xV := xV.below hb xV.lt
 replace hbw := hbw.trans (hb.mono hbw.size)
 clear d0 d1 d2 d3 d4 d5 d6 d7 d8 d9 d10 d11 s0 s1 s2 s3 y0 y1 y2 y3 y4 y5 y6 y7 y8 y9 y10 y11
 clear hb
 have d0 := xB.cell (i := 0) rfl
 have d1 := xB.cell (i := 1) rfl
 have d2 := xB.cell (i := 2) rfl
 have d3 := xB.cell (i := 3) rfl
 have d4 := xB.cell (i := 4) rfl
 have d5 := xB.cell (i := 5) rfl
 have d6 := xB.cell (i := 6) rfl
 have d7 := xB.cell (i := 7) rfl
 have d8 := xB.cell (i := 8) rfl
 have d9 := xB.cell (i := 9) rfl
 have d10 := xB.cell (i := 10) rfl
 have d11 := xB.cell (i := 11) rfl
 have s0 := xS.cell (i := 0) rfl
 have s1 := xS.cell (i := 1) rfl
 have s2 := xS.cell (i := 2) rfl
 have s3 := xS.cell (i := 3) rfl
 have y0 := xV.cell (i := 0) rfl
 have y1 := xV.cell (i := 1) rfl
 have y2 := xV.cell (i := 2) rfl
 have y3 := xV.cell (i := 3) rfl
 have y4 := xV.cell (i := 4) rfl
 have y5 := xV.cell (i := 5) rfl
 have y6 := xV.cell (i := 6) rfl
 have y7 := xV.cell (i := 7) rfl
 have y8 := xV.cell (i := 8) rfl
 have y9 := xV.cell (i := 9) rfl
 have y10 := xV.cell (i := 10) rfl
 have y11 := xV.cell (i := 11) rfl
 rw [N0.out] at y0
 rw [N1.out] at y3
 go_wp2_with fail
 refine (hN5 _ hbw).mono ?_
 rintro e wy ⟨rfl,hb⟩
 replace xB := xB.below hb xB.lt
 replace xS := xS.below hb xS.lt
 replace xV := xV.below hb xV.lt
 replace hbw := hbw.trans (hb.mono hbw.size)
 clear d0 d1 d2 d3 d4 d5 d6 d7 d8 d9 d10 d11 s0 s1 s2 s3 y0 y1 y2 y3 y4 y5 y6 y7 y8 y9 y10 y11
 clear hb
 have d0 := xB.cell (i := 0) rfl
 have d1 := xB.cell (i := 1) rfl
 have d2 := xB.cell (i := 2) rfl
 have d3 := xB.cell (i := 3) rfl
 have d4 := xB.cell (i := 4) rfl
 have d5 := xB.cell (i := 5) rfl
 have d6 := xB.cell (i := 6) rfl
 have d7 := xB.cell (i := 7) rfl
 have d8 := xB.cell (i := 8) rfl
 have d9 := xB.cell (i := 9) rfl
 have d10 := xB.cell (i := 10) rfl
 have d11 := xB.cell (i := 11) rfl
 have s0 := xS.cell (i := 0) rfl
 have s1 := xS.cell (i := 1) rfl
 have s2 := xS.cell (i := 2) rfl
 have s3 := xS.cell (i := 3) rfl
 have y0 := xV.cell (i := 0) rfl
 have y1 := xV.cell (i := 1) rfl
 have y2 := xV.cell (i := 2) rfl
 have y3 := xV.cell (i := 3) rfl
 have y4 := xV.cell (i := 4) rfl
 have y5 := xV.cell (i := 5) rfl
 have y6 := xV.cell (i := 6) rfl
 have y7 := xV.cell (i := 7) rfl
 have y8 := xV.cell (i := 8) rfl
 have y9 := xV.cell (i := 9) rfl
 have y10 := xV.cell (i := 10) rfl
 have y11 := xV.cell (i := 11) rfl
 rw [N0.out] at y0
 rw [N1.out] at y3
 go_wp2_with fail
 refine (hCk _ hbw).mono ?_
 rintro e wz ⟨rfl,hb⟩
 go_wp2_with fail
 go_ret
 exact ⟨rfl,q.trans ((hbw.trans (hb.mono hbw.size)).mono q.size)⟩
theorem zg9.read {S:Nat→Prop} {w w':World} {l:List Pr} {a:Option Addr} {k c:Nat} (h:OwnL (Elt.pin Elt.pair S) 77 w.heap.size 0 w' (.slice a k c) l):RdL Elt.pair (fun _=>True) w' (.slice a k c) l:=(h.rdL.unpin).weak fun _ _=>trivial
theorem okP_no {l:List Pr} {i:Nat} (h:i<l.length) (hn:¬ (okV l[i].chain∧l[i].chain≠[]∧l[i].key.length≤16∧(0<i→ltB l[i - 1].key l[i].key=true))):decide (okP l)=false:=decide_eq_false fun h2=>hn (h2 i h)
theorem zjt (w:World) {S:Nat→Prop} {v:Value} {n:Nd} (hr:RdN S w v n) (hw:wN n≤1000000) :
  Calls Tryz.prog 29 #[v] w fun e w'=>e=.returned (.bool (decide (okN n)))∧Below w.heap.size w w':=by
 replace hr:=hr.fit.weak (S':=fun k=>k<w.heap.size) fun _ h=>h.2
 have hr0:=hr
 obtain⟨a1,c1,a2,c2,a3,c3,rfl,r1,r2,r3⟩:=hr
 have hT:=TriV.new w 26 (.slice a1 n.keys.length c1) (.slice a2 n.chains.length c2) (.slice a3 n.kids.length c3)
 have q:Below w.heap.size w (w.alloc (.cells #[.slice a1 n.keys.length c1,.slice a2 n.chains.length c2,.slice a3 n.kids.length c3] 26)):=(Below.refl _ _).alloc (Nat.le_refl _) _
 go_enter Tryz.func29,Tryz.ntmps29
 go_upto_region 1 with (fail)
 generalize w.alloc (.cells #[.slice a1 n.keys.length c1,.slice a2 n.chains.length c2,.slice a3 n.kids.length c3] 26)=W at *
 have t0:=hT.cell0
 have t1:=hT.cell1
 have t2:=hT.cell2
 go_wp2_with fail
 refine (zmt 1000000 n true _ _ _ hw (by omega) (hr0.below q)).mono ?_
 rintro e w1⟨rfl,hb⟩
 replace q:=q.trans (hb.mono q.size)
 replace hT:=hT.below hb hT.lt
 clear hb t0 t1 t2
 by_cases hf:zax n true<0
 ·have H:=Lib.hid (show decide (okN n)=false from decide_eq_false fun h=>by have:=h.1;omega)
  have d:decide (zax n true<0)=true:=decide_eq_true hf
  clear hf
  go_wp2_with fail
  go_ret
  exact⟨by rw [H.out];rfl,q⟩
 ·have d:decide (zax n true<0)=false:=decide_eq_false hf
  have hf0:0≤zax n true:=by omega
  have t0:=hT.cell0
  have t1:=hT.cell1
  have t2:=hT.cell2
  have HF:=Lib.hid hf0
  clear hf hf0
  go_wp2_with fail
  refine (zgt 1000000 n true _ _ _ hw (Nat.le_refl _) (hr0.below q) (fun k hk=>Nat.lt_of_lt_of_le hk q.size) HF.out).mono ?_
  rintro e w2⟨a,k,c,rfl,hO,hb⟩
  replace q:=q.trans (hb.mono q.size)
  have hl:=zg9.read hO
  have hiff:=Lib.hid (show decide (okN n)=decide (okP (zaa n)) from by
   rw [decide_eq_decide]
   exact⟨fun h=>h.2,fun h=>⟨HF.out,h⟩⟩)
  clear hb hO hT t0 t1 t2 d
  generalize zaa n=l at *
  obtain⟨rfl,hnc,hcm⟩:=hl.len
  have hlm:l.length≤9223372036854775807:=by unfold maxLen at hcm;omega
  go_upto_region 5 with (fail)
  go_loopw [4] (fun iv wr=>∃ i:Nat,iv=.int .i64 i∧i≤l.length∧(∀ j (h:j<l.length),j<i→okV l[j].chain∧l[j].chain≠[]∧l[j].key.length≤16∧(0<j→ltB l[j - 1].key l[j].key=true))∧Below w2.heap.size w2 wr) (fun i _=>l.length - (intOf i).toNat)
  case atStart=>exact⟨0,rfl,Nat.zero_le _,fun j _ h=>absurd h (Nat.not_lt_zero _),Below.refl _ _⟩
  case round =>
   obtain⟨i,rfl,hil,hok,q2⟩:=hrel
   rcases Nat.lt_or_ge i l.length with hlt | hge
   ·obtain⟨b,off,A,C,B,D,rfl,c0,c1,hky,hcc⟩:=(hl.below q2).pr i hlt
    go_wp2_with fail
    refine (zjs _ hcc).mono ?_
    rintro e w3⟨rfl,hb⟩
    replace q2:=q2.trans (hb.mono q2.size)
    clear hb c0 c1 hky hcc
    obtain⟨b',off',A,C,B,D,e',c0,c1,hky,hcc⟩:=(hl.below q2).pr i hlt
    injection e' with e';injection e' with e1 e2;subst e1;subst e2
    have hkl:=hky.len
    have hcl:=hcc.len
    unfold maxLen at hkl hcl
    have hk2:=hky.rd
    have hno:=Lib.hid (okP_no hlt)
    by_cases h1:okV l[i].chain
    ·rw [decide_eq_true h1]
     by_cases h2:l[i].chain.length=0
     ·have H:=Lib.hid (hno.out fun h=>h.2.1 (List.eq_nil_of_length_eq_zero h2))
      have d2:((l[i].chain.length:Int)==0)=true:=by rw [beq_iff_eq];omega
      clear h1 h2 hok
      go_upto_region 8 with (fail)
      refine wp_region_quiet_lit (by kernel_rfl) (by kernel_rfl) ?_
      repeat (first | go_big_quiet_step (fail))
      first | (refine wpQuiet_nil ?_;intro _ hw';obtain⟨nq,hw''⟩:=hw';subst hw'') | intro nq
      go_wp2_with fail
      go_ret
      exact⟨by rw [hiff.out,H.out];rfl,q.trans ((Below.drewN q2 _).mono q.size)⟩
     ·have d2:((l[i].chain.length:Int)==0)=false:=by rw [beq_eq_false_iff_ne];omega
      have h2':l[i].chain≠[]:=fun e=>h2 (by rw [e];rfl)
      by_cases h3:16<l[i].key.length
      ·have H:=Lib.hid (hno.out fun h=>by have:=h.2.2.1;omega)
       have d3:decide ((16:Int)<l[i].key.length)=true:=decide_eq_true (by omega)
       clear h1 h2 h2' hok
       go_upto_region 8 with (fail)
       refine wp_region_quiet_lit (by kernel_rfl) (by kernel_rfl) ?_
       repeat (first | go_big_quiet_step (fail))
       first | (refine wpQuiet_nil ?_;intro _ hw';obtain⟨nq,hw''⟩:=hw';subst hw'') | intro nq
       go_wp2_with fail
       go_ret
       exact⟨by rw [hiff.out,H.out];rfl,q.trans ((Below.drewN q2 _).mono q.size)⟩
      ·have d3:decide ((16:Int)<l[i].key.length)=false:=decide_eq_false (by omega)
       have h3':l[i].key.length≤16:=by omega
       cases i with
       | zero =>
        have H:=Lib.hid (show ∀ j (h:j<l.length),j<1→okV l[j].chain∧l[j].chain≠[]∧l[j].key.length≤16∧(0<j→ltB l[j - 1].key l[j].key=true) from fun j hj h=>by
         obtain rfl:j=0:=by omega
         exact⟨h1,h2',h3',fun h=>absurd h (Nat.lt_irrefl _)⟩)
        clear h1 h2 h2' h3 h3' hok
        simp only [Nat.zero_mul,Nat.add_zero] at c0 c1
        go_upto_region 8 with (fail)
        refine wp_region_quiet_lit (by kernel_rfl) (by kernel_rfl) ?_
        repeat (first | go_big_quiet_step (fail))
        first | (refine wpQuiet_nil ?_;intro _ hw';obtain⟨nq,hw''⟩:=hw';subst hw'') | intro nq
        go_wp2_with fail
        go_roundw
        case rel=>exact⟨1,by go_num,by omega,H.out,Below.drewN q2 _⟩
        case measure=>simp [intOf];omega
       | succ i =>
        have hlt':i<l.length:=by omega
        obtain⟨b',off',A',C',B',D',e',c0',c1',hky',hcc'⟩:=(hl.below q2).pr i hlt'
        injection e' with e';injection e' with e1 e2;subst e1;subst e2
        have hk2':=hky'.rd
        have e1:((i+1:Nat):Int) - 1=(i:Int):=by omega
        cases h4:ltB l[i].key l[i+1].key with
        | true =>
         have H:=Lib.hid (show ∀ j (h:j<l.length),j<i+2→okV l[j].chain∧l[j].chain≠[]∧l[j].key.length≤16∧(0<j→ltB l[j - 1].key l[j].key=true) from fun j hj h=>by
          rcases Nat.lt_or_ge j (i+1) with h5 | h5
          ·exact hok j hj h5
          ·obtain rfl:j=i+1:=by omega
           exact⟨h1,h2',h3',fun _=>h4⟩)
         have d4:Op.bytesLess (zbk l[i].key).toList (zbk l[i+1].key).toList=true:=str_lt.trans h4
         clear h1 h2 h2' h3 h3' h4 hok
         go_upto_region 8 with (fail)
         refine wp_region_quiet_lit (by kernel_rfl) (by kernel_rfl) ?_
         repeat (first | go_big_quiet_step (fail) | (go_big_quiet_want;refine zar byP rfl rfl hk2' ?_;go_big_quiet_on;go_simp) | (go_big_quiet_want;refine zar byP rfl rfl hk2 ?_;go_big_quiet_on;go_simp))
         first | (refine wpQuiet_nil ?_;intro _ hw';obtain⟨nq,hw''⟩:=hw';subst hw'') | intro nq
         go_wp2_with fail
         go_roundw
         case rel=>exact⟨i+2,by go_num,by omega,H.out,Below.drewN q2 _⟩
         case measure=>simp [intOf];omega
        | false =>
         have H:=Lib.hid (hno.out fun h=>by have:=h.2.2.2 (Nat.succ_pos _);simp only [Nat.add_sub_cancel] at this;rw [h4] at this;cases this)
         have d4:Op.bytesLess (zbk l[i].key).toList (zbk l[i+1].key).toList=false:=str_lt.trans h4
         clear h1 h2 h2' h3 h3' h4 hok
         go_upto_region 8 with (fail)
         refine wp_region_quiet_lit (by kernel_rfl) (by kernel_rfl) ?_
         repeat (first | go_big_quiet_step (fail) | (go_big_quiet_want;refine zar byP rfl rfl hk2' ?_;go_big_quiet_on;go_simp) | (go_big_quiet_want;refine zar byP rfl rfl hk2 ?_;go_big_quiet_on;go_simp))
         first | (refine wpQuiet_nil ?_;intro _ hw';obtain⟨nq,hw''⟩:=hw';subst hw'') | intro nq
         go_wp2_with fail
         go_ret
         exact⟨by rw [hiff.out,H.out];rfl,q.trans ((Below.drewN q2 _).mono q.size)⟩
    ·rw [decide_eq_false h1]
     have H:=Lib.hid (hno.out fun h=>h1 h.1)
     clear h1 hok
     go_upto_region 8 with (fail)
     refine wp_region_quiet_lit (by kernel_rfl) (by kernel_rfl) ?_
     repeat (first | go_big_quiet_step (fail))
     first | (refine wpQuiet_nil ?_;intro _ hw';obtain⟨nq,hw''⟩:=hw';subst hw'') | intro nq
     go_wp2_with fail
     go_ret
     exact⟨by rw [hiff.out,H.out];rfl,q.trans ((Below.drewN q2 _).mono q.size)⟩
   ·obtain rfl:i=l.length:=by omega
    have H:=Lib.hid (show decide (okP l)=true from decide_eq_true fun j hj=>hok j hj hj)
    clear hok
    go_wp2_with fail
    go_ret
    exact⟨by rw [hiff.out,H.out];rfl,q.trans (q2.mono q.size)⟩
def zfd (T:Sto):Prop:=∀ j,j<4→zcj 5 (T j)=true
instance (T:Sto):Decidable (zfd T):=by unfold zfd;infer_instance
theorem zjq (w:World) {S:Nat→Prop} {v:Value} {T:Sto} (hr:RdSt S w v T):Calls Tryz.prog 12 #[v] w fun e w'=>e=.returned (.bool (decide (zfd T)))∧Below w.heap.size w w':=by
 obtain⟨a,m,c,rfl,hx⟩:=hr
 obtain⟨W,hW⟩:∃ W,W=w.alloc (.cells #[.slice (a 0) (m 0) (c 0),.slice (a 1) (m 1) (c 1),.slice (a 2) (m 2) (c 2),.slice (a 3) (m 3) (c 3),.slice (a 4) (m 4) (c 4),.slice (a 5) (m 5) (c 5),.slice (a 6) (m 6) (c 6),.slice (a 7) (m 7) (c 7),.slice (a 8) (m 8) (c 8),.slice (a 9) (m 9) (c 9),.slice (a 10) (m 10) (c 10),.slice (a 11) (m 11) (c 11)] 29):=⟨_,rfl⟩
 have q:Below w.heap.size w W:=by rw [hW];exact (Below.refl _ _).alloc (Nat.le_refl _) _
 have bn:StB W w.heap.size a m c:=by rw [hW];exact BoxN.new _ _ _
 go_enter Tryz.func12,Tryz.ntmps12
 go_upto_region 1 with (fail)
 rw [← hW]
 clear hW
 go_wp2
 go_loopw [3] (fun v wr=>∃ i:Nat,v=.int .i64 (i:Int)∧i≤4∧Below w.heap.size w wr∧StB wr w.heap.size a m c∧∀ j,j<i→zcj 5 (T j)=true) (fun v _=>4 - toN v)
 case atStart=>exact⟨0,rfl,by omega,q,bn,fun j hj=>by omega⟩
 case round =>
  obtain⟨i,rfl,hi,hb,bx,hA⟩:=hrel
  replace hA:=Lib.hid hA
  rcases Nat.lt_or_ge i 4 with hl | hl
  ·have dl:decide ((i:Int)<4)=true:=by simp;omega
   clear bn q
   have d0:=bx.cell (i:=0) rfl
   have d1:=bx.cell (i:=1) rfl
   have d2:=bx.cell (i:=2) rfl
   have d3:=bx.cell (i:=3) rfl
   have d4:=bx.cell (i:=4) rfl
   have d5:=bx.cell (i:=5) rfl
   have d6:=bx.cell (i:=6) rfl
   have d7:=bx.cell (i:=7) rfl
   have d8:=bx.cell (i:=8) rfl
   have d9:=bx.cell (i:=9) rfl
   have d10:=bx.cell (i:=10) rfl
   have d11:=bx.cell (i:=11) rfl
   rcases (show i=0∨i=1∨i=2∨i=3 by omega) with rfl | rfl | rfl | rfl
   ·have rN:RdN S w (.agg #[.slice (a 0) (m 0) (c 0),.slice (a 1) (m 1) (c 1),.slice (a 2) (m 2) (c 2)]) (T 0):=hx 0 (by omega)
    have hsm:=ze3 5 (T 0) wr S _ (by omega) (rN.below hb)
    rw [show (((5:Nat):Int) - 1)=4 from rfl] at hsm
    by_cases hs:zcj 5 (T 0)=true
    ·rw [hs] at hsm
     replace hs:=Lib.hid hs
     go_wp2_with fail
     refine hsm.mono ?_
     rintro e W4⟨rfl,hb4⟩
     go_wp2_with fail
     go_roundw
     case rel =>
      refine⟨1,by go_num,by omega,hb.trans (hb4.mono hb.size),bx.below hb4 bx.lt,fun j hj=>?_⟩
      rcases Nat.lt_succ_iff_lt_or_eq.1 hj with h | rfl
      ·exact hA.out j h
      ·exact hs.out
     case measure=>simp [toN]
    ·rw [Bool.not_eq_true _ |>.mp hs] at hsm
     have H:=Lib.hid (show decide (zfd T)=false from decide_eq_false fun h=>hs (h 0 (by omega)))
     clear hs
     go_wp2_with fail
     refine hsm.mono ?_
     rintro e W4⟨rfl,hb4⟩
     go_wp2_with fail
     go_ret
     exact⟨by first | (rw [H.out];done) | (rw [H.out];rfl),hb.trans (hb4.mono hb.size)⟩
   ·have rN:RdN S w (.agg #[.slice (a 3) (m 3) (c 3),.slice (a 4) (m 4) (c 4),.slice (a 5) (m 5) (c 5)]) (T 1):=hx 1 (by omega)
    have hsm:=ze3 5 (T 1) wr S _ (by omega) (rN.below hb)
    rw [show (((5:Nat):Int) - 1)=4 from rfl] at hsm
    by_cases hs:zcj 5 (T 1)=true
    ·rw [hs] at hsm
     replace hs:=Lib.hid hs
     go_wp2_with fail
     refine hsm.mono ?_
     rintro e W4⟨rfl,hb4⟩
     go_wp2_with fail
     go_roundw
     case rel =>
      refine⟨2,by go_num,by omega,hb.trans (hb4.mono hb.size),bx.below hb4 bx.lt,fun j hj=>?_⟩
      rcases Nat.lt_succ_iff_lt_or_eq.1 hj with h | rfl
      ·exact hA.out j h
      ·exact hs.out
     case measure=>simp [toN]
    ·rw [Bool.not_eq_true _ |>.mp hs] at hsm
     have H:=Lib.hid (show decide (zfd T)=false from decide_eq_false fun h=>hs (h 1 (by omega)))
     clear hs
     go_wp2_with fail
     refine hsm.mono ?_
     rintro e W4⟨rfl,hb4⟩
     go_wp2_with fail
     go_ret
     exact⟨by first | (rw [H.out];done) | (rw [H.out];rfl),hb.trans (hb4.mono hb.size)⟩
   ·have rN:RdN S w (.agg #[.slice (a 6) (m 6) (c 6),.slice (a 7) (m 7) (c 7),.slice (a 8) (m 8) (c 8)]) (T 2):=hx 2 (by omega)
    have hsm:=ze3 5 (T 2) wr S _ (by omega) (rN.below hb)
    rw [show (((5:Nat):Int) - 1)=4 from rfl] at hsm
    by_cases hs:zcj 5 (T 2)=true
    ·rw [hs] at hsm
     replace hs:=Lib.hid hs
     go_wp2_with fail
     refine hsm.mono ?_
     rintro e W4⟨rfl,hb4⟩
     go_wp2_with fail
     go_roundw
     case rel =>
      refine⟨3,by go_num,by omega,hb.trans (hb4.mono hb.size),bx.below hb4 bx.lt,fun j hj=>?_⟩
      rcases Nat.lt_succ_iff_lt_or_eq.1 hj with h | rfl
      ·exact hA.out j h
      ·exact hs.out
     case measure=>simp [toN]
    ·rw [Bool.not_eq_true _ |>.mp hs] at hsm
     have H:=Lib.hid (show decide (zfd T)=false from decide_eq_false fun h=>hs (h 2 (by omega)))
     clear hs
     go_wp2_with fail
     refine hsm.mono ?_
     rintro e W4⟨rfl,hb4⟩
     go_wp2_with fail
     go_ret
     exact⟨by first | (rw [H.out];done) | (rw [H.out];rfl),hb.trans (hb4.mono hb.size)⟩
   ·have rN:RdN S w (.agg #[.slice (a 9) (m 9) (c 9),.slice (a 10) (m 10) (c 10),.slice (a 11) (m 11) (c 11)]) (T 3):=hx 3 (by omega)
    have hsm:=ze3 5 (T 3) wr S _ (by omega) (rN.below hb)
    rw [show (((5:Nat):Int) - 1)=4 from rfl] at hsm
    by_cases hs:zcj 5 (T 3)=true
    ·rw [hs] at hsm
     replace hs:=Lib.hid hs
     go_wp2_with fail
     refine hsm.mono ?_
     rintro e W4⟨rfl,hb4⟩
     go_wp2_with fail
     go_roundw
     case rel =>
      refine⟨4,by go_num,by omega,hb.trans (hb4.mono hb.size),bx.below hb4 bx.lt,fun j hj=>?_⟩
      rcases Nat.lt_succ_iff_lt_or_eq.1 hj with h | rfl
      ·exact hA.out j h
      ·exact hs.out
     case measure=>simp [toN]
    ·rw [Bool.not_eq_true _ |>.mp hs] at hsm
     have H:=Lib.hid (show decide (zfd T)=false from decide_eq_false fun h=>hs (h 3 (by omega)))
     clear hs
     go_wp2_with fail
     refine hsm.mono ?_
     rintro e W4⟨rfl,hb4⟩
     go_wp2_with fail
     go_ret
     exact⟨by first | (rw [H.out];done) | (rw [H.out];rfl),hb.trans (hb4.mono hb.size)⟩
  ·obtain rfl:i=4:=by omega
   have H:=Lib.hid (show (decide (zfd T))=true from decide_eq_true fun j hj=>hA.out j hj)
   go_wp2_with fail
   go_ret
   exact⟨by first | (rw [H.out];done) | (rw [H.out];rfl),hb⟩
theorem zhl(xs:List UInt8):(zbk xs).toList=xs:=by simp [zbk]
theorem zhk {a b:List UInt8}:((zbk a).toList==(zbk b).toList)=decide (a=b):=by
 rw [zhl,zhl]
 by_cases e:a=b<;>simp [e]
theorem zoz {α:Type} {l m:List α} {i:Nat} (h1:i<l.length) (h2:i<m.length) (h:l.take i=m.take i) (e:l[i]=m[i]):l.take (i+1)=m.take (i+1):=by
 rw [List.take_succ_eq_append_getElem h1,List.take_succ_eq_append_getElem h2,h,e]
theorem zql (w:World) {S S2:Nat→Prop} {a a2:Option Addr} {n cx n2 cy:Nat} {l m:List Pq} (hl:RdL Elt.pq S w (.slice a n cx) l) (hm:RdL Elt.pq S2 w (.slice a2 n2 cy) m) :
  Calls Tryz.prog 18 #[.slice a n cx,.slice a2 n2 cy] w fun e w'=>e=.returned (.bool (decide (l=m)))∧Below w.heap.size w w':=by
 obtain⟨rfl,hnc,hcm⟩:=hl.len
 obtain⟨rfl,hnc2,hcm2⟩:=hm.len
 have hlm:l.length≤9223372036854775807:=by unfold maxLen at hcm;omega
 have q:=Below.refl w.heap.size w
 by_cases hlen:l.length=m.length
 case neg =>
  have d:((l.length:Int)==(m.length:Int))=false:=beq_eq_false_iff_ne.2 (by omega)
  have d2:(l.length==m.length)=false:=beq_eq_false_iff_ne.2 hlen
  have d3:((l.length:Int) != (m.length:Int))=true:=bne_iff_ne.2 (by omega)
  have H:=Lib.hid (show decide (l=m)=false from decide_eq_false fun h=>hlen (by rw [h]))
  clear hlen
  go_enter Tryz.func18,Tryz.ntmps18
  go_wp2_with fail
  go_ret
  exact⟨by rw [H.out];rfl,q⟩
 case pos =>
 have d:((l.length:Int)==(m.length:Int))=true:=beq_iff_eq.2 (by omega)
 have d2:(l.length==m.length)=true:=beq_iff_eq.2 hlen
 have d3:((l.length:Int) != (m.length:Int))=false:=bne_eq_false_iff_eq.2 (by omega)
 have hle:l.length≤m.length:=by omega
 replace hlen:=Lib.hid hlen
 go_enter Tryz.func18,Tryz.ntmps18
 go_upto_region 4 with (fail)
 go_loopw [5] (fun iv wr=>∃ i:Nat,iv=.int .i64 i∧i≤l.length∧l.take i=m.take i∧Below w.heap.size w wr) (fun i _=>l.length - (intOf i).toNat)
 case atStart=>exact⟨0,rfl,Nat.zero_le _,by simp,q⟩
 case round =>
  clear q
  obtain⟨i,rfl,hil,hno,q⟩:=hrel
  rcases Nat.lt_or_ge i l.length with hlt | hge
  ·have hlt2:i<m.length:=Nat.lt_of_lt_of_le hlt hle
   obtain⟨b,off,A,C,A2,C2,rfl,hb,g0,g1,hk1,hk2⟩:=(hl.below q).pq i hlt
   obtain⟨b',off',A',C',A2',C2',rfl,hb',f0,f1,hk3,hk4⟩:=(hm.below q).pq i hlt2
   have r1:=hk1.rd
   have r2:=hk2.rd
   have r3:=hk3.rd
   have r4:=hk4.rd
   clear hb hb'
   by_cases e0:l[i].key=m[i].key
   ·by_cases e1:l[i].val=m[i].val
    ·have H:=Lib.hid (zoz hlt hlt2 hno (by cases h1:l[i];cases h2:m[i];rw [h1,h2] at e0 e1;simp_all))
     have d0:((zbk l[i].key).toList==(zbk m[i].key).toList)=true:=zhk.trans (decide_eq_true e0)
     have d1:((zbk l[i].val).toList==(zbk m[i].val).toList)=true:=zhk.trans (decide_eq_true e1)
     clear hno e0 e1
     go_upto_region 6 with (fail)
     refine wp_region_quiet_lit (by kernel_rfl) (by kernel_rfl) ?_
     repeat (first | go_big_quiet_step (fail) | (go_big_quiet_want;refine zar byP rfl rfl r1 ?_;go_big_quiet_on;go_simp) | (go_big_quiet_want;refine zar byP rfl rfl r2 ?_;go_big_quiet_on;go_simp) | (go_big_quiet_want;refine zar byP rfl rfl r3 ?_;go_big_quiet_on;go_simp) | (go_big_quiet_want;refine zar byP rfl rfl r4 ?_;go_big_quiet_on;go_simp))
     first | (refine wpQuiet_nil ?_;intro _ hw';obtain⟨nq,hw''⟩:=hw';subst hw'') | intro nq
     go_wp2_with fail
     go_roundw
     case rel=>exact⟨i+1,by go_num,by omega,H.out,Below.drewN q _⟩
     case measure=>simp [intOf];omega
    ·have H:=Lib.hid (show decide (l=m)=false from decide_eq_false fun h=>e1 (by subst h;rfl))
     have d0:((zbk l[i].key).toList==(zbk m[i].key).toList)=true:=zhk.trans (decide_eq_true e0)
     have d1:((zbk l[i].val).toList==(zbk m[i].val).toList)=false:=zhk.trans (decide_eq_false e1)
     clear hno e0 e1
     go_upto_region 6 with (fail)
     refine wp_region_quiet_lit (by kernel_rfl) (by kernel_rfl) ?_
     repeat (first | go_big_quiet_step (fail) | (go_big_quiet_want;refine zar byP rfl rfl r1 ?_;go_big_quiet_on;go_simp) | (go_big_quiet_want;refine zar byP rfl rfl r2 ?_;go_big_quiet_on;go_simp) | (go_big_quiet_want;refine zar byP rfl rfl r3 ?_;go_big_quiet_on;go_simp) | (go_big_quiet_want;refine zar byP rfl rfl r4 ?_;go_big_quiet_on;go_simp))
     first | (refine wpQuiet_nil ?_;intro _ hw';obtain⟨nq,hw''⟩:=hw';subst hw'') | intro nq
     go_wp2_with fail
     go_ret
     exact⟨by rw [H.out];rfl,Below.drewN q _⟩
   ·have H:=Lib.hid (show decide (l=m)=false from decide_eq_false fun h=>e0 (by subst h;rfl))
    have d0:((zbk l[i].key).toList==(zbk m[i].key).toList)=false:=zhk.trans (decide_eq_false e0)
    clear hno e0
    go_upto_region 6 with (fail)
    refine wp_region_quiet_lit (by kernel_rfl) (by kernel_rfl) ?_
    repeat (first | go_big_quiet_step (fail) | (go_big_quiet_want;refine zar byP rfl rfl r1 ?_;go_big_quiet_on;go_simp) | (go_big_quiet_want;refine zar byP rfl rfl r2 ?_;go_big_quiet_on;go_simp) | (go_big_quiet_want;refine zar byP rfl rfl r3 ?_;go_big_quiet_on;go_simp) | (go_big_quiet_want;refine zar byP rfl rfl r4 ?_;go_big_quiet_on;go_simp))
    first | (refine wpQuiet_nil ?_;intro _ hw';obtain⟨nq,hw''⟩:=hw';subst hw'') | intro nq
    go_wp2_with fail
    go_ret
    exact⟨by rw [H.out];rfl,Below.drewN q _⟩
  ·obtain rfl:i=l.length:=by omega
   have H:=Lib.hid (show decide (l=m)=true from decide_eq_true (by rw [List.take_length,hlen.out,List.take_length] at hno;exact hno))
   clear hno
   go_wp2_with fail
   go_ret
   exact⟨by rw [H.out];rfl,q⟩
def fewW(l:List Wr):Prop:=l.length≤20∧∀ x∈l,x.key.length≤100∧x.val.length≤100
instance (l:List Wr):Decidable (fewW l):=by unfold fewW;exact inferInstance
def shS(x:Sp):Prop:=x.lo.length≤100∧x.hi.length≤100
instance (x:Sp):Decidable (shS x):=by unfold shS;exact inferInstance
theorem zo3 (w : World) {S : Nat → Prop} {v : Value} {x : Sp} (h : RdSp S w v x) :
  Calls Tryz.prog 13 #[v] w fun e w' => e = .returned (.bool (decide (shS x))) ∧ Below w.heap.size w w' := by
 obtain ⟨a1,a2,a3,a4,rfl,hl,hh,ht⟩ := h
 obtain ⟨W,hW⟩ : ∃ W,W = w.alloc (.cells #[.int .i64 x.table,.slice a1 x.lo.length a2,.slice a3 x.hi.length a4,.bool x.isOpen] 32) := ⟨_,rfl⟩
 have q : Below w.heap.size w W := by rw [hW]; exact (Below.refl _ _).alloc (Nat.le_refl _) _
 have Bx : BoxN W w.heap.size 32 [.int .i64 x.table,.slice a1 x.lo.length a2,.slice a3 x.hi.length a4,.bool x.isOpen] := by rw [hW]; exact BoxN.new _ _ _
 have hm1 : x.lo.length ≤ 9223372036854775807 := by have := hl.len; unfold maxLen at this; omega
 have hm2 : x.hi.length ≤ 9223372036854775807 := by have := hh.len; unfold maxLen at this; omega
 go_enter Tryz.func13,Tryz.ntmps13
 go_upto_region 1 with (fail)
 rw [← hW]
 clear hW
 have cx1 := Bx.cell (i := 1) rfl
 have cx2 := Bx.cell (i := 2) rfl
 by_cases h1 : x.lo.length ≤ 100
 ·have d1 : decide ((x.lo.length : Int) ≤ 100) = true := by simp; omega
  by_cases h2 : x.hi.length ≤ 100
  ·have d2 : decide ((x.hi.length : Int) ≤ 100) = true := by simp; omega
   have H := Lib.hid (show decide (shS x) = true from decide_eq_true ⟨h1,h2⟩)
   clear h1 h2
   go_wp2_with fail
   go_ret
   exact ⟨by first | (rw [H.out]; done) | (rw [H.out]; rfl),q⟩
  ·have d2 : decide ((x.hi.length : Int) ≤ 100) = false := by simp; omega
   have H := Lib.hid (show decide (shS x) = false from decide_eq_false fun h => h2 h.2)
   clear h1 h2
   go_wp2_with fail
   go_ret
   exact ⟨by first | (rw [H.out]; done) | (rw [H.out]; rfl),q⟩
 ·have d1 : decide ((x.lo.length : Int) ≤ 100) = false := by simp; omega
  have H := Lib.hid (show decide (shS x) = false from decide_eq_false fun h => h1 h.1)
  clear h1
  go_wp2_with fail
  go_ret
  exact ⟨by first | (rw [H.out]; done) | (rw [H.out]; rfl),q⟩
theorem zde {T:Sto} (h:zfd T):fitS T:=fun j hj=>zo2 (h j hj)
theorem zlg {T : Sto} (h : okS T) (t : Int) : zdo T t = if 0 ≤ t ∧ t < 4 then tabS T t.toNat else [] := by
 unfold zdo
 by_cases h1 : 0 ≤ t ∧ t < 4
 ·rw [if_pos ⟨h1.1,h1.2,h⟩,if_pos h1]; rfl
 ·rw [if_neg fun h2 => h1 ⟨h2.1,h2.2.1⟩,if_neg h1]
theorem zir (p:Pr) (l:List Pr) (x:Sp) (s:Int):zgd (p::l) x s=(zmn x s p).toList++zgd l x s:=by
 unfold zgd
 rw [List.filterMap_cons]
 cases zmn x s p<;>rfl
theorem zfp (p:Pr) (l:List Pr) (o:Int):vacP (p::l) o=if vacV p.chain o=[] then vacP l o else⟨p.key,vacV p.chain o⟩::vacP l o:=by
 unfold vacP
 rw [List.filterMap_cons]
 by_cases h:vacV p.chain o=[]
 ·rw [if_pos h,if_pos h]
 ·rw [if_neg h,if_neg h]
theorem zin {o:Int}:∀ {l:List Pr},(∀ p∈l,okV p.chain)→vacP (vacP l o) o=vacP l o
 | [],_=>rfl
 | p::r,h=>by
  have ih:=zin (o:=o) (l:=r) fun q hq=>h q (by simp [hq])
  rw [zfp]
  by_cases h0:vacV p.chain o=[]
  ·rw [if_pos h0,ih]
  ·rw [if_neg h0,zfp]
   have h1:=(zmg (h p (by simp)) o).1
   rw [h1,if_neg h0,ih]
theorem zks {o s:Int} (hos:o≤s) (x:Sp):∀ {l:List Pr},(∀ p∈l,okV p.chain)→zgd (vacP l o) x s=zgd l x s
 | [],_=>rfl
 | p::r,h=>by
  have ih:=zks hos x (l:=r) fun q hq=>h q (by simp [hq])
  have h1:=((zmg (h p (by simp)) o).2.2 s hos).1
  rw [zfp,zir p r]
  by_cases h0:vacV p.chain o=[]
  ·rw [if_pos h0,ih]
   rw [h0,zle] at h1
   have:zmn x s p=none:=by unfold zmn;rw [← h1];split<;>rfl
   rw [this]
   rfl
  ·rw [if_neg h0,zir,ih]
   congr 2
   unfold zmn
   rw [h1]
theorem zlm (p:Pr) (l:List Pr) (x:Sp) (s:Int):newP (p::l) x s=((inS x p.key&&zcr p.chain s)||newP l x s):=rfl
theorem znq {o s:Int} (hos:o≤s) (x:Sp):∀ {l:List Pr},(∀ p∈l,okV p.chain)→newP (vacP l o) x s=newP l x s
 | [],_=>rfl
 | p::r,h=>by
  have ih:=znq hos x (l:=r) fun q hq=>h q (by simp [hq])
  have h1:=((zmg (h p (by simp)) o).2.2 s hos).2
  rw [zfp,zlm p r]
  by_cases h0:vacV p.chain o=[]
  ·rw [if_pos h0,ih]
   rw [h0,ziz] at h1
   rw [← h1]
   simp
  ·rw [if_neg h0,zlm,ih]
   simp only [h1]
theorem zmh {T:Sto} {j:Nat}(h:okS T)(hj:j<4):∀ p∈tabS T j,okV p.chain:=fun p hp=>by
 have h1:=(h j hj).1
 unfold tabS prN at hp
 rw [if_pos h1] at hp
 exact(((zco _).1 h1.2).1 p hp).1
theorem zp0 {T A B:Sto} {o:Int} (hk:okS T) (hf:fitS T) (hA:VacT o T A) (hB:VacT o A B):okS A∧fitS A∧fitS B∧(∀ j,j<4→tabS A j=tabS B j)∧∀ (x:Sp) (s:Int),o≤s→zgd (zdo A x.table) x s=zgd (zdo T x.table) x s∧newP (zdo A x.table) x s=newP (zdo T x.table) x s:=by
 obtain⟨a1,a2,a3⟩:=hA.facts hk hf
 obtain⟨b1,b2,b3⟩:=hB.facts a1 a2
 have ta:∀ j,j<4→tabS A j=vacP (tabS T j) o:=fun j hj=>by
  rw [← (a3 j hj).2]
  unfold tabS prN
  rw [if_pos (a3 j hj).1]
 refine⟨a1,a2,b2,fun j hj=>?_,fun x s hos=>?_⟩
 ·have e:tabS B j=vacP (tabS A j) o:=by
   rw [← (b3 j hj).2]
   conv=>lhs;unfold tabS prN
   rw [if_pos (b3 j hj).1]
  rw [e,ta j hj,zin (zmh hk hj)]
 ·rw [zlg a1,zlg hk]
  by_cases ht:0≤x.table∧x.table<4
  ·rw [if_pos ht,if_pos ht,ta _ (by omega)]
   exact⟨zks hos x (zmh hk (by omega)),znq hos x (zmh hk (by omega))⟩
  ·rw [if_neg ht,if_neg ht]
   exact⟨rfl,rfl⟩
theorem ver_eq {x y:Ver}:x=y↔x.stamp=y.stamp∧x.gone=y.gone∧x.value=y.value:=by cases x;cases y;simp
theorem zoy {α:Type} {l m:List α} {i:Nat} (h1:i<l.length) (h2:i<m.length) (h:l.take i=m.take i) (e:l[i]=m[i]):l.take (i+1)=m.take (i+1):=by
 rw [List.take_succ_eq_append_getElem h1,List.take_succ_eq_append_getElem h2,h,e]
theorem zp9 {a b:List UInt8}:((zbk a).toList==(zbk b).toList)=decide (a=b):=by
 rw [show (zbk a).toList=a by simp [zbk],show (zbk b).toList=b by simp [zbk]]
 by_cases h:a=b
 ·rw [h];simp
 ·rw [decide_eq_false h];exact beq_eq_false_iff_ne.2 h
theorem zqg (w : World) {S S' : Nat → Prop} {a a' : Option Addr} {n c n' c' : Nat} {l m : List Ver} (hl : RdL Elt.ver S w (.slice a n c) l) (hm : RdL Elt.ver S' w (.slice a' n' c') m) :
  Calls Tryz.prog 70 #[.slice a n c,.slice a' n' c'] w fun e w' => e = .returned (.bool (decide (l = m))) ∧ Below w.heap.size w w' := by
 obtain ⟨rfl,hnc,hcm⟩ := hl.len
 obtain ⟨rfl,hnc2,hcm2⟩ := hm.len
 have hlm : l.length ≤ 9223372036854775807 := by unfold maxLen at hcm; omega
 have q := Below.refl w.heap.size w
 by_cases hlen : l.length = m.length
 case neg =>
  have d : ((l.length : Int) == (m.length : Int)) = false := beq_eq_false_iff_ne.2 (by omega)
  have d2 : (l.length == m.length) = false := beq_eq_false_iff_ne.2 hlen
  have d3 : ((l.length : Int) != (m.length : Int)) = true := bne_iff_ne.2 (by omega)
  have H := Lib.hid (show decide (l = m) = false from decide_eq_false fun h => hlen (by rw [h]))
  clear hlen
  go_enter Tryz.func70,Tryz.ntmps70
  go_wp2_with fail
  go_ret
  exact ⟨by rw [H.out]; rfl,q⟩
 case pos =>
 have d : ((l.length : Int) == (m.length : Int)) = true := beq_iff_eq.2 (by omega)
 have d2 : (l.length == m.length) = true := beq_iff_eq.2 hlen
 have d3 : ((l.length : Int) != (m.length : Int)) = false := bne_eq_false_iff_eq.2 (by omega)
 have hle : l.length ≤ m.length := by omega
 replace hlen := Lib.hid hlen
 go_enter Tryz.func70,Tryz.ntmps70
 go_upto_region 4 with (fail)
 go_loopw [5] (fun iv wr => ∃ i : Nat,iv = .int .i64 i ∧ i ≤ l.length ∧ l.take i = m.take i ∧ Below w.heap.size w wr) (fun i _ => l.length - (intOf i).toNat)
 case atStart => exact ⟨0,rfl,Nat.zero_le _,by simp,q⟩
 case round =>
  clear q
  obtain ⟨i,rfl,hil,hno,q⟩ := hrel
  rcases Nat.lt_or_ge i l.length with hlt | hge
  ·have hlt2 : i < m.length := Nat.lt_of_lt_of_le hlt hle
   obtain ⟨b,off,A,C,rfl,hb,g0,g1,g2,hk1,_,hc1,_⟩ := (hl.below q).ver i hlt
   obtain ⟨b',off',A',C',rfl,hb',f0,f1,f2,hk3,_,hc2,_⟩ := (hm.below q).ver i hlt2
   have r1 := hk1.rd
   have r2 := hk3.rd
   clear hb hb' hc1 hc2
   by_cases e0 : l[i].stamp = m[i].stamp
   ·have y0 : (l[i].stamp == m[i].stamp) = true := beq_iff_eq.2 e0
    have y1 : (l[i].stamp != m[i].stamp) = false := bne_eq_false_iff_eq.2 e0
    by_cases e1 : l[i].gone = m[i].gone
    ·have y2 : (l[i].gone == m[i].gone) = true := beq_iff_eq.2 e1
     have y3 : (l[i].gone != m[i].gone) = false := bne_eq_false_iff_eq.2 e1
     by_cases e2 : l[i].value = m[i].value
     ·have H := Lib.hid (zoy hlt hlt2 hno (ver_eq.2 ⟨e0,e1,e2⟩))
      have y4 : ((zbk l[i].value).toList == (zbk m[i].value).toList) = true := zp9.trans (decide_eq_true e2)
      clear hno e0 e1 e2
      go_upto_region 6 with (fail)
      refine wp_region_quiet_lit (by kernel_rfl) (by kernel_rfl) ?_
      repeat (first | go_big_quiet_step (fail) | (go_big_quiet_want; refine zar byP rfl rfl r1 ?_; go_big_quiet_on; go_simp) | (go_big_quiet_want; refine zar byP rfl rfl r2 ?_; go_big_quiet_on; go_simp))
      first | (refine wpQuiet_nil ?_; intro _ hw'; obtain ⟨nq,hw''⟩ := hw'; subst hw'') | intro nq
      go_wp2_with fail
      go_roundw
      case rel => exact ⟨i + 1,by go_num,by omega,H.out,Below.drewN q _⟩
      case measure => simp [intOf]; omega
     ·have H := Lib.hid (show decide (l = m) = false from decide_eq_false fun h => e2 (by subst h; rfl))
      have y4 : ((zbk l[i].value).toList == (zbk m[i].value).toList) = false := zp9.trans (decide_eq_false e2)
      clear hno e0 e1 e2
      go_upto_region 6 with (fail)
      refine wp_region_quiet_lit (by kernel_rfl) (by kernel_rfl) ?_
      repeat (first | go_big_quiet_step (fail) | (go_big_quiet_want; refine zar byP rfl rfl r1 ?_; go_big_quiet_on; go_simp) | (go_big_quiet_want; refine zar byP rfl rfl r2 ?_; go_big_quiet_on; go_simp))
      first | (refine wpQuiet_nil ?_; intro _ hw'; obtain ⟨nq,hw''⟩ := hw'; subst hw'') | intro nq
      go_wp2_with fail
      go_ret
      exact ⟨by rw [H.out]; rfl,Below.drewN q _⟩
    ·have H := Lib.hid (show decide (l = m) = false from decide_eq_false fun h => e1 (by subst h; rfl))
     have y2 : (l[i].gone == m[i].gone) = false := beq_eq_false_iff_ne.2 e1
     have y3 : (l[i].gone != m[i].gone) = true := bne_iff_ne.2 e1
     clear hno e0 e1
     go_upto_region 6 with (fail)
     refine wp_region_quiet_lit (by kernel_rfl) (by kernel_rfl) ?_
     repeat (first | go_big_quiet_step (fail) | (go_big_quiet_want; refine zar byP rfl rfl r1 ?_; go_big_quiet_on; go_simp) | (go_big_quiet_want; refine zar byP rfl rfl r2 ?_; go_big_quiet_on; go_simp))
     first | (refine wpQuiet_nil ?_; intro _ hw'; obtain ⟨nq,hw''⟩ := hw'; subst hw'') | intro nq
     go_wp2_with fail
     go_ret
     exact ⟨by rw [H.out]; rfl,Below.drewN q _⟩
   ·have H := Lib.hid (show decide (l = m) = false from decide_eq_false fun h => e0 (by subst h; rfl))
    have y0 : (l[i].stamp == m[i].stamp) = false := beq_eq_false_iff_ne.2 e0
    have y1 : (l[i].stamp != m[i].stamp) = true := bne_iff_ne.2 e0
    clear hno e0
    go_upto_region 6 with (fail)
    refine wp_region_quiet_lit (by kernel_rfl) (by kernel_rfl) ?_
    repeat (first | go_big_quiet_step (fail) | (go_big_quiet_want; refine zar byP rfl rfl r1 ?_; go_big_quiet_on; go_simp) | (go_big_quiet_want; refine zar byP rfl rfl r2 ?_; go_big_quiet_on; go_simp))
    first | (refine wpQuiet_nil ?_; intro _ hw'; obtain ⟨nq,hw''⟩ := hw'; subst hw'') | intro nq
    go_wp2_with fail
    go_ret
    exact ⟨by rw [H.out]; rfl,Below.drewN q _⟩
  ·obtain rfl : i = l.length := by omega
   have H := Lib.hid (show decide (l = m) = true from decide_eq_true (by rw [List.take_length,hlen.out,List.take_length] at hno; exact hno))
   clear hno
   go_wp2_with fail
   go_ret
   exact ⟨by rw [H.out]; rfl,q⟩
theorem pr_eq {x y:Pr}:x=y↔x.key=y.key∧x.chain=y.chain:=by cases x;cases y;simp
theorem zqh (w : World) {S S' : Nat → Prop} {a a' : Option Addr} {n c n' c' : Nat} {l m : List Pr} (hl : RdL Elt.pair S w (.slice a n c) l) (hm : RdL Elt.pair S' w (.slice a' n' c') m) :
  Calls Tryz.prog 50 #[.slice a n c,.slice a' n' c'] w fun e w' => e = .returned (.bool (decide (l = m))) ∧ Below w.heap.size w w' := by
 obtain ⟨rfl,hnc,hcm⟩ := hl.len
 obtain ⟨rfl,hnc',hcm'⟩ := hm.len
 have hlm : l.length ≤ 9223372036854775807 := by unfold maxLen at hcm; omega
 have hlm' : m.length ≤ 9223372036854775807 := by unfold maxLen at hcm'; omega
 have q := Below.refl w.heap.size w
 by_cases hln : l.length = m.length
 ·have d : ((l.length : Int) != (m.length : Int)) = false := by rw [bne_eq_false_iff_eq]; omega
  go_enter Tryz.func50,Tryz.ntmps50
  go_upto_region 4 with (fail)
  clear d
  have HLN := Lib.hid hln
  clear hln
  go_loopw [5] (fun iv wr => ∃ k : Nat,iv = .int .i64 k ∧ k ≤ l.length ∧ (∀ r (h : r < l.length),r < k → m[r]? = some l[r]) ∧ Below w.heap.size w wr) (fun i _ => l.length - (intOf i).toNat)
  case atStart => exact ⟨0,rfl,Nat.zero_le _,fun r _ h => by omega,q⟩
  case round =>
   clear q
   obtain ⟨k,rfl,hkl,hsm,q⟩ := hrel
   rcases Nat.lt_or_ge k l.length with hlt | hge
   ·have hltm : k < m.length := by have := HLN.out; omega
    obtain ⟨b,off,Ak,C,B,D,rfl,c0,c1,hky,hcc⟩ := (hl.below q).pr k hlt
    obtain ⟨b',off',Ak',C',B',D',rfl,c0',c1',hky',hcc'⟩ := (hm.below q).pr k hltm
    have hne : l[k] ≠ m[k] → decide (l = m) = false := fun h => decide_eq_false (fun e => by subst e; exact h rfl)
    have hsn : l[k] = m[k] → ∀ r (h : r < l.length),r < k + 1 → m[r]? = some l[r] := fun h r hr h2 => by
     rcases Nat.lt_or_ge r k with h4 | h4
     ·exact hsm r hr h4
     ·obtain rfl : r = k := by omega
      rw [List.getElem?_eq_getElem hltm,h]
    obtain ⟨x,ex⟩ : ∃ x,x = l[k] := ⟨_,rfl⟩
    obtain ⟨y,ey⟩ : ∃ y,y = m[k] := ⟨_,rfl⟩
    rw [← ex] at c0 c1 hky hcc hne hsn
    rw [← ey] at c0' c1' hky' hcc' hne hsn
    have HEX := Lib.hid ex
    have HEY := Lib.hid ey
    clear ex ey hsm
    go_upto_region 6 with (fail)
    refine zbu (by kernel_rfl) (by kernel_rfl) [sgEq (.slice (some ⟨b,off,none⟩) l.length c),sgEq (.int .i64 k),sgEq (.pointer (some ⟨b,off + k * 2,none⟩)),sgEq (.pointer (some ⟨b,off + k * 2 + 1,none⟩)),sgEq (.slice B x.chain.length D),sgEq (.slice (some ⟨b',off',none⟩) m.length c'),sgEq (.int .i64 k),sgEq (.pointer (some ⟨b',off' + k * 2,none⟩)),sgEq (.pointer (some ⟨b',off' + k * 2 + 1,none⟩)),sgEq (.slice B' y.chain.length D'),sgEq (.bool (decide (x.chain = y.chain))),sgEq (.bool (decide (x.chain = y.chain)))]
     ⟨?o0,?o1,?o2,?o3,?o4,?o5,?o6,?o7,?o8,?o9,?o10,?o11,trivial⟩ ?fin
    case o0 =>
     refine GdOp.plain rfl (fun A vs w' hF hT hb hd => ?_)
     have e1 : A.eval (.tmp 0) = .slice (some ⟨b,off,none⟩) l.length c := hF 0 rfl
     exact BigFrame.wp_move _ rfl ⟨_,rfl,e1,Below.refl _ _⟩
    case o1 =>
     refine GdOp.plain rfl (fun A vs w' hF hT hb hd => ?_)
     have e1 : A.eval (.tmp 5) = .int .i64 k := hF 5 rfl
     exact BigFrame.wp_move _ rfl ⟨_,rfl,e1,Below.refl _ _⟩
    case o2 =>
     refine GdOp.plain rfl (fun A vs w' hF hT hb hd => ?_)
     have e1 : A.eval (.tmp 18) = .slice (some ⟨b,off,none⟩) l.length c := (hT 18 0 (by simp) rfl).trans (hd ⟨0,.data⟩ (by simp) rfl)
     have e2 : A.eval (.tmp 19) = .int .i64 k := (hT 19 1 (by simp) rfl).trans (hd ⟨1,.data⟩ (by simp) rfl)
     exact zc1 (e := 77) rfl (by kernel_rfl) (by kernel_rfl) (e1) (e2) rfl (by omega) ⟨_,rfl,rfl,Below.refl _ _⟩
    case o3 =>
     refine GdOp.plain rfl (fun A vs w' hF hT hb hd => ?_)
     have e1 : A.eval (.tmp 20) = .pointer (some ⟨b,off + k * 2,none⟩) := (hT 20 2 (by simp) rfl).trans (hd ⟨2,.data⟩ (by simp) rfl)
     exact zai prS rfl (e1) (by omega) ⟨_,rfl,rfl,Below.refl _ _⟩
    case o4 =>
     refine GdOp.plain rfl (fun A vs w' hF hT hb hd => ?_)
     have e1 : A.eval (.tmp 21) = .pointer (some ⟨b,off + k * 2 + 1,none⟩) := (hT 21 3 (by simp) rfl).trans (hd ⟨3,.data⟩ (by simp) rfl)
     exact zad (e := 87) rfl e1 (by kernel_rfl) (((hb.cell (p := ⟨b,off + k * 2 + 1,none⟩) (zaj c1)).trans c1)) ⟨_,rfl,rfl,Below.refl _ _⟩
    case o5 =>
     refine GdOp.plain rfl (fun A vs w' hF hT hb hd => ?_)
     have e1 : A.eval (.tmp 1) = .slice (some ⟨b',off',none⟩) m.length c' := hF 1 rfl
     exact BigFrame.wp_move _ rfl ⟨_,rfl,e1,Below.refl _ _⟩
    case o6 =>
     refine GdOp.plain rfl (fun A vs w' hF hT hb hd => ?_)
     have e1 : A.eval (.tmp 5) = .int .i64 k := hF 5 rfl
     exact BigFrame.wp_move _ rfl ⟨_,rfl,e1,Below.refl _ _⟩
    case o7 =>
     refine GdOp.plain rfl (fun A vs w' hF hT hb hd => ?_)
     have e1 : A.eval (.tmp 23) = .slice (some ⟨b',off',none⟩) m.length c' := (hT 23 5 (by simp) rfl).trans (hd ⟨5,.data⟩ (by simp) rfl)
     have e2 : A.eval (.tmp 24) = .int .i64 k := (hT 24 6 (by simp) rfl).trans (hd ⟨6,.data⟩ (by simp) rfl)
     exact zc1 (e := 77) rfl (by kernel_rfl) (by kernel_rfl) (e1) (e2) rfl (by omega) ⟨_,rfl,rfl,Below.refl _ _⟩
    case o8 =>
     refine GdOp.plain rfl (fun A vs w' hF hT hb hd => ?_)
     have e1 : A.eval (.tmp 25) = .pointer (some ⟨b',off' + k * 2,none⟩) := (hT 25 7 (by simp) rfl).trans (hd ⟨7,.data⟩ (by simp) rfl)
     exact zai prS rfl (e1) (by omega) ⟨_,rfl,rfl,Below.refl _ _⟩
    case o9 =>
     refine GdOp.plain rfl (fun A vs w' hF hT hb hd => ?_)
     have e1 : A.eval (.tmp 26) = .pointer (some ⟨b',off' + k * 2 + 1,none⟩) := (hT 26 8 (by simp) rfl).trans (hd ⟨8,.data⟩ (by simp) rfl)
     exact zad (e := 87) rfl e1 (by kernel_rfl) (((hb.cell (p := ⟨b',off' + k * 2 + 1,none⟩) (zaj c1')).trans c1')) ⟨_,rfl,rfl,Below.refl _ _⟩
    case o10 =>
     refine GdOp.plain rfl (fun A vs w' hF hT hb hd => ?_)
     have e1 : A.eval (.tmp 22) = .slice B x.chain.length D := (hT 22 4 (by simp) rfl).trans (hd ⟨4,.data⟩ (by simp) rfl)
     have e2 : A.eval (.tmp 27) = .slice B' y.chain.length D' := (hT 27 9 (by simp) rfl).trans (hd ⟨9,.data⟩ (by simp) rfl)
     refine zak rfl (enters_of Tryz.func70 (by kernel_rfl) rfl) (args := #[.slice B x.chain.length D,.slice B' y.chain.length D']) (by simp [e1,e2]) ((zqg w' (hcc.below hb) (hcc'.below hb)).mono ?_)
     rintro e w2 ⟨rfl,hb2⟩
     exact ⟨_,rfl,_,rfl,rfl,hb2⟩
    case o11 =>
     refine GdOp.plain rfl (fun A vs w' hF hT hb hd => ?_)
     have e1 : A.eval (.tmp 28) = .bool (decide (x.chain = y.chain)) := (hT 28 10 (by simp) rfl).trans (hd ⟨10,.data⟩ (by simp) rfl)
     exact BigFrame.wp_assign _ rfl ⟨_,rfl,e1,Below.refl _ _⟩
    case fin =>
     intro vs w' hb hG
     have e0 : vs 0 = .slice (some ⟨b,off,none⟩) l.length c := hG 0 (by decide)
     have e1 : vs 1 = .int .i64 k := hG 1 (by decide)
     have e2 : vs 2 = .pointer (some ⟨b,off + k * 2,none⟩) := hG 2 (by decide)
     have e3 : vs 3 = .pointer (some ⟨b,off + k * 2 + 1,none⟩) := hG 3 (by decide)
     have e4 : vs 4 = .slice B x.chain.length D := hG 4 (by decide)
     have e5 : vs 5 = .slice (some ⟨b',off',none⟩) m.length c' := hG 5 (by decide)
     have e6 : vs 6 = .int .i64 k := hG 6 (by decide)
     have e7 : vs 7 = .pointer (some ⟨b',off' + k * 2,none⟩) := hG 7 (by decide)
     have e8 : vs 8 = .pointer (some ⟨b',off' + k * 2 + 1,none⟩) := hG 8 (by decide)
     have e9 : vs 9 = .slice B' y.chain.length D' := hG 9 (by decide)
     have e10 : vs 10 = .bool (decide (x.chain = y.chain)) := hG 10 (by decide)
     have e11 : vs 11 = .bool (decide (x.chain = y.chain)) := hG 11 (by decide)
     simp only [zae,e0,e1,e2,e3,e4,e5,e6,e7,e8,e9,e10,e11]
     clear hG e0 e1 e2 e3 e4 e5 e6 e7 e8 e9 e10 e11
     go_simp
     replace q := q.trans (hb.mono q.size)
     clear hb c0 c1 hky hcc c0' c1' hky' hcc'
     have hop := (hl.below q).pr k hlt
     rw [← HEX.out] at hop
     obtain ⟨bx,offx,Ak,C,B,D,e',c0,c1,hky,hcc⟩ := hop
     injection e' with e'; injection e' with e1 e2; subst e1; subst e2
     have hop := (hm.below q).pr k hltm
     rw [← HEY.out] at hop
     obtain ⟨bx,offx,Ak',C',B',D',e',c0',c1',hky',hcc'⟩ := hop
     injection e' with e'; injection e' with e1 e2; subst e1; subst e2
     have hk2 := hky.rd
     have hk2' := hky'.rd
     by_cases h1 : x.chain = y.chain
     ·rw [decide_eq_true h1]
      by_cases h2 : x.key = y.key
      ·have H := Lib.hid (hsn (pr_eq.2 ⟨h2,h1⟩))
       have de : ((zbk x.key).toList == (zbk y.key).toList) = true := str_eq.trans (decide_eq_true h2)
       clear hne hsn h1 h2
       go_upto_region 7 with (fail)
       refine wp_region_quiet_lit (by kernel_rfl) (by kernel_rfl) ?_
       repeat (first | go_big_quiet_step (fail) | (go_big_quiet_want; refine zar byP rfl rfl hk2 ?_; go_big_quiet_on; go_simp) | (go_big_quiet_want; refine zar byP rfl rfl hk2' ?_; go_big_quiet_on; go_simp))
       first | (refine wpQuiet_nil ?_; intro _ hw'; obtain ⟨nq,hw''⟩ := hw'; subst hw'') | intro nq
       go_wp2_with fail
       go_roundw
       case rel => exact ⟨k + 1,by go_num,by omega,H.out,Below.drewN q _⟩
       case measure => simp [intOf]; omega
      ·have H := Lib.hid (hne (fun e => h2 (by rw [e])))
       have de : ((zbk x.key).toList == (zbk y.key).toList) = false := str_eq.trans (decide_eq_false h2)
       clear hne hsn h1 h2
       go_upto_region 7 with (fail)
       refine wp_region_quiet_lit (by kernel_rfl) (by kernel_rfl) ?_
       repeat (first | go_big_quiet_step (fail) | (go_big_quiet_want; refine zar byP rfl rfl hk2 ?_; go_big_quiet_on; go_simp) | (go_big_quiet_want; refine zar byP rfl rfl hk2' ?_; go_big_quiet_on; go_simp))
       first | (refine wpQuiet_nil ?_; intro _ hw'; obtain ⟨nq,hw''⟩ := hw'; subst hw'') | intro nq
       go_wp2_with fail
       go_ret
       exact ⟨by rw [H.out]; rfl,Below.drewN q _⟩
     ·rw [decide_eq_false h1]
      have H := Lib.hid (hne (fun e => h1 (by rw [e])))
      clear hne hsn h1
      go_upto_region 7 with (fail)
      refine wp_region_quiet_lit (by kernel_rfl) (by kernel_rfl) ?_
      repeat (first | go_big_quiet_step (fail))
      first | (refine wpQuiet_nil ?_; intro _ hw'; obtain ⟨nq,hw''⟩ := hw'; subst hw'') | intro nq
      go_wp2_with fail
      go_ret
      exact ⟨by rw [H.out]; rfl,Below.drewN q _⟩
   ·obtain rfl : k = l.length := by omega
    have H := Lib.hid (show decide (l = m) = true from decide_eq_true (List.ext_getElem HLN.out (fun r h1 h2 => by have := hsm r h1 h1; rw [List.getElem?_eq_getElem h2] at this; injection this with this; exact this.symm)))
    clear hsm
    go_wp2_with fail
    go_ret
    exact ⟨by rw [H.out]; rfl,q⟩
 ·have d : ((l.length : Int) != (m.length : Int)) = true := by rw [bne_iff_ne]; omega
  have H := Lib.hid (show decide (l = m) = false from decide_eq_false (fun e => hln (by rw [e])))
  clear hln
  go_enter Tryz.func50,Tryz.ntmps50
  go_wp2_with fail
  go_ret
  exact ⟨by rw [H.out]; rfl,q⟩
theorem zn0 {S0 : Nat → Prop} {Te : TypeId} {base : Nat} {w : World} {v : Value} {l : List Pr} (h : OwnL (Elt.pin Elt.pair S0) Te base 0 w v l) : RdL Elt.pair (fun j => S0 j ∨ base ≤ j) w v l := by
 obtain ⟨vs,h1,h2⟩ := h
 have hx := h1
 rcases h1.2 with ⟨rfl,h0⟩ | ⟨g,cap,cur,rfl,hb,hg,hn,hc,hcs,ht⟩
 ·obtain rfl : l = [] := List.eq_nil_of_length_eq_zero h0
  exact RdL.nil _ _ _
 ·refine ⟨_,cap,rfl,hn,hc,.inr ⟨g,0,rfl,.inr hb,fun r hr => ?_⟩⟩
  obtain ⟨us,h3,h4⟩ := h2.at r hr
  refine ⟨us,Elt.pair.weak (S := fun k => S0 k ∧ _) h3 fun k hk => .inl hk.1,fun j u hj => ?_⟩
  have := hx.cells (g := g) rfl _ u (h4 j u hj)
  simpa [Addr.add_lit,Elt.pin] using this
theorem zc9 (w:World) {S:Nat→Prop} {v:Value} {n:Nd} (hr:RdN S w v n) (hw:wN n≤1000000) (hS:∀ k,S k→k<w.heap.size) :
  Calls Tryz.prog 30 #[v] w (zg9 S w (prN n)):=by
 have hr0:=hr
 obtain⟨a1,c1,a2,c2,a3,c3,rfl,r1,r2,r3⟩:=hr
 have hT:=TriV.new w 26 (.slice a1 n.keys.length c1) (.slice a2 n.chains.length c2) (.slice a3 n.kids.length c3)
 have q:Below w.heap.size w (w.alloc (.cells #[.slice a1 n.keys.length c1,.slice a2 n.chains.length c2,.slice a3 n.kids.length c3] 26)):=(Below.refl _ _).alloc (Nat.le_refl _) _
 go_enter Tryz.func30,Tryz.ntmps30
 go_upto_region 1 with (fail)
 generalize w.alloc (.cells #[.slice a1 n.keys.length c1,.slice a2 n.chains.length c2,.slice a3 n.kids.length c3] 26)=W at *
 have t0:=hT.cell0
 have t1:=hT.cell1
 have t2:=hT.cell2
 go_wp2_with fail
 refine (zjt _ (hr0.below q) hw).mono ?_
 rintro e w1⟨rfl,hb⟩
 replace q:=q.trans (hb.mono q.size)
 replace hT:=hT.below hb hT.lt
 clear hb t0 t1 t2
 by_cases hk:okN n
 ·rw [decide_eq_true hk]
  have H:=Lib.hid (show prN n=zaa n from if_pos hk)
  have HF:=Lib.hid hk.1
  have t0:=hT.cell0
  have t1:=hT.cell1
  have t2:=hT.cell2
  clear hk
  go_wp2_with fail
  refine (zgt 1000000 n true _ _ _ hw (Nat.le_refl _) (hr0.below q) (fun k hk=>Nat.lt_of_lt_of_le (hS k hk) q.size) HF.out).mono ?_
  rintro e w2⟨a,k,c,rfl,hO,hb⟩
  go_wp2_with fail
  go_ret
  rw [H.out]
  exact⟨_,_,_,rfl,hO.to q.size (Nat.le_refl _),q.trans (hb.mono q.size)⟩
 ·rw [decide_eq_false hk]
  have H:=Lib.hid (show prN n=[] from if_neg hk)
  clear hk
  go_wp2_with fail
  go_ret
  rw [H.out]
  exact⟨_,_,_,rfl,OwnL.nil _ _ _ _ _,q⟩
def RdTb (S:Nat→Prop) (w:World) (v:Value) (L:Tb):Prop:=∃ (a:Nat→Option Addr) (c:Nat→Nat),v=.agg #[.slice (a 0) (L 0).length (c 0),.slice (a 1) (L 1).length (c 1),.slice (a 2) (L 2).length (c 2),.slice (a 3) (L 3).length (c 3)]∧∀ i,i<4→RdL Elt.pair S w (.slice (a i) (L i).length (c i)) (L i)
theorem RdTb.below {S:Nat→Prop} {w w':World} {v:Value} {L:Tb}(h:RdTb S w v L)(hb:Below w.heap.size w w'):RdTb S w' v L:=by
 obtain⟨a,c,e,h⟩:=h
 exact⟨a,c,e,fun i hi=>(h i hi).below hb⟩
def eqT(L M:Tb):Prop:=∀ i,i<4→L i=M i
instance (L M:Tb):Decidable (eqT L M):=by unfold eqT;infer_instance
def TbEnd (w:World) (L:Tb) (e:Ending) (w':World):Prop:=∃ v,e=.returned v∧RdTb (fun _=>True) w' v L∧Below w.heap.size w w'
theorem RdL.keepT {B:Nat} {w w':World} {v:Value} {l:List Pr} (h:RdL Elt.pair (fun k=>k<B∨B+3≤k) w v l) (hk:∀ k,k<w.heap.size→k≠B+2→w'.heap[k]?=w.heap[k]?):RdL Elt.pair (fun k=>k<B∨B+3≤k) w' v l :=
 (h.fit.keep fun k hh=>hk k hh.2 (by have:=hh.1;omega)).weak fun _ hh=>hh.1
theorem zla (w : World) {S : Nat → Prop} {v : Value} {T : Sto} (hr : RdSt S w v T) (hf : fitS T) : Calls Tryz.prog 15 #[v] w (TbEnd w (tabS T)) := by
 obtain ⟨a,m,c,rfl,hx⟩ := hr.fit.weak (S' := (· < w.heap.size)) fun _ h => h.2
 obtain ⟨W0,hW,q0,bn,bz,hsz⟩ := zmj w 29 38 [.slice (a 0) (m 0) (c 0),.slice (a 1) (m 1) (c 1),.slice (a 2) (m 2) (c 2),.slice (a 3) (m 3) (c 3),.slice (a 4) (m 4) (c 4),.slice (a 5) (m 5) (c 5),.slice (a 6) (m 6) (c 6),.slice (a 7) (m 7) (c 7),.slice (a 8) (m 8) (c 8),.slice (a 9) (m 9) (c 9),.slice (a 10) (m 10) (c 10),.slice (a 11) (m 11) (c 11)] [.slice none 0 0,.slice none 0 0,.slice none 0 0,.slice none 0 0]
 replace bn : StB W0 w.heap.size a m c := bn
 go_enter Tryz.func15,Tryz.ntmps15
 go_upto_region 1 with (fail)
 rw [show (w.alloc (.cells #[.slice (a 0) (m 0) (c 0),.slice (a 1) (m 1) (c 1),.slice (a 2) (m 2) (c 2),.slice (a 3) (m 3) (c 3),.slice (a 4) (m 4) (c 4),.slice (a 5) (m 5) (c 5),.slice (a 6) (m 6) (c 6),.slice (a 7) (m 7) (c 7),.slice (a 8) (m 8) (c 8),.slice (a 9) (m 9) (c 9),.slice (a 10) (m 10) (c 10),.slice (a 11) (m 11) (c 11)] 29)).alloc (.cells #[.slice none 0 0,.slice none 0 0,.slice none 0 0,.slice none 0 0] 38) = W0 from hW.symm]
 clear hW
 go_upto_region 2 with (first | (refine zbf (vs := [.slice none 0 0,.slice none 0 0,.slice none 0 0,.slice none 0 0]) (by kernel_rfl) rfl rfl ?_; intro wa hba hBa) | (refine zam (us := [.slice none 0 0,.slice none 0 0,.slice none 0 0,.slice none 0 0]) (by kernel_rfl) rfl rfl rfl rfl rfl rfl hBa rfl ?_; intro W hgw hu) | fail)
 try go_simp
 have hbw := hba.grown hgw hba.size fun k hk => by injection hk with hk; omega
 replace bn : StB W w.heap.size a m c := bn.below hbw bn.lt
 replace bz := bz.below hbw bz.lt
 have q := q0.trans (hbw.mono q0.size)
 have hs3 : w.heap.size + 3 ≤ W.heap.size := by have := hu.lt; omega
 rw [hsz] at hu
 clear hbw hgw hba hBa q0 hsz
 go_wp2
 go_loopw [4] (fun v wr => ∃ (i : Nat) (ua : Nat → Option Addr) (un uc : Nat → Nat),v = .int .i64 (i : Int) ∧ i ≤ 4 ∧ Below w.heap.size w wr ∧ StB wr w.heap.size a m c ∧ BoxN wr (w.heap.size + 1) 38 [.slice none 0 0,.slice none 0 0,.slice none 0 0,.slice none 0 0] ∧ BoxN wr (w.heap.size + 1 + 1) 38 [.slice (ua 0) (un 0) (uc 0),.slice (ua 1) (un 1) (uc 1),.slice (ua 2) (un 2) (uc 2),.slice (ua 3) (un 3) (uc 3)] ∧ w.heap.size + 3 ≤ wr.heap.size ∧ ∀ j,j < i → un j = (prN (T j)).length ∧ RdL Elt.pair (fun k => k < w.heap.size ∨ w.heap.size + 3 ≤ k) wr (.slice (ua j) (un j) (uc j)) (prN (T j))) (fun v _ => 4 - toN v)
 case atStart => exact ⟨0,fun _ => none,fun _ => 0,fun _ => 0,rfl,by omega,q,bn,bz,hu,hs3,fun j hj => absurd hj (Nat.not_lt_zero _)⟩
 case round =>
  clear bn bz hu hs3 q
  obtain ⟨i,ua,un,uc,rfl,hi,hb,bx,bz,hu,hs3,hA⟩ := hrel
  replace hA := Lib.hid hA
  rcases Nat.lt_or_ge i 4 with hl | hl
  ·have dl : decide ((i : Int) < 4) = true := by simp; omega
   obtain ⟨d0,d1,d2,d3,d4,d5,d6,d7,d8,d9,d10,d11⟩ := bx.c12
   rcases (show i = 0 ∨ i = 1 ∨ i = 2 ∨ i = 3 by omega) with rfl | rfl | rfl | rfl
   ·have rN : RdN (· < w.heap.size) w (.agg #[.slice (a 0) (m 0) (c 0),.slice (a 1) (m 1) (c 1),.slice (a 2) (m 2) (c 2)]) (T 0) := hx 0 (by omega)
    have hpr := zc9 wr (rN.below hb) (by have := (hf 0 (by omega)).1; omega) (fun k hk => Nat.lt_of_lt_of_le hk hb.size)
    go_wp2_with fail
    refine hpr.mono ?_
    rintro e W4 ⟨pa,pk,pc,rfl,hO,hb4⟩
    obtain rfl := hO.len
    have hO4 := zn0 hO
    have hu4 := hu.below hb4 hu.lt
    have bx4 : StB W4 w.heap.size a m c := bx.below hb4 bx.lt
    have bz4 := bz.below hb4 bz.lt
    have hs4 := hb4.size
    have hul := hu.lt
    have hb5 := hb.trans (hb4.mono hb.size)
    clear hpr d0 d1 d2 d3 d4 d5 d6 d7 d8 d9 d10 d11 hu bx bz
    go_wp2_with (first | (refine zc8 (u := .slice pa (prN (T 0)).length pc) rfl rfl rfl (by kernel_rfl) rfl rfl rfl rfl hu4 (by show 0 < 4; omega) ?_; intro W5 hg5 hu5) | fail)
    go_roundw
    case rel =>
     have hs5 := hg5.size
     have hne : ∀ k,k < W4.heap.size → k ≠ w.heap.size + 2 → W5.heap[k]? = W4.heap[k]? := fun k h1 h2 => hg5.block k h1 (fun e => h2 (by injection e))
     refine ⟨1,fun j => if j = 0 then pa else ua j,fun j => if j = 0 then (prN (T 0)).length else un j,fun j => if j = 0 then pc else uc j,by go_num,by omega,hb5.trans ⟨hg5.os,hg5.tape,hg5.output,hs5,fun k hk => hne k (Nat.lt_of_lt_of_le hk hb5.size) (by omega)⟩,bx4.other hg5 (fun e => by injection e with e; omega),bz4.other hg5 (fun e => by injection e with e; omega),hu5,Nat.le_trans hs3 (Nat.le_trans hs4 hs5),fun j hj => ?_⟩
     by_cases e : j = 0
     ·subst e
      exact ⟨rfl,(hO4.weak (S' := fun k => (k < w.heap.size ∨ w.heap.size + 3 ≤ k)) (fun k hk => hk.imp id fun h => Nat.le_trans hs3 h)).keepT hne⟩
     ·obtain ⟨g1,g2⟩ := hA.out j (by omega)
      have e1 : (if j = 0 then pa else ua j) = ua j := if_neg e
      have e2 : (if j = 0 then (prN (T 0)).length else un j) = un j := if_neg e
      have e3 : (if j = 0 then pc else uc j) = uc j := if_neg e
      simp only [e1,e2,e3]
      exact ⟨g1,(g2.below hb4).keepT hne⟩
    case measure => simp [toN]
   ·have rN : RdN (· < w.heap.size) w (.agg #[.slice (a 3) (m 3) (c 3),.slice (a 4) (m 4) (c 4),.slice (a 5) (m 5) (c 5)]) (T 1) := hx 1 (by omega)
    have hpr := zc9 wr (rN.below hb) (by have := (hf 1 (by omega)).1; omega) (fun k hk => Nat.lt_of_lt_of_le hk hb.size)
    go_wp2_with fail
    refine hpr.mono ?_
    rintro e W4 ⟨pa,pk,pc,rfl,hO,hb4⟩
    obtain rfl := hO.len
    have hO4 := zn0 hO
    have hu4 := hu.below hb4 hu.lt
    have bx4 : StB W4 w.heap.size a m c := bx.below hb4 bx.lt
    have bz4 := bz.below hb4 bz.lt
    have hs4 := hb4.size
    have hul := hu.lt
    have hb5 := hb.trans (hb4.mono hb.size)
    clear hpr d0 d1 d2 d3 d4 d5 d6 d7 d8 d9 d10 d11 hu bx bz
    go_wp2_with (first | (refine zc8 (u := .slice pa (prN (T 1)).length pc) rfl rfl rfl (by kernel_rfl) rfl rfl rfl rfl hu4 (by show 1 < 4; omega) ?_; intro W5 hg5 hu5) | fail)
    go_roundw
    case rel =>
     have hs5 := hg5.size
     have hne : ∀ k,k < W4.heap.size → k ≠ w.heap.size + 2 → W5.heap[k]? = W4.heap[k]? := fun k h1 h2 => hg5.block k h1 (fun e => h2 (by injection e))
     refine ⟨2,fun j => if j = 1 then pa else ua j,fun j => if j = 1 then (prN (T 1)).length else un j,fun j => if j = 1 then pc else uc j,by go_num,by omega,hb5.trans ⟨hg5.os,hg5.tape,hg5.output,hs5,fun k hk => hne k (Nat.lt_of_lt_of_le hk hb5.size) (by omega)⟩,bx4.other hg5 (fun e => by injection e with e; omega),bz4.other hg5 (fun e => by injection e with e; omega),hu5,Nat.le_trans hs3 (Nat.le_trans hs4 hs5),fun j hj => ?_⟩
     by_cases e : j = 1
     ·subst e
      exact ⟨rfl,(hO4.weak (S' := fun k => (k < w.heap.size ∨ w.heap.size + 3 ≤ k)) (fun k hk => hk.imp id fun h => Nat.le_trans hs3 h)).keepT hne⟩
     ·obtain ⟨g1,g2⟩ := hA.out j (by omega)
      have e1 : (if j = 1 then pa else ua j) = ua j := if_neg e
      have e2 : (if j = 1 then (prN (T 1)).length else un j) = un j := if_neg e
      have e3 : (if j = 1 then pc else uc j) = uc j := if_neg e
      simp only [e1,e2,e3]
      exact ⟨g1,(g2.below hb4).keepT hne⟩
    case measure => simp [toN]
   ·have rN : RdN (· < w.heap.size) w (.agg #[.slice (a 6) (m 6) (c 6),.slice (a 7) (m 7) (c 7),.slice (a 8) (m 8) (c 8)]) (T 2) := hx 2 (by omega)
    have hpr := zc9 wr (rN.below hb) (by have := (hf 2 (by omega)).1; omega) (fun k hk => Nat.lt_of_lt_of_le hk hb.size)
    go_wp2_with fail
    refine hpr.mono ?_
    rintro e W4 ⟨pa,pk,pc,rfl,hO,hb4⟩
    obtain rfl := hO.len
    have hO4 := zn0 hO
    have hu4 := hu.below hb4 hu.lt
    have bx4 : StB W4 w.heap.size a m c := bx.below hb4 bx.lt
    have bz4 := bz.below hb4 bz.lt
    have hs4 := hb4.size
    have hul := hu.lt
    have hb5 := hb.trans (hb4.mono hb.size)
    clear hpr d0 d1 d2 d3 d4 d5 d6 d7 d8 d9 d10 d11 hu bx bz
    go_wp2_with (first | (refine zc8 (u := .slice pa (prN (T 2)).length pc) rfl rfl rfl (by kernel_rfl) rfl rfl rfl rfl hu4 (by show 2 < 4; omega) ?_; intro W5 hg5 hu5) | fail)
    go_roundw
    case rel =>
     have hs5 := hg5.size
     have hne : ∀ k,k < W4.heap.size → k ≠ w.heap.size + 2 → W5.heap[k]? = W4.heap[k]? := fun k h1 h2 => hg5.block k h1 (fun e => h2 (by injection e))
     refine ⟨3,fun j => if j = 2 then pa else ua j,fun j => if j = 2 then (prN (T 2)).length else un j,fun j => if j = 2 then pc else uc j,by go_num,by omega,hb5.trans ⟨hg5.os,hg5.tape,hg5.output,hs5,fun k hk => hne k (Nat.lt_of_lt_of_le hk hb5.size) (by omega)⟩,bx4.other hg5 (fun e => by injection e with e; omega),bz4.other hg5 (fun e => by injection e with e; omega),hu5,Nat.le_trans hs3 (Nat.le_trans hs4 hs5),fun j hj => ?_⟩
     by_cases e : j = 2
     ·subst e
      exact ⟨rfl,(hO4.weak (S' := fun k => (k < w.heap.size ∨ w.heap.size + 3 ≤ k)) (fun k hk => hk.imp id fun h => Nat.le_trans hs3 h)).keepT hne⟩
     ·obtain ⟨g1,g2⟩ := hA.out j (by omega)
      have e1 : (if j = 2 then pa else ua j) = ua j := if_neg e
      have e2 : (if j = 2 then (prN (T 2)).length else un j) = un j := if_neg e
      have e3 : (if j = 2 then pc else uc j) = uc j := if_neg e
      simp only [e1,e2,e3]
      exact ⟨g1,(g2.below hb4).keepT hne⟩
    case measure => simp [toN]
   ·have rN : RdN (· < w.heap.size) w (.agg #[.slice (a 9) (m 9) (c 9),.slice (a 10) (m 10) (c 10),.slice (a 11) (m 11) (c 11)]) (T 3) := hx 3 (by omega)
    have hpr := zc9 wr (rN.below hb) (by have := (hf 3 (by omega)).1; omega) (fun k hk => Nat.lt_of_lt_of_le hk hb.size)
    go_wp2_with fail
    refine hpr.mono ?_
    rintro e W4 ⟨pa,pk,pc,rfl,hO,hb4⟩
    obtain rfl := hO.len
    have hO4 := zn0 hO
    have hu4 := hu.below hb4 hu.lt
    have bx4 : StB W4 w.heap.size a m c := bx.below hb4 bx.lt
    have bz4 := bz.below hb4 bz.lt
    have hs4 := hb4.size
    have hul := hu.lt
    have hb5 := hb.trans (hb4.mono hb.size)
    clear hpr d0 d1 d2 d3 d4 d5 d6 d7 d8 d9 d10 d11 hu bx bz
    go_wp2_with (first | (refine zc8 (u := .slice pa (prN (T 3)).length pc) rfl rfl rfl (by kernel_rfl) rfl rfl rfl rfl hu4 (by show 3 < 4; omega) ?_; intro W5 hg5 hu5) | fail)
    go_roundw
    case rel =>
     have hs5 := hg5.size
     have hne : ∀ k,k < W4.heap.size → k ≠ w.heap.size + 2 → W5.heap[k]? = W4.heap[k]? := fun k h1 h2 => hg5.block k h1 (fun e => h2 (by injection e))
     refine ⟨4,fun j => if j = 3 then pa else ua j,fun j => if j = 3 then (prN (T 3)).length else un j,fun j => if j = 3 then pc else uc j,by go_num,by omega,hb5.trans ⟨hg5.os,hg5.tape,hg5.output,hs5,fun k hk => hne k (Nat.lt_of_lt_of_le hk hb5.size) (by omega)⟩,bx4.other hg5 (fun e => by injection e with e; omega),bz4.other hg5 (fun e => by injection e with e; omega),hu5,Nat.le_trans hs3 (Nat.le_trans hs4 hs5),fun j hj => ?_⟩
     by_cases e : j = 3
     ·subst e
      exact ⟨rfl,(hO4.weak (S' := fun k => (k < w.heap.size ∨ w.heap.size + 3 ≤ k)) (fun k hk => hk.imp id fun h => Nat.le_trans hs3 h)).keepT hne⟩
     ·obtain ⟨g1,g2⟩ := hA.out j (by omega)
      have e1 : (if j = 3 then pa else ua j) = ua j := if_neg e
      have e2 : (if j = 3 then (prN (T 3)).length else un j) = un j := if_neg e
      have e3 : (if j = 3 then pc else uc j) = uc j := if_neg e
      simp only [e1,e2,e3]
      exact ⟨g1,(g2.below hb4).keepT hne⟩
    case measure => simp [toN]
  ·obtain rfl : i = 4 := by omega
   have dl : decide (((4 : Nat) : Int) < 4) = false := rfl
   obtain ⟨y0,y1,y2,y3⟩ := hu.c4
   go_wp2_with (first | (refine zam (us := [.slice (ua 0) (un 0) (uc 0),.slice (ua 1) (un 1) (uc 1),.slice (ua 2) (un 2) (uc 2),.slice (ua 3) (un 3) (uc 3)]) (by kernel_rfl) rfl rfl rfl rfl rfl rfl bz rfl ?_; intro W5 hg5 hz5) | fail)
   have hb5 : Below w.heap.size wr W5 := ⟨hg5.os,hg5.tape,hg5.output,hg5.size,fun k hk => hg5.block k (Nat.lt_of_lt_of_le hk hb.size) (fun e => by injection e with e; omega)⟩
   clear y0 y1 y2 y3
   obtain ⟨y0,y1,y2,y3⟩ := hz5.c4
   refine bodyPost_ret (v := .agg #[.slice (ua 0) (un 0) (uc 0),.slice (ua 1) (un 1) (uc 1),.slice (ua 2) (un 2) (uc 2),.slice (ua 3) (un 3) (uc 3)]) (by simp [results,Tryz.results15,go_sem,loadVar,isAgg,run_underlying Tryz.underlying38,zab (show (Tryz.prog.info? 38).map (·.size) = some 4 by kernel_rfl),loadCellsFrom,Addr.add,y0,y1,y2,y3]) rfl ?_
   have hA9 : ∀ j,j < 4 → un j = (prN (T j)).length ∧ RdL Elt.pair (fun _ => True) W5 (.slice (ua j) (un j) (uc j)) (prN (T j)) := fun j hj => by
    obtain ⟨g1,g2⟩ := hA.out j hj
    exact ⟨g1,(g2.fit.keep fun k hh => hg5.block k hh.2 (fun e => by injection e with e; have := hh.1; omega)).weak fun _ _ => trivial⟩
   refine ⟨_,rfl,⟨ua,uc,?_,fun j hj => ?_⟩,hb.trans hb5⟩
   ·rw [(hA9 0 (by omega)).1,(hA9 1 (by omega)).1,(hA9 2 (by omega)).1,(hA9 3 (by omega)).1]
    rfl
   ·have h9 := hA9 j hj
    rw [h9.1] at h9
    exact h9.2
section
variable {o : Oper} {a : Act} {K : Act → World → Prop} {Q : Exit → Act → World → Prop} {w : World}
theorem zp5 {W : World} {b : Nat} {a : Nat → Option Addr} {L : Tb} {c : Nat → Nat} (h : BoxN W b 38 [.slice (a 0) (L 0).length (c 0),.slice (a 1) (L 1).length (c 1),.slice (a 2) (L 2).length (c 2),.slice (a 3) (L 3).length (c 3)]) {j : Nat} (hj : j < 4) : W.cell? ⟨b,j,none⟩ = some (.slice (a j) (L j).length (c j)) :=
 match j,hj with
 | 0,_ => h.cell rfl
 | 1,_ => h.cell rfl
 | 2,_ => h.cell rfl
 | 3,_ => h.cell rfl
theorem wp_ixT {x i : Operand} {b k : Nat} {kk : IntKind} {j : Int} (ho : o.op = .indexAddr 38 x i) (hx : a.eval x = .pointer (some ⟨b,0,none⟩)) (hi : a.eval i = .int kk j) (hj : j = (k : Int)) (hk : k < 4) (h : K (a.put o.dst (.pointer (some ⟨b,k,none⟩))) w) : o.wp Tryz.prog a w K Q := by
 subst hj
 refine zdz ?_ h
 simp only [execOp,ho,hx,hi]
 simp [Instr.indexAt,run_underlying Tryz.underlying38,asIntOf,Instr.sureAddr,zab (show (Tryz.prog.info? 36).map (·.size) = some 1 by kernel_rfl),go_sem,Addr.add,hk]
 try omega
end
theorem zk9 (w : World) {S S2 : Nat → Prop} {v v2 : Value} {L M : Tb} (h : RdTb S w v L) (h2 : RdTb S2 w v2 M) : Calls Tryz.prog 26 #[v,v2] w fun e w' => e = .returned (.bool (decide (eqT L M))) ∧ Below w.heap.size w w' := by
 obtain ⟨a,c,rfl,hl⟩ := h
 obtain ⟨b,d,rfl,hm⟩ := h2
 obtain ⟨W,hW,q,Ba,Bb,hsz⟩ := zmj w 38 38 [.slice (a 0) (L 0).length (c 0),.slice (a 1) (L 1).length (c 1),.slice (a 2) (L 2).length (c 2),.slice (a 3) (L 3).length (c 3)] [.slice (b 0) (M 0).length (d 0),.slice (b 1) (M 1).length (d 1),.slice (b 2) (M 2).length (d 2),.slice (b 3) (M 3).length (d 3)]
 clear hsz
 have eS : ∀ args w,(callFunc 50 args).run Tryz.prog w = .ok (.enter 50 args) w := enters_of Tryz.func50 (by kernel_rfl) rfl
 go_enter Tryz.func26,Tryz.ntmps26
 go_upto_region 1 with (fail)
 rw [show (w.alloc (.cells #[.slice (a 0) (L 0).length (c 0),.slice (a 1) (L 1).length (c 1),.slice (a 2) (L 2).length (c 2),.slice (a 3) (L 3).length (c 3)] 38)).alloc (.cells #[.slice (b 0) (M 0).length (d 0),.slice (b 1) (M 1).length (d 1),.slice (b 2) (M 2).length (d 2),.slice (b 3) (M 3).length (d 3)] 38) = W from hW.symm]
 clear hW
 go_upto_region 2 with (fail)
 go_loopw [5] (fun v wr => ∃ i : Nat,v = .int .i64 (i : Int) ∧ i ≤ 4 ∧ (∀ j,j < i → L j = M j) ∧ Below W.heap.size W wr) (fun v _ => 4 - toN v)
 case atStart => exact ⟨0,rfl,by omega,fun j hj => absurd hj (Nat.not_lt_zero _),Below.refl _ _⟩
 case round =>
  obtain ⟨i,rfl,hi,hA,q2⟩ := hrel
  replace hA := Lib.hid hA
  rcases Nat.lt_or_ge i 4 with hlt | hge
  ·have dl : decide ((i : Int) < 4) = true := by simp; omega
   have x0 := zp5 (Ba.below q2 Ba.lt) hlt
   have y0 := zp5 (Bb.below q2 Bb.lt) hlt
   have hc := fun (V : World) (hV : Below wr.heap.size wr V) => zqh V ((((hl i hlt).below q).below q2).below hV) ((((hm i hlt).below q).below q2).below hV)
   obtain ⟨z,hz⟩ : ∃ z,z = decide (L i = M i) := ⟨_,rfl⟩
   rw [← hz] at hc
   replace hz := Lib.hid hz
   go_upto_region 4 with (fail)
   refine zbu (by kernel_rfl) (by kernel_rfl) [sgEq (.int .i64 (i : Int)),sgEq (.pointer (some ⟨w.heap.size,i,none⟩)),sgEq (.slice (a i) (L i).length (c i)),sgEq (.int .i64 (i : Int)),sgEq (.pointer (some ⟨w.heap.size + 1,i,none⟩)),sgEq (.slice (b i) (M i).length (d i)),sgEq (.bool z),sgEq (.bool z)]
    ⟨?o0,?o1,?o2,?o3,?o4,?o5,?o6,?o7,trivial⟩ ?fin
   case o0 =>
    refine GdOp.plain rfl (fun A vs w' hF hT hb hd => ?_)
    have e1 : A.eval (.tmp 5) = .int .i64 (i : Int) := hF 5 rfl
    exact BigFrame.wp_move _ rfl ⟨_,rfl,e1,Below.refl _ _⟩
   case o1 =>
    refine GdOp.plain rfl (fun A vs w' hF hT hb hd => ?_)
    have e1 : A.eval (.tmp 2) = .pointer (some ⟨w.heap.size,0,none⟩) := hF 2 rfl
    have e2 : A.eval (.tmp 11) = .int .i64 (i : Int) := (hT 11 0 (by simp) rfl).trans (hd ⟨0,.data⟩ (by simp) rfl)
    exact wp_ixT rfl e1 e2 rfl hlt ⟨_,rfl,rfl,Below.refl _ _⟩
   case o2 =>
    refine GdOp.plain rfl (fun A vs w' hF hT hb hd => ?_)
    have e1 : A.eval (.tmp 12) = .pointer (some ⟨w.heap.size,i,none⟩) := (hT 12 1 (by simp) rfl).trans (hd ⟨1,.data⟩ (by simp) rfl)
    exact zad (e := 77) rfl e1 (by kernel_rfl) (((hb.cell (p := ⟨_,_,none⟩) (zaj x0)).trans x0)) ⟨_,rfl,rfl,Below.refl _ _⟩
   case o3 =>
    refine GdOp.plain rfl (fun A vs w' hF hT hb hd => ?_)
    have e1 : A.eval (.tmp 5) = .int .i64 (i : Int) := hF 5 rfl
    exact BigFrame.wp_move _ rfl ⟨_,rfl,e1,Below.refl _ _⟩
   case o4 =>
    refine GdOp.plain rfl (fun A vs w' hF hT hb hd => ?_)
    have e1 : A.eval (.tmp 3) = .pointer (some ⟨w.heap.size + 1,0,none⟩) := hF 3 rfl
    have e2 : A.eval (.tmp 14) = .int .i64 (i : Int) := (hT 14 3 (by simp) rfl).trans (hd ⟨3,.data⟩ (by simp) rfl)
    exact wp_ixT rfl e1 e2 rfl hlt ⟨_,rfl,rfl,Below.refl _ _⟩
   case o5 =>
    refine GdOp.plain rfl (fun A vs w' hF hT hb hd => ?_)
    have e1 : A.eval (.tmp 15) = .pointer (some ⟨w.heap.size + 1,i,none⟩) := (hT 15 4 (by simp) rfl).trans (hd ⟨4,.data⟩ (by simp) rfl)
    exact zad (e := 77) rfl e1 (by kernel_rfl) (((hb.cell (p := ⟨_,_,none⟩) (zaj y0)).trans y0)) ⟨_,rfl,rfl,Below.refl _ _⟩
   case o6 =>
    refine GdOp.plain rfl (fun A vs w' hF hT hb hd => ?_)
    have e1 : A.eval (.tmp 13) = .slice (a i) (L i).length (c i) := (hT 13 2 (by simp) rfl).trans (hd ⟨2,.data⟩ (by simp) rfl)
    have e2 : A.eval (.tmp 16) = .slice (b i) (M i).length (d i) := (hT 16 5 (by simp) rfl).trans (hd ⟨5,.data⟩ (by simp) rfl)
    refine zak rfl eS (args := #[.slice (a i) (L i).length (c i),.slice (b i) (M i).length (d i)]) (by simp only [List.map_toArray,List.map_cons,List.map_nil,e1,e2]) ((hc w' hb).mono ?_)
    rintro e w2 ⟨rfl,hb2⟩
    exact ⟨_,rfl,_,rfl,rfl,hb2⟩
   case o7 =>
    refine GdOp.plain rfl (fun A vs w' hF hT hb hd => ?_)
    have e1 : A.eval (.tmp 17) = .bool z := (hT 17 6 (by simp) rfl).trans (hd ⟨6,.data⟩ (by simp) rfl)
    exact BigFrame.wp_assign _ rfl ⟨_,rfl,e1,Below.refl _ _⟩
   case fin =>
    intro vs9 W9 hb9 hG9
    have e0 : vs9 0 = .int .i64 (i : Int) := hG9 0 (by decide)
    have e1 : vs9 1 = .pointer (some ⟨w.heap.size,i,none⟩) := hG9 1 (by decide)
    have e2 : vs9 2 = .slice (a i) (L i).length (c i) := hG9 2 (by decide)
    have e3 : vs9 3 = .int .i64 (i : Int) := hG9 3 (by decide)
    have e4 : vs9 4 = .pointer (some ⟨w.heap.size + 1,i,none⟩) := hG9 4 (by decide)
    have e5 : vs9 5 = .slice (b i) (M i).length (d i) := hG9 5 (by decide)
    have e6 : vs9 6 = .bool z := hG9 6 (by decide)
    have e7 : vs9 7 = .bool z := hG9 7 (by decide)
    simp only [zae,e0,e1,e2,e3,e4,e5,e6,e7]
    clear hG9 e0 e1 e2 e3 e4 e5 e6 e7
    go_simp
    have hbq := q2.trans (hb9.mono q2.size)
    cases z with
    | true =>
     have H := Lib.hid (show ∀ j,j < i + 1 → L j = M j from fun j hj => by
      rcases Nat.lt_succ_iff_lt_or_eq.1 hj with h | rfl
      ·exact hA.out j h
      ·exact of_decide_eq_true hz.out.symm)
     clear hA hz
     go_wp2_with fail
     go_roundw
     case rel => exact ⟨i + 1,by go_num,by omega,H.out,hbq⟩
     case measure => simp [toN]; omega
    | false =>
     have H := Lib.hid (show decide (eqT L M) = false from decide_eq_false fun h => of_decide_eq_false hz.out.symm (h i hlt))
     clear hA hz
     go_wp2_with fail
     go_ret
     exact ⟨by first | (rw [H.out]; done) | (rw [H.out]; rfl),q.trans (hbq.mono q.size)⟩
  ·obtain rfl : i = 4 := by omega
   have dl : decide (((4 : Nat) : Int) < 4) = false := rfl
   have H := Lib.hid (show decide (eqT L M) = true from decide_eq_true hA.out)
   clear hA
   go_wp2_with fail
   go_ret
   exact ⟨by first | (rw [H.out]; done) | (rw [H.out]; rfl),q.trans (q2.mono q.size)⟩
end Go.Proofs.YtlpfhgdnmjkngaaGreat
