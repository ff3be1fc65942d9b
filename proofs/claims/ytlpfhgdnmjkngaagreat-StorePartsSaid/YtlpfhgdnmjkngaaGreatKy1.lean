/-
  TEXTS OF ONE PROOF, merged: Byte, TreX, Ope, Dlt, StZ, StW, TreC, StS, StX, SuP, StT, VerF, TreS.
-/
import Derived.Below
import Derived.BigFrame
import Derived.BigFrameIn
import Derived.BigQuiet
import Derived.ChangeAlike
import Derived.ChangeSame
import Derived.ChangeSlices
import Derived.Deep.AppendSrc
import Derived.Deep.Cut
import Derived.Deep.DeepCutAuto
import Derived.Deep.Draws
import Derived.Deep.LoopGhost
import Derived.Deep.Matrix
import Derived.Deep.QuietTactic
import Derived.Deep.Slices
import Derived.Deep.Strs
import Derived.Deep.Upon
import Derived.IntWalk
import Derived.Laws.AppendOwnNone
import Derived.Laws.Cells
import Derived.Laws.CopyRow
import Derived.Laws.Externs
import Derived.Laws.MakeOwn
import Derived.Laws.OwnMore
import Derived.Laws.Tables
import Derived.Lib.AppendZerosOnto
import Derived.Lib.Bytealg
import Derived.Lib.BytesEntry
import Derived.Lib.Hide
import Derived.Lib.Overlaps
import Derived.Lib.SlBytesConst
import Derived.Lib.SmallJoins
import Derived.LoopIn
import Derived.LoopN
import Derived.LoopNIn
import Derived.Maps.AppendAt
import Derived.OpenShut
import Derived.Orders
import Derived.OrdersIn
import Derived.OwnWalkIn
import Derived.ProofKit
import Derived.RangeFuncBound
import Derived.RangeFuncBox
import Derived.RangeFuncCalls
import Derived.RangeFuncFrom
import Derived.RangeFuncLeaves
import Derived.RangeFuncNested
import Derived.RegionTactic
import Derived.ScopeJumps
import Derived.Shelf.Abstract
import Derived.Shelf.RegionOpen
import Derived.Sort.CutIn
import Derived.TacticsIn
import Derived.TacticsInMore
import Derived.Test.YtlpfhgdnmjkngaaGreatProg
import Derived.WalkKit
import Derived.WalkLawsBesides
import Derived.WalkMore
import Derived.WalkSpells
import Derived.Test.YtlpfhgdnmjkngaaGreatKv1
import Derived.Test.YtlpfhgdnmjkngaaGreatKv2
import Derived.Test.YtlpfhgdnmjkngaaGreatKv3
import Derived.Test.YtlpfhgdnmjkngaaGreatKv4
import Derived.Test.YtlpfhgdnmjkngaaGreatKv5
import Derived.Test.YtlpfhgdnmjkngaaGreatKv6
import Derived.Test.YtlpfhgdnmjkngaaGreatKv7
import Derived.Test.YtlpfhgdnmjkngaaGreatKv8
import Derived.Test.YtlpfhgdnmjkngaaGreatKv9
import Derived.Test.YtlpfhgdnmjkngaaGreatKv10
import Derived.Test.YtlpfhgdnmjkngaaGreatKv11
import Derived.Test.YtlpfhgdnmjkngaaGreatKv12
import Derived.Test.YtlpfhgdnmjkngaaGreatKv13
import Derived.Test.YtlpfhgdnmjkngaaGreatKv14
import Derived.Test.YtlpfhgdnmjkngaaGreatKv15
namespace Go.Proofs.YtlpfhgdnmjkngaaGreat
open Go.RowKit Go.ChangeShapes Go.WideShapes Go.ChangeAt Go.Deep Go.Joins Go.Shelf
set_option maxRecDepth 100000
set_option maxHeartbeats 32000000
section
variable {P : Program} {T E S : TypeId}
variable {ops : Array Oper} {rest : List Oper} {o : Oper} {a : Act} {Q : Exit → Act → World → Prop} {w : World}
theorem run_bounds_h' (w:World) {n c h:Nat} {j:Int} (hj:j=(h:Int)) (hh:h≤c):(Instr.sliceBounds true n c none (some (.int .i64 j)) none).run P w=.ok (0,h,c) w:=by
 rw [hj];exact zat w hh
end
theorem wv_mem {ps : List (List Pr)} {ks : List (List UInt8)} {cs : List (List Ver)} : ∀ {i : Nat} {p : Pr},p ∈ wv ps ks cs i → (∃ j,j < i ∧ p ∈ ps.getD j []) ∨ ∃ j,j < i ∧ p = ⟨ks.getD j [],cs.getD j []⟩
 | 0,p,h => by cases h
 | i + 1,p,h => by
  rw [wv] at h
  rcases List.mem_append.1 h with h | h
  ·rcases List.mem_append.1 h with h | h
   ·rcases wv_mem h with ⟨j,hj,h⟩ | ⟨j,hj,h⟩
    ·exact .inl ⟨j,by omega,h⟩
    ·exact .inr ⟨j,by omega,h⟩
   ·exact .inl ⟨i,by omega,h⟩
  ·exact .inr ⟨i,by omega,by simpa using h⟩
section
variable {P : Program} {t e : TypeId}
theorem zgo.rdL {α:Type} {E:Elt α} (hO:zgo P t (Elt.list E)) {H:Type} {enc:TypeId×Value→H} {w:World} {base:Nat} {held:Bool} {fuel:Nat} {a:Option Addr} {n c:Nat} {x:DataW H×List MemPlace}
  (h:DataW.trod enc P w base (fun _=>true) held fuel t [.slice a n c]=some x):∃ xs,RdL E (·<w.heap.size) w (.slice a n c) xs:=by
 obtain⟨d,v,hv,hR⟩:=hO h
 cases hv
 exact⟨d,hR⟩
end
theorem wrP:LoP Tryz.prog 62 51 4:=⟨⟨by kernel_rfl,by kernel_rfl⟩,.agg #[.int .i64 0,.slice none 0 0,.bool false,.slice none 0 0],64,by kernel_rfl,rfl,by omega⟩
theorem opens_wr:zgo Tryz.prog 51 Elt.wr:=by
 intro H enc w base held fuel cs x h
 obtain⟨y0,y1,y2,y3,n,_,hl,h0,h1,h2,h3⟩:=trod_struct4 Tryz.underlying51 h
 have hc:cs.length=4:=hl.trans (by kernel_rfl)
 match cs,hc with
 | [u,v,r,s],_ =>
  obtain⟨m,hm,_,hw⟩:=DataW.trod_int (by kernel_rfl:Tryz.prog.underlying 3=some (.int .i64)) (h0:DataW.trod enc Tryz.prog w base (fun _=>true) held n 3 [u]=some y0)
  obtain⟨xs,v',hv,hR⟩:=zgo.bytes (P:=Tryz.prog) (t:=30) (e:=5) (by kernel_rfl) (by kernel_rfl) (by kernel_rfl) (h1:DataW.trod enc Tryz.prog w base (fun _=>true) held n 30 [v]=some y1)
  obtain⟨g,hg,_⟩:=DataW.trod_bool (by kernel_rfl:Tryz.prog.underlying 4=some .bool) (h2:DataW.trod enc Tryz.prog w base (fun _=>true) held n 4 [r]=some y2)
  obtain⟨xs2,v2,hv2,hR2⟩:=zgo.bytes (P:=Tryz.prog) (t:=30) (e:=5) (by kernel_rfl) (by kernel_rfl) (by kernel_rfl) (h3:DataW.trod enc Tryz.prog w base (fun _=>true) held n 30 [s]=some y3)
  cases hm;cases hg;cases hv;cases hv2
  exact⟨⟨m,xs,g,xs2⟩,v,s,rfl,hR,hR2,w64w hw⟩
theorem opens_wrs:zgo Tryz.prog 62 (Elt.list Elt.wr):=zgo.list (by kernel_rfl) (by kernel_rfl) opens_wr
theorem stBox (w:World) (t:TypeId) (us:List Value):∃ W,W=w.alloc (.cells us.toArray t)∧Below w.heap.size w W∧BoxN W w.heap.size t us∧W.heap.size=w.heap.size+1 :=
 ⟨_,rfl,(Below.refl _ _).alloc (Nat.le_refl _) _,BoxN.new _ _ _,by simp only [World.alloc,Array.size_push]⟩
theorem zn9 {n:Nd} (h:okN n) (hl:(zaa n).length≤1):n.keys.length=(zaa n).length:=by
 obtain⟨d,hd⟩:∃ d:Nat,zax n true=(d:Int):=⟨(zax n true).toNat,by have:=h.1;omega⟩
 obtain⟨h1,_,h2⟩:=zey d hd
 have hd1:d=1:=by
  rcases h2 with h2 | h2
  ·rcases Nat.lt_or_ge 1 d with h3 | h3
   ·have:2 ^ 2≤2 ^ d:=Nat.pow_le_pow_right (by omega) h3
    omega
   ·omega
  ·exact h2.2.1
 subst hd1
 obtain⟨_,_,_,h4⟩:=zcb hd (by omega)
 rcases h4 with⟨h5,_⟩|⟨h5,h6,_,h8⟩
 ·exact (zd7 n h5).symm
 ·obtain⟨m,hm⟩:∃ m,m∈n.kids:=⟨n.kids[0]'(by omega),List.getElem_mem _⟩
  have:=h8 m hm
  have:=zka (n:=m) (root:=false) (by omega)
  omega
section
variable {ops : Array Oper} {rest : List Oper} {o : Oper} {a : Act} {Q : Exit → Act → World → Prop} {w : World}
theorem zbt (hP : ByP Tryz.prog 30 5 9) {o' : Oper} {k : Int} {d : Tmp} (ho : o.op = .buildSlice 30 1 #[(0,.const (.int .u8 k))]) (hgd' : ∀ u,Region.wanted o' (yielded ops (a.put o.dst u).tmps) = true) (hgd : Region.wanted o (yielded ops a.tmps) = true) (hd : o.dst = some d) (hlt : d < a.tmps.size)
  (ho' : o'.op = .convert 30 30 (.tmp d)) (hk : 0 ≤ k ∧ k < 256)
  (h : ∀ u g n w',Below w.heap.size w w' → Rd w'.heap.size w' (.slice (some ⟨g,0,none⟩) n n) [UInt8.ofNat k.toNat] → wpList Tryz.prog ops Q rest ((a.put (some d) u).put o'.dst (.slice (some ⟨g,0,none⟩) n n)) w') : wpList Tryz.prog ops Q (o :: o' :: rest) a w :=
 zkp hP ho hgd' hgd hd hlt ho' [UInt8.ofNat k.toNat] (by
  simp [bv,Act.eval]
  omega) rfl (by simp) h
end
theorem one_w {w : World} {g : Nat} {x : Wr} {k v : Value} (hb : BoxN w g 51 [.int .i64 x.table,k,.bool x.gone,v]) (h1 : RdS (fun _ => True) w k x.key) (h2 : RdS (fun _ => True) w v x.val) (h3 : W64 x.table) : RdL Elt.wr (fun _ => True) w (.slice (some ⟨g,0,none⟩) 1 1) [x] :=
 ⟨some ⟨g,0,none⟩,1,rfl,Nat.le_refl _,by unfold maxLen; omega,.inr ⟨g,0,rfl,trivial,fun r hr => by
  obtain rfl : r = 0 := by simp at hr; omega
  exact ⟨_,⟨k,v,rfl,h1,h2,h3⟩,fun j u hj => by simpa using hb.cell hj⟩⟩⟩
theorem two_w {w : World} {g : Nat} {x y : Wr} {k v k2 v2 : Value} (hb : BoxN w g 51 [.int .i64 x.table,k,.bool x.gone,v,.int .i64 y.table,k2,.bool y.gone,v2]) (h1 : RdS (fun _ => True) w k x.key) (h2 : RdS (fun _ => True) w v x.val) (h3 : W64 x.table) (h4 : RdS (fun _ => True) w k2 y.key) (h5 : RdS (fun _ => True) w v2 y.val) (h6 : W64 y.table) : RdL Elt.wr (fun _ => True) w (.slice (some ⟨g,0,none⟩) 2 2) [x,y] :=
 ⟨some ⟨g,0,none⟩,2,rfl,Nat.le_refl _,by unfold maxLen; omega,.inr ⟨g,0,rfl,trivial,fun r hr => by
  have : r = 0 ∨ r = 1 := by simp at hr; omega
  rcases this with rfl | rfl
  ·refine ⟨_,⟨k,v,rfl,h1,h2,h3⟩,fun j u hj => ?_⟩
   have hj4 : j < 4 := by rcases Nat.lt_or_ge j 4 with h | h; exact h; rw [List.getElem?_eq_none (by simpa [wrC] using h)] at hj; cases hj
   match j,hj4,hj with
   | 0,_,hj => exact hb.cell (i := 0) hj
   | 1,_,hj => exact hb.cell (i := 1) hj
   | 2,_,hj => exact hb.cell (i := 2) hj
   | 3,_,hj => exact hb.cell (i := 3) hj
  ·refine ⟨_,⟨k2,v2,rfl,h4,h5,h6⟩,fun j u hj => ?_⟩
   have hj4 : j < 4 := by rcases Nat.lt_or_ge j 4 with h | h; exact h; rw [List.getElem?_eq_none (by simpa [wrC] using h)] at hj; cases hj
   match j,hj4,hj with
   | 0,_,hj => exact hb.cell (i := 4) hj
   | 1,_,hj => exact hb.cell (i := 5) hj
   | 2,_,hj => exact hb.cell (i := 6) hj
   | 3,_,hj => exact hb.cell (i := 7) hj⟩⟩
theorem rdSt_nil (S:Nat→Prop) (w:World):RdSt S w (.agg #[.slice none 0 0,.slice none 0 0,.slice none 0 0,.slice none 0 0,.slice none 0 0,.slice none 0 0,.slice none 0 0,.slice none 0 0,.slice none 0 0,.slice none 0 0,.slice none 0 0,.slice none 0 0]) T07:=⟨fun _=>none,fun _=>0,fun _=>0,rfl,fun _ _=>zhs _ _⟩
theorem fit_07:fitS T07:=fun _ _=>zrm
theorem InT.facts {T T' : Sto} {s : Int} {l : List Wr} {K : Nat} (h : InT T s l K T') (h0 : (zbs T s l).2 = 0) (hK : K + l.length ≤ 900) : okS T' ∧ (∀ j,j < 4 → tabS T' j = (zbs T s l).1 j) ∧ (∀ j,j < 4 → ∀ p ∈ prN (T' j),p.chain.length ≤ K + l.length) ∧ fitS T' := by
 obtain ⟨_,h2⟩ := h
 obtain ⟨_,h3⟩ := h2 h0
 have hp : ∀ j,j < 4 → prN (T' j) = zaa (T' j) := fun j hj => by unfold prN; rw [if_pos (h3 j hj).1]
 refine ⟨fun j hj => ⟨(h3 j hj).1,by rw [hp j hj]; exact (h3 j hj).2.2.1⟩,fun j hj => by show prN (T' j) = _; rw [hp j hj]; exact (h3 j hj).2.1,fun j hj => by rw [hp j hj]; exact (h3 j hj).2.2.2,fun j hj => ?_⟩
 obtain ⟨k1,k2,k3,k4⟩ := h3 j hj
 refine zix k1 ⟨by omega,fun p hp2 => zlk (((zco _).1 k1.2).1 p hp2).1 ?_⟩
 have := k4 p hp2
 omega
theorem VacT.facts {T T' : Sto} {o : Int} (h : VacT o T T') (hk : okS T) (hf : fitS T) : okS T' ∧ fitS T' ∧ ∀ j,j < 4 → okN (T' j) ∧ zaa (T' j) = vacP (tabS T j) o := by
 have h1 := h.1 hk
 have hp : ∀ j,j < 4 → okN (T' j) ∧ zaa (T' j) = vacP (tabS T j) o := fun j hj => by
  obtain ⟨k1,k2⟩ := (h1 j hj).1 (hk j hj).1
  refine ⟨k1,?_⟩
  rw [k2]
  unfold tabS prN
  rw [if_pos (hk j hj).1]
 have hl : ∀ j,j < 4 → (zaa (T' j)).length ≤ 60 := fun j hj => by
  rw [(hp j hj).2]
  exact Nat.le_trans (vacP_len _ _) (hk j hj).2
 refine ⟨fun j hj => ⟨(hp j hj).1,by have := hl j hj; unfold prN; rw [if_pos (hp j hj).1]; exact this⟩,fun j hj => zix (hp j hj).1 ⟨by have := hl j hj; omega,fun p hp2 => ?_⟩,hp⟩
 rw [(hp j hj).2] at hp2
 obtain ⟨p0,hm,_,rfl⟩ := zjd hp2
 have hs := zft (hf j hj) p0 hm
 exact ⟨Nat.le_trans (zno _ _) hs.1,fun z hz => hs.2 z (znn hz)⟩
theorem zpl (w : World) : Calls Tryz.prog 11 #[] w fun e w' => e = .returned (.bool true) ∧ Below w.heap.size w w' := by
 go_enter Tryz.func11,Tryz.ntmps11
 have q := Below.refl w.heap.size w
 go_wp2_with (first | (have hx := hr2; refine zbt byP rfl (fun _ => rfl) rfl rfl (by first | (simp; done) | (simp [Act.put]; done)) rfl (by decide) ?_; clear hx; intro u3 g3 k3 w3 hb3 hr3) | (have hx := hr1; refine zbt byP rfl (fun _ => rfl) rfl rfl (by first | (simp; done) | (simp [Act.put]; done)) rfl (by decide) ?_; clear hx; intro u2 g2 k2 w2 hb2 hr2) | (refine zbt byP rfl (fun _ => rfl) rfl rfl (by first | (simp; done) | (simp [Act.put]; done)) rfl (by decide) ?_; intro u1 g1 k1 w1 hb1 hr1) | fail)
 obtain rfl : k1 = 1 := hr1.s.len.1
 obtain rfl : k2 = 1 := hr2.s.len.1
 obtain rfl : k3 = 1 := hr3.s.len.1
 have t1 : RdS (fun _ => True) w3 (.slice (some ⟨g1,0,none⟩) 1 1) [97] := ((hr1.s.below hb2).below hb3).weak fun _ _ => trivial
 have t2 : RdS (fun _ => True) w3 (.slice (some ⟨g2,0,none⟩) 1 1) [118] := (hr2.s.below hb3).weak fun _ _ => trivial
 have t3 : RdS (fun _ => True) w3 (.slice (some ⟨g3,0,none⟩) 1 1) [98] := hr3.s.weak fun _ _ => trivial
 replace q := q.trans ((hb1.mono q.size).trans ((hb2.mono (by have := hb1.size; have := q.size; omega)).trans (hb3.mono (by have := hb1.size; have := hb2.size; have := q.size; omega))))
 obtain ⟨w4,hw4⟩ : ∃ w4,w4 = w3.alloc (.cells #[.int .i64 0,.slice (some ⟨g1,0,none⟩) 1 1,.bool false,.slice (some ⟨g2,0,none⟩) 1 1,.int .i64 1,.slice (some ⟨g3,0,none⟩) 1 1,.bool false,.slice none 0 0] 51) := ⟨_,rfl⟩
 have hb4 : Below w3.heap.size w3 w4 := by rw [hw4]; exact (Below.refl _ _).alloc (Nat.le_refl _) _
 have xr : BoxN w4 w3.heap.size 51 [.int .i64 0,.slice (some ⟨g1,0,none⟩) 1 1,.bool false,.slice (some ⟨g2,0,none⟩) 1 1,.int .i64 1,.slice (some ⟨g3,0,none⟩) 1 1,.bool false,.slice none 0 0] := by rw [hw4]; exact BoxN.new _ _ _
 rw [← hw4]
 clear hw4
 replace q := q.trans (hb4.mono q.size)
 have hlw : RdL Elt.wr (fun _ => True) w4 (.slice (some ⟨w3.heap.size,0,none⟩) 2 2) [xA7,xB7] := two_w xr (t1.below hb4) (t2.below hb4) ⟨by decide,by decide⟩ (t3.below hb4) (RdS.nil _ _) ⟨by decide,by decide⟩
 clear hr1 hr2 hr3 hb1 hb2 hb3 hb4 t1 t2 t3 xr
 have hch1 : okS T07 → ∀ j,j < 4 → ∀ p ∈ prN (T07 j),p.chain.length ≤ 100 := fun _ j _ p hp => by rw [show prN (T07 j) = [] from zjy] at hp; cases hp
 have hcl := zdv w4 (T := T07) (s := 3) (l := [xA7,xB7]) (K := 100) (rdSt_nil (fun _ => True) w4) fit_07 ⟨by decide,by decide⟩ hlw hch1 (by decide)
 unfold zma at hcl
 rw [insA7.1] at hcl
 refine hcl.mono ?_
 rintro e wcA ⟨vA,TA,rfl,⟨aA,mA,cA,rfl,hA⟩,hb,hIA⟩
 clear hcl
 replace q := q.trans (hb.mono q.size)
 clear hb
 have rA : RdSt (fun _ => True) wcA (.agg #[.slice (aA 0) (mA 0) (cA 0),.slice (aA 1) (mA 1) (cA 1),.slice (aA 2) (mA 2) (cA 2),.slice (aA 3) (mA 3) (cA 3),.slice (aA 4) (mA 4) (cA 4),.slice (aA 5) (mA 5) (cA 5),.slice (aA 6) (mA 6) (cA 6),.slice (aA 7) (mA 7) (cA 7),.slice (aA 8) (mA 8) (cA 8),.slice (aA 9) (mA 9) (cA 9),.slice (aA 10) (mA 10) (cA 10),.slice (aA 11) (mA 11) (cA 11)]) TA := ⟨aA,mA,cA,rfl,fun i hi => (hA i hi).weak fun _ _ => trivial⟩
 clear hA
 obtain ⟨kA,eA,cA2,fA⟩ := hIA.facts insA7.1 (by decide)
 have A0 : tabS TA 0 = pA7 := (eA 0 (by decide)).trans insA7.2.1
 have A1 : tabS TA 1 = pB7 := (eA 1 (by decide)).trans insA7.2.2.1
 clear hIA eA hlw hch1
 go_upto_region 2 with (first | (refine zbf (vs := [.slice none 0 0,.slice none 0 0,.slice none 0 0,.slice none 0 0,.slice none 0 0,.slice none 0 0,.slice none 0 0,.slice none 0 0,.slice none 0 0,.slice none 0 0,.slice none 0 0,.slice none 0 0]) (by kernel_rfl) rfl rfl ?_; intro wa hba hBa) | (refine zam (us := [.slice (aA 0) (mA 0) (cA 0),.slice (aA 1) (mA 1) (cA 1),.slice (aA 2) (mA 2) (cA 2),.slice (aA 3) (mA 3) (cA 3),.slice (aA 4) (mA 4) (cA 4),.slice (aA 5) (mA 5) (cA 5),.slice (aA 6) (mA 6) (cA 6),.slice (aA 7) (mA 7) (cA 7),.slice (aA 8) (mA 8) (cA 8),.slice (aA 9) (mA 9) (cA 9),.slice (aA 10) (mA 10) (cA 10),.slice (aA 11) (mA 11) (cA 11)]) (by kernel_rfl) rfl rfl rfl rfl rfl rfl hBa rfl ?_; intro wbA hgw xA) | fail)
 have hbw := hba.grown hgw hba.size fun k hk => by injection hk with hk; omega
 replace rA := rA.below hbw
 replace q := q.trans (hbw.mono q.size)
 clear hbw hgw hba hBa
 have d0 := xA.cell (i := 0) rfl
 have d1 := xA.cell (i := 1) rfl
 have d2 := xA.cell (i := 2) rfl
 have d3 := xA.cell (i := 3) rfl
 have d4 := xA.cell (i := 4) rfl
 have d5 := xA.cell (i := 5) rfl
 have d6 := xA.cell (i := 6) rfl
 have d7 := xA.cell (i := 7) rfl
 have d8 := xA.cell (i := 8) rfl
 have d9 := xA.cell (i := 9) rfl
 have d10 := xA.cell (i := 10) rfl
 have d11 := xA.cell (i := 11) rfl
 go_wp2_with (first | (refine zbt byP rfl (fun _ => rfl) rfl rfl (by first | (simp; done) | (simp [Act.put]; done)) rfl (by decide) ?_; intro u1 g1 k1 w1 hb1 hr1) | fail)
 obtain rfl : k1 = 1 := hr1.s.len.1
 clear d0 d1 d2 d3 d4 d5 d6 d7 d8 d9 d10 d11
 replace rA := rA.below hb1
 replace xA := xA.below hb1 xA.lt
 replace q := q.trans (hb1.mono q.size)
 obtain ⟨w4,hw4⟩ : ∃ w4,w4 = w1.alloc (.cells #[.int .i64 0,.slice (some ⟨g1,0,none⟩) 1 1,.bool true,.slice none 0 0] 51) := ⟨_,rfl⟩
 have hb4 : Below w1.heap.size w1 w4 := by rw [hw4]; exact (Below.refl _ _).alloc (Nat.le_refl _) _
 have xr : BoxN w4 w1.heap.size 51 [.int .i64 0,.slice (some ⟨g1,0,none⟩) 1 1,.bool true,.slice none 0 0] := by rw [hw4]; exact BoxN.new _ _ _
 rw [← hw4]
 clear hw4
 replace rA := rA.below hb4
 replace xA := xA.below hb4 xA.lt
 replace q := q.trans (hb4.mono q.size)
 have hlw : RdL Elt.wr (fun _ => True) w4 (.slice (some ⟨w1.heap.size,0,none⟩) 1 1) [xC7] := one_w xr ((hr1.s.below hb4).weak fun _ _ => trivial) (RdS.nil _ _) ⟨by decide,by decide⟩
 clear hr1 hb1 hb4 xr
 have hch2 : okS TA → ∀ j,j < 4 → ∀ p ∈ prN (TA j),p.chain.length ≤ 102 := fun _ j hj p hp => cA2 j hj p hp
 have hcl := zdv w4 (T := TA) (s := 5) (l := [xC7]) (K := 102) rA fA ⟨by decide,by decide⟩ hlw hch2 (by decide)
 unfold zma at hcl
 rw [(insC7 kA A0).1] at hcl
 refine hcl.mono ?_
 rintro e wcB ⟨vB,TB,rfl,⟨aB,mB,cB,rfl,hB⟩,hb,hIB⟩
 clear hcl
 replace rA := rA.below hb
 replace xA := xA.below hb xA.lt
 replace q := q.trans (hb.mono q.size)
 clear hb
 have rB : RdSt (fun _ => True) wcB (.agg #[.slice (aB 0) (mB 0) (cB 0),.slice (aB 1) (mB 1) (cB 1),.slice (aB 2) (mB 2) (cB 2),.slice (aB 3) (mB 3) (cB 3),.slice (aB 4) (mB 4) (cB 4),.slice (aB 5) (mB 5) (cB 5),.slice (aB 6) (mB 6) (cB 6),.slice (aB 7) (mB 7) (cB 7),.slice (aB 8) (mB 8) (cB 8),.slice (aB 9) (mB 9) (cB 9),.slice (aB 10) (mB 10) (cB 10),.slice (aB 11) (mB 11) (cB 11)]) TB := ⟨aB,mB,cB,rfl,fun i hi => (hB i hi).weak fun _ _ => trivial⟩
 clear hB
 clear hlw hch2
 obtain ⟨kB,eB,cB2,fB⟩ := hIB.facts (insC7 kA A0).1 (by decide)
 have B0 : tabS TB 0 = pC7 := (eB 0 (by decide)).trans (insC7 kA A0).2.1
 have B1 : tabS TB 1 = pB7 := ((eB 1 (by decide)).trans ((insC7 kA A0).2.2 1 (by decide))).trans A1
 clear hIB eB
 go_upto_region 3 with (first | (refine zbf (vs := [.slice none 0 0,.slice none 0 0,.slice none 0 0,.slice none 0 0,.slice none 0 0,.slice none 0 0,.slice none 0 0,.slice none 0 0,.slice none 0 0,.slice none 0 0,.slice none 0 0,.slice none 0 0]) (by kernel_rfl) rfl rfl ?_; intro wa hba hBa) | (refine zam (us := [.slice (aB 0) (mB 0) (cB 0),.slice (aB 1) (mB 1) (cB 1),.slice (aB 2) (mB 2) (cB 2),.slice (aB 3) (mB 3) (cB 3),.slice (aB 4) (mB 4) (cB 4),.slice (aB 5) (mB 5) (cB 5),.slice (aB 6) (mB 6) (cB 6),.slice (aB 7) (mB 7) (cB 7),.slice (aB 8) (mB 8) (cB 8),.slice (aB 9) (mB 9) (cB 9),.slice (aB 10) (mB 10) (cB 10),.slice (aB 11) (mB 11) (cB 11)]) (by kernel_rfl) rfl rfl rfl rfl rfl rfl hBa rfl ?_; intro wbB hgw xB) | fail)
 have hbw := hba.grown hgw hba.size fun k hk => by injection hk with hk; omega
 replace rA := rA.below hbw
 replace xA := xA.below hbw xA.lt
 replace rB := rB.below hbw
 replace q := q.trans (hbw.mono q.size)
 clear hbw hgw hba hBa
 have d0 := xB.cell (i := 0) rfl
 have d1 := xB.cell (i := 1) rfl
 have d2 := xB.cell (i := 2) rfl
 have d3 := xB.cell (i := 3) rfl
 have d4 := xB.cell (i := 4) rfl
 have d5 := xB.cell (i := 5) rfl
 have d6 := xB.cell (i := 6) rfl
 have d7 := xB.cell (i := 7) rfl
 have d8 := xB.cell (i := 8) rfl
 have d9 := xB.cell (i := 9) rfl
 have d10 := xB.cell (i := 10) rfl
 have d11 := xB.cell (i := 11) rfl
 go_wp2_with (first | (refine zbt byP rfl (fun _ => rfl) rfl rfl (by first | (simp; done) | (simp [Act.put]; done)) rfl (by decide) ?_; intro u1 g1 k1 w1 hb1 hr1) | fail)
 obtain rfl : k1 = 1 := hr1.s.len.1
 clear d0 d1 d2 d3 d4 d5 d6 d7 d8 d9 d10 d11
 replace rA := rA.below hb1
 replace xA := xA.below hb1 xA.lt
 replace rB := rB.below hb1
 replace xB := xB.below hb1 xB.lt
 replace q := q.trans (hb1.mono q.size)
 obtain ⟨w4,hw4⟩ : ∃ w4,w4 = w1.alloc (.cells #[.int .i64 0,.slice (some ⟨g1,0,none⟩) 1 1,.bool false,.slice none 0 0] 51) := ⟨_,rfl⟩
 have hb4 : Below w1.heap.size w1 w4 := by rw [hw4]; exact (Below.refl _ _).alloc (Nat.le_refl _) _
 have xr : BoxN w4 w1.heap.size 51 [.int .i64 0,.slice (some ⟨g1,0,none⟩) 1 1,.bool false,.slice none 0 0] := by rw [hw4]; exact BoxN.new _ _ _
 rw [← hw4]
 clear hw4
 replace rA := rA.below hb4
 replace xA := xA.below hb4 xA.lt
 replace rB := rB.below hb4
 replace xB := xB.below hb4 xB.lt
 replace q := q.trans (hb4.mono q.size)
 have hlw : RdL Elt.wr (fun _ => True) w4 (.slice (some ⟨w1.heap.size,0,none⟩) 1 1) [xD7] := one_w xr ((hr1.s.below hb4).weak fun _ _ => trivial) (RdS.nil _ _) ⟨by decide,by decide⟩
 clear hr1 hb1 hb4 xr
 have hch3 : okS TB → ∀ j,j < 4 → ∀ p ∈ prN (TB j),p.chain.length ≤ 103 := fun _ j hj p hp => cB2 j hj p hp
 have hcl := zdv w4 (T := TB) (s := 5) (l := [xD7]) (K := 103) rB fB ⟨by decide,by decide⟩ hlw hch3 (by decide)
 unfold zma at hcl
 rw [insD7 kB B0] at hcl
 refine hcl.mono ?_
 rintro e wcC ⟨vC,TC,rfl,⟨aC,mC,cC,rfl,hC⟩,hb,hIC⟩
 clear hcl
 replace rA := rA.below hb
 replace xA := xA.below hb xA.lt
 replace rB := rB.below hb
 replace xB := xB.below hb xB.lt
 replace q := q.trans (hb.mono q.size)
 clear hb
 have rC : RdSt (fun _ => True) wcC (.agg #[.slice (aC 0) (mC 0) (cC 0),.slice (aC 1) (mC 1) (cC 1),.slice (aC 2) (mC 2) (cC 2),.slice (aC 3) (mC 3) (cC 3),.slice (aC 4) (mC 4) (cC 4),.slice (aC 5) (mC 5) (cC 5),.slice (aC 6) (mC 6) (cC 6),.slice (aC 7) (mC 7) (cC 7),.slice (aC 8) (mC 8) (cC 8),.slice (aC 9) (mC 9) (cC 9),.slice (aC 10) (mC 10) (cC 10),.slice (aC 11) (mC 11) (cC 11)]) TC := ⟨aC,mC,cC,rfl,fun i hi => (hC i hi).weak fun _ _ => trivial⟩
 clear hC
 clear hlw hch3
 go_upto_region 4 with (first | (refine zbf (vs := [.slice none 0 0,.slice none 0 0,.slice none 0 0,.slice none 0 0,.slice none 0 0,.slice none 0 0,.slice none 0 0,.slice none 0 0,.slice none 0 0,.slice none 0 0,.slice none 0 0,.slice none 0 0]) (by kernel_rfl) rfl rfl ?_; intro wa hba hBa) | (refine zam (us := [.slice (aC 0) (mC 0) (cC 0),.slice (aC 1) (mC 1) (cC 1),.slice (aC 2) (mC 2) (cC 2),.slice (aC 3) (mC 3) (cC 3),.slice (aC 4) (mC 4) (cC 4),.slice (aC 5) (mC 5) (cC 5),.slice (aC 6) (mC 6) (cC 6),.slice (aC 7) (mC 7) (cC 7),.slice (aC 8) (mC 8) (cC 8),.slice (aC 9) (mC 9) (cC 9),.slice (aC 10) (mC 10) (cC 10),.slice (aC 11) (mC 11) (cC 11)]) (by kernel_rfl) rfl rfl rfl rfl rfl rfl hBa rfl ?_; intro wbC hgw xC) | fail)
 have hbw := hba.grown hgw hba.size fun k hk => by injection hk with hk; omega
 replace rA := rA.below hbw
 replace xA := xA.below hbw xA.lt
 replace rB := rB.below hbw
 replace xB := xB.below hbw xB.lt
 replace rC := rC.below hbw
 replace q := q.trans (hbw.mono q.size)
 clear hbw hgw hba hBa
 clear xC rC
 have d0 := xB.cell (i := 0) rfl
 have d1 := xB.cell (i := 1) rfl
 have d2 := xB.cell (i := 2) rfl
 have d3 := xB.cell (i := 3) rfl
 have d4 := xB.cell (i := 4) rfl
 have d5 := xB.cell (i := 5) rfl
 have d6 := xB.cell (i := 6) rfl
 have d7 := xB.cell (i := 7) rfl
 have d8 := xB.cell (i := 8) rfl
 have d9 := xB.cell (i := 9) rfl
 have d10 := xB.cell (i := 10) rfl
 have d11 := xB.cell (i := 11) rfl
 go_wp2_with fail
 clear d0 d1 d2 d3 d4 d5 d6 d7 d8 d9 d10 d11
 obtain ⟨w4,hw4⟩ : ∃ w4,w4 = wbC.alloc (.cells #[.int .i64 4,.slice none 0 0,.bool false,.slice none 0 0] 51) := ⟨_,rfl⟩
 have hb4 : Below wbC.heap.size wbC w4 := by rw [hw4]; exact (Below.refl _ _).alloc (Nat.le_refl _) _
 have xr : BoxN w4 wbC.heap.size 51 [.int .i64 4,.slice none 0 0,.bool false,.slice none 0 0] := by rw [hw4]; exact BoxN.new _ _ _
 rw [← hw4]
 clear hw4
 replace rA := rA.below hb4
 replace xA := xA.below hb4 xA.lt
 replace rB := rB.below hb4
 replace xB := xB.below hb4 xB.lt
 replace q := q.trans (hb4.mono q.size)
 have hlw : RdL Elt.wr (fun _ => True) w4 (.slice (some ⟨wbC.heap.size,0,none⟩) 1 1) [xE7] := one_w xr (RdS.nil _ _) (RdS.nil _ _) ⟨by decide,by decide⟩
 clear hb4 xr
 have hch4 : okS TB → ∀ j,j < 4 → ∀ p ∈ prN (TB j),p.chain.length ≤ 103 := fun _ j hj p hp => cB2 j hj p hp
 have hcl := zdv w4 (T := TB) (s := 6) (l := [xE7]) (K := 103) rB fB ⟨by decide,by decide⟩ hlw hch4 (by decide)
 unfold zma at hcl
 rw [insE7 TB] at hcl
 refine hcl.mono ?_
 rintro e wcD ⟨vD,TD,rfl,⟨aD,mD,cD,rfl,hD⟩,hb,hID⟩
 clear hcl
 replace rA := rA.below hb
 replace xA := xA.below hb xA.lt
 replace rB := rB.below hb
 replace xB := xB.below hb xB.lt
 replace q := q.trans (hb.mono q.size)
 clear hb
 have rD : RdSt (fun _ => True) wcD (.agg #[.slice (aD 0) (mD 0) (cD 0),.slice (aD 1) (mD 1) (cD 1),.slice (aD 2) (mD 2) (cD 2),.slice (aD 3) (mD 3) (cD 3),.slice (aD 4) (mD 4) (cD 4),.slice (aD 5) (mD 5) (cD 5),.slice (aD 6) (mD 6) (cD 6),.slice (aD 7) (mD 7) (cD 7),.slice (aD 8) (mD 8) (cD 8),.slice (aD 9) (mD 9) (cD 9),.slice (aD 10) (mD 10) (cD 10),.slice (aD 11) (mD 11) (cD 11)]) TD := ⟨aD,mD,cD,rfl,fun i hi => (hD i hi).weak fun _ _ => trivial⟩
 clear hD
 clear hlw hch4
 go_upto_region 5 with (first | (refine zbf (vs := [.slice none 0 0,.slice none 0 0,.slice none 0 0,.slice none 0 0,.slice none 0 0,.slice none 0 0,.slice none 0 0,.slice none 0 0,.slice none 0 0,.slice none 0 0,.slice none 0 0,.slice none 0 0]) (by kernel_rfl) rfl rfl ?_; intro wa hba hBa) | (refine zam (us := [.slice (aD 0) (mD 0) (cD 0),.slice (aD 1) (mD 1) (cD 1),.slice (aD 2) (mD 2) (cD 2),.slice (aD 3) (mD 3) (cD 3),.slice (aD 4) (mD 4) (cD 4),.slice (aD 5) (mD 5) (cD 5),.slice (aD 6) (mD 6) (cD 6),.slice (aD 7) (mD 7) (cD 7),.slice (aD 8) (mD 8) (cD 8),.slice (aD 9) (mD 9) (cD 9),.slice (aD 10) (mD 10) (cD 10),.slice (aD 11) (mD 11) (cD 11)]) (by kernel_rfl) rfl rfl rfl rfl rfl rfl hBa rfl ?_; intro wbD hgw xD) | fail)
 have hbw := hba.grown hgw hba.size fun k hk => by injection hk with hk; omega
 replace rA := rA.below hbw
 replace xA := xA.below hbw xA.lt
 replace rB := rB.below hbw
 replace xB := xB.below hbw xB.lt
 replace rD := rD.below hbw
 replace q := q.trans (hbw.mono q.size)
 clear hbw hgw hba hBa
 clear xD rD
 clear xA rA
 have P0 : zdo TB 0 = pC7 := by
  unfold zdo
  rw [if_pos ⟨by decide,by decide,kB⟩]
  exact B0
 have d0 := xB.cell (i := 0) rfl
 have d1 := xB.cell (i := 1) rfl
 have d2 := xB.cell (i := 2) rfl
 have d3 := xB.cell (i := 3) rfl
 have d4 := xB.cell (i := 4) rfl
 have d5 := xB.cell (i := 5) rfl
 have d6 := xB.cell (i := 6) rfl
 have d7 := xB.cell (i := 7) rfl
 have d8 := xB.cell (i := 8) rfl
 have d9 := xB.cell (i := 9) rfl
 have d10 := xB.cell (i := 10) rfl
 have d11 := xB.cell (i := 11) rfl
 go_wp2_with (first | (refine zbt byP rfl (fun _ => rfl) rfl rfl (by first | (simp; done) | (simp [Act.put]; done)) rfl (by decide) ?_; intro u1 g1 k1 w1 hb1 hr1) | fail)
 obtain rfl : k1 = 1 := hr1.s.len.1
 clear d0 d1 d2 d3 d4 d5 d6 d7 d8 d9 d10 d11
 replace rB := rB.below hb1
 replace xB := xB.below hb1 xB.lt
 replace q := q.trans (hb1.mono q.size)
 have hcl : Calls Tryz.prog 16 _ w1 (zki w1 (getP (zdo TB 0) [97] 4)) := zjf w1 (T := TB) (t := 0) (s := 4) rB fB hr1.s
 rw [P0,get7.1] at hcl
 refine hcl.mono ?_
 rintro e wg1 ⟨va1,vc1,e5,rv1,hb⟩
 clear hcl hr1 hb1
 replace e5 : e = .returned (.tuple #[.slice va1 1 vc1,.bool true]) := e5
 subst e5
 replace rB := rB.below hb
 replace xB := xB.below hb xB.lt
 replace q := q.trans (hb.mono q.size)
 clear hb
 replace rv1 : RdS (fun _ => True) wg1 (.slice va1 1 vc1) [118] := rv1.weak fun _ _ => trivial
 have d0 := xB.cell (i := 0) rfl
 have d1 := xB.cell (i := 1) rfl
 have d2 := xB.cell (i := 2) rfl
 have d3 := xB.cell (i := 3) rfl
 have d4 := xB.cell (i := 4) rfl
 have d5 := xB.cell (i := 5) rfl
 have d6 := xB.cell (i := 6) rfl
 have d7 := xB.cell (i := 7) rfl
 have d8 := xB.cell (i := 8) rfl
 have d9 := xB.cell (i := 9) rfl
 have d10 := xB.cell (i := 10) rfl
 have d11 := xB.cell (i := 11) rfl
 go_wp2_with (first | (refine zbt byP rfl (fun _ => rfl) rfl rfl (by first | (simp; done) | (simp [Act.put]; done)) rfl (by decide) ?_; intro u1 g1 k1 w1 hb1 hr1) | fail)
 obtain rfl : k1 = 1 := hr1.s.len.1
 clear d0 d1 d2 d3 d4 d5 d6 d7 d8 d9 d10 d11
 replace rB := rB.below hb1
 replace xB := xB.below hb1 xB.lt
 replace rv1 := rv1.below hb1
 replace q := q.trans (hb1.mono q.size)
 have hcl : Calls Tryz.prog 16 _ w1 (zki w1 (getP (zdo TB 0) [97] 2)) := zjf w1 (T := TB) (t := 0) (s := 2) rB fB hr1.s
 rw [P0,get7.2.1] at hcl
 refine hcl.mono ?_
 rintro e wg2 ⟨va2,vc2,e5,rv2,hb⟩
 clear hcl hr1 hb1
 replace e5 : e = .returned (.tuple #[.slice va2 0 vc2,.bool false]) := e5
 subst e5
 replace rB := rB.below hb
 replace xB := xB.below hb xB.lt
 replace rv1 := rv1.below hb
 replace q := q.trans (hb.mono q.size)
 clear hb
 clear rv2
 have d0 := xB.cell (i := 0) rfl
 have d1 := xB.cell (i := 1) rfl
 have d2 := xB.cell (i := 2) rfl
 have d3 := xB.cell (i := 3) rfl
 have d4 := xB.cell (i := 4) rfl
 have d5 := xB.cell (i := 5) rfl
 have d6 := xB.cell (i := 6) rfl
 have d7 := xB.cell (i := 7) rfl
 have d8 := xB.cell (i := 8) rfl
 have d9 := xB.cell (i := 9) rfl
 have d10 := xB.cell (i := 10) rfl
 have d11 := xB.cell (i := 11) rfl
 go_wp2_with (first | (refine zbt byP rfl (fun _ => rfl) rfl rfl (by first | (simp; done) | (simp [Act.put]; done)) rfl (by decide) ?_; intro u1 g1 k1 w1 hb1 hr1) | fail)
 obtain rfl : k1 = 1 := hr1.s.len.1
 clear d0 d1 d2 d3 d4 d5 d6 d7 d8 d9 d10 d11
 replace rB := rB.below hb1
 replace xB := xB.below hb1 xB.lt
 replace rv1 := rv1.below hb1
 replace q := q.trans (hb1.mono q.size)
 have hcl : Calls Tryz.prog 16 _ w1 (zki w1 (getP (zdo TB 0) [97] 5)) := zjf w1 (T := TB) (t := 0) (s := 5) rB fB hr1.s
 rw [P0,get7.2.2] at hcl
 refine hcl.mono ?_
 rintro e wg3 ⟨va3,vc3,e5,rv3,hb⟩
 clear hcl hr1 hb1
 replace e5 : e = .returned (.tuple #[.slice va3 0 vc3,.bool false]) := e5
 subst e5
 replace rB := rB.below hb
 replace xB := xB.below hb xB.lt
 replace rv1 := rv1.below hb
 replace q := q.trans (hb.mono q.size)
 clear hb
 clear rv3
 go_upto_region 9 with (first | (refine zbf (vs := [.int .i64 0,.slice none 0 0,.slice none 0 0,.bool false]) (by kernel_rfl) rfl rfl ?_; intro wa hba hBa) | (refine zam (us := [.int .i64 0,.slice none 0 0,.slice none 0 0,.bool true]) (by kernel_rfl) rfl rfl rfl rfl rfl rfl hBa rfl ?_; intro wbS hgw xS) | fail)
 have hbw := hba.grown hgw hba.size fun k hk => by injection hk with hk; omega
 replace rB := rB.below hbw
 replace xB := xB.below hbw xB.lt
 replace rv1 := rv1.below hbw
 replace q := q.trans (hbw.mono q.size)
 clear hbw hgw hba hBa
 have d0 := xB.cell (i := 0) rfl
 have d1 := xB.cell (i := 1) rfl
 have d2 := xB.cell (i := 2) rfl
 have d3 := xB.cell (i := 3) rfl
 have d4 := xB.cell (i := 4) rfl
 have d5 := xB.cell (i := 5) rfl
 have d6 := xB.cell (i := 6) rfl
 have d7 := xB.cell (i := 7) rfl
 have d8 := xB.cell (i := 8) rfl
 have d9 := xB.cell (i := 9) rfl
 have d10 := xB.cell (i := 10) rfl
 have d11 := xB.cell (i := 11) rfl
 have s0 := xS.cell (i := 0) rfl
 have s1 := xS.cell (i := 1) rfl
 have s2 := xS.cell (i := 2) rfl
 have s3 := xS.cell (i := 3) rfl
 have hcl : Calls Tryz.prog 19 _ wbS (ScEnd wbS (zgd (zdo TB 0) (⟨0,[],[],true⟩ : Sp) 3)) := zhq wbS (T := TB) (x := (⟨0,[],[],true⟩ : Sp)) (s := 3) rB fB (S2 := fun _ => True) ⟨none,0,none,0,rfl,RdS.nil _ _,RdS.nil _ _,by constructor <;> decide⟩
 rw [P0] at hcl
 go_wp2_with fail
 refine hcl.mono ?_
 rintro e wn ⟨na,nc,rfl,_,hb⟩
 rw [scan7]
 clear hcl d0 d1 d2 d3 d4 d5 d6 d7 d8 d9 d10 d11 s0 s1 s2 s3
 replace rB := rB.below hb
 replace xB := xB.below hb xB.lt
 replace rv1 := rv1.below hb
 replace xS := xS.below hb xS.lt
 replace q := q.trans (hb.mono q.size)
 clear hb
 have d0 := xB.cell (i := 0) rfl
 have d1 := xB.cell (i := 1) rfl
 have d2 := xB.cell (i := 2) rfl
 have d3 := xB.cell (i := 3) rfl
 have d4 := xB.cell (i := 4) rfl
 have d5 := xB.cell (i := 5) rfl
 have d6 := xB.cell (i := 6) rfl
 have d7 := xB.cell (i := 7) rfl
 have d8 := xB.cell (i := 8) rfl
 have d9 := xB.cell (i := 9) rfl
 have d10 := xB.cell (i := 10) rfl
 have d11 := xB.cell (i := 11) rfl
 have hcl := zfg wn (o := 5) rB fB
 go_wp2_with fail
 refine hcl.mono ?_
 rintro e wv ⟨vV,TV,rfl,hV,⟨aV,mV,cV,rfl,hrV⟩,hb⟩
 clear hcl d0 d1 d2 d3 d4 d5 d6 d7 d8 d9 d10 d11
 replace rB := rB.below hb
 replace xB := xB.below hb xB.lt
 replace rv1 := rv1.below hb
 replace xS := xS.below hb xS.lt
 replace q := q.trans (hb.mono q.size)
 clear hb
 obtain ⟨kV,fV,eV⟩ := hV.facts kB fB
 have rV : RdSt (fun _ => True) wv (.agg #[.slice (aV 0) (mV 0) (cV 0),.slice (aV 1) (mV 1) (cV 1),.slice (aV 2) (mV 2) (cV 2),.slice (aV 3) (mV 3) (cV 3),.slice (aV 4) (mV 4) (cV 4),.slice (aV 5) (mV 5) (cV 5),.slice (aV 6) (mV 6) (cV 6),.slice (aV 7) (mV 7) (cV 7),.slice (aV 8) (mV 8) (cV 8),.slice (aV 9) (mV 9) (cV 9),.slice (aV 10) (mV 10) (cV 10),.slice (aV 11) (mV 11) (cV 11)]) TV := ⟨aV,mV,cV,rfl,fun i hi => (hrV i hi).weak fun _ _ => trivial⟩
 have N0 : mV 0 = 0 := by
  obtain ⟨_,_,_,_,_,_,e,_⟩ := hrV 0 (by decide)
  injection e with e
  injection e with e
  injection e with e _
  injection e with _ e _
  have h := eV 0 (by decide)
  rw [B0,vac7.1] at h
  have h2 := zn9 h.1 (by rw [h.2]; simp)
  rw [h.2] at h2
  exact e.trans h2
 have N1 : mV 3 = 1 := by
  obtain ⟨_,_,_,_,_,_,e,_⟩ := hrV 1 (by decide)
  injection e with e
  injection e with e
  injection e with e _
  injection e with _ e _
  have h := eV 1 (by decide)
  rw [B1,vac7.2] at h
  have h2 := zn9 h.1 (by rw [h.2]; decide)
  rw [h.2] at h2
  exact e.trans h2
 clear hV eV hrV
 replace N0 := Lib.hid N0
 replace N1 := Lib.hid N1
 have hN4 := fun (W : World) (hb : Below wv.heap.size wv W) => (show Calls Tryz.prog 22 #[.agg #[.slice (aB 0) (mB 0) (cB 0),.slice (aB 1) (mB 1) (cB 1),.slice (aB 2) (mB 2) (cB 2),.slice (aB 3) (mB 3) (cB 3),.slice (aB 4) (mB 4) (cB 4),.slice (aB 5) (mB 5) (cB 5),.slice (aB 6) (mB 6) (cB 6),.slice (aB 7) (mB 7) (cB 7),.slice (aB 8) (mB 8) (cB 8),.slice (aB 9) (mB 9) (cB 9),.slice (aB 10) (mB 10) (cB 10),.slice (aB 11) (mB 11) (cB 11)],.agg #[.int .i64 0,.slice none 0 0,.slice none 0 0,.bool true],.int .i64 4] W (fun e w2 => e = .returned (.bool (newP (zdo TB 0) (⟨0,[],[],true⟩ : Sp) 4)) ∧ Below W.heap.size W w2) from ze4 W (T := TB) (x := (⟨0,[],[],true⟩ : Sp)) (s := 4) (rB.below hb) fB (S2 := fun _ => True) ⟨none,0,none,0,rfl,RdS.nil _ _,RdS.nil _ _,by constructor <;> decide⟩)
 rw [P0,new7.1] at hN4
 have hN5 := fun (W : World) (hb : Below wv.heap.size wv W) => (show Calls Tryz.prog 22 #[.agg #[.slice (aB 0) (mB 0) (cB 0),.slice (aB 1) (mB 1) (cB 1),.slice (aB 2) (mB 2) (cB 2),.slice (aB 3) (mB 3) (cB 3),.slice (aB 4) (mB 4) (cB 4),.slice (aB 5) (mB 5) (cB 5),.slice (aB 6) (mB 6) (cB 6),.slice (aB 7) (mB 7) (cB 7),.slice (aB 8) (mB 8) (cB 8),.slice (aB 9) (mB 9) (cB 9),.slice (aB 10) (mB 10) (cB 10),.slice (aB 11) (mB 11) (cB 11)],.agg #[.int .i64 0,.slice none 0 0,.slice none 0 0,.bool true],.int .i64 5] W (fun e w2 => e = .returned (.bool (newP (zdo TB 0) (⟨0,[],[],true⟩ : Sp) 5)) ∧ Below W.heap.size W w2) from ze4 W (T := TB) (x := (⟨0,[],[],true⟩ : Sp)) (s := 5) (rB.below hb) fB (S2 := fun _ => True) ⟨none,0,none,0,rfl,RdS.nil _ _,RdS.nil _ _,by constructor <;> decide⟩)
 rw [P0,new7.2] at hN5
 have hCk := fun (W : World) (hb : Below wv.heap.size wv W) => zcx W (rV.below hb) fV
 rw [decide_eq_true kV] at hCk
 go_wp2_with (first | (refine zbf (vs := [.slice none 0 0,.slice none 0 0,.slice none 0 0,.slice none 0 0,.slice none 0 0,.slice none 0 0,.slice none 0 0,.slice none 0 0,.slice none 0 0,.slice none 0 0,.slice none 0 0,.slice none 0 0]) (by kernel_rfl) rfl rfl ?_; intro wa hba hBa) | (refine zam (us := [.slice (aV 0) (mV 0) (cV 0),.slice (aV 1) (mV 1) (cV 1),.slice (aV 2) (mV 2) (cV 2),.slice (aV 3) (mV 3) (cV 3),.slice (aV 4) (mV 4) (cV 4),.slice (aV 5) (mV 5) (cV 5),.slice (aV 6) (mV 6) (cV 6),.slice (aV 7) (mV 7) (cV 7),.slice (aV 8) (mV 8) (cV 8),.slice (aV 9) (mV 9) (cV 9),.slice (aV 10) (mV 10) (cV 10),.slice (aV 11) (mV 11) (cV 11)]) (by kernel_rfl) rfl rfl rfl rfl rfl rfl hBa rfl ?_; intro wbV hgw xV; have hbw := hba.grown hgw hba.size (fun k hk => by injection hk with hk; omega); replace xB := xB.below hbw xB.lt; replace xS := xS.below hbw xS.lt; replace rv1 := rv1.below hbw; have cv1 := znu byP rv1.rd; have st1 : (zbk [118]).toList = [118] := zku _; have d0 := xB.cell (i := 0) rfl; have d1 := xB.cell (i := 1) rfl; have d2 := xB.cell (i := 2) rfl; have d3 := xB.cell (i := 3) rfl; have d4 := xB.cell (i := 4) rfl; have d5 := xB.cell (i := 5) rfl; have d6 := xB.cell (i := 6) rfl; have d7 := xB.cell (i := 7) rfl; have d8 := xB.cell (i := 8) rfl; have d9 := xB.cell (i := 9) rfl; have d10 := xB.cell (i := 10) rfl; have d11 := xB.cell (i := 11) rfl; have s0 := xS.cell (i := 0) rfl; have s1 := xS.cell (i := 1) rfl; have s2 := xS.cell (i := 2) rfl; have s3 := xS.cell (i := 3) rfl; have y0 := xV.cell (i := 0) rfl; have y1 := xV.cell (i := 1) rfl; have y2 := xV.cell (i := 2) rfl; have y3 := xV.cell (i := 3) rfl; have y4 := xV.cell (i := 4) rfl; have y5 := xV.cell (i := 5) rfl; have y6 := xV.cell (i := 6) rfl; have y7 := xV.cell (i := 7) rfl; have y8 := xV.cell (i := 8) rfl; have y9 := xV.cell (i := 9) rfl; have y10 := xV.cell (i := 10) rfl; have y11 := xV.cell (i := 11) rfl; rw [N0.out] at y0; rw [N1.out] at y3) | rw [cv1] | fail)
 simp only [N0.out,N1.out] at hCk
 refine (hN4 _ hbw).mono ?_
 rintro e wx ⟨rfl,hb⟩
 replace xB := xB.below hb xB.lt
 replace xS := xS.below hb xS.lt
 replace xV := xV.below hb xV.lt
 replace hbw := hbw.trans (hb.mono hbw.size)
 clear d0 d1 d2 d3 d4 d5 d6 d7 d8 d9 d10 d11 s0 s1 s2 s3 y0 y1 y2 y3 y4 y5 y6 y7 y8 y9 y10 y11
 clear hb
 have d0 := xB.cell (i := 0) rfl
 have d1 := xB.cell (i := 1) rfl
 have d2 := xB.cell (i := 2) rfl
 have d3 := xB.cell (i := 3) rfl
 have d4 := xB.cell (i := 4) rfl
 have d5 := xB.cell (i := 5) rfl
 have d6 := xB.cell (i := 6) rfl
 have d7 := xB.cell (i := 7) rfl
 have d8 := xB.cell (i := 8) rfl
 have d9 := xB.cell (i := 9) rfl
 have d10 := xB.cell (i := 10) rfl
 have d11 := xB.cell (i := 11) rfl
 have s0 := xS.cell (i := 0) rfl
 have s1 := xS.cell (i := 1) rfl
 have s2 := xS.cell (i := 2) rfl
 have s3 := xS.cell (i := 3) rfl
 have y0 := xV.cell (i := 0) rfl
 have y1 := xV.cell (i := 1) rfl
 have y2 := xV.cell (i := 2) rfl
 have y3 := xV.cell (i := 3) rfl
 have y4 := xV.cell (i := 4) rfl
 have y5 := xV.cell (i := 5) rfl
 have y6 := xV.cell (i := 6) rfl
 have y7 := xV.cell (i := 7) rfl
 have y8 := xV.cell (i := 8) rfl
 have y9 := xV.cell (i := 9) rfl
 have y10 := xV.cell (i := 10) rfl
 have y11 := xV.cell (i := 11) rfl
 rw [N0.out] at y0
 rw [N1.out] at y3
 go_wp2_with fail
 refine (hN5 _ hbw).mono ?_
 rintro e wy ⟨rfl,hb⟩
 replace xB := xB.below hb xB.lt
 replace xS := xS.below hb xS.lt
 replace xV := xV.below hb xV.lt
 replace hbw := hbw.trans (hb.mono hbw.size)
 clear d0 d1 d2 d3 d4 d5 d6 d7 d8 d9 d10 d11 s0 s1 s2 s3 y0 y1 y2 y3 y4 y5 y6 y7 y8 y9 y10 y11
 clear hb
 have d0 := xB.cell (i := 0) rfl
 have d1 := xB.cell (i := 1) rfl
 have d2 := xB.cell (i := 2) rfl
 have d3 := xB.cell (i := 3) rfl
 have d4 := xB.cell (i := 4) rfl
 have d5 := xB.cell (i := 5) rfl
 have d6 := xB.cell (i := 6) rfl
 have d7 := xB.cell (i := 7) rfl
 have d8 := xB.cell (i := 8) rfl
 have d9 := xB.cell (i := 9) rfl
 have d10 := xB.cell (i := 10) rfl
 have d11 := xB.cell (i := 11) rfl
 have s0 := xS.cell (i := 0) rfl
 have s1 := xS.cell (i := 1) rfl
 have s2 := xS.cell (i := 2) rfl
 have s3 := xS.cell (i := 3) rfl
 have y0 := xV.cell (i := 0) rfl
 have y1 := xV.cell (i := 1) rfl
 have y2 := xV.cell (i := 2) rfl
 have y3 := xV.cell (i := 3) rfl
 have y4 := xV.cell (i := 4) rfl
 have y5 := xV.cell (i := 5) rfl
 have y6 := xV.cell (i := 6) rfl
 have y7 := xV.cell (i := 7) rfl
 have y8 := xV.cell (i := 8) rfl
 have y9 := xV.cell (i := 9) rfl
 have y10 := xV.cell (i := 10) rfl
 have y11 := xV.cell (i := 11) rfl
 rw [N0.out] at y0
 rw [N1.out] at y3
 go_wp2_with fail
 refine (hCk _ hbw).mono ?_
 rintro e wz ⟨rfl,hb⟩
 go_wp2_with fail
 go_ret
 exact ⟨rfl,q.trans ((hbw.trans (hb.mono hbw.size)).mono q.size)⟩
theorem zg9.read {S:Nat→Prop} {w w':World} {l:List Pr} {a:Option Addr} {k c:Nat} (h:OwnL (Elt.pin Elt.pair S) 77 w.heap.size 0 w' (.slice a k c) l):RdL Elt.pair (fun _=>True) w' (.slice a k c) l:=(h.rdL.unpin).weak fun _ _=>trivial
theorem okP_no {l:List Pr} {i:Nat} (h:i<l.length) (hn:¬ (okV l[i].chain∧l[i].chain≠[]∧l[i].key.length≤16∧(0<i→ltB l[i - 1].key l[i].key=true))):decide (okP l)=false:=decide_eq_false fun h2=>hn (h2 i h)
theorem zjt (w:World) {S:Nat→Prop} {v:Value} {n:Nd} (hr:RdN S w v n) (hw:wN n≤1000000) :
  Calls Tryz.prog 29 #[v] w fun e w'=>e=.returned (.bool (decide (okN n)))∧Below w.heap.size w w':=by
 replace hr:=hr.fit.weak (S':=fun k=>k<w.heap.size) fun _ h=>h.2
 have hr0:=hr
 obtain⟨a1,c1,a2,c2,a3,c3,rfl,r1,r2,r3⟩:=hr
 have hT:=TriV.new w 26 (.slice a1 n.keys.length c1) (.slice a2 n.chains.length c2) (.slice a3 n.kids.length c3)
 have q:Below w.heap.size w (w.alloc (.cells #[.slice a1 n.keys.length c1,.slice a2 n.chains.length c2,.slice a3 n.kids.length c3] 26)):=(Below.refl _ _).alloc (Nat.le_refl _) _
 go_enter Tryz.func29,Tryz.ntmps29
 go_upto_region 1 with (fail)
 generalize w.alloc (.cells #[.slice a1 n.keys.length c1,.slice a2 n.chains.length c2,.slice a3 n.kids.length c3] 26)=W at *
 have t0:=hT.cell0
 have t1:=hT.cell1
 have t2:=hT.cell2
 go_wp2_with fail
 refine (zmt 1000000 n true _ _ _ hw (by omega) (hr0.below q)).mono ?_
 rintro e w1⟨rfl,hb⟩
 replace q:=q.trans (hb.mono q.size)
 replace hT:=hT.below hb hT.lt
 clear hb t0 t1 t2
 by_cases hf:zax n true<0
 ·have H:=Lib.hid (show decide (okN n)=false from decide_eq_false fun h=>by have:=h.1;omega)
  have d:decide (zax n true<0)=true:=decide_eq_true hf
  clear hf
  go_wp2_with fail
  go_ret
  exact⟨by rw [H.out];rfl,q⟩
 ·have d:decide (zax n true<0)=false:=decide_eq_false hf
  have hf0:0≤zax n true:=by omega
  have t0:=hT.cell0
  have t1:=hT.cell1
  have t2:=hT.cell2
  have HF:=Lib.hid hf0
  clear hf hf0
  go_wp2_with fail
  refine (zgt 1000000 n true _ _ _ hw (Nat.le_refl _) (hr0.below q) (fun k hk=>Nat.lt_of_lt_of_le hk q.size) HF.out).mono ?_
  rintro e w2⟨a,k,c,rfl,hO,hb⟩
  replace q:=q.trans (hb.mono q.size)
  have hl:=zg9.read hO
  have hiff:=Lib.hid (show decide (okN n)=decide (okP (zaa n)) from by
   rw [decide_eq_decide]
   exact⟨fun h=>h.2,fun h=>⟨HF.out,h⟩⟩)
  clear hb hO hT t0 t1 t2 d
  generalize zaa n=l at *
  obtain⟨rfl,hnc,hcm⟩:=hl.len
  have hlm:l.length≤9223372036854775807:=by unfold maxLen at hcm;omega
  go_upto_region 5 with (fail)
  go_loopw [4] (fun iv wr=>∃ i:Nat,iv=.int .i64 i∧i≤l.length∧(∀ j (h:j<l.length),j<i→okV l[j].chain∧l[j].chain≠[]∧l[j].key.length≤16∧(0<j→ltB l[j - 1].key l[j].key=true))∧Below w2.heap.size w2 wr) (fun i _=>l.length - (intOf i).toNat)
  case atStart=>exact⟨0,rfl,Nat.zero_le _,fun j _ h=>absurd h (Nat.not_lt_zero _),Below.refl _ _⟩
  case round =>
   obtain⟨i,rfl,hil,hok,q2⟩:=hrel
   rcases Nat.lt_or_ge i l.length with hlt | hge
   ·obtain⟨b,off,A,C,B,D,rfl,c0,c1,hky,hcc⟩:=(hl.below q2).pr i hlt
    go_wp2_with fail
    refine (zjs _ hcc).mono ?_
    rintro e w3⟨rfl,hb⟩
    replace q2:=q2.trans (hb.mono q2.size)
    clear hb c0 c1 hky hcc
    obtain⟨b',off',A,C,B,D,e',c0,c1,hky,hcc⟩:=(hl.below q2).pr i hlt
    injection e' with e';injection e' with e1 e2;subst e1;subst e2
    have hkl:=hky.len
    have hcl:=hcc.len
    unfold maxLen at hkl hcl
    have hk2:=hky.rd
    have hno:=Lib.hid (okP_no hlt)
    by_cases h1:okV l[i].chain
    ·rw [decide_eq_true h1]
     by_cases h2:l[i].chain.length=0
     ·have H:=Lib.hid (hno.out fun h=>h.2.1 (List.eq_nil_of_length_eq_zero h2))
      have d2:((l[i].chain.length:Int)==0)=true:=by rw [beq_iff_eq];omega
      clear h1 h2 hok
      go_upto_region 8 with (fail)
      refine wp_region_quiet_lit (by kernel_rfl) (by kernel_rfl) ?_
      repeat (first | go_big_quiet_step (fail))
      first | (refine wpQuiet_nil ?_;intro _ hw';obtain⟨nq,hw''⟩:=hw';subst hw'') | intro nq
      go_wp2_with fail
      go_ret
      exact⟨by rw [hiff.out,H.out];rfl,q.trans ((Below.drewN q2 _).mono q.size)⟩
     ·have d2:((l[i].chain.length:Int)==0)=false:=by rw [beq_eq_false_iff_ne];omega
      have h2':l[i].chain≠[]:=fun e=>h2 (by rw [e];rfl)
      by_cases h3:16<l[i].key.length
      ·have H:=Lib.hid (hno.out fun h=>by have:=h.2.2.1;omega)
       have d3:decide ((16:Int)<l[i].key.length)=true:=decide_eq_true (by omega)
       clear h1 h2 h2' hok
       go_upto_region 8 with (fail)
       refine wp_region_quiet_lit (by kernel_rfl) (by kernel_rfl) ?_
       repeat (first | go_big_quiet_step (fail))
       first | (refine wpQuiet_nil ?_;intro _ hw';obtain⟨nq,hw''⟩:=hw';subst hw'') | intro nq
       go_wp2_with fail
       go_ret
       exact⟨by rw [hiff.out,H.out];rfl,q.trans ((Below.drewN q2 _).mono q.size)⟩
      ·have d3:decide ((16:Int)<l[i].key.length)=false:=decide_eq_false (by omega)
       have h3':l[i].key.length≤16:=by omega
       cases i with
       | zero =>
        have H:=Lib.hid (show ∀ j (h:j<l.length),j<1→okV l[j].chain∧l[j].chain≠[]∧l[j].key.length≤16∧(0<j→ltB l[j - 1].key l[j].key=true) from fun j hj h=>by
         obtain rfl:j=0:=by omega
         exact⟨h1,h2',h3',fun h=>absurd h (Nat.lt_irrefl _)⟩)
        clear h1 h2 h2' h3 h3' hok
        simp only [Nat.zero_mul,Nat.add_zero] at c0 c1
        go_upto_region 8 with (fail)
        refine wp_region_quiet_lit (by kernel_rfl) (by kernel_rfl) ?_
        repeat (first | go_big_quiet_step (fail))
        first | (refine wpQuiet_nil ?_;intro _ hw';obtain⟨nq,hw''⟩:=hw';subst hw'') | intro nq
        go_wp2_with fail
        go_roundw
        case rel=>exact⟨1,by go_num,by omega,H.out,Below.drewN q2 _⟩
        case measure=>simp [intOf];omega
       | succ i =>
        have hlt':i<l.length:=by omega
        obtain⟨b',off',A',C',B',D',e',c0',c1',hky',hcc'⟩:=(hl.below q2).pr i hlt'
        injection e' with e';injection e' with e1 e2;subst e1;subst e2
        have hk2':=hky'.rd
        have e1:((i+1:Nat):Int) - 1=(i:Int):=by omega
        cases h4:ltB l[i].key l[i+1].key with
        | true =>
         have H:=Lib.hid (show ∀ j (h:j<l.length),j<i+2→okV l[j].chain∧l[j].chain≠[]∧l[j].key.length≤16∧(0<j→ltB l[j - 1].key l[j].key=true) from fun j hj h=>by
          rcases Nat.lt_or_ge j (i+1) with h5 | h5
          ·exact hok j hj h5
          ·obtain rfl:j=i+1:=by omega
           exact⟨h1,h2',h3',fun _=>h4⟩)
         have d4:Op.bytesLess (zbk l[i].key).toList (zbk l[i+1].key).toList=true:=str_lt.trans h4
         clear h1 h2 h2' h3 h3' h4 hok
         go_upto_region 8 with (fail)
         refine wp_region_quiet_lit (by kernel_rfl) (by kernel_rfl) ?_
         repeat (first | go_big_quiet_step (fail) | (go_big_quiet_want;refine zar byP rfl rfl hk2' ?_;go_big_quiet_on;go_simp) | (go_big_quiet_want;refine zar byP rfl rfl hk2 ?_;go_big_quiet_on;go_simp))
         first | (refine wpQuiet_nil ?_;intro _ hw';obtain⟨nq,hw''⟩:=hw';subst hw'') | intro nq
         go_wp2_with fail
         go_roundw
         case rel=>exact⟨i+2,by go_num,by omega,H.out,Below.drewN q2 _⟩
         case measure=>simp [intOf];omega
        | false =>
         have H:=Lib.hid (hno.out fun h=>by have:=h.2.2.2 (Nat.succ_pos _);simp only [Nat.add_sub_cancel] at this;rw [h4] at this;cases this)
         have d4:Op.bytesLess (zbk l[i].key).toList (zbk l[i+1].key).toList=false:=str_lt.trans h4
         clear h1 h2 h2' h3 h3' h4 hok
         go_upto_region 8 with (fail)
         refine wp_region_quiet_lit (by kernel_rfl) (by kernel_rfl) ?_
         repeat (first | go_big_quiet_step (fail) | (go_big_quiet_want;refine zar byP rfl rfl hk2' ?_;go_big_quiet_on;go_simp) | (go_big_quiet_want;refine zar byP rfl rfl hk2 ?_;go_big_quiet_on;go_simp))
         first | (refine wpQuiet_nil ?_;intro _ hw';obtain⟨nq,hw''⟩:=hw';subst hw'') | intro nq
         go_wp2_with fail
         go_ret
         exact⟨by rw [hiff.out,H.out];rfl,q.trans ((Below.drewN q2 _).mono q.size)⟩
    ·rw [decide_eq_false h1]
     have H:=Lib.hid (hno.out fun h=>h1 h.1)
     clear h1 hok
     go_upto_region 8 with (fail)
     refine wp_region_quiet_lit (by kernel_rfl) (by kernel_rfl) ?_
     repeat (first | go_big_quiet_step (fail))
     first | (refine wpQuiet_nil ?_;intro _ hw';obtain⟨nq,hw''⟩:=hw';subst hw'') | intro nq
     go_wp2_with fail
     go_ret
     exact⟨by rw [hiff.out,H.out];rfl,q.trans ((Below.drewN q2 _).mono q.size)⟩
   ·obtain rfl:i=l.length:=by omega
    have H:=Lib.hid (show decide (okP l)=true from decide_eq_true fun j hj=>hok j hj hj)
    clear hok
    go_wp2_with fail
    go_ret
    exact⟨by rw [hiff.out,H.out];rfl,q.trans (q2.mono q.size)⟩
def zfd (T:Sto):Prop:=∀ j,j<4→zcj 5 (T j)=true
instance (T:Sto):Decidable (zfd T):=by unfold zfd;infer_instance
theorem zjq (w:World) {S:Nat→Prop} {v:Value} {T:Sto} (hr:RdSt S w v T):Calls Tryz.prog 12 #[v] w fun e w'=>e=.returned (.bool (decide (zfd T)))∧Below w.heap.size w w':=by
 obtain⟨a,m,c,rfl,hx⟩:=hr
 obtain⟨W,hW⟩:∃ W,W=w.alloc (.cells #[.slice (a 0) (m 0) (c 0),.slice (a 1) (m 1) (c 1),.slice (a 2) (m 2) (c 2),.slice (a 3) (m 3) (c 3),.slice (a 4) (m 4) (c 4),.slice (a 5) (m 5) (c 5),.slice (a 6) (m 6) (c 6),.slice (a 7) (m 7) (c 7),.slice (a 8) (m 8) (c 8),.slice (a 9) (m 9) (c 9),.slice (a 10) (m 10) (c 10),.slice (a 11) (m 11) (c 11)] 29):=⟨_,rfl⟩
 have q:Below w.heap.size w W:=by rw [hW];exact (Below.refl _ _).alloc (Nat.le_refl _) _
 have bn:StB W w.heap.size a m c:=by rw [hW];exact BoxN.new _ _ _
 go_enter Tryz.func12,Tryz.ntmps12
 go_upto_region 1 with (fail)
 rw [← hW]
 clear hW
 go_wp2
 go_loopw [3] (fun v wr=>∃ i:Nat,v=.int .i64 (i:Int)∧i≤4∧Below w.heap.size w wr∧StB wr w.heap.size a m c∧∀ j,j<i→zcj 5 (T j)=true) (fun v _=>4 - toN v)
 case atStart=>exact⟨0,rfl,by omega,q,bn,fun j hj=>by omega⟩
 case round =>
  obtain⟨i,rfl,hi,hb,bx,hA⟩:=hrel
  replace hA:=Lib.hid hA
  rcases Nat.lt_or_ge i 4 with hl | hl
  ·have dl:decide ((i:Int)<4)=true:=by simp;omega
   clear bn q
   have d0:=bx.cell (i:=0) rfl
   have d1:=bx.cell (i:=1) rfl
   have d2:=bx.cell (i:=2) rfl
   have d3:=bx.cell (i:=3) rfl
   have d4:=bx.cell (i:=4) rfl
   have d5:=bx.cell (i:=5) rfl
   have d6:=bx.cell (i:=6) rfl
   have d7:=bx.cell (i:=7) rfl
   have d8:=bx.cell (i:=8) rfl
   have d9:=bx.cell (i:=9) rfl
   have d10:=bx.cell (i:=10) rfl
   have d11:=bx.cell (i:=11) rfl
   rcases (show i=0∨i=1∨i=2∨i=3 by omega) with rfl | rfl | rfl | rfl
   ·have rN:RdN S w (.agg #[.slice (a 0) (m 0) (c 0),.slice (a 1) (m 1) (c 1),.slice (a 2) (m 2) (c 2)]) (T 0):=hx 0 (by omega)
    have hsm:=ze3 5 (T 0) wr S _ (by omega) (rN.below hb)
    rw [show (((5:Nat):Int) - 1)=4 from rfl] at hsm
    by_cases hs:zcj 5 (T 0)=true
    ·rw [hs] at hsm
     replace hs:=Lib.hid hs
     go_wp2_with fail
     refine hsm.mono ?_
     rintro e W4⟨rfl,hb4⟩
     go_wp2_with fail
     go_roundw
     case rel =>
      refine⟨1,by go_num,by omega,hb.trans (hb4.mono hb.size),bx.below hb4 bx.lt,fun j hj=>?_⟩
      rcases Nat.lt_succ_iff_lt_or_eq.1 hj with h | rfl
      ·exact hA.out j h
      ·exact hs.out
     case measure=>simp [toN]
    ·rw [Bool.not_eq_true _ |>.mp hs] at hsm
     have H:=Lib.hid (show decide (zfd T)=false from decide_eq_false fun h=>hs (h 0 (by omega)))
     clear hs
     go_wp2_with fail
     refine hsm.mono ?_
     rintro e W4⟨rfl,hb4⟩
     go_wp2_with fail
     go_ret
     exact⟨by first | (rw [H.out];done) | (rw [H.out];rfl),hb.trans (hb4.mono hb.size)⟩
   ·have rN:RdN S w (.agg #[.slice (a 3) (m 3) (c 3),.slice (a 4) (m 4) (c 4),.slice (a 5) (m 5) (c 5)]) (T 1):=hx 1 (by omega)
    have hsm:=ze3 5 (T 1) wr S _ (by omega) (rN.below hb)
    rw [show (((5:Nat):Int) - 1)=4 from rfl] at hsm
    by_cases hs:zcj 5 (T 1)=true
    ·rw [hs] at hsm
     replace hs:=Lib.hid hs
     go_wp2_with fail
     refine hsm.mono ?_
     rintro e W4⟨rfl,hb4⟩
     go_wp2_with fail
     go_roundw
     case rel =>
      refine⟨2,by go_num,by omega,hb.trans (hb4.mono hb.size),bx.below hb4 bx.lt,fun j hj=>?_⟩
      rcases Nat.lt_succ_iff_lt_or_eq.1 hj with h | rfl
      ·exact hA.out j h
      ·exact hs.out
     case measure=>simp [toN]
    ·rw [Bool.not_eq_true _ |>.mp hs] at hsm
     have H:=Lib.hid (show decide (zfd T)=false from decide_eq_false fun h=>hs (h 1 (by omega)))
     clear hs
     go_wp2_with fail
     refine hsm.mono ?_
     rintro e W4⟨rfl,hb4⟩
     go_wp2_with fail
     go_ret
     exact⟨by first | (rw [H.out];done) | (rw [H.out];rfl),hb.trans (hb4.mono hb.size)⟩
   ·have rN:RdN S w (.agg #[.slice (a 6) (m 6) (c 6),.slice (a 7) (m 7) (c 7),.slice (a 8) (m 8) (c 8)]) (T 2):=hx 2 (by omega)
    have hsm:=ze3 5 (T 2) wr S _ (by omega) (rN.below hb)
    rw [show (((5:Nat):Int) - 1)=4 from rfl] at hsm
    by_cases hs:zcj 5 (T 2)=true
    ·rw [hs] at hsm
     replace hs:=Lib.hid hs
     go_wp2_with fail
     refine hsm.mono ?_
     rintro e W4⟨rfl,hb4⟩
     go_wp2_with fail
     go_roundw
     case rel =>
      refine⟨3,by go_num,by omega,hb.trans (hb4.mono hb.size),bx.below hb4 bx.lt,fun j hj=>?_⟩
      rcases Nat.lt_succ_iff_lt_or_eq.1 hj with h | rfl
      ·exact hA.out j h
      ·exact hs.out
     case measure=>simp [toN]
    ·rw [Bool.not_eq_true _ |>.mp hs] at hsm
     have H:=Lib.hid (show decide (zfd T)=false from decide_eq_false fun h=>hs (h 2 (by omega)))
     clear hs
     go_wp2_with fail
     refine hsm.mono ?_
     rintro e W4⟨rfl,hb4⟩
     go_wp2_with fail
     go_ret
     exact⟨by first | (rw [H.out];done) | (rw [H.out];rfl),hb.trans (hb4.mono hb.size)⟩
   ·have rN:RdN S w (.agg #[.slice (a 9) (m 9) (c 9),.slice (a 10) (m 10) (c 10),.slice (a 11) (m 11) (c 11)]) (T 3):=hx 3 (by omega)
    have hsm:=ze3 5 (T 3) wr S _ (by omega) (rN.below hb)
    rw [show (((5:Nat):Int) - 1)=4 from rfl] at hsm
    by_cases hs:zcj 5 (T 3)=true
    ·rw [hs] at hsm
     replace hs:=Lib.hid hs
     go_wp2_with fail
     refine hsm.mono ?_
     rintro e W4⟨rfl,hb4⟩
     go_wp2_with fail
     go_roundw
     case rel =>
      refine⟨4,by go_num,by omega,hb.trans (hb4.mono hb.size),bx.below hb4 bx.lt,fun j hj=>?_⟩
      rcases Nat.lt_succ_iff_lt_or_eq.1 hj with h | rfl
      ·exact hA.out j h
      ·exact hs.out
     case measure=>simp [toN]
    ·rw [Bool.not_eq_true _ |>.mp hs] at hsm
     have H:=Lib.hid (show decide (zfd T)=false from decide_eq_false fun h=>hs (h 3 (by omega)))
     clear hs
     go_wp2_with fail
     refine hsm.mono ?_
     rintro e W4⟨rfl,hb4⟩
     go_wp2_with fail
     go_ret
     exact⟨by first | (rw [H.out];done) | (rw [H.out];rfl),hb.trans (hb4.mono hb.size)⟩
  ·obtain rfl:i=4:=by omega
   have H:=Lib.hid (show (decide (zfd T))=true from decide_eq_true fun j hj=>hA.out j hj)
   go_wp2_with fail
   go_ret
   exact⟨by first | (rw [H.out];done) | (rw [H.out];rfl),hb⟩
theorem small_chains:∀ (t:Nat) {n:Nd},zcj t n=true→∀ p∈zaa n,p.chain.length≤20
 | 0,n,h=>by simp [zcj] at h
 | t+1,.mk ks cs ns,h=>by
  simp only [zcj,Bool.and_eq_true,decide_eq_true_eq,List.all_eq_true,Nd.keys,Nd.chains,Nd.kids] at h
  obtain⟨⟨_,h5⟩,h6⟩:=h
  have hk:∀ j p,p∈(ziw ns).getD j []→p.chain.length≤20:=fun j p hj=>by
   rw [ziv,List.getD_eq_getElem?_getD,List.getElem?_map] at hj
   cases hm:ns[j]? with
   | none=>rw [hm] at hj;simp at hj
   | some m=>rw [hm] at hj;exact small_chains t (h6 m (List.mem_of_getElem? hm)) p hj
  intro p hp
  rw [zaa] at hp
  rcases List.mem_append.1 hp with hp | hp
  ·rcases wv_mem hp with⟨j,_,hj⟩|⟨j,_,rfl⟩
   ·exact hk j p hj
   ·show (cs.getD j []).length≤20
    rw [List.getD_eq_getElem?_getD]
    cases hc:cs[j]? with
    | none=>simp
    | some c=>exact (h5 c (List.mem_of_getElem? hc)).1
  ·exact hk _ p hp
theorem zde {T:Sto} (h:zfd T):fitS T:=fun j hj=>zo2 (h j hj)
theorem smallS_ch {T:Sto} (h:zfd T):∀ j,j<4→∀ p∈prN (T j),p.chain.length≤20:=fun j hj p hp=>by
 unfold prN at hp
 split at hp
 ·exact small_chains 5 (h j hj) p hp
 ·cases hp
theorem InT.fits {T T':Sto} {s:Int} {l:List Wr} {K:Nat}(h:InT T s l K T')(hf:fitS T)(hK:K+l.length≤900):fitS T':=by
 by_cases h0:(zbs T s l).2=0
 ·exact(h.facts h0 hK).2.2.2
 ·rw [h.1 h0];exact hf
theorem instI_ok {T:Sto} {s:Int} {l:List Wr} (h:(zbs T s l).2=0):okS T∧l.any (badW s)=false∧zbs T s l=goI (tabS T) (tabS T) s l:=by
 unfold zbs at h ⊢
 split at h
 ·rename_i h1;exact⟨h1.1,h1.2.2.2,if_pos h1⟩
 ·cases h
theorem instI_hs {T:Sto} {s:Int} {l:List Wr} (h:(zbs T s l).2=0):1≤s∧s<2147483648:=by
 by_cases hc:okS T∧1≤s∧s<2147483648∧l.any (badW s)=false
 ·exact⟨hc.2.1,hc.2.2.1⟩
 ·unfold zbs at h
  rw [if_neg hc] at h
  cases h
theorem goI_cons (L0 L:Tb) (s:Int) (x:Wr) (r:List Wr):goI L0 L s (x::r)=if (zcp (L x.table.toNat) x.key (verW x s)).2≠0 then (L0,(zcp (L x.table.toNat) x.key (verW x s)).2) else goI L0 (setT L x.table (zcp (L x.table.toNat) x.key (verW x s)).1) s r:=rfl
def eq4(L M:Tb):Prop:=∀ j,j<4→L j=M j
theorem goI_congr {L0 M0:Tb} {s:Int}:∀ {l:List Wr} {L M:Tb},(∀ x∈l,0≤x.table∧x.table<4)→eq4 L M→(goI L0 L s l).2=(goI M0 M s l).2∧((goI L0 L s l).2=0→eq4 (goI L0 L s l).1 (goI M0 M s l).1)
 | [],_,_,_,h=>⟨rfl,fun _=>h⟩
 | x::r,L,M,hx,h=>by
  obtain⟨t1,t2⟩:=hx x (by simp)
  have e:=h x.table.toNat (by omega)
  unfold goI
  rw [e]
  by_cases hn:(zcp (M x.table.toNat) x.key (verW x s)).2=0
  ·rw [if_neg (by rw [hn];simp),if_neg (by rw [hn];simp)]
   exact goI_congr (fun y hy=>hx y (by simp [hy])) fun j hj=>by
    unfold setT
    split
    ·rfl
    ·exact h j hj
  ·rw [if_pos hn,if_pos hn]
   exact⟨rfl,fun h=>absurd h hn⟩
theorem goI_app {L0:Tb} {s:Int}:∀ {l m:List Wr} {L:Tb},(goI L0 L s (l++m)).2=0↔(goI L0 L s l).2=0∧(goI L0 (goI L0 L s l).1 s m).2=0
 | [],_,_=>⟨fun h=>⟨rfl,h⟩,fun h=>h.2⟩
 | x::r,m,L=>by
  rw [List.cons_append,goI_cons,goI_cons]
  by_cases hn:(zcp (L x.table.toNat) x.key (verW x s)).2=0
  ·rw [if_neg (by rw [hn];simp),if_neg (by rw [hn];simp)]
   exact goI_app
  ·rw [if_pos hn,if_pos hn]
   exact⟨fun h=>absurd h hn,fun h=>absurd h.1 hn⟩
theorem goI_app1 {L0:Tb} {s:Int}:∀ {l m:List Wr} {L:Tb},(goI L0 L s l).2=0→goI L0 L s (l++m)=goI L0 (goI L0 L s l).1 s m
 | [],_,_,_=>rfl
 | x::r,m,L,h=>by
  rw [goI_cons] at h
  rw [List.cons_append,goI_cons,goI_cons L0 L s x r]
  by_cases hn:(zcp (L x.table.toNat) x.key (verW x s)).2=0
  ·rw [if_neg (by rw [hn];simp)] at h
   rw [if_neg (by rw [hn];simp),if_neg (by rw [hn];simp)]
   exact goI_app1 h
  ·rw [if_pos hn] at h
   exact absurd h hn
theorem bad_tab {s:Int} {l:List Wr} (h:l.any (badW s)=false):∀ x∈l,0≤x.table∧x.table<4:=fun x hx=>by
 have:=bad_no (List.any_eq_false.1 h x hx |> fun h=>by simpa using h)
 exact⟨this.1,this.2.1⟩
theorem InT.chs {T T':Sto} {s:Int} {l:List Wr} {K:Nat} (h:InT T s l K T') (hK:K+l.length≤900) (hc:∀ j,j<4→∀ p∈prN (T j),p.chain.length≤K):∀ j,j<4→∀ p∈prN (T' j),p.chain.length≤K+l.length:=by
 by_cases h0:(zbs T s l).2=0
 ·exact (h.facts h0 hK).2.2.1
 ·rw [h.1 h0]
  exact fun j hj p hp=>Nat.le_trans (hc j hj p hp) (by omega)
theorem parts_of {T A B C : Sto} {s : Int} {l m : List Wr} {K : Nat} (hA : InT T s (l ++ m) K A) (hB : InT T s l K B) (hC : InT B s m (K + l.length) C) (hK : K + (l ++ m).length ≤ 900) :
  ((zbs T s (l ++ m)).2 = 0 ↔ (zbs T s l).2 = 0 ∧ (zbs B s m).2 = 0) ∧ ((zbs T s (l ++ m)).2 = 0 → ∀ j,j < 4 → tabS A j = tabS C j) := by
 have hKl : K + l.length ≤ 900 := by rw [List.length_append] at hK; omega
 have hKm : K + l.length + m.length ≤ 900 := by rw [List.length_append] at hK; omega
 have back : (zbs T s l).2 = 0 → m.any (badW s) = false → zbs B s m = goI (tabS B) (tabS B) s m ∧ eq4 (goI (tabS T) (tabS T) s l).1 (tabS B) := fun h1 h2 => by
  obtain ⟨f1,f2,_,_⟩ := hB.facts h1 hKl
  obtain ⟨_,_,e1⟩ := instI_ok h1
  have hs := instI_hs h1
  refine ⟨by unfold zbs; exact if_pos ⟨f1,hs.1,hs.2,h2⟩,fun j hj => ?_⟩
  rw [f2 j hj,e1]
 have iff : (zbs T s (l ++ m)).2 = 0 ↔ (zbs T s l).2 = 0 ∧ (zbs B s m).2 = 0 := by
  constructor
  ·intro h
   obtain ⟨k1,k2,k3⟩ := instI_ok h
   rw [List.any_append,Bool.or_eq_false_iff] at k2
   have hs := instI_hs h
   rw [k3] at h
   obtain ⟨g1,g2⟩ := goI_app.1 h
   have e1 : zbs T s l = goI (tabS T) (tabS T) s l := by unfold zbs; exact if_pos ⟨k1,hs.1,hs.2,k2.1⟩
   have h1 : (zbs T s l).2 = 0 := by rw [e1]; exact g1
   obtain ⟨b1,b2⟩ := back h1 k2.2
   refine ⟨h1,?_⟩
   rw [b1,← (goI_congr (L0 := tabS T) (M0 := tabS B) (bad_tab k2.2) b2).1]
   exact g2
  ·rintro ⟨h1,h2⟩
   obtain ⟨k1,k2,k3⟩ := instI_ok h1
   obtain ⟨_,m2,_⟩ := instI_ok h2
   have hs := instI_hs h1
   have e : zbs T s (l ++ m) = goI (tabS T) (tabS T) s (l ++ m) := by unfold zbs; exact if_pos ⟨k1,hs.1,hs.2,by rw [List.any_append,k2,m2]; rfl⟩
   obtain ⟨b1,b2⟩ := back h1 m2
   rw [e]
   refine goI_app.2 ⟨by rw [← k3]; exact h1,?_⟩
   rw [(goI_congr (L0 := tabS T) (M0 := tabS B) (bad_tab m2) b2).1,← b1]
   exact h2
 refine ⟨iff,fun h j hj => ?_⟩
 obtain ⟨h1,h2⟩ := iff.1 h
 obtain ⟨_,_,k3⟩ := instI_ok h
 obtain ⟨_,_,l3⟩ := instI_ok h1
 obtain ⟨_,m2,_⟩ := instI_ok h2
 obtain ⟨b1,b2⟩ := back h1 m2
 rw [(hA.facts h hK).2.1 j hj,(hC.facts h2 hKm).2.1 j hj,k3,b1,goI_app1 (by rw [← l3]; exact h1)]
 have hc := goI_congr (L0 := tabS T) (M0 := tabS B) (s := s) (bad_tab m2) b2
 exact hc.2 (by rw [hc.1,← b1]; exact h2) j hj
theorem all_succ7 {α:Type} {P:α→Prop} {l:List α} {k:Nat} (hlt:k<l.length) (h:∀ x∈l.take k,P x) (hk:P l[k]):∀ x∈l.take (k+1),P x:=fun x hx=>by
 rw [List.take_succ_eq_append_getElem hlt] at hx
 rcases List.mem_append.1 hx with hx | hx
 ·exact h x hx
 ·simp at hx;rw [hx];exact hk
def fewW(l:List Wr):Prop:=l.length≤20∧∀ x∈l,x.key.length≤100∧x.val.length≤100
instance (l:List Wr):Decidable (fewW l):=by unfold fewW;exact inferInstance
theorem few7_any (w : World) {S : Nat → Prop} {a : Option Addr} {n c : Nat} {l : List Wr} (hl : RdL Elt.wr S w (.slice a n c) l) :
  Calls Tryz.prog 27 #[.slice a n c] w fun e w' => e = .returned (.bool (decide (fewW l))) ∧ Below w.heap.size w w' := by
 obtain ⟨rfl,hnc,hcm⟩ := hl.len
 have hlm : l.length ≤ 9223372036854775807 := by unfold maxLen at hcm; omega
 have q := Below.refl w.heap.size w
 rcases Nat.lt_or_ge 20 l.length with h1 | h1
 ·have d1 : (20 < l.length) = True := eq_true h1
  have HK := Lib.hid (show decide (fewW l) = false from decide_eq_false fun h => by have := h.1; omega)
  go_enter Tryz.func27,Tryz.ntmps27
  go_wp2_with fail
  go_ret
  exact ⟨by rw [HK.out]; rfl,q⟩
 have d1 : (20 < l.length) = False := eq_false (by omega)
 go_enter Tryz.func27,Tryz.ntmps27
 go_upto_region 4 with (fail)
 go_loopw [3] (fun iv wr => ∃ (k : Nat),iv = .int .i64 k ∧ k ≤ l.length ∧ (∀ x ∈ l.take k,x.key.length ≤ 100 ∧ x.val.length ≤ 100) ∧ Below w.heap.size w wr)
  (fun i _ => l.length - (intOf i).toNat)
 case atStart => exact ⟨0,rfl,Nat.zero_le _,by simp,q⟩
 case round =>
  clear q
  obtain ⟨k,rfl,hkl,hall,q⟩ := hrel
  rcases Nat.lt_or_ge k l.length with hlt | hge
  ·obtain ⟨b,off,A,C,A2,C2,rfl,hb,c0,c1,c2,c3,hk1,hk2,_⟩ := (hl.below q).wr k hlt
   by_cases h2 : 100 < l[k].key.length
   ·have d2 : (100 < l[k].key.length) = True := eq_true h2
    have hno := Lib.hid (show decide (fewW l) = false from decide_eq_false fun h => by have := (h.2 _ (List.getElem_mem hlt)).1; omega)
    clear hall
    go_wp2_with fail
    go_ret
    exact ⟨by rw [hno.out]; rfl,q⟩
   ·have d2 : (100 < l[k].key.length) = False := eq_false h2
    by_cases h3 : 100 < l[k].val.length
    ·have d3 : (100 < l[k].val.length) = True := eq_true h3
     have hno := Lib.hid (show decide (fewW l) = false from decide_eq_false fun h => by have := (h.2 _ (List.getElem_mem hlt)).2; omega)
     clear hall
     go_wp2_with fail
     go_ret
     exact ⟨by rw [hno.out]; rfl,q⟩
    ·have d3 : (100 < l[k].val.length) = False := eq_false h3
     have hall2 := Lib.hid (all_succ7 hlt hall ⟨by omega,by omega⟩)
     clear hall
     go_wp2_with fail
     go_roundw
     case rel => exact ⟨k + 1,by go_num,by omega,hall2.out,q⟩
     case measure => simp [intOf]; omega
  ·obtain rfl : k = l.length := by omega
   rw [List.take_length] at hall
   have hno := Lib.hid (show decide (fewW l) = true from decide_eq_true ⟨by omega,hall⟩)
   clear hall
   go_wp2_with fail
   go_ret
   exact ⟨by rw [hno.out]; rfl,q⟩
def shS(x:Sp):Prop:=x.lo.length≤100∧x.hi.length≤100
instance (x:Sp):Decidable (shS x):=by unfold shS;exact inferInstance
theorem ver_eq {x y:Ver}:x=y↔x.stamp=y.stamp∧x.gone=y.gone∧x.value=y.value:=by cases x;cases y;simp
theorem zoy {α:Type} {l m:List α} {i:Nat} (h1:i<l.length) (h2:i<m.length) (h:l.take i=m.take i) (e:l[i]=m[i]):l.take (i+1)=m.take (i+1):=by
 rw [List.take_succ_eq_append_getElem h1,List.take_succ_eq_append_getElem h2,h,e]
theorem zp9 {a b:List UInt8}:((zbk a).toList==(zbk b).toList)=decide (a=b):=by
 rw [show (zbk a).toList=a by simp [zbk],show (zbk b).toList=b by simp [zbk]]
 by_cases h:a=b
 ·rw [h];simp
 ·rw [decide_eq_false h];exact beq_eq_false_iff_ne.2 h
theorem zqg (w : World) {S S' : Nat → Prop} {a a' : Option Addr} {n c n' c' : Nat} {l m : List Ver} (hl : RdL Elt.ver S w (.slice a n c) l) (hm : RdL Elt.ver S' w (.slice a' n' c') m) :
  Calls Tryz.prog 70 #[.slice a n c,.slice a' n' c'] w fun e w' => e = .returned (.bool (decide (l = m))) ∧ Below w.heap.size w w' := by
 obtain ⟨rfl,hnc,hcm⟩ := hl.len
 obtain ⟨rfl,hnc2,hcm2⟩ := hm.len
 have hlm : l.length ≤ 9223372036854775807 := by unfold maxLen at hcm; omega
 have q := Below.refl w.heap.size w
 by_cases hlen : l.length = m.length
 case neg =>
  have d : ((l.length : Int) == (m.length : Int)) = false := beq_eq_false_iff_ne.2 (by omega)
  have d2 : (l.length == m.length) = false := beq_eq_false_iff_ne.2 hlen
  have d3 : ((l.length : Int) != (m.length : Int)) = true := bne_iff_ne.2 (by omega)
  have H := Lib.hid (show decide (l = m) = false from decide_eq_false fun h => hlen (by rw [h]))
  clear hlen
  go_enter Tryz.func70,Tryz.ntmps70
  go_wp2_with fail
  go_ret
  exact ⟨by rw [H.out]; rfl,q⟩
 case pos =>
 have d : ((l.length : Int) == (m.length : Int)) = true := beq_iff_eq.2 (by omega)
 have d2 : (l.length == m.length) = true := beq_iff_eq.2 hlen
 have d3 : ((l.length : Int) != (m.length : Int)) = false := bne_eq_false_iff_eq.2 (by omega)
 have hle : l.length ≤ m.length := by omega
 replace hlen := Lib.hid hlen
 go_enter Tryz.func70,Tryz.ntmps70
 go_upto_region 4 with (fail)
 go_loopw [5] (fun iv wr => ∃ i : Nat,iv = .int .i64 i ∧ i ≤ l.length ∧ l.take i = m.take i ∧ Below w.heap.size w wr) (fun i _ => l.length - (intOf i).toNat)
 case atStart => exact ⟨0,rfl,Nat.zero_le _,by simp,q⟩
 case round =>
  clear q
  obtain ⟨i,rfl,hil,hno,q⟩ := hrel
  rcases Nat.lt_or_ge i l.length with hlt | hge
  ·have hlt2 : i < m.length := Nat.lt_of_lt_of_le hlt hle
   obtain ⟨b,off,A,C,rfl,hb,g0,g1,g2,hk1,_,hc1,_⟩ := (hl.below q).ver i hlt
   obtain ⟨b',off',A',C',rfl,hb',f0,f1,f2,hk3,_,hc2,_⟩ := (hm.below q).ver i hlt2
   have r1 := hk1.rd
   have r2 := hk3.rd
   clear hb hb' hc1 hc2
   by_cases e0 : l[i].stamp = m[i].stamp
   ·have y0 : (l[i].stamp == m[i].stamp) = true := beq_iff_eq.2 e0
    have y1 : (l[i].stamp != m[i].stamp) = false := bne_eq_false_iff_eq.2 e0
    by_cases e1 : l[i].gone = m[i].gone
    ·have y2 : (l[i].gone == m[i].gone) = true := beq_iff_eq.2 e1
     have y3 : (l[i].gone != m[i].gone) = false := bne_eq_false_iff_eq.2 e1
     by_cases e2 : l[i].value = m[i].value
     ·have H := Lib.hid (zoy hlt hlt2 hno (ver_eq.2 ⟨e0,e1,e2⟩))
      have y4 : ((zbk l[i].value).toList == (zbk m[i].value).toList) = true := zp9.trans (decide_eq_true e2)
      clear hno e0 e1 e2
      go_upto_region 6 with (fail)
      refine wp_region_quiet_lit (by kernel_rfl) (by kernel_rfl) ?_
      repeat (first | go_big_quiet_step (fail) | (go_big_quiet_want; refine zar byP rfl rfl r1 ?_; go_big_quiet_on; go_simp) | (go_big_quiet_want; refine zar byP rfl rfl r2 ?_; go_big_quiet_on; go_simp))
      first | (refine wpQuiet_nil ?_; intro _ hw'; obtain ⟨nq,hw''⟩ := hw'; subst hw'') | intro nq
      go_wp2_with fail
      go_roundw
      case rel => exact ⟨i + 1,by go_num,by omega,H.out,Below.drewN q _⟩
      case measure => simp [intOf]; omega
     ·have H := Lib.hid (show decide (l = m) = false from decide_eq_false fun h => e2 (by subst h; rfl))
      have y4 : ((zbk l[i].value).toList == (zbk m[i].value).toList) = false := zp9.trans (decide_eq_false e2)
      clear hno e0 e1 e2
      go_upto_region 6 with (fail)
      refine wp_region_quiet_lit (by kernel_rfl) (by kernel_rfl) ?_
      repeat (first | go_big_quiet_step (fail) | (go_big_quiet_want; refine zar byP rfl rfl r1 ?_; go_big_quiet_on; go_simp) | (go_big_quiet_want; refine zar byP rfl rfl r2 ?_; go_big_quiet_on; go_simp))
      first | (refine wpQuiet_nil ?_; intro _ hw'; obtain ⟨nq,hw''⟩ := hw'; subst hw'') | intro nq
      go_wp2_with fail
      go_ret
      exact ⟨by rw [H.out]; rfl,Below.drewN q _⟩
    ·have H := Lib.hid (show decide (l = m) = false from decide_eq_false fun h => e1 (by subst h; rfl))
     have y2 : (l[i].gone == m[i].gone) = false := beq_eq_false_iff_ne.2 e1
     have y3 : (l[i].gone != m[i].gone) = true := bne_iff_ne.2 e1
     clear hno e0 e1
     go_upto_region 6 with (fail)
     refine wp_region_quiet_lit (by kernel_rfl) (by kernel_rfl) ?_
     repeat (first | go_big_quiet_step (fail) | (go_big_quiet_want; refine zar byP rfl rfl r1 ?_; go_big_quiet_on; go_simp) | (go_big_quiet_want; refine zar byP rfl rfl r2 ?_; go_big_quiet_on; go_simp))
     first | (refine wpQuiet_nil ?_; intro _ hw'; obtain ⟨nq,hw''⟩ := hw'; subst hw'') | intro nq
     go_wp2_with fail
     go_ret
     exact ⟨by rw [H.out]; rfl,Below.drewN q _⟩
   ·have H := Lib.hid (show decide (l = m) = false from decide_eq_false fun h => e0 (by subst h; rfl))
    have y0 : (l[i].stamp == m[i].stamp) = false := beq_eq_false_iff_ne.2 e0
    have y1 : (l[i].stamp != m[i].stamp) = true := bne_iff_ne.2 e0
    clear hno e0
    go_upto_region 6 with (fail)
    refine wp_region_quiet_lit (by kernel_rfl) (by kernel_rfl) ?_
    repeat (first | go_big_quiet_step (fail) | (go_big_quiet_want; refine zar byP rfl rfl r1 ?_; go_big_quiet_on; go_simp) | (go_big_quiet_want; refine zar byP rfl rfl r2 ?_; go_big_quiet_on; go_simp))
    first | (refine wpQuiet_nil ?_; intro _ hw'; obtain ⟨nq,hw''⟩ := hw'; subst hw'') | intro nq
    go_wp2_with fail
    go_ret
    exact ⟨by rw [H.out]; rfl,Below.drewN q _⟩
  ·obtain rfl : i = l.length := by omega
   have H := Lib.hid (show decide (l = m) = true from decide_eq_true (by rw [List.take_length,hlen.out,List.take_length] at hno; exact hno))
   clear hno
   go_wp2_with fail
   go_ret
   exact ⟨by rw [H.out]; rfl,q⟩
theorem pr_eq {x y:Pr}:x=y↔x.key=y.key∧x.chain=y.chain:=by cases x;cases y;simp
theorem zqh (w : World) {S S' : Nat → Prop} {a a' : Option Addr} {n c n' c' : Nat} {l m : List Pr} (hl : RdL Elt.pair S w (.slice a n c) l) (hm : RdL Elt.pair S' w (.slice a' n' c') m) :
  Calls Tryz.prog 50 #[.slice a n c,.slice a' n' c'] w fun e w' => e = .returned (.bool (decide (l = m))) ∧ Below w.heap.size w w' := by
 obtain ⟨rfl,hnc,hcm⟩ := hl.len
 obtain ⟨rfl,hnc',hcm'⟩ := hm.len
 have hlm : l.length ≤ 9223372036854775807 := by unfold maxLen at hcm; omega
 have hlm' : m.length ≤ 9223372036854775807 := by unfold maxLen at hcm'; omega
 have q := Below.refl w.heap.size w
 by_cases hln : l.length = m.length
 ·have d : ((l.length : Int) != (m.length : Int)) = false := by rw [bne_eq_false_iff_eq]; omega
  go_enter Tryz.func50,Tryz.ntmps50
  go_upto_region 4 with (fail)
  clear d
  have HLN := Lib.hid hln
  clear hln
  go_loopw [5] (fun iv wr => ∃ k : Nat,iv = .int .i64 k ∧ k ≤ l.length ∧ (∀ r (h : r < l.length),r < k → m[r]? = some l[r]) ∧ Below w.heap.size w wr) (fun i _ => l.length - (intOf i).toNat)
  case atStart => exact ⟨0,rfl,Nat.zero_le _,fun r _ h => by omega,q⟩
  case round =>
   clear q
   obtain ⟨k,rfl,hkl,hsm,q⟩ := hrel
   rcases Nat.lt_or_ge k l.length with hlt | hge
   ·have hltm : k < m.length := by have := HLN.out; omega
    obtain ⟨b,off,Ak,C,B,D,rfl,c0,c1,hky,hcc⟩ := (hl.below q).pr k hlt
    obtain ⟨b',off',Ak',C',B',D',rfl,c0',c1',hky',hcc'⟩ := (hm.below q).pr k hltm
    have hne : l[k] ≠ m[k] → decide (l = m) = false := fun h => decide_eq_false (fun e => by subst e; exact h rfl)
    have hsn : l[k] = m[k] → ∀ r (h : r < l.length),r < k + 1 → m[r]? = some l[r] := fun h r hr h2 => by
     rcases Nat.lt_or_ge r k with h4 | h4
     ·exact hsm r hr h4
     ·obtain rfl : r = k := by omega
      rw [List.getElem?_eq_getElem hltm,h]
    obtain ⟨x,ex⟩ : ∃ x,x = l[k] := ⟨_,rfl⟩
    obtain ⟨y,ey⟩ : ∃ y,y = m[k] := ⟨_,rfl⟩
    rw [← ex] at c0 c1 hky hcc hne hsn
    rw [← ey] at c0' c1' hky' hcc' hne hsn
    have HEX := Lib.hid ex
    have HEY := Lib.hid ey
    clear ex ey hsm
    go_upto_region 6 with (fail)
    refine zbu (by kernel_rfl) (by kernel_rfl) [sgEq (.slice (some ⟨b,off,none⟩) l.length c),sgEq (.int .i64 k),sgEq (.pointer (some ⟨b,off + k * 2,none⟩)),sgEq (.pointer (some ⟨b,off + k * 2 + 1,none⟩)),sgEq (.slice B x.chain.length D),sgEq (.slice (some ⟨b',off',none⟩) m.length c'),sgEq (.int .i64 k),sgEq (.pointer (some ⟨b',off' + k * 2,none⟩)),sgEq (.pointer (some ⟨b',off' + k * 2 + 1,none⟩)),sgEq (.slice B' y.chain.length D'),sgEq (.bool (decide (x.chain = y.chain))),sgEq (.bool (decide (x.chain = y.chain)))]
     ⟨?o0,?o1,?o2,?o3,?o4,?o5,?o6,?o7,?o8,?o9,?o10,?o11,trivial⟩ ?fin
    case o0 =>
     refine GdOp.plain rfl (fun A vs w' hF hT hb hd => ?_)
     have e1 : A.eval (.tmp 0) = .slice (some ⟨b,off,none⟩) l.length c := hF 0 rfl
     exact BigFrame.wp_move _ rfl ⟨_,rfl,e1,Below.refl _ _⟩
    case o1 =>
     refine GdOp.plain rfl (fun A vs w' hF hT hb hd => ?_)
     have e1 : A.eval (.tmp 5) = .int .i64 k := hF 5 rfl
     exact BigFrame.wp_move _ rfl ⟨_,rfl,e1,Below.refl _ _⟩
    case o2 =>
     refine GdOp.plain rfl (fun A vs w' hF hT hb hd => ?_)
     have e1 : A.eval (.tmp 18) = .slice (some ⟨b,off,none⟩) l.length c := (hT 18 0 (by simp) rfl).trans (hd ⟨0,.data⟩ (by simp) rfl)
     have e2 : A.eval (.tmp 19) = .int .i64 k := (hT 19 1 (by simp) rfl).trans (hd ⟨1,.data⟩ (by simp) rfl)
     exact zc1 (e := 77) rfl (by kernel_rfl) (by kernel_rfl) (e1) (e2) rfl (by omega) ⟨_,rfl,rfl,Below.refl _ _⟩
    case o3 =>
     refine GdOp.plain rfl (fun A vs w' hF hT hb hd => ?_)
     have e1 : A.eval (.tmp 20) = .pointer (some ⟨b,off + k * 2,none⟩) := (hT 20 2 (by simp) rfl).trans (hd ⟨2,.data⟩ (by simp) rfl)
     exact zai prS rfl (e1) (by omega) ⟨_,rfl,rfl,Below.refl _ _⟩
    case o4 =>
     refine GdOp.plain rfl (fun A vs w' hF hT hb hd => ?_)
     have e1 : A.eval (.tmp 21) = .pointer (some ⟨b,off + k * 2 + 1,none⟩) := (hT 21 3 (by simp) rfl).trans (hd ⟨3,.data⟩ (by simp) rfl)
     exact zad (e := 87) rfl e1 (by kernel_rfl) (((hb.cell (p := ⟨b,off + k * 2 + 1,none⟩) (zaj c1)).trans c1)) ⟨_,rfl,rfl,Below.refl _ _⟩
    case o5 =>
     refine GdOp.plain rfl (fun A vs w' hF hT hb hd => ?_)
     have e1 : A.eval (.tmp 1) = .slice (some ⟨b',off',none⟩) m.length c' := hF 1 rfl
     exact BigFrame.wp_move _ rfl ⟨_,rfl,e1,Below.refl _ _⟩
    case o6 =>
     refine GdOp.plain rfl (fun A vs w' hF hT hb hd => ?_)
     have e1 : A.eval (.tmp 5) = .int .i64 k := hF 5 rfl
     exact BigFrame.wp_move _ rfl ⟨_,rfl,e1,Below.refl _ _⟩
    case o7 =>
     refine GdOp.plain rfl (fun A vs w' hF hT hb hd => ?_)
     have e1 : A.eval (.tmp 23) = .slice (some ⟨b',off',none⟩) m.length c' := (hT 23 5 (by simp) rfl).trans (hd ⟨5,.data⟩ (by simp) rfl)
     have e2 : A.eval (.tmp 24) = .int .i64 k := (hT 24 6 (by simp) rfl).trans (hd ⟨6,.data⟩ (by simp) rfl)
     exact zc1 (e := 77) rfl (by kernel_rfl) (by kernel_rfl) (e1) (e2) rfl (by omega) ⟨_,rfl,rfl,Below.refl _ _⟩
    case o8 =>
     refine GdOp.plain rfl (fun A vs w' hF hT hb hd => ?_)
     have e1 : A.eval (.tmp 25) = .pointer (some ⟨b',off' + k * 2,none⟩) := (hT 25 7 (by simp) rfl).trans (hd ⟨7,.data⟩ (by simp) rfl)
     exact zai prS rfl (e1) (by omega) ⟨_,rfl,rfl,Below.refl _ _⟩
    case o9 =>
     refine GdOp.plain rfl (fun A vs w' hF hT hb hd => ?_)
     have e1 : A.eval (.tmp 26) = .pointer (some ⟨b',off' + k * 2 + 1,none⟩) := (hT 26 8 (by simp) rfl).trans (hd ⟨8,.data⟩ (by simp) rfl)
     exact zad (e := 87) rfl e1 (by kernel_rfl) (((hb.cell (p := ⟨b',off' + k * 2 + 1,none⟩) (zaj c1')).trans c1')) ⟨_,rfl,rfl,Below.refl _ _⟩
    case o10 =>
     refine GdOp.plain rfl (fun A vs w' hF hT hb hd => ?_)
     have e1 : A.eval (.tmp 22) = .slice B x.chain.length D := (hT 22 4 (by simp) rfl).trans (hd ⟨4,.data⟩ (by simp) rfl)
     have e2 : A.eval (.tmp 27) = .slice B' y.chain.length D' := (hT 27 9 (by simp) rfl).trans (hd ⟨9,.data⟩ (by simp) rfl)
     refine zak rfl (enters_of Tryz.func70 (by kernel_rfl) rfl) (args := #[.slice B x.chain.length D,.slice B' y.chain.length D']) (by simp [e1,e2]) ((zqg w' (hcc.below hb) (hcc'.below hb)).mono ?_)
     rintro e w2 ⟨rfl,hb2⟩
     exact ⟨_,rfl,_,rfl,rfl,hb2⟩
    case o11 =>
     refine GdOp.plain rfl (fun A vs w' hF hT hb hd => ?_)
     have e1 : A.eval (.tmp 28) = .bool (decide (x.chain = y.chain)) := (hT 28 10 (by simp) rfl).trans (hd ⟨10,.data⟩ (by simp) rfl)
     exact BigFrame.wp_assign _ rfl ⟨_,rfl,e1,Below.refl _ _⟩
    case fin =>
     intro vs w' hb hG
     have e0 : vs 0 = .slice (some ⟨b,off,none⟩) l.length c := hG 0 (by decide)
     have e1 : vs 1 = .int .i64 k := hG 1 (by decide)
     have e2 : vs 2 = .pointer (some ⟨b,off + k * 2,none⟩) := hG 2 (by decide)
     have e3 : vs 3 = .pointer (some ⟨b,off + k * 2 + 1,none⟩) := hG 3 (by decide)
     have e4 : vs 4 = .slice B x.chain.length D := hG 4 (by decide)
     have e5 : vs 5 = .slice (some ⟨b',off',none⟩) m.length c' := hG 5 (by decide)
     have e6 : vs 6 = .int .i64 k := hG 6 (by decide)
     have e7 : vs 7 = .pointer (some ⟨b',off' + k * 2,none⟩) := hG 7 (by decide)
     have e8 : vs 8 = .pointer (some ⟨b',off' + k * 2 + 1,none⟩) := hG 8 (by decide)
     have e9 : vs 9 = .slice B' y.chain.length D' := hG 9 (by decide)
     have e10 : vs 10 = .bool (decide (x.chain = y.chain)) := hG 10 (by decide)
     have e11 : vs 11 = .bool (decide (x.chain = y.chain)) := hG 11 (by decide)
     simp only [zae,e0,e1,e2,e3,e4,e5,e6,e7,e8,e9,e10,e11]
     clear hG e0 e1 e2 e3 e4 e5 e6 e7 e8 e9 e10 e11
     go_simp
     replace q := q.trans (hb.mono q.size)
     clear hb c0 c1 hky hcc c0' c1' hky' hcc'
     have hop := (hl.below q).pr k hlt
     rw [← HEX.out] at hop
     obtain ⟨bx,offx,Ak,C,B,D,e',c0,c1,hky,hcc⟩ := hop
     injection e' with e'; injection e' with e1 e2; subst e1; subst e2
     have hop := (hm.below q).pr k hltm
     rw [← HEY.out] at hop
     obtain ⟨bx,offx,Ak',C',B',D',e',c0',c1',hky',hcc'⟩ := hop
     injection e' with e'; injection e' with e1 e2; subst e1; subst e2
     have hk2 := hky.rd
     have hk2' := hky'.rd
     by_cases h1 : x.chain = y.chain
     ·rw [decide_eq_true h1]
      by_cases h2 : x.key = y.key
      ·have H := Lib.hid (hsn (pr_eq.2 ⟨h2,h1⟩))
       have de : ((zbk x.key).toList == (zbk y.key).toList) = true := str_eq.trans (decide_eq_true h2)
       clear hne hsn h1 h2
       go_upto_region 7 with (fail)
       refine wp_region_quiet_lit (by kernel_rfl) (by kernel_rfl) ?_
       repeat (first | go_big_quiet_step (fail) | (go_big_quiet_want; refine zar byP rfl rfl hk2 ?_; go_big_quiet_on; go_simp) | (go_big_quiet_want; refine zar byP rfl rfl hk2' ?_; go_big_quiet_on; go_simp))
       first | (refine wpQuiet_nil ?_; intro _ hw'; obtain ⟨nq,hw''⟩ := hw'; subst hw'') | intro nq
       go_wp2_with fail
       go_roundw
       case rel => exact ⟨k + 1,by go_num,by omega,H.out,Below.drewN q _⟩
       case measure => simp [intOf]; omega
      ·have H := Lib.hid (hne (fun e => h2 (by rw [e])))
       have de : ((zbk x.key).toList == (zbk y.key).toList) = false := str_eq.trans (decide_eq_false h2)
       clear hne hsn h1 h2
       go_upto_region 7 with (fail)
       refine wp_region_quiet_lit (by kernel_rfl) (by kernel_rfl) ?_
       repeat (first | go_big_quiet_step (fail) | (go_big_quiet_want; refine zar byP rfl rfl hk2 ?_; go_big_quiet_on; go_simp) | (go_big_quiet_want; refine zar byP rfl rfl hk2' ?_; go_big_quiet_on; go_simp))
       first | (refine wpQuiet_nil ?_; intro _ hw'; obtain ⟨nq,hw''⟩ := hw'; subst hw'') | intro nq
       go_wp2_with fail
       go_ret
       exact ⟨by rw [H.out]; rfl,Below.drewN q _⟩
     ·rw [decide_eq_false h1]
      have H := Lib.hid (hne (fun e => h1 (by rw [e])))
      clear hne hsn h1
      go_upto_region 7 with (fail)
      refine wp_region_quiet_lit (by kernel_rfl) (by kernel_rfl) ?_
      repeat (first | go_big_quiet_step (fail))
      first | (refine wpQuiet_nil ?_; intro _ hw'; obtain ⟨nq,hw''⟩ := hw'; subst hw'') | intro nq
      go_wp2_with fail
      go_ret
      exact ⟨by rw [H.out]; rfl,Below.drewN q _⟩
   ·obtain rfl : k = l.length := by omega
    have H := Lib.hid (show decide (l = m) = true from decide_eq_true (List.ext_getElem HLN.out (fun r h1 h2 => by have := hsm r h1 h1; rw [List.getElem?_eq_getElem h2] at this; injection this with this; exact this.symm)))
    clear hsm
    go_wp2_with fail
    go_ret
    exact ⟨by rw [H.out]; rfl,q⟩
 ·have d : ((l.length : Int) != (m.length : Int)) = true := by rw [bne_iff_ne]; omega
  have H := Lib.hid (show decide (l = m) = false from decide_eq_false (fun e => hln (by rw [e])))
  clear hln
  go_enter Tryz.func50,Tryz.ntmps50
  go_wp2_with fail
  go_ret
  exact ⟨by rw [H.out]; rfl,q⟩
end Go.Proofs.YtlpfhgdnmjkngaaGreat
