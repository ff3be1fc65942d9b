/-
  TEXTS OF ONE PROOF, merged.
-/
import Derived.Deep.DeepCutAuto
import Derived.Test.YtkobhdllagbkhaaGreatKn5
namespace Go.Proofs.YtkobhdllagbkhaaGreat
open Go.RowKit
set_option maxRecDepth 100000
set_option maxHeartbeats 32000000
def E4(W0:World)(cA cB cZ:Obj):List (Option Value)->World->Prop
 |[x,y,s,t],W=>Below W0.heap.size W0 W/\(x=none->s=none)/\(y=none->t=none)/\(∀v,x=some v->∃b,v=.pointer (some ⟨b,0,none⟩)/\W0.heap.size<=b/\W.heap[b]?=some (if s.isSome then cA else cZ))/\(∀v,y=some v->∃b,v=.pointer (some ⟨b,0,none⟩)/\W0.heap.size<=b/\W.heap[b]?=some (if t.isSome then cB else cZ))/\∀v,x=some v->y=some v->False
 |_,_=>False
section
variable {W0 W W' : World} {cA cB cZ : Obj}
theorem E4.below{l:List (Option Value)}(h:E4 W0 cA cB cZ l W):Below W0.heap.size W0 W:=by
 match l,h with
 |[_,_,_,_],h=>exact h.1
theorem E4.more:∀(l:List (Option Value))(W W':World),E4 W0 cA cB cZ l W->Below W.heap.size W W'->E4 W0 cA cB cZ l W'
 |[x,y,s,t],W,W',⟨h1,h2,h3,h4,h5,h6⟩,hb=>⟨h1.trans (hb.mono h1.size),h2,h3,λv hv=>by
   obtain⟨b,e,h7,h8⟩:=h4 v hv;exact⟨b,e,h7,(hb.block b (zJ.1 h8).1).trans h8⟩,λv hv=>by
   obtain⟨b,e,h7,h8⟩:=h5 v hv;exact⟨b,e,h7,(hb.block b (zJ.1 h8).1).trans h8⟩,h6⟩
theorem E4.allocA{y s t:Option Value}(h:E4 W0 cA cB cZ [none,y,s,t] W)(hb:Below W.heap.size W W')(hn:W'.heap[W.heap.size]?=some cZ):E4 W0 cA cB cZ [some (.pointer (some ⟨W.heap.size,0,none⟩)),y,s,t] W':=by
 obtain⟨h1,h2,h3,h4,h5,h6⟩:=E4.more _ _ _ h hb;obtain⟨g1,_,_,_,g5,_⟩:=h;obtain rfl:=h2 rfl;refine⟨h1,λh=>by simp at h,h3,λv hv=>⟨_,(yn hv).symm,g1.size,hn⟩,h5,λv hv hy=>?_⟩;obtain⟨b,e,_,h8⟩:=g5 v hy;rw[<-yn hv]at e;injection e with e;injection e with e;injection e with e;have:=(zJ.1 h8).1;omega
theorem E4.allocB{x s t:Option Value}(h:E4 W0 cA cB cZ [x,none,s,t] W)(hb:Below W.heap.size W W')(hn:W'.heap[W.heap.size]?=some cZ):E4 W0 cA cB cZ [x,some (.pointer (some ⟨W.heap.size,0,none⟩)),s,t] W':=by
 obtain⟨h1,h2,h3,h4,h5,h6⟩:=E4.more _ _ _ h hb;obtain⟨g1,_,_,g4,_,_⟩:=h;obtain rfl:=h3 rfl;refine⟨h1,h2,λh=>by simp at h,h4,λv hv=>⟨_,(yn hv).symm,g1.size,hn⟩,λv hx hv=>?_⟩;obtain⟨b,e,_,h8⟩:=g4 v hx;rw[<-yn hv]at e;injection e with e;injection e with e;injection e with e;have:=(zJ.1 h8).1;omega
theorem E4.storeA{u v:Value}{y t:Option Value}{b:Nat}(h:E4 W0 cA cB cZ [some v,y,none,t] W)(hv:v=.pointer (some ⟨b,0,none⟩))(hg:W.grownBy W' (some b))(hn:W'.heap[b]?=some cA):E4 W0 cA cB cZ [some v,y,some u,t] W':=by
 obtain⟨h1,h2,h3,h4,h5,h6⟩:=h;obtain⟨b',e,hb,h7⟩:=h4 v rfl;rw[hv]at e;injection e with e;injection e with e;injection e with e;subst e;refine⟨h1.grown hg h1.size (λk hk=>by injection hk with hk;omega),λh=>by simp at h,h3,λv' hv'=>⟨b,by rw[<-yn hv',hv],hb,hn⟩,λv' hv'=>?_,h6⟩;obtain⟨c,e2,h8,h9⟩:=h5 v' hv';refine⟨c,e2,h8,(hg.block c (zJ.1 h9).1 (λe3=>h6 v rfl ?_)).trans h9⟩;injection e3 with e3;rw[hv',e2,hv,e3]
theorem E4.storeB{u v:Value}{x s:Option Value}{b:Nat}(h:E4 W0 cA cB cZ [x,some v,s,none] W)(hv:v=.pointer (some ⟨b,0,none⟩))(hg:W.grownBy W' (some b))(hn:W'.heap[b]?=some cB):E4 W0 cA cB cZ [x,some v,s,some u] W':=by
 obtain⟨h1,h2,h3,h4,h5,h6⟩:=h;obtain⟨b',e,hb,h7⟩:=h5 v rfl;rw[hv]at e;injection e with e;injection e with e;injection e with e;subst e;refine⟨h1.grown hg h1.size (λk hk=>by injection hk with hk;omega),h2,λh=>by simp at h,λv' hv'=>?_,λv' hv'=>⟨b,by rw[<-yn hv',hv],hb,hn⟩,h6⟩;obtain⟨c,e2,h8,h9⟩:=h4 v' hv';refine⟨c,e2,h8,(hg.block c (zJ.1 h9).1 (λe3=>h6 v' hv' ?_)).trans h9⟩;injection e3 with e3;rw[e2,hv,e3]
end
def K6 (A B:World):Prop:=∃bx,(∀o,A.heap[bx]?=some o->o=zg3)/\Trd (·=bx) A B
theorem K6.of{A B:World}(h:Below A.heap.size A B):K6 A B:=⟨A.heap.size,λo h=>by simp at h,Trd.of h⟩
def lRowZ(W0:World)(Te:TypeId)(m:Nat)(us:List Value)(hne:Obj.cells us.toArray Te (0,0)≠zg3):SGn K6:=
 ⟨λW v=>∃b,v=.slice (some ⟨b,0,none⟩) m m/\W0.heap.size<=b/\W.heap[b]?=some (.cells us.toArray Te (0,0)),λ_ _ _ ⟨b,e,h1,h2⟩hb=>⟨b,e,h1,(hb.block b (zJ.1 h2).1).trans h2⟩,
  λ_ _ _ ⟨b,e,h1,h2⟩⟨bx,hz,hk⟩=>⟨b,e,h1,(hk.block b (zJ.1 h2).1 (λe2=>by subst e2;exact hne (hz _ h2))).trans h2⟩⟩
def rowO(Te:TypeId)(sz n:Nat)(cs:List Value)(W0:World)(x:Option Value)(W:World):Prop:=∀v,x=some v->RowQ Te sz W v n cs/\∀k,v.ownBlock=some k->W0.heap.size<=k
def cntO:Option Value->Nat->Nat
 |some v,k=>(zak v).count k
 |none,_=>0
def cntP:Option Value->Nat->Nat
 |some (.pointer (some p)),k=>if p.block=k then 1 else 0
 |_,_=>0
theorem zjg (v:Value)(k:Nat):cntO (some v) k=(zak v).count k:=rfl
theorem zjh (k:Nat):cntO none k=0:=rfl
theorem zd2{Te:TypeId}{sz n:Nat}{cs:List Value}{W0 W:World}{x:Option Value}(h:rowO Te sz n cs W0 x W){k:Nat}(hk:0<cntO x k):k<W.heap.size:=by
 cases x with
 |none=>simp[cntO]at hk
 |some v=>exact(h v rfl).1.lt ((zan v k).2.1 hk)
theorem rowO.kept{Te:TypeId}{sz n:Nat}{cs:List Value}{W0 W W':World}{x:Option Value}(h:rowO Te sz n cs W0 x W)(hk:∀k,k<W.heap.size->0<cntO x k->W'.heap[k]?=W.heap[k]?):rowO Te sz n cs W0 x W':=λv hv=>by
 obtain⟨h1,h2⟩:=h v hv;refine⟨h1.kept λk hb=>hk k (h1.lt hb) ?_,h2⟩;rw[hv];exact(zan v k).2.2 hb
structure E6s(W0:World)(n1:Nat)(cs1:List Value)(n2:Nat)(cs2:List Value)(n3:Nat)(cs3:List Value)(a b c g z s:Option Value)(W:World):Prop where
 be:Below W0.heap.size W0 W
 ra:rowO 23 1 n1 cs1 W0 a W
 rb:rowO 102 1 n2 cs2 W0 b W
 rc:rowO 46 3 n3 cs3 W0 c W
 ct:∀k,cntO a k+cntO b k+cntO c k+cntP z k<=1
 gg:∀v,g=some v->∃x y u,a=some x/\b=some y/\c=some u/\v=.agg #[x,y,u]
 zz:∀v,z=some v->∃bx,v=.pointer (some ⟨bx,0,none⟩)/\W0.heap.size<=bx/\bx<W.heap.size/\(s=none->W.heap[bx]?=some zg3)
 ss:∀u,s=some u->∃x y t bx,a=some x/\b=some y/\c=some t/\z=some (.pointer (some ⟨bx,0,none⟩))/\TriV W bx 46 x y t
def E6(W0:World)(n1:Nat)(cs1:List Value)(n2:Nat)(cs2:List Value)(n3:Nat)(cs3:List Value):List (Option Value)->World->Prop
 |[a,b,c,g,z,s],W=>E6s W0 n1 cs1 n2 cs2 n3 cs3 a b c g z s W
 |_,_=>False
section
variable {W0 W W' : World} {n1 n2 n3 : Nat} {cs1 cs2 cs3 : List Value} {a b c g z s : Option Value}
theorem E6s.more(h:E6s W0 n1 cs1 n2 cs2 n3 cs3 a b c g z s W)(hb:Below W.heap.size W W'):E6s W0 n1 cs1 n2 cs2 n3 cs3 a b c g z s W':=
 ⟨h.be.trans (hb.mono h.be.size),h.ra.kept λk hk _=>hb.block k hk,h.rb.kept λk hk _=>hb.block k hk,h.rc.kept λk hk _=>hb.block k hk,h.ct,h.gg,λv hv=>by
  obtain⟨bx,e,h1,h2,h3⟩:=h.zz v hv;exact⟨bx,e,h1,zm h2 hb.size,λhs=>(hb.block bx h2).trans (h3 hs)⟩,λu hu=>by
  obtain⟨x,y,t,bx,e1,e2,e3,e4,e5⟩:=h.ss u hu;exact⟨x,y,t,bx,e1,e2,e3,e4,e5.below hb e5.lt⟩⟩
theorem E6.more:∀(l:List (Option Value))(W W':World),E6 W0 n1 cs1 n2 cs2 n3 cs3 l W->Below W.heap.size W W'->E6 W0 n1 cs1 n2 cs2 n3 cs3 l W'
 |[_,_,_,_,_,_],_,_,h,hb=>E6s.more h hb
theorem E6.below{l:List (Option Value)}(h:E6 W0 n1 cs1 n2 cs2 n3 cs3 l W):Below W0.heap.size W0 W:=by
 match l,h with
 |[_,_,_,_,_,_],h=>exact h.be
theorem zo0(h:∀v,z=some v->∃bx,v=Value.pointer (some ⟨bx,0,none⟩)/\W0.heap.size<=bx/\bx<W.heap.size/\(s=none->W.heap[bx]?=some zg3)){k:Nat}(hk:0<cntP z k):k<W.heap.size:=by
 cases z with
 |none=>simp[cntP]at hk
 |some v=>
  obtain⟨bx,rfl,_,h2,_⟩:=h v rfl;simp only[cntP]at hk;split at hk;·omega
  ·omega
theorem E6s.rowA {v:Value}(h:E6s W0 n1 cs1 n2 cs2 n3 cs3 none b c g z s W)(hn:za9 23 1 W v n1 cs1 W'):E6s W0 n1 cs1 n2 cs2 n3 cs3 (some v) b c g z s W':=by
  have h':=h.more hn.2.2;have s0:=h.be.size;refine⟨h'.be,λv' hv=>?_,h'.rb,h'.rc,λk=>?_,λv' hv=>?_,h'.zz,λu hu=>?_⟩
  · obtain rfl:=yn hv
    exact⟨hn.1,λk hk=>zv s0 (hn.2.1 k hk)⟩
  · have c0:=h.ct k
    have c1:=zan v k;have c2:0<cntO b k->k<W.heap.size:=zd2 h.rb;have c3:0<cntO c k->k<W.heap.size:=zd2 h.rc;have c4:0<cntP z k->k<W.heap.size:=zo0 h.zz;have c5:0<(zak v).count k->W.heap.size<=k:=λhp=>hn.2.1 k (c1.2.1 hp)
    rw[zjh]at c0;rw[zjg];omega
  · obtain⟨x,_,_,e,_⟩:=h.gg v' hv
    cases e
  · obtain⟨x,_,_,_,e,_⟩:=h.ss u hu
    cases e
theorem E6s.rowB{v:Value}(h:E6s W0 n1 cs1 n2 cs2 n3 cs3 a none c g z s W) (hn:za9 102 1 W v n2 cs2 W'):E6s W0 n1 cs1 n2 cs2 n3 cs3 a (some v) c g z s W':=by
  have h':=h.more hn.2.2;have s0:=h.be.size;refine⟨h'.be,h'.ra,λv' hv=>?_,h'.rc,λk=>?_,λv' hv=>?_,h'.zz,λu hu=>?_⟩
  · obtain rfl:=yn hv
    exact⟨hn.1,λk hk=>zv s0 (hn.2.1 k hk)⟩
  · have c0:=h.ct k
    have c1:=zan v k;have c2:0<cntO a k->k<W.heap.size:=zd2 h.ra;have c3:0<cntO c k->k<W.heap.size:=zd2 h.rc;have c4:0<cntP z k->k<W.heap.size:=zo0 h.zz;have c5:0<(zak v).count k->W.heap.size<=k:=λhp=>hn.2.1 k (c1.2.1 hp)
    rw[zjh]at c0;rw[zjg];omega
  · obtain⟨_,y,_,_,e,_⟩:=h.gg v' hv
    cases e
  · obtain⟨_,y,_,_,_,e,_⟩:=h.ss u hu
    cases e
theorem E6s.rowC{v:Value}(h:E6s W0 n1 cs1 n2 cs2 n3 cs3 a b none g z s W)(hn:za9 46 3 W v n3 cs3 W'):E6s W0 n1 cs1 n2 cs2 n3 cs3 a b (some v) g z s W':=by
  have h':=h.more hn.2.2;have s0:=h.be.size;refine⟨h'.be,h'.ra,h'.rb,λv' hv=>?_,λk=>?_,λv' hv=>?_,h'.zz,λu hu=>?_⟩
  · obtain rfl:=yn hv
    exact⟨hn.1,λk hk=>zv s0 (hn.2.1 k hk)⟩
  · have c0:=h.ct k
    have c1:=zan v k;have c2:0<cntO a k->k<W.heap.size:=zd2 h.ra;have c3:0<cntO b k->k<W.heap.size:=zd2 h.rb;have c4:0<cntP z k->k<W.heap.size:=zo0 h.zz;have c5:0<(zak v).count k->W.heap.size<=k:=λhp=>hn.2.1 k (c1.2.1 hp)
    rw[zjh]at c0;rw[zjg];omega
  · obtain⟨_,_,t,_,_,e,_⟩:=h.gg v' hv
    cases e
  · obtain⟨_,_,t,_,_,_,e,_⟩:=h.ss u hu
    cases e
theorem E6s.build{x y t:Value}(h:E6s W0 n1 cs1 n2 cs2 n3 cs3 (some x) (some y) (some t) none z s W):E6s W0 n1 cs1 n2 cs2 n3 cs3 (some x) (some y) (some t) (some (.agg #[x,y,t])) z s W:=
 ⟨h.be,h.ra,h.rb,h.rc,h.ct,λ_ hv=>⟨x,y,t,rfl,rfl,rfl,(yn hv).symm⟩,h.zz,h.ss⟩
theorem E6s.alloc (h:E6s W0 n1 cs1 n2 cs2 n3 cs3 a b c g none s W)(hb:Below W.heap.size W W')(hz:W'.heap[W.heap.size]?=some zg3):E6s W0 n1 cs1 n2 cs2 n3 cs3 a b c g (some (.pointer (some ⟨W.heap.size,0,none⟩))) s W':=by
  have h':=h.more hb;refine⟨h'.be,h'.ra,h'.rb,h'.rc,λk=>?_,h'.gg,λv hv=>⟨_,(yn hv).symm,h.be.size,(zJ.1 hz).1,λ_=>hz⟩,λu hu=>?_⟩
  · have c0:=h.ct k
    have c2:0<cntO a k->k<W.heap.size:=zd2 h.ra;have c3:0<cntO b k->k<W.heap.size:=zd2 h.rb;have c4:0<cntO c k->k<W.heap.size:=zd2 h.rc;simp only[cntP]at c0⊢;split<;>omega
  · obtain⟨_,_,_,_,_,_,_,e,_⟩:=h.ss u hu
    cases e
theorem E6s.store {x y t u:Value}{bx:Nat}(h:E6s W0 n1 cs1 n2 cs2 n3 cs3 (some x) (some y) (some t) g (some (.pointer (some ⟨bx,0,none⟩))) none W) (hg:W.grownBy W' (some bx))(ht:TriV W' bx 46 x y t):E6s W0 n1 cs1 n2 cs2 n3 cs3 (some x) (some y) (some t) g (some (.pointer (some ⟨bx,0,none⟩))) (some u) W':=by
 have hne:∀k,0<cntO (some x) k+cntO (some y) k+cntO (some t) k->k≠bx:=λk hk e=>by
  have:=h.ct k;simp only[cntP,e,yl]at this hk;omega
 have hbk:∀k,k<W.heap.size->k≠bx->W'.heap[k]?=W.heap[k]?:=λk hk hn=>hg.block k hk λe=>hn (by injection e)
 obtain⟨bx',e,hb0,hblt,_⟩:=h.zz _ rfl;injection e with e;injection e with e;injection e with e;subst e;refine⟨h.be.grown hg h.be.size (λk hk=>by injection hk with hk;omega),h.ra.kept λk hk hp=>hbk k hk (hne k (by omega)),h.rb.kept λk hk hp=>hbk k hk (hne k (by omega)),h.rc.kept λk hk hp=>hbk k hk (hne k (by omega)),h.ct,h.gg,λv hv=>⟨bx,(yn hv).symm,hb0,ht.lt,λh=>by cases h⟩,λv hv=>⟨x,y,t,bx,rfl,rfl,rfl,rfl,ht⟩⟩
end
section
variable {P : Program} {T Te : TypeId} {ops : Array Oper} {o : Oper} {a : Act} {Q : Exit → Act → World → Prop} {w : World} {K : Act → World → Prop}
theorem zjz (hP:LoP P T Te 1){x y z:Operand}{A B C:Option Addr}{l1 l2 l3 k1 k2 k3:Nat}(ho:o.op=.buildSlice T 3 #[(0,x),(1,y),(2,z)])(hx:a.eval x=.slice A l1 k1)(hy:a.eval y=.slice B l2 k2)(hz:a.eval z=.slice C l3 k3)(h:K (a.put o.dst (.slice (some ⟨w.heap.size,0,none⟩) 3 3)) (w.alloc (.cells [.slice A l1 k1,.slice B l2 k2,.slice C l3 k3].toArray Te))):o.wp P a w K Q:=by
 obtain⟨i,z,hi,hz',hsz,hby,hzs⟩:=hP.all;have hr:Array.range (3*1)=#[0,1,2]:=rfl;have hrun:(Instr.buildSlice T 3 #[(0,.slice A l1 k1),(1,.slice B l2 k2),(2,.slice C l3 k3)]).run P w=.ok (.slice (some ⟨w.heap.size,0,none⟩) 3 3) (w.alloc (.cells [.slice A l1 k1,.slice B l2 k2,.slice C l3 k3].toArray Te)):=by
  simp[Instr.buildSlice,zr hP.hT,sizeOf,typeInfo,zeroValue,hi,hz',hsz,newRow,Value.cells,Instr.fill,hr]
 unfold Oper.wp execOp;simp only[ho,hx,hy,hz,zZ,yb,ye,zE,zn,zo,hrun];exact h
theorem zq6(hP:LoP P T Te 1){x y:Operand}{A B:Option Addr}{l1 l2 k1 k2:Nat}(ho:o.op=.buildSlice T 2 #[(0,x),(1,y)]) (hx:a.eval x=.slice A l1 k1) (hy:a.eval y=.slice B l2 k2)
  (h:K (a.put o.dst (.slice (some ⟨w.heap.size,0,none⟩) 2 2)) (w.alloc (.cells [.slice A l1 k1,.slice B l2 k2].toArray Te))):o.wp P a w K Q:=by
 obtain⟨i,z,hi,hz',hsz,hby,hzs⟩:=hP.all;have hr:Array.range (2*1)=#[0,1]:=rfl;have hrun:(Instr.buildSlice T 2 #[(0,.slice A l1 k1),(1,.slice B l2 k2)]).run P w=.ok (.slice (some ⟨w.heap.size,0,none⟩) 2 2) (w.alloc (.cells [.slice A l1 k1,.slice B l2 k2].toArray Te)):=by
  simp[Instr.buildSlice,zr hP.hT,sizeOf,typeInfo,zeroValue,hi,hz',hsz,newRow,Value.cells,Instr.fill,hr]
 unfold Oper.wp execOp;simp only[ho,hx,hy,zZ,yb,ye,zE,zn,zo,hrun];exact h
end
theorem kksP:LoP Tryz.prog 207 42 1:=⟨⟨by kernel_rfl,by kernel_rfl⟩,.slice none 0 0,24,by kernel_rfl,rfl,by omega⟩
theorem ccsP:LoP Tryz.prog 236 43 1:=⟨⟨by kernel_rfl,by kernel_rfl⟩,.slice none 0 0,24,by kernel_rfl,rfl,by omega⟩
theorem nnsP:LoP Tryz.prog 238 44 1:=⟨⟨by kernel_rfl,by kernel_rfl⟩,.slice none 0 0,24,by kernel_rfl,rfl,by omega⟩
theorem RowQ.src'{Te:TypeId}{sz n c:Nat}{w:World}{a:Option Addr}{vs:List Value}(h:RowQ Te sz w (.slice a n c) n vs):SrcC sz w a n vs:=by
 obtain⟨ad,c',e,_,h1⟩:=h.src;cases e;exact h1
theorem RowQ.srcMid{Te:TypeId}{sz n c g i:Nat}{w:World}{vs:List Value}(h:RowQ Te sz w (.slice (Option.some ⟨g,0,none⟩) n c) n vs)(hi:i<n):SrcC sz w (Option.some ⟨g,0+i*sz,none⟩) (i+1-i) ((vs.take ((i+1)*sz)).drop (i*sz)):=by
 obtain⟨ad,c',e,hc,h1⟩:=h.part (Nat.le_succ i) hi;cases e;rw[zh (by omega)]at h1;simpa[zN]using h1
def J5(A1 A2 A3:World->Value->World->Prop)(bx:Nat):List Value->World->Value->World->Prop
 |[],W,v,W'=>A1 W v W'
 |[_],W,v,W'=>A2 W v W'
 |[_,_],W,v,W'=>A3 W v W'
 |[c,b,a],W,v,W'=>v=.agg #[a,b,c]/\W'=W
 |[_,c,b,a],W,_,W'=>TriV W' bx 46 a b c/\W.grownBy W' (some bx)
 |_,_,_,_=>False
def fpJ (v1 v2 v3:Value)(bx:Nat):Nat->Nat->Prop
 |0,k=>v1.ownBlock=some k
 |1,k=>v2.ownBlock=some k
 |2,k=>v3.ownBlock=some k
 |4,k=>k=bx
 |_,_=>False
def rGo (Te:TypeId)(sz:Nat)(v:Value)(n:Nat)(vs:List Value):World->Value->World->Prop:=λW a W'=>zci Te sz W v n vs a W'
theorem j5_trd{v1 v2 v3:Value}{n1 n2 n3:Nat}{vs1 vs2 vs3:List Value}{bx:Nat}:∀(l:List Value) (W:World) (v:Value)(W':World),J5 (rGo 23 1 v1 n1 vs1) (rGo 102 1 v2 n2 vs2) (rGo 46 3 v3 n3 vs3) bx l W v W'->Trd (λk=>fpJ v1 v2 v3 bx l.length k) W W'
 |[],_,_,_,h=>zci.trd h
 |[_],_,_,_,h=>zci.trd h
 |[_,_],_,_,_,h=>zci.trd h
 |[_,_,_],_,_,_,⟨_,h⟩=>by subst h;exact Trd.refl _ _
 |[_,_,_,_],_,_,_,⟨_,h⟩=>Trd.ofGrown h λ_ hk=>by injection hk with hk;exact hk.symm
 |_::_::_::_::_::_,_,_,_,h=>h.elim
theorem fpJ_not{v1 v2 v3:Value}{bx g:Nat}(h1:v1.ownBlock≠some g)(h2:v2.ownBlock≠some g)(h3:v3.ownBlock≠some g)(h4:g≠bx)(N:Nat):¬∃p,p<N/\fpJ v1 v2 v3 bx p g:=by
 rintro⟨p,_,h⟩;rcases p with _|_|_|_|_|p
 ·exact h1 h
 ·exact h2 h
 ·exact h3 h
 ·exact h
 ·exact h4 h
 ·exact h
theorem zdn{W:World}{B:Nat}{us:List Value}{t:TypeId}(hB:W.heap[B]?=some (.cells us.toArray t (0,0))){k:Nat}{u:Value}(h:us[k]?=some u):W.cell? ⟨B,k,none⟩=some u:=by
 simp[World.cell?,hB,h]
theorem zr5(w:World){D:Nat->Prop}{v:Value}{n:Nd}{F:List Nat}{i:Nat}(h:NdAt D w v n F)(hi:i+1<n.kids.length)(hik:i<n.keys.length)(hic:i<n.chains.length)(hbd:n.keys.length<=1000/\n.chains.length<=1000/\n.kids.length<=1000/\(kidN n i).keys.length<=1000/\(kidN n i).chains.length<=1000/\(kidN n i).kids.length<=1000/\(kidN n (i+1)).keys.length<=1000/\(kidN n (i+1)).chains.length<=1000/\(kidN n (i+1)).kids.length<=1000):
    Calls Tryz.prog 171 #[v,.int .i64 i] w (NdTo D w F (·=zbb n i)):=by
  obtain⟨vs,rfl,ho⟩:=h.ex;obtain⟨v1,v2,v3,us1,us2,us3,F3,rfl,p⟩:=ho.pts;obtain⟨usA,us',FA,F',hus3,hF3,oA,o'⟩:=by
    have:=p.o3;rw[<-yz i n.kids]at this;exact zeu this
  rw[zqo hi]at o';rw[<-zbl (show i<n.kids.length by omega),<-zbl hi]at o';obtain⟨ka,hka⟩:∃k,k=kidN n i:=⟨_,rfl⟩;obtain⟨kb,hkb⟩:∃k,k=kidN n (i+1):=⟨_,rfl⟩;rw[<-hka,<-hkb]at o' hbd;rw[zbf]at o';obtain⟨msa,us'',Fa,F'',rfl,rfl,oa,o''⟩:=o';rw[zbf]at o'';obtain⟨msb,usB,Fb,FB,rfl,rfl,ob,oB⟩:=o'';have hlA:=zgt oA;rw[zp,yi (by omega)]at hlA;obtain⟨x1,x2,x3,xu1,xu2,xu3,Fxx,rfl,px⟩:=oa.pts;obtain⟨y1,y2,y3,yu1,yu2,yu3,Fyy,rfl,py⟩:=ob.pts;obtain⟨g1,c1,rfl,hc1,hg1⟩:=p.r1.some (by omega);obtain⟨g2,c2,rfl,hc2,hg2⟩:=p.r2.some (by omega);obtain⟨g3,c3,rfl,hc3,hg3⟩:=p.r3.some (by omega);obtain⟨ax1,cx1,rfl,_,_⟩:=px.r1.shape;obtain⟨ax2,cx2,rfl,_,_⟩:=px.r2.shape;obtain⟨ax3,cx3,rfl,_,_⟩:=px.r3.shape;obtain⟨ay1,cy1,rfl,_,_⟩:=py.r1.shape;obtain⟨ay2,cy2,rfl,_,_⟩:=py.r2.shape;obtain⟨ay3,cy3,rfl,_,_⟩:=py.r3.shape;obtain⟨W,hW,q,bn,bz,hsz⟩:=zdk w 46 (.slice (Option.some ⟨g1,0,none⟩) n.keys.length c1) (.slice (Option.some ⟨g2,0,none⟩) n.chains.length c2) (.slice (Option.some ⟨g3,0,none⟩) n.kids.length c3) (.slice none 0 0) (.slice none 0 0) (.slice none 0 0);have kc:∀j u,([Value.slice ax1 ka.keys.length cx1,.slice ax2 ka.chains.length cx2,.slice ax3 ka.kids.length cx3]++[Value.slice ay1 kb.keys.length cy1,.slice ay2 kb.chains.length cy2,.slice ay3 kb.kids.length cy3])[j]?=Option.some u->w.cell? ⟨g3,i*3+j,none⟩=Option.some u:=λj u hj=>by
    have hjl:=(yI.1 hj).1;refine p.r3.cell (g:=g3) rfl (j:=i*3+j) (u:=u) ?_;rw[hus3,<-zG _ _ usB,xw (by omega),hlA,xW,xu hjl];exact hj
  have kcW:∀(X:World),Below W.heap.size W X->∀j u,([Value.slice ax1 ka.keys.length cx1,.slice ax2 ka.chains.length cx2,.slice ax3 ka.kids.length cx3]++[Value.slice ay1 kb.keys.length cy1,.slice ay2 kb.chains.length cy2,.slice ay3 kb.kids.length cy3])[j]?=Option.some u->X.cell? ⟨g3,i*3+j,none⟩=Option.some u:=λX hX j u hj=>(zag ((hX.block g3 (zm (zad (kc j u hj)) q.size)).trans (q.block g3 (zad (kc j u hj)))) _).trans (kc j u hj)
  have HKA:=Lib.hid hka;have HKB:=Lib.hid hkb;clear hka hkb;go_enter Tryz.func171,Tryz.ntmps171;go_upto_region 1 with(fail);rw[<-hW];clear hW;refine zcn (K:=λ_ _=>True) (by kernel_rfl) (by kernel_rfl) [11,12,13,14] (by kernel_rfl) [lEq (.pointer (some ⟨w.heap.size,0+2,none⟩)),lEq (.slice (some ⟨g3,0,none⟩) n.kids.length c3),lEq (.int .i64 (i:Int)),lEq (.pointer (some ⟨g3,0+i*3,none⟩)),lEq (.agg #[.slice ax1 ka.keys.length cx1,.slice ax2 ka.chains.length cx2,.slice ax3 ka.kids.length cx3]),lEq (.pointer (some ⟨w.heap.size,0+2,none⟩)),lEq (.slice (some ⟨g3,0,none⟩) n.kids.length c3),lEq (.int .i64 (i:Int)),lEq (.int .i64 ((i:Int)+1)),lEq (.pointer (some ⟨g3,0+(i+1)*3,none⟩)),lEq (.agg #[.slice ay1 kb.keys.length cy1,.slice ay2 kb.chains.length cy2,.slice ay3 kb.kids.length cy3]),lAny,lAny,lAny,lAny] (E4 W (.cells #[.slice ax1 ka.keys.length cx1,.slice ax2 ka.chains.length cx2,.slice ax3 ka.kids.length cx3] 46 (0,0)) (.cells #[.slice ay1 kb.keys.length cy1,.slice ay2 kb.chains.length cy2,.slice ay3 kb.kids.length cy3] 46 (0,0)) zg3) E4.more ⟨ze _ _,λ_=>rfl,λ_=>rfl,λv hv=>by simp at hv,λv hv=>by simp at hv,λv hv=>by simp at hv⟩
    ⟨?o0,?o1,?o2,?o3,?o4,?o5,?o6,?o7,?o8,?o9,?o10,?o11,?o12,?o13,?o14,trivial⟩ ?fin
  case o0=>
    refine StOp.free rfl (by kernel_rfl) (λA va D w' hF hT hN hE hd hu hg=>?_);have e1:=hF 2 rfl;exact zaf ndS rfl (e1) (by omega) ⟨_,rfl,rfl,ze _ _⟩
  case o1=>
    refine StOp.free rfl (by kernel_rfl) (λA va D w' hF hT hN hE hd hu hg=>?_);have e1:=(hT 8 0 (by simp) rfl).trans (hg ⟨0,.data⟩ (by simp) rfl rfl);exact zae (e:=46) rfl (e1) (by kernel_rfl) ((bn.below hE.below bn.lt).cell2) ⟨_,rfl,rfl,ze _ _⟩
  case o2=>
    refine StOp.free rfl (by kernel_rfl) (λA va D w' hF hT hN hE hd hu hg=>?_);have e1:=hF 1 rfl;exact zu _ rfl ⟨_,rfl,e1,ze _ _⟩
  case o3=>
    refine StOp.free rfl (by kernel_rfl) (λA va D w' hF hT hN hE hd hu hg=>?_);have e1:=(hT 9 1 (by simp) rfl).trans (hg ⟨1,.data⟩ (by simp) rfl rfl);have e2:=(hT 10 2 (by simp) rfl).trans (hg ⟨2,.data⟩ (by simp) rfl rfl);exact zhn (e:=46) rfl (by kernel_rfl) (by kernel_rfl) (e1) (e2) rfl (by omega) ⟨_,rfl,rfl,ze _ _⟩
  case o4=>
    refine StOp.free rfl (by kernel_rfl) (λA va D w' hF hT hN hE hd hu hg=>?_);have e1:=(hT 11 3 (by simp) rfl).trans (hg ⟨3,.data⟩ (by simp) rfl rfl);exact zej ndS rfl (e1) (by simpa using kcW _ hE.below 0 _ rfl) (by simpa using kcW _ hE.below 1 _ rfl) (by simpa using kcW _ hE.below 2 _ rfl) ⟨_,rfl,rfl,ze _ _⟩
  case o5=>
    refine StOp.free rfl (by kernel_rfl) (λA va D w' hF hT hN hE hd hu hg=>?_);have e1:=hF 2 rfl;exact zaf ndS rfl (e1) (by omega) ⟨_,rfl,rfl,ze _ _⟩
  case o6=>
    refine StOp.free rfl (by kernel_rfl) (λA va D w' hF hT hN hE hd hu hg=>?_);have e1:=(hT 13 5 (by simp) rfl).trans (hg ⟨5,.data⟩ (by simp) rfl rfl);exact zae (e:=46) rfl (e1) (by kernel_rfl) ((bn.below hE.below bn.lt).cell2) ⟨_,rfl,rfl,ze _ _⟩
  case o7=>
    refine StOp.free rfl (by kernel_rfl) (λA va D w' hF hT hN hE hd hu hg=>?_);have e1:=hF 1 rfl;exact zu _ rfl ⟨_,rfl,e1,ze _ _⟩
  case o8=>
    refine StOp.free rfl (by kernel_rfl) (λA va D w' hF hT hN hE hd hu hg=>?_);have e1:=(hT 15 7 (by simp) rfl).trans (hg ⟨7,.data⟩ (by simp) rfl rfl);exact zbq rfl (e1) (rfl) (by omega) (by omega) ⟨_,rfl,rfl,ze _ _⟩
  case o9=>
    refine StOp.free rfl (by kernel_rfl) (λA va D w' hF hT hN hE hd hu hg=>?_);have e1:=(hT 14 6 (by simp) rfl).trans (hg ⟨6,.data⟩ (by simp) rfl rfl);have e2:=(hT 16 8 (by simp) rfl).trans (hg ⟨8,.data⟩ (by simp) rfl rfl);exact zhn (e:=46) rfl (by kernel_rfl) (by kernel_rfl) (e1) (e2) (k:=i+1) (by omega) (by omega) ⟨_,rfl,rfl,ze _ _⟩
  case o10=>
    refine StOp.free rfl (by kernel_rfl) (λA va D w' hF hT hN hE hd hu hg=>?_);have e1:=(hT 17 9 (by simp) rfl).trans (hg ⟨9,.data⟩ (by simp) rfl rfl);exact zej ndS rfl (e1) (by have:=kcW _ hE.below 3 _ rfl;rwa[show i*3+3=0+(i+1)*3 by omega]at this) (by have:=kcW _ hE.below 4 _ rfl;rwa[show i*3+4=0+(i+1)*3+1 by omega]at this) (by have:=kcW _ hE.below 5 _ rfl;rwa[show i*3+5=0+(i+1)*3+2 by omega]at this) ⟨_,rfl,rfl,ze _ _⟩
  case o11=>
    refine StOp.set rfl (by kernel_rfl) (λA va D w' hF hT hN hE hd hu hg=>?_);refine zfi rfl (λw2 hb2 hz=>⟨_,rfl,?_,trivial⟩);have hE2:=hE;simp only[told,zn,zo,hN,zY,zW]at hE2;have h5:=E4.allocA hE2 hb2 hz;simpa[told,don,upd]using h5
  case o12=>
    refine StOp.set rfl (by kernel_rfl) (λA va D w' hF hT hN hE hd hu hg=>?_);refine zfi rfl (λw2 hb2 hz=>⟨_,rfl,?_,trivial⟩);have hE2:=hE;simp only[told,zn,zo,hN,zY,zW]at hE2;have h5:=E4.allocB hE2 hb2 hz;simpa[told,don,upd]using h5
  case o13=>
    refine StOp.set rfl (by kernel_rfl) (λA va D w' hF hT hN hE hd hu hg=>?_);have x1:A.eval (.tmp 5)=va 11:=hT 5 11 (by simp) rfl;have e2:=(hT 12 4 (by simp) rfl).trans (hg ⟨4,.data⟩ (by simp) rfl rfl);have hx:D 11=true:=hd ⟨11,.data⟩ (by simp) rfl;have hE2:=hE;simp only[told,zn,zo,hN,hx,zY,zW,yl]at hE2;obtain⟨b,eb,hb1,hb2⟩:=hE2.2.2.2.1 _ rfl;refine zcm rfl (x1.trans eb) e2 rfl rfl rfl hb2 (λw2 hg2 ht2=>⟨_,rfl,?_,trivial⟩);have h5:=E4.storeA (u:=undef) hE2 eb hg2 ht2;simpa[told,don,upd,hx]using h5
  case o14=>
    refine StOp.set rfl (by kernel_rfl) (λA va D w' hF hT hN hE hd hu hg=>?_);have x1:A.eval (.tmp 6)=va 12:=hT 6 12 (by simp) rfl;have e2:=(hT 18 10 (by simp) rfl).trans (hg ⟨10,.data⟩ (by simp) rfl rfl);have hx:D 12=true:=hd ⟨12,.data⟩ (by simp) rfl;have hE2:=hE;simp only[told,zn,zo,hN,hx,zY,zW,yl]at hE2;obtain⟨b,eb,hb1,hb2⟩:=hE2.2.2.2.2.1 _ rfl;refine zcm rfl (x1.trans eb) e2 rfl rfl rfl hb2 (λw2 hg2 ht2=>⟨_,rfl,?_,trivial⟩);have h5:=E4.storeB (u:=undef) hE2 eb hg2 ht2;simpa[told,don,upd,hx]using h5
  case fin=>
  intro vs1 W1 hE hG;have e0:vs1 0=.pointer (some ⟨w.heap.size,0+2,none⟩):=hG 0 (by decide) rfl;have e1:vs1 1=.slice (some ⟨g3,0,none⟩) n.kids.length c3:=hG 1 (by decide) rfl;have e2:vs1 2=.int .i64 (i:Int):=hG 2 (by decide) rfl;have e3:vs1 3=.pointer (some ⟨g3,0+i*3,none⟩):=hG 3 (by decide) rfl;have e4:vs1 4=.agg #[.slice ax1 ka.keys.length cx1,.slice ax2 ka.chains.length cx2,.slice ax3 ka.kids.length cx3]:=hG 4 (by decide) rfl;have e5:vs1 5=.pointer (some ⟨w.heap.size,0+2,none⟩):=hG 5 (by decide) rfl;have e6:vs1 6=.slice (some ⟨g3,0,none⟩) n.kids.length c3:=hG 6 (by decide) rfl;have e7:vs1 7=.int .i64 (i:Int):=hG 7 (by decide) rfl;have e8:vs1 8=.int .i64 ((i:Int)+1):=hG 8 (by decide) rfl;have e9:vs1 9=.pointer (some ⟨g3,0+(i+1)*3,none⟩):=hG 9 (by decide) rfl;have e10:vs1 10=.agg #[.slice ay1 kb.keys.length cy1,.slice ay2 kb.chains.length cy2,.slice ay3 kb.kids.length cy3]:=hG 10 (by decide) rfl;obtain⟨q1,_,_,hA,hB,_⟩:=hE;obtain⟨bA,e11,hbA,ta⟩:=hA _ rfl;obtain⟨bB,e12,hbB,tb⟩:=hB _ rfl;replace ta:TriV W1 bA 46 (.slice ax1 ka.keys.length cx1) (.slice ax2 ka.chains.length cx2) (.slice ax3 ka.kids.length cx3):=ta;replace tb:TriV W1 bB 46 (.slice ay1 kb.keys.length cy1) (.slice ay2 kb.chains.length cy2) (.slice ay3 kb.kids.length cy3):=tb;simp only[zaj,e0,e1,e2,e3,e4,e5,e6,e7,e8,e9,e10,e11,e12];clear hG hA hB e0 e1 e2 e3 e4 e5 e6 e7 e8 e9 e10 e11 e12 kcW;replace bn:=bn.below q1 (by omega);replace bz:=bz.below q1 (by omega);have q0:=q.trans (q1.mono q.size);have z1:w.heap.size+2<=W1.heap.size:=by have:=q1.size;omega
  clear q1 hsz;have hneK:∀us:List Value,Obj.cells us.toArray 42 (0,0)≠zg3:=λus e=>by injection e with _ e2;cases e2
  have hneC:∀us:List Value,Obj.cells us.toArray 43 (0,0)≠zg3:=λus e=>by injection e with _ e2;cases e2
  have hneN:∀us:List Value,Obj.cells us.toArray 44 (0,0)≠zg3:=λus e=>by injection e with _ e2;cases e2
  obtain⟨psK,hpsK⟩:∃ps:List Pc,ps=[⟨ax1,ka.keys.length,cx1,xu1⟩,⟨Option.some ⟨g1,0+i*1,none⟩,i+1-i,c1-i,(us1.take ((i+1)*1)).drop (i*1)⟩,⟨ay1,kb.keys.length,cy1,yu1⟩]:=⟨_,rfl⟩;obtain⟨psC,hpsC⟩:∃ps:List Pc,ps=[⟨ax2,ka.chains.length,cx2,xu2⟩,⟨Option.some ⟨g2,0+i*1,none⟩,i+1-i,c2-i,(us2.take ((i+1)*1)).drop (i*1)⟩,⟨ay2,kb.chains.length,cy2,yu2⟩]:=⟨_,rfl⟩;obtain⟨psN,hpsN⟩:∃ps:List Pc,ps=[⟨ax3,ka.kids.length,cx3,xu3⟩,⟨ay3,kb.kids.length,cy3,yu3⟩]:=⟨_,rfl⟩;have sK:sumC psK=ka.keys.length+1+kb.keys.length:=by rw[hpsK];unfold sumC;simp only[zn,zo,wm,List.sum_nil];omega
  have sC:sumC psC=ka.chains.length+1+kb.chains.length:=by rw[hpsC];unfold sumC;simp only[zn,zo,wm,List.sum_nil];omega
  have sN:sumC psN=ka.kids.length+kb.kids.length:=by rw[hpsN];unfold sumC;simp only[zn,zo,wm,List.sum_nil];omega
  have H1:∀(W':World) (B:Nat),Below W1.heap.size W1 W'->W'.heap[B]?=Option.some (.cells [.slice ax1 ka.keys.length cx1,.slice (Option.some ⟨g1,0+i*1,none⟩) (i+1-i) (c1-i),.slice ay1 kb.keys.length cy1].toArray 42 (0,0))->Calls Tryz.prog 190 #[.slice (Option.some ⟨B,0,none⟩) 3 3] W' (zdy 23 1 W' (sumC psK) (allC psK)):=λW' B hb hB=>by
    have qw:=q0.trans (hb.mono q0.size);refine concat_k W' (ps:=psK) (m:=3) (λk hk=>?_) (by rw[hpsK];rfl) (by omega) (λp hp=>?_) (by rw[sK];omega)
    · subst hpsK
      rcases k with _|_|_|k
      ·exact zdn hB rfl
      ·exact zdn hB rfl
      ·exact zdn hB rfl
      ·exact absurd hk (by simp only[zI,zM];omega)
    · rw[hpsK]at hp
      simp only[zU,yJ,yK]at hp;rcases hp with rfl|rfl|rfl
      ·exact px.r1.src'.below qw
      ·exact(p.r1.srcMid hik).below qw
      ·exact py.r1.src'.below qw
  have H2:∀(W':World)(B:Nat),Below W1.heap.size W1 W'->W'.heap[B]?=Option.some (.cells [.slice ax2 ka.chains.length cx2,.slice (Option.some ⟨g2,0+i*1,none⟩) (i+1-i) (c2-i),.slice ay2 kb.chains.length cy2].toArray 43 (0,0))->Calls Tryz.prog 191 #[.slice (Option.some ⟨B,0,none⟩) 3 3] W' (zdy 102 1 W' (sumC psC) (allC psC)):=λW' B hb hB=>by
    have qw:=q0.trans (hb.mono q0.size);refine concat_c W' (ps:=psC) (m:=3) (λk hk=>?_) (by rw[hpsC];rfl) (by omega) (λp hp=>?_) (by rw[sC];omega)
    · subst hpsC
      rcases k with _|_|_|k
      ·exact zdn hB rfl
      ·exact zdn hB rfl
      ·exact zdn hB rfl
      ·exact absurd hk (by simp only[zI,zM];omega)
    · rw[hpsC]at hp
      simp only[zU,yJ,yK]at hp;rcases hp with rfl|rfl|rfl
      ·exact px.r2.src'.below qw
      ·exact(p.r2.srcMid hic).below qw
      ·exact py.r2.src'.below qw
  have H3:∀(W':World) (B:Nat),Below W1.heap.size W1 W'->W'.heap[B]?=Option.some (.cells [.slice ax3 ka.kids.length cx3,.slice ay3 kb.kids.length cy3].toArray 44 (0,0))->Calls Tryz.prog 192 #[.slice (Option.some ⟨B,0,none⟩) 2 2] W' (zdy 46 3 W' (sumC psN) (allC psN)):=λW' B hb hB=>by
    have qw:=q0.trans (hb.mono q0.size);refine concat_n W' (ps:=psN) (m:=2) (λk hk=>?_) (by rw[hpsN];rfl) (by omega) (λp hp=>?_) (by rw[sN];omega)
    · subst hpsN
      rcases k with _|_|k
      ·exact zdn hB rfl
      ·exact zdn hB rfl
      ·exact absurd hk (by simp only[zI,zM];omega)
    · rw[hpsN]at hp
      simp only[zU,yJ,yK]at hp;rcases hp with rfl|rfl
      ·exact px.r3.src'.below qw
      ·exact py.r3.src'.below qw
  have eCk:∀args w,(callFunc 190 args).run Tryz.prog w=.ok (.enter 190 args) w:=enters_of Tryz.func190 (by kernel_rfl) rfl;have eCc:∀args w,(callFunc 191 args).run Tryz.prog w=.ok (.enter 191 args) w:=enters_of Tryz.func191 (by kernel_rfl) rfl;have eCn:∀args w,(callFunc 192 args).run Tryz.prog w=.ok (.enter 192 args) w:=enters_of Tryz.func192 (by kernel_rfl) rfl;go_simp;go_upto_region 2 with(fail);refine zcn (K:=K6) (by kernel_rfl) (by kernel_rfl) [11,23,29,30,31,32] (by kernel_rfl) [lEq (.pointer (some ⟨bA,0+0,none⟩)),lEq (.slice ax1 ka.keys.length cx1),lEq (.pointer (some ⟨w.heap.size,0+0,none⟩)),lEq (.slice (some ⟨g1,0,none⟩) n.keys.length c1),lEq (.int .i64 (i:Int)),lEq (.int .i64 (i:Int)),lEq (.int .i64 ((i:Int)+1)),lEq (.slice (some ⟨g1,0+i*1,none⟩) (i+1-i) (c1-i)),lEq (.pointer (some ⟨bB,0+0,none⟩)),lEq (.slice ay1 kb.keys.length cy1),lRowZ W1 42 3 [.slice ax1 ka.keys.length cx1,.slice (some ⟨g1,0+i*1,none⟩) (i+1-i) (c1-i),.slice ay1 kb.keys.length cy1] (hneK _),lAny,lEq (.pointer (some ⟨bA,0+1,none⟩)),lEq (.slice ax2 ka.chains.length cx2),lEq (.pointer (some ⟨w.heap.size,0+1,none⟩)),lEq (.slice (some ⟨g2,0,none⟩) n.chains.length c2),lEq (.int .i64 (i:Int)),lEq (.int .i64 (i:Int)),lEq (.int .i64 ((i:Int)+1)),lEq (.slice (some ⟨g2,0+i*1,none⟩) (i+1-i) (c2-i)),lEq (.pointer (some ⟨bB,0+1,none⟩)),lEq (.slice ay2 kb.chains.length cy2),lRowZ W1 43 3 [.slice ax2 ka.chains.length cx2,.slice (some ⟨g2,0+i*1,none⟩) (i+1-i) (c2-i),.slice ay2 kb.chains.length cy2] (hneC _),lAny,lEq (.pointer (some ⟨bA,0+2,none⟩)),lEq (.slice ax3 ka.kids.length cx3),lEq (.pointer (some ⟨bB,0+2,none⟩)),lEq (.slice ay3 kb.kids.length cy3),lRowZ W1 44 2 [.slice ax3 ka.kids.length cx3,.slice ay3 kb.kids.length cy3] (hneN _),lAny,lAny,lAny,lAny] (E6 W1 (sumC psK) (allC psK) (sumC psC) (allC psC) (sumC psN) (allC psN)) E6.more ⟨ze _ _,λv hv=>by simp at hv,λv hv=>by simp at hv,λv hv=>by simp at hv,λk=>by simp[cntO,cntP],λv hv=>by simp at hv,λv hv=>by simp at hv,λv hv=>by simp at hv⟩
    ⟨?o0,?o1,?o2,?o3,?o4,?o5,?o6,?o7,?o8,?o9,?o10,?o11,?o12,?o13,?o14,?o15,?o16,?o17,?o18,?o19,?o20,?o21,?o22,?o23,?o24,?o25,?o26,?o27,?o28,?o29,?o30,?o31,?o32,trivial⟩ ?fin2
  case o0=>
    refine StOp.free rfl (by kernel_rfl) (λA va D w' hF hT hN hE hd hu hg=>?_);have e1:=hF 5 rfl;exact zaf ndS rfl (e1) (by omega) ⟨_,rfl,rfl,ze _ _⟩
  case o1=>
    refine StOp.free rfl (by kernel_rfl) (λA va D w' hF hT hN hE hd hu hg=>?_);have e1:=(hT 19 0 (by simp) rfl).trans (hg ⟨0,.data⟩ (by simp) rfl rfl);exact zae (e:=23) rfl (e1) (by kernel_rfl) ((ta.below hE.below ta.lt).cell0) ⟨_,rfl,rfl,ze _ _⟩
  case o2=>
    refine StOp.free rfl (by kernel_rfl) (λA va D w' hF hT hN hE hd hu hg=>?_);have e1:=hF 2 rfl;exact zaf ndS rfl (e1) (by omega) ⟨_,rfl,rfl,ze _ _⟩
  case o3=>
    refine StOp.free rfl (by kernel_rfl) (λA va D w' hF hT hN hE hd hu hg=>?_);have e1:=(hT 21 2 (by simp) rfl).trans (hg ⟨2,.data⟩ (by simp) rfl rfl);exact zae (e:=23) rfl (e1) (by kernel_rfl) ((bn.below hE.below bn.lt).cell0) ⟨_,rfl,rfl,ze _ _⟩
  case o4=>
    refine StOp.free rfl (by kernel_rfl) (λA va D w' hF hT hN hE hd hu hg=>?_);have e1:=hF 1 rfl;exact zu _ rfl ⟨_,rfl,e1,ze _ _⟩
  case o5=>
    refine StOp.free rfl (by kernel_rfl) (λA va D w' hF hT hN hE hd hu hg=>?_);have e1:=hF 1 rfl;exact zu _ rfl ⟨_,rfl,e1,ze _ _⟩
  case o6=>
    refine StOp.free rfl (by kernel_rfl) (λA va D w' hF hT hN hE hd hu hg=>?_);have e1:=(hT 24 5 (by simp) rfl).trans (hg ⟨5,.data⟩ (by simp) rfl rfl);exact zbq rfl (e1) (rfl) (by omega) (by omega) ⟨_,rfl,rfl,ze _ _⟩
  case o7=>
    refine StOp.free rfl (by kernel_rfl) (λA va D w' hF hT hN hE hd hu hg=>?_);have e1:=(hT 22 3 (by simp) rfl).trans (hg ⟨3,.data⟩ (by simp) rfl rfl);have e2:=(hT 23 4 (by simp) rfl).trans (hg ⟨4,.data⟩ (by simp) rfl rfl);have e3:=(hT 25 6 (by simp) rfl).trans (hg ⟨6,.data⟩ (by simp) rfl rfl);exact zav kysP.toLsP rfl (e1) (congrArg some e2) (congrArg some e3) (zbj (l:=i) (h:=i+1) _ rfl (by omega) (by omega) (by omega)) (by omega) ⟨_,rfl,rfl,ze _ _⟩
  case o8=>
    refine StOp.free rfl (by kernel_rfl) (λA va D w' hF hT hN hE hd hu hg=>?_);have e1:=hF 6 rfl;exact zaf ndS rfl (e1) (by omega) ⟨_,rfl,rfl,ze _ _⟩
  case o9=>
    refine StOp.free rfl (by kernel_rfl) (λA va D w' hF hT hN hE hd hu hg=>?_);have e1:=(hT 27 8 (by simp) rfl).trans (hg ⟨8,.data⟩ (by simp) rfl rfl);exact zae (e:=23) rfl (e1) (by kernel_rfl) ((tb.below hE.below tb.lt).cell0) ⟨_,rfl,rfl,ze _ _⟩
  case o10=>
    refine StOp.free rfl (by kernel_rfl) (λA va D w' hF hT hN hE hd hu hg=>?_);have e1:=(hT 20 1 (by simp) rfl).trans (hg ⟨1,.data⟩ (by simp) rfl rfl);have e2:=(hT 26 7 (by simp) rfl).trans (hg ⟨7,.data⟩ (by simp) rfl rfl);have e3:=(hT 28 9 (by simp) rfl).trans (hg ⟨9,.data⟩ (by simp) rfl rfl);exact zjz kksP rfl e1 e2 e3 ⟨_,rfl,⟨w'.heap.size,rfl,hE.below.size,by simp only[World.alloc,yf]⟩,(ze _ _).alloc (zf _) _⟩
  case o11=>
    refine StOp.set rfl (by kernel_rfl) (λA va D w' hF hT hN hE hd hu hg=>?_);have x1:A.eval (.tmp 29)=va 10:=hT 29 10 (by simp) rfl;have y1:=hg ⟨10,.data⟩ (by simp) rfl rfl;have y1':∃B,va 10=.slice (some ⟨B,0,none⟩) 3 3/\W1.heap.size<=B/\w'.heap[B]?=some (.cells [.slice ax1 ka.keys.length cx1,.slice (some ⟨g1,0+i*1,none⟩) (i+1-i) (c1-i),.slice ay1 kb.keys.length cy1].toArray 42 (0,0)):=y1;obtain⟨B,eB,hB1,hB2⟩:=y1';have hE2:=hE;simp only[told,zn,zo,hN,zY,zW]at hE2;refine zah rfl eCk (args:=#[.slice (some ⟨B,0,none⟩) 3 3]) (by simp only[zE,zn,zo,x1.trans eB]) ((H1 w' B hE.below hB2).mono ?_);rintro e W4 ⟨v',rfl,hR⟩;refine⟨_,rfl,_,rfl,?_,K6.of hR.2.2⟩;have h5:E6 W1 _ _ _ _ _ _ [_,_,_,_,_,_] W4:=E6s.rowA hE2 hR;simpa [told,don,upd]using h5
  case o12=>
    refine StOp.free rfl (by kernel_rfl) (λA va D w' hF hT hN hE hd hu hg=>?_);have e1:=hF 5 rfl;exact zaf ndS rfl (e1) (by omega) ⟨_,rfl,rfl,ze _ _⟩
  case o13=>
    refine StOp.free rfl (by kernel_rfl) (λA va D w' hF hT hN hE hd hu hg=>?_);have e1:=(hT 31 12 (by simp) rfl).trans (hg ⟨12,.data⟩ (by simp) rfl rfl);exact zae (e:=102) rfl (e1) (by kernel_rfl) ((ta.below hE.below ta.lt).cell1) ⟨_,rfl,rfl,ze _ _⟩
  case o14=>
    refine StOp.free rfl (by kernel_rfl) (λA va D w' hF hT hN hE hd hu hg=>?_);have e1:=hF 2 rfl;exact zaf ndS rfl (e1) (by omega) ⟨_,rfl,rfl,ze _ _⟩
  case o15=>
    refine StOp.free rfl (by kernel_rfl) (λA va D w' hF hT hN hE hd hu hg=>?_);have e1:=(hT 33 14 (by simp) rfl).trans (hg ⟨14,.data⟩ (by simp) rfl rfl);exact zae (e:=102) rfl (e1) (by kernel_rfl) ((bn.below hE.below bn.lt).cell1) ⟨_,rfl,rfl,ze _ _⟩
  case o16=>
    refine StOp.free rfl (by kernel_rfl) (λA va D w' hF hT hN hE hd hu hg=>?_);have e1:=hF 1 rfl;exact zu _ rfl ⟨_,rfl,e1,ze _ _⟩
  case o17=>
    refine StOp.free rfl (by kernel_rfl) (λA va D w' hF hT hN hE hd hu hg=>?_);have e1:=hF 1 rfl;exact zu _ rfl ⟨_,rfl,e1,ze _ _⟩
  case o18=>
    refine StOp.free rfl (by kernel_rfl) (λA va D w' hF hT hN hE hd hu hg=>?_);have e1:=(hT 36 17 (by simp) rfl).trans (hg ⟨17,.data⟩ (by simp) rfl rfl);exact zbq rfl (e1) (rfl) (by omega) (by omega) ⟨_,rfl,rfl,ze _ _⟩
  case o19=>
    refine StOp.free rfl (by kernel_rfl) (λA va D w' hF hT hN hE hd hu hg=>?_);have e1:=(hT 34 15 (by simp) rfl).trans (hg ⟨15,.data⟩ (by simp) rfl rfl);have e2:=(hT 35 16 (by simp) rfl).trans (hg ⟨16,.data⟩ (by simp) rfl rfl);have e3:=(hT 37 18 (by simp) rfl).trans (hg ⟨18,.data⟩ (by simp) rfl rfl);exact zav chsP.toLsP rfl (e1) (congrArg some e2) (congrArg some e3) (zbj (l:=i) (h:=i+1) _ rfl (by omega) (by omega) (by omega)) (by omega) ⟨_,rfl,rfl,ze _ _⟩
  case o20=>
    refine StOp.free rfl (by kernel_rfl) (λA va D w' hF hT hN hE hd hu hg=>?_);have e1:=hF 6 rfl;exact zaf ndS rfl (e1) (by omega) ⟨_,rfl,rfl,ze _ _⟩
  case o21=>
    refine StOp.free rfl (by kernel_rfl) (λA va D w' hF hT hN hE hd hu hg=>?_);have e1:=(hT 39 20 (by simp) rfl).trans (hg ⟨20,.data⟩ (by simp) rfl rfl);exact zae (e:=102) rfl (e1) (by kernel_rfl) ((tb.below hE.below tb.lt).cell1) ⟨_,rfl,rfl,ze _ _⟩
  case o22=>
    refine StOp.free rfl (by kernel_rfl) (λA va D w' hF hT hN hE hd hu hg=>?_);have e1:=(hT 32 13 (by simp) rfl).trans (hg ⟨13,.data⟩ (by simp) rfl rfl);have e2:=(hT 38 19 (by simp) rfl).trans (hg ⟨19,.data⟩ (by simp) rfl rfl);have e3:=(hT 40 21 (by simp) rfl).trans (hg ⟨21,.data⟩ (by simp) rfl rfl);exact zjz ccsP rfl e1 e2 e3 ⟨_,rfl,⟨w'.heap.size,rfl,hE.below.size,by simp only[World.alloc,yf]⟩,(ze _ _).alloc (zf _) _⟩
  case o23=>
    refine StOp.set rfl (by kernel_rfl) (λA va D w' hF hT hN hE hd hu hg=>?_);have x1:A.eval (.tmp 41)=va 22:=hT 41 22 (by simp) rfl;have y1:=hg ⟨22,.data⟩ (by simp) rfl rfl;have y1':∃B,va 22=.slice (some ⟨B,0,none⟩) 3 3/\W1.heap.size<=B/\w'.heap[B]?=some (.cells [.slice ax2 ka.chains.length cx2,.slice (some ⟨g2,0+i*1,none⟩) (i+1-i) (c2-i),.slice ay2 kb.chains.length cy2].toArray 43 (0,0)):=y1;obtain⟨B,eB,hB1,hB2⟩:=y1';have hE2:=hE;simp only[told,zn,zo,hN,zY,zW]at hE2;refine zah rfl eCc (args:=#[.slice (some ⟨B,0,none⟩) 3 3]) (by simp only[zE,zn,zo,x1.trans eB]) ((H2 w' B hE.below hB2).mono ?_);rintro e W4 ⟨v',rfl,hR⟩;refine⟨_,rfl,_,rfl,?_,K6.of hR.2.2⟩;have h5:E6 W1 _ _ _ _ _ _ [_,_,_,_,_,_] W4:=E6s.rowB hE2 hR;simpa [told,don,upd]using h5
  case o24=>
    refine StOp.free rfl (by kernel_rfl) (λA va D w' hF hT hN hE hd hu hg=>?_);have e1:=hF 5 rfl;exact zaf ndS rfl (e1) (by omega) ⟨_,rfl,rfl,ze _ _⟩
  case o25=>
    refine StOp.free rfl (by kernel_rfl) (λA va D w' hF hT hN hE hd hu hg=>?_);have e1:=(hT 43 24 (by simp) rfl).trans (hg ⟨24,.data⟩ (by simp) rfl rfl);exact zae (e:=46) rfl (e1) (by kernel_rfl) ((ta.below hE.below ta.lt).cell2) ⟨_,rfl,rfl,ze _ _⟩
  case o26=>
    refine StOp.free rfl (by kernel_rfl) (λA va D w' hF hT hN hE hd hu hg=>?_);have e1:=hF 6 rfl;exact zaf ndS rfl (e1) (by omega) ⟨_,rfl,rfl,ze _ _⟩
  case o27=>
    refine StOp.free rfl (by kernel_rfl) (λA va D w' hF hT hN hE hd hu hg=>?_);have e1:=(hT 45 26 (by simp) rfl).trans (hg ⟨26,.data⟩ (by simp) rfl rfl);exact zae (e:=46) rfl (e1) (by kernel_rfl) ((tb.below hE.below tb.lt).cell2) ⟨_,rfl,rfl,ze _ _⟩
  case o28=>
    refine StOp.free rfl (by kernel_rfl) (λA va D w' hF hT hN hE hd hu hg=>?_);have e1:=(hT 44 25 (by simp) rfl).trans (hg ⟨25,.data⟩ (by simp) rfl rfl);have e2:=(hT 46 27 (by simp) rfl).trans (hg ⟨27,.data⟩ (by simp) rfl rfl);exact zq6 nnsP rfl e1 e2 ⟨_,rfl,⟨w'.heap.size,rfl,hE.below.size,by simp only[World.alloc,yf]⟩,(ze _ _).alloc (zf _) _⟩
  case o29=>
    refine StOp.set rfl (by kernel_rfl) (λA va D w' hF hT hN hE hd hu hg=>?_);have x1:A.eval (.tmp 47)=va 28:=hT 47 28 (by simp) rfl;have y1:=hg ⟨28,.data⟩ (by simp) rfl rfl;have y1':∃B,va 28=.slice (some ⟨B,0,none⟩) 2 2/\W1.heap.size<=B/\w'.heap[B]?=some (.cells [.slice ax3 ka.kids.length cx3,.slice ay3 kb.kids.length cy3].toArray 44 (0,0)):=y1;obtain⟨B,eB,hB1,hB2⟩:=y1';have hE2:=hE;simp only[told,zn,zo,hN,zY,zW]at hE2;refine zah rfl eCn (args:=#[.slice (some ⟨B,0,none⟩) 2 2]) (by simp only[zE,zn,zo,x1.trans eB]) ((H3 w' B hE.below hB2).mono ?_);rintro e W4 ⟨v',rfl,hR⟩;refine⟨_,rfl,_,rfl,?_,K6.of hR.2.2⟩;have h5:E6 W1 _ _ _ _ _ _ [_,_,_,_,_,_] W4:=E6s.rowC hE2 hR;simpa [told,don,upd]using h5
  case o30=>
    refine StOp.set rfl (by kernel_rfl) (λA va D w' hF hT hN hE hd hu hg=>?_);have x1:A.eval (.tmp 30)=va 11:=hT 30 11 (by simp) rfl;have x2:A.eval (.tmp 42)=va 23:=hT 42 23 (by simp) rfl;have x3:A.eval (.tmp 48)=va 29:=hT 48 29 (by simp) rfl;have h11:D 11=true:=hd ⟨11,.data⟩ (by simp) rfl;have h23:D 23=true:=hd ⟨23,.data⟩ (by simp) rfl;have h29:D 29=true:=hd ⟨29,.data⟩ (by simp) rfl;have hE2:E6 W1 _ _ _ _ _ _ (told [11,23,29,30,31,32] D va) w':=hE;simp only[told,zn,zo,hN,h11,h23,h29,zY,zW,yl]at hE2;have hE3:E6s W1 _ _ _ _ _ _ _ _ _ _ _ _ w':=hE2;have ca:(va 11).cells=#[va 11]:=by
      obtain⟨_,_,e,_⟩:=(hE3.ra _ rfl).1.shape;rw[e];rfl
    have cb:(va 23).cells=#[va 23]:=by
      obtain⟨_,_,e,_⟩:=(hE3.rb _ rfl).1.shape;rw[e];rfl
    have cc:(va 29).cells=#[va 29]:=by
      obtain⟨_,_,e,_⟩:=(hE3.rc _ rfl).1.shape;rw[e];rfl
    refine zfh ndS rfl x1 x2 x3 ca cb cc ⟨_,rfl,?_,K6.of (ze _ _)⟩;have h5:E6 W1 _ _ _ _ _ _ [_,_,_,_,_,_] w':=E6s.build hE3;simpa [told,don,upd,h11,h23,h29]using h5
  case o31=>
    refine StOp.set rfl (by kernel_rfl) (λA va D w' hF hT hN hE hd hu hg=>?_);have hE2:=hE;simp only[told,zn,zo,hN,zY,zW]at hE2;refine zfi rfl (λw2 hb2 hz=>⟨_,rfl,?_,K6.of hb2⟩);have h5:E6 W1 _ _ _ _ _ _ [_,_,_,_,_,_] w2:=E6s.alloc hE2 hb2 hz;simpa [told,don,upd]using h5
  case o32=>
    refine StOp.set rfl (by kernel_rfl) (λA va D w' hF hT hN hE hd hu hg=>?_);have x1:A.eval (.tmp 7)=va 31:=hT 7 31 (by simp) rfl;have x2:A.eval (.tmp 49)=va 30:=hT 49 30 (by simp) rfl;have h11:D 11=true:=hd ⟨11,.phase⟩ (by simp) rfl;have h23:D 23=true:=hd ⟨23,.phase⟩ (by simp) rfl;have h29:D 29=true:=hd ⟨29,.phase⟩ (by simp) rfl;have h30:D 30=true:=hd ⟨30,.data⟩ (by simp) rfl;have h31:D 31=true:=hd ⟨31,.data⟩ (by simp) rfl;have hE2:E6 W1 _ _ _ _ _ _ (told [11,23,29,30,31,32] D va) w':=hE;simp only[told,zn,zo,hN,h11,h23,h29,h30,h31,zY,zW,yl]at hE2;have hE3:E6s W1 _ _ _ _ _ _ _ _ _ _ _ _ w':=hE2;obtain⟨x,y,t,ex,ey,et,eg⟩:=hE3.gg _ rfl;cases ex;cases ey;cases et;obtain⟨bx,ez,hz1,hz2,hz3⟩:=hE3.zz _ rfl;have ca:(va 11).oneCell'=true:=by
      obtain⟨_,_,e,_⟩:=(hE3.ra _ rfl).1.shape;rw[e];rfl
    have cb:(va 23).oneCell'=true:=by
      obtain⟨_,_,e,_⟩:=(hE3.rb _ rfl).1.shape;rw[e];rfl
    have cc:(va 29).oneCell'=true:=by
      obtain⟨_,_,e,_⟩:=(hE3.rc _ rfl).1.shape;rw[e];rfl
    refine zcm rfl (x1.trans ez) (x2.trans eg) ca cb cc (hz3 rfl) (λw2 hg2 ht2=>⟨_,rfl,?_,⟨bx,λo ho=>by rw[hz3 rfl]at ho;exact(yn ho).symm,Trd.ofGrown hg2 λk hk=>by injection hk with hk;exact hk.symm⟩⟩);rw[ez]at hE3;have h5:E6 W1 _ _ _ _ _ _ [_,_,_,_,_,_] w2:=E6s.store (u:=undef) hE3 hg2 ht2;rw[<-ez]at h5;simpa [told,don,upd,h11,h23,h29,h30,h31]using h5
  case fin2=>
  intro vs2 W2 hE hG;clear hG;have hE3:E6s W1 (sumC psK) (allC psK) (sumC psC) (allC psC) (sumC psN) (allC psN) (some (vs2 11)) (some (vs2 23)) (some (vs2 29)) (some (vs2 30)) (some (vs2 31)) (some (vs2 32)) W2:=hE;obtain⟨kx,ky,kt,bk,ex,ey,et,ez,tk⟩:=hE3.ss _ rfl;have q2:=hE3.be;obtain⟨rkx,okx⟩:=hE3.ra kx ex;obtain⟨rky,oky⟩:=hE3.rb ky ey;obtain⟨rkt,okt⟩:=hE3.rc kt et;obtain⟨bk',eb',hbk1,hbk2,_⟩:=hE3.zz _ ez;injection eb' with eb';injection eb' with eb';injection eb' with eb';subst eb';have ctk:=hE3.ct;rw[ex,ey,et,ez]at ctk;replace ctk:∀k,(zak kx).count k+(zak ky).count k+(zak kt).count k+(if bk=k then 1 else 0)<=1:=ctk;have ho1:∀u∈[kx,ky,kt],u.oneCell'=true:=by
    obtain⟨_,_,rfl,_⟩:=rkx.shape;obtain⟨_,_,rfl,_⟩:=rky.shape;obtain⟨_,_,rfl,_⟩:=rkt.shape;intro u hu;simp only[zU,yJ,yK]at hu;rcases hu with rfl|rfl|rfl<;>rfl
  have e31:=yn ez;simp only[zaj,e31];clear hE hE3 ex ey et ez e31 H1 H2 H3 eCk eCc eCn ta tb hneK hneC hneN kc;have z2:=q2.size;replace bn:=bn.below q2 (by omega);replace bz:=bz.below q2 (by omega);replace q0:=q0.trans (q2.mono q0.size);replace okx:∀g,kx.ownBlock=Option.some g->w.heap.size+2<=g:=λg hg=>by have:=okx g hg;omega
  replace oky:∀g,ky.ownBlock=Option.some g->w.heap.size+2<=g:=λg hg=>by have:=oky g hg;omega
  replace okt:∀g,kt.ownBlock=Option.some g->w.heap.size+2<=g:=λg hg=>by have:=okt g hg;omega
  replace hbk1:w.heap.size+2<=bk:=by omega
  clear q2;have hlF:∀g,g∈F->g<w.heap.size:=h.lt;have hN:=h.nodup;have hF:∀g,F.count g=(zak (.slice (Option.some ⟨g1,0,none⟩) n.keys.length c1)).count g+(zak (.slice (Option.some ⟨g2,0,none⟩) n.chains.length c2)).count g+(zak (.slice (Option.some ⟨g3,0,none⟩) n.kids.length c3)).count g+(FA.count g+(Fa.count g+(Fb.count g+FB.count g))):=λg=>by
    rw[p.fe,hF3];simp only[yX]
  have hFa:∀g,Fxx.count g<=Fa.count g:=λg=>by rw[px.fe];simp only[yX];omega
  have hFb:∀g,Fyy.count g<=Fb.count g:=λg=>by rw[py.fe];simp only[yX];omega
  have cnt:=zbw.1 hN;have ap:∀(x y:Value)(g:Nat),x.ownBlock=Option.some g->y.ownBlock=Option.some g->(∀k,(zak x).count k+(zak y).count k<=1)->False:=λx y g hx hy hc=>by
    have h1:=(zan x g).2.2 hx;have h2:=(zan y g).2.2 hy;have:=hc g;omega
  have l1:∀g,Value.ownBlock (.slice (Option.some ⟨g1,0,none⟩) n.keys.length c1)=Option.some g->g<w.heap.size:=λg hg=>p.r1.lt hg
  have l2:∀g,Value.ownBlock (.slice (Option.some ⟨g2,0,none⟩) n.chains.length c2)=Option.some g->g<w.heap.size:=λg hg=>p.r2.lt hg
  have l3:∀g,Value.ownBlock (.slice (Option.some ⟨g3,0,none⟩) n.kids.length c3)=Option.some g->g<w.heap.size:=λg hg=>p.r3.lt hg
  obtain⟨V1,hV1⟩:∃V,V=Value.slice (Option.some ⟨g1,0,none⟩) n.keys.length c1:=⟨_,rfl⟩;obtain⟨V2,hV2⟩:∃V,V=Value.slice (Option.some ⟨g2,0,none⟩) n.chains.length c2:=⟨_,rfl⟩;obtain⟨V3,hV3⟩:∃V,V=Value.slice (Option.some ⟨g3,0,none⟩) n.kids.length c3:=⟨_,rfl⟩;have P1:=p.r1;have P2:=p.r2;have P3:=p.r3;rw[<-hV1]at P1 hF l1;rw[<-hV2]at P2 hF l2;rw[<-hV3]at P3 hF l3 hg3;have hTr:∀(l:List Value)(W':World),Chn W2 (J5 (rGo 23 1 V1 (n.keys.length-1) (us1.take (i*1)++us1.drop ((i+1)*1))) (rGo 102 1 V2 (n.chains.length-1) (us2.take (i*1)++us2.drop ((i+1)*1))) (rGo 46 3 V3 (i+1+(n.kids.length-(i+2))) (us3.take (i*3)++[kx,ky,kt]++us3.drop ((i+2)*3))) (w.heap.size+1)) l W'->Trd (λk=>∃p,p<l.length/\fpJ V1 V2 V3 (w.heap.size+1) p k) W2 W':=λl W' h=>Chn.trd j5_trd h
  have n12:∀g,V1.ownBlock=Option.some g->V2.ownBlock≠Option.some g:=λg h1 h2=>ap V1 V2 g h1 h2 λk=>by have:=cnt k;have:=hF k;omega
  have n13:∀g,V1.ownBlock=Option.some g->V3.ownBlock≠Option.some g:=λg h1 h2=>ap V1 V3 g h1 h2 λk=>by have:=cnt k;have:=hF k;omega
  have n23:∀g,V2.ownBlock=Option.some g->V3.ownBlock≠Option.some g:=λg h1 h2=>ap V2 V3 g h1 h2 λk=>by have:=cnt k;have:=hF k;omega
  have nbx:∀g,w.heap.size<=g->g≠w.heap.size+1->∀N,¬∃p,p<N/\fpJ V1 V2 V3 (w.heap.size+1) p g:=λg h1 h2=>fpJ_not (λh3=>by have:=l1 g h3;omega) (λh3=>by have:=l2 g h3;omega) (λh3=>by have:=l3 g h3;omega) h2
  have hRN:∀(l:List Value) (W':World),Chn W2 (J5 (rGo 23 1 V1 (n.keys.length-1) (us1.take (i*1)++us1.drop ((i+1)*1))) (rGo 102 1 V2 (n.chains.length-1) (us2.take (i*1)++us2.drop ((i+1)*1))) (rGo 46 3 V3 (i+1+(n.kids.length-(i+2))) (us3.take (i*3)++[kx,ky,kt]++us3.drop ((i+2)*3))) (w.heap.size+1)) l.reverse W'->TriV W' w.heap.size 46 (.slice (Option.some ⟨g1,0,none⟩) n.keys.length c1) (.slice (Option.some ⟨g2,0,none⟩) n.chains.length c2) (.slice (Option.some ⟨g3,0,none⟩) n.kids.length c3):=λl W' h=>((hTr _ _ h).block _ bn.lt (nbx _ (zf _) (by omega) _)).trans bn
  have hRK:∀(l:List Value) (W':World),Chn W2 (J5 (rGo 23 1 V1 (n.keys.length-1) (us1.take (i*1)++us1.drop ((i+1)*1))) (rGo 102 1 V2 (n.chains.length-1) (us2.take (i*1)++us2.drop ((i+1)*1))) (rGo 46 3 V3 (i+1+(n.kids.length-(i+2))) (us3.take (i*3)++[kx,ky,kt]++us3.drop ((i+2)*3))) (w.heap.size+1)) l.reverse W'->TriV W' bk 46 kx ky kt:=λl W' h=>((hTr _ _ h).block _ tk.lt (nbx _ (by omega) (by omega) _)).trans tk
  have z0:=q0.size;have eDk:∀args w,(callFunc 193 args).run Tryz.prog w=.ok (.enter 193 args) w:=enters_of Tryz.func193 (by kernel_rfl) rfl;have eDc:∀args w,(callFunc 194 args).run Tryz.prog w=.ok (.enter 194 args) w:=enters_of Tryz.func194 (by kernel_rfl) rfl;have eRp:∀args w,(callFunc 164 args).run Tryz.prog w=.ok (.enter 164 args) w:=enters_of Tryz.func164 (by kernel_rfl) rfl;go_simp;go_upto_region 3 with(fail);refine zai (K:=K0 W2) (by kernel_rfl) (by kernel_rfl) [5,11,19,20,21] (by kernel_rfl) [lEq (.pointer (some ⟨w.heap.size,0+0,none⟩)),lEq (.slice (some ⟨g1,0,none⟩) n.keys.length c1),lEq (.int .i64 (i:Int)),lEq (.int .i64 (i:Int)),lEq (.int .i64 ((i:Int)+1)),lAny,lEq (.pointer (some ⟨w.heap.size,0+1,none⟩)),lEq (.slice (some ⟨g2,0,none⟩) n.chains.length c2),lEq (.int .i64 (i:Int)),lEq (.int .i64 (i:Int)),lEq (.int .i64 ((i:Int)+1)),lAny,lEq (.pointer (some ⟨w.heap.size,0+2,none⟩)),lEq (.slice (some ⟨g3,0,none⟩) n.kids.length c3),lEq (.int .i64 (i:Int)),lEq (.int .i64 (i:Int)),lEq (.int .i64 ((i:Int)+2)),lEq (.agg #[kx,ky,kt]),lRow W2 46 1 [kx,ky,kt],lAny,lAny,lAny] (λl W=>Chn W2 (J5 (rGo 23 1 V1 (n.keys.length-1) (us1.take (i*1)++us1.drop ((i+1)*1))) (rGo 102 1 V2 (n.chains.length-1) (us2.take (i*1)++us2.drop ((i+1)*1))) (rGo 46 3 V3 (i+1+(n.kids.length-(i+2))) (us3.take (i*3)++[kx,ky,kt]++us3.drop ((i+2)*3))) (w.heap.size+1)) l.reverse W) (λl A B h hb=>Chn.more _ _ _ h hb) (show Below W2.heap.size W2 W2 from ze _ _)
    ⟨?o0,?o1,?o2,?o3,?o4,?o5,?o6,?o7,?o8,?o9,?o10,?o11,?o12,?o13,?o14,?o15,?o16,?o17,?o18,?o19,?o20,?o21,trivial⟩ ?fin3
  case o0=>
    refine LnOp.sd (λA va w' k hF hT hk hJ hb hu hp hd=>?_);have e1:=hF 2 rfl;exact zaf ndS rfl (e1) (by omega) ⟨_,rfl,rfl,ze _ _⟩
  case o1=>
    refine LnOp.sd (λA va w' k hF hT hk hJ hb hu hp hd=>?_);have e1:=(hT 50 0 (by simp) rfl).trans (hd ⟨0,.data⟩ (by simp) rfl rfl);exact zae (e:=23) rfl (e1) (by kernel_rfl) ((hRN _ _ hJ).cell0) ⟨_,rfl,rfl,ze _ _⟩
  case o2=>
    refine LnOp.sd (λA va w' k hF hT hk hJ hb hu hp hd=>?_);have e1:=hF 1 rfl;exact zu _ rfl ⟨_,rfl,e1,ze _ _⟩
  case o3=>
    refine LnOp.sd (λA va w' k hF hT hk hJ hb hu hp hd=>?_);have e1:=hF 1 rfl;exact zu _ rfl ⟨_,rfl,e1,ze _ _⟩
  case o4=>
    refine LnOp.sd (λA va w' k hF hT hk hJ hb hu hp hd=>?_);have e1:=(hT 53 3 (by simp) rfl).trans (hd ⟨3,.data⟩ (by simp) rfl rfl);exact zbq rfl (e1) (rfl) (by omega) (by omega) ⟨_,rfl,rfl,ze _ _⟩
  case o5=>
    refine LnOp.line 0 rfl rfl (λA va w' hF hT hJ hu hd=>?_);have e1:=(hT 51 1 (by simp) rfl).trans (hd ⟨1,.data⟩ (by simp) rfl rfl);have e2:=(hT 52 2 (by simp) rfl).trans (hd ⟨2,.data⟩ (by simp) rfl rfl);have e3:=(hT 54 4 (by simp) rfl).trans (hd ⟨4,.data⟩ (by simp) rfl rfl);have hJ':Below W2.heap.size W2 w':=hJ;have hv:=(P1.below q0).below hJ';refine zah rfl eDk (args:=#[V1,.int .i64 i,.int .i64 ((i:Int)+1)]) (by simp only[zE,zn,zo,e1,e2,e3,hV1]) ((delete_k w' hv hik rfl (by omega)).mono ?_);rintro e W4 ⟨v',rfl,hR⟩;exact⟨_,rfl,_,rfl,⟨w',W4,hJ,hR,ze _ _⟩,hR.trd.mono λg _ hg=>by have:=l1 g hg;omega⟩
  case o6=>
    refine LnOp.sd (λA va w' k hF hT hk hJ hb hu hp hd=>?_);have e1:=hF 2 rfl;exact zaf ndS rfl (e1) (by omega) ⟨_,rfl,rfl,ze _ _⟩
  case o7=>
    refine LnOp.sd (λA va w' k hF hT hk hJ hb hu hp hd=>?_);have e1:=(hT 56 6 (by simp) rfl).trans (hd ⟨6,.data⟩ (by simp) rfl rfl);exact zae (e:=102) rfl (e1) (by kernel_rfl) ((hRN _ _ hJ).cell1) ⟨_,rfl,rfl,ze _ _⟩
  case o8=>
    refine LnOp.sd (λA va w' k hF hT hk hJ hb hu hp hd=>?_);have e1:=hF 1 rfl;exact zu _ rfl ⟨_,rfl,e1,ze _ _⟩
  case o9=>
    refine LnOp.sd (λA va w' k hF hT hk hJ hb hu hp hd=>?_);have e1:=hF 1 rfl;exact zu _ rfl ⟨_,rfl,e1,ze _ _⟩
  case o10=>
    refine LnOp.sd (λA va w' k hF hT hk hJ hb hu hp hd=>?_);have e1:=(hT 59 9 (by simp) rfl).trans (hd ⟨9,.data⟩ (by simp) rfl rfl);exact zbq rfl (e1) (rfl) (by omega) (by omega) ⟨_,rfl,rfl,ze _ _⟩
  case o11=>
    refine LnOp.line 1 rfl rfl (λA va w' hF hT hJ hu hd=>?_);have e1:=(hT 57 7 (by simp) rfl).trans (hd ⟨7,.data⟩ (by simp) rfl rfl);have e2:=(hT 58 8 (by simp) rfl).trans (hd ⟨8,.data⟩ (by simp) rfl rfl);have e3:=(hT 60 10 (by simp) rfl).trans (hd ⟨10,.data⟩ (by simp) rfl rfl);have hv:=(P2.below q0).trd (hTr [va 5] w' hJ) (λg hg=>by rintro⟨p,hp,hf⟩;rcases p with _|p;exact n12 g hf hg;simp only[zI,zM]at hp;omega);refine zah rfl eDc (args:=#[V2,.int .i64 i,.int .i64 ((i:Int)+1)]) (by simp only[zE,zn,zo,e1,e2,e3,hV2]) ((delete_c w' hv hic rfl (by omega)).mono ?_);rintro e W4 ⟨v',rfl,hR⟩;exact⟨_,rfl,_,rfl,⟨w',W4,hJ,hR,ze _ _⟩,hR.trd.mono λg _ hg=>by have:=l2 g hg;omega⟩
  case o12=>
    refine LnOp.sd (λA va w' k hF hT hk hJ hb hu hp hd=>?_);have e1:=hF 2 rfl;exact zaf ndS rfl (e1) (by omega) ⟨_,rfl,rfl,ze _ _⟩
  case o13=>
    refine LnOp.sd (λA va w' k hF hT hk hJ hb hu hp hd=>?_);have e1:=(hT 62 12 (by simp) rfl).trans (hd ⟨12,.data⟩ (by simp) rfl rfl);exact zae (e:=46) rfl (e1) (by kernel_rfl) ((hRN _ _ hJ).cell2) ⟨_,rfl,rfl,ze _ _⟩
  case o14=>
    refine LnOp.sd (λA va w' k hF hT hk hJ hb hu hp hd=>?_);have e1:=hF 1 rfl;exact zu _ rfl ⟨_,rfl,e1,ze _ _⟩
  case o15=>
    refine LnOp.sd (λA va w' k hF hT hk hJ hb hu hp hd=>?_);have e1:=hF 1 rfl;exact zu _ rfl ⟨_,rfl,e1,ze _ _⟩
  case o16=>
    refine LnOp.sd (λA va w' k hF hT hk hJ hb hu hp hd=>?_);have e1:=(hT 65 15 (by simp) rfl).trans (hd ⟨15,.data⟩ (by simp) rfl rfl);exact zbq rfl (e1) (rfl) (by omega) (by omega) ⟨_,rfl,rfl,ze _ _⟩
  case o17=>
    refine LnOp.sd (λA va w' k hF hT hk hJ hb hu hp hd=>?_);have e1:=hF 7 rfl;exact zej ndS rfl (e1) ((hRK _ _ hJ).cell0) ((hRK _ _ hJ).cell1) ((hRK _ _ hJ).cell2) ⟨_,rfl,rfl,ze _ _⟩
  case o18=>
    refine LnOp.sd (λA va w' k hF hT hk hJ hb hu hp hd=>?_);have e1:=(hT 67 17 (by simp) rfl).trans (hd ⟨17,.data⟩ (by simp) rfl rfl);exact zba ndP rfl e1 rfl rfl (by omega) (by omega) ⟨_,rfl,⟨w'.heap.size,rfl,(hTr _ _ hJ).size,by simp only[World.alloc,yf]⟩,(ze _ _).alloc (zf _) _⟩
  case o19=>
    refine LnOp.line 2 rfl rfl (λA va w' hF hT hJ hu hd=>?_);have e1:=(hT 63 13 (by simp) rfl).trans (hd ⟨13,.data⟩ (by simp) rfl rfl);have e2:=(hT 64 14 (by simp) rfl).trans (hd ⟨14,.data⟩ (by simp) rfl rfl);have e3:=(hT 66 16 (by simp) rfl).trans (hd ⟨16,.data⟩ (by simp) rfl rfl);have x4:A.eval (.tmp 68)=va 18:=hT 68 18 (by simp) rfl;have y4:=hd ⟨18,.data⟩ (by simp) rfl rfl;have hJ':Chn W2 (J5 (rGo 23 1 V1 (n.keys.length-1) (us1.take (i*1)++us1.drop ((i+1)*1))) (rGo 102 1 V2 (n.chains.length-1) (us2.take (i*1)++us2.drop ((i+1)*1))) (rGo 46 3 V3 (i+1+(n.kids.length-(i+2))) (us3.take (i*3)++[kx,ky,kt]++us3.drop ((i+2)*3))) (w.heap.size+1)) [va 11,va 5] w':=hJ;have y4':∃B,va 18=.slice (some ⟨B,0,none⟩) 1 1/\W2.heap.size<=B/\w'.heap[B]?=some (.cells [kx,ky,kt].toArray 46 (0,0)):=y4;obtain⟨B,eB,hB1,hB2⟩:=y4';have hv:=(P3.below q0).trd (hTr _ _ hJ') (λg hg=>by rintro⟨p,hp,hf⟩;rcases p with _|_|p;exact n13 g hf hg;exact n23 g hf hg;simp only[zI,zM]at hp;omega);refine zah rfl eRp (args:=#[V3,.int .i64 i,.int .i64 ((i:Int)+2),.slice (some ⟨B,0,none⟩) 1 1]) (by simp only[zE,zn,zo,e1,e2,e3,x4.trans eB,hV3]) ((zmk w' hv (j:=i+2) (by omega) (by omega) (by omega) (by omega) (by omega) hB2 rfl ho1 (λe=>by have:=l3 B e;omega) (by omega)).mono ?_);rintro e W4 ⟨v',rfl,hR⟩;exact⟨_,rfl,_,rfl,⟨w',W4,hJ,hR,ze _ _⟩,hR.trd.mono λg _ hg=>by have:=l3 g hg;omega⟩
  case o20=>
    refine LnOp.line 3 rfl rfl (λA va w' hF hT hJ hu hd=>?_);have x1:A.eval (.tmp 55)=va 5:=hT 55 5 (by simp) rfl;have x2:A.eval (.tmp 61)=va 11:=hT 61 11 (by simp) rfl;have x3:A.eval (.tmp 69)=va 19:=hT 69 19 (by simp) rfl;have hJc:Chn W2 (J5 (rGo 23 1 V1 (n.keys.length-1) (us1.take (i*1)++us1.drop ((i+1)*1))) (rGo 102 1 V2 (n.chains.length-1) (us2.take (i*1)++us2.drop ((i+1)*1))) (rGo 46 3 V3 (i+1+(n.kids.length-(i+2))) (us3.take (i*3)++[kx,ky,kt]++us3.drop ((i+2)*3))) (w.heap.size+1)) [va 19,va 11,va 5] w':=hJ;obtain⟨_,_,hJ1,hRc,_⟩:=hJc;obtain⟨_,_,hJ2,hRb,_⟩:=hJ1;obtain⟨_,_,_,hRa,_⟩:=hJ2;have ca:(va 5).cells=#[va 5]:=by
      obtain⟨_,_,e,_⟩:=RowQ.shape hRa.1;rw[e];rfl
    have cb:(va 11).cells=#[va 11]:=by
      obtain⟨_,_,e,_⟩:=RowQ.shape hRb.1;rw[e];rfl
    have cc:(va 19).cells=#[va 19]:=by
      obtain⟨_,_,e,_⟩:=RowQ.shape hRc.1;rw[e];rfl
    exact zfh ndS rfl x1 x2 x3 ca cb cc ⟨_,rfl,⟨w',w',hJ,⟨rfl,rfl⟩,ze _ _⟩,Trd.refl _ _⟩
  case o21=>
    refine LnOp.line 4 rfl rfl (λA va w' hF hT hJ hu hd=>?_);have e1:=hF 4 rfl;have x2:A.eval (.tmp 70)=va 20:=hT 70 20 (by simp) rfl;have hJ':Chn W2 (J5 (rGo 23 1 V1 (n.keys.length-1) (us1.take (i*1)++us1.drop ((i+1)*1))) (rGo 102 1 V2 (n.chains.length-1) (us2.take (i*1)++us2.drop ((i+1)*1))) (rGo 46 3 V3 (i+1+(n.kids.length-(i+2))) (us3.take (i*3)++[kx,ky,kt]++us3.drop ((i+2)*3))) (w.heap.size+1)) [va 20,va 19,va 11,va 5] w':=hJ;have hbx:=((hTr _ _ hJ').block (w.heap.size+1) bz.lt (by rintro⟨p,hp,hf⟩;rcases p with _|_|_|_|p;have:=l1 _ hf;omega;have:=l2 _ hf;omega;have:=l3 _ hf;omega;exact hf;simp only[zI,zM]at hp;omega)).trans bz;obtain⟨_,_,hJ0,⟨eg,_⟩,_⟩:=hJ';obtain⟨_,_,hJ1,hRc,_⟩:=hJ0;obtain⟨_,_,hJ2,hRb,_⟩:=hJ1;obtain⟨_,_,_,hRa,_⟩:=hJ2;have ca:(va 5).oneCell'=true:=by
      obtain⟨_,_,e,_⟩:=RowQ.shape hRa.1;rw[e];rfl
    have cb:(va 11).oneCell'=true:=by
      obtain⟨_,_,e,_⟩:=RowQ.shape hRb.1;rw[e];rfl
    have cc:(va 19).oneCell'=true:=by
      obtain⟨_,_,e,_⟩:=RowQ.shape hRc.1;rw[e];rfl
    refine zcm rfl e1 (x2.trans eg) ca cb cc hbx (λw2 hg ht=>?_);exact⟨_,rfl,⟨w',w2,hJ,⟨ht,hg⟩,ze _ _⟩,Trd.ofGrown hg λg hk=>by injection hk with hk;omega⟩
  case fin3=>
    intro vs1 W9 hJ hG;clear hG;have hJc:Chn W2 (J5 (rGo 23 1 V1 (n.keys.length-1) (us1.take (i*1)++us1.drop ((i+1)*1))) (rGo 102 1 V2 (n.chains.length-1) (us2.take (i*1)++us2.drop ((i+1)*1))) (rGo 46 3 V3 (i+1+(n.kids.length-(i+2))) (us3.take (i*3)++[kx,ky,kt]++us3.drop ((i+2)*3))) (w.heap.size+1)) [vs1 21,vs1 20,vs1 19,vs1 11,vs1 5] W9:=hJ;have hT9:=hTr _ _ hJc;obtain⟨Wg1,Wg2,hJ4,⟨ht,hgx⟩,hbz9⟩:=hJc;obtain⟨Wf1,Wf2,hJ3,⟨eg,ef⟩,hbf⟩:=hJ4;obtain⟨We1,We2,hJ2,hRc,hbe⟩:=hJ3;obtain⟨Wb1,Wb2,hJ1,hRb,hbb⟩:=hJ2;obtain⟨Wa1,Wa2,hJ0,hRa,hba⟩:=hJ1;subst ef;clear hJ hTr hRN hRK;have qa0:Below W2.heap.size W2 Wa1:=hJ0;have hRa':zci _ _ _ _ _ _ _ _:=hRa;have hRb':zci _ _ _ _ _ _ _ _:=hRb;have hRc':zci _ _ _ _ _ _ _ _:=hRc;have ta:=hRa'.trd;have tb:=hRb'.trd;have tc:=hRc'.trd;have tz:Trd (·=w.heap.size+1) Wg1 Wg2:=Trd.ofGrown hgx λg hk=>by injection hk with hk;exact hk.symm
    have Tg9:Trd (·=w.heap.size+1) We2 W9:=(Trd.of (F:=(·=w.heap.size+1)) (hbe.trans (hbf.mono hbe.size))).trans (tz.trans (Trd.of (F:=(·=w.heap.size+1)) hbz9) λ_ _ h=>h) λ_ _ h=>h
    have Tc9:Trd (λg=>V3.ownBlock=Option.some g\/g=w.heap.size+1) We1 W9:=(tc.mono λ_ _ h=>.inl h).trans Tg9 λ_ _ h=>.inr h
    have Tb9:Trd (λg=>V3.ownBlock=Option.some g\/g=w.heap.size+1) Wb2 W9:=(Trd.of (F:=λg=>V3.ownBlock=Option.some g\/g=w.heap.size+1) hbb).trans Tc9 λ_ _ h=>h
    have Ta9:Trd (λg=>V2.ownBlock=Option.some g\/V3.ownBlock=Option.some g\/g=w.heap.size+1) Wa2 W9:=((Trd.of (F:=λg=>V2.ownBlock=Option.some g\/V3.ownBlock=Option.some g\/g=w.heap.size+1) hba).trans (tb.mono (F':=λg=>V2.ownBlock=Option.some g\/V3.ownBlock=Option.some g\/g=w.heap.size+1) λ_ _ h=>.inl h) λ_ _ h=>h).trans Tb9 λ_ _ h=>.inr h
    have sa0:=qa0.size;have sa:=ta.size;have sba:=hba.size;have sb:=tb.size;have sbb:=hbb.size;have sc:=tc.size;have ra:RowQ 23 1 W9 (vs1 5) _ _:=hRa'.1.trd Ta9 λg hg=>by
      rcases hRa'.2.2 with e|⟨g',e,hge⟩
      · rw[e]at hg
        rintro(h1|h1|h1);·exact n12 g hg h1
        ·exact n13 g hg h1
        ·have:=l1 g hg;omega
      · rw[e]at hg;injection hg with hg
        rintro(h1|h1|h1);·have:=l2 g h1;omega
        ·have:=l3 g h1;omega
        ·omega
    have rb:RowQ 102 1 W9 (vs1 11) _ _:=hRb'.1.trd Tb9 λg hg=>by
      rcases hRb'.2.2 with e|⟨g',e,hge⟩
      · rw[e]at hg
        rintro(h1|h1);·exact n23 g hg h1
        ·have:=l2 g hg;omega
      · rw[e]at hg;injection hg with hg
        rintro(h1|h1);·have:=l3 g h1;omega
        ·omega
    have rc:RowQ 46 3 W9 (vs1 19) _ _:=hRc'.1.trd Tg9 λg hg h1=>by
      rcases hRc'.2.2 with e|⟨g',e,hge⟩
      · rw[e]at hg;have:=l3 g hg;omega
      · rw[e]at hg;injection hg with hg;omega
    have nk:∀(x:Value),(∀g,x.ownBlock=Option.some g->w.heap.size+2<=g)->∀g,x.ownBlock=Option.some g->¬∃p,p<[vs1 21,vs1 20,vs1 19,vs1 11,vs1 5].length/\fpJ V1 V2 V3 (w.heap.size+1) p g:=λx hx g hg=>nbx g (by have:=hx g hg;omega) (by have:=hx g hg;omega) _
    have fpF:∀g,g<w.heap.size->(∃p,p<[vs1 21,vs1 20,vs1 19,vs1 11,vs1 5].length/\fpJ V1 V2 V3 (w.heap.size+1) p g)->0<(zak V1).count g+(zak V2).count g+(zak V3).count g:=by
      rintro g hlt ⟨p,_,hf⟩;rcases p with _|_|_|_|_|p
      ·have:=(zan V1 g).2.2 hf;omega
      ·have:=(zan V2 g).2.2 hf;omega
      ·have:=(zan V3 g).2.2 hf;omega
      ·exact hf.elim
      · have h9:g=w.heap.size+1:=hf
        omega
      ·exact hf.elim
    have T9:Trd (·∈F) w W9:=(Trd.of (F:=(·∈F)) q0).trans hT9 λg hlt hf=>by
      show g∈F;rw[<-zP];have:=hF g;have:=fpF g hlt hf;omega
    have hD9:∀g,D g->W9.heap[g]?=w.heap[g]?:=λg hd=>T9.block g (h.data g hd) λhm=>h.free g hm hd
    have keepF:∀g,g<w.heap.size->(zak V1).count g+(zak V2).count g+(zak V3).count g=0->W9.heap[g]?=w.heap[g]?:=λg hlt h0=>by
      refine(hT9.block g (by omega) λhf=>?_).trans (q0.block g hlt);have:=fpF g hlt hf;omega
    have kp:∀(G:List Nat),(∀g,G.count g<=FA.count g+(Fa.count g+(Fb.count g+FB.count g)))->∀g∈G,W9.heap[g]?=w.heap[g]?:=λG hG g hg=>by
      have h1:=zP.2 hg;have h2:=hG g;have h3:=hF g;exact keepF g (hlF g (zP.1 (by omega))) (by have:=cnt g;omega)
    have e3a:us3.take (i*3)=usA:=by rw[hus3,<-hlA,List.take_left]
    have e3b:us3.drop ((i+2)*3)=usB:=by
      rw[hus3,<-zG,<-zG,show(i+2)*3=(usA++[Value.slice ax1 ka.keys.length cx1,.slice ax2 ka.chains.length cx2,.slice ax3 ka.kids.length cx3]++[Value.slice ay1 kb.keys.length cy1,.slice ay2 kb.chains.length cy2,.slice ay3 kb.kids.length cy3]).length by rw[zC,zC,hlA,zT];rfl,wO]
    rw[e3a,e3b]at rc;have one:OwnN D W9 (oneF n i) [kx,ky,kt] (zak kx++zak ky++zak kt++(Fxx++Fyy)):=by
      have e0:oneF n i=.mk (ka.keys++(n.keys.take (i+1)).drop i++kb.keys) (ka.chains++(n.chains.take (i+1)).drop i++kb.chains) (ka.kids++kb.kids):=by
        unfold oneF;rw[<-HKA.out,<-HKB.out]
      have eK:allC psK=xu1++(us1.take ((i+1)*1)).drop (i*1)++yu1:=by
        rw[hpsK];unfold allC;simp only[zn,zo,List.flatten_cons,List.flatten_nil,yr,zG]
      have eC:allC psC=xu2++(us2.take ((i+1)*1)).drop (i*1)++yu2:=by
        rw[hpsC];unfold allC;simp only[zn,zo,List.flatten_cons,List.flatten_nil,yr,zG]
      have eN:allC psN=xu3++yu3:=by
        rw[hpsN];unfold allC;simp only[zn,zo,List.flatten_cons,List.flatten_nil,yr]
      rw[e0];refine Pts.own (us1:=allC psK) (us2:=allC psC) (us3:=allC psN) (F3:=Fxx++Fyy) ⟨?_,?_,?_,?_,?_,?_,rfl⟩
      · have e:(ka.keys++(n.keys.take (i+1)).drop i++kb.keys).length=sumC psK:=by
          rw[sK];simp only[zC,zp,zF];omega
        show RowQ _ _ _ _ (ka.keys++(n.keys.take (i+1)).drop i++kb.keys).length _;rw[e];exact rkx.trd hT9 (nk kx okx)
      · rw[eK]
        exact((px.l1.append (Flat.drop (Flat.take p.l1 (i+1)) i)).append py.l1).keep hD9
      · have e:(ka.chains++(n.chains.take (i+1)).drop i++kb.chains).length=sumC psC:=by
          rw[sC];simp only[zC,zp,zF];omega
        show RowQ _ _ _ _ (ka.chains++(n.chains.take (i+1)).drop i++kb.chains).length _;rw[e];exact rky.trd hT9 (nk ky oky)
      · rw[eC]
        exact((px.l2.append (Flat.drop (Flat.take p.l2 (i+1)) i)).append py.l2).keep hD9
      · have e:(ka.kids++kb.kids).length=sumC psN:=by
          rw[sN];simp only[zC]
        show RowQ _ _ _ _ (ka.kids++kb.kids).length _;rw[e];exact rkt.trd hT9 (nk kt okt)
      · rw[eN]
        exact zb7 (zbh _ px.o3 (kp _ λg=>by have:=hFa g;omega) hD9) (zbh _ py.o3 (kp _ λg=>by have:=hFb g;omega) hD9)
    have hown:OwnN D W9 (zbb n i) [vs1 5,vs1 11,vs1 19] (zak (vs1 5)++zak (vs1 11)++zak (vs1 19)++(FA++(zak kx++zak ky++zak kt++(Fxx++Fyy))++FB)):=by
      unfold zbb;refine Pts.own (us1:=us1.take (i*1)++us1.drop ((i+1)*1)) (us2:=us2.take (i*1)++us2.drop ((i+1)*1)) (us3:=usA++[kx,ky,kt]++usB) (F3:=FA++(zak kx++zak ky++zak kt++(Fxx++Fyy))++FB) ⟨?_,?_,?_,?_,?_,?_,rfl⟩
      · have e:(n.keys.take i++n.keys.drop (i+1)).length=n.keys.length-1:=by
          simp only[zC,zp,zF];omega
        show RowQ _ _ _ _ (n.keys.take i++n.keys.drop (i+1)).length _;rw[e];exact ra
      ·exact((Flat.take p.l1 i).append (Flat.drop p.l1 (i+1))).keep hD9
      · have e:(n.chains.take i++n.chains.drop (i+1)).length=n.chains.length-1:=by
          simp only[zC,zp,zF];omega
        show RowQ _ _ _ _ (n.chains.take i++n.chains.drop (i+1)).length _;rw[e];exact rb
      ·exact((Flat.take p.l2 i).append (Flat.drop p.l2 (i+1))).keep hD9
      · have e:(n.kids.take i++[oneF n i]++n.kids.drop (i+2)).length=i+1+(n.kids.length-(i+2)):=by
          simp only[zC,zp,zF,zI,zM];omega
        show RowQ _ _ _ _ (n.kids.take i++[oneF n i]++n.kids.drop (i+2)).length _;rw[e];exact rc
      ·exact zb7 (zb7 (zbh _ oA (kp _ λg=>by omega) hD9) (zf3.2 one)) (zbh _ oB (kp _ λg=>by omega) hD9)
    have hfin:=NdAt.to (Q:=(·=zbb n i)) h T9 hown rfl (λg=>by
      have c0:=cnt g;have hFg:=hF g;have hlg:0<F.count g->g<w.heap.size:=λhp=>hlF g (zP.1 hp)
      have ca:=hRa'.cnt g;have cb:=hRb'.cnt g;have cc:=hRc'.cnt g;have ck:=ctk g;have hfa:=hFa g;have hfb:=hFb g;have bkx:=λhp=>And.intro (okx g ((zan kx g).2.1 hp)) (rkx.lt ((zan kx g).2.1 hp))
      have bky:=λhp=>And.intro (oky g ((zan ky g).2.1 hp)) (rky.lt ((zan ky g).2.1 hp))
      have bkt:=λhp=>And.intro (okt g ((zan kt g).2.1 hp)) (rkt.lt ((zan kt g).2.1 hp))
      simp only[yX];clear hbd;rcases zA g w.heap.size with hlt|hge
      ·omega
      ·omega)
    simp only[zaj];go_simp;go_wp2_with fail;obtain⟨fs,hu,_⟩:=ndS.hu;have ht9:=ht.below hbz9 ht.lt;exact zD (v:=.agg #[vs1 5,vs1 11,vs1 19]) (by simp[results,Tryz.results171,go_sem,loadVar,isAgg,zr hu,zaa ndS.hs,loadCellsFrom,Addr.add,ht9.cell0,ht9.cell1,ht9.cell2]) rfl hfin
structure NdOf (D:Nat->Prop)(w:World)(lo:Nat)(F:List Nat)(W:World)(v:Value)(n:Nd)(F':List Nat):Prop where
 at':NdAt D W v n F'
 fr:∀k∈F',k∈F\/lo<=k
 trd:Trd (·∈F) w W
 dat:∀k,D k->k<w.heap.size
 lt:∀k∈F,k<w.heap.size
 lo1:w.heap.size<=lo
 lo2:lo<=W.heap.size
section
variable {D : Nat → Prop} {w W W' : World} {v : Value} {n : Nd} {F F' : List Nat} {lo : Nat}
theorem NdOf.start(h:NdAt D w v n F)(q:Below w.heap.size w W)(h1:w.heap.size<=lo)(h2:lo<=W.heap.size):NdOf D w lo F W v n F:=
 ⟨h.below q,λ_ hk=>.inl hk,Trd.of q,h.data,h.lt,h1,h2⟩
theorem NdOf.more(h:NdOf D w lo F W v n F')(q:Below W.heap.size W W'):NdOf D w lo F W' v n F':=
 ⟨h.at'.below q,h.fr,h.trd.trans (Trd.of (F:=(·∈F)) q) λ_ _ h=>h,h.dat,h.lt,h.lo1,zv h.lo2 q.size⟩
theorem NdOf.box{b:Nat}(h:NdOf D w lo F W v n F')(hg:W.grownBy W' (some b))(h1:w.heap.size<=b)(h2:b<lo):NdOf D w lo F W' v n F':=by
  have hb:∀k,k<W.heap.size->k≠b->W'.heap[k]?=W.heap[k]?:=λk hk hn=>hg.block k hk λe=>hn (by injection e)
  refine⟨h.at'.keep hg.size λk hk ho=>hb k hk λe=>?_,h.fr,h.trd.trans (Trd.ofGrown (F:=λk=>k=b) hg λk e=>by injection e with e;exact e.symm) λk hk e=>by omega,h.dat,h.lt,h.lo1,zv h.lo2 hg.size⟩;subst e;rcases ho with hd|hf
  · have:=h.dat k hd;omega
  · rcases h.fr k hf with h3|h3
    · have:=h.lt k h3;omega
    ·omega
theorem NdOf.step{Q:Nd->Prop}{e:Ending}(h:NdOf D w lo F W v n F') (h2:NdTo D W F' Q e W'):∃v' n' F'',e=.returned v'/\Q n'/\NdOf D w lo F W' v' n' F''/\Trd (·∈F') W W':=by
  obtain⟨v',n',F'',he,hq,h3,h4,h5⟩:=h2;refine⟨v',n',F'',he,hq,⟨h3,λk hk=>?_,h.trd.trans h5 λk hk hf=>?_,h.dat,h.lt,h.lo1,zv h.lo2 h5.size⟩,h5⟩
  · rcases h4 k hk with h6|h6
    ·exact h.fr k h6
    ·exact .inr (zv h.lo2 h6)
  · rcases h.fr k hf with h6|h6
    ·exact h6
    · have:=h.lo1;omega
theorem NdOf.ret{Q:Nd->Prop}(h:NdOf D w lo F W v n F')(hq:Q n):NdTo D w F Q (.returned v) W:=
 ⟨v,n,F',rfl,hq,h.at',λk hk=>(h.fr k hk).imp id λh2=>zv h.lo1 h2,h.trd⟩
theorem NdOf.tri{b:Nat}{t:TypeId}{x y z:Value}(h:NdOf D w lo F W v n F')(ht:Trd (·∈F') W W')(h1:w.heap.size<=b)(h2:b<lo)(t0:TriV W b t x y z):TriV W' b t x y z:=
 (ht.block b t0.lt λhf=>by
  rcases h.fr b hf with h3|h3
  · have:=h.lt b h3;omega
  ·omega).trans t0
theorem TriV.other{b c:Nat}{t:TypeId}{x y z:Value}(t0:TriV W b t x y z)(hg:W.grownBy W' (some c))(hn:b≠c):TriV W' b t x y z:=
 (hg.block b t0.lt λe=>hn (by injection e)).trans t0
theorem NdAt.opn (h:NdAt D w v n F):∃a1 c1 a2 c2 a3 c3 us1 us2 us3 F3,v=.agg #[.slice a1 n.keys.length c1,.slice a2 n.chains.length c2,.slice a3 n.kids.length c3]/\Pts D w n (.slice a1 n.keys.length c1) (.slice a2 n.chains.length c2) (.slice a3 n.kids.length c3) us1 us2 us3 F F3:=by
 obtain⟨vs,rfl,ho⟩:=h.ex;obtain⟨v1,v2,v3,us1,us2,us3,F3,rfl,p⟩:=ho.pts;obtain⟨a1,c1,rfl,_,_⟩:=p.r1.shape;obtain⟨a2,c2,rfl,_,_⟩:=p.r2.shape;obtain⟨a3,c3,rfl,_,_⟩:=p.r3.shape;exact⟨a1,c1,a2,c2,a3,c3,us1,us2,us3,F3,rfl,p⟩
theorem NdAt.opk(h:NdAt D w v n F)(h0:0<n.kids.length):∃a1 c1 a2 c2 g3 c3 us1 us2 us3 F3,v=.agg #[.slice a1 n.keys.length c1,.slice a2 n.chains.length c2,.slice (some ⟨g3,0,none⟩) n.kids.length c3]/\Pts D w n (.slice a1 n.keys.length c1) (.slice a2 n.chains.length c2) (.slice (some ⟨g3,0,none⟩) n.kids.length c3) us1 us2 us3 F F3:=by
 obtain⟨a1,c1,a2,c2,a3,c3,us1,us2,us3,F3,rfl,p⟩:=h.opn;obtain⟨g3,c3',e3,_,hg3⟩:=p.r3.some h0;cases e3;exact⟨a1,c1,a2,c2,g3,c3,us1,us2,us3,F3,rfl,p⟩
theorem Pts.kid{v1 v2:Value}{us1 us2 us3:List Value}{F3:List Nat}{g3 c3 i:Nat}(p:Pts D w n v1 v2 (.slice (some ⟨g3,0,none⟩) n.kids.length c3) us1 us2 us3 F F3)(hi:i<n.kids.length):∃a c a' c' a'' c'',w.cell? ⟨g3,i*3,none⟩=some (.slice a (kidN n i).keys.length c)/\w.cell? ⟨g3,i*3+1,none⟩=some (.slice a' (kidN n i).chains.length c')/\w.cell? ⟨g3,i*3+2,none⟩=some (.slice a'' (kidN n i).kids.length c''):=by
 obtain⟨cs,G,ho,_,hc⟩:=zpw p.o3 i hi;obtain⟨v1,v2,v3,_,_,_,_,rfl,pk⟩:=ho.pts;rw[<-zbl hi]at pk;obtain⟨a1,c1,rfl,_,_⟩:=pk.r1.shape;obtain⟨a2,c2,rfl,_,_⟩:=pk.r2.shape;obtain⟨a3,c3',rfl,_,_⟩:=pk.r3.shape;exact⟨_,_,_,_,_,_,p.r3.cell (g:=g3) rfl (hc 0 _ rfl),p.r3.cell (g:=g3) rfl (hc 1 _ rfl),p.r3.cell (g:=g3) rfl (hc 2 _ rfl)⟩
end
theorem zuc{d i:Nat}{n:Nd}(h:Wk d n i 0 4) (h1:1<=n.keys.length) (h0:(kidN n i).keys.length<1):i-1<n.keys.length/\Wk d (zbb n (i-1)) (i-1) 1 7/\(zbb n (i-1)).keys.length+1=n.keys.length/\(kidN n (i-1)).keys.length<=3/\(kidN n (i-1+1)).keys.length<=3/\(∀j,j<n.kids.length->(kidN n j).chains.length=(kidN n j).keys.length/\(kidN n j).kids.length<=(kidN n j).keys.length+1):=by
  have hkd:=h.kd;have hlt:=h.lt;have hwf:∀j (hj:j<n.kids.length),Wf d 0 3 (kidN n j):=λj hj=>by
    rw[zbl hj];by_cases hji:j=i
    · subst hji
      have:=h.at';rw[zbl hj]at this;exact this.mono (zH _) (by rw[zbl hj]at h0;omega)
    · have:=h.off j hj hji
      exact this.mono (zH _) this.keys.2
  have hj1:i-1<n.keys.length:=by omega
  have hJ:=zfr h.ch h.kd hj1 (hwf _ (by omega)) (hwf _ (by omega)) (λj hj h2 h3=>h.off j hj (by omega));refine⟨hj1,hJ.1,hJ.2.2.1,(hwf _ (by omega)).keys.2,(hwf _ (by omega)).keys.2,λj hj=>⟨(hwf j hj).shape.1,?_⟩⟩;rcases(hwf j hj).shape.2 with e|e
  ·rw[e];simp
  ·omega
def MidS (D:Nat->Prop)(w:World)(F:List Nat)(n:Nd)(i d:Nat)(s:Value)(W:World):Prop:=
 ∃n1 F1 i1 x y z,s=.int .i64 ((i1:Nat):Int)/\NdOf D w (w.heap.size+2) F W (.agg #[x,y,z]) n1 F1/\TriV W w.heap.size 46 x y z/\TriV W (w.heap.size+1) 46 (.slice none 0 0) (.slice none 0 0) (.slice none 0 0)/\Wk d n1 i1 1 7/\n1.keys.length<=3/\za5 n i=if 3<(kidN n1 i1).keys.length then zbk n1 i1 else n1
theorem zn4 (w:World){D:Nat->Prop}{v:Value}{n:Nd}{F:List Nat}{i d:Nat}(h:NdAt D w v n F)(hk:Wk d n i 0 4)(h1:1<=n.keys.length)(h3:n.keys.length<=3):Calls Tryz.prog 145 #[v,.int .i64 i] w (NdTo D w F (·=za5 n i)):=by
  have hkd1:=yE hk.kd;have hkd2:=yE hk.kd.symm;have hkl:=hk.lt;have hch1:=yE hk.ch;have hch2:=yE hk.ch.symm;obtain⟨a1,c1,a2,c2,g3,c3,us1,us2,us3,F3,rfl,p⟩:=h.opk (by omega);obtain⟨ak,ck,_,_,_,_,hkc,_,_⟩:=p.kid hkl;obtain⟨W,hW,q,bn,bz,hsz⟩:=zdk w 46 (.slice a1 n.keys.length c1) (.slice a2 n.chains.length c2) (.slice (Option.some ⟨g3,0,none⟩) n.kids.length c3) (.slice none 0 0) (.slice none 0 0) (.slice none 0 0);have s0:=NdOf.start (lo:=w.heap.size+2) h q (by omega) (by omega);clear hsz p;replace hkc:=(zag (q.block g3 (zad hkc)) _).trans hkc;obtain⟨m,hm⟩:∃m,m=(kidN n i).keys.length:=⟨_,rfl⟩;rw[<-hm]at hkc;replace hm:=Lib.hid hm;have tn2:=bn.cell2;go_enter Tryz.func145,Tryz.ntmps145;go_upto_region 1 with(fail);rw[<-hW];clear hW;go_upto_if 12 with(fail);go_cut[1] (λs W2=>MidS D w F n i d s W2);case first=>
    rcases zA m 1 with hm1|hm1
    · have d1:decide ((m:Int)<1)=true:=zk (by omega)
      obtain⟨j1,j2,j3,j4,j5,j6⟩:=zuc hk h1 (by rw[<-hm.out];exact hm1);have j6a:=λj hj=>yE (j6 j hj).1
      replace j6:=λj hj=>(j6 j hj).2
      have jb:=zr5 (i:=i-1) W s0.at' (by omega) (by omega) (by omega) ⟨by omega,by omega,by omega,by omega,by have:=j6a (i-1) (by omega);omega,by have:=j6 (i-1) (by omega);omega,by omega,by have:=j6a (i-1+1) (by omega);omega,by have:=j6 (i-1+1) (by omega);omega⟩;replace j3:=Lib.hid j3;have tn0:=bn.cell0;have tn1:=bn.cell1;go_wp2_with fail;all_goals
        first
        |have hz:((i-1:Nat):Int)=0:=by omega
        |have hz:((i-1:Nat):Int)=(i:Int)-1:=by omega
      all_goals
        rw[hz]at jb;refine jb.mono ?_;rintro e w2 hto;obtain⟨v1,n1,F1,rfl,hq,s1,t1⟩:=s0.step hto;obtain⟨a1',c1',a2',c2',a3',c3',_,_,_,_,rfl,p1⟩:=s1.at'.opn;have bn1:=s0.tri t1 (b:=w.heap.size) (zf _) (by omega) bn;have bz1:=s0.tri t1 (b:=w.heap.size+1) (by omega) (by omega) bz;clear bn bz jb hto t1 tn0 tn1 tn2 s0 p1;replace hq:=Lib.hid hq;go_wp2_with(first|(refine zaq rfl rfl rfl rfl rfl rfl rfl rfl bn1 ?_;intro w3 hg bn2)|fail);go_meet;rw[hq.out]at s1;refine⟨_,F1,i-1,_,_,_,by rw[hz],s1.box hg (zf _) (by omega),by rw[hq.out]at bn2;exact bn2,bz1.other hg (by omega),j2,by have:=j3.out;omega,?_⟩;have h0:(kidN n i).keys.length<1:=by rw[<-hm.out];exact hm1
        unfold za5;simp only[h0,yl]
    · have d1:decide ((m:Int)<1)=false:=zj (by omega)
      go_wp2_with fail;go_meet;refine⟨n,F,i,_,_,_,rfl,s0,bn,bz,⟨hk.ch,hk.kd,hk.lt,hk.at'.mono (by rw[<-hm.out];exact hm1) (by have:=hk.at'.keys;omega),hk.off⟩,h3,?_⟩;have h0:¬(kidN n i).keys.length<1:=by rw[<-hm.out];omega
      unfold za5;simp only[h0,zW]
  case rest=>
    obtain⟨n1,F1,i1,x,y,z,rfl,s1,bn1,bz1,k1,k3,hres⟩:=hcut;clear bn bz s0 tn2 hkc hm;have hki:=k1.lt;have hd1:=yE k1.kd;have hd2:=yE k1.kd.symm;have hc1:=yE k1.ch;have hc2:=yE k1.ch.symm;obtain⟨b1,e1,b2,e2,g4,e3,_,_,_,_,eqv,p1⟩:=s1.at'.opk (by omega);injection eqv with eqv;injection eqv with eqv;injection eqv with ex eqv;injection eqv with ey eqv;injection eqv with ez _;subst ex ey ez;obtain⟨bk,ck2,_,_,_,_,hk1,_,_⟩:=p1.kid hki;obtain⟨m1,hm1⟩:∃m,m=(kidN n1 i1).keys.length:=⟨_,rfl⟩;have hw:=k1.at'.keys;have hsh:=k1.at'.shape;have sp:=zma (i:=i1) wc s1.at' hki (by omega) (by omega) (by omega) hsh.1 hsh.2 ⟨by omega,by omega,by omega,by omega⟩;rw[<-hm1]at hk1 hres hw;clear hsh p1;replace hm1:=Lib.hid hm1;replace hres:=Lib.hid hres;have tn0:=bn1.cell0;have tn1:=bn1.cell1;have tn2:=bn1.cell2;obtain⟨fs,hu,_⟩:=ndS.hu;rcases zA 3 m1 with hm3|hm3
    · have d2:decide ((3:Int)<(m1:Int))=true:=zk (by omega)
      go_wp2_with fail;refine sp.mono ?_;rintro e w4 hto;obtain⟨v2,n2,F2,rfl,hq,s2,t2⟩:=s1.step hto;obtain⟨a1',c1',a2',c2',a3',c3',_,_,_,_,rfl,p2⟩:=s2.at'.opn;have bn2:=s1.tri t2 (b:=w.heap.size) (zf _) (by omega) bn1;have bz2:=s1.tri t2 (b:=w.heap.size+1) (by omega) (by omega) bz1;clear bn1 bz1 hto t2 tn0 tn1 tn2 s1 p2 sp hk1;replace hq:=Lib.hid hq;go_upto_region 6 with(first|(refine zaq rfl rfl rfl rfl rfl rfl rfl rfl bn2 ?_;intro w5 hg5 bn3)|fail);rw[hq.out]at s2 bn3;have s3:=s2.box hg5 (zf _) (by omega);have bz3:=bz2.other hg5 (by omega);have tm0:=bn3.cell0;have tm1:=bn3.cell1;have tm2:=bn3.cell2;clear hg5 s2 bz2 bn2;go_wp2_with(first|(refine zaq rfl rfl rfl rfl rfl rfl rfl rfl bz3 ?_;intro w6 hg6 bz4)|fail);have s4:=s3.box hg6 (by omega) (by omega);exact zD (v:=.agg #[.slice a1' (zbk n1 i1).keys.length c1',.slice a2' (zbk n1 i1).chains.length c2',.slice a3' (zbk n1 i1).kids.length c3']) (by simp[results,Tryz.results145,go_sem,loadVar,isAgg,zr hu,zaa ndS.hs,loadCellsFrom,Addr.add,bz4.cell0,bz4.cell1,bz4.cell2]) rfl (s4.ret (by rw[hres.out,zi hm3]))
    · have d2:decide ((3:Int)<(m1:Int))=false:=zj (by omega)
      go_wp2_with(first|(refine zaq rfl rfl rfl rfl rfl rfl rfl rfl bz1 ?_;intro w6 hg6 bz4)|fail);have s4:=s1.box hg6 (by omega) (by omega);exact zD (v:=.agg #[.slice b1 n1.keys.length e1,.slice b2 n1.chains.length e2,.slice (Option.some ⟨g4,0,none⟩) n1.kids.length e3]) (by simp[results,Tryz.results145,go_sem,loadVar,isAgg,zr hu,zaa ndS.hs,loadCellsFrom,Addr.add,bz4.cell0,bz4.cell1,bz4.cell2]) rfl (s4.ret (by rw[hres.out,zh (by omega)]))
def zh3 (n:Nd):Nd:=if 3<n.keys.length then zbk (.mk [] [] [n]) 0 else if n.keys.length=0/\n.kids≠[]then kidN n 0 else n
theorem pairs_up (n:Nd):zac (.mk [] [] [n])=zac n:=by
 rw[zar rfl (.inr rfl)];show zca [zac n] (List.zipWith Pr.mk [] [])=zac n;simp[zca]
theorem up_wk{d lo hi:Nat}{n:Nd}(h:Wf d lo hi n):Wk d (.mk [] [] [n]) 0 lo hi:=
 ⟨rfl,rfl,xX 0,h,λj hj hne=>absurd hne (by have:j<1:=hj;omega)⟩
theorem zs9{d:Nat}{n:Nd}(h:Wf d 0 4 n)(hs:Srt (zac n)):(∃d',Pn d' (zh3 n))/\zac (zh3 n)=zac n:=by
  have hk:=h.keys;unfold zh3;rcases zA 3 n.keys.length with h3|h3
  · rw[zi h3]
    obtain⟨a,b,c,e⟩:=zg7 (up_wk (h.mono (lo':=3) (hi':=7) (by omega) (by omega)));have hp:zac (zbk (.mk [] [] [n]) 0)=zac n:=(zgg (up_wk (h.mono (lo':=1) (hi':=7) (by omega) (by omega)))).trans (pairs_up n);have b':(zbk (.mk [] [] [n]) 0).keys.length=1:=b;exact⟨⟨d+1,⟨a,zH _,by omega,.inr ⟨h.pos,c,e⟩⟩,.inr (by omega),by rw[hp];exact hs⟩,hp⟩
  · rw[zh (by omega)]
    cases d with
    |zero=>exact h.elim
    |succ d=>
      obtain⟨hc,_,_,hsh⟩:=h;by_cases h0:n.keys.length=0/\n.kids≠[]
      · rw[zi h0]
        rcases hsh with⟨_,h1⟩|⟨hd,h1,h2⟩
        ·exact absurd h1 h0.2
        · have hi:0<n.kids.length:=by omega
          have hwf:=h2 _ (zL hi);have hp:zac (kidN n 0)=zac n:=by
            rw[zc3 hc h1 hi,zbl hi];have e1:kpN n=[]:=by
              have:(kpN n).length=0:=by rw[zbt hc];exact h0.1
              exact we.1 this
            have e2:(psN n).drop 1=[]:=xj (by unfold psN;rw[zX];omega);rw[e1,e2];simp[pre,suf]
          rw[<-zbl hi]at hwf;exact⟨⟨d,⟨hwf.mono (zH _) hwf.keys.2,.inr hwf.keys.1,by rw[hp];exact hs⟩⟩,hp⟩
      · rw[zh h0]
        refine⟨⟨d+1,⟨⟨hc,zH _,h3,hsh⟩,?_,hs⟩⟩,rfl⟩;rcases hsh with⟨hd,h1⟩|⟨hd,h1,h2⟩
        ·exact .inl (by omega)
        · refine .inr ?_
          have hne:n.kids≠[]:=λe=>by rw[e]at h1;simp at h1
          have:n.keys.length≠0:=λe=>h0 ⟨e,hne⟩
          omega
section
variable {D : Nat → Prop} {w w' : World} {n : Nd} {F F3 : List Nat} {v1 v2 : Value} {us1 us2 us3 : List Value} {g3 c3 i : Nat}
theorem Pts.at' (p:Pts D w n v1 v2 (.slice (some ⟨g3,0,none⟩) n.kids.length c3) us1 us2 us3 F F3) (hi:i<n.kids.length):∃usA usB FA G FB a c a' c' a'' c'',us3=usA++[.slice a (kidN n i).keys.length c,.slice a' (kidN n i).chains.length c',.slice a'' (kidN n i).kids.length c'']++usB/\F3=FA++G++FB/\usA.length=i*3/\zbf D w (n.kids.take i) usA FA/\OwnN D w (kidN n i) [.slice a (kidN n i).keys.length c,.slice a' (kidN n i).chains.length c',.slice a'' (kidN n i).kids.length c''] G/\zbf D w (n.kids.drop (i+1)) usB FB/\
   w.cell? ⟨g3,i*3,none⟩=some (.slice a (kidN n i).keys.length c)/\w.cell? ⟨g3,i*3+1,none⟩=some (.slice a' (kidN n i).chains.length c')/\w.cell? ⟨g3,i*3+2,none⟩=some (.slice a'' (kidN n i).kids.length c''):=by
 obtain⟨usA,ms,usB,FA,G,FB,hus3,hF3,hlA,_,oA,ok,oB⟩:=zoh p.o3 i hi;rw[<-zbl hi]at ok;obtain⟨k1,k2,k3,_,_,_,Fk,rfl,pk⟩:=ok.pts;obtain⟨a1,c1,rfl,_,_⟩:=pk.r1.shape;obtain⟨a2,c2,rfl,_,_⟩:=pk.r2.shape;obtain⟨a3,c3',rfl,_,_⟩:=pk.r3.shape;have hc:∀j u,[Value.slice a1 (kidN n i).keys.length c1,.slice a2 (kidN n i).chains.length c2,.slice a3 (kidN n i).kids.length c3'][j]?=some u->w.cell? ⟨g3,i*3+j,none⟩=some u:=λj u hj=>by
  have hjl:=(yI.1 hj).1;exact p.r3.cell (g:=g3) rfl (by rw[hus3,zG,xw (by omega),hlA,xW,xu hjl];exact hj)
 exact⟨usA,usB,FA,G,FB,a1,c1,a2,c2,a3,c3',hus3,hF3,hlA,oA,ok,oB,hc 0 _ rfl,hc 1 _ rfl,hc 2 _ rfl⟩
theorem NdAt.up{b:Nat}{x y z:Value}(h:NdAt D w (.agg #[x,y,z]) n F) (hq:Below w.heap.size w w') (hb:w.heap.size<=b) (hc:w'.heap[b]?=some (.cells [x,y,z].toArray 46 (0,0)))(h1:∀u∈[x,y,z],u.oneCell'=true):NdAt D w' (.agg #[.slice none 0 0,.slice none 0 0,.slice (some ⟨b,0,none⟩) 1 1]) (.mk [] [] [n]) (b::F):=by
  have h':=h.below hq;obtain⟨vs,e,ho⟩:=h'.ex;injection e with e;injection e with e;subst e;refine⟨⟨[.slice none 0 0,.slice none 0 0,.slice (some ⟨b,0,none⟩) 1 1],rfl,?_⟩,xN.2 ⟨λhm=>?_,h.nodup⟩,λk hk hd=>?_,h'.data⟩
  ·exact Pts.own (us1:=[]) (us2:=[]) (us3:=[x,y,z]) (F3:=F) ⟨RowQ.nil _ _ _,rfl,RowQ.nil _ _ _,rfl,RowQ.of hc (zf _) (by unfold maxLen;omega) rfl rfl h1,zf3.2 ho,rfl⟩
  · have:=h.lt b hm;omega
  · rcases zU.1 hk with rfl|hk
    · have:=h.data k hd;omega
    ·exact h.free k hk hd
end
section
variable {P : Program} {T Te : TypeId} {ops : Array Oper} {rest : List Oper} {o : Oper} {a : Act} {Q : Exit → Act → World → Prop} {w : World}
theorem zdr{n:Nat}(hP:LoP P T Te n){y:Operand}{v:Value}{us:List Value}(ho:o.op=.buildSlice T 1 #[(0,y)])(hgd:Region.wanted o (yielded ops a.tmps)=true)(hy:a.eval y=v)(hv:v.cells=us.toArray)(hl:us.length=n)(h0:0<n)(hn:n<=4096)(h:∀w',Below w.heap.size w w'->w'.heap[w.heap.size]?=some (.cells us.toArray Te (0,0))->wpList P ops Q rest (a.put o.dst (.slice (some ⟨w.heap.size,0,none⟩) 1 1)) w'):wpList P ops Q (o::rest) a w:=
 zQ hgd λ_ hK=>zba hP ho hy hv hl h0 hn (hK _ _ (h _ ((ze _ _).alloc (zf _) _) (by simp only[World.alloc,yf])))
end
theorem zru(w:World){D:Nat->Prop}{v:Value}{n:Nd}{F:List Nat}{d:Nat}(h:NdAt D w v n F)(hw:Wf d 0 4 n):Calls Tryz.prog 112 #[v] w (NdTo D w F (·=zh3 n)):=by
  obtain⟨a1,c1,a2,c2,a3,c3,us1,us2,us3,F3,rfl,p⟩:=h.opn;obtain⟨W,hW,q,bn,bz,hsz⟩:=zdk w 46 (.slice a1 n.keys.length c1) (.slice a2 n.chains.length c2) (.slice a3 n.kids.length c3) (.slice none 0 0) (.slice none 0 0) (.slice none 0 0);have s0:=NdOf.start (lo:=w.heap.size+2) h q (by omega) (by omega);have hkk:=hw.keys.2;have hsh:=hw.shape;obtain⟨m,hm⟩:∃m,m=n.keys.length:=⟨_,rfl⟩;obtain⟨k,hk⟩:∃k,k=n.kids.length:=⟨_,rfl⟩;have tn0:=bn.cell0;have tn1:=bn.cell1;have tn2:=bn.cell2;obtain⟨fs,hu,_⟩:=ndS.hu;rcases zA 3 m with h3|h3
  · have d2:decide ((3:Int)<(n.keys.length:Int))=true:=zk (by omega)
    have hkp:3<n.keys.length:=by omega
    replace hm:=Lib.hid hm;replace hk:=Lib.hid hk;replace hsh:=Lib.hid hsh;have hup:=λ(w':World)hq hc=>NdAt.up (b:=W.heap.size) (w':=w') s0.at' hq (zf _) hc (λu hu=>by simp only[zU,yJ,yK]at hu;rcases hu with rfl|rfl|rfl<;>rfl)
    go_enter Tryz.func112,Tryz.ntmps112;go_upto_region 1 with(fail);rw[<-hW];clear hW hsz;go_wp2_with(first|(refine zdr ndP rfl rfl rfl rfl rfl (by omega) (by omega) ?_;intro w1 hb1 hc1)|fail);have hu1:=hup w1 hb1 hc1;have s1:NdOf D w (w.heap.size+2) F w1 (.agg #[.slice none 0 0,.slice none 0 0,.slice (some ⟨W.heap.size,0,none⟩) 1 1]) (.mk [] [] [n]) (W.heap.size::F):=
      ⟨hu1,λk hk=>(zU.1 hk).elim (λe=>.inr (by rw[e];exact s0.lo2)) .inl,s0.trd.trans (Trd.of (F:=(·∈F)) hb1) λ_ _ h=>h,s0.dat,s0.lt,s0.lo1,zv s0.lo2 hb1.size⟩
    have hk0:kidN (.mk [] [] [n]) 0=n:=rfl;have sp:=zma (i:=0) w1 s1.at' (xX 0) (zf _) (zf _) (by rw[hk0];omega) (by rw[hk0];exact hsh.out.1) (by rw[hk0];exact hsh.out.2) ⟨zH _,zH _,by show 1<=1000;omega,by rw[hk0];omega⟩;refine sp.mono ?_;rintro e w2 hto;obtain⟨v2,n2,F2,rfl,hq,s2,t2⟩:=s1.step hto;obtain⟨a1',c1',a2',c2',a3',c3',_,_,_,_,rfl,p2⟩:=s2.at'.opn;have bz1:=bz.below hb1 (by have:=s0.lo2;omega);have bz2:=s1.tri t2 (b:=w.heap.size+1) (by omega) (by omega) bz1;clear bn bz bz1 hto t2 tn0 tn1 tn2 s1 s0 p2 sp hup hu1 hc1 hb1;replace hq:=Lib.hid hq;go_wp2_with(first|(refine zaq rfl rfl rfl rfl rfl rfl rfl rfl bz2 ?_;intro w6 hg6 bz4)|fail);have s4:=s2.box hg6 (by omega) (by omega);exact zD (v:=.agg #[.slice a1' n2.keys.length c1',.slice a2' n2.chains.length c2',.slice a3' n2.kids.length c3']) (by simp[results,Tryz.results112,go_sem,loadVar,isAgg,zr hu,zaa ndS.hs,loadCellsFrom,Addr.add,bz4.cell0,bz4.cell1,bz4.cell2]) rfl (s4.ret (by rw[hq.out];unfold zh3;rw[zi (by have:=hm.out;omega)]))
  · have d2:decide ((3:Int)<(n.keys.length:Int))=false:=zj (by omega)
    have hle:=zh9 W (x:=.slice a1 n.keys.length c1) (y:=.slice a2 n.chains.length c2) (a:=a3) (n:=n.kids.length) (c:=c3);rcases yx m with h0|h0
    · have dz:((n.keys.length:Int)==0)=true:=by rw[<-hm,h0];rfl
      rcases yx k with hk0|hk0
      · have hdk:decide (n.kids.length=0)=true:=zk (by omega)
        rw[hdk]at hle;replace hm:=Lib.hid hm;replace hk:=Lib.hid hk;replace hsh:=Lib.hid hsh;replace h0:=Lib.hid h0;replace hk0:=Lib.hid hk0;replace hdk:=Lib.hid hdk;go_enter Tryz.func112,Tryz.ntmps112;go_upto_region 1 with(fail);rw[<-hW];clear hW hsz;go_wp2_with fail;refine hle.mono ?_;rintro e w1 ⟨rfl,hb1⟩;have s1:=s0.more hb1;have bn1:=bn.below hb1 bn.lt;have bz1:=bz.below hb1 bz.lt;clear bn bz tn0 tn1 tn2 s0 hle;have tn0:=bn1.cell0;have tn1:=bn1.cell1;have tn2:=bn1.cell2;go_wp2_with(first|(refine zaq rfl rfl rfl rfl rfl rfl rfl rfl bz1 ?_;intro w6 hg6 bz4)|fail);have s4:=s1.box hg6 (by omega) (by omega);exact zD (v:=.agg #[.slice a1 n.keys.length c1,.slice a2 n.chains.length c2,.slice a3 n.kids.length c3]) (by simp[results,Tryz.results112,go_sem,loadVar,isAgg,zr hu,zaa ndS.hs,loadCellsFrom,Addr.add,bz4.cell0,bz4.cell1,bz4.cell2]) rfl (s4.ret (by unfold zh3;rw[zh (by have:=hm.out;omega),zh (λh=>h.2 (we.1 (by have:=hk.out;have:=hk0.out;omega)))]))
      · have hdk:decide (n.kids.length=0)=false:=zj (by omega)
        rw[hdk]at hle;obtain⟨g3,c3',e3,_,hg3⟩:=p.r3.some (by omega);cases e3;obtain⟨usA,usB,FA,G,FB,xa,xc,ya,yc,za,zc,hus3,hF3,hlA,oA,ok,oB,k0,k1,k2⟩:=p.at' (i:=0) (by omega);have s5:NdOf D w (w.heap.size+2) F W (.agg #[.slice xa (kidN n 0).keys.length xc,.slice ya (kidN n 0).chains.length yc,.slice za (kidN n 0).kids.length zc]) (kidN n 0) G:=by
          have hG:∀g,G.count g<=F.count g:=λg=>by rw[p.fe,hF3];simp only[yX];omega
          have hGm:∀g∈G,g∈F:=λg hg=>zP.1 (by have:=zP.2 hg;have:=hG g;omega)
          have hat:NdAt D w (.agg #[.slice xa (kidN n 0).keys.length xc,.slice ya (kidN n 0).chains.length yc,.slice za (kidN n 0).kids.length zc]) (kidN n 0) G:=
            ⟨⟨_,rfl,ok⟩,zbw.2 λg=>by have:=zbw.1 h.nodup g;have:=hG g;omega,λg hg=>h.free g (hGm g hg),h.data⟩
          exact⟨hat.below q,λg hg=>.inl (hGm g hg),s0.trd,s0.dat,s0.lt,s0.lo1,s0.lo2⟩
        replace k0:=(zag (q.block g3 (zad k0)) _).trans k0;replace k1:=(zag (q.block g3 (zad k1)) _).trans k1;replace k2:=(zag (q.block g3 (zad k2)) _).trans k2;rw[xH]at k0 k1 k2;rw[zR]at k1 k2;have hkp:0<n.kids.length:=by omega
        replace hm:=Lib.hid hm;replace hk:=Lib.hid hk;replace hsh:=Lib.hid hsh;replace h0:=Lib.hid h0;replace hdk:=Lib.hid hdk;replace hF3:=Lib.hid hF3;replace hlA:=Lib.hid hlA;replace hus3:=Lib.hid hus3;go_enter Tryz.func112,Tryz.ntmps112;go_upto_region 1 with(fail);rw[<-hW];clear hW hsz;go_wp2_with fail;refine hle.mono ?_;rintro e w1 ⟨rfl,hb1⟩;have s1:=s5.more hb1;have bn1:=bn.below hb1 bn.lt;have bz1:=bz.below hb1 bz.lt;replace k0:=(zag (hb1.block g3 (zad k0)) _).trans k0;replace k1:=(zag (hb1.block g3 (zad k1)) _).trans k1;replace k2:=(zag (hb1.block g3 (zad k2)) _).trans k2;clear bn bz tn0 tn1 tn2 s0 hle;have tn0:=bn1.cell0;have tn1:=bn1.cell1;have tn2:=bn1.cell2;go_wp2_with(first|(refine zaq rfl rfl rfl rfl rfl rfl rfl rfl bz1 ?_;intro w6 hg6 bz4)|fail);have s4:=s1.box hg6 (by omega) (by omega);exact zD (v:=.agg #[.slice xa (kidN n 0).keys.length xc,.slice ya (kidN n 0).chains.length yc,.slice za (kidN n 0).kids.length zc]) (by simp[results,Tryz.results112,go_sem,loadVar,isAgg,zr hu,zaa ndS.hs,loadCellsFrom,Addr.add,bz4.cell0,bz4.cell1,bz4.cell2]) rfl (s4.ret (by unfold zh3;rw[zh (by have:=hm.out;omega),zi ⟨by have:=hm.out;have:=h0.out;omega,λe=>by rw[e]at hkp;simp at hkp⟩]))
    · have dz:((n.keys.length:Int)==0)=false:=zt.2 (by omega)
      replace hm:=Lib.hid hm;replace hk:=Lib.hid hk;replace hsh:=Lib.hid hsh;go_enter Tryz.func112,Tryz.ntmps112;go_upto_region 1 with(fail);rw[<-hW];clear hW hsz;go_wp2_with(first|(refine zaq rfl rfl rfl rfl rfl rfl rfl rfl bz ?_;intro w6 hg6 bz4)|fail);have s4:=s0.box hg6 (by omega) (by omega);exact zD (v:=.agg #[.slice a1 n.keys.length c1,.slice a2 n.chains.length c2,.slice a3 n.kids.length c3]) (by simp[results,Tryz.results112,go_sem,loadVar,isAgg,zr hu,zaa ndS.hs,loadCellsFrom,Addr.add,bz4.cell0,bz4.cell1,bz4.cell2]) rfl (s4.ret (by unfold zh3;rw[zh (by have:=hm.out;omega),zh (λh=>by have:=hm.out;omega)]))
theorem zf5(w:World)(p:Addr)(v:Value):w.grownBy (w.setCell p v) (some p.block):=⟨rfl,rfl,rfl,by simp[World.setCell],λk _ hk=>xm w p k v (λe=>hk (by rw[e]))⟩
theorem zkb{a b c:World}{r:Option Nat}(h:a.grownBy b r)(k:b.grownBy c r):a.grownBy c r:=
 ⟨k.os.trans h.os,k.tape.trans h.tape,k.output.trans h.output,zv h.size k.size,λj hj hn=>(k.block j (zm hj h.size) hn).trans (h.block j hj hn)⟩
section
variable {Te : TypeId} {sz n g : Nat} {w : World} {v : Value} {vs : List Value}
theorem RowQ.frozen(h:RowQ Te sz w v n vs)(hg:v.ownBlock=Option.some g)(j:Nat):w.frozen? ⟨g,j,none⟩=false:=by
 obtain⟨cur,hb⟩:=h.block hg;simp[World.frozen?,hb]
theorem RowQ.put1 (h:RowQ Te sz w v n vs)(hg:v.ownBlock=Option.some g){j:Nat}{u:Value}(hu:u.oneCell'=true):RowQ Te sz (w.setCell ⟨g,j,none⟩ u) v n (vs.set j u):=by
  rcases h.cases with⟨rfl,_,_⟩|⟨g',cap,cur,rfl,hb,h1,h2,h3,h4⟩
  ·simp[Value.ownBlock]at hg
  · simp[Value.ownBlock]at hg
    subst hg;refine RowQ.of (cur:=cur.setIfInBounds j u) ?_ h1 h2 (by simp[h3]) ?_ λx hx=>?_
    · simp only[World.setCell,yU,hb]
      simp
    · rw[wR,List.take_set,h4]
    · rcases List.mem_or_eq_of_mem_set hx with hx|rfl
      ·exact h.2 x hx
      ·exact hu
end
section
variable {P : Program} {ops : Array Oper} {rest : List Oper} {o : Oper} {a : Act} {K : Act → World → Prop} {Q : Exit → Act → World → Prop} {w : World} {Te : TypeId} {sz n g : Nat} {V : Value} {vs : List Value}
theorem wp_putQ1{t:TypeId}{x y:Operand}{ad:Option Addr}{k c j:Nat}(ho:o.op=.store t x y)(ht:(P.info? t).map (·.size)=some 1)(hx:a.eval x=.pointer (some ⟨g,j,none⟩))(hy:a.eval y=.slice ad k c)(hr:RowQ Te sz w V n vs)(hg:V.ownBlock=some g)(hj:j<vs.length)(h:∀w',w.grownBy w' (some g)->RowQ Te sz w' V n (vs.set j (.slice ad k c))->K (a.put o.dst undef) w'):o.wp P a w K Q:=by
 have hc:=hr.cell hg (zB hj);have hf:=hr.frozen hg j;refine zfg ?_ (h _ (zf5 w ⟨g,j,none⟩ _) (hr.put1 hg rfl));simp only[execOp,ho,hx,hy];simp[Instr.storeAt,storeVar,zd6 ht,storeCells,Value.cells,xn _ _ _ _ _ (show(Value.slice ad k c).oneCell'=true from rfl),hc,hf,go_sem]
theorem zl0{t:TypeId}{x y:Operand}{ad:Option Addr}{k c j:Nat}(ho:o.op=.store t x y)(hd:o.dst=none)(hgd:Region.wanted o (yielded ops a.tmps)=true)(ht:(P.info? t).map (·.size)=some 1)(hx:a.eval x=.pointer (some ⟨g,j,none⟩))(hy:a.eval y=.slice ad k c)(hr:RowQ Te sz w V n vs)(hg:V.ownBlock=some g)(hj:j<vs.length)(h:∀w',w.grownBy w' (some g)->RowQ Te sz w' V n (vs.set j (.slice ad k c))->wpList P ops Q rest a w'):wpList P ops Q (o::rest) a w:=
 zQ hgd λ_ hK=>wp_putQ1 ho ht hx hy hr hg hj λw' h1 h2=>hK _ _ (by rw[hd];exact h w' h1 h2)
theorem wp_putQ3{x y:Operand}{u v r:Value}{f:Nat}(ho:o.op=.store 46 x y)(hx:a.eval x=.pointer (some ⟨g,f,none⟩))(hy:a.eval y=.agg #[u,v,r])(hu1:u.oneCell'=true)(hv1:v.oneCell'=true)(hr1:r.oneCell'=true)(hr:RowQ Te sz w V n vs)(hg:V.ownBlock=some g)(hf:f+2<vs.length)(h:∀w',w.grownBy w' (some g)->RowQ Te sz w' V n (((vs.set f u).set (f+1) v).set (f+2) r)->K (a.put o.dst undef) w'):o.wp Tryz.prog a w K Q:=by
 have hs:(Tryz.prog.info? 46).map (·.size)=some 3:=ndS.hs;have r1:=hr.put1 hg (j:=f) hu1;have r2:=r1.put1 hg (j:=f+1) hv1;have r3:=r2.put1 hg (j:=f+2) hr1;have c0:=hr.cell hg (zB (show f<vs.length by omega));have c1:=r1.cell hg (zB (show f+1<(vs.set f u).length by rw[yR];omega));have c2:=r2.cell hg (zB (show f+2<((vs.set f u).set (f+1) v).length by rw[yR,yR];omega));have hgr:=zkb (zkb (zf5 w ⟨g,f,none⟩ u) (zf5 _ ⟨g,f+1,none⟩ v)) (zf5 _ ⟨g,f+2,none⟩ r);refine zfg ?_ (h _ hgr r3);simp only[execOp,ho,hx,hy];simp[Instr.storeAt,storeVar,zd6 hs,storeCells,Value.cells,xn _ _ _ _ _ hu1,xn _ _ _ _ _ hv1,xn _ _ _ _ _ hr1,c0,c1,c2,hr.frozen hg f,r1.frozen hg (f+1),r2.frozen hg (f+2),Addr.add,go_sem]
theorem zny {t tb:TypeId}{x y:Operand}{b:Nat}{ad:Option Addr}{k c:Nat}{p q s:Value}(ho:o.op=.store t x y)(hd:o.dst=none)(hgd:Region.wanted o (yielded ops a.tmps)=true)(ht:(P.info? t).map (·.size)=some 1)(hx:a.eval x=.pointer (some ⟨b,0,none⟩))(hy:a.eval y=.slice ad k c)(t0:TriV w b tb p q s)(h:∀w',w.grownBy w' (some b)->TriV w' b tb (.slice ad k c) q s->wpList P ops Q rest a w'):wpList P ops Q (o::rest) a w:=by
 have hf:w.frozen? ⟨b,0,none⟩=false:=by simp[World.frozen?,show w.heap[b]?=_ from t0]
 have t1:TriV (w.setCell ⟨b,0,none⟩ (.slice ad k c)) b tb (.slice ad k c) q s:=by
  unfold TriV at t0⊢;simp only[World.setCell,yU,t0];simp
 refine zQ hgd λ_ hK=>zfg ?_ (hK _ _ (by rw[hd];exact h _ (zf5 w ⟨b,0,none⟩ _) t1))
 simp only[execOp,ho,hx,hy];simp[Instr.storeAt,storeVar,zd6 ht,storeCells,Value.cells,xn _ _ _ _ _ (show(Value.slice ad k c).oneCell'=true from rfl),t0.cell0,hf,go_sem]
theorem znx{t tb:TypeId}{x y:Operand}{b:Nat}{ad:Option Addr}{k c:Nat}{p q s:Value}(ho:o.op=.store t x y) (hd:o.dst=none) (hgd:Region.wanted o (yielded ops a.tmps)=true) (ht:(P.info? t).map (·.size)=some 1) (hx:a.eval x=.pointer (some ⟨b,1,none⟩)) (hy:a.eval y=.slice ad k c) (t0:TriV w b tb p q s)(h:∀w',w.grownBy w' (some b)->TriV w' b tb p (.slice ad k c) s->wpList P ops Q rest a w'):wpList P ops Q (o::rest) a w:=by
 have hf:w.frozen? ⟨b,1,none⟩=false:=by simp[World.frozen?,show w.heap[b]?=_ from t0]
 have t1:TriV (w.setCell ⟨b,1,none⟩ (.slice ad k c)) b tb p (.slice ad k c) s:=by
  unfold TriV at t0⊢;simp only[World.setCell,yU,t0];simp
 refine zQ hgd λ_ hK=>zfg ?_ (hK _ _ (by rw[hd];exact h _ (zf5 w ⟨b,1,none⟩ _) t1))
 simp only[execOp,ho,hx,hy];simp[Instr.storeAt,storeVar,zd6 ht,storeCells,Value.cells,xn _ _ _ _ _ (show(Value.slice ad k c).oneCell'=true from rfl),t0.cell1,hf,go_sem]
end
section
variable {D : Nat → Prop} {w W W' : World} {n : Nd} {F F' F3 : List Nat} {lo : Nat} {V1 V2 V3 : Value} {us1 us2 us3 : List Value}
theorem NdAt.own3 (h:NdAt D W (.agg #[V1,V2,V3]) n F):∃us1 us2 us3 F3,Pts D W n V1 V2 V3 us1 us2 us3 F F3:=by
 obtain⟨vs,e,ho⟩:=h.ex;injection e with e;injection e with e;subst e;obtain⟨v1,v2,v3,us1,us2,us3,F3,e,p⟩:=ho.pts;cases e;exact⟨us1,us2,us3,F3,p⟩
theorem NdOf.turn{n':Nd}{F'':List Nat}{vs':List Value}{v:Value}(h:NdOf D w lo F W v n F')(ht:Trd (·∈F') W W')(ho:OwnN D W' n' vs' F'')(hc:∀k,F''.count k<=1/\(0<F''.count k->0<F'.count k\/W.heap.size<=k)):NdOf D w lo F W' (.agg vs'.toArray) n' F'':=by
  have hm:∀k∈F'',k∈F'\/W.heap.size<=k:=λk hk=>((hc k).2 (zP.2 hk)).imp zP.1 id
  refine⟨⟨⟨vs',rfl,ho⟩,zbw.2 λk=>(hc k).1,λk hk hd=>?_,λk hd=>zm (h.at'.data k hd) ht.size⟩,λk hk=>?_,h.trd.trans ht λk hk hf=>?_,h.dat,h.lt,h.lo1,zv h.lo2 ht.size⟩
  · rcases hm k hk with h1|h1
    ·exact h.at'.free k h1 hd
    · have:=h.at'.data k hd;omega
  · rcases hm k hk with h1|h1
    ·exact h.fr k h1
    ·exact .inr (zv h.lo2 h1)
  · rcases h.fr k hf with h6|h6
    ·exact h6
    · have:=h.lo1;omega
theorem NdOf.keys{ks:List (List UInt8)}{us:List Value}{V1':Value}(h:NdOf D w lo F W (.agg #[V1,V2,V3]) n F') (hr:zci 23 1 W V1 ks.length us V1' W') (hf:Flat Elt.bytes D W ks us):∃F'',NdOf D w lo F W' (.agg #[V1',V2,V3]) (.mk ks n.chains n.kids) F'':=by
  obtain⟨us1,us2,us3,F3,p⟩:=h.at'.own3;have hn:=zbw.1 h.at'.nodup;have hlF:∀k∈F',k<W.heap.size:=h.at'.lt;have hF:∀k,F'.count k=(zak V1).count k+(zak V2).count k+(zak V3).count k+F3.count k:=λk=>by rw[p.fe];simp only[yX]
  have ht:=hr.trd;have ht':Trd (·∈F') W W':=ht.mono λk _ hk=>zP.1 (by have:=hF k;have:=(zan V1 k).2.2 hk;omega)
  have hkp:∀k,V1.ownBlock≠some k->k<W.heap.size->W'.heap[k]?=W.heap[k]?:=λk hk hl=>ht.block k hl hk
  have hD:∀k,D k->W'.heap[k]?=W.heap[k]?:=λk hd=>ht'.block k (h.at'.data k hd) λhm=>h.at'.free k hm hd
  refine⟨_,h.turn (vs':=[V1',V2,V3]) ht' (Pts.own (n:=.mk ks n.chains n.kids) ⟨hr.1,hf.keep hD,p.r2.kept λk hk=>hkp k (λe=>?_) (p.r2.lt hk),p.l2.keep hD,p.r3.kept λk hk=>hkp k (λe=>?_) (p.r3.lt hk),zbh _ p.o3 (λk hk=>hkp k (λe=>?_) ?_) hD,rfl⟩) λk=>?_⟩
  ·have:=hn k;have:=hF k;have:=(zan V1 k).2.2 e;have:=(zan V2 k).2.2 hk;omega
  ·have:=hn k;have:=hF k;have:=(zan V1 k).2.2 e;have:=(zan V3 k).2.2 hk;omega
  ·have:=hn k;have:=hF k;have:=(zan V1 k).2.2 e;have:=zP.2 hk;omega
  ·have:=zP.2 hk;have:=hF k;exact hlF k (zP.1 (by omega))
  · have c0:=hn k
    have c1:=hF k;have c2:=hr.cnt k;have c3:0<F'.count k->k<W.heap.size:=λhp=>hlF k (zP.1 hp)
    simp only[yX];omega
theorem NdOf.chains {cs:List (List Ver)}{us:List Value}{V2':Value}(h:NdOf D w lo F W (.agg #[V1,V2,V3]) n F') (hr:zci 102 1 W V2 cs.length us V2' W') (hf:Flat (Elt.list Elt.ver) D W cs us):∃F'',NdOf D w lo F W' (.agg #[V1,V2',V3]) (.mk n.keys cs n.kids) F'':=by
  obtain⟨us1,us2,us3,F3,p⟩:=h.at'.own3;have hn:=zbw.1 h.at'.nodup;have hlF:∀k∈F',k<W.heap.size:=h.at'.lt;have hF:∀k,F'.count k=(zak V1).count k+(zak V2).count k+(zak V3).count k+F3.count k:=λk=>by rw[p.fe];simp only[yX]
  have ht:=hr.trd;have ht':Trd (·∈F') W W':=ht.mono λk _ hk=>zP.1 (by have:=hF k;have:=(zan V2 k).2.2 hk;omega)
  have hkp:∀k,V2.ownBlock≠some k->k<W.heap.size->W'.heap[k]?=W.heap[k]?:=λk hk hl=>ht.block k hl hk
  have hD:∀k,D k->W'.heap[k]?=W.heap[k]?:=λk hd=>ht'.block k (h.at'.data k hd) λhm=>h.at'.free k hm hd
  refine⟨_,h.turn (vs':=[V1,V2',V3]) ht' (Pts.own (n:=.mk n.keys cs n.kids) ⟨p.r1.kept λk hk=>hkp k (λe=>?_) (p.r1.lt hk),p.l1.keep hD,hr.1,hf.keep hD,p.r3.kept λk hk=>hkp k (λe=>?_) (p.r3.lt hk),zbh _ p.o3 (λk hk=>hkp k (λe=>?_) ?_) hD,rfl⟩) λk=>?_⟩
  · have:=hn k;have:=hF k;have:=(zan V2 k).2.2 e;have:=(zan V1 k).2.2 hk;omega
  · have:=hn k;have:=hF k;have:=(zan V2 k).2.2 e;have:=(zan V3 k).2.2 hk;omega
  ·have:=hn k;have:=hF k;have:=(zan V2 k).2.2 e;have:=zP.2 hk;omega
  ·have:=zP.2 hk;have:=hF k;exact hlF k (zP.1 (by omega))
  · have c0:=hn k
    have c1:=hF k;have c2:=hr.cnt k;have c3:0<F'.count k->k<W.heap.size:=λhp=>hlF k (zP.1 hp)
    simp only[yX];omega
theorem NdOf.kidAt{i g3 c3:Nat}(h:NdOf D w lo F W (.agg #[V1,V2,.slice (some ⟨g3,0,none⟩) n.kids.length c3]) n F')(hi:i<n.kids.length):∃a c a' c' a'' c'' G,W.cell? ⟨g3,i*3,none⟩=some (.slice a (kidN n i).keys.length c)/\W.cell? ⟨g3,i*3+1,none⟩=some (.slice a' (kidN n i).chains.length c')/\W.cell? ⟨g3,i*3+2,none⟩=some (.slice a'' (kidN n i).kids.length c'')/\NdAt D W (.agg #[.slice a (kidN n i).keys.length c,.slice a' (kidN n i).chains.length c',.slice a'' (kidN n i).kids.length c'']) (kidN n i) G/\(∀k∈G,k∈F'/\V1.ownBlock≠some k/\V2.ownBlock≠some k/\k≠g3)/\
      ∀(m:Nd) (x y z:Value) (G':List Nat) (W1 W2:World),NdAt D W1 (.agg #[x,y,z]) m G'->(∀k∈G',k∈G\/W.heap.size<=k)->Trd (·∈G) W W1->W1.grownBy W2 (some g3)->(∀us,RowQ 46 3 W1 (.slice (some ⟨g3,0,none⟩) n.kids.length c3) n.kids.length us->RowQ 46 3 W2 (.slice (some ⟨g3,0,none⟩) n.kids.length c3) n.kids.length (((us.set (i*3) x).set (i*3+1) y).set (i*3+2) z))->
        ∃F'',NdOf D w lo F W2 (.agg #[V1,V2,.slice (some ⟨g3,0,none⟩) n.kids.length c3]) (zck n i m) F'':=by
  obtain⟨us1,us2,us3,F3,p⟩:=h.at'.own3;obtain⟨usA,usB,FA,G,FB,xa,xc,ya,yc,za,zc,hus3,hF3,hlA,oA,ok,oB,k0,k1,k2⟩:=p.at' hi;have hn:=zbw.1 h.at'.nodup;have hF:∀k,F'.count k=(zak V1).count k+(zak V2).count k+(zak (.slice (some ⟨g3,0,none⟩) n.kids.length c3)).count k+(FA.count k+G.count k+FB.count k):=λk=>by rw[p.fe,hF3];simp only[yX]
  have hlF:∀k∈F',k<W.heap.size:=h.at'.lt;have hg3:∀k,0<(zak (.slice (some ⟨g3,0,none⟩) n.kids.length c3)).count k↔k=g3:=λk=>by rw[(zan _ k).2];simp[Value.ownBlock,eq_comm]
  have hGm:∀k∈G,k∈F':=λk hg=>zP.1 (by have:=zP.2 hg;have:=hF k;omega)
  refine⟨xa,xc,ya,yc,za,zc,G,k0,k1,k2,⟨⟨_,rfl,ok⟩,zbw.2 λk=>by have:=hn k;have:=hF k;omega,λk hg=>h.at'.free k (hGm k hg),h.at'.data⟩,λk hg=>⟨hGm k hg,λe=>?_,λe=>?_,λe=>?_⟩,?_⟩
  · have:=hn k;have:=hF k;have:=(zan V1 k).2.2 e;have:=zP.2 hg;omega
  · have:=hn k;have:=hF k;have:=(zan V2 k).2.2 e;have:=zP.2 hg;omega
  · have:=hn k;have:=hF k;have:=(hg3 k).2 e;have:=zP.2 hg;omega
  · intro m x y z G' W1 W2 hm hG' ht hg hset
    have ht2:Trd (·∈F') W W2:=(ht.mono λk _ hk=>hGm k hk).trans (Trd.ofGrown (F:=(·=g3)) hg λk e=>by injection e with e;exact e.symm) λk _ e=>zP.1 (by have:=hF k;have:=(hg3 k).2 e;omega)
    have hD:∀k,D k->W2.heap[k]?=W.heap[k]?:=λk hd=>ht2.block k (h.at'.data k hd) λhm=>h.at'.free k hm hd
    have hkp:∀k,k<W.heap.size->G.count k=0->k≠g3->W2.heap[k]?=W.heap[k]?:=λk hl h0 hne=>(hg.block k (zm hl ht.size) λe=>hne (by injection e)).trans (ht.block k hl λhm=>by have:=zP.2 hm;omega)
    have hkp':∀k,0<(zak V1).count k+(zak V2).count k+(FA.count k+FB.count k)->W2.heap[k]?=W.heap[k]?:=λk hp=>by
      have c0:=hn k;have c1:=hF k;have c2:=hg3 k;exact hkp k (hlF k (zP.1 (by omega))) (by omega) (λe=>by have:=c2.2 e;omega)
    have g3F:g3∈F':=zP.1 (by have:=hF g3;have:=(hg3 g3).2 rfl;omega);have r3:=hset us3 (p.r3.trd ht λk hk hm=>by
      have:=hn k;have:=hF k;have:=(zan _ k).2.2 hk;have:=zP.2 hm;omega)
    have e3:((us3.set (i*3) x).set (i*3+1) y).set (i*3+2) z=usA++[x,y,z]++usB:=by
      rw[hus3,<-hlA,zG,vf _ _ (zf _),vf _ _ (by omega),vf _ _ (by omega),wk,xW,xW,zG];rfl
    rw[e3]at r3;have hm2:NdAt D W2 (.agg #[x,y,z]) m G':=hm.keep hg.size λk hk ho=>hg.block k hk λe=>by
      injection e with e;rw[e]at ho;rcases ho with hd|hG
      ·exact h.at'.free _ g3F hd
      · rcases hG' _ hG with h1|h1
        · have:=hn g3;have:=hF g3;have:=(hg3 g3).2 rfl;have:=zP.2 h1;omega
        · have:=hlF _ g3F;omega
    have hgn:=zbw.1 hm2.nodup;obtain⟨vs,e,ho⟩:=hm2.ex;injection e with e;injection e with e;subst e;have hsl:(zck n i m).kids.length=n.kids.length:=by show(n.kids.set i m).length=_;rw[yR]
    have eset:(zck n i m).kids=n.kids.take i++[m]++n.kids.drop (i+1):=by
      show n.kids.set i m=_;rw[vg,zi hi,zG];rfl
    refine⟨_,h.turn (vs':=[V1,V2,.slice (some ⟨g3,0,none⟩) n.kids.length c3]) (F'':=zak V1++zak V2++zak (.slice (some ⟨g3,0,none⟩) n.kids.length c3)++(FA++G'++FB)) ht2 (Pts.own (n:=zck n i m) ⟨p.r1.kept λk hk=>hkp' k (by have:=(zan V1 k).2.2 hk;omega),p.l1.keep hD,p.r2.kept λk hk=>hkp' k (by have:=(zan V2 k).2.2 hk;omega),p.l2.keep hD,by rw[hsl];exact r3,?_,rfl⟩) λk=>?_⟩
    · rw[eset]
      exact zb7 (zb7 (zbh _ oA (λk hk=>hkp' k (by have:=zP.2 hk;omega)) hD) (zf3.2 ho)) (zbh _ oB (λk hk=>hkp' k (by have:=zP.2 hk;omega)) hD)
    · have c0:=hn k
      have c1:=hF k;have c2:=hgn k;have c3:0<F'.count k->k<W.heap.size:=λhp=>hlF k (zP.1 hp)
      have c4:0<G'.count k->0<G.count k\/W.heap.size<=k:=λhp=>(hG' k (zP.1 hp)).imp zP.2 id
      simp only[yX];omega
end
end Go.Proofs.YtkobhdllagbkhaaGreat
