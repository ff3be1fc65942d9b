/-
  TEXTS OF ONE PROOF, merged.
-/
import Derived.Test.YtkobhdllagbkhaaGreatKn4
namespace Go.Proofs.YtkobhdllagbkhaaGreat
open Go.RowKit
set_option maxRecDepth 100000
set_option maxHeartbeats 32000000
def Chn(W0:World)(R:List Value->World->Value->World->Prop):List Value->World->Prop
 |[],W=>Below W0.heap.size W0 W
 |v::l,W=>∃W1 W2,Chn W0 R l W1/\R l W1 v W2/\Below W2.heap.size W2 W
theorem Chn.more{W0:World}{R:List Value->World->Value->World->Prop}:∀(l:List Value)(W W':World),Chn W0 R l W->Below W.heap.size W W'->Chn W0 R l W'
 |[],_,_,h,hb=>y8 h (hb.mono (y9 h))
 |_::_,_,_,⟨W1,W2,h1,h2,h3⟩,hb=>⟨W1,W2,h1,h2,h3.trans (hb.mono h3.size)⟩
theorem Chn.trd{W0:World}{R:List Value->World->Value->World->Prop}{Fp:Nat->Nat->Prop}(hR:∀l W v W',R l W v W'->Trd (λk=>Fp l.length k) W W'):∀{l:List Value}{W:World},Chn W0 R l W->Trd (λk=>∃p,p<l.length/\Fp p k) W0 W
 |[],_,h=>Trd.of h
 |v::l,_,⟨W1,W2,h1,h2,h3⟩=>by
  have t1:=(Chn.trd hR h1).mono (F':=λk=>∃p,p<(v::l).length/\Fp p k) λk _ ⟨p,hp,hk⟩=>⟨p,by simp only[zI];omega,hk⟩
  have t2:=(hR _ _ _ _ h2).mono (F':=λk=>∃p,p<(v::l).length/\Fp p k) λk _ hk=>⟨l.length,by simp,hk⟩
  exact(t1.trans t2 λ_ _ h=>h).trans (Trd.of (F:=λk=>∃p,p<(v::l).length/\Fp p k) h3) λ_ _ h=>h
abbrev K0 (W0:World):World->World->Prop:=λA B=>Trd (·<W0.heap.size) A B
def lRow (W0:World)(Te:TypeId)(m:Nat)(us:List Value):SGn (K0 W0):=
 ⟨λW v=>∃b,v=.slice (some ⟨b,0,none⟩) m m/\W0.heap.size<=b/\W.heap[b]?=some (.cells us.toArray Te (0,0)),λ_ _ _ ⟨b,e,h1,h2⟩hb=>⟨b,e,h1,(hb.block b (zJ.1 h2).1).trans h2⟩,
  λ_ _ _ ⟨b,e,h1,h2⟩hk=>⟨b,e,h1,(hk.block b (zJ.1 h2).1 (by omega)).trans h2⟩⟩
theorem zan (v:Value)(k:Nat):(zak v).count k<=1/\(0<(zak v).count k↔v.ownBlock=some k):=by
  refine⟨?_,?_⟩
  · unfold zak
    cases v.ownBlock with
    |none=>simp
    |some j=>rw[xo,List.count_singleton];split<;>omega
  · rw[zP,zch]
theorem zci.cnt{Te:TypeId}{sz n:Nat}{w w':World}{v v':Value}{vs:List Value}(h:zci Te sz w v n vs v' w')(k:Nat):((zak v').count k=(zak v).count k)\/((zak v').count k<=1/\(0<(zak v').count k->w.heap.size<=k/\k<w'.heap.size)):=by
  rcases h.2.2 with e|⟨q,e,hq⟩
  · left
    unfold zak;rw[e]
  · right
    refine⟨(zan v' k).1,λhp=>?_⟩;have hk:=(zan v' k).2.1 hp;have hl:=h.1.lt hk;rw[e]at hk;injection hk with hk;omega
theorem zci.trd{Te:TypeId}{sz n:Nat}{w w':World}{v v':Value}{vs:List Value}(h:zci Te sz w v n vs v' w'):Trd (λk=>v.ownBlock=some k) w w':=Trd.ofGrown h.2.1 λ_ hk=>hk
theorem zbw{l:List Nat}:l.Nodup↔∀k,l.count k<=1:=List.nodup_iff_count
theorem NdAt.to{D:Nat->Prop}{w w':World}{v:Value}{n n':Nd}{F F':List Nat}{vs':List Value}{Q:Nd->Prop}(h:NdAt D w v n F)(ht:Trd (·∈F) w w')(ho:OwnN D w' n' vs' F')(hq:Q n')(hc:∀k,F'.count k<=1/\(0<F'.count k->0<F.count k\/w.heap.size<=k)):NdTo D w F Q (.returned (.agg vs'.toArray)) w':=by
 have hm:∀k∈F',k∈F\/w.heap.size<=k:=λk hk=>by
  rcases(hc k).2 (zP.2 hk)with h1|h1
  ·exact .inl (zP.1 h1)
  ·exact .inr h1
 refine⟨_,n',F',rfl,hq,⟨⟨vs',rfl,ho⟩,zbw.2 λk=>(hc k).1,λk hk hd=>?_,λk hd=>zm (h.data k hd) ht.size⟩,hm,ht⟩;rcases hm k hk with h1|h1
 ·exact h.free k h1 hd
 · have:=h.data k hd;omega
section
variable {P : Program} {T Te : TypeId} {n : Nat} {ops : Array Oper} {rest : List Oper} {o : Oper} {a : Act} {Q : Exit → Act → World → Prop} {w : World} {K : Act → World → Prop}
theorem zmf (hP:LoP P T Te 3)(w:World){u1 u2 u3 v1 v2 v3:Value}:(Instr.buildSlice T 2 #[(0,.agg #[u1,u2,u3]),(1,.agg #[v1,v2,v3])]).run P w=.ok (.slice (some ⟨w.heap.size,0,none⟩) 2 2) (w.alloc (.cells [u1,u2,u3,v1,v2,v3].toArray Te)):=by
 obtain⟨i,z,hi,hz,hsz,hby,hzs⟩:=hP.all;have hr:Array.range (2*3)=#[0,1,2,3,4,5]:=rfl;simp[Instr.buildSlice,zr hP.hT,sizeOf,typeInfo,zeroValue,hi,hz,hsz,newRow,Value.cells,Instr.fill,hr]
theorem znw(hP:LoP P T Te 3){x y:Operand}{u1 u2 u3 v1 v2 v3:Value}(ho:o.op=.buildSlice T 2 #[(0,x),(1,y)]) (hx:a.eval x=.agg #[u1,u2,u3]) (hy:a.eval y=.agg #[v1,v2,v3])(h:K (a.put o.dst (.slice (some ⟨w.heap.size,0,none⟩) 2 2)) (w.alloc (.cells [u1,u2,u3,v1,v2,v3].toArray Te))):o.wp P a w K Q:=by
 have hrun:=zmf hP w (u1:=u1) (u2:=u2) (u3:=u3) (v1:=v1) (v2:=v2) (v3:=v3);unfold Oper.wp execOp;simp only[ho,hx,hy,zZ,yb,ye,zE,zn,zo,hrun];exact h
end
structure Pts(D:Nat->Prop)(w:World)(n:Nd)(v1 v2 v3:Value)(us1 us2 us3:List Value)(F:List Nat)(F3:List Nat):Prop where
 r1:RowQ 23 1 w v1 n.keys.length us1
 l1:Flat Elt.bytes D w n.keys us1
 r2:RowQ 102 1 w v2 n.chains.length us2
 l2:Flat (Elt.list Elt.ver) D w n.chains us2
 r3:RowQ 46 3 w v3 n.kids.length us3
 o3:zbf D w n.kids us3 F3
 fe:F=zak v1++zak v2++zak v3++F3
theorem OwnN.pts{D:Nat->Prop}{w:World}{n:Nd}{vs:List Value}{F:List Nat}(h:OwnN D w n vs F):∃v1 v2 v3 us1 us2 us3 F3,vs=[v1,v2,v3]/\Pts D w n v1 v2 v3 us1 us2 us3 F F3:=by
 rw[zfb]at h;obtain⟨v1,v2,v3,us1,us2,us3,F3,e,fe,h1,h2,h3,h4,h5,h6⟩:=h;exact⟨v1,v2,v3,us1,us2,us3,F3,e,h1,h2,h3,h4,h5,h6,fe⟩
theorem Pts.own{D:Nat->Prop}{w:World}{n:Nd}{v1 v2 v3:Value}{us1 us2 us3:List Value}{F F3:List Nat}(h:Pts D w n v1 v2 v3 us1 us2 us3 F F3):OwnN D w n [v1,v2,v3] F:=by
 rw[zfb];exact⟨v1,v2,v3,us1,us2,us3,F3,rfl,h.fe,h.r1,h.l1,h.r2,h.l2,h.r3,h.o3⟩
theorem RowQ.some{Te:TypeId}{sz n:Nat}{w:World}{v:Value}{vs:List Value}(h:RowQ Te sz w v n vs)(hn:0<n):∃g c,v=.slice (some ⟨g,0,none⟩) n c/\n<=c/\v.ownBlock=Option.some g:=by
 rcases h.cases with⟨_,h2,_⟩|⟨g,cap,cur,rfl,_,h2,_⟩
 ·omega
 ·exact⟨g,cap,rfl,h2,rfl⟩
def R8 (A1 A2 A3 A4:World->Value->World->Prop)(A5 A6:Value->Value->World->Value->World->Prop)(bx:Nat):List Value->World->Value->World->Prop
 |[],W,v,W'=>A1 W v W'
 |[_],W,v,W'=>A2 W v W'
 |[_,_],W,v,W'=>A3 W v W'
 |[_,_,_],W,v,W'=>A4 W v W'
 |[q,p,_,_],W,v,W'=>A5 p q W v W'
 |[_,q,p,_,_],W,v,W'=>A6 p q W v W'
 |[c,_,_,_,b,a],W,v,W'=>v=.agg #[a,b,c]/\W'=W
 |[_,c,_,_,_,b,a],W,_,W'=>TriV W' bx 46 a b c/\W.grownBy W' (some bx)
 |_,_,_,_=>False
def rIns (Te:TypeId)(v:Value)(n:Nat)(vs:List Value):World->Value->World->Prop:=λW a W'=>zci Te 1 W v n vs a W'
def rPart(n1:Nat)(cs1:List Value)(n2:Nat)(cs2:List Value)(n3:Nat)(cs3:List Value):World->Value->World->Prop:=λW p W'=>∃x y z,p=.agg #[x,y,z]/\New3 W x y z n1 cs1 n2 cs2 n3 cs3 W'
def rTwo:Value->Value->World->Value->World->Prop:=λp q W s W'=>∃p1 p2 p3 q1 q2 q3 B,p=.agg #[p1,p2,p3]/\q=.agg #[q1,q2,q3]/\s=.slice (some ⟨B,0,none⟩) 2 2/\W.heap.size<=B/\W'.heap[B]?=some (.cells [p1,p2,p3,q1,q2,q3].toArray 46 (0,0))/\Below W.heap.size W W'/\∀u∈[p1,p2,p3,q1,q2,q3],u.oneCell'=true
def rRep (v:Value)(n:Nat)(usA usB:List Value):Value->Value->World->Value->World->Prop:=λp q W c W'=>∃p1 p2 p3 q1 q2 q3,p=.agg #[p1,p2,p3]/\q=.agg #[q1,q2,q3]/\zci 46 3 W v n (usA++[p1,p2,p3,q1,q2,q3]++usB) c W'
theorem zci.row{Te:TypeId}{sz n:Nat}{w w':World}{v v':Value}{vs:List Value}(h:zci Te sz w v n vs v' w'):RowQ Te sz w' v' n vs:=h.1
def fpS (v1 v2 v3:Value)(bx:Nat):Nat->Nat->Prop
 |0,k=>v1.ownBlock=some k
 |1,k=>v2.ownBlock=some k
 |5,k=>v3.ownBlock=some k
 |7,k=>k=bx
 |_,_=>False
theorem r8_trd{v1 v2 v3:Value}{n1 n2 n3 p1 p2 p3 q1 q2 q3:Nat}{vs1 vs2 ps1 ps2 ps3 qs1 qs2 qs3 usA usB:List Value}{bx:Nat}:∀(l:List Value) (W:World) (v:Value) (W':World),R8 (rIns 23 v1 n1 vs1) (rIns 102 v2 n2 vs2) (rPart p1 ps1 p2 ps2 p3 ps3) (rPart q1 qs1 q2 qs2 q3 qs3) rTwo (rRep v3 n3 usA usB) bx l W v W'->Trd (λk=>fpS v1 v2 v3 bx l.length k) W W'
 |[],_,_,_,h=>zci.trd h
 |[_],_,_,_,h=>zci.trd h
 |[_,_],_,_,_,⟨_,_,_,_,h⟩=>Trd.of h.ky.2.2
 |[_,_,_],_,_,_,⟨_,_,_,_,h⟩=>Trd.of h.ky.2.2
 |[_,_,_,_],_,_,_,⟨_,_,_,_,_,_,_,_,_,_,_,_,h,_⟩=>Trd.of h
 |[_,_,_,_,_],_,_,_,⟨_,_,_,_,_,_,_,_,h⟩=>zci.trd h
 |[_,_,_,_,_,_],_,_,_,⟨_,h⟩=>by subst h;exact Trd.refl _ _
 |[_,_,_,_,_,_,_],_,_,_,⟨_,h⟩=>Trd.ofGrown h λ_ hk=>by injection hk with hk;exact hk.symm
 |_::_::_::_::_::_::_::_::_,_,_,_,h=>h.elim
theorem zlh{v1 v2 v3:Value}{bx g:Nat}(h1:v1.ownBlock≠some g)(h2:v2.ownBlock≠some g)(h3:v3.ownBlock≠some g)(h4:g≠bx)(N:Nat):¬∃p,p<N/\fpS v1 v2 v3 bx p g:=by
 rintro⟨p,_,h⟩;rcases p with _|_|_|_|_|_|_|_|p
 ·exact h1 h
 ·exact h2 h
 ·exact h
 ·exact h
 ·exact h
 ·exact h3 h
 ·exact h
 ·exact h4 h
 ·exact h
def splR (V1 V2 V3:Value) (n kd:Nd) (i m:Nat) (us1 us2 us3 cu1 cu2 cu3:List Value) (kv cv:Value) (bx:Nat):List Value->World->Value->World->Prop:=
 R8 (rIns 23 V1 (n.keys.length+1) (us1.take (i*1)++[kv]++us1.drop (i*1))) (rIns 102 V2 (n.chains.length+1) (us2.take (i*1)++[cv]++us2.drop (i*1)))
  (rPart (min m kd.keys.length-min 0 kd.keys.length) ((cu1.take (min m kd.keys.length*1)).drop (min 0 kd.keys.length*1)) (min m kd.chains.length-min 0 kd.chains.length) ((cu2.take (min m kd.chains.length*1)).drop (min 0 kd.chains.length*1)) (min (m+1) kd.kids.length-min 0 kd.kids.length) ((cu3.take (min (m+1) kd.kids.length*3)).drop (min 0 kd.kids.length*3)))
  (rPart (min kd.keys.length kd.keys.length-min (m+1) kd.keys.length) ((cu1.take (min kd.keys.length kd.keys.length*1)).drop (min (m+1) kd.keys.length*1)) (min kd.keys.length kd.chains.length-min (m+1) kd.chains.length) ((cu2.take (min kd.keys.length kd.chains.length*1)).drop (min (m+1) kd.chains.length*1)) (min (kd.keys.length+1) kd.kids.length-min (m+1) kd.kids.length) ((cu3.take (min (kd.keys.length+1) kd.kids.length*3)).drop (min (m+1) kd.kids.length*3)))
  rTwo (rRep V3 (i+2+(n.kids.length-(i+1))) (us3.take (i*3)) (us3.drop ((i+1)*3))) bx
theorem splR_trd{V1 V2 V3:Value}{n kd:Nd}{i m:Nat}{us1 us2 us3 cu1 cu2 cu3:List Value}{kv cv:Value}{bx:Nat}:∀(l:List Value)(W:World)(v:Value)(W':World),splR V1 V2 V3 n kd i m us1 us2 us3 cu1 cu2 cu3 kv cv bx l W v W'->Trd (λk=>fpS V1 V2 V3 bx l.length k) W W':=r8_trd
theorem owns_two{D:Nat->Prop}{w:World}{ns:List Nd}{vs:List Value}{F:List Nat}(h:zbf D w ns vs F)(t:Nat)(ht:t<=ns.length):∃G1 G2,F=G1++G2/\zbf D w (ns.take t) (vs.take (t*3)) G1/\zbf D w (ns.drop t) (vs.drop (t*3)) G2:=by
 rw[<-yz t ns]at h;obtain⟨us,ws,F1,F2,rfl,rfl,h1,h2⟩:=zeu h;have hl:=zgt h1;rw[zp,yi ht]at hl;refine⟨F1,F2,rfl,?_,?_⟩
 ·rw[<-hl,List.take_left];exact h1
 ·rw[<-hl,wO];exact h2
theorem zpt{D:Nat->Prop}{w W:World}{kd:Nd}{f t:Nat}{x y z:Value}{cu1 cu2 cu3:List Value}{G:List Nat}(l1:Flat Elt.bytes D w kd.keys cu1)(l2:Flat (Elt.list Elt.ver) D w kd.chains cu2)(hx:RowQ 23 1 W x (min t kd.keys.length-min f kd.keys.length) ((cu1.take (min t kd.keys.length*1)).drop (min f kd.keys.length*1)))(hy:RowQ 102 1 W y (min t kd.chains.length-min f kd.chains.length) ((cu2.take (min t kd.chains.length*1)).drop (min f kd.chains.length*1)))
  (hz:RowQ 46 3 W z (min (t+1) kd.kids.length-min f kd.kids.length) ((cu3.take (min (t+1) kd.kids.length*3)).drop (min f kd.kids.length*3)))
  (ho:zbf D W ((kd.kids.take (min (t+1) kd.kids.length)).drop (min f kd.kids.length)) ((cu3.take (min (t+1) kd.kids.length*3)).drop (min f kd.kids.length*3)) G)(hD:∀k,D k->W.heap[k]?=w.heap[k]?):
  OwnN D W (zbu kd f t) [x,y,z] (zak x++zak y++zak z++G):=by
 have e1:(zbu kd f t).keys.length=min t kd.keys.length-min f kd.keys.length:=by
  show((kd.keys.take (min t kd.keys.length)).drop (min f kd.keys.length)).length=_;simp only[zF,zp];omega
 have e2:(zbu kd f t).chains.length=min t kd.chains.length-min f kd.chains.length:=by
  show((kd.chains.take (min t kd.chains.length)).drop (min f kd.chains.length)).length=_;simp only[zF,zp];omega
 have e3:(zbu kd f t).kids.length=min (t+1) kd.kids.length-min f kd.kids.length:=by
  show((kd.kids.take (min (t+1) kd.kids.length)).drop (min f kd.kids.length)).length=_;simp only[zF,zp];omega
 rw[zfb,e1,e2,e3];exact⟨x,y,z,_,_,_,G,rfl,rfl,hx,((Flat.take l1 _).drop _).keep hD,hy,((Flat.take l2 _).drop _).keep hD,hz,ho⟩
theorem zma(w:World){D:Nat->Prop}{v:Value}{n:Nd}{F:List Nat}{i:Nat}(h:NdAt D w v n F)(hi:i<n.kids.length)(hik:i<=n.keys.length)(hic:i<=n.chains.length)(hkk:0<(kidN n i).keys.length)(hkc:(kidN n i).chains.length=(kidN n i).keys.length)(hkn:(kidN n i).kids=[]\/(kidN n i).kids.length=(kidN n i).keys.length+1)(hbd:n.keys.length<=1000/\n.chains.length<=1000/\n.kids.length<=1000/\(kidN n i).keys.length<=1000):
    Calls Tryz.prog 140 #[v,.int .i64 i] w (NdTo D w F (·=zbk n i)):=by
  obtain⟨vs,rfl,ho⟩:=h.ex;obtain⟨v1,v2,v3,us1,us2,us3,F3,rfl,p⟩:=ho.pts;obtain⟨usA,ms,usB,FA,Fk,FB,hus3,hF3,hlA,_,oA,ok,oB⟩:=zoh p.o3 i hi;rw[<-zbl hi]at ok;obtain⟨kd,hk⟩:∃k,k=kidN n i:=⟨_,rfl⟩;rw[<-hk]at ok hkk hkc hkn hbd;obtain⟨k1,k2,k3,cu1,cu2,cu3,Fkk,rfl,pk⟩:=ok.pts;obtain⟨a1,c1,rfl,_,_⟩:=p.r1.shape;obtain⟨a2,c2,rfl,_,_⟩:=p.r2.shape;obtain⟨g3,c3,rfl,_,hg3⟩:=p.r3.some (by omega);obtain⟨gk1,ck1,rfl,hck1,hgk1⟩:=pk.r1.some hkk;obtain⟨gk2,ck2,rfl,hck2,hgk2⟩:=pk.r2.some (by omega);obtain⟨ak3,ck3,rfl,_,_⟩:=pk.r3.shape;obtain⟨m,hm⟩:∃m,m=kd.keys.length/2:=⟨_,rfl⟩;have hmi:IntKind.i64.wrap ((kd.keys.length:Int)/2)=(m:Int):=by
    rw[IntKind.wrap_i64];omega
  have hmk:m<kd.keys.length:=by omega
  obtain⟨W,hW,q,bn,bz,hsz⟩:=zdk w 46 (.slice a1 n.keys.length c1) (.slice a2 n.chains.length c2) (.slice (some ⟨g3,0,none⟩) n.kids.length c3) (.slice none 0 0) (.slice none 0 0) (.slice none 0 0);have kc:∀j u,[Value.slice (some ⟨gk1,0,none⟩) kd.keys.length ck1,.slice (some ⟨gk2,0,none⟩) kd.chains.length ck2,.slice ak3 kd.kids.length ck3][j]?=Option.some u->w.cell? ⟨g3,i*3+j,none⟩=Option.some u:=λj u hj=>by
    have hjl:=(yI.1 hj).1;have hc:=p.r3.cell (g:=g3) rfl (j:=i*3+j) (u:=u) (by
      rw[hus3,zG,xw (by omega),hlA,xW,xu hjl];exact hj)
    exact hc
  have kc0:=(zag (q.block g3 (zad (kc 0 _ rfl))) _).trans (kc 0 _ rfl);have kc1:=(zag (q.block g3 (zad (kc 0 _ rfl))) _).trans (kc 1 _ rfl);have kc2:=(zag (q.block g3 (zad (kc 0 _ rfl))) _).trans (kc 2 _ rfl);rw[yO]at kc0;have tn2:=bn.cell2;have hcl:kd.chains.length<=1000:=by rw[hkc];exact hbd.2.2.2
  have hnl:kd.kids.length<=1001:=by
    rcases hkn with h0|h0
    ·rw[h0];simp
    ·omega
  have HK:=Lib.hid hk;have HM:=Lib.hid hm;have HC:=Lib.hid hkc;clear hk hm hkc;go_enter Tryz.func140,Tryz.ntmps140;go_upto_region 1 with(fail);rw[<-hW];clear hW;go_upto_region 2 with(go_big_may;first
    |(refine zdz rfl rfl ?_;intro w2 hb2 ht2)
    |(refine zaq rfl rfl rfl rfl rfl rfl rfl rfl ht2 ?_;intro W0 hg3' bk)
    |fail)
  have qW:Below W.heap.size W W0:=hb2.grown hg3' hb2.size λk hk=>by injection hk with hk;omega
  have q0:=q.trans (qW.mono q.size);replace bn:=bn.below qW (by omega);replace bz:=bz.below qW (by omega);have hs0:w.heap.size+2<W0.heap.size:=by have:=bk.lt;omega
  rw[hsz]at bk;have bk0:=bk.cell0;go_quiet(fail);have qd:Below W0.heap.size W0 (W0.drewN nq):=Below.drewN (ze _ _) _;replace bn:=bn.below qd (by omega);replace bz:=bz.below qd (by omega);replace bk:=bk.below qd bk.lt;replace q0:=q0.trans (qd.mono q0.size);replace hs0:w.heap.size+2<(W0.drewN nq).heap.size:=zm hs0 qd.size;clear bk0 qd qW hg3' ht2 hb2 tn2 kc0 kc1 kc2;generalize W0.drewN nq=W1 at*;obtain⟨kv,hkv,hkr,hkvl⟩:∃kv,cu1[m]?=Option.some kv/\RdS D w kv (kd.keys[m]'hmk)/\kv.cells=#[kv]:=by
    obtain⟨us,⟨v,rfl,hr⟩,hc⟩:=pk.l1.at m hmk;obtain⟨_,_,rfl,_⟩:=hr.shape;have:=hc 0 _ rfl;simp only[show Elt.bytes.size=1 from rfl,Nat.mul_one,yO]at this;exact⟨_,this,hr,rfl⟩
  have hmc:m<kd.chains.length:=by rw[HC.out];exact hmk
  obtain⟨cv,hcv,hcr,hcvl⟩:∃cv,cu2[m]?=Option.some cv/\RdL Elt.ver D w cv (kd.chains[m]'hmc)/\cv.cells=#[cv]:=by
    obtain⟨us,⟨v,rfl,hr⟩,hc⟩:=pk.l2.at m hmc;obtain⟨_,_,rfl,_⟩:=hr.shape;have:=hc 0 _ rfl;simp only[show(Elt.list Elt.ver).size=1 from rfl,Nat.mul_one,yO]at this;exact⟨_,this,hr,rfl⟩
  obtain⟨Ak,Lk,Ck,rfl⟩:∃A L C,kv=.slice A L C:=by obtain⟨A,C,e,_⟩:=hkr.shape;exact⟨A,_,C,e⟩
  obtain⟨Ac,Lc,Cc,rfl⟩:∃A L C,cv=.slice A L C:=by obtain⟨A,C,e,_⟩:=hcr.shape;exact⟨A,_,C,e⟩
  have hkw:=pk.r1.cell hgk1 hkv;have hcw:=pk.r2.cell hgk2 hcv;have hN:=h.nodup;rw[p.fe,hF3,pk.fe]at hN;have cnt:=zbw.1 hN;have ap:∀(x y:Value) (g:Nat),x.ownBlock=Option.some g->y.ownBlock=Option.some g->(∀k,(zak x).count k+(zak y).count k<=1)->False:=λx y g hx hy hc=>by
    have h1:=(zan x g).2.2 hx;have h2:=(zan y g).2.2 hy;have:=hc g;omega
  simp only[yX]at cnt;have l1:∀g,Value.ownBlock (.slice a1 n.keys.length c1)=Option.some g->g<w.heap.size:=λg hg=>p.r1.lt hg
  have l2:∀g,Value.ownBlock (.slice a2 n.chains.length c2)=Option.some g->g<w.heap.size:=λg hg=>p.r2.lt hg
  have l3:=p.r3.lt hg3;have lk1:=pk.r1.lt hgk1;have lk2:=pk.r2.lt hgk2;obtain⟨V1,hV1⟩:∃V,V=Value.slice a1 n.keys.length c1:=⟨_,rfl⟩;obtain⟨V2,hV2⟩:∃V,V=Value.slice a2 n.chains.length c2:=⟨_,rfl⟩;obtain⟨V3,hV3⟩:∃V,V=Value.slice (Option.some ⟨g3,0,none⟩) n.kids.length c3:=⟨_,rfl⟩;obtain⟨K1,hK1⟩:∃V,V=Value.slice (Option.some ⟨gk1,0,none⟩) kd.keys.length ck1:=⟨_,rfl⟩;obtain⟨K2,hK2⟩:∃V,V=Value.slice (Option.some ⟨gk2,0,none⟩) kd.chains.length ck2:=⟨_,rfl⟩;obtain⟨K3,hK3⟩:∃V,V=Value.slice ak3 kd.kids.length ck3:=⟨_,rfl⟩;have P1:=p.r1;have P2:=p.r2;have P3:=p.r3;have Q1:=pk.r1;have Q2:=pk.r2;have Q3:=pk.r3;rw[<-hV1]at P1 cnt l1;rw[<-hV2]at P2 cnt l2;rw[<-hV3]at P3 cnt hg3;rw[<-hK1]at Q1 cnt hgk1;rw[<-hK2]at Q2 cnt hgk2;rw[<-hK3]at Q3 cnt;have lk3:∀g,K3.ownBlock=Option.some g->g<w.heap.size:=λg hg=>Q3.lt hg
  have hTr:∀(l:List Value) (W':World),Chn W1 (splR V1 V2 V3 n kd i m us1 us2 us3 cu1 cu2 cu3 (.slice Ak Lk Ck) (.slice Ac Lc Cc) (w.heap.size+1)) l W'->Trd (λk=>∃p,p<l.length/\fpS V1 V2 V3 (w.heap.size+1) p k) W1 W':=λl W' h=>Chn.trd splR_trd h
  have n12:∀g,V1.ownBlock=Option.some g->V2.ownBlock≠Option.some g:=λg h1 h2=>ap V1 V2 g h1 h2 λk=>by have:=cnt k;omega
  have n13:∀g,V1.ownBlock=Option.some g->V3.ownBlock≠Option.some g:=λg h1 h2=>ap V1 V3 g h1 h2 λk=>by have:=cnt k;omega
  have n23:∀g,V2.ownBlock=Option.some g->V3.ownBlock≠Option.some g:=λg h1 h2=>ap V2 V3 g h1 h2 λk=>by have:=cnt k;omega
  have nK1:∀g,K1.ownBlock=Option.some g->∀N,¬∃p,p<N/\fpS V1 V2 V3 (w.heap.size+1) p g:=λg h1=>zlh (λh2=>ap V1 K1 g h2 h1 λk=>by have:=cnt k;omega) (λh2=>ap V2 K1 g h2 h1 λk=>by have:=cnt k;omega) (λh2=>ap V3 K1 g h2 h1 λk=>by have:=cnt k;omega) (by have:=Q1.lt h1;omega)
  have nK2:∀g,K2.ownBlock=Option.some g->∀N,¬∃p,p<N/\fpS V1 V2 V3 (w.heap.size+1) p g:=λg h1=>zlh (λh2=>ap V1 K2 g h2 h1 λk=>by have:=cnt k;omega) (λh2=>ap V2 K2 g h2 h1 λk=>by have:=cnt k;omega) (λh2=>ap V3 K2 g h2 h1 λk=>by have:=cnt k;omega) (by have:=Q2.lt h1;omega)
  have nK3:∀g,K3.ownBlock=Option.some g->∀N,¬∃p,p<N/\fpS V1 V2 V3 (w.heap.size+1) p g:=λg h1=>zlh (λh2=>ap V1 K3 g h2 h1 λk=>by have:=cnt k;omega) (λh2=>ap V2 K3 g h2 h1 λk=>by have:=cnt k;omega) (λh2=>ap V3 K3 g h2 h1 λk=>by have:=cnt k;omega) (by have:=lk3 g h1;omega)
  have nbx:∀g,w.heap.size<=g->g≠w.heap.size+1->∀N,¬∃p,p<N/\fpS V1 V2 V3 (w.heap.size+1) p g:=λg h1 h2=>zlh (λh3=>by have:=l1 g h3;omega) (λh3=>by have:=l2 g h3;omega) (λh3=>by rw[hg3]at h3;injection h3 with h3;omega) h2
  have hRN:∀(l:List Value)(W':World),Chn W1 (splR V1 V2 V3 n kd i m us1 us2 us3 cu1 cu2 cu3 (.slice Ak Lk Ck) (.slice Ac Lc Cc) (w.heap.size+1)) l.reverse W'->TriV W' w.heap.size 46 (.slice a1 n.keys.length c1) (.slice a2 n.chains.length c2) (.slice (Option.some ⟨g3,0,none⟩) n.kids.length c3):=λl W' h=>((hTr _ _ h).block _ bn.lt (nbx _ (zf _) (by omega) _)).trans bn
  have hRK:∀(l:List Value)(W':World),Chn W1 (splR V1 V2 V3 n kd i m us1 us2 us3 cu1 cu2 cu3 (.slice Ak Lk Ck) (.slice Ac Lc Cc) (w.heap.size+1)) l.reverse W'->TriV W' (w.heap.size+1+1) 46 (.slice (Option.some ⟨gk1,0,none⟩) kd.keys.length ck1) (.slice (Option.some ⟨gk2,0,none⟩) kd.chains.length ck2) (.slice ak3 kd.kids.length ck3):=λl W' h=>((hTr _ _ h).block _ bk.lt (nbx _ (by omega) (by omega) _)).trans bk
  have hQ1:∀(l:List Value)(W':World),Chn W1 (splR V1 V2 V3 n kd i m us1 us2 us3 cu1 cu2 cu3 (.slice Ak Lk Ck) (.slice Ac Lc Cc) (w.heap.size+1)) l W'->RowQ 23 1 W' K1 kd.keys.length cu1:=λl W' h=>(Q1.below q0).trd (hTr _ _ h) λg hg=>nK1 g hg _
  have hQ2:∀(l:List Value) (W':World),Chn W1 (splR V1 V2 V3 n kd i m us1 us2 us3 cu1 cu2 cu3 (.slice Ak Lk Ck) (.slice Ac Lc Cc) (w.heap.size+1)) l W'->RowQ 102 1 W' K2 kd.chains.length cu2:=λl W' h=>(Q2.below q0).trd (hTr _ _ h) λg hg=>nK2 g hg _
  have hQ3:∀(l:List Value) (W':World),Chn W1 (splR V1 V2 V3 n kd i m us1 us2 us3 cu1 cu2 cu3 (.slice Ak Lk Ck) (.slice Ac Lc Cc) (w.heap.size+1)) l W'->RowQ 46 3 W' K3 kd.kids.length cu3:=λl W' h=>(Q3.below q0).trd (hTr _ _ h) λg hg=>nK3 g hg _
  have z0:=q0.size;have eIk:∀args w,(callFunc 143 args).run Tryz.prog w=.ok (.enter 143 args) w:=enters_of Tryz.func143 (by kernel_rfl) rfl;have eIc:∀args w,(callFunc 144 args).run Tryz.prog w=.ok (.enter 144 args) w:=enters_of Tryz.func144 (by kernel_rfl) rfl;have ePt:∀args w,(callFunc 165 args).run Tryz.prog w=.ok (.enter 165 args) w:=enters_of Tryz.func165 (by kernel_rfl) rfl;have eRp:∀args w,(callFunc 164 args).run Tryz.prog w=.ok (.enter 164 args) w:=enters_of Tryz.func164 (by kernel_rfl) rfl;go_upto_region 3 with(fail);refine zai (K:=K0 W1) (by kernel_rfl) (by kernel_rfl) [9,19,27,32,33,34,35,36] (by kernel_rfl) [lEq (.pointer (some ⟨w.heap.size,0+0,none⟩)),lEq (.slice a1 n.keys.length c1),lEq (.int .i64 (i:Int)),lEq (.pointer (some ⟨w.heap.size+1+1,0+0,none⟩)),lEq (.slice (some ⟨gk1,0,none⟩) kd.keys.length ck1),lEq (.int .i64 (m:Int)),lEq (.pointer (some ⟨gk1,0+m*1,none⟩)),lEq (.slice Ak Lk Ck),lRow W1 23 1 [.slice Ak Lk Ck],lAny,lEq (.pointer (some ⟨w.heap.size,0+1,none⟩)),lEq (.slice a2 n.chains.length c2),lEq (.int .i64 (i:Int)),lEq (.pointer (some ⟨w.heap.size+1+1,0+1,none⟩)),lEq (.slice (some ⟨gk2,0,none⟩) kd.chains.length ck2),lEq (.int .i64 (m:Int)),lEq (.pointer (some ⟨gk2,0+m*1,none⟩)),lEq (.slice Ac Lc Cc),lRow W1 102 1 [.slice Ac Lc Cc],lAny,lEq (.pointer (some ⟨w.heap.size,0+2,none⟩)),lEq (.slice (some ⟨g3,0,none⟩) n.kids.length c3),lEq (.int .i64 (i:Int)),lEq (.int .i64 (i:Int)),lEq (.int .i64 ((i:Int)+1)),lEq (.agg #[.slice (some ⟨gk1,0,none⟩) kd.keys.length ck1,.slice (some ⟨gk2,0,none⟩) kd.chains.length ck2,.slice ak3 kd.kids.length ck3]),lEq (.int .i64 (m:Int)),lAny,lEq (.agg #[.slice (some ⟨gk1,0,none⟩) kd.keys.length ck1,.slice (some ⟨gk2,0,none⟩) kd.chains.length ck2,.slice ak3 kd.kids.length ck3]),lEq (.int .i64 (m:Int)),lEq (.int .i64 ((m:Int)+1)),lEq (.int .i64 (kd.keys.length:Int)),lAny,lAny,lAny,lAny,lAny] (λl W=>Chn W1 (splR V1 V2 V3 n kd i m us1 us2 us3 cu1 cu2 cu3 (.slice Ak Lk Ck) (.slice Ac Lc Cc) (w.heap.size+1)) l.reverse W) (λl A B h hb=>Chn.more _ _ _ h hb) (show Below W1.heap.size W1 W1 from ze _ _)
    ⟨?o0,?o1,?o2,?o3,?o4,?o5,?o6,?o7,?o8,?o9,?o10,?o11,?o12,?o13,?o14,?o15,?o16,?o17,?o18,?o19,?o20,?o21,?o22,?o23,?o24,?o25,?o26,?o27,?o28,?o29,?o30,?o31,?o32,?o33,?o34,?o35,?o36,trivial⟩ ?fin
  case o0=>
    refine LnOp.sd (λA va w' k hF hT hk hJ hb hu hp hd=>?_);have e1:=hF 2 rfl;exact zaf ndS rfl (e1) (by omega) ⟨_,rfl,rfl,ze _ _⟩
  case o1=>
    refine LnOp.sd (λA va w' k hF hT hk hJ hb hu hp hd=>?_);have e1:=(hT 20 0 (by simp) rfl).trans (hd ⟨0,.data⟩ (by simp) rfl rfl);exact zae (e:=23) rfl (e1) (by kernel_rfl) ((hRN _ _ hJ).cell0) ⟨_,rfl,rfl,ze _ _⟩
  case o2=>
    refine LnOp.sd (λA va w' k hF hT hk hJ hb hu hp hd=>?_);have e1:=hF 1 rfl;exact zu _ rfl ⟨_,rfl,e1,ze _ _⟩
  case o3=>
    refine LnOp.sd (λA va w' k hF hT hk hJ hb hu hp hd=>?_);have e1:=hF 5 rfl;exact zaf ndS rfl (e1) (by omega) ⟨_,rfl,rfl,ze _ _⟩
  case o4=>
    refine LnOp.sd (λA va w' k hF hT hk hJ hb hu hp hd=>?_);have e1:=(hT 23 3 (by simp) rfl).trans (hd ⟨3,.data⟩ (by simp) rfl rfl);exact zae (e:=23) rfl (e1) (by kernel_rfl) ((hRK _ _ hJ).cell0) ⟨_,rfl,rfl,ze _ _⟩
  case o5=>
    refine LnOp.sd (λA va w' k hF hT hk hJ hb hu hp hd=>?_);have e1:=hF 6 rfl;exact zu _ rfl ⟨_,rfl,e1,ze _ _⟩
  case o6=>
    refine LnOp.sd (λA va w' k hF hT hk hJ hb hu hp hd=>?_);have e1:=(hT 24 4 (by simp) rfl).trans (hd ⟨4,.data⟩ (by simp) rfl rfl);have e2:=(hT 25 5 (by simp) rfl).trans (hd ⟨5,.data⟩ (by simp) rfl rfl);exact zhn (e:=23) rfl (by kernel_rfl) (by kernel_rfl) (e1) (e2) rfl (by omega) ⟨_,rfl,rfl,ze _ _⟩
  case o7=>
    refine LnOp.sd (λA va w' k hF hT hk hJ hb hu hp hd=>?_);have e1:=(hT 26 6 (by simp) rfl).trans (hd ⟨6,.data⟩ (by simp) rfl rfl);exact zae (e:=5) rfl (e1) (by kernel_rfl) ((hQ1 _ _ hJ).cell hgk1 (j:=m) hkv|>λh=>by simpa using h) ⟨_,rfl,rfl,ze _ _⟩
  case o8=>
    refine LnOp.sd (λA va w' k hF hT hk hJ hb hu hp hd=>?_);have e1:=(hT 27 7 (by simp) rfl).trans (hd ⟨7,.data⟩ (by simp) rfl rfl);exact zba kysP rfl e1 rfl rfl (by omega) (by omega) ⟨_,rfl,⟨w'.heap.size,rfl,(hTr _ _ hJ).size,by simp only[World.alloc,yf]⟩,(ze _ _).alloc (zf _) _⟩
  case o9=>
    refine LnOp.line 0 rfl rfl (λA va w' hF hT hJ hu hd=>?_);have e1:=(hT 21 1 (by simp) rfl).trans (hd ⟨1,.data⟩ (by simp) rfl rfl);have e2:=(hT 22 2 (by simp) rfl).trans (hd ⟨2,.data⟩ (by simp) rfl rfl);have x3:A.eval (.tmp 28)=va 8:=hT 28 8 (by simp) rfl;have y3:=hd ⟨8,.data⟩ (by simp) rfl rfl;have y3':∃B,va 8=.slice (some ⟨B,0,none⟩) 1 1/\W1.heap.size<=B/\w'.heap[B]?=some (.cells [.slice Ak Lk Ck].toArray 23 (0,0)):=y3;obtain⟨B,eB,hB1,hB2⟩:=y3';have hJ':Below W1.heap.size W1 w':=hJ;have hv:=(P1.below q0).below hJ';refine zah rfl eIk (args:=#[V1,.int .i64 i,.slice (some ⟨B,0,none⟩) 1 1]) (by simp only[zE,zn,zo,e1,e2,x3.trans eB,hV1]) ((zqd w' hv hik (by omega) (by omega) hB2 rfl (λu hu=>by rw[yL.1 hu];rfl) (λe=>by have:=l1 B e;omega)).mono ?_);rintro e W4 ⟨v',rfl,hR⟩;exact⟨_,rfl,_,rfl,⟨w',W4,hJ,hR,ze _ _⟩,hR.trd.mono λg _ hg=>by have:=l1 g hg;omega⟩
  case o10=>
    refine LnOp.sd (λA va w' k hF hT hk hJ hb hu hp hd=>?_);have e1:=hF 2 rfl;exact zaf ndS rfl (e1) (by omega) ⟨_,rfl,rfl,ze _ _⟩
  case o11=>
    refine LnOp.sd (λA va w' k hF hT hk hJ hb hu hp hd=>?_);have e1:=(hT 30 10 (by simp) rfl).trans (hd ⟨10,.data⟩ (by simp) rfl rfl);exact zae (e:=102) rfl (e1) (by kernel_rfl) ((hRN _ _ hJ).cell1) ⟨_,rfl,rfl,ze _ _⟩
  case o12=>
    refine LnOp.sd (λA va w' k hF hT hk hJ hb hu hp hd=>?_);have e1:=hF 1 rfl;exact zu _ rfl ⟨_,rfl,e1,ze _ _⟩
  case o13=>
    refine LnOp.sd (λA va w' k hF hT hk hJ hb hu hp hd=>?_);have e1:=hF 5 rfl;exact zaf ndS rfl (e1) (by omega) ⟨_,rfl,rfl,ze _ _⟩
  case o14=>
    refine LnOp.sd (λA va w' k hF hT hk hJ hb hu hp hd=>?_);have e1:=(hT 33 13 (by simp) rfl).trans (hd ⟨13,.data⟩ (by simp) rfl rfl);exact zae (e:=102) rfl (e1) (by kernel_rfl) ((hRK _ _ hJ).cell1) ⟨_,rfl,rfl,ze _ _⟩
  case o15=>
    refine LnOp.sd (λA va w' k hF hT hk hJ hb hu hp hd=>?_);have e1:=hF 6 rfl;exact zu _ rfl ⟨_,rfl,e1,ze _ _⟩
  case o16=>
    refine LnOp.sd (λA va w' k hF hT hk hJ hb hu hp hd=>?_);have e1:=(hT 34 14 (by simp) rfl).trans (hd ⟨14,.data⟩ (by simp) rfl rfl);have e2:=(hT 35 15 (by simp) rfl).trans (hd ⟨15,.data⟩ (by simp) rfl rfl);exact zhn (e:=102) rfl (by kernel_rfl) (by kernel_rfl) (e1) (e2) rfl (by omega) ⟨_,rfl,rfl,ze _ _⟩
  case o17=>
    refine LnOp.sd (λA va w' k hF hT hk hJ hb hu hp hd=>?_);have e1:=(hT 36 16 (by simp) rfl).trans (hd ⟨16,.data⟩ (by simp) rfl rfl);exact zae (e:=100) rfl (e1) (by kernel_rfl) ((hQ2 _ _ hJ).cell hgk2 (j:=m) hcv|>λh=>by simpa using h) ⟨_,rfl,rfl,ze _ _⟩
  case o18=>
    refine LnOp.sd (λA va w' k hF hT hk hJ hb hu hp hd=>?_);have e1:=(hT 37 17 (by simp) rfl).trans (hd ⟨17,.data⟩ (by simp) rfl rfl);exact zba chsP rfl e1 rfl rfl (by omega) (by omega) ⟨_,rfl,⟨w'.heap.size,rfl,(hTr _ _ hJ).size,by simp only[World.alloc,yf]⟩,(ze _ _).alloc (zf _) _⟩
  case o19=>
    refine LnOp.line 1 rfl rfl (λA va w' hF hT hJ hu hd=>?_);have e1:=(hT 31 11 (by simp) rfl).trans (hd ⟨11,.data⟩ (by simp) rfl rfl);have e2:=(hT 32 12 (by simp) rfl).trans (hd ⟨12,.data⟩ (by simp) rfl rfl);have x3:A.eval (.tmp 38)=va 18:=hT 38 18 (by simp) rfl;have y3:=hd ⟨18,.data⟩ (by simp) rfl rfl;have y3':∃B,va 18=.slice (some ⟨B,0,none⟩) 1 1/\W1.heap.size<=B/\w'.heap[B]?=some (.cells [.slice Ac Lc Cc].toArray 102 (0,0)):=y3;obtain⟨B,eB,hB1,hB2⟩:=y3';have hv:=(P2.below q0).trd (hTr [va 9] w' hJ) (λg hg=>by rintro⟨p,hp,hf⟩;rcases p with _|p;exact n12 g hf hg;simp only[zI,zM]at hp;omega);refine zah rfl eIc (args:=#[V2,.int .i64 i,.slice (some ⟨B,0,none⟩) 1 1]) (by simp only[zE,zn,zo,e1,e2,x3.trans eB,hV2]) ((zqe w' hv hic (by omega) (by omega) hB2 rfl (λu hu=>by rw[yL.1 hu];rfl) (λe=>by have:=l2 B e;omega)).mono ?_);rintro e W4 ⟨v',rfl,hR⟩;exact⟨_,rfl,_,rfl,⟨w',W4,hJ,hR,ze _ _⟩,hR.trd.mono λg _ hg=>by have:=l2 g hg;omega⟩
  case o20=>
    refine LnOp.sd (λA va w' k hF hT hk hJ hb hu hp hd=>?_);have e1:=hF 2 rfl;exact zaf ndS rfl (e1) (by omega) ⟨_,rfl,rfl,ze _ _⟩
  case o21=>
    refine LnOp.sd (λA va w' k hF hT hk hJ hb hu hp hd=>?_);have e1:=(hT 40 20 (by simp) rfl).trans (hd ⟨20,.data⟩ (by simp) rfl rfl);exact zae (e:=46) rfl (e1) (by kernel_rfl) ((hRN _ _ hJ).cell2) ⟨_,rfl,rfl,ze _ _⟩
  case o22=>
    refine LnOp.sd (λA va w' k hF hT hk hJ hb hu hp hd=>?_);have e1:=hF 1 rfl;exact zu _ rfl ⟨_,rfl,e1,ze _ _⟩
  case o23=>
    refine LnOp.sd (λA va w' k hF hT hk hJ hb hu hp hd=>?_);have e1:=hF 1 rfl;exact zu _ rfl ⟨_,rfl,e1,ze _ _⟩
  case o24=>
    refine LnOp.sd (λA va w' k hF hT hk hJ hb hu hp hd=>?_);have e1:=(hT 43 23 (by simp) rfl).trans (hd ⟨23,.data⟩ (by simp) rfl rfl);exact zbq rfl (e1) (rfl) (by omega) (by omega) ⟨_,rfl,rfl,ze _ _⟩
  case o25=>
    refine LnOp.sd (λA va w' k hF hT hk hJ hb hu hp hd=>?_);have e1:=hF 5 rfl;exact zej ndS rfl (e1) ((hRK _ _ hJ).cell0) ((hRK _ _ hJ).cell1) ((hRK _ _ hJ).cell2) ⟨_,rfl,rfl,ze _ _⟩
  case o26=>
    refine LnOp.sd (λA va w' k hF hT hk hJ hb hu hp hd=>?_);have e1:=hF 6 rfl;exact zu _ rfl ⟨_,rfl,e1,ze _ _⟩
  case o27=>
    refine LnOp.line 2 rfl rfl (λA va w' hF hT hJ hu hd=>?_);have e1:=(hT 45 25 (by simp) rfl).trans (hd ⟨25,.data⟩ (by simp) rfl rfl);have e2:=(hT 46 26 (by simp) rfl).trans (hd ⟨26,.data⟩ (by simp) rfl rfl);refine zah rfl ePt (args:=#[.agg #[K1,K2,K3],.int .i64 0,.int .i64 m]) (by simp only[zE,zn,zo,BigFrame.eval_const,e1,e2,hK1,hK2,hK3]) ((zpu w' (i:=0) (hQ1 [va 19,va 9] w' hJ) (hQ2 [va 19,va 9] w' hJ) (hQ3 [va 19,va 9] w' hJ) rfl (zH _) (by omega) (by omega) (by omega) (by omega)).mono ?_);rintro e W4 ⟨x,y,z,rfl,hN⟩;exact⟨_,rfl,_,rfl,⟨w',W4,hJ,⟨x,y,z,rfl,hN⟩,ze _ _⟩,Trd.of hN.ky.2.2⟩
  case o28=>
    refine LnOp.sd (λA va w' k hF hT hk hJ hb hu hp hd=>?_);have e1:=hF 5 rfl;exact zej ndS rfl (e1) ((hRK _ _ hJ).cell0) ((hRK _ _ hJ).cell1) ((hRK _ _ hJ).cell2) ⟨_,rfl,rfl,ze _ _⟩
  case o29=>
    refine LnOp.sd (λA va w' k hF hT hk hJ hb hu hp hd=>?_);have e1:=hF 6 rfl;exact zu _ rfl ⟨_,rfl,e1,ze _ _⟩
  case o30=>
    refine LnOp.sd (λA va w' k hF hT hk hJ hb hu hp hd=>?_);have e1:=(hT 49 29 (by simp) rfl).trans (hd ⟨29,.data⟩ (by simp) rfl rfl);exact zbq rfl (e1) (rfl) (by omega) (by omega) ⟨_,rfl,rfl,ze _ _⟩
  case o31=>
    refine LnOp.sd (λA va w' k hF hT hk hJ hb hu hp hd=>?_);have e1:=hF 7 rfl;exact zu _ rfl ⟨_,rfl,e1,ze _ _⟩
  case o32=>
    refine LnOp.line 3 rfl rfl (λA va w' hF hT hJ hu hd=>?_);have e1:=(hT 48 28 (by simp) rfl).trans (hd ⟨28,.data⟩ (by simp) rfl rfl);have e2:=(hT 50 30 (by simp) rfl).trans (hd ⟨30,.data⟩ (by simp) rfl rfl);have e3:=(hT 51 31 (by simp) rfl).trans (hd ⟨31,.data⟩ (by simp) rfl rfl);refine zah rfl ePt (args:=#[.agg #[K1,K2,K3],.int .i64 ((m:Int)+1),.int .i64 kd.keys.length]) (by simp only[zE,zn,zo,e1,e2,e3,hK1,hK2,hK3]) ((zpu w' (i:=m+1) (hQ1 [va 27,va 19,va 9] w' hJ) (hQ2 [va 27,va 19,va 9] w' hJ) (hQ3 [va 27,va 19,va 9] w' hJ) (by omega) (by omega) (by omega) (by omega) (by omega) (by omega)).mono ?_);rintro e W4 ⟨x,y,z,rfl,hN⟩;exact⟨_,rfl,_,rfl,⟨w',W4,hJ,⟨x,y,z,rfl,hN⟩,ze _ _⟩,Trd.of hN.ky.2.2⟩
  case o33=>
    refine LnOp.line 4 rfl rfl (λA va w' hF hT hJ hu hd=>?_);have x1:A.eval (.tmp 47)=va 27:=hT 47 27 (by simp) rfl;have x2:A.eval (.tmp 52)=va 32:=hT 52 32 (by simp) rfl;have hJc:Chn W1 (splR V1 V2 V3 n kd i m us1 us2 us3 cu1 cu2 cu3 (.slice Ak Lk Ck) (.slice Ac Lc Cc) (w.heap.size+1)) [va 32,va 27,va 19,va 9] w':=hJ;obtain⟨Wa,Wb,hJ1,⟨qx,qy,qz,eq,hNq⟩,_⟩:=hJc;obtain⟨Wc,Wd,_,⟨px,py,pz,ep,hNp⟩,_⟩:=hJ1;refine znw ndP rfl (x1.trans ep) (x2.trans eq) ?_;have hb:=(ze w'.heap.size w').alloc (zf _) (.cells [px,py,pz,qx,qy,qz].toArray 46);generalize hWn:w'.alloc (.cells [px,py,pz,qx,qy,qz].toArray 46)=Wn at hb⊢;have hBn:Wn.heap[w'.heap.size]?=some (.cells [px,py,pz,qx,qy,qz].toArray 46 (0,0)):=by rw[<-hWn];simp only[World.alloc,yf]
    have o1:∀u∈[px,py,pz,qx,qy,qz],u.oneCell'=true:=by
      obtain⟨_,_,rfl,_⟩:=hNp.ky.1.shape;obtain⟨_,_,rfl,_⟩:=hNp.ch.1.shape;obtain⟨_,_,rfl,_⟩:=hNp.kd.1.shape;obtain⟨_,_,rfl,_⟩:=hNq.ky.1.shape;obtain⟨_,_,rfl,_⟩:=hNq.ch.1.shape;obtain⟨_,_,rfl,_⟩:=hNq.kd.1.shape;intro u hu;simp only[zU,yJ,yK]at hu;rcases hu with rfl|rfl|rfl|rfl|rfl|rfl<;>rfl
    exact⟨_,rfl,⟨w',Wn,hJ,⟨px,py,pz,qx,qy,qz,w'.heap.size,ep,eq,rfl,zf _,hBn,hb,o1⟩,ze _ _⟩,Trd.of hb⟩
  case o34=>
    refine LnOp.line 5 rfl rfl (λA va w' hF hT hJ hu hd=>?_);have e1:=(hT 41 21 (by simp) rfl).trans (hd ⟨21,.data⟩ (by simp) rfl rfl);have e2:=(hT 42 22 (by simp) rfl).trans (hd ⟨22,.data⟩ (by simp) rfl rfl);have e3:=(hT 44 24 (by simp) rfl).trans (hd ⟨24,.data⟩ (by simp) rfl rfl);have x4:A.eval (.tmp 53)=va 33:=hT 53 33 (by simp) rfl;have hJ':Chn W1 (splR V1 V2 V3 n kd i m us1 us2 us3 cu1 cu2 cu3 (.slice Ak Lk Ck) (.slice Ac Lc Cc) (w.heap.size+1)) [va 33,va 32,va 27,va 19,va 9] w':=hJ;have hJc:=hJ';obtain⟨Wa,Wb,hJ1,⟨p1,p2,p3,q1,q2,q3,B,ep,eq,es,hB1,hB2,_,ho1⟩,hb2⟩:=hJc;have hv:=(P3.below q0).trd (hTr _ _ hJ') (λg hg=>by rintro⟨p,hp,hf⟩;rcases p with _|_|_|_|_|p;exact n13 g hf hg;exact n23 g hf hg;exact hf;exact hf;exact hf;simp only[zI,zM]at hp;omega);have hBw:=(hb2.block B (zJ.1 hB2).1).trans hB2;have hWa:=(hTr _ _ hJ1).size;refine zah rfl eRp (args:=#[V3,.int .i64 i,.int .i64 ((i:Int)+1),.slice (some ⟨B,0,none⟩) 2 2]) (by simp only[zE,zn,zo,e1,e2,e3,x4.trans es,hV3]) ((zmk w' hv (j:=i+1) (by omega) (by omega) (by omega) (by omega) (by omega) hBw rfl ho1 (λe=>by rw[hg3]at e;injection e with e;omega) (by omega)).mono ?_);rintro e W4 ⟨v',rfl,hR⟩;exact⟨_,rfl,_,rfl,⟨w',W4,hJ,⟨p1,p2,p3,q1,q2,q3,ep,eq,hR⟩,ze _ _⟩,hR.trd.mono λg _ hg=>by rw[hg3]at hg;injection hg with hg;omega⟩
  case o35=>
    refine LnOp.line 6 rfl rfl (λA va w' hF hT hJ hu hd=>?_);have x1:A.eval (.tmp 29)=va 9:=hT 29 9 (by simp) rfl;have x2:A.eval (.tmp 39)=va 19:=hT 39 19 (by simp) rfl;have x3:A.eval (.tmp 54)=va 34:=hT 54 34 (by simp) rfl;have hJc:Chn W1 (splR V1 V2 V3 n kd i m us1 us2 us3 cu1 cu2 cu3 (.slice Ak Lk Ck) (.slice Ac Lc Cc) (w.heap.size+1)) [va 34,va 33,va 32,va 27,va 19,va 9] w':=hJ;obtain⟨Wa,Wb,hJ1,⟨_,_,_,_,_,_,_,_,hRc⟩,_⟩:=hJc;obtain⟨_,_,hJ2,_⟩:=hJ1;obtain⟨_,_,hJ3,_⟩:=hJ2;obtain⟨_,_,hJ4,_⟩:=hJ3;obtain⟨_,_,hJ5,hRb,_⟩:=hJ4;obtain⟨_,_,_,hRa,_⟩:=hJ5;have ca:(va 9).cells=#[va 9]:=by
      obtain⟨_,_,e,_⟩:=RowQ.shape (zci.row hRa);rw[e];rfl
    have cb:(va 19).cells=#[va 19]:=by
      obtain⟨_,_,e,_⟩:=RowQ.shape (zci.row hRb);rw[e];rfl
    have cc:(va 34).cells=#[va 34]:=by
      obtain⟨_,_,e,_⟩:=hRc.1.shape;rw[e];rfl
    exact zfh ndS rfl x1 x2 x3 ca cb cc ⟨_,rfl,⟨w',w',hJ,⟨rfl,rfl⟩,ze _ _⟩,Trd.refl _ _⟩
  case o36=>
    refine LnOp.line 7 rfl rfl (λA va w' hF hT hJ hu hd=>?_);have e1:=hF 4 rfl;have x2:A.eval (.tmp 55)=va 35:=hT 55 35 (by simp) rfl;have hJ':Chn W1 (splR V1 V2 V3 n kd i m us1 us2 us3 cu1 cu2 cu3 (.slice Ak Lk Ck) (.slice Ac Lc Cc) (w.heap.size+1)) [va 35,va 34,va 33,va 32,va 27,va 19,va 9] w':=hJ;have hbx:=((hTr _ _ hJ').block (w.heap.size+1) bz.lt (by rintro⟨p,hp,hf⟩;rcases p with _|_|_|_|_|_|_|p;have:=l1 _ hf;omega;have:=l2 _ hf;omega;exact hf;exact hf;exact hf;have hf2:V3.ownBlock=Option.some (w.heap.size+1):=hf;rw[hg3]at hf2;injection hf2 with hf2;omega;exact hf;simp only[zI,zM]at hp;omega)).trans bz;have hJc:=hJ';obtain⟨Wa,Wb,hJ0,⟨eg,_⟩,_⟩:=hJc;obtain⟨_,_,hJ1,⟨_,_,_,_,_,_,_,_,hRc⟩,_⟩:=hJ0;obtain⟨_,_,hJ2,_⟩:=hJ1;obtain⟨_,_,hJ3,_⟩:=hJ2;obtain⟨_,_,hJ4,_⟩:=hJ3;obtain⟨_,_,hJ5,hRb,_⟩:=hJ4;obtain⟨_,_,_,hRa,_⟩:=hJ5;have ca:(va 9).oneCell'=true:=by
      obtain⟨_,_,e,_⟩:=RowQ.shape (zci.row hRa);rw[e];rfl
    have cb:(va 19).oneCell'=true:=by
      obtain⟨_,_,e,_⟩:=RowQ.shape (zci.row hRb);rw[e];rfl
    have cc:(va 34).oneCell'=true:=by
      obtain⟨_,_,e,_⟩:=hRc.1.shape;rw[e];rfl
    refine zcm rfl e1 (x2.trans eg) ca cb cc hbx (λw2 hg ht=>?_);exact⟨_,rfl,⟨w',w2,hJ,⟨ht,hg⟩,ze _ _⟩,Trd.ofGrown hg λg hk=>by injection hk with hk;omega⟩
  case fin=>
    intro vs1 W9 hJ hG;clear hG;have hJc:Chn W1 (splR V1 V2 V3 n kd i m us1 us2 us3 cu1 cu2 cu3 (.slice Ak Lk Ck) (.slice Ac Lc Cc) (w.heap.size+1)) [vs1 36,vs1 35,vs1 34,vs1 33,vs1 32,vs1 27,vs1 19,vs1 9] W9:=hJ;have hT9:=hTr _ _ hJc;obtain⟨Wg1,Wg2,hJ7,⟨ht,hgx⟩,hbz9⟩:=hJc;obtain⟨Wf1,Wf2,hJ6,⟨eg,ef⟩,hbf⟩:=hJ7;obtain⟨We1,We2,hJ5,⟨p1,p2,p3,q1,q2,q3,ep,eq,hRc⟩,hbe⟩:=hJ6;obtain⟨Wd1,Wd2,hJ4,⟨_,_,_,_,_,_,_,_,_,_,_,_,hbt,_⟩,hbd9⟩:=hJ5;obtain⟨Wq1,Wq2,hJ3,⟨qx,qy,qz,eqq,hNq⟩,hbq⟩:=hJ4;obtain⟨Wp1,Wp2,hJ2,⟨px,py,pz,epp,hNp⟩,hbp⟩:=hJ3;obtain⟨Wb1,Wb2,hJ1,hRb,hbb⟩:=hJ2;obtain⟨Wa1,Wa2,hJ0,hRa,hba⟩:=hJ1;subst ef;rw[ep]at epp;rw[eq]at eqq;injection epp with epp;injection eqq with eqq;simp only[Array.mk.injEq,List.cons.injEq,and_true]at epp eqq;obtain⟨rfl,rfl,rfl⟩:=epp;obtain⟨rfl,rfl,rfl⟩:=eqq;clear hJ hTr hRN hRK hQ1 hQ2 hQ3 ep eq;have qa0:Below W1.heap.size W1 Wa1:=hJ0;have ta:=hRa.trd;have tb:=hRb.trd;have tc:=hRc.trd;have tp:=hNp.ky.2.2;have tq:=hNq.ky.2.2;have tz:Trd (·=w.heap.size+1) Wg1 Wg2:=Trd.ofGrown hgx λg hk=>by injection hk with hk;exact hk.symm
    have Tg9:Trd (·=w.heap.size+1) We2 W9:=(Trd.of (F:=(·=w.heap.size+1)) (hbe.trans (hbf.mono hbe.size))).trans (tz.trans (Trd.of (F:=(·=w.heap.size+1)) hbz9) λ_ _ h=>h) λ_ _ h=>h
    have Tc9:Trd (λg=>V3.ownBlock=Option.some g\/g=w.heap.size+1) We1 W9:=(tc.mono λ_ _ h=>.inl h).trans Tg9 λ_ _ h=>.inr h
    have Tq9:Trd (λg=>V3.ownBlock=Option.some g\/g=w.heap.size+1) Wq2 W9:=(Trd.of (F:=λg=>V3.ownBlock=Option.some g\/g=w.heap.size+1) (hbq.trans ((hbt.trans (hbd9.mono hbt.size)).mono hbq.size))).trans Tc9 λ_ _ h=>h
    have Tp9:Trd (λg=>V3.ownBlock=Option.some g\/g=w.heap.size+1) Wp2 W9:=(Trd.of (F:=λg=>V3.ownBlock=Option.some g\/g=w.heap.size+1) (hbp.trans (tq.mono hbp.size))).trans Tq9 λ_ _ h=>h
    have Tb9:Trd (λg=>V3.ownBlock=Option.some g\/g=w.heap.size+1) Wb2 W9:=(Trd.of (F:=λg=>V3.ownBlock=Option.some g\/g=w.heap.size+1) (hbb.trans (tp.mono hbb.size))).trans Tp9 λ_ _ h=>h
    have Ta9:Trd (λg=>V2.ownBlock=Option.some g\/V3.ownBlock=Option.some g\/g=w.heap.size+1) Wa2 W9:=((Trd.of (F:=λg=>V2.ownBlock=Option.some g\/V3.ownBlock=Option.some g\/g=w.heap.size+1) hba).trans (tb.mono (F':=λg=>V2.ownBlock=Option.some g\/V3.ownBlock=Option.some g\/g=w.heap.size+1) λ_ _ h=>.inl h) λ_ _ h=>h).trans Tb9 λ_ _ h=>.inr h
    have sa0:=qa0.size;have sa:=ta.size;have sba:=hba.size;have sb:=tb.size;have sbb:=hbb.size;have sp:=tp.size;have sbp:=hbp.size;have sq:=tq.size;have sbq:=hbq.size;have sbt:=hbt.size;have sbd:=hbd9.size;have sc:=tc.size;have l3':∀g,V3.ownBlock=Option.some g->g<w.heap.size:=λg hg=>by rw[hg3]at hg;injection hg with hg;omega
    have ra:RowQ 23 1 W9 (vs1 9) _ _:=hRa.1.trd Ta9 λg hg=>by
      rintro(h1|h1|h1)
      · rcases hRa.2.2 with e|⟨g',e,hge⟩
        ·rw[e]at hg;exact n12 g hg h1
        ·rw[e]at hg;injection hg with hg;have:=l2 g h1;omega
      · rcases hRa.2.2 with e|⟨g',e,hge⟩
        ·rw[e]at hg;exact n13 g hg h1
        ·rw[e]at hg;injection hg with hg;have:=l3' g h1;omega
      · rcases hRa.2.2 with e|⟨g',e,hge⟩
        ·rw[e]at hg;have:=l1 g hg;omega
        ·rw[e]at hg;injection hg with hg;omega
    have rb:RowQ 102 1 W9 (vs1 19) _ _:=hRb.1.trd Tb9 λg hg=>by
      rintro(h1|h1)
      · rcases hRb.2.2 with e|⟨g',e,hge⟩
        ·rw[e]at hg;exact n23 g hg h1
        ·rw[e]at hg;injection hg with hg;have:=l3' g h1;omega
      · rcases hRb.2.2 with e|⟨g',e,hge⟩
        ·rw[e]at hg;have:=l2 g hg;omega
        ·rw[e]at hg;injection hg with hg;omega
    have rc:RowQ 46 3 W9 (vs1 34) _ _:=hRc.1.trd Tg9 λg hg h1=>by
      rcases hRc.2.2 with e|⟨g',e,hge⟩
      ·rw[e]at hg;have:=l3' g hg;omega
      ·rw[e]at hg;injection hg with hg;omega
    have np:∀(x:Value),(∀g,x.ownBlock=Option.some g->Wp1.heap.size<=g)->∀g,x.ownBlock=Option.some g->¬(V3.ownBlock=Option.some g\/g=w.heap.size+1):=λx hx g hg=>by
      have:=hx g hg;rintro(h1|h1);·have:=l3' g h1;omega
      ·omega
    have nq':∀(x:Value),(∀g,x.ownBlock=Option.some g->Wq1.heap.size<=g)->∀g,x.ownBlock=Option.some g->¬(V3.ownBlock=Option.some g\/g=w.heap.size+1):=λx hx=>np x λg hg=>by have:=hx g hg;omega
    have hF:∀g,g∈F↔0<(zak V1).count g+(zak V2).count g+(zak V3).count g+(FA.count g+((zak K1).count g+(zak K2).count g+(zak K3).count g+Fkk.count g)+FB.count g):=λg=>by
      rw[<-zP,p.fe,hF3,pk.fe,hV1,hV2,hV3,hK1,hK2,hK3];simp only[yX]
    have fpF:∀g,g<w.heap.size->(∃p,p<[vs1 36,vs1 35,vs1 34,vs1 33,vs1 32,vs1 27,vs1 19,vs1 9].length/\fpS V1 V2 V3 (w.heap.size+1) p g)->0<(zak V1).count g+(zak V2).count g+(zak V3).count g:=by
      rintro g hlt⟨p,_,hf⟩;rcases p with _|_|_|_|_|_|_|_|p
      ·have:=(zan V1 g).2.2 hf;omega
      ·have:=(zan V2 g).2.2 hf;omega
      ·exact hf.elim
      ·exact hf.elim
      ·exact hf.elim
      ·have:=(zan V3 g).2.2 hf;omega
      ·exact hf.elim
      · have h9:g=w.heap.size+1:=hf
        omega
      ·exact hf.elim
    have T9:Trd (·∈F) w W9:=(Trd.of (F:=(·∈F)) q0).trans hT9 λg hlt hf=>by
      rw[hF];have:=fpF g hlt hf;omega
    have hD9:∀g,D g->W9.heap[g]?=w.heap[g]?:=λg hd=>T9.block g (h.data g hd) λhm=>h.free g hm hd
    have keepF:∀g,g<w.heap.size->(zak V1).count g+(zak V2).count g+(zak V3).count g=0->W9.heap[g]?=w.heap[g]?:=λg hlt h0=>by
      refine(hT9.block g (by omega) λhf=>?_).trans (q0.block g hlt);have:=fpF g hlt hf;omega
    have hlF:∀g,g∈F->g<w.heap.size:=h.lt;have kpA:∀g∈FA,W9.heap[g]?=w.heap[g]?:=λg hg=>by
      have h1:=zP.2 hg;exact keepF g (hlF g ((hF g).2 (by omega))) (by have:=cnt g;omega)
    have kpB:∀g∈FB,W9.heap[g]?=w.heap[g]?:=λg hg=>by
      have h1:=zP.2 hg;exact keepF g (hlF g ((hF g).2 (by omega))) (by have:=cnt g;omega)
    have kpK:∀g∈Fkk,W9.heap[g]?=w.heap[g]?:=λg hg=>by
      have h1:=zP.2 hg;exact keepF g (hlF g ((hF g).2 (by omega))) (by have:=cnt g;omega)
    have hmle:m+1<=kd.keys.length:=hmk;obtain⟨G1,G2,hG,og1,og2⟩:=owns_two (zbh _ pk.o3 kpK hD9) (min (m+1) kd.kids.length) (Nat.min_le_right _ _);have hnkd:min (kd.keys.length+1) kd.kids.length=kd.kids.length:=by
      rcases hkn with h0|h0
      ·rw[h0];simp
      ·omega
    have op:=zpt (f:=0) (t:=m) pk.l1 pk.l2 (hNp.ky.1.trd Tp9 (np _ hNp.ky.2.1)) (hNp.ch.1.trd Tp9 (np _ hNp.ch.2.1)) (hNp.kd.1.trd Tp9 (np _ hNp.kd.2.1)) (G:=G1) (by rw[Nat.zero_min,xH,wq,wq];exact og1) hD9;have oq:=zpt (f:=m+1) (t:=kd.keys.length) pk.l1 pk.l2 (hNq.ky.1.trd Tq9 (nq' _ hNq.ky.2.1)) (hNq.ch.1.trd Tq9 (nq' _ hNq.ch.2.1)) (hNq.kd.1.trd Tq9 (nq' _ hNq.kd.2.1)) (G:=G2) (by rw[hnkd,yq (zf _),yq (by rw[zgt pk.o3];exact zf _)];exact og2) hD9;have e0:zbk n i=.mk (n.keys.take i++[kd.keys[m]'hmk]++n.keys.drop i) (n.chains.take i++[kd.chains[m]'hmc]++n.chains.drop i) (n.kids.take i++[zbu kd 0 m,zbu kd (m+1) kd.keys.length]++n.kids.drop (i+1)):=by
      have g1:kd.keys.getD m []=kd.keys[m]'hmk:=by rw[yu,zB hmk];rfl
      have g2:kd.chains.getD m []=kd.chains[m]'hmc:=by rw[yu,zB hmc];rfl
      unfold zbk;rw[<-HK.out,<-HM.out,g1,g2]
    have e3a:us3.take (i*3)=usA:=by rw[hus3,<-hlA,zG,List.take_left]
    have e3b:us3.drop ((i+1)*3)=usB:=by
      rw[hus3,show(i+1)*3=(usA++[Value.slice (Option.some ⟨gk1,0,none⟩) kd.keys.length ck1,.slice (Option.some ⟨gk2,0,none⟩) kd.chains.length ck2,.slice ak3 kd.kids.length ck3]).length by rw[zC,hlA,zT];rfl,wO]
    rw[e3a,e3b]at rc;have two:zbf D W9 [zbu kd 0 m,zbu kd (m+1) kd.keys.length] ([p1,p2,p3]++[q1,q2,q3]) ((zak p1++zak p2++zak p3++G1)++(zak q1++zak q2++zak q3++G2)):=by
      rw[zbf];exact⟨_,_,_,_,rfl,rfl,op,zf3.2 oq⟩
    have hown:OwnN D W9 (zbk n i) [vs1 9,vs1 19,vs1 34] (zak (vs1 9)++zak (vs1 19)++zak (vs1 34)++(FA++((zak p1++zak p2++zak p3++G1)++(zak q1++zak q2++zak q3++G2))++FB)):=by
      rw[e0];refine Pts.own (us1:=us1.take (i*1)++[.slice Ak Lk Ck]++us1.drop (i*1)) (us2:=us2.take (i*1)++[.slice Ac Lc Cc]++us2.drop (i*1)) (us3:=usA++[p1,p2,p3,q1,q2,q3]++usB) (F3:=FA++((zak p1++zak p2++zak p3++G1)++(zak q1++zak q2++zak q3++G2))++FB) ⟨?_,?_,?_,?_,?_,?_,rfl⟩
      · have e:(n.keys.take i++[kd.keys[m]'hmk]++n.keys.drop i).length=n.keys.length+1:=by
          simp only[zC,zp,zF,zI,zM];omega
        show RowQ _ _ _ _ (n.keys.take i++[kd.keys[m]'hmk]++n.keys.drop i).length _
        rw[e];exact ra
      ·exact(((Flat.take p.l1 i).append (Flat.single (E:=Elt.bytes) ⟨_,rfl,hkr⟩)).append (Flat.drop p.l1 i)).keep hD9
      · have e:(n.chains.take i++[kd.chains[m]'hmc]++n.chains.drop i).length=n.chains.length+1:=by
          simp only[zC,zp,zF,zI,zM];omega
        show RowQ _ _ _ _ (n.chains.take i++[kd.chains[m]'hmc]++n.chains.drop i).length _
        rw[e];exact rb
      ·exact(((Flat.take p.l2 i).append (Flat.single (E:=Elt.list Elt.ver) ⟨_,rfl,hcr⟩)).append (Flat.drop p.l2 i)).keep hD9
      · have e:(n.kids.take i++[zbu kd 0 m,zbu kd (m+1) kd.keys.length]++n.kids.drop (i+1)).length=i+2+(n.kids.length-(i+1)):=by
          simp only[zC,zp,zF,zI,zM];omega
        show RowQ _ _ _ _ (n.kids.take i++[zbu kd 0 m,zbu kd (m+1) kd.keys.length]++n.kids.drop (i+1)).length _;rw[e];exact rc
      ·exact zb7 (zb7 (zbh _ oA kpA hD9) two) (zbh _ oB kpB hD9)
    have hfin:=NdAt.to (Q:=(·=zbk n i)) h T9 hown rfl (λg=>by
      have c0:=cnt g;have hFg:=hF g;have hlg:0<F.count g->g<w.heap.size:=λhp=>hlF g (zP.1 hp)
      have hFc:0<F.count g↔0<(zak V1).count g+(zak V2).count g+(zak V3).count g+(FA.count g+((zak K1).count g+(zak K2).count g+(zak K3).count g+Fkk.count g)+FB.count g):=by rw[zP];exact hFg
      have ca:=hRa.cnt g;have cb:=hRb.cnt g;have cc:=hRc.cnt g;have cp:=zbw.1 hNp.nd g;have cq:=zbw.1 hNq.nd g;have cG:Fkk.count g=G1.count g+G2.count g:=by rw[hG,yX]
      have bp1:=λhp=>And.intro (hNp.ky.2.1 g ((zan p1 g).2.1 hp)) (hNp.ky.1.lt ((zan p1 g).2.1 hp))
      have bp2:=λhp=>And.intro (hNp.ch.2.1 g ((zan p2 g).2.1 hp)) (hNp.ch.1.lt ((zan p2 g).2.1 hp))
      have bp3:=λhp=>And.intro (hNp.kd.2.1 g ((zan p3 g).2.1 hp)) (hNp.kd.1.lt ((zan p3 g).2.1 hp))
      have bq1:=λhp=>And.intro (hNq.ky.2.1 g ((zan q1 g).2.1 hp)) (hNq.ky.1.lt ((zan q1 g).2.1 hp))
      have bq2:=λhp=>And.intro (hNq.ch.2.1 g ((zan q2 g).2.1 hp)) (hNq.ch.1.lt ((zan q2 g).2.1 hp))
      have bq3:=λhp=>And.intro (hNq.kd.2.1 g ((zan q3 g).2.1 hp)) (hNq.kd.1.lt ((zan q3 g).2.1 hp))
      simp only[yX]at cp cq⊢;rcases zA g w.heap.size with hlt|hge
      ·omega
      · have z1:F.count g=0:=by
          rcases yx (F.count g)with h0|h0
          ·exact h0
          · have:=hlg h0;omega
        have z2:=hFc;rw[z1]at z2;omega)
    simp only[zaj];go_simp;go_wp2_with fail;obtain⟨fs,hu,_⟩:=ndS.hu;have ht9:=ht.below hbz9 ht.lt;exact zD (v:=.agg #[vs1 9,vs1 19,vs1 34]) (by simp[results,Tryz.results140,go_sem,loadVar,isAgg,zr hu,zaa ndS.hs,loadCellsFrom,Addr.add,ht9.cell0,ht9.cell1,ht9.cell2]) rfl hfin
end Go.Proofs.YtkobhdllagbkhaaGreat
