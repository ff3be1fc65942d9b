/-
  TEXTS OF ONE PROOF, merged.
-/
import Derived.Carry
import Derived.Maps.Own
import Derived.Maps.Range
import Derived.Maps.Views
import Derived.Test.YtkobhdllagbkhaaGreatKn12
namespace Go.Proofs.YtkobhdllagbkhaaGreat
open Go.RowKit Go.Shelf Go.Maps Go.ChangeShapes Go.WideShapes Go.ChangeAt Go.Deep Go.Joins
set_option maxRecDepth 100000
set_option maxHeartbeats 32000000
def mapT(ws:List Wr):Nat->DataW Unit
 |0=>.map []
 |i+1=>match ws[i]? with
  |some w=>(mapT ws i).put (klP w.plc) (.lit (.int .i64 (i:Nat)))
  |none=>mapT ws i
theorem zmw{ws:List Wr}{i:Nat}{w:Wr}(h:ws[i]?=some w):mapT ws (i+1)=(mapT ws i).put (klP w.plc) (.lit (.int .i64 (i:Nat))):=by simp only[mapT,h]
theorem zf4 (ws:List Wr):∀i,IsMap (mapT ws i)
 |0=>isMap_empty
 |i+1=>by
  unfold mapT;cases h:ws[i]? with
  |some w=>exact(zf4 ws i).put _ _
  |none=>exact zf4 ws i
theorem zt7(p:Plc):WideAt.IsKeyLit (klP p):=trivial
def AtT (ws:List Wr)(i:Nat)(p:Plc):Prop:=
 ((∀j w,j<i->ws[j]?=some w->w.plc≠p)/\has (mapT ws i) (klP p)=false)\/
 ∃j w,j<i/\ws[j]?=some w/\w.plc=p/\(∀j' w',j<j'->j'<i->ws[j']?=some w'->w'.plc≠p)/\has (mapT ws i) (klP p)=true/\∀z,(mapT ws i).atKey (klP p) z=.lit (.int .i64 (j:Nat))
theorem atT{ws:List Wr}(hw:∀w∈ws,wfP w.plc){p:Plc}(hp:wfP p):∀i,i<=ws.length->AtT ws i p
  |0,_=>.inl ⟨λj w h=>by omega,rfl⟩
  |i+1,hi=>by
    obtain⟨w,hwi⟩:∃w,ws[i]?=some w:=⟨_,zB (by omega)⟩;have hm:=zmw hwi;have hwf:=hw w (xq hwi);by_cases e:w.plc=p
    · refine .inr ⟨i,w,xX i,hwi,e,λj' w' h1 h2=>by omega,?_,λz=>?_⟩
      · rw[hm,e];exact has_put_same (zf4 ws i) (zt7 p) _
      · rw[hm,e];exact atKey_put_same (zf4 ws i) (zt7 p) _ z
    · have hne:klP p≠klP w.plc:=λh=>e (zt8 hp hwf h).symm
      rcases atT hw hp i (by omega)with⟨h1,h2⟩|⟨j,v,h1,h2,h3,h4,h5,h6⟩
      · refine .inl ⟨λj v hj hv=>?_,by rw[hm,has_put_other hne];exact h2⟩
        by_cases ej:j=i
        ·subst ej;rw[hwi]at hv;injection hv with hv;subst hv;exact e
        ·exact h1 j v (by omega) hv
      · refine .inr ⟨j,v,by omega,h2,h3,λj' w' a b hv=>?_,by rw[hm,has_put_other hne];exact h5,λz=>by rw[hm,atKey_put_other hne];exact h6 z⟩
        by_cases ej:j'=i;·subst ej;rw[hwi]at hv;injection hv with hv;subst hv;exact e
        ·exact h4 j' w' a (by omega) hv
theorem zp4{ws:List Wr}(hw:∀w∈ws,wfP w.plc){p:Plc}(hp:wfP p):has (mapT ws ws.length) (klP p)=true↔∃w∈ws,w.plc=p:=by
  rcases atT hw hp ws.length (zf _)with⟨h1,h2⟩|⟨j,v,h1,h2,h3,_,h5,_⟩
  · rw[h2]
    constructor;· intro h;cases h
    · rintro⟨w,hw,e⟩
      obtain⟨j,hj,e2⟩:=yy.1 hw;exact absurd e (h1 j w hj (by rw[zB hj,e2]))
  ·exact⟨λ_=>⟨v,xq h2,h3⟩,λ_=>h5⟩
theorem ztj{ws:List Wr}(hw:∀w∈ws,wfP w.plc){qs:List Plc}(h:PlcS (mapT ws ws.length) qs):qs=(zcy ws).map Wr.plc:=by
 refine zof h.1 λp=>⟨λhp=>(zp4 hw (h.2.1 p hp)).1 ((h.2.2.1 p (h.2.1 p hp)).1 hp),?_⟩
 rintro⟨w,hm,rfl⟩;exact(h.2.2.1 _ (hw w hm)).2 ((zp4 hw (hw w hm)).2 ⟨w,hm,rfl⟩)
theorem last_at{ws:List Wr}(hw:∀w∈ws,wfP w.plc){k:Nat}(hk:k<(zcy ws).length):∃j:Nat,ws[j]?=some (zcy ws)[k]/\∀z,(mapT ws ws.length).atKey (klP (zcy ws)[k].plc) z=.lit (.int .i64 (j:Nat)):=by
  have hm:=zp6 (zL hk);rcases atT hw (hw _ hm) ws.length (zf _)with⟨h1,_⟩|⟨j,v,h1,h2,h3,h4,_,h6⟩
  · obtain⟨j,hj,e2⟩:=yy.1 hm
    exact absurd rfl (h1 j _ hj (by rw[zB hj,e2]))
  · refine⟨j,?_,h6⟩
    have hf:=zr9 h2 λj' w' h7 h8=>by rw[h3];exact h4 j' w' h7 (yI.1 h8).1 h8
    rw[h3,<-zgw,zft totP (zgv ws) (zL hk)]at hf;rw[hf];exact h2
theorem size_le{P:Program}{w:World}{k:TypeId}{R:Value->Option (DataW Unit×List MemPlace)}{b n:Nat}{D:DataW Unit}(h:w.ownsMap P k R b n D):Maps.size D<=n:=by
 obtain⟨es,clock,hb,F,hs,rfl⟩:=h;show(List.foldr DataW.insert [] _).length<=n;rw[length_sorted];simpa using hs
theorem zqz{H:Type}{P:Program}{k e t:TypeId}{b n:Nat}{D:DataW H}{o:Oper}{a:Act}{w:World}{Kk:Act->World->Prop}{Q:Exit->Act->World->Prop}{m x:Operand}{q:IntKind}{key:Value}{kl:Lit}{c:Int}(hown:w.ownsMap P k (plainElem P e) b n D)(K:Keyed P k)(ht:P.underlying t=some (.map k e))(he:P.underlying e=some (.int q))(hz:(zeroValue e).run P w=.ok (.int q 0) w)(ho:o.op=.lookup t m x false)(hm:a.eval m=.map (some b))(hx:a.eval x=key)(hkey:keyOf P k key=some kl)(hc:D.atKey kl (.lit (.int q 0))=.lit (.int q c))(h:Kk (a.put o.dst (.int q c)) w):o.wp P a w Kk Q:=by
 obtain⟨c',hrun,hat,_⟩:=hown.lookup_int K ht he hz hkey;rw[hc]at hat;injection hat with hat;injection hat with _ hat;subst hat;unfold Oper.wp;simp[execOp,ho,hm,hx,hrun,Result.andThen];exact h
theorem rowP_at{w:World}{base n c:Nat}{a:Option Addr}{ps:List Plc}(h:w.ownsRow base 180 2 (.slice a n c) n (ps.flatMap za0))(hn:n=ps.length){k:Nat}(hk:k<ps.length):∃g,g<w.heap.size/\a=some ⟨g,0,none⟩/\w.cell? ⟨g,k*2,none⟩=some (.int .i64 ps[k].table)/\w.cell? ⟨g,k*2+1,none⟩=some (.string (zap ps[k].key)):=by
  rcases h.2 with⟨e,h0⟩|⟨g,cap,cur,e,_,hb,h1,h2,h3,h4⟩
  ·omega
  · injection e with e _ _
    have hc:∀j,j<n*2->w.cell? ⟨g,j,none⟩=(ps.flatMap za0)[j]?:=λj hj=>by
      have h5:(cur.toList.take (n*2))[j]?=(ps.flatMap za0)[j]?:=by rw[h4]
      rw[wY hj]at h5;simp only[World.cell?,hb];simp only[Option.isSome_none,zY,zW];rw[<-yF,h5]
    refine⟨g,(zJ.1 hb).1,e,?_,?_⟩;·rw[hc _ (by omega),zgz,show k*2/2=k by omega,show k*2%2=0 by omega,zB hk];rfl
    ·rw[hc _ (by omega),zgz,show(k*2+1)/2=k by omega,show(k*2+1)%2=1 by omega,zB hk];rfl
theorem zu6(w:World){S:Nat->Prop}{v:Value}{d:Dl}(h:RdDl S w v d):Calls Tryz.prog 127 #[v] w (WsEnd w (ze5 d)):=by
  have hd:=h;obtain⟨a,c,a2,c2,rfl,hw,hm⟩:=h;obtain⟨W0,hW⟩:∃W,W=w.alloc (.cells #[.slice a d.writes.length c,.slice a2 d.marks.length c2] 41):=⟨_,rfl⟩;have q:Below w.heap.size w W0:=by rw[hW];exact(ze _ _).alloc (zf _) _
  have bn:BoxN W0 w.heap.size 41 [.slice a d.writes.length c,.slice a2 d.marks.length c2]:=by rw[hW];exact BoxN.new _ _ _
  have hmm:=@run_makeMap Tryz.prog;have eA:∀args w,(callFunc 90 args).run Tryz.prog w=.ok (.enter 90 args) w:=enters_of Tryz.func90 (by kernel_rfl) rfl;go_enter Tryz.func127,Tryz.ntmps127;go_upto_region 1 with(fail);rw[<-hW];clear hW;have b0:=bn.cell (i:=0) rfl;have b1:=bn.cell (i:=1) rfl;go_wp2_with fail;refine(zd7 W0 (hd.below q)).mono ?_;rintro e w0 ⟨rfl,hb0⟩;replace q:=q.trans (hb0.mono q.size);replace bn:=bn.below hb0 bn.lt;clear b0 b1 hb0;by_cases hok:okD d;case neg=>
    have dok:decide (okD d)=false:=zj hok;have HK:=Lib.hid (show ze5 d=[]by unfold ze5;rw[zh hok]);clear hok;go_wp2_with fail;go_ret;rw[HK.out];exact⟨none,0,rfl,OwnL.nil _ _ _ _ _,q⟩
  case pos=>
  have dok:decide (okD d)=true:=zk hok;have hl20:d.writes.length<=20:=hok.1;have hwf:∀x∈d.writes,wfP x.plc:=λx hx=>by
    obtain⟨h1,h2,h3,_⟩:=hok.2.2.1 x hx;exact⟨by show W64 x.table;unfold W64;omega,by show x.key.length<=maxLen;unfold maxLen;omega⟩
  have hsm:=Lib.hid hok.2.2.1;have HK:=Lib.hid (show ze5 d=zcy d.writes by unfold ze5;rw[zi hok]);replace hok:=Lib.hid hok;go_upto_region 4 with(fail);have hown0:=World.ownsMap_made w0 Tryz.prog 180 (plainElem (H:=Unit) Tryz.prog 3);obtain⟨w1,hw1⟩:∃w1,w1=w0.alloc (.map #[] 0):=⟨_,rfl⟩;rw[<-hw1]at hown0⊢;have hb1:Below w0.heap.size w0 w1:=by rw[hw1];exact(ze _ _).alloc (zf _) _
  clear hw1 hmm;obtain⟨mb,hmb⟩:∃mb,mb=w0.heap.size:=⟨_,rfl⟩;rw[<-hmb]at hown0⊢;have hmw:w.heap.size<mb:=by have:=bn.lt;omega
  replace bn:=bn.below hb1 bn.lt;replace q:=q.trans (hb1.mono q.size);clear hb1 hmb;have b0:=bn.cell (i:=0) rfl;go_upto_region 5 with(fail);clear b0;go_loopw [16](λiv wr=>∃i:Nat,iv=.int .i64 i/\i<=d.writes.length/\wr.ownsMap Tryz.prog 180 (plainElem Tryz.prog 3) mb i (mapT d.writes i)/\BoxN wr w.heap.size 41 [.slice a d.writes.length c,.slice a2 d.marks.length c2]/\Below w.heap.size w wr)(λi _=>d.writes.length-(intOf i).toNat)
  case atStart=>exact⟨0,rfl,zH _,hown0,bn,q⟩
  case round=>
    clear q bn hown0;obtain⟨i,rfl,hil,hown,bn,q⟩:=hrel;rcases zA i d.writes.length with hlt|hge
    · obtain⟨ab,ao,XA,XC,XB,XD,rfl,hxb0,x0,x1,x2,x3,hxk,hxv,hxt⟩:=(hw.below q).wr i hlt
      obtain⟨x,ex⟩:∃x,x=d.writes[i]:=⟨_,rfl⟩;have hxwf:wfP x.plc:=ex▸hwf _ (zL hlt);have hms:=Lib.hid (zmw (zB hlt));rw[<-ex]at x0 x1 x2 x3 hxk hxv hxt hms;have hkey:=zgx hxwf;dsimp only[valP]at hkey;clear ex hxb0;go_upto_region 7 with(first|(refine za2 (vs:=[.int .i64 0,.slice none 0 0,.bool false,.slice none 0 0]) (by kernel_rfl) rfl rfl ?_;intro wa hba hBa)|(refine zab (us:=[.int .i64 x.table,.slice XA x.key.length XC,.bool x.gone,.slice XB x.val.length XD]) (by kernel_rfl) rfl rfl rfl rfl rfl rfl hBa rfl ?_;intro W3 hgw hX)|fail);go_simp;have hbw:Below wr.heap.size wr W3:=hba.grown hgw hba.size λk hk=>by injection hk with hk;omega
      have q3:=q.trans (hbw.mono q.size);have hxw:RdWr S W3 (.agg #[.int .i64 x.table,.slice XA x.key.length XC,.bool x.gone,.slice XB x.val.length XD]) x:=RdWr.below ⟨XA,XC,XB,XD,rfl,hxk,hxv,hxt⟩ hbw;replace bn:=bn.below hbw bn.lt;have hml:=hown.lt;replace hown:=hown.kept (zc6 hbw) (by simp);clear x0 x1 x2 x3 hxk hxv hxt hba hBa hgw hbw;have x0:=hX.cell (i:=0) rfl;have x1:=hX.cell (i:=1) rfl;have x2:=hX.cell (i:=2) rfl;have x3:=hX.cell (i:=3) rfl;go_wp2_with fail;refine(zj6 W3 hxw).mono ?_;rintro e w4⟨rfl,hb4⟩;replace bn:=bn.below hb4 bn.lt;replace hown:=hown.kept (zc6 hb4) (by simp);have q4:=q3.trans (hb4.mono q3.size);clear x0 x1 x2 x3 hX hxw;go_wp2_with(first
        |(at_mapUpdate;refine wpList_mapUpdate_own _ rfl _ _ _ 185 rfl 180 3 zp9 Tryz.underlying185 _ mb i _ rfl hown (by unfold maxLen;omega) _ _ _ rfl rfl hkey _ [] (plainElem_int Tryz.underlying3 (wf_W64 (by unfold W64;omega))) ?_;intro w5 hown5 hg5)
        |fail)
      go_roundw;case rel=>
        rw[<-hms.out]at hown5;exact⟨i+1,by go_num,by omega,hown5,bn.other hg5 (by simp;omega),q4.grown hg5 q4.size λk hk=>by injection hk with hk;omega⟩
      case measure=>simp[intOf];omega
    · obtain rfl:i=d.writes.length:=by omega
      clear hge hil;have hsz20:=size_le hown;have b0:=bn.cell (i:=0) rfl;have hmlt:=hown.lt;go_wp2_with fail;refine(zua wr mb).mono ?_;rintro e w4⟨rfl,hw4⟩;have hb4:Below wr.heap.size wr w4:=by rw[hw4];exact(ze _ _).alloc (zf _) _
      have hc4:w4.cell? ⟨wr.heap.size,0,none⟩=some (.map (some mb)):=by rw[hw4];exact(Boxed.new wr _ _).cell
      clear hw4 b0;replace hown:=hown.kept (zc6 hb4) (by simp);replace bn:=bn.below hb4 bn.lt;have q4:=q.trans (hb4.mono q.size);have hst:=zn1 w4 wr.heap.size mb d.writes.length (mapT d.writes d.writes.length) hc4 hown (by omega);clear hb4 hc4 q;go_wp2_with fail;refine hst.mono ?_;rintro e w5 ⟨v5,qs,rfl,hqs,hrow,hb5⟩;clear hst;have hqe:=ztj hwf hqs;clear hqs;subst hqe;replace hown:=hown.kept (zc6 hb5) (by simp);replace bn:=bn.below hb5 bn.lt;have q5:=q4.trans (hb5.mono q4.size);have hml5:=hown.lt;clear hb5;obtain⟨n5,hn5⟩:∃n5,n5=((zcy d.writes).map Wr.plc).length:=⟨_,rfl⟩;have hn5':n5=(zcy d.writes).length:=by rw[hn5,zX]
      rw[<-hn5]at hrow;obtain⟨a5,c5,rfl⟩:∃a c,v5=.slice a n5 c:=by
        rcases hrow.2 with⟨rfl,h0⟩|⟨g,cap,cur,rfl,_⟩
        ·rw[h0];exact⟨none,0,rfl⟩
        ·exact⟨_,_,rfl⟩
      have hrc:=Lib.hid (λk (hk:k<(zcy d.writes).length)=>rowP_at hrow hn5 (k:=k) (by rw[zX];exact hk));clear hrow hn5;replace hn5':=Lib.hid hn5';have hl5:n5<=20:=by have:=zp7 d.writes;have:=hn5'.out;omega
      go_upto_region 11 with(fail);go_loopw [6,30](λov iv wr=>∃(k:Nat) (ad:Option Addr) (ko:Nat),iv=.int .i64 k/\k<=n5/\ov=.slice ad ((zcy d.writes).take k).length ko/\OwnL Elt.wr 62 w5.heap.size w5.heap.size wr (.slice ad ((zcy d.writes).take k).length ko) ((zcy d.writes).take k)/\Below w5.heap.size w5 wr)(λ_ i _=>n5-(intOf i).toNat)
      case atStart=>exact⟨0,none,0,rfl,zH _,rfl,OwnL.nil _ _ _ _ _,ze _ _⟩
      case round=>
        obtain⟨k,ad,ko,rfl,hkl,rfl,hO,q6⟩:=hrel;rename World=>w6
        rcases zA k n5 with hlt|hge
        · have hkL:k<(zcy d.writes).length:=by have:=hn5'.out;omega
          obtain⟨g,hg5,ea5,p0,p1⟩:=hrc.out k hkL;subst ea5;obtain⟨j,hj,hat⟩:=last_at hwf hkL;have hjl:j<d.writes.length:=(yI.1 hj).1;have hyj:d.writes[j]=(zcy d.writes)[k]:=(yI.1 hj).2;obtain⟨hm1,hm2,hm3,hm4,_⟩:=hsm.out _ (zL hjl);have hywf:=hwf _ (zL hjl);obtain⟨ab,ao,YA,YC,YB,YD,rfl,hyb,y0,y1,y2,y3,hyk,hyv,hyt⟩:=hw.fit.wr j hjl;have hsn:=Lib.hid (show(zcy d.writes).take (k+1)=(zcy d.writes).take k++[d.writes[j]]by rw[yZ hkL,hyj]);rw[wo,<-hyj]at p0 p1;rw[<-hyj]at hat;obtain⟨y,ey⟩:∃y,y=d.writes[j]:=⟨_,rfl⟩;obtain⟨xs,exs⟩:∃xs,xs=(zcy d.writes).take k:=⟨_,rfl⟩;have hxl:xs.length<=20:=by rw[exs,zp];omega
          rw[<-ey]at y0 y1 y2 y3 hyk hyv hyt hm3 hm4 hywf hsn hat p0 p1;rw[<-exs]at hO hsn;rw[<-exs];have hkey:=zgx hywf;dsimp only[valP]at hkey;simp only[Wr.plc]at p0 p1 hkey;replace hat:=hat (.lit (.int .i64 0));clear ey exs hj hyj hm1 hm2 hywf;replace p0:=(q6.cell (p:=⟨g,_,none⟩) hg5).trans p0;replace p1:=(q6.cell (p:=⟨g,_,none⟩) hg5).trans p1;go_upto_region 13 with(first|(refine za2 (vs:=[.int .i64 0,.string (zap [])]) (by kernel_rfl) rfl rfl ?_;intro wa hba hBa)|(refine zab (us:=[.int .i64 y.table,.string (zap y.key)]) (by kernel_rfl) rfl rfl rfl rfl rfl rfl hBa rfl ?_;intro W hgw hXW)|fail);go_simp;have hz56:=q6.size;have hbw:Below w6.heap.size w6 W:=hba.grown hgw hba.size λk hk=>by injection hk with hk;omega
          have hzw:=hbw.size;have q7:=q6.trans (hbw.mono q6.size);have qW:Below w.heap.size w W:=q5.trans (q7.mono q5.size);have hbn5:=bn.lt;have bnW:=bn.below q7 bn.lt;have hownW:=hown.kept (zc6 q7) (by simp);have hrr:∀k,Value.ownBlock (.slice ad xs.length ko)=some k->w5.heap.size<=k/\k<w6.heap.size:=λk hk=>hO.block_lt k hk
          have hrW:∀k,Value.ownBlock (.slice ad xs.length ko)=some k->k<W.heap.size:=λk hk=>by have:=hrr k hk;omega
          have hS:∀k,(λ_=>False) k->some k≠Value.ownBlock (.slice ad xs.length ko):=λ_ h=>h.elim
          have hrS:∀k,Value.ownBlock (.slice ad xs.length ko)=some k->¬(S k/\k<w.heap.size):=λk hk h2=>by have:=hrr k hk;omega
          have hxr:Value.ownBlock (.slice ad xs.length ko)≠some w6.heap.size:=λe=>by have:=hrr _ e;omega
          have hdr:Value.ownBlock (.slice ad xs.length ko)≠some w.heap.size:=λe=>by have:=hrr _ e;omega
          have hmr:some mb≠Value.ownBlock (.slice ad xs.length ko):=λe=>by have:=hrr _ e.symm;omega
          have har:some ab≠Value.ownBlock (.slice ad xs.length ko):=λe=>by have:=hrr _ e.symm;have:=hyb.2;omega
          have habW:ab<W.heap.size:=by have:=qW.size;have:=hyb.2;omega
          replace hO:=hO.below hbw;replace y0:=(qW.cell (p:=⟨ab,_,none⟩) hyb.2).trans y0;replace y1:=(qW.cell (p:=⟨ab,_,none⟩) hyb.2).trans y1;replace y2:=(qW.cell (p:=⟨ab,_,none⟩) hyb.2).trans y2;replace y3:=(qW.cell (p:=⟨ab,_,none⟩) hyb.2).trans y3;replace hyk:=hyk.below qW;replace hyv:=hyv.below qW;have hlo:w5.heap.size<=W.heap.size:=q7.size;clear p0 p1 hba hBa hgw hbw hzw hz56 bn hown;refine zai (K:=λA B=>A.grownBy B (Value.ownBlock (.slice ad xs.length ko))) (by kernel_rfl) (by kernel_rfl) [10,11] (by kernel_rfl) [lEq (.slice ad xs.length ko),lEq (.pointer (some ⟨w.heap.size,0+0,none⟩)),lEq (.slice (some ⟨ab,ao,none⟩) d.writes.length c),lEq (.map (some mb)),lEq (.agg #[.int .i64 y.table,.string (zap y.key)]),lEq (.int .i64 (j:Nat)),lEq (.pointer (some ⟨ab,ao+j*4,none⟩)),lEq (.agg #[.int .i64 y.table,.slice YA y.key.length YC,.bool y.gone,.slice YB y.val.length YD]),aElt Elt.wr (W) (Value.ownBlock (.slice ad xs.length ko)) (λ_=>False) (y) hrW hS,aRow Elt.wr 62 (W) (Value.ownBlock (.slice ad xs.length ko)) (λ_=>False) (y) hrW hS,lAny,lAny] (ApJ Elt.wr 62 (w5.heap.size) (w5.heap.size) (Value.ownBlock (.slice ad xs.length ko)) (W) (xs) [y]) ApJ.below (show Below (W).heap.size (W) (W)from ze _ _)
            ⟨?o0,?o1,?o2,?o3,?o4,?o5,?o6,?o7,?o8,?o9,?o10,?o11,trivial⟩ ?fin
          case o0=>
            refine LnOp.sd (λA va w' k hF hT hk hJ hb hu hp hd=>?_);have e1:A.eval (.tmp 6)=.slice ad xs.length ko:=(hT 6 11 (by simp) rfl).trans (hu 1 11 6 (hb 1 11 rfl (by kernel_rfl)) rfl rfl);exact zu _ rfl ⟨_,rfl,e1,ze _ _⟩
          case o1=>
            refine LnOp.sd (λA va w' k hF hT hk hJ hb hu hp hd=>?_);have e1:=hF 1 rfl;exact zaf dlS rfl (e1) (by omega) ⟨_,rfl,rfl,ze _ _⟩
          case o2=>
            refine LnOp.sd (λA va w' k hF hT hk hJ hb hu hp hd=>?_);have e1:=(hT 35 1 (by simp) rfl).trans (hd ⟨1,.data⟩ (by simp) rfl rfl);have hJg:(W).grownBy w' (Value.ownBlock (.slice ad xs.length ko)):=ApJ.grown hJ;exact zae (e:=62) rfl e1 (by kernel_rfl) ((bnW.other hJg hdr).cell (i:=0) rfl) ⟨_,rfl,rfl,ze _ _⟩
          case o3=>
            refine LnOp.sd (λA va w' k hF hT hk hJ hb hu hp hd=>?_);have e1:=hF 3 rfl;exact zu _ rfl ⟨_,rfl,e1,ze _ _⟩
          case o4=>
            refine LnOp.sd (λA va w' k hF hT hk hJ hb hu hp hd=>?_);have e1:=hF 8 rfl;have hJg:(W).grownBy w' (Value.ownBlock (.slice ad xs.length ko)):=ApJ.grown hJ;exact ze0 plS rfl e1 ((hXW.other hJg hxr).cell (i:=0) rfl) ((hXW.other hJg hxr).cell (i:=1) rfl) ⟨_,rfl,rfl,ze _ _⟩
          case o5=>
            refine LnOp.sd (λA va w' k hF hT hk hJ hb hu hp hd=>?_);have e1:=(hT 37 3 (by simp) rfl).trans (hd ⟨3,.data⟩ (by simp) rfl rfl);have e2:=(hT 38 4 (by simp) rfl).trans (hd ⟨4,.data⟩ (by simp) rfl rfl);have hJg:(W).grownBy w' (Value.ownBlock (.slice ad xs.length ko)):=ApJ.grown hJ;exact zqz (hownW.kept hJg hmr) zp9 Tryz.underlying185 Tryz.underlying3 (by kernel_rfl) rfl e1 e2 hkey hat ⟨_,rfl,rfl,ze _ _⟩
          case o6=>
            refine LnOp.sd (λA va w' k hF hT hk hJ hb hu hp hd=>?_);have e1:=(hT 36 2 (by simp) rfl).trans (hd ⟨2,.data⟩ (by simp) rfl rfl);have e2:=(hT 39 5 (by simp) rfl).trans (hd ⟨5,.data⟩ (by simp) rfl rfl);exact zhn (e:=62) rfl (by kernel_rfl) (by kernel_rfl) (e1) (e2) rfl (by omega) ⟨_,rfl,rfl,ze _ _⟩
          case o7=>
            refine LnOp.sd (λA va w' k hF hT hk hJ hb hu hp hd=>?_);have e1:=(hT 40 6 (by simp) rfl).trans (hd ⟨6,.data⟩ (by simp) rfl rfl);have hJg:(W).grownBy w' (Value.ownBlock (.slice ad xs.length ko)):=ApJ.grown hJ;have hka:w'.heap[ab]?=W.heap[ab]?:=hJg.block ab habW har;exact zdj wrS rfl e1 ((zag hka _).trans y0) ((zag hka _).trans y1) ((zag hka _).trans y2) ((zag hka _).trans y3) ⟨_,rfl,rfl,ze _ _⟩
          case o8=>
            refine LnOp.sd (λA va w' k hF hT hk hJ hb hu hp hd=>?_);have e1:=(hT 41 7 (by simp) rfl).trans (hd ⟨7,.data⟩ (by simp) rfl rfl);have hJg:(W).grownBy w' (Value.ownBlock (.slice ad xs.length ko)):=ApJ.grown hJ;refine zah rfl eA (by simp only[zE,zn,zo,e1]) ((zf6 w' (x:=y) ⟨YA,YC,YB,YD,rfl,hyk.grownR hJg hrS,hyv.grownR hJg hrS,hyt⟩ (by omega) (by omega)).mono ?_);rintro e w2 ⟨v2,rfl,⟨ka,kc,va2,vc,rfl,hk2,hv2,ht2⟩,hb2⟩;exact⟨_,rfl,_,rfl,⟨wrC y _ _,rfl,_,_,rfl,hk2.weak (λk hk=>⟨.inr (zv hJg.size hk.1),hk.2⟩),hv2.weak (λk hk=>⟨.inr (zv hJg.size hk.1),hk.2⟩),ht2⟩,hb2⟩
          case o9=>
            refine LnOp.sd (λA va w' k hF hT hk hJ hb hu hp hd=>?_);have x1:A.eval (.tmp 42)=va 8:=hT 42 8 (by simp) rfl;have y1:=hd ⟨8,.data⟩ (by simp) rfl rfl;obtain rfl:k=0:=by have:=hb 0 10 rfl (by kernel_rfl);omega
            have hJ0:Below (W).heap.size (W) w':=hJ;obtain⟨us,eus,hR⟩:∃us:List Value,(va 8).cells=us.toArray/\Elt.R Elt.wr (zgy (λ_=>False) (W) w') w' (y) us:=y1;exact zba wrP rfl x1 eus (Elt.len _ hR) (by decide) (by decide) ⟨_,rfl,aRow.mk (hr:=hrW) (hS:=hS) hJ0.size hR,(ze _ _).alloc (zf _) _⟩
          case o10=>
            refine LnOp.line 0 rfl rfl (λA va w' hF hT hJ hu hd=>?_);have e1:=(hT 34 0 (by simp) rfl).trans (hd ⟨0,.data⟩ (by simp) rfl rfl);have x2:A.eval (.tmp 43)=va 9:=hT 43 9 (by simp) rfl;have y2:=hd ⟨9,.data⟩ (by simp) rfl rfl;exact wp_apv (hr:=hrW) (hS:=hS) wrP hJ rfl e1 x2 hO rfl y2 (λ_ h=>h.elim) hlo hlo (by omega) (λv' V' h1 h2=>⟨_,rfl,h1,h2⟩)
          case o11=>
            refine LnOp.line 1 rfl rfl (λA va w' hF hT hJ hu hd=>?_);have x1:A.eval (.tmp 44)=va 10:=hT 44 10 (by simp) rfl;have hJ':ApJ Elt.wr 62 (w5.heap.size) (w5.heap.size) (Value.ownBlock (.slice ad xs.length ko)) (W) (xs) [y] [va 10,A.eval (.tmp 44)] w':=⟨λu hu=>by obtain rfl:=yL.1 hu;exact x1,hJ.2⟩;exact yV _ rfl ⟨_,rfl,hJ',zdl (ze _ _) _⟩
          case fin=>
            intro vs1 W9 hJ hG;obtain⟨hsame,hg9,ad9,c9,e9,hO9⟩:=hJ;have ea:=hsame _ (yL.2 rfl);obtain⟨L9,hL9⟩:∃L9,L9=(xs++[y]).length:=⟨_,rfl⟩;rw[<-hL9]at e9 hO9;replace hL9:=Lib.hid hL9;have g0:vs1 0=.slice ad xs.length ko:=hG 0 (by decide) rfl;have g1:vs1 1=.pointer (some ⟨w.heap.size,0+0,none⟩):=hG 1 (by decide) rfl;have g2:vs1 2=.slice (some ⟨ab,ao,none⟩) d.writes.length c:=hG 2 (by decide) rfl;have g3:vs1 3=.map (some mb):=hG 3 (by decide) rfl;have g4:vs1 4=.agg #[.int .i64 y.table,.string (zap y.key)]:=hG 4 (by decide) rfl;have g5:vs1 5=.int .i64 (j:Nat):=hG 5 (by decide) rfl;have g6:vs1 6=.pointer (some ⟨ab,ao+j*4,none⟩):=hG 6 (by decide) rfl;have g7:vs1 7=.agg #[.int .i64 y.table,.slice YA y.key.length YC,.bool y.gone,.slice YB y.val.length YD]:=hG 7 (by decide) rfl;clear hG hsame;simp only[zaj,ea,e9,g0,g1,g2,g3,g4,g5,g6,g7];clear ea e9 g0 g1 g2 g3 g4 g5 g6 g7;go_simp;have q9:Below w5.heap.size w5 W9:=q7.grown hg9 q7.size λk hk=>(hrr k hk).1
            clear hXW hO hyk hyv hg9 bnW hownW;go_wp2_with fail;go_roundw;case rel=>
              have e:=hL9.out;rw[<-hsn.out]at e hO9;subst e;exact⟨k+1,ad9,c9,by go_num,by omega,rfl,hO9,q9⟩
            case measure=>simp[intOf];omega
        · have hk5:k=n5:=by omega
          have hkL:=hn5'.out;rw[yq (by omega)]at hO;rw[yq (by omega)];go_wp2_with fail;go_ret;rw[WsEnd,HK.out];have h5w:=q5.size;exact⟨_,_,rfl,hO.to h5w h5w,q5.trans (q6.mono q5.size)⟩
theorem zu4(w:World){S S2 S3:Nat->Prop}{v v2:Value}{d:Dl}{x0:Sp}{aq:Option Addr}{n cq:Nat}{l:List Pq}(h:RdDl S w v d)(hx:RdSp S2 w v2 x0)(hl:RdL Elt.pq S3 w (.slice aq n cq) l)(hs:smQ l)(hn:l.length<=900000):Calls Tryz.prog 95 #[v,v2,.slice aq n cq] w (PqEnd w (zi3 d x0 l)):=by
  have hd:=h;obtain⟨a,c,a2,c2,rfl,hw,hm⟩:=h;obtain⟨a',c',a2',c2',rfl,hlo',hhi',hxt⟩:=hx;replace hlo':=hlo'.fit;replace hhi':=hhi'.fit;obtain⟨rfl,hnc,hcm⟩:=hl.len;obtain⟨W0,hW,q,bn,bx,hsz⟩:=zg2 w 41 67 [.slice a d.writes.length c,.slice a2 d.marks.length c2] [.int .i64 x0.table,.slice a' x0.lo.length c',.slice a2' x0.hi.length c2',.bool x0.isOpen];have hsz2:w.heap.size+2<=W0.heap.size:=by omega
  clear hsz;go_enter Tryz.func95,Tryz.ntmps95;go_upto_region 1 with(fail);rw[show(w.alloc (.cells #[.slice a d.writes.length c,.slice a2 d.marks.length c2] 41)).alloc (.cells #[.int .i64 x0.table,.slice a' x0.lo.length c',.slice a2' x0.hi.length c2',.bool x0.isOpen] 67)=W0 from hW.symm];clear hW;go_wp2_with fail;refine(zsc W0 (hl.below q) hs).mono ?_;rintro e w1 ⟨a1,c1,rfl,hO,hb1⟩;have q1:=q.trans (hb1.mono q.size);have z1:=hb1.size;replace bn:=bn.below hb1 bn.lt;replace bx:=bx.below hb1 bx.lt;clear q hb1;go_wp2_with fail;refine(rise_any w1 (hl.below q1)).mono ?_;rintro e w2 ⟨he,hb2⟩;have q2:=q1.trans (hb2.mono q1.size);have z2:=hb2.size;have hr0:∀k,Value.ownBlock (.slice a1 l.length c1)=some k->W0.heap.size<=k/\k<w1.heap.size:=λk hk=>hO.block_lt k hk
  replace hO:=hO.below hb2;replace bn:=bn.below hb2 bn.lt;replace bx:=bx.below hb2 bx.lt;clear q1 hb2;by_cases hsrt:SrtQ l;case neg=>
    rw[zj hsrt]at he;subst he;have HK:=Lib.hid (show zi3 d x0 l=l by unfold zi3;rw[zh hsrt]);clear hsrt;go_wp2_with fail;go_ret;rw[HK.out];exact⟨_,_,rfl,hO.to (by omega) (by omega),q2⟩
  case pos=>
  rw[zk hsrt]at he;subst he;replace hsrt:=Lib.hid hsrt;have b0:=bn.cell (i:=0) rfl;have b1:=bn.cell (i:=1) rfl;have hla:=zu6 w2 (hd.below q2);go_wp2_with fail;refine hla.mono ?_;rintro e w3 ⟨la,lc,rfl,hL,hb3⟩;clear hla b0 b1;have q3:=q2.trans (hb3.mono q2.size);have z3:=hb3.size;replace hO:=hO.below hb3;replace bx:=bx.below hb3 bx.lt;have hWs:RdL Elt.wr (λk=>w2.heap.size<=k/\k<w3.heap.size) w3 (.slice la (ze5 d).length lc) (ze5 d):=hL.rdS λk hk hl=>⟨by omega,hl⟩
  have hwl:(ze5 d).length<=20:=by
    unfold ze5;split
    ·rename_i h;exact zv (zp7 _) h.1
    ·simp
  obtain⟨ws,ews⟩:∃ws,ws=ze5 d:=⟨_,rfl⟩;rw[<-ews]at hWs hwl;rw[<-ews];have HD:=Lib.hid (show zi3 d x0 l=zfq x0 ws l by unfold zi3;rw[zi hsrt.out,ews]);clear ews hL hb3 q2 bn hd;obtain⟨r0,er0⟩:∃r0,r0=Value.ownBlock (.slice a1 l.length c1):=⟨_,rfl⟩;rw[<-er0]at hr0;have hrS:∀k,r0=some k->¬(w2.heap.size<=k/\k<w3.heap.size):=λk hk h2=>by have:=hr0 k hk;omega
  have hrX:∀k,r0=some k->¬(S2 k/\k<w.heap.size):=λk hk h2=>by have:=hr0 k hk;omega
  have hrB:r0≠some (w.heap.size+1):=λe=>by have:=hr0 _ e;omega
  go_upto_region 5 with(fail);go_loopw[7,19] (λov iv wr=>∃(i:Nat) (ad:Option Addr) (ko:Nat) (cur:List Pq),iv=.int .i64 i/\i<=ws.length/\ov=.slice ad cur.length ko/\OwnL Elt.pq 72 W0.heap.size W0.heap.size wr (.slice ad cur.length ko) cur/\cur.length<=900000+i/\RowKit.Hid (cur=zfq x0 (ws.take i) l/\SrtQ cur)/\w3.grownBy wr r0/\(Value.ownBlock (.slice ad cur.length ko)=r0\/∃k,Value.ownBlock (.slice ad cur.length ko)=some k/\w3.heap.size<=k))(λ_ i _=>ws.length-(intOf i).toNat)
  case atStart=>exact⟨0,a1,c1,l,rfl,zH _,rfl,hO,by omega,Lib.hid ⟨rfl,hsrt.out⟩,zdl (ze _ _) _,.inl er0.symm⟩
  case round=>
    clear hO er0;obtain⟨i,ad,ko,cur,rfl,hil,rfl,hO,hcl,hcur,hg,hob⟩:=hrel;have bxr:=bx.other hg hrB;have hsz3:=hg.size;have hloR:=(hlo'.below q3).grownR hg hrX;have hhiR:=(hhi'.below q3).grownR hg hrX;rcases zA i ws.length with hlt|hge
    · obtain⟨ub,uo,KA,KC,VA,VC,rfl,hub,c0,c1,c2,c3,hk1,hk2,hut⟩:=(hWs.grownR hg hrS).wr i hlt
      have htk:=Lib.hid (show ws.take (i+1)=ws.take i++[ws[i]]from yZ hlt);obtain⟨u,eu⟩:∃u,u=ws[i]:=⟨_,rfl⟩;rw[<-eu]at c0 c1 c2 c3 hk1 hk2 hut htk;clear eu hub;go_upto_region 7 with(first|(refine za2 (vs:=[.int .i64 0,.slice none 0 0,.bool false,.slice none 0 0]) (by kernel_rfl) rfl rfl ?_;intro wa2 hba hBa)|(refine zab (us:=[.int .i64 u.table,.slice KA u.key.length KC,.bool u.gone,.slice VA u.val.length VC]) (by kernel_rfl) rfl rfl rfl rfl rfl rfl hBa rfl ?_;intro W4 hgw hU)|fail);go_simp;have hbw:Below wr.heap.size wr W4:=hba.grown hgw hba.size λk hk=>by injection hk with hk;omega
      have hz4:=hbw.size;replace bxr:=bxr.below hbw bxr.lt;have huw:RdWr (λk=>w2.heap.size<=k/\k<w3.heap.size) W4 (.agg #[.int .i64 u.table,.slice KA u.key.length KC,.bool u.gone,.slice VA u.val.length VC]) u:=RdWr.below ⟨KA,KC,VA,VC,rfl,hk1,hk2,hut⟩ hbw;have hxw:RdSp (λk=>S2 k/\k<w.heap.size) W4 (.agg #[.int .i64 x0.table,.slice a' x0.lo.length c',.slice a2' x0.hi.length c2',.bool x0.isOpen]) x0:=⟨a',c',a2',c2',rfl,hloR.below hbw,hhiR.below hbw,hxt⟩;replace hO:=hO.below hbw;have hg4:=zhw hg (zdl hbw r0);clear c0 c1 c2 c3 hba hBa hgw hk1 hk2 hloR hhiR;have f0:=bxr.cell (i:=0) rfl;have f1:=bxr.cell (i:=1) rfl;have f2:=bxr.cell (i:=2) rfl;have f3:=bxr.cell (i:=3) rfl;have g0:=hU.cell (i:=0) rfl;have g1:=hU.cell (i:=1) rfl;have g2:=hU.cell (i:=2) rfl;have g3:=hU.cell (i:=3) rfl;go_wp2_with fail;refine(in_any W4 huw hxw).mono ?_;rintro e W5 ⟨rfl,hb5⟩;have hz5:=hb5.size;replace hU:=hU.below hb5 hU.lt;replace huw:=huw.below hb5;replace hO:=hO.below hb5;have hg5:=zhw hg4 (zdl hb5 r0);clear f0 f1 f2 f3 g0 g1 g2 g3 hxw hb5 hg4 hbw hg bxr;cases hin:(decide (u.table=x0.table)&&inS x0 u.key)with
      |false=>
        have hneg:=Lib.hid (show¬(u.table=x0.table/\inS x0 u.key=true)fromλh=>by rw[zk h.1,h.2]at hin;cases hin);clear hin;go_wp2_with fail;go_roundw;case rel=>exact⟨i+1,ad,ko,cur,by go_num,by omega,rfl,hO,by omega,Lib.hid ⟨by rw[htk.out,zj7,<-hcur.out.1,zh1,zh hneg.out],hcur.out.2⟩,hg5,hob⟩
        case measure=>simp[intOf];omega
      |true=>
        have hpos:u.table=x0.table/\inS x0 u.key=true:=by
          rw[yk,yP]at hin;exact hin
        have hstep:=Lib.hid (show zei u cur=zfq x0 (ws.take (i+1)) l by rw[htk.out,zj7,<-hcur.out.1,zh1,zi hpos]);have hds:=Lib.hid (zqp (w:=u) hcur.out.2);have hdl:=done_len u cur;clear hin hpos;have g0:=hU.cell (i:=0) rfl;have g1:=hU.cell (i:=1) rfl;have g2:=hU.cell (i:=2) rfl;have g3:=hU.cell (i:=3) rfl;have hdn:=done_any W5 hO hcur.out.2 (by omega) huw (λk hk=>⟨by omega,by omega,λe=>by
          rcases hob with h1|⟨j,h1,h2⟩
          · rw[h1]at e
            exact hrS k e.symm hk
          · rw[h1]at e
            injection e with e;omega⟩) (by omega)
        go_wp2_with fail;refine hdn.mono ?_;rintro e W6 ⟨ad6,c6,rfl,hO6,hg6,hob6⟩;clear hdn g0 g1 g2 g3;have hg36:w3.grownBy W6 r0:=World.grownBy.andThen hg5 hg6 λj hj=>by
          rcases hob with h1|⟨k,h1,h2⟩
          ·exact .inr (h1.symm.trans hj)
          · rw[h1]at hj
            injection hj with hj;exact .inl (by omega)
        have hob7:Value.ownBlock (.slice ad6 (zei u cur).length c6)=r0\/∃k,Value.ownBlock (.slice ad6 (zei u cur).length c6)=some k/\w3.heap.size<=k:=by
          rcases hob6 with h1|⟨k,h1,h2⟩
          · rw[h1];exact hob
          ·exact .inr ⟨k,h1,by omega⟩
        clear hO hob hob6 hg6 hU huw;go_wp2_with fail;go_roundw;case rel=>exact⟨i+1,ad6,c6,zei u cur,by go_num,by omega,rfl,hO6,by omega,Lib.hid ⟨hstep.out,hds.out⟩,hg36,hob7⟩
        case measure=>simp[intOf];omega
    · obtain rfl:i=ws.length:=by omega
      have hfin:=Lib.hid (show cur=zfq x0 ws l by have:=hcur.out.1;rwa[yv]at this);clear hloR hhiR bxr;go_wp2_with fail;go_ret;rw[PqEnd,HD.out,<-hfin.out];exact⟨_,_,rfl,hO.to (by omega) (by omega),q3.grown hg q3.size λk hk=>by have:=hr0 k hk;omega⟩
theorem zro(w:World){S:Nat->Prop}{A:Option Addr}{n C:Nat}{k:List UInt8}{t:Int}(hk:RdS S w (.slice A n C) k)(ht:W64 t)(h1:k.length<=1000000):Calls Tryz.prog 59 #[.int .i64 t,.slice A n C] w (SpEnd w (za8 t k)):=by
  obtain⟨W,hW,q,Bz,hsz⟩:=zeb w 67 [.int .i64 0,.slice none 0 0,.slice none 0 0,.bool false];go_enter Tryz.func59,Tryz.ntmps59;go_upto_region 1 with(fail);rw[show w.alloc (.cells #[.int .i64 0,.slice none 0 0,.slice none 0 0,.bool false] 67)=W from hW.symm];clear hW;go_wp2_with fail;refine(zby W (hk.below q).rd (zf _) h1).mono ?_;rintro e w1 ⟨ad1,k1,c1,rfl,hf1⟩;obtain rfl:k1=k.length:=hf1.len;go_wp2_with fail;refine(zby w1 (hk.below (q.trans (hf1.1.mono q.size))).rd (zf _) h1).mono ?_;rintro e w2⟨ad2,k2,c2,rfl,hf2⟩;obtain rfl:k2=k.length:=hf2.len
  go_wp2_with (refine zjs byP rfl (λ_=>rfl) rfl rfl (by first|(simp;done)|(simp[Act.put];done)) rfl 0 (λ_=>rfl) rfl hf2.2 hf2.1.size ?_ (by omega)
               intro u ad3 k3 c3 w3 hO3 hb3;obtain⟨hi,ehi⟩:∃hi,hi=k++[0]:=⟨_,rfl⟩;rw[<-ehi]at hO3;obtain rfl:k3=hi.length:=hO3.len;replace ehi:=Lib.hid ehi;have b03:Below W.heap.size W w3:=(hf1.1.trans (hf2.1.mono hf1.1.size)).trans (hb3.mono hf1.1.size);have rl:RdS (λg=>W.heap.size<=g/\g<w3.heap.size) w3 (.slice ad1 k.length c1) k:=((hf1.2.rdS.below hf2.1).keep λg hg=>hb3.block g hg.2).weak λg hg=>⟨hg.1,zm hg.2 (hf2.1.trans hb3).size⟩
               have rh:RdS (λg=>W.heap.size<=g/\g<w3.heap.size) w3 (.slice ad3 hi.length c3) hi:=hO3.rdS.weak λg hg=>⟨zv hf1.1.size hg.1,hg.2⟩
               go_wp2_with(first|(refine zab (us:=[.int .i64 t,.slice ad1 k.length c1,.slice ad3 hi.length c3,.bool false]) (by kernel_rfl) rfl rfl rfl rfl rfl rfl (Bz.below b03 Bz.lt) rfl ?_;intro w4 hg hB)|fail))
  have d0:=hB.cell (i:=0) rfl;have d1:=hB.cell (i:=1) rfl;have d2:=hB.cell (i:=2) rfl;have d3:=hB.cell (i:=3) rfl;obtain⟨fs,hu,_⟩:=spS.hu;refine zD (v:=.agg #[.int .i64 t,.slice ad1 k.length c1,.slice ad3 hi.length c3,.bool false]) (by simp[results,Tryz.results59,go_sem,loadVar,isAgg,zr hu,zaa spS.hs,loadCellsFrom,Addr.add,d0,d1,d2,d3]) rfl ?_;have hk0:∀g,W.heap.size<=g/\g<w3.heap.size->w4.heap[g]?=w3.heap[g]?:=λg hg2=>hg.block g hg2.2 λe=>by injection e with e;omega
  unfold SpEnd;rw[show za8 t k=⟨t,k,hi,false⟩by unfold za8;rw[ehi.out]];exact⟨_,rfl,⟨ad1,c1,ad3,c3,rfl,(rl.keep hk0).weak λg hg2=>⟨by omega,zm hg2.2 hg.size⟩,(rh.keep hk0).weak λg hg2=>⟨by omega,zm hg2.2 hg.size⟩,ht⟩,(q.trans (b03.mono q.size)).grown hg (q.trans (b03.mono q.size)).size λg e=>by injection e with e;omega⟩
theorem spX:StP Tryz.prog 67 4:=StP.of (by kernel_rfl)
def pSpX (W:World)(bz:Nat)(hbz:bz<W.heap.size)(x:Sp):SGn (λA B=>A.grownBy B (some bz)):=
 ⟨λV v=>RdSp (λk=>W.heap.size<=k/\k<V.heap.size) V v x,λ_ _ _ hr hb=>(hr.below hb).weak λ_ hk=>⟨hk.1,zm hk.2 hb.size⟩,λ_ _ _ ⟨a,c,a2,c2,e,h1,h2,h3⟩ hk=>⟨a,c,a2,c2,e,(h1.keep λk hh=>hk.block k hh.2 (λe=>by injection e with e;have:=hh.1;omega)).weak λ_ hh=>⟨hh.1,zm hh.2 hk.size⟩,(h2.keep λk hh=>hk.block k hh.2 (λe=>by injection e with e;have:=hh.1;omega)).weak λ_ hh=>⟨hh.1,zm hh.2 hk.size⟩,h3⟩⟩
def pNs (W:World)(bz:Nat)(hbz:bz<W.heap.size)(xs:List UInt8):SGn (λA B=>A.grownBy B (some bz)):=
 ⟨λV v=>∃a c,v=.slice a xs.length c/\RdS (λk=>W.heap.size<=k/\k<V.heap.size) V (.slice a xs.length c) xs,λ_ _ _ ⟨a,c,e,h⟩hb=>⟨a,c,e,(h.below hb).weak λ_ hk=>⟨hk.1,zm hk.2 hb.size⟩⟩,
  λ_ _ _ ⟨a,c,e,h⟩hk=>⟨a,c,e,(h.keep λk hh=>hk.block k hh.2 (λe=>by injection e with e;have:=hh.1;omega)).weak λ_ hh=>⟨hh.1,zm hh.2 hk.size⟩⟩⟩
def SpnJ (W:World) (bz:Nat) (x:Sp):List Value->World->Prop
 |[],V=>Below W.heap.size W V
 |_,V=>W.grownBy V (some bz)/\∃a c a2 c2,BoxN V bz 67 [.int .i64 x.table,.slice a x.lo.length c,.slice a2 x.hi.length c2,.bool x.isOpen]/\RdSp (λk=>W.heap.size<=k/\k<V.heap.size) V (.agg #[.int .i64 x.table,.slice a x.lo.length c,.slice a2 x.hi.length c2,.bool x.isOpen]) x
theorem SpnJ.below{W:World}{bz:Nat}{x:Sp}:∀(l:List Value)(V V':World),SpnJ W bz x l V->Below V.heap.size V V'->SpnJ W bz x l V'
 |[],_,_,h,hb=>y8 h (hb.mono (y9 h))
 |_::_,_,_,⟨h,a,c,a2,c2,h0,h1⟩,hb=>⟨zbg h (za4 hb _),a,c,a2,c2,h0.below hb h0.lt,(h1.below hb).weak λ_ hk=>⟨hk.1,zm hk.2 hb.size⟩⟩
theorem RdSp.keepK{S:Nat->Prop}{w w':World}{v:Value}{x:Sp}(h:RdSp S w v x)(hk:∀k,S k->w'.heap[k]?=w.heap[k]?):RdSp S w' v x:=by
 obtain⟨a,c,a2,c2,e,h1,h2,h3⟩:=h;exact⟨a,c,a2,c2,e,h1.keep hk,h2.keep hk,h3⟩
theorem zda (w:World){S:Nat->Prop}{v:Value}{x:Tx}(h:RdTx S w v x) (h1:x.key.length<=1000000):Calls Tryz.prog 28 #[v] w (SpEnd w (za8 x.table x.key)):=by
 have hx0:=h;obtain⟨a,a2,a3,c,c2,c3,rfl,hk,hv,_,ht⟩:=h;obtain⟨W,hW,q,bn,bz,hsz⟩:=ze2 w 25 67 [.int .i64 x.kind,.int .i64 x.table,.slice a x.key.length c,.slice a2 x.hi.length c2,.bool x.isOpen,.slice a3 x.val.length c3,.int .i64 x.n] [.int .i64 0,.slice none 0 0,.slice none 0 0,.bool false];go_enter Tryz.func28,Tryz.ntmps28;go_upto_region 1 with(fail);rw[show(w.alloc (.cells #[.int .i64 x.kind,.int .i64 x.table,.slice a x.key.length c,.slice a2 x.hi.length c2,.bool x.isOpen,.slice a3 x.val.length c3,.int .i64 x.n] 25)).alloc (.cells #[.int .i64 0,.slice none 0 0,.slice none 0 0,.bool false] 67)=W from hW.symm];clear hW;have r1:=bn.cell (i:=1) rfl;have r2:=bn.cell (i:=2) rfl;go_wp2_with fail;refine(zro W (hk.below q) ht.2.1 h1).mono ?_;rintro e w1 ⟨u,rfl,hu,hb⟩;clear r1 r2;obtain⟨A,C,A2,C2,rfl,hu1,hu2,hu3⟩:=hu;obtain⟨y,hy⟩:∃y,y=za8 x.table x.key:=⟨_,rfl⟩;rw[<-hy]at hu1 hu2 hu3;rw[<-hy];replace hy:=Lib.hid hy;have q1:=q.trans (hb.mono q.size);have zb:=hb.size;replace bz:=bz.below hb bz.lt;go_wp2_with(first|(refine zab (us:=[.int .i64 y.table,.slice A y.lo.length C,.slice A2 y.hi.length C2,.bool y.isOpen]) (by kernel_rfl) rfl rfl rfl rfl rfl rfl bz rfl ?_;intro w2 hg hb9)|fail);have d0:=hb9.cell (i:=0) rfl;have d1:=hb9.cell (i:=1) rfl;have d2:=hb9.cell (i:=2) rfl;have d3:=hb9.cell (i:=3) rfl;obtain⟨fs,hu,_⟩:=spS.hu;refine zD (v:=.agg #[.int .i64 y.table,.slice A y.lo.length C,.slice A2 y.hi.length C2,.bool y.isOpen]) (by simp[results,Tryz.results28,go_sem,loadVar,isAgg,zr hu,zaa spS.hs,loadCellsFrom,Addr.add,d0,d1,d2,d3]) rfl ?_;have zg:=hg.size;rw[<-hy.out];have hk9:∀k,W.heap.size<=k/\k<w1.heap.size->w2.heap[k]?=w1.heap[k]?:=λk hk=>hg.block k hk.2 λe=>by injection e with e;omega
 exact⟨_,rfl,⟨A,C,A2,C2,rfl,(hu1.keep hk9).weak λk hk=>⟨by omega,by omega⟩,(hu2.keep hk9).weak λk hk=>⟨by omega,by omega⟩,hu3⟩,q1.grown hg q1.size λk e=>by injection e with e;omega⟩
theorem zfm (w:World){S:Nat->Prop}{v:Value}{x:Tx}(h:RdTx S w v x)(h1:x.key.length<=1000000)(h2:x.hi.length<=1000000):Calls Tryz.prog 29 #[v] w (SpEnd w (zay x)):=by
 have hx0:=h;obtain⟨a,a2,a3,c,c2,c3,rfl,hk,hv,_,ht⟩:=h;obtain⟨W,hW,q,bn,bz,hsz⟩:=ze2 w 25 67 [.int .i64 x.kind,.int .i64 x.table,.slice a x.key.length c,.slice a2 x.hi.length c2,.bool x.isOpen,.slice a3 x.val.length c3,.int .i64 x.n] [.int .i64 0,.slice none 0 0,.slice none 0 0,.bool false];go_enter Tryz.func29,Tryz.ntmps29;go_upto_region 1 with(fail);rw[show(w.alloc (.cells #[.int .i64 x.kind,.int .i64 x.table,.slice a x.key.length c,.slice a2 x.hi.length c2,.bool x.isOpen,.slice a3 x.val.length c3,.int .i64 x.n] 25)).alloc (.cells #[.int .i64 0,.slice none 0 0,.slice none 0 0,.bool false] 67)=W from hW.symm];clear hW;have hk':=hk.below q;have hv':=hv.below q;have eP:∀args w,(callFunc 60 args).run Tryz.prog w=.ok (.enter 60 args) w:=enters_of Tryz.func60 (by kernel_rfl) rfl;refine zai (K:=λA B=>A.grownBy B (some (w.heap.size+1))) (by kernel_rfl) (by kernel_rfl) [11] (by kernel_rfl) [lEq (.pointer (some ⟨w.heap.size,0+1,none⟩)),lEq (.int .i64 x.table),lEq (.pointer (some ⟨w.heap.size,0+2,none⟩)),lEq (.slice a x.key.length c),pNs W (w.heap.size+1) (by omega) x.key,lEq (.pointer (some ⟨w.heap.size,0+3,none⟩)),lEq (.slice a2 x.hi.length c2),pNs W (w.heap.size+1) (by omega) x.hi,lEq (.pointer (some ⟨w.heap.size,0+4,none⟩)),lEq (.bool x.isOpen),pSpX W (w.heap.size+1) (by omega) (zay x),lAny] (SpnJ W (w.heap.size+1) (zay x)) SpnJ.below (show Below W.heap.size W W from ze _ _)
  ⟨?o0,?o1,?o2,?o3,?o4,?o5,?o6,?o7,?o8,?o9,?o10,?o11,trivial⟩ ?fin
 case o0=>
  refine LnOp.sd (λA va w' k hF hT hk hJ hb hu hp hd=>?_);have e1:=hF 1 rfl;exact zaf txS rfl (e1) (by omega) ⟨_,rfl,rfl,ze _ _⟩
 case o1=>
  refine LnOp.sd (λA va w' k hF hT hk hJ hb hu hp hd=>?_);have e1:=(hT 3 0 (by simp) rfl).trans (hd ⟨0,.data⟩ (by simp) rfl rfl);obtain rfl:k=0:=by have:=hb 0 11 rfl (by kernel_rfl);omega
  have hJ0:Below W.heap.size W w':=hJ;exact zbv (k:=.i64) rfl e1 (by kernel_rfl) ((bn.below hJ0 bn.lt).cell (i:=1) rfl) ⟨_,rfl,rfl,ze _ _⟩
 case o2=>
  refine LnOp.sd (λA va w' k hF hT hk hJ hb hu hp hd=>?_);have e1:=hF 1 rfl;exact zaf txS rfl (e1) (by omega) ⟨_,rfl,rfl,ze _ _⟩
 case o3=>
  refine LnOp.sd (λA va w' k hF hT hk hJ hb hu hp hd=>?_);have e1:=(hT 5 2 (by simp) rfl).trans (hd ⟨2,.data⟩ (by simp) rfl rfl);obtain rfl:k=0:=by have:=hb 0 11 rfl (by kernel_rfl);omega
  have hJ0:Below W.heap.size W w':=hJ;exact zae (e:=5) rfl e1 (by kernel_rfl) ((bn.below hJ0 bn.lt).cell (i:=2) rfl) ⟨_,rfl,rfl,ze _ _⟩
 case o4=>
  refine LnOp.sd (λA va w' k hF hT hk hJ hb hu hp hd=>?_);have e1:=(hT 6 3 (by simp) rfl).trans (hd ⟨3,.data⟩ (by simp) rfl rfl);obtain rfl:k=0:=by have:=hb 0 11 rfl (by kernel_rfl);omega
  have hJ0:Below W.heap.size W w':=hJ;refine zah rfl eP (args:=#[.slice a x.key.length c]) (by simp only[zE,zn,zo,e1]) ((zby w' (hk'.below hJ0).rd (zf _) h1).mono ?_);rintro e w2 ⟨ad1,k1,c1,rfl,hf1⟩;obtain rfl:k1=x.key.length:=hf1.len;exact⟨_,rfl,_,rfl,⟨ad1,c1,rfl,hf1.2.rdS.weak λg hg=>⟨zv hJ0.size hg.1,hg.2⟩⟩,hf1.1⟩
 case o5=>
  refine LnOp.sd (λA va w' k hF hT hk hJ hb hu hp hd=>?_);have e1:=hF 1 rfl;exact zaf txS rfl (e1) (by omega) ⟨_,rfl,rfl,ze _ _⟩
 case o6=>
  refine LnOp.sd (λA va w' k hF hT hk hJ hb hu hp hd=>?_);have e1:=(hT 8 5 (by simp) rfl).trans (hd ⟨5,.data⟩ (by simp) rfl rfl);obtain rfl:k=0:=by have:=hb 0 11 rfl (by kernel_rfl);omega
  have hJ0:Below W.heap.size W w':=hJ;exact zae (e:=5) rfl e1 (by kernel_rfl) ((bn.below hJ0 bn.lt).cell (i:=3) rfl) ⟨_,rfl,rfl,ze _ _⟩
 case o7=>
  refine LnOp.sd (λA va w' k hF hT hk hJ hb hu hp hd=>?_);have e1:=(hT 9 6 (by simp) rfl).trans (hd ⟨6,.data⟩ (by simp) rfl rfl);obtain rfl:k=0:=by have:=hb 0 11 rfl (by kernel_rfl);omega
  have hJ0:Below W.heap.size W w':=hJ;refine zah rfl eP (args:=#[.slice a2 x.hi.length c2]) (by simp only[zE,zn,zo,e1]) ((zby w' (hv'.below hJ0).rd (zf _) h2).mono ?_);rintro e w2 ⟨ad1,k1,c1,rfl,hf1⟩;obtain rfl:k1=x.hi.length:=hf1.len;exact⟨_,rfl,_,rfl,⟨ad1,c1,rfl,hf1.2.rdS.weak λg hg=>⟨zv hJ0.size hg.1,hg.2⟩⟩,hf1.1⟩
 case o8=>
  refine LnOp.sd (λA va w' k hF hT hk hJ hb hu hp hd=>?_);have e1:=hF 1 rfl;exact zaf txS rfl (e1) (by omega) ⟨_,rfl,rfl,ze _ _⟩
 case o9=>
  refine LnOp.sd (λA va w' k hF hT hk hJ hb hu hp hd=>?_);have e1:=(hT 11 8 (by simp) rfl).trans (hd ⟨8,.data⟩ (by simp) rfl rfl);obtain rfl:k=0:=by have:=hb 0 11 rfl (by kernel_rfl);omega
  have hJ0:Below W.heap.size W w':=hJ;exact zq0 rfl e1 (by kernel_rfl) ((bn.below hJ0 bn.lt).cell (i:=4) rfl) ⟨_,rfl,rfl,ze _ _⟩
 case o10=>
  refine LnOp.sd (λA va w' k hF hT hk hJ hb hu hp hd=>?_);have e1:=(hT 4 1 (by simp) rfl).trans (hd ⟨1,.data⟩ (by simp) rfl rfl);have x2:A.eval (.tmp 7)=va 4:=hT 7 4 (by simp) rfl;have y2:=hd ⟨4,.data⟩ (by simp) rfl rfl;have x3:A.eval (.tmp 10)=va 7:=hT 10 7 (by simp) rfl;have y3:=hd ⟨7,.data⟩ (by simp) rfl rfl;have e4:=(hT 12 9 (by simp) rfl).trans (hd ⟨9,.data⟩ (by simp) rfl rfl);obtain⟨a7,c7,e7,h7⟩:=y2;obtain⟨a8,c8,e8,h8⟩:=y3;exact zsm spX rfl e1 (x2.trans e7) (x3.trans e8) e4 rfl rfl rfl rfl ⟨_,rfl,⟨a7,c7,a8,c8,rfl,h7,h8,ht.2.1⟩,ze _ _⟩
 case o11=>
  refine LnOp.line 0 rfl rfl (λA va w' hF hT hJ hu hd=>?_);have e1:=hF 2 rfl;have x2:A.eval (.tmp 13)=va 10:=hT 13 10 (by simp) rfl;have y2:=hd ⟨10,.data⟩ (by simp) rfl rfl;have hJ0:Below W.heap.size W w':=hJ;obtain⟨a7,c7,a8,c8,e7,_⟩:=id y2;rw[e7]at y2;refine za3 (us:=[.int .i64 (zay x).table,.slice a7 (zay x).lo.length c7,.slice a8 (zay x).hi.length c8,.bool (zay x).isOpen]) (by kernel_rfl) rfl e1 (x2.trans e7) rfl (bz.below hJ0 (by omega)) rfl (λw2 hg hB2=>?_);exact⟨_,rfl,⟨(zb0 hJ0 rfl _).andThen hg (by simp),a7,c7,a8,c8,hB2,(y2.keepK λk hk=>hg.block k hk.2 λe=>by injection e with e;have:=hk.1;omega).weak λk hk=>⟨hk.1,zm hk.2 hg.size⟩⟩,hg⟩
 case fin=>
  intro vs1 W9 hJ hG;obtain⟨hg9,ka,kc,va,vc,hb9,hr9⟩:=hJ;have q9:Below w.heap.size w W9:=q.grown hg9 q.size λk e=>by injection e with e;omega
  clear hG;simp only[zaj];go_simp;have d0:=hb9.cell (i:=0) rfl;have d1:=hb9.cell (i:=1) rfl;have d2:=hb9.cell (i:=2) rfl;have d3:=hb9.cell (i:=3) rfl;go_wp2_with fail;obtain⟨fs,hu,_⟩:=spX.hu;refine zD (v:=.agg #[.int .i64 (zay x).table,.slice ka (zay x).lo.length kc,.slice va (zay x).hi.length vc,.bool (zay x).isOpen]) (by simp[results,Tryz.results29,go_sem,loadVar,isAgg,zr hu,zaa spX.hs,loadCellsFrom,Addr.add,d0,d1,d2,d3]) rfl ?_;exact⟨_,rfl,hr9.weak λk hk=>⟨by omega,hk.2⟩,q9⟩
section
variable {o : Oper} {a : Act} {K : Act → World → Prop} {Q : Exit → Act → World → Prop} {w : World}
theorem zq5{x:Operand}{a1:Option Addr}{n c:Nat}(ho:o.op=.build 54 #[(3,x)])(hx:a.eval x=.slice a1 n c)(h:K (a.put o.dst (.agg #[.int .i64 0,.bool false,.slice none 0 0,.slice a1 n c])) w):o.wp Tryz.prog a w K Q:=by
 refine zcb ?_ h;simp only[execOp,ho,zE,zn,zo,hx];simp[go_sem]
end
def pPq (W:World) (bz:Nat) (hbz:bz<W.heap.size) (l:List Pq):SGn (λA B=>A.grownBy B (some bz)):=
 ⟨λV v=>∃a c,v=.slice a l.length c/\RdL Elt.pq (λk=>W.heap.size<=k/\k<V.heap.size) V (.slice a l.length c) l,λ_ _ _ ⟨a,c,e,h⟩hb=>⟨a,c,e,(h.below hb).weak λ_ hk=>⟨hk.1,zm hk.2 hb.size⟩⟩,
  λ_ _ _ ⟨a,c,e,h⟩hk=>⟨a,c,e,(h.keep λk hh=>hk.block k hh.2 (λe=>by injection e with e;have:=hh.1;omega)).weak λ_ hh=>⟨hh.1,zm hh.2 hk.size⟩⟩⟩
def pPr(W:World)(bz:Nat)(hbz:bz<W.heap.size)(l:List Pq):SGn (λA B=>A.grownBy B (some bz)):=
 ⟨λV v=>∃a c,v=.agg #[.int .i64 0,.bool false,.slice none 0 0,.slice a l.length c]/\RdL Elt.pq (λk=>W.heap.size<=k/\k<V.heap.size) V (.slice a l.length c) l,λ_ _ _⟨a,c,e,h⟩ hb=>⟨a,c,e,(h.below hb).weak λ_ hk=>⟨hk.1,zm hk.2 hb.size⟩⟩,
  λ_ _ _⟨a,c,e,h⟩ hk=>⟨a,c,e,(h.keep λk hh=>hk.block k hh.2 (λe=>by injection e with e;have:=hh.1;omega)).weak λ_ hh=>⟨hh.1,zm hh.2 hk.size⟩⟩⟩
def ScJ (W:World)(bz:Nat)(l:List Pq):List Value->World->Prop
 |[],V=>Below W.heap.size W V
 |_,V=>W.grownBy V (some bz)/\∃a c,BoxN V bz 54 [.int .i64 0,.bool false,.slice none 0 0,.slice a l.length c]/\RdL Elt.pq (λk=>W.heap.size<=k/\k<V.heap.size) V (.slice a l.length c) l
theorem ScJ.below{W:World}{bz:Nat}{l:List Pq}:∀(us:List Value)(V V':World),ScJ W bz l us V->Below V.heap.size V V'->ScJ W bz l us V'
 |[],_,_,h,hb=>y8 h (hb.mono (y9 h))
 |_::_,_,_,⟨h,a,c,h0,h1⟩,hb=>⟨zbg h (za4 hb _),a,c,h0.below hb h0.lt,(h1.below hb).weak λ_ hk=>⟨hk.1,zm hk.2 hb.size⟩⟩
theorem zra(w:World){D:Nat}{S:Nat->Prop}{b:Nat}{d:Dl}{T:Sto}{s:Int}{x:Tx}(h:Tu D S w b d T s x)(hf:fitS T)(h1:x.key.length<=1000000)(h2:x.hi.length<=1000000)(hsl:smQ (zbr (zcp T x.table) (zay x) s))(hsn:(zbr (zcp T x.table) (zay x) s).length<=900000):Calls Tryz.prog 69 #[.pointer (some ⟨b,0,none⟩)] w (zfv D S w b T s x (d,⟨0,false,[],zi3 d (zay x) (zbr (zcp T x.table) (zay x) s)⟩)):=by
 have hb:=h.lt;obtain⟨W,hW,q,bz,hsz⟩:=zeb w 54 [.int .i64 0,.bool false,.slice none 0 0,.slice none 0 0];go_enter Tryz.func69,Tryz.ntmps69;go_upto_region 1 with(fail);rw[show w.alloc (.cells #[.int .i64 0,.bool false,.slice none 0 0,.slice none 0 0] 54)=W from hW.symm];clear hW;have eS:∀args w,(callFunc 96 args).run Tryz.prog w=.ok (.enter 96 args) w:=enters_of Tryz.func96 (by kernel_rfl) rfl;have eO:∀args w,(callFunc 95 args).run Tryz.prog w=.ok (.enter 95 args) w:=enters_of Tryz.func95 (by kernel_rfl) rfl;have hW0:=h.fit.below q;have hfb:=hW0;obtain⟨a,c,a2,c2,aS,mS,cS,kA,hA,vA,kC,hC,vC,bt,hd,hT,hk,hh,hv,ht,hSb,hDb⟩:=hW0;have c15:=bt.cell (i:=15) rfl;have c16:=bt.cell (i:=16) rfl;have c17:=bt.cell (i:=17) rfl;have c18:=bt.cell (i:=18) rfl;have c19:=bt.cell (i:=19) rfl;have c20:=bt.cell (i:=20) rfl;have c21:=bt.cell (i:=21) rfl;have hcl:=zfm W (x:=x) ⟨kA,hA,vA,kC,hC,vC,rfl,hk,hh,hv,ht⟩ h1 h2;go_wp2_with fail;refine hcl.mono ?_;rintro e w1 ⟨u,rfl,hu,hb1⟩;clear hcl c15 c16 c17 c18 c19 c20 c21;have hx3:=hu;obtain⟨xl,xc,xh,xd,rfl,_,_,_⟩:=hu;go_upto_region 2 with(first|(refine za2 (vs:=[.int .i64 0,.slice none 0 0,.slice none 0 0,.bool false]) (by kernel_rfl) rfl rfl ?_;intro wa hba hBa)|(refine zab (us:=[.int .i64 (zay x).table,.slice xl (zay x).lo.length xc,.slice xh (zay x).hi.length xd,.bool (zay x).isOpen]) (by kernel_rfl) rfl rfl rfl rfl rfl rfl hBa rfl ?_;intro W1 hgw B3)|fail);try go_simp
 have hbw:=hba.grown hgw hba.size λk hk=>by injection hk with hk;omega
 have q1:Below W.heap.size W W1:=hb1.trans (hbw.mono hb1.size);replace hx3:=hx3.below hbw;have z1:=hb1.size;have zw:=hbw.size;have l3:=B3.lt;replace bt:=bt.below q1 bt.lt;replace hd:=hd.below q1;replace hT:=hT.below q1;replace bz:=bz.below q1 bz.lt;replace hfb:=hfb.below q1;obtain⟨N,hN⟩:∃n,n=w.heap.size:=⟨_,rfl⟩;obtain⟨N3,hN3⟩:∃n,n=w1.heap.size:=⟨_,rfl⟩;rw[<-hN]at bz;rw[<-hN3]at B3;rw[<-hN,<-hN3];have hbN:b≠N:=by omega
 have hNW:N<W1.heap.size:=by omega
 have hN0:w.heap.size<=N/\N<W.heap.size:=by omega
 clear hba hBa hgw hbw hb1;replace hN:=Lib.hid hN;replace hN3:=Lib.hid hN3;obtain⟨L,hL⟩:∃l,l=zbr (zcp T x.table) (zay x) s:=⟨_,rfl⟩;obtain⟨M,hM⟩:∃l,l=zi3 d (zay x) L:=⟨_,rfl⟩;rw[<-hL]at hsl hsn;have k1:=λ(V:World) (hV:Below W1.heap.size W1 V)=>zs7 V (s:=s) (hT.below hV) hf (hx3.below hV)
 rw[show zbr (zcp T (zay x).table) (zay x) s=L from hL.symm]at k1;have k2:=λ(V:World) (hV:Below W1.heap.size W1 V) (a9:Option Addr) (c9:Nat) (h9:RdL Elt.pq (λk=>W1.heap.size<=k/\k<V.heap.size) V (.slice a9 L.length c9) L)=>zu4 V (hd.below hV) (hx3.below hV) h9 hsl hsn
 rw[<-hM]at k2;replace hL:=Lib.hid hL;replace hM:=Lib.hid hM;refine zai (K:=λA B=>A.grownBy B (some N)) (by kernel_rfl) (by kernel_rfl) [17] (by kernel_rfl) [lEq (.pointer (some ⟨b,0,none⟩)),lEq (.pointer (some ⟨b,0,none⟩)),lEq (.pointer (some ⟨b,0+0,none⟩)),lEq (.agg #[.slice a d.writes.length c,.slice a2 d.marks.length c2]),lEq (.agg #[.int .i64 (zay x).table,.slice xl (zay x).lo.length xc,.slice xh (zay x).hi.length xd,.bool (zay x).isOpen]),lEq (.pointer (some ⟨b,0,none⟩)),lEq (.pointer (some ⟨b,0,none⟩)),lEq (.pointer (some ⟨b,0+2,none⟩)),lEq (.agg #[.slice (aS 0) (mS 0) (cS 0),.slice (aS 1) (mS 1) (cS 1),.slice (aS 2) (mS 2) (cS 2),.slice (aS 3) (mS 3) (cS 3),.slice (aS 4) (mS 4) (cS 4),.slice (aS 5) (mS 5) (cS 5),.slice (aS 6) (mS 6) (cS 6),.slice (aS 7) (mS 7) (cS 7),.slice (aS 8) (mS 8) (cS 8),.slice (aS 9) (mS 9) (cS 9),.slice (aS 10) (mS 10) (cS 10),.slice (aS 11) (mS 11) (cS 11)]),lEq (.agg #[.int .i64 (zay x).table,.slice xl (zay x).lo.length xc,.slice xh (zay x).hi.length xd,.bool (zay x).isOpen]),lEq (.pointer (some ⟨b,0,none⟩)),lEq (.pointer (some ⟨b,0,none⟩)),lEq (.pointer (some ⟨b,0+14,none⟩)),lEq (.int .i64 s),pPq W1 N hNW L,pPq W1 N hNW M,pPr W1 N hNW M,lAny] (ScJ W1 N M) ScJ.below (show Below W1.heap.size W1 W1 from ze _ _)
  ⟨?o0,?o1,?o2,?o3,?o4,?o5,?o6,?o7,?o8,?o9,?o10,?o11,?o12,?o13,?o14,?o15,?o16,?o17,trivial⟩ ?fin
 case o0=>
  refine LnOp.sd (λA va w' k hF hT hk hJ hb hu hp hd=>?_);have e1:=hF 0 rfl;exact zu _ rfl ⟨_,rfl,e1,ze _ _⟩
 case o1=>
  refine LnOp.sd (λA va w' k hF hT hk hJ hb hu hp hd=>?_);have e1:=(hT 9 0 (by simp) rfl).trans (hd ⟨0,.data⟩ (by simp) rfl rfl);exact zcc rfl (e1) ⟨_,rfl,rfl,ze _ _⟩
 case o2=>
  refine LnOp.sd (λA va w' k hF hT hk hJ hb hu hp hd=>?_);have e1:=(hT 10 1 (by simp) rfl).trans (hd ⟨1,.data⟩ (by simp) rfl rfl);exact za6 tuF0 rfl (e1) ⟨_,rfl,rfl,ze _ _⟩
 case o3=>
  refine LnOp.sd (λA va w' k hF hT hk hJ hb hu hp hd=>?_);have e1:=(hT 11 2 (by simp) rfl).trans (hd ⟨2,.data⟩ (by simp) rfl rfl);obtain rfl:k=0:=by have:=hb 0 17 rfl (by kernel_rfl);omega
  have hJ0:Below W1.heap.size W1 w':=hJ;exact ze0 dlS rfl e1 ((bt.below hJ0 bt.lt).cell (i:=0) rfl) ((bt.below hJ0 bt.lt).cell (i:=1) rfl) ⟨_,rfl,rfl,ze _ _⟩
 case o4=>
  refine LnOp.sd (λA va w' k hF hT hk hJ hb hu hp hd=>?_);have e1:=hF 3 rfl;obtain rfl:k=0:=by have:=hb 0 17 rfl (by kernel_rfl);omega
  have hJ0:Below W1.heap.size W1 w':=hJ;exact zdj spX rfl e1 ((B3.below hJ0 B3.lt).cell (i:=0) rfl) ((B3.below hJ0 B3.lt).cell (i:=1) rfl) ((B3.below hJ0 B3.lt).cell (i:=2) rfl) ((B3.below hJ0 B3.lt).cell (i:=3) rfl) ⟨_,rfl,rfl,ze _ _⟩
 case o5=>
  refine LnOp.sd (λA va w' k hF hT hk hJ hb hu hp hd=>?_);have e1:=hF 0 rfl;exact zu _ rfl ⟨_,rfl,e1,ze _ _⟩
 case o6=>
  refine LnOp.sd (λA va w' k hF hT hk hJ hb hu hp hd=>?_);have e1:=(hT 14 5 (by simp) rfl).trans (hd ⟨5,.data⟩ (by simp) rfl rfl);exact zcc rfl (e1) ⟨_,rfl,rfl,ze _ _⟩
 case o7=>
  refine LnOp.sd (λA va w' k hF hT hk hJ hb hu hp hd=>?_);have e1:=(hT 15 6 (by simp) rfl).trans (hd ⟨6,.data⟩ (by simp) rfl rfl);exact za6 tuF1 rfl (e1) ⟨_,rfl,rfl,ze _ _⟩
 case o8=>
  refine LnOp.sd (λA va w' k hF hT hk hJ hb hu hp hd=>?_);have e1:=(hT 16 7 (by simp) rfl).trans (hd ⟨7,.data⟩ (by simp) rfl rfl);obtain rfl:k=0:=by have:=hb 0 17 rfl (by kernel_rfl);omega
  have hJ0:Below W1.heap.size W1 w':=hJ;exact zkg (us:=[.slice (aS 0) (mS 0) (cS 0),.slice (aS 1) (mS 1) (cS 1),.slice (aS 2) (mS 2) (cS 2),.slice (aS 3) (mS 3) (cS 3),.slice (aS 4) (mS 4) (cS 4),.slice (aS 5) (mS 5) (cS 5),.slice (aS 6) (mS 6) (cS 6),.slice (aS 7) (mS 7) (cS 7),.slice (aS 8) (mS 8) (cS 8),.slice (aS 9) (mS 9) (cS 9),.slice (aS 10) (mS 10) (cS 10),.slice (aS 11) (mS 11) (cS 11)]) stS7 rfl e1 (zvc ((bt.below hJ0 bt.lt).cell (i:=2) rfl) ((bt.below hJ0 bt.lt).cell (i:=3) rfl) ((bt.below hJ0 bt.lt).cell (i:=4) rfl) ((bt.below hJ0 bt.lt).cell (i:=5) rfl) ((bt.below hJ0 bt.lt).cell (i:=6) rfl) ((bt.below hJ0 bt.lt).cell (i:=7) rfl) ((bt.below hJ0 bt.lt).cell (i:=8) rfl) ((bt.below hJ0 bt.lt).cell (i:=9) rfl) ((bt.below hJ0 bt.lt).cell (i:=10) rfl) ((bt.below hJ0 bt.lt).cell (i:=11) rfl) ((bt.below hJ0 bt.lt).cell (i:=12) rfl) ((bt.below hJ0 bt.lt).cell (i:=13) rfl)) ⟨_,rfl,rfl,ze _ _⟩
 case o9=>
  refine LnOp.sd (λA va w' k hF hT hk hJ hb hu hp hd=>?_);have e1:=hF 3 rfl;obtain rfl:k=0:=by have:=hb 0 17 rfl (by kernel_rfl);omega
  have hJ0:Below W1.heap.size W1 w':=hJ;exact zdj spX rfl e1 ((B3.below hJ0 B3.lt).cell (i:=0) rfl) ((B3.below hJ0 B3.lt).cell (i:=1) rfl) ((B3.below hJ0 B3.lt).cell (i:=2) rfl) ((B3.below hJ0 B3.lt).cell (i:=3) rfl) ⟨_,rfl,rfl,ze _ _⟩
 case o10=>
  refine LnOp.sd (λA va w' k hF hT hk hJ hb hu hp hd=>?_);have e1:=hF 0 rfl;exact zu _ rfl ⟨_,rfl,e1,ze _ _⟩
 case o11=>
  refine LnOp.sd (λA va w' k hF hT hk hJ hb hu hp hd=>?_);have e1:=(hT 19 10 (by simp) rfl).trans (hd ⟨10,.data⟩ (by simp) rfl rfl);exact zcc rfl (e1) ⟨_,rfl,rfl,ze _ _⟩
 case o12=>
  refine LnOp.sd (λA va w' k hF hT hk hJ hb hu hp hd=>?_);have e1:=(hT 20 11 (by simp) rfl).trans (hd ⟨11,.data⟩ (by simp) rfl rfl);exact za6 tuF2 rfl (e1) ⟨_,rfl,rfl,ze _ _⟩
 case o13=>
  refine LnOp.sd (λA va w' k hF hT hk hJ hb hu hp hd=>?_);have e1:=(hT 21 12 (by simp) rfl).trans (hd ⟨12,.data⟩ (by simp) rfl rfl);obtain rfl:k=0:=by have:=hb 0 17 rfl (by kernel_rfl);omega
  have hJ0:Below W1.heap.size W1 w':=hJ;exact zbv (k:=.i64) rfl e1 (by kernel_rfl) ((bt.below hJ0 bt.lt).cell (i:=14) rfl) ⟨_,rfl,rfl,ze _ _⟩
 case o14=>
  refine LnOp.sd (λA va w' k hF hT hk hJ hb hu hp hd=>?_);have e1:=(hT 17 8 (by simp) rfl).trans (hd ⟨8,.data⟩ (by simp) rfl rfl);have e2:=(hT 18 9 (by simp) rfl).trans (hd ⟨9,.data⟩ (by simp) rfl rfl);have e3:=(hT 22 13 (by simp) rfl).trans (hd ⟨13,.data⟩ (by simp) rfl rfl);obtain rfl:k=0:=by have:=hb 0 17 rfl (by kernel_rfl);omega
  have hJ0:Below W1.heap.size W1 w':=hJ;refine zah rfl eS (args:=#[.agg #[.slice (aS 0) (mS 0) (cS 0),.slice (aS 1) (mS 1) (cS 1),.slice (aS 2) (mS 2) (cS 2),.slice (aS 3) (mS 3) (cS 3),.slice (aS 4) (mS 4) (cS 4),.slice (aS 5) (mS 5) (cS 5),.slice (aS 6) (mS 6) (cS 6),.slice (aS 7) (mS 7) (cS 7),.slice (aS 8) (mS 8) (cS 8),.slice (aS 9) (mS 9) (cS 9),.slice (aS 10) (mS 10) (cS 10),.slice (aS 11) (mS 11) (cS 11)],.agg #[.int .i64 (zay x).table,.slice xl (zay x).lo.length xc,.slice xh (zay x).hi.length xd,.bool (zay x).isOpen],.int .i64 s]) (by simp only[zE,zn,zo,e1,e2,e3]) ((k1 w' hJ0).mono ?_);rintro e w2 ⟨a9,c9,rfl,ho9,hb2⟩;exact⟨_,rfl,_,rfl,⟨a9,c9,rfl,ho9.weak λk hk=>⟨zv hJ0.size hk.1,hk.2⟩⟩,hb2⟩
 case o15=>
  refine LnOp.sd (λA va w' k hF hT hk hJ hb hu hp hd=>?_);have e1:=(hT 12 3 (by simp) rfl).trans (hd ⟨3,.data⟩ (by simp) rfl rfl);have e2:=(hT 13 4 (by simp) rfl).trans (hd ⟨4,.data⟩ (by simp) rfl rfl);have x3:A.eval (.tmp 23)=va 14:=hT 23 14 (by simp) rfl;have y3:=hd ⟨14,.data⟩ (by simp) rfl rfl;obtain rfl:k=0:=by have:=hb 0 17 rfl (by kernel_rfl);omega
  have hJ0:Below W1.heap.size W1 w':=hJ;obtain⟨a9,c9,e9,h9⟩:=y3;refine zah rfl eO (args:=#[.agg #[.slice a d.writes.length c,.slice a2 d.marks.length c2],.agg #[.int .i64 (zay x).table,.slice xl (zay x).lo.length xc,.slice xh (zay x).hi.length xd,.bool (zay x).isOpen],.slice a9 L.length c9]) (by simp only[zE,zn,zo,e1,e2,x3.trans e9]) ((k2 w' hJ0 a9 c9 h9).mono ?_);rintro e w2 ⟨a8,c8,rfl,ho8,hb2⟩;exact⟨_,rfl,_,rfl,⟨a8,c8,rfl,ho8.rdS λk hk hl=>⟨by have:=hJ0.size;omega,hl⟩⟩,hb2⟩
 case o16=>
  refine LnOp.sd (λA va w' k hF hT hk hJ hb hu hp hd=>?_);have x1:A.eval (.tmp 24)=va 15:=hT 24 15 (by simp) rfl;have y1:=hd ⟨15,.data⟩ (by simp) rfl rfl;obtain⟨a9,c9,e9,h9⟩:=y1;exact zq5 rfl (x1.trans e9) ⟨_,rfl,⟨a9,c9,rfl,h9⟩,ze _ _⟩
 case o17=>
  refine LnOp.line 0 rfl rfl (λA va w' hF hT hJ hu hd=>?_);have e1:=hF 2 rfl;have x2:A.eval (.tmp 25)=va 16:=hT 25 16 (by simp) rfl;have y2:=hd ⟨16,.data⟩ (by simp) rfl rfl;have hJ0:Below W1.heap.size W1 w':=hJ;obtain⟨a9,c9,e9,h9⟩:=y2;refine za3 (us:=[.int .i64 0,.bool false,.slice none 0 0,.slice a9 M.length c9]) (by kernel_rfl) rfl e1 (x2.trans e9) rfl (bz.below hJ0 (by omega)) rfl (λw2 hg hB2=>?_);exact⟨_,rfl,⟨(zb0 hJ0 rfl _).andThen hg (by simp),a9,c9,hB2,(h9.keep λk hk=>hg.block k hk.2 λe=>by injection e with e;have:=hk.1;omega).weak λk hk=>⟨hk.1,zm hk.2 hg.size⟩⟩,hg⟩
 case fin=>
  intro vs1 W9 hJ hG;obtain⟨hg9,pa,pc,hB,hr9⟩:=hJ;have g0:vs1 0=.pointer (some ⟨b,0,none⟩):=hG 0 (by decide) rfl;have g1:vs1 1=.pointer (some ⟨b,0,none⟩):=hG 1 (by decide) rfl;have g2:vs1 2=.pointer (some ⟨b,0+0,none⟩):=hG 2 (by decide) rfl;have g3:vs1 3=.agg #[.slice a d.writes.length c,.slice a2 d.marks.length c2]:=hG 3 (by decide) rfl;have g4:vs1 4=.agg #[.int .i64 (zay x).table,.slice xl (zay x).lo.length xc,.slice xh (zay x).hi.length xd,.bool (zay x).isOpen]:=hG 4 (by decide) rfl;have g5:vs1 5=.pointer (some ⟨b,0,none⟩):=hG 5 (by decide) rfl;have g6:vs1 6=.pointer (some ⟨b,0,none⟩):=hG 6 (by decide) rfl;have g7:vs1 7=.pointer (some ⟨b,0+2,none⟩):=hG 7 (by decide) rfl;have g8:vs1 8=.agg #[.slice (aS 0) (mS 0) (cS 0),.slice (aS 1) (mS 1) (cS 1),.slice (aS 2) (mS 2) (cS 2),.slice (aS 3) (mS 3) (cS 3),.slice (aS 4) (mS 4) (cS 4),.slice (aS 5) (mS 5) (cS 5),.slice (aS 6) (mS 6) (cS 6),.slice (aS 7) (mS 7) (cS 7),.slice (aS 8) (mS 8) (cS 8),.slice (aS 9) (mS 9) (cS 9),.slice (aS 10) (mS 10) (cS 10),.slice (aS 11) (mS 11) (cS 11)]:=hG 8 (by decide) rfl;have g9:vs1 9=.agg #[.int .i64 (zay x).table,.slice xl (zay x).lo.length xc,.slice xh (zay x).hi.length xd,.bool (zay x).isOpen]:=hG 9 (by decide) rfl;have g10:vs1 10=.pointer (some ⟨b,0,none⟩):=hG 10 (by decide) rfl;have g11:vs1 11=.pointer (some ⟨b,0,none⟩):=hG 11 (by decide) rfl;have g12:vs1 12=.pointer (some ⟨b,0+14,none⟩):=hG 12 (by decide) rfl;have g13:vs1 13=.int .i64 s:=hG 13 (by decide) rfl;simp only[zaj,g0,g1,g2,g3,g4,g5,g6,g7,g8,g9,g10,g11,g12,g13];clear hG g0 g1 g2 g3 g4 g5 g6 g7 g8 g9 g10 g11 g12 g13;go_simp;have d0:=hB.cell (i:=0) rfl;have d1:=hB.cell (i:=1) rfl;have d2:=hB.cell (i:=2) rfl;have d3:=hB.cell (i:=3) rfl;go_wp2_with fail;obtain⟨fs,hu,_⟩:=rpS.hu;refine zD (v:=.agg #[.int .i64 0,.bool false,.slice none 0 0,.slice pa M.length pc]) (by simp[results,Tryz.results69,go_sem,loadVar,isAgg,zr hu,zaa rpS.hs,loadCellsFrom,Addr.add,d0,d1,d2,d3]) rfl ?_;rw[show zi3 d (zay x) (zbr (zcp T x.table) (zay x) s)=M by rw[hM.out,hL.out]];have hTu:=hfb.past hg9 (λe=>by have:=hN.out;omega) (λe=>hbN e.symm);have zq:=q.size;have z9:=hg9.size;have hl:=h.lt;have ho:=h.out;refine⟨_,rfl,⟨none,0,pa,pc,rfl,RdS.nil _ _,hr9.weak λk hk=>⟨by omega,hk.2⟩⟩,hTu.weak (λk hk=>.inl hk.1) (λe=>e.elim ho λe=>by omega),?_⟩;exact zdl ((q.trans (q1.mono q.size)).grown hg9 (by omega) λk e=>by injection e with e;have:=hN.out;omega) _
theorem zrw{l:List Ver}{s:Int}{v:List UInt8}(hs:zb9 l)(h:zcd l s=some v):v.length<=1000:=by
 unfold zcd at h;repeat' split at h
 all_goals first
  |(cases h;done)
  |(injection h with h;subst h;exact hs.2 _ (zL _))
theorem zrl{T:Sto}(hf:fitS T) (x:Sp) (s:Int):smQ (zbr (zcp T x.table) x s):=by
  refine⟨by have:=zph T x s;omega,λq hq=>?_⟩;obtain⟨p,hp,e⟩:=xE.1 hq;have hp2:p.key.length<=16/\zb9 p.chain:=by
    unfold zcp at hp;split at hp
    · rename_i h
      have hk:=(h.2.2 x.table.toNat (by omega)).1;refine⟨?_,zgs (hf _ (by omega)) p hp⟩;unfold prN at hp;rw[zi hk]at hp;exact(((zdu _).1 hk.2).1 p hp).2.2
    ·cases hp
  unfold zfo at e;split at e
  ·cases hr:zcd p.chain s with
    |none=>rw[hr]at e;cases e
    |some v=>
      rw[hr]at e;injection e with e;subst e;have:=zrw hp2.2 hr;exact⟨zv hp2.1 (by omega),zv this (by omega)⟩
  ·cases e
section
variable {P : Program} {ops : Array Oper} {rest : List Oper} {o : Oper} {a : Act} {K : Act → World → Prop} {Q : Exit → Act → World → Prop} {w : World}
theorem zq2{f:FuncId}{c:Operand}{ts:Array TypeId}{p:Value}(ho:o.op=.call {callee:=.value c,args:=#[],argTypes:=ts})(hv:a.eval c=.func (.func f) #[p] #[])(eg:∀args w,(callFunc f args).run P w=.ok (.enter f args) w)(hc:Calls P f #[p] w (λe w'=>∃v,e=.returned v/\K (a.put o.dst v) w')):o.wp P a w K Q:=by
 have hrun:(execOp a.eval o).run P w=.ok (.enter f #[p]) w:=by
  simp[execOp,ho,resolve,hv,invoke,Deferred.ofValue,eg]
 unfold Oper.wp;rw[hrun,Oper.upon_enter];refine hc.mono (λe w' h=>?_);obtain⟨v,rfl,hk⟩:=h;exact hk
theorem zjr{f:FuncId}{c:Operand}{ts:Array TypeId}{p:Value}(ho:o.op=.call {callee:=.value c,args:=#[],argTypes:=ts})(hgd:Region.wanted o (yielded ops a.tmps)=true)(hv:a.eval c=.func (.func f) #[p] #[])(eg:∀args w,(callFunc f args).run P w=.ok (.enter f args) w)(hc:Calls P f #[p] w (λe w'=>∃v,e=.returned v/\wpList P ops Q rest (a.put o.dst v) w')):wpList P ops Q (o::rest) a w:=
 zQ hgd λ_ hK=>zq2 ho hv eg (hc.mono λ_ _ ⟨v,e,h⟩=>⟨v,e,hK _ _ h⟩)
end
def actF (k:Int):FuncId:=if k=1 then 65 else if k=2 then 66 else if k=3 then 67 else if k=4 then 68 else if k=5 then 69 else if k=6 then 70 else if k=7 then 71 else 72
theorem zsh (k:Int)(args:Array Value)(w:World):(callFunc (actF k) args).run Tryz.prog w=.ok (.enter (actF k) args) w:=by
 unfold actF;repeat' split
 ·exact(enters_of Tryz.func65 (by kernel_rfl) rfl:∀args w,(callFunc 65 args).run Tryz.prog w=.ok (.enter 65 args) w) args w
 ·exact(enters_of Tryz.func66 (by kernel_rfl) rfl:∀args w,(callFunc 66 args).run Tryz.prog w=.ok (.enter 66 args) w) args w
 ·exact(enters_of Tryz.func67 (by kernel_rfl) rfl:∀args w,(callFunc 67 args).run Tryz.prog w=.ok (.enter 67 args) w) args w
 ·exact(enters_of Tryz.func68 (by kernel_rfl) rfl:∀args w,(callFunc 68 args).run Tryz.prog w=.ok (.enter 68 args) w) args w
 ·exact(enters_of Tryz.func69 (by kernel_rfl) rfl:∀args w,(callFunc 69 args).run Tryz.prog w=.ok (.enter 69 args) w) args w
 ·exact(enters_of Tryz.func70 (by kernel_rfl) rfl:∀args w,(callFunc 70 args).run Tryz.prog w=.ok (.enter 70 args) w) args w
 ·exact(enters_of Tryz.func71 (by kernel_rfl) rfl:∀args w,(callFunc 71 args).run Tryz.prog w=.ok (.enter 71 args) w) args w
 ·exact(enters_of Tryz.func72 (by kernel_rfl) rfl:∀args w,(callFunc 72 args).run Tryz.prog w=.ok (.enter 72 args) w) args w
theorem does_any(w:World){D:Nat}{S:Nat->Prop}{b:Nat}{d:Dl}{T:Sto}{s:Int}{x:Tx}(h:Tu D S w b d T s x):Calls Tryz.prog 41 #[.pointer (some ⟨b,0,none⟩)] w λe w'=>e=.returned (.func (.func (actF x.kind)) #[.pointer (some ⟨b,0,none⟩)] #[])/\w'=w:=by
  obtain⟨a,c,a2,c2,aS,mS,cS,kA,hA,vA,kC,hC,vC,bt,hd,hT,hk,hh,hv,ht,hSb,hDb⟩:=h;have c15:=bt.cell (i:=15) rfl;clear bt hd hT hk hh hv hSb;obtain⟨f,hf⟩:∃f,f=actF x.kind:=⟨_,rfl⟩;rw[<-hf];unfold Tx64 W64 at ht;by_cases k1:x.kind=1
  · skip
    have g1:(x.kind==1)=true:=zK.2 (by omega);have hf2:=Lib.hid (show f=65 by rw[hf];unfold actF;simp[k1]);clear hf k1;go_enter Tryz.func41,Tryz.ntmps41;go_wp2_with fail;go_ret;exact⟨by rw[hf2.out];rfl,rfl⟩
  by_cases k2:x.kind=2
  · skip
    have g1:(x.kind==1)=false:=zt.2 (by omega);have g2:(x.kind==2)=true:=zK.2 (by omega);have hf2:=Lib.hid (show f=66 by rw[hf];unfold actF;simp[k2]);clear hf k1 k2;go_enter Tryz.func41,Tryz.ntmps41;go_wp2_with fail;go_ret;exact⟨by rw[hf2.out];rfl,rfl⟩
  by_cases k3:x.kind=3
  · skip
    have g1:(x.kind==1)=false:=zt.2 (by omega);have g2:(x.kind==2)=false:=zt.2 (by omega);have g3:(x.kind==3)=true:=zK.2 (by omega);have hf2:=Lib.hid (show f=67 by rw[hf];unfold actF;simp[k3]);clear hf k1 k2 k3;go_enter Tryz.func41,Tryz.ntmps41;go_wp2_with fail;go_ret;exact⟨by rw[hf2.out];rfl,rfl⟩
  by_cases k4:x.kind=4
  · skip
    have g1:(x.kind==1)=false:=zt.2 (by omega);have g2:(x.kind==2)=false:=zt.2 (by omega);have g3:(x.kind==3)=false:=zt.2 (by omega);have g4:(x.kind==4)=true:=zK.2 (by omega);have hf2:=Lib.hid (show f=68 by rw[hf];unfold actF;simp[k4]);clear hf k1 k2 k3 k4;go_enter Tryz.func41,Tryz.ntmps41;go_wp2_with fail;go_ret;exact⟨by rw[hf2.out];rfl,rfl⟩
  by_cases k5:x.kind=5
  · skip
    have g1:(x.kind==1)=false:=zt.2 (by omega);have g2:(x.kind==2)=false:=zt.2 (by omega);have g3:(x.kind==3)=false:=zt.2 (by omega);have g4:(x.kind==4)=false:=zt.2 (by omega);have g5:(x.kind==5)=true:=zK.2 (by omega);have hf2:=Lib.hid (show f=69 by rw[hf];unfold actF;simp[k5]);clear hf k1 k2 k3 k4 k5;go_enter Tryz.func41,Tryz.ntmps41;go_wp2_with fail;go_ret;exact⟨by rw[hf2.out];rfl,rfl⟩
  by_cases k6:x.kind=6
  · skip
    have g1:(x.kind==1)=false:=zt.2 (by omega);have g2:(x.kind==2)=false:=zt.2 (by omega);have g3:(x.kind==3)=false:=zt.2 (by omega);have g4:(x.kind==4)=false:=zt.2 (by omega);have g5:(x.kind==5)=false:=zt.2 (by omega);have g6:(x.kind==6)=true:=zK.2 (by omega);have hf2:=Lib.hid (show f=70 by rw[hf];unfold actF;simp[k6]);clear hf k1 k2 k3 k4 k5 k6;go_enter Tryz.func41,Tryz.ntmps41;go_wp2_with fail;go_ret;exact⟨by rw[hf2.out];rfl,rfl⟩
  by_cases k7:x.kind=7
  · skip
    have g1:(x.kind==1)=false:=zt.2 (by omega);have g2:(x.kind==2)=false:=zt.2 (by omega);have g3:(x.kind==3)=false:=zt.2 (by omega);have g4:(x.kind==4)=false:=zt.2 (by omega);have g5:(x.kind==5)=false:=zt.2 (by omega);have g6:(x.kind==6)=false:=zt.2 (by omega);have g7:(x.kind==7)=true:=zK.2 (by omega);have hf2:=Lib.hid (show f=71 by rw[hf];unfold actF;simp[k7]);clear hf k1 k2 k3 k4 k5 k6 k7;go_enter Tryz.func41,Tryz.ntmps41;go_wp2_with fail;go_ret;exact⟨by rw[hf2.out];rfl,rfl⟩
  have g1:(x.kind==1)=false:=zt.2 (by omega);have g2:(x.kind==2)=false:=zt.2 (by omega);have g3:(x.kind==3)=false:=zt.2 (by omega);have g4:(x.kind==4)=false:=zt.2 (by omega);have g5:(x.kind==5)=false:=zt.2 (by omega);have g6:(x.kind==6)=false:=zt.2 (by omega);have g7:(x.kind==7)=false:=zt.2 (by omega);have hf2:=Lib.hid (show f=72 by rw[hf];unfold actF;simp[*]);clear hf k1 k2 k3 k4 k5 k6 k7;go_enter Tryz.func41,Tryz.ntmps41;go_wp2_with fail;go_ret;exact⟨by rw[hf2.out];rfl,rfl⟩
theorem act_any (w:World){D:Nat}{S:Nat->Prop}{b:Nat}{d:Dl}{T:Sto}{s:Int}{x:Tx}(h:Tu D S w b d T s x)(hs:smD d)(hf:fitS T)(hk:okS T)(h1:x.key.length<=1000000)(h2:x.hi.length<=1000000)(h3:x.val.length<=1000000):Calls Tryz.prog (actF x.kind) #[.pointer (some ⟨b,0,none⟩)] w (zfv D S w b T s x (onX d (zrx (tabS T) x.table) s x)):=by
 rw[zog hk];unfold actF onX
 repeat' (refine dite (x.kind=_) (λe=>by
  rw[zi e,zi e];first
   |exact zsw w h hs hf
   |exact zl6 w h hs h1 h3
   |exact zl7 w h hs hf h1 h3
   |exact zl5 w h hs hf h1
   |exact zra w h hf h1 h2 (zrl hf (zay x) s) (zv (zph T (zay x) s) (by omega))
   |exact zrb w h hs
   |exact zrc w h hs) (λe=>?_);rw[zh e,zh e];clear e)
 exact zkn w h
theorem boxes5 (w:World)(t0 t1 t2 t3 t4:TypeId)(u0 u1 u2 u3 u4:List Value):∃W,W=((((w.alloc (.cells u0.toArray t0)).alloc (.cells u1.toArray t1)).alloc (.cells u2.toArray t2)).alloc (.cells u3.toArray t3)).alloc (.cells u4.toArray t4)/\Below w.heap.size w W/\BoxN W w.heap.size t0 u0/\BoxN W (w.heap.size+1) t1 u1/\BoxN W (w.heap.size+1+1) t2 u2/\BoxN W (w.heap.size+1+1+1) t3 u3/\BoxN W (w.heap.size+1+1+1+1) t4 u4/\W.heap.size=w.heap.size+1+1+1+1+1:=by
 obtain⟨V,hV,h1,h2,h3,h4,h5⟩:=spBoxes3 w t0 t1 t2 u0 u1 u2;obtain⟨U,hU,g1,g2,g3,g4⟩:=ze2 V t3 t4 u3 u4;rw[h5]at g2 g3 g4;exact⟨U,by rw[hU,hV],h1.trans (g1.mono h1.size),h2.below g1 h2.lt,h3.below g1 h3.lt,h4.below g1 h4.lt,g2,g3,g4⟩
def DoEnd (w:World)(r:Dl×Rp)(e:Ending)(w':World):Prop:=∃u v,e=.returned (.tuple #[u,v])/\RdDl (λk=>w.heap.size<=k) w' u r.1/\RdRp (λk=>w.heap.size<=k) w' v r.2/\Below w.heap.size w w'
theorem back_no (d:Dl):zc0 d (-1)=(d,1):=by
 unfold zc0;rw[zh];intro h;have:=h.2.1;omega
def DoB(W:World)(N M:Nat)(us vs:List Value)(p1 p2:Bool)(V:World):Prop:=
 (W.os=V.os/\W.tape=V.tape/\W.output=V.output/\W.heap.size<=V.heap.size)/\(∀k,k<W.heap.size->k≠N->k≠M->V.heap[k]?=W.heap[k]?)/\BoxN V N 41 (if p1 then us else[.slice none 0 0,.slice none 0 0])/\BoxN V M 54 (if p2 then vs else[.int .i64 0,.bool false,.slice none 0 0,.slice none 0 0])
def DoE(W:World)(N M:Nat)(us vs:List Value):List (Option Value)->World->Prop
 |[s1,s2],V=>DoB W N M us vs s1.isSome s2.isSome V
 |_,_=>False
theorem DoE.below{W:World}{N M:Nat}{us vs:List Value}:∀(l:List (Option Value))(V V':World),DoE W N M us vs l V->Below V.heap.size V V'->DoE W N M us vs l V'
 |[_,_],_,_,⟨⟨h1,h2,h3,h4⟩,h5,h6,h7⟩,hb=>⟨⟨h1.trans hb.os.symm,h2.trans hb.tape.symm,h3.trans hb.output.symm,zv h4 hb.size⟩,λk hk e1 e2=>(hb.block k (zm hk h4)).trans (h5 k hk e1 e2),h6.below hb h6.lt,h7.below hb h7.lt⟩
theorem tDo_any(w:World){S:Nat->Prop}{vd vs vx:Value}{d:Dl}{T:Sto}{s:Int}{x:Tx}(hd:RdDl S w vd d)(hs:smD d)(hT:RdSt S w vs T)(hf:fitS T)(hx:RdTx S w vx x)(h1:x.key.length<=1000000)(h2:x.hi.length<=1000000)(h3:x.val.length<=1000000):Calls Tryz.prog 21 #[vd,vs,.int .i64 s,vx] w (DoEnd w (doX d T s x)):=by
  obtain⟨a,c,a2,c2,rfl,_⟩:=id hd;obtain⟨aS,mS,cS,rfl,_⟩:=id hT;obtain⟨kA,hA,vA,kC,hC,vC,rfl,_⟩:=id hx;obtain⟨W,hW,q,B0,B1,B2,B3,B4,hsz⟩:=boxes5 w 41 49 25 41 54 [.slice a d.writes.length c,.slice a2 d.marks.length c2] [.slice (aS 0) (mS 0) (cS 0),.slice (aS 1) (mS 1) (cS 1),.slice (aS 2) (mS 2) (cS 2),.slice (aS 3) (mS 3) (cS 3),.slice (aS 4) (mS 4) (cS 4),.slice (aS 5) (mS 5) (cS 5),.slice (aS 6) (mS 6) (cS 6),.slice (aS 7) (mS 7) (cS 7),.slice (aS 8) (mS 8) (cS 8),.slice (aS 9) (mS 9) (cS 9),.slice (aS 10) (mS 10) (cS 10),.slice (aS 11) (mS 11) (cS 11)] [.int .i64 x.kind,.int .i64 x.table,.slice kA x.key.length kC,.slice hA x.hi.length hC,.bool x.isOpen,.slice vA x.val.length vC,.int .i64 x.n] [.slice none 0 0,.slice none 0 0] [.int .i64 0,.bool false,.slice none 0 0,.slice none 0 0];go_enter Tryz.func21,Tryz.ntmps21;go_upto_region 1 with(fail);rw[show(((((w.alloc (.cells #[.slice a d.writes.length c,.slice a2 d.marks.length c2] 41)).alloc (.cells #[.slice (aS 0) (mS 0) (cS 0),.slice (aS 1) (mS 1) (cS 1),.slice (aS 2) (mS 2) (cS 2),.slice (aS 3) (mS 3) (cS 3),.slice (aS 4) (mS 4) (cS 4),.slice (aS 5) (mS 5) (cS 5),.slice (aS 6) (mS 6) (cS 6),.slice (aS 7) (mS 7) (cS 7),.slice (aS 8) (mS 8) (cS 8),.slice (aS 9) (mS 9) (cS 9),.slice (aS 10) (mS 10) (cS 10),.slice (aS 11) (mS 11) (cS 11)] 49)).alloc (.cells #[.int .i64 x.kind,.int .i64 x.table,.slice kA x.key.length kC,.slice hA x.hi.length hC,.bool x.isOpen,.slice vA x.val.length vC,.int .i64 x.n] 25)).alloc (.cells #[.slice none 0 0,.slice none 0 0] 41)).alloc (.cells #[.int .i64 0,.bool false,.slice none 0 0,.slice none 0 0] 54))=W from hW.symm];clear hW;have b0:=B0.cell (i:=0) rfl;have b1:=B0.cell (i:=1) rfl;have hcl:=zng W (i:=-1) (hd.below q) hs;rw[back_no]at hcl;go_wp2_with fail;refine hcl.mono ?_;rintro e w1⟨v1,rfl,hO,hb⟩;clear hcl b0 b1;obtain⟨oa,oc,om,on_,rfl,_⟩:=id hO;go_upto_region 2 with(first|(refine za2 (vs:=[.slice none 0 0,.slice none 0 0]) (by kernel_rfl) rfl rfl ?_;intro wa hba hBa)|(refine zab (us:=[.slice oa d.writes.length oc,.slice om d.marks.length on_]) (by kernel_rfl) rfl rfl rfl rfl rfl rfl hBa rfl ?_;intro w2 hgw B5)|fail);try go_simp
  have hbw:=hba.grown hgw hba.size λk hk=>by injection hk with hk;omega
  have zb:=hb.size;have zw:=hbw.size;have q2:Below W.heap.size W w2:=hb.trans (hbw.mono hb.size);obtain⟨N5,hN5⟩:∃n,n=w1.heap.size:=⟨_,rfl⟩;rw[<-hN5]at B5;rw[<-hN5];have hN5W:W.heap.size<=N5:=by omega
  clear hba hBa hgw hN5;replace hO:=hO.below hbw;replace hO:RdDl (λk=>W.heap.size<=k) w2 _ d:=hO.weak λk hk=>hk.1
  clear hb hbw;replace hd:=(hd.below q).below q2;replace hT:=(hT.fit.below q).below q2;replace hx:=(hx.fit.below q).below q2;replace B0:=B0.below q2 B0.lt;replace B1:=B1.below q2 B1.lt;replace B2:=B2.below q2 B2.lt;replace B3:=B3.below q2 B3.lt;replace B4:=B4.below q2 B4.lt;have q3:Below w.heap.size w w2:=q.trans (q2.mono q.size);have zq:=q.size;have z2:=q2.size;clear q2;have s0:=B1.cell (i:=0) rfl;have s1:=B1.cell (i:=1) rfl;have s2:=B1.cell (i:=2) rfl;have s3:=B1.cell (i:=3) rfl;have s4:=B1.cell (i:=4) rfl;have s5:=B1.cell (i:=5) rfl;have s6:=B1.cell (i:=6) rfl;have s7:=B1.cell (i:=7) rfl;have s8:=B1.cell (i:=8) rfl;have s9:=B1.cell (i:=9) rfl;have s10:=B1.cell (i:=10) rfl;have s11:=B1.cell (i:=11) rfl;have hcl:=zg8 w2 hT hf;go_wp2_with fail;refine hcl.mono ?_;rintro e w3⟨rfl,hb⟩;clear hcl;clear s0 s1 s2 s3 s4 s5 s6 s7 s8 s9 s10 s11;replace hO:=hO.below hb;replace hd:=hd.below hb;replace hT:=hT.below hb;replace hx:=hx.below hb;replace B0:=B0.below hb B0.lt;replace B1:=B1.below hb B1.lt;replace B2:=B2.below hb B2.lt;replace B3:=B3.below hb B3.lt;replace B4:=B4.below hb B4.lt;replace B5:=B5.below hb B5.lt;replace q3:=q3.trans (hb.mono q3.size);have z3:=hb.size;clear hb;by_cases hk:okS T;case neg=>
    rw[zj hk];have hno:doX d T s x=(d,⟨1,false,[],[]⟩):=zhx (λh=>hk h.1);have f0:=B5.cell (i:=0) rfl;have f1:=B5.cell (i:=1) rfl;have q4:=q3.size;go_wp2_with(first|(refine zab (us:=[.slice oa d.writes.length oc,.slice om d.marks.length on_]) (by kernel_rfl) rfl rfl rfl rfl rfl rfl B3 rfl ?_;intro wx hgx C3;have B4x:=B4.other hgx (λe=>by injection e with e;omega))|(refine zab (us:=[.int .i64 1,.bool false,.slice none 0 0,.slice none 0 0]) (by kernel_rfl) rfl rfl rfl rfl rfl rfl B4x rfl ?_;intro wy hgy C4)|fail);replace C3:=C3.other hgy (λe=>by injection e with e;omega);have d0:=C3.cell (i:=0) rfl;have d1:=C3.cell (i:=1) rfl;have e0:=C4.cell (i:=0) rfl;have e1:=C4.cell (i:=1) rfl;have e2:=C4.cell (i:=2) rfl;have e3:=C4.cell (i:=3) rfl;obtain⟨fs,hu,_⟩:=dlS.hu;obtain⟨fs2,hu2,_⟩:=rpS.hu;refine zD (v:=.tuple #[.agg #[.slice oa d.writes.length oc,.slice om d.marks.length on_],.agg #[.int .i64 1,.bool false,.slice none 0 0,.slice none 0 0]]) (by simp[results,Tryz.results21,go_sem,loadVar,isAgg,zr hu,zaa dlS.hs,zr hu2,zaa rpS.hs,loadCellsFrom,Addr.add,d0,d1,e0,e1,e2,e3]) rfl ?_;rw[hno];have zx:=hgx.size;have zy:=hgy.size;refine⟨_,_,rfl,(((RdDl.fit hO).keep λk hk=>?_).weak λk hk=>by omega),⟨none,0,none,0,rfl,RdS.nil _ _,RdL.nil _ _ _⟩,(q3.grown hgx q4 λk e=>by injection e with e;omega).grown hgy (by omega) λk e=>by injection e with e;omega⟩;exact(hgy.block k (by omega) λe=>by injection e with e;omega).trans (hgx.block k (by omega) λe=>by injection e with e;omega)
  rw[zk hk];have f0:=B0.cell (i:=0) rfl;have f1:=B0.cell (i:=1) rfl;have hcl:=zd7 w3 hd;go_wp2_with fail;refine hcl.mono ?_;rintro e w4⟨rfl,hb⟩;clear hcl;clear f0 f1;replace hO:=hO.below hb;replace hd:=hd.below hb;replace hT:=hT.below hb;replace hx:=hx.below hb;replace B0:=B0.below hb B0.lt;replace B1:=B1.below hb B1.lt;replace B2:=B2.below hb B2.lt;replace B3:=B3.below hb B3.lt;replace B4:=B4.below hb B4.lt;replace B5:=B5.below hb B5.lt;replace q3:=q3.trans (hb.mono q3.size);have z4:=hb.size;clear hb;by_cases hkd:okD d;case neg=>
    rw[zj hkd];have hno:doX d T s x=(d,⟨1,false,[],[]⟩):=zhx (λh=>hkd h.2.1);have f0:=B5.cell (i:=0) rfl;have f1:=B5.cell (i:=1) rfl;have q4:=q3.size;go_wp2_with(first|(refine zab (us:=[.slice oa d.writes.length oc,.slice om d.marks.length on_]) (by kernel_rfl) rfl rfl rfl rfl rfl rfl B3 rfl ?_;intro wx hgx C3;have B4x:=B4.other hgx (λe=>by injection e with e;omega))|(refine zab (us:=[.int .i64 1,.bool false,.slice none 0 0,.slice none 0 0]) (by kernel_rfl) rfl rfl rfl rfl rfl rfl B4x rfl ?_;intro wy hgy C4)|fail);replace C3:=C3.other hgy (λe=>by injection e with e;omega);have d0:=C3.cell (i:=0) rfl;have d1:=C3.cell (i:=1) rfl;have e0:=C4.cell (i:=0) rfl;have e1:=C4.cell (i:=1) rfl;have e2:=C4.cell (i:=2) rfl;have e3:=C4.cell (i:=3) rfl;obtain⟨fs,hu,_⟩:=dlS.hu;obtain⟨fs2,hu2,_⟩:=rpS.hu;refine zD (v:=.tuple #[.agg #[.slice oa d.writes.length oc,.slice om d.marks.length on_],.agg #[.int .i64 1,.bool false,.slice none 0 0,.slice none 0 0]]) (by simp[results,Tryz.results21,go_sem,loadVar,isAgg,zr hu,zaa dlS.hs,zr hu2,zaa rpS.hs,loadCellsFrom,Addr.add,d0,d1,e0,e1,e2,e3]) rfl ?_;rw[hno];have zx:=hgx.size;have zy:=hgy.size;refine⟨_,_,rfl,(((RdDl.fit hO).keep λk hk=>?_).weak λk hk=>by omega),⟨none,0,none,0,rfl,RdS.nil _ _,RdL.nil _ _ _⟩,(q3.grown hgx q4 λk e=>by injection e with e;omega).grown hgy (by omega) λk e=>by injection e with e;omega⟩;exact(hgy.block k (by omega) λe=>by injection e with e;omega).trans (hgx.block k (by omega) λe=>by injection e with e;omega)
  rw[zk hkd];have f0:=B2.cell (i:=0) rfl;have f1:=B2.cell (i:=1) rfl;have f2:=B2.cell (i:=2) rfl;have f3:=B2.cell (i:=3) rfl;have f4:=B2.cell (i:=4) rfl;have f5:=B2.cell (i:=5) rfl;have f6:=B2.cell (i:=6) rfl;have hcl:=tCheckX_any w4 hx;go_wp2_with fail;refine hcl.mono ?_;rintro e w5⟨rfl,hb⟩;clear hcl;clear f0 f1 f2 f3 f4 f5 f6;replace hO:=hO.below hb;replace hd:=hd.below hb;replace hT:=hT.below hb;replace hx:=hx.below hb;replace B0:=B0.below hb B0.lt;replace B1:=B1.below hb B1.lt;replace B2:=B2.below hb B2.lt;replace B3:=B3.below hb B3.lt;replace B4:=B4.below hb B4.lt;replace B5:=B5.below hb B5.lt;replace q3:=q3.trans (hb.mono q3.size);have z5:=hb.size;clear hb;by_cases hkx:okX x;case neg=>
    rw[show errX x=1 from zh hkx];have hno:doX d T s x=(d,⟨1,false,[],[]⟩):=zhx (λh=>hkx h.2.2);have f0:=B5.cell (i:=0) rfl;have f1:=B5.cell (i:=1) rfl;have q4:=q3.size;go_wp2_with(first|(refine zab (us:=[.slice oa d.writes.length oc,.slice om d.marks.length on_]) (by kernel_rfl) rfl rfl rfl rfl rfl rfl B3 rfl ?_;intro wx hgx C3;have B4x:=B4.other hgx (λe=>by injection e with e;omega))|(refine zab (us:=[.int .i64 1,.bool false,.slice none 0 0,.slice none 0 0]) (by kernel_rfl) rfl rfl rfl rfl rfl rfl B4x rfl ?_;intro wy hgy C4)|fail);replace C3:=C3.other hgy (λe=>by injection e with e;omega);have d0:=C3.cell (i:=0) rfl;have d1:=C3.cell (i:=1) rfl;have e0:=C4.cell (i:=0) rfl;have e1:=C4.cell (i:=1) rfl;have e2:=C4.cell (i:=2) rfl;have e3:=C4.cell (i:=3) rfl;obtain⟨fs,hu,_⟩:=dlS.hu;obtain⟨fs2,hu2,_⟩:=rpS.hu;refine zD (v:=.tuple #[.agg #[.slice oa d.writes.length oc,.slice om d.marks.length on_],.agg #[.int .i64 1,.bool false,.slice none 0 0,.slice none 0 0]]) (by simp[results,Tryz.results21,go_sem,loadVar,isAgg,zr hu,zaa dlS.hs,zr hu2,zaa rpS.hs,loadCellsFrom,Addr.add,d0,d1,e0,e1,e2,e3]) rfl ?_;rw[hno];have zx:=hgx.size;have zy:=hgy.size;refine⟨_,_,rfl,(((RdDl.fit hO).keep λk hk=>?_).weak λk hk=>by omega),⟨none,0,none,0,rfl,RdS.nil _ _,RdL.nil _ _ _⟩,(q3.grown hgx q4 λk e=>by injection e with e;omega).grown hgy (by omega) λk e=>by injection e with e;omega⟩;exact(hgy.block k (by omega) λe=>by injection e with e;omega).trans (hgx.block k (by omega) λe=>by injection e with e;omega)
  rw[show errX x=0 from zi hkx];have hyes:=ze7 (s:=s) hk hkd hkx;go_upto_region 4 with(fail);have f0:=B5.cell (i:=0) rfl;have f1:=B5.cell (i:=1) rfl;have s0:=B1.cell (i:=0) rfl;have s1:=B1.cell (i:=1) rfl;have s2:=B1.cell (i:=2) rfl;have s3:=B1.cell (i:=3) rfl;have s4:=B1.cell (i:=4) rfl;have s5:=B1.cell (i:=5) rfl;have s6:=B1.cell (i:=6) rfl;have s7:=B1.cell (i:=7) rfl;have s8:=B1.cell (i:=8) rfl;have s9:=B1.cell (i:=9) rfl;have s10:=B1.cell (i:=10) rfl;have s11:=B1.cell (i:=11) rfl;have x0:=B2.cell (i:=0) rfl;have x1:=B2.cell (i:=1) rfl;have x2:=B2.cell (i:=2) rfl;have x3:=B2.cell (i:=3) rfl;have x4:=B2.cell (i:=4) rfl;have x5:=B2.cell (i:=5) rfl;have x6:=B2.cell (i:=6) rfl;go_upto_region 5 with(first|(refine za2 (vs:=[.slice none 0 0,.slice none 0 0,.slice none 0 0,.slice none 0 0,.slice none 0 0,.slice none 0 0,.slice none 0 0,.slice none 0 0,.slice none 0 0,.slice none 0 0,.slice none 0 0,.slice none 0 0,.slice none 0 0,.slice none 0 0,.int .i64 0,.int .i64 0,.int .i64 0,.slice none 0 0,.slice none 0 0,.bool false,.slice none 0 0,.int .i64 0]) (by kernel_rfl) rfl rfl ?_;intro wa hba hBa)|(refine zab (us:=[.slice oa d.writes.length oc,.slice om d.marks.length on_,.slice (aS 0) (mS 0) (cS 0),.slice (aS 1) (mS 1) (cS 1),.slice (aS 2) (mS 2) (cS 2),.slice (aS 3) (mS 3) (cS 3),.slice (aS 4) (mS 4) (cS 4),.slice (aS 5) (mS 5) (cS 5),.slice (aS 6) (mS 6) (cS 6),.slice (aS 7) (mS 7) (cS 7),.slice (aS 8) (mS 8) (cS 8),.slice (aS 9) (mS 9) (cS 9),.slice (aS 10) (mS 10) (cS 10),.slice (aS 11) (mS 11) (cS 11),.int .i64 s,.int .i64 x.kind,.int .i64 x.table,.slice kA x.key.length kC,.slice hA x.hi.length hC,.bool x.isOpen,.slice vA x.val.length vC,.int .i64 x.n]) (by kernel_rfl) rfl rfl rfl rfl rfl rfl hBa rfl ?_;intro w6 hgw B6)|fail);try go_simp
  clear f0 f1;clear s0 s1 s2 s3 s4 s5 s6 s7 s8 s9 s10 s11;clear x0 x1 x2 x3 x4 x5 x6;have hbw:=hba.grown hgw hba.size λk hk=>by injection hk with hk;omega
  have z6:=hbw.size;obtain⟨N6,hN6⟩:∃n,n=w5.heap.size:=⟨_,rfl⟩;rw[<-hN6]at B6;rw[<-hN6];replace hO:RdDl (λk=>W.heap.size<=k/\k<w5.heap.size) w6 _ d:=(RdDl.fit hO).below hbw;replace hT:=hT.below hbw;replace hx:=hx.below hbw;replace B3:=B3.below hbw B3.lt;replace B4:=B4.below hbw B4.lt;replace q3:=q3.trans (hbw.mono q3.size);clear hba hBa hgw hd B0 B1 B2 B5;have q4:=q3.size;obtain⟨_,_,_,_,_,_,ex,hx1,hx2,hx3,hx4⟩:=hx;injection ex with ex;injection ex with ex;injection ex with _ ex;injection ex with _ ex;injection ex with g1 ex;injection ex with g2 ex;injection ex with _ ex;injection ex with g3 _;rw[<-g1]at hx1;rw[<-g2]at hx2;rw[<-g3]at hx3;clear g1 g2 g3;have l6:=B6.lt;have hTu:Tu W.heap.size (λk=>((S k/\k<w.heap.size)\/W.heap.size<=k)/\k≠N6) w6 N6 d T s x:=⟨oa,oc,om,on_,aS,mS,cS,kA,hA,vA,kC,hC,vC,B6,hO.weak (λk hk=>⟨⟨.inr hk.1,by omega⟩,hk.1⟩),hT.weak (λk hk=>⟨.inl hk,by omega⟩),hx1.weak (λk hk=>⟨.inl hk,by omega⟩),hx2.weak (λk hk=>⟨.inl hk,by omega⟩),hx3.weak (λk hk=>⟨.inl hk,by omega⟩),hx4,λh=>h.2 rfl,by omega⟩;have hN6W:W.heap.size<=N6:=by omega
  clear hO hT hx1 hx2 hx3 B6 hN6 hkx hkd;have hcl:=does_any w6 hTu;replace hTu:=Lib.hid hTu;replace hyes:=Lib.hid hyes;go_wp2_with fail;refine hcl.mono ?_;rintro e _⟨rfl,rfl⟩;clear hcl;obtain⟨r,hr⟩:∃r,r=doX d T s x:=⟨_,rfl⟩;have hcl:=act_any _ hTu.out hs hf hk h1 h2 h3;rw[<-hyes.out,<-hr]at hcl;replace hr:=Lib.hid hr;clear hyes hTu;go_upto_region 7 with(first|(refine zjr rfl rfl rfl (zsh x.kind) (hcl.mono ?_);rintro e w7⟨v7,rfl,hR,hTu,hg7⟩;refine⟨_,rfl,?_⟩;obtain⟨ra,rc,pa,pc,e9,_⟩:=id hR;subst e9)|(refine za2 (vs:=[.int .i64 0,.bool false,.slice none 0 0,.slice none 0 0]) (by kernel_rfl) rfl rfl ?_;intro wc hbc hBc)|(refine zab (us:=[.int .i64 (r.2.err:Int),.bool r.2.found,.slice ra r.2.val.length rc,.slice pa r.2.pairs.length pc]) (by kernel_rfl) rfl rfl rfl rfl rfl rfl hBc rfl ?_;intro w8 hgc B8)|fail);try go_simp
  clear hcl;have hbw:=hbc.grown hgc hbc.size λk hk=>by injection hk with hk;omega
  have z7:=hg7.size;have z8:=hbw.size;replace hR:=hR.below hbw;replace hTu:=hTu.below hbw;replace B3:=(B3.other hg7 (λe=>by injection e with e;omega)).below hbw (by have:=B3.lt;omega);replace B4:=(B4.other hg7 (λe=>by injection e with e;omega)).below hbw (by have:=B4.lt;omega);obtain⟨N8,hN8⟩:∃n,n=w7.heap.size:=⟨_,rfl⟩;rw[<-hN8]at B8;rw[<-hN8];have hN8W:W.heap.size<=N8:=by omega
  have q7:=(q3.grown hg7 q3.size (λk e=>by injection e with e;omega)).trans (hbw.mono (by omega));clear hbc hBc hgc hbw hN8 hg7;obtain⟨ua,uc,um,un,aS2,mS2,cS2,kA2,hA2,vA2,kC2,hC2,vC2,B6,hdr,_⟩:=hTu;have l8:=B8.lt;have l6:=B6.lt;have h36:N6≠w.heap.size+1+1+1:=by omega
  have h46:N6≠w.heap.size+1+1+1+1:=by omega
  have h38:N8≠w.heap.size+1+1+1:=by omega
  have h48:N8≠w.heap.size+1+1+1+1:=by omega
  obtain⟨N3,hN3⟩:∃n,n=w.heap.size+1+1+1:=⟨_,rfl⟩;obtain⟨N4,hN4⟩:∃n,n=w.heap.size+1+1+1+1:=⟨_,rfl⟩;rw[<-hN3]at B3 h36 h38;rw[<-hN4]at B4 h46 h48;rw[<-hN4,<-hN3];have h34:N3≠N4:=by omega
  have h3W:w.heap.size<=N3/\N3<W.heap.size:=by omega
  have h4W:w.heap.size<=N4/\N4<W.heap.size:=by omega
  clear hN3 hN4;have hE0:∀(V:World){l:List (Option Value)},DoE w8 N3 N4 [.slice ua r.1.writes.length uc,.slice um r.1.marks.length un] [.int .i64 (r.2.err:Int),.bool r.2.found,.slice ra r.2.val.length rc,.slice pa r.2.pairs.length pc] l V->∀k,k<w8.heap.size->k≠N3->k≠N4->V.heap[k]?=w8.heap[k]?:=λV l h k h1 h2 h3=>by
    match l,h with
    |[_,_],h=>exact h.2.1 k h1 h2 h3
  refine zcn (K:=λ_ _=>True) (by kernel_rfl) (by kernel_rfl) [3,4] (by kernel_rfl) [lEq (.pointer (some ⟨N6,0+0,none⟩)),lEq (.agg #[.slice ua r.1.writes.length uc,.slice um r.1.marks.length un]),lEq (.agg #[.int .i64 (r.2.err:Int),.bool r.2.found,.slice ra r.2.val.length rc,.slice pa r.2.pairs.length pc]),lAny,lAny]
    (DoE w8 N3 N4 [.slice ua r.1.writes.length uc,.slice um r.1.marks.length un] [.int .i64 (r.2.err:Int),.bool r.2.found,.slice ra r.2.val.length rc,.slice pa r.2.pairs.length pc]) DoE.below (show DoB w8 N3 N4 _ _ false false w8 from⟨⟨rfl,rfl,rfl,zf _⟩,λ_ _ _ _=>rfl,B3,B4⟩)
    ⟨?o0,?o1,?o2,?o3,?o4,trivial⟩ ?fin
  case o0=>
    refine StOp.free rfl (by kernel_rfl) (λA va D w' hF hT hN hE hd hu hg=>?_);have e1:=hF 12 rfl;exact za6 tuF0 rfl (e1) ⟨_,rfl,rfl,ze _ _⟩
  case o1=>
    refine StOp.free rfl (by kernel_rfl) (λA va D w' hF hT hN hE hd hu hg=>?_);have e1:=(hT 43 0 (by simp) rfl).trans (hg ⟨0,.data⟩ (by simp) rfl rfl);have e9:∀o v,w8.cell? ⟨N6,o,none⟩=some v->w'.cell? ⟨N6,o,none⟩=some v:=λo v h=>(zag (hE0 w' hE N6 l6 h36 h46) o).trans h
    exact ze0 dlS rfl e1 (e9 _ _ (B6.cell (i:=0) rfl)) (e9 _ _ (B6.cell (i:=1) rfl)) ⟨_,rfl,rfl,ze _ _⟩
  case o2=>
    refine StOp.free rfl (by kernel_rfl) (λA va D w' hF hT hN hE hd hu hg=>?_);have e1:=hF 14 rfl;have e9:∀o v,w8.cell? ⟨N8,o,none⟩=some v->w'.cell? ⟨N8,o,none⟩=some v:=λo v h=>(zag (hE0 w' hE N8 l8 h38 h48) o).trans h
    exact zdj rpS rfl e1 (e9 _ _ (B8.cell (i:=0) rfl)) (e9 _ _ (B8.cell (i:=1) rfl)) (e9 _ _ (B8.cell (i:=2) rfl)) (e9 _ _ (B8.cell (i:=3) rfl)) ⟨_,rfl,rfl,ze _ _⟩
  case o3=>
    refine StOp.set rfl (by kernel_rfl) (λA va D w' hF hT hN hE hd hu hg=>?_);have e1:=hF 8 rfl;have e2:=(hT 44 1 (by simp) rfl).trans (hg ⟨1,.data⟩ (by simp) rfl rfl);cases hD4:D 4
    · have hE2:DoE w8 N3 N4 [.slice ua r.1.writes.length uc,.slice um r.1.marks.length un] [.int .i64 (r.2.err:Int),.bool r.2.found,.slice ra r.2.val.length rc,.slice pa r.2.pairs.length pc] [none,none] w':=by simpa[told,hN,hD4]using hE
      obtain⟨⟨i1,i2,i3,i4⟩,i5,i6,i7⟩:=hE2;refine za3 (us:=[.slice ua r.1.writes.length uc,.slice um r.1.marks.length un]) (by kernel_rfl) rfl e1 e2 rfl i6 rfl (λw2 hg hB2=>⟨_,rfl,?_,trivial⟩);have h5:DoE w8 N3 N4 [.slice ua r.1.writes.length uc,.slice um r.1.marks.length un] [.int .i64 (r.2.err:Int),.bool r.2.found,.slice ra r.2.val.length rc,.slice pa r.2.pairs.length pc] [some undef,none] w2:=⟨⟨i1.trans hg.os.symm,i2.trans hg.tape.symm,i3.trans hg.output.symm,zv i4 hg.size⟩,λk hk e1 e2=>(hg.block k (by omega) λe=>by injection e with e;exact e1 e).trans (i5 k hk e1 e2),hB2,i7.other hg (λe=>by injection e with e;exact h34 e)⟩;simpa [told,don,upd,hD4]using h5
    · have hE2:DoE w8 N3 N4 [.slice ua r.1.writes.length uc,.slice um r.1.marks.length un] [.int .i64 (r.2.err:Int),.bool r.2.found,.slice ra r.2.val.length rc,.slice pa r.2.pairs.length pc] [none,some (va 4)] w':=by simpa [told,hN,hD4]using hE
      obtain⟨⟨i1,i2,i3,i4⟩,i5,i6,i7⟩:=hE2;refine za3 (us:=[.slice ua r.1.writes.length uc,.slice um r.1.marks.length un]) (by kernel_rfl) rfl e1 e2 rfl i6 rfl (λw2 hg hB2=>⟨_,rfl,?_,trivial⟩);have h5:DoE w8 N3 N4 [.slice ua r.1.writes.length uc,.slice um r.1.marks.length un] [.int .i64 (r.2.err:Int),.bool r.2.found,.slice ra r.2.val.length rc,.slice pa r.2.pairs.length pc] [some undef,some (va 4)] w2:=⟨⟨i1.trans hg.os.symm,i2.trans hg.tape.symm,i3.trans hg.output.symm,zv i4 hg.size⟩,λk hk e1 e2=>(hg.block k (by omega) λe=>by injection e with e;exact e1 e).trans (i5 k hk e1 e2),hB2,i7.other hg (λe=>by injection e with e;exact h34 e)⟩;simpa [told,don,upd,hD4]using h5
  case o4=>
    refine StOp.set rfl (by kernel_rfl) (λA va D w' hF hT hN hE hd hu hg=>?_);have e1:=hF 9 rfl;have e2:=(hT 45 2 (by simp) rfl).trans (hg ⟨2,.data⟩ (by simp) rfl rfl);cases hD3:D 3
    · have hE2:DoE w8 N3 N4 [.slice ua r.1.writes.length uc,.slice um r.1.marks.length un] [.int .i64 (r.2.err:Int),.bool r.2.found,.slice ra r.2.val.length rc,.slice pa r.2.pairs.length pc] [none,none] w':=by simpa [told,hN,hD3]using hE
      obtain⟨⟨i1,i2,i3,i4⟩,i5,i6,i7⟩:=hE2;refine za3 (us:=[.int .i64 (r.2.err:Int),.bool r.2.found,.slice ra r.2.val.length rc,.slice pa r.2.pairs.length pc]) (by kernel_rfl) rfl e1 e2 rfl i7 rfl (λw2 hg hB2=>⟨_,rfl,?_,trivial⟩);have h5:DoE w8 N3 N4 [.slice ua r.1.writes.length uc,.slice um r.1.marks.length un] [.int .i64 (r.2.err:Int),.bool r.2.found,.slice ra r.2.val.length rc,.slice pa r.2.pairs.length pc] [none,some undef] w2:=⟨⟨i1.trans hg.os.symm,i2.trans hg.tape.symm,i3.trans hg.output.symm,zv i4 hg.size⟩,λk hk e1 e2=>(hg.block k (by omega) λe=>by injection e with e;exact e2 e).trans (i5 k hk e1 e2),i6.other hg (λe=>by injection e with e;exact h34 e.symm),hB2⟩;simpa [told,don,upd,hD3]using h5
    · have hE2:DoE w8 N3 N4 [.slice ua r.1.writes.length uc,.slice um r.1.marks.length un] [.int .i64 (r.2.err:Int),.bool r.2.found,.slice ra r.2.val.length rc,.slice pa r.2.pairs.length pc] [some (va 3),none] w':=by simpa [told,hN,hD3]using hE
      obtain⟨⟨i1,i2,i3,i4⟩,i5,i6,i7⟩:=hE2;refine za3 (us:=[.int .i64 (r.2.err:Int),.bool r.2.found,.slice ra r.2.val.length rc,.slice pa r.2.pairs.length pc]) (by kernel_rfl) rfl e1 e2 rfl i7 rfl (λw2 hg hB2=>⟨_,rfl,?_,trivial⟩);have h5:DoE w8 N3 N4 [.slice ua r.1.writes.length uc,.slice um r.1.marks.length un] [.int .i64 (r.2.err:Int),.bool r.2.found,.slice ra r.2.val.length rc,.slice pa r.2.pairs.length pc] [some (va 3),some undef] w2:=⟨⟨i1.trans hg.os.symm,i2.trans hg.tape.symm,i3.trans hg.output.symm,zv i4 hg.size⟩,λk hk e1 e2=>(hg.block k (by omega) λe=>by injection e with e;exact e2 e).trans (i5 k hk e1 e2),i6.other hg (λe=>by injection e with e;exact h34 e.symm),hB2⟩;simpa [told,don,upd,hD3]using h5
  case fin=>
    intro vs1 W9 hE hG;obtain⟨⟨i1,i2,i3,i4⟩,i5,C3,C4⟩:=hE;have g0:vs1 0=.pointer (some ⟨N6,0+0,none⟩):=hG 0 (by decide) rfl;have g1:vs1 1=.agg #[.slice ua r.1.writes.length uc,.slice um r.1.marks.length un]:=hG 1 (by decide) rfl;have g2:vs1 2=.agg #[.int .i64 (r.2.err:Int),.bool r.2.found,.slice ra r.2.val.length rc,.slice pa r.2.pairs.length pc]:=hG 2 (by decide) rfl;simp only[zaj,g0,g1,g2];clear hG g0 g1 g2;go_simp;replace C3:BoxN W9 N3 41 [.slice ua r.1.writes.length uc,.slice um r.1.marks.length un]:=C3;replace C4:BoxN W9 N4 54 [.int .i64 (r.2.err:Int),.bool r.2.found,.slice ra r.2.val.length rc,.slice pa r.2.pairs.length pc]:=C4;have d0:=C3.cell (i:=0) rfl;have d1:=C3.cell (i:=1) rfl;have e0:=C4.cell (i:=0) rfl;have e1:=C4.cell (i:=1) rfl;have e2:=C4.cell (i:=2) rfl;have e3:=C4.cell (i:=3) rfl;go_wp2_with fail;obtain⟨fs,hu,_⟩:=dlS.hu;obtain⟨fs2,hu2,_⟩:=rpS.hu;refine zD (v:=.tuple #[.agg #[.slice ua r.1.writes.length uc,.slice um r.1.marks.length un],.agg #[.int .i64 (r.2.err:Int),.bool r.2.found,.slice ra r.2.val.length rc,.slice pa r.2.pairs.length pc]]) (by simp[results,Tryz.results21,go_sem,loadVar,isAgg,zr hu,zaa dlS.hs,zr hu2,zaa rpS.hs,loadCellsFrom,Addr.add,d0,d1,e0,e1,e2,e3]) rfl ?_;rw[<-hr.out];have q8:=q7.size;have hkp:∀k,k<w8.heap.size->((S k/\k<w.heap.size)\/W.heap.size<=k)->W9.heap[k]?=w8.heap[k]?:=λk h1 h2=>i5 k h1 (by omega) (by omega)
    refine⟨_,_,rfl,((RdDl.fit hdr).keep λk hk=>hkp k hk.2 (.inr hk.1.2)).weak λk hk=>by omega,(hR.keep λk hk=>hkp k (by omega) (.inr (by omega))).weak λk hk=>by omega,⟨i1.symm.trans q7.os,i2.symm.trans q7.tape,i3.symm.trans q7.output,by omega,λk hk=>(i5 k (by omega) (by omega) (by omega)).trans (q7.block k hk)⟩⟩
def lkC (x:Lk)(k v:Value):List Value:=[.int .i64 x.owner,.bool x.whole,.int .i64 x.span.table,k,v,.bool x.span.isOpen,.int .i64 x.mode]
def Lk64(x:Lk):Prop:=W64 x.owner/\W64 x.span.table/\W64 x.mode
def Elt.lk:Elt Lk where
 size:=7;pos:=by omega
 R S w x vs:=∃k v,vs=lkC x k v/\RdS S w k x.span.lo/\RdS S w v x.span.hi/\Lk64 x;len:=by rintro _ _ _ _⟨_,_,rfl,_⟩;rfl
 keep:=by rintro _ _ _ _ _⟨k,v,rfl,h,h1,h2⟩hk;exact⟨k,v,rfl,h.keep hk,h1.keep hk,h2⟩
 weak:=by rintro _ _ _ _ _⟨k,v,rfl,h,h1,h2⟩hk;exact⟨k,v,rfl,h.weak hk,h1.weak hk,h2⟩
 fit:=by rintro _ _ _ _⟨k,v,rfl,h,h1,h2⟩;exact⟨k,v,rfl,h.fit,h1.fit,h2⟩
 one:=by
  rintro _ _ _ _⟨k,v,rfl,h,h1,_⟩u hu;have h3:=h.one;have h4:=h1.one;simp only[lkC,zU,yJ,yK]at hu;rcases hu with rfl|rfl|rfl|rfl|rfl|rfl|rfl
  · rfl
  · rfl
  · rfl
  ·exact h3
  ·exact h4
  · rfl
  · rfl
theorem lkP:LoP Tryz.prog 27 74 7:=⟨⟨by kernel_rfl,by kernel_rfl⟩,.agg #[.int .i64 0,.bool false,.int .i64 0,.slice none 0 0,.slice none 0 0,.bool false,.int .i64 0],88,by kernel_rfl,rfl,by omega⟩
section
variable {S S' : Nat → Prop} {w w' : World} {v : Value}
theorem RdL.lk {a:Option Addr}{n c:Nat}{l:List Lk}(h:RdL Elt.lk S w (.slice a n c) l) (r:Nat) (hr:r<l.length):∃b off A C A2 C2,a=some ⟨b,off,none⟩/\S b/\w.cell? ⟨b,off+r*7,none⟩=some (.int .i64 l[r].owner)/\w.cell? ⟨b,off+r*7+1,none⟩=some (.bool l[r].whole)/\w.cell? ⟨b,off+r*7+2,none⟩=some (.int .i64 l[r].span.table)/\w.cell? ⟨b,off+r*7+3,none⟩=some (.slice A l[r].span.lo.length C)/\w.cell? ⟨b,off+r*7+4,none⟩=some (.slice A2 l[r].span.hi.length C2)/\w.cell? ⟨b,off+r*7+5,none⟩=some (.bool l[r].span.isOpen)/\w.cell? ⟨b,off+r*7+6,none⟩=some (.int .i64 l[r].mode)/\
   RdS S w (.slice A l[r].span.lo.length C) l[r].span.lo/\RdS S w (.slice A2 l[r].span.hi.length C2) l[r].span.hi/\Lk64 l[r]:=by
 obtain⟨b,off,vs,rfl,hb,⟨k,u,rfl,hk,hu,hi⟩,hc⟩:=h.at r hr;obtain⟨A,C,rfl,_,_⟩:=hk.shape;obtain⟨A2,C2,rfl,_,_⟩:=hu.shape;exact⟨b,off,A,C,A2,C2,rfl,hb,hc 0 _ rfl,hc 1 _ rfl,hc 2 _ rfl,hc 3 _ rfl,hc 4 _ rfl,hc 5 _ rfl,hc 6 _ rfl,hk,hu,hi⟩
end
theorem zfz{α:Type}{E:Elt α}{S:Nat->Prop}{w:World}{b:Nat}{t:TypeId}{x:α}{us:List Value}(hrow:w.heap[b]?=some (.cells us.toArray t (0,0)))(hS:S b)(hx:E.R S w x us):RdL E S w (.slice (some ⟨b,0,none⟩) 1 1) [x]:=
 ⟨_,1,rfl,zf _,by unfold maxLen;omega,.inr ⟨b,0,rfl,hS,λr h=>by
  match r,h with
  |0,_=>exact⟨us,hx,λj u hj=>by rw[World.cell?,show w.heap[(⟨b,0+0*E.size+j,none⟩:Addr).block]?=some (.cells us.toArray t (0,0))from hrow];simpa using hj⟩⟩⟩
def SpsEnd (w:World)(l:List Sp)(e:Ending)(w':World):Prop:=∃ad c,e=.returned (.slice ad l.length c)/\RdL Elt.sp (λk=>w.heap.size<=k/\k<w'.heap.size) w' (.slice ad l.length c) l/\Below w.heap.size w w'
theorem zqn{x:Tx}(h:okX x):errX x=0:=zi h
theorem zux{x:Tx}(h:¬okX x):errX x=1:=zh h
theorem zvm (w:World)(a:Int):Calls Tryz.prog 57 #[.int .i64 a] w λe w'=>e=.returned (.int .i64 (aboM a))/\w'=w:=by
 rcases md_cases a with rfl|rfl|rfl|rfl|rfl|h
 case inr.inr.inr.inr.inr=>
  obtain⟨h1,h2,h3,h4,h5⟩:=kn_ne h;have b1:(a==1)=false:=by simpa using h1
  have b2:(a==2)=false:=by simpa using h2
  have b3:(a==3)=false:=by simpa using h3
  have b4:(a==4)=false:=by simpa using h4
  have b5:(a==5)=false:=by simpa using h5
  rw[abo_none h];clear h h1 h2 h3 h4 h5;go_enter Tryz.func57,Tryz.ntmps57;go_wp2_with fail;go_ret;exact⟨rfl,rfl⟩
 all_goals
  go_enter Tryz.func57,Tryz.ntmps57;go_wp2_with fail;go_ret;exact⟨rfl,rfl⟩
theorem cmp_le (a b:List UInt8):decide (Lib.compareBytes a b<=0)=!ltB b a:=by
  have h1:=zfe a b;have h2:=zqs a b;cases h:ltB a b with
  |true=>
    rw[h]at h1;rw[zi7 h];have:=wt h1;exact zk (by omega)
  |false=>
    rw[h]at h1;have h3:=of_decide_eq_false h1;by_cases e:a=b
    · rw[zk e]at h2
      have:=zK.1 h2;subst e;rw[zbx];exact zk (by omega)
    · rw[zj e]at h2
      have:=zt.1 h2;rw[zcq e h];exact zj (by omega)
theorem zrq (w:World){S:Nat->Prop}{v:Value}{x:Sp}(hx:RdSp S w v x):Calls Tryz.prog 58 #[v] w λe w'=>e=.returned (.bool (zem x))/\Below w.heap.size w w':=by
 obtain⟨a1,a2,a3,a4,rfl,hlx,hhx,htx⟩:=hx;have m1x:x.lo.length<=9223372036854775807:=by have:=hlx.len;unfold maxLen at this;omega
 have m2x:x.hi.length<=9223372036854775807:=by have:=hhx.len;unfold maxLen at this;omega
 obtain⟨W,hW,q,Bx,hsz⟩:=zeb w 67 [.int .i64 x.table,.slice a1 x.lo.length a2,.slice a3 x.hi.length a4,.bool x.isOpen];clear hsz;go_enter Tryz.func58,Tryz.ntmps58;go_upto_region 1 with(fail);rw[show w.alloc (.cells #[.int .i64 x.table,.slice a1 x.lo.length a2,.slice a3 x.hi.length a4,.bool x.isOpen] 67)=W from hW.symm];clear hW;have cx0:=Bx.cell (i:=0) rfl;have cx1:=Bx.cell (i:=1) rfl;have cx2:=Bx.cell (i:=2) rfl;have cx3:=Bx.cell (i:=3) rfl;have rlx:=hlx.below q;have rhx:=hhx.below q;cases h_op:x.isOpen with
 |true=>
  rw[h_op]at cx3;have H:=Lib.hid (show zem x=false from by unfold zem;simp[h_op]);clear h_op;go_wp2_with fail;go_ret;exact⟨by first|(rw[H.out];done)|(rw[H.out];rfl),q⟩
 |false=>
  rw[h_op]at cx3;cases h_lh:ltB x.lo x.hi with
  |true=>
   have dlh:decide (Lib.compareBytes x.hi x.lo<=0)=false:=by rw[cmp_le,h_lh];rfl
   have H:=Lib.hid (show zem x=false from by unfold zem;simp[h_op,h_lh]);clear h_op h_lh;go_wp2_with fail;refine(zao _ rhx rlx).mono ?_;rintro e _⟨rfl,rfl⟩;go_wp2_with fail;go_ret;exact⟨by first|(rw[H.out];done)|(rw[H.out];rfl),q⟩
  |false=>
   have dlh:decide (Lib.compareBytes x.hi x.lo<=0)=true:=by rw[cmp_le,h_lh];rfl
   have H:=Lib.hid (show zem x=true from by unfold zem;simp[h_op,h_lh]);clear h_op h_lh;go_wp2_with fail;refine(zao _ rhx rlx).mono ?_;rintro e _⟨rfl,rfl⟩;go_wp2_with fail;go_ret;exact⟨by first|(rw[H.out];done)|(rw[H.out];rfl),q⟩
end Go.Proofs.YtkobhdllagbkhaaGreat
