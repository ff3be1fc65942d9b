/-
  TEXTS OF ONE PROOF, merged.
-/
import Derived.Deep.LoopGhost
import Derived.LoopIn
import Derived.LoopNIn
import Derived.OwnWalkIn
import Derived.RangeFuncBound
import Derived.RangeFuncLeaves
import Derived.RangeFuncNested
import Derived.ScopeJumps
import Derived.Shelf.RegionOpen
import Derived.Sort.CutIn
import Derived.TacticsInMore
import Derived.WalkMore
import Derived.Test.YtkobhdllagbkhaaGreatKn6
namespace Go.Proofs.YtkobhdllagbkhaaGreat
open Go.RowKit Go.Shelf
set_option maxRecDepth 100000
set_option maxHeartbeats 32000000
theorem Flat.set{α:Type}{E:Elt α}{S:Nat->Prop}{w:World}{xs:List α}{us:List Value}{x:α}{u:Value}{i:Nat}(h:Flat E S w xs us)(h1:E.size=1)(hx:E.R S w x [u])(hi:i<xs.length):Flat E S w (xs.set i x) (us.set i u):=by
 have hl:us.length=xs.length*E.size:=h.len;rw[h1,Nat.mul_one]at hl;have f1:=Flat.take h i;have f2:=Flat.drop h (i+1);rw[h1,Nat.mul_one]at f1 f2;rw[vg,vg,zi hi,zi (by omega)];have:=(f1.append (Flat.single (E:=E) hx)).append f2;rwa [zG,zG]at this
theorem RowQ.uniq{Te:TypeId}{sz n:Nat}{w:World}{v:Value}{us us':List Value}(h:RowQ Te sz w v n us)(h':RowQ Te sz w v n us'):us=us':=by
  rcases h.cases with⟨rfl,rfl,e⟩|⟨g,cap,cur,rfl,hb,_,_,_,e⟩
  · have:=h'.len
    rw[xH]at this;rw[e,yg this]
  · rcases h'.cases with⟨e2,_,_⟩|⟨g',cap',cur',e2,hb',_,_,_,e'⟩
    ·simp at e2
    · injection e2 with e2 _ e3
      injection e2 with e2;injection e2 with e2;subst e2;rw[hb]at hb';injection hb' with hb';injection hb' with hb';subst hb';rw[<-e,<-e']
def KidR (D:Nat->Prop)(G:List Nat)(g3:Nat)(V3:Value)(nk ix:Nat)(us3:List Value)(Qm:Nd->Prop):List Value->World->Value->World->Prop
 |[],W,v,W'=>∃m x y z G',v=.agg #[x,y,z]/\Qm m/\NdAt D W' (.agg #[x,y,z]) m G'/\(∀k∈G',k∈G\/W.heap.size<=k)/\Trd (·∈G) W W'/\x.oneCell'=true/\y.oneCell'=true/\z.oneCell'=true
 |[v],W,_,W'=>W.grownBy W' (some g3)/\∃x y z,v=.agg #[x,y,z]/\RowQ 46 3 W' V3 nk (((us3.set (ix*3) x).set (ix*3+1) y).set (ix*3+2) z)
 |_,_,_,_=>False
def fpK(G:List Nat)(g3:Nat):Nat->Nat->Prop
 |0,k=>k∈G
 |1,k=>k=g3
 |_,_=>False
theorem kidR_trd{D:Nat->Prop}{G:List Nat}{g3:Nat}{V3:Value}{nk ix:Nat}{us3:List Value}{Qm:Nd->Prop}:∀(l:List Value)(W:World)(v:Value)(W':World),KidR D G g3 V3 nk ix us3 Qm l W v W'->Trd (λk=>fpK G g3 l.length k) W W'
 |[],_,_,_,⟨_,_,_,_,_,_,_,_,_,h,_⟩=>h
 |[_],_,_,_,⟨h,_⟩=>Trd.ofGrown h λ_ hk=>by injection hk with hk;exact hk.symm
 |_::_::_,_,_,_,h=>h.elim
theorem zun{G:List Nat}{g3 g:Nat}(h1:g∉G)(h2:g≠g3)(N:Nat):¬∃p,p<N/\fpK G g3 p g:=by
 rintro⟨p,_,h⟩;rcases p with _|_|p
 ·exact h1 h
 ·exact h2 h
 ·exact h
def PutAt (d:Nat):Prop:=∀(w:World)(D:Nat->Prop)(v:Value)(n:Nd)(F:List Nat)(ka:Option Addr)(kn kc:Nat)(ca:Option Addr)(cn cc:Nat)(k:List UInt8)(c:List Ver),NdAt D w v n F->Pn d n->RdS D w (.slice ka kn kc) k->RdL Elt.ver D w (.slice ca cn cc) c->Calls Tryz.prog 113 #[v,.slice ka kn kc,.slice ca cn cc] w (NdTo D w F (PutN d n k c))
theorem zpp(d:Nat)(ih:∀d',d=d'+1->PutAt d'):PutAt d:=by
  intro w D v n F ka kn kc ca cn cc k c h hp hk hc;obtain⟨a1,c1,a2,c2,a3,c3,us1,us2,us3,F3,rfl,p⟩:=h.opn;obtain⟨W,hW,q,bn,bz,hsz⟩:=zdk w 46 (.slice a1 n.keys.length c1) (.slice a2 n.chains.length c2) (.slice a3 n.kids.length c3) (.slice none 0 0) (.slice none 0 0) (.slice none 0 0);have s0:=NdOf.start (lo:=w.heap.size+2) h q (by omega) (by omega);have hkk:=hp.wf.keys.2;obtain⟨hsh1,hsh2⟩:=hp.wf.shape;have hpl:=ziy W s0.at'.rdN hp.ris (by omega) (hk.below q);obtain⟨i,hi⟩:∃i,i=plcF n.keys k:=⟨_,rfl⟩;obtain⟨is,his⟩:∃is,is=isF n.keys k:=⟨_,rfl⟩;rw[<-hi,<-his]at hpl;have tn0:=bn.cell0;have tn1:=bn.cell1;have tn2:=bn.cell2;have hile:i<=n.keys.length:=by rw[hi];exact zhu _ _
  obtain⟨fs,hu,_⟩:=ndS.hu;clear p;cases is with
  |true=>
    obtain⟨hlt,_⟩:=zqb his.symm;rw[<-hi]at hlt;have hlc:i<n.chains.length:=by omega
    have hput:=put_is (c:=c) hp his.symm;rw[<-hi]at hput;replace hi:=Lib.hid hi;replace his:=Lib.hid his;replace hsh1:=Lib.hid hsh1;replace hsh2:=Lib.hid hsh2;go_enter Tryz.func113,Tryz.ntmps113;go_upto_region 1 with(fail);rw[<-hW];clear hW hsz;go_wp2_with fail;refine hpl.mono ?_;rintro e w1⟨rfl,hb1⟩;have s1:=s0.more hb1;have bn1:=bn.below hb1 bn.lt;have bz1:=bz.below hb1 bz.lt;have hc1:=(hc.below q).below hb1;clear bn bz tn0 tn1 tn2 s0 hpl;have tn1:=bn1.cell1;obtain⟨us1,us2,us3,F3,p⟩:=s1.at'.own3;obtain⟨g2,c2',e2,_,hg2⟩:=p.r2.some (by omega);cases e2;have hl2:i<us2.length:=by rw[p.r2.len];omega
    go_upto_region 4 with(first|(refine zl0 rfl rfl rfl (by kernel_rfl) rfl rfl p.r2 rfl hl2 ?_;intro w2 hgw hr2)|fail);have hgl:g2<w.heap.size:=by
      have:g2∈F:=by rw[p.fe];simp[zak,Value.ownBlock]
      exact s1.lt g2 this
    have bn2:=bn1.other hgw (by omega);have bz2:=bz1.other hgw (by omega);obtain⟨F2,s2⟩:=s1.chains (cs:=n.chains.set i c) (us:=us2.set i (.slice ca cn cc)) (V2':=.slice (Option.some ⟨g2,0,none⟩) n.chains.length c2) ⟨by rw[yR];exact hr2,hgw,.inl rfl⟩ (p.l2.set rfl ⟨_,rfl,hc1⟩ hlc);clear bn1 bz1 tn1 s1 hgw hr2 p;have tn0:=bn2.cell0;have tn1:=bn2.cell1;have tn2:=bn2.cell2;go_wp2_with(first|(refine zaq rfl rfl rfl rfl rfl rfl rfl rfl bz2 ?_;intro w6 hg6 bz4)|fail);have s4:=s2.box hg6 (by omega) (by omega);exact zD (v:=.agg #[.slice a1 n.keys.length c1,.slice (Option.some ⟨g2,0,none⟩) n.chains.length c2,.slice a3 n.kids.length c3]) (by simp[results,Tryz.results113,go_sem,loadVar,isAgg,zr hu,zaa ndS.hs,loadCellsFrom,Addr.add,bz4.cell0,bz4.cell1,bz4.cell2]) rfl (s4.ret hput)
  |false=>
    have hle:=λW'=>zh9 W' (x:=.slice a1 n.keys.length c1) (y:=.slice a2 n.chains.length c2) (a:=a3) (n:=n.kids.length) (c:=c3)
    rcases yx n.kids.length with hk0|hk0
    · have hdk:decide (n.kids.length=0)=true:=zk hk0
      rw[hdk]at hle;have hput:=put_leaf (c:=c) hp his.symm (we.1 hk0);rw[<-hi]at hput;replace hi:=Lib.hid hi;replace his:=Lib.hid his;have hs1a:=yE hsh1;have hs1b:=yE hsh1.symm;replace hsh1:=Lib.hid hsh1;replace hsh2:=Lib.hid hsh2;replace hdk:=Lib.hid hdk;replace hk0:=Lib.hid hk0;go_enter Tryz.func113,Tryz.ntmps113;go_upto_region 1 with(fail);rw[<-hW];clear hW hsz;go_wp2_with fail;refine hpl.mono ?_;rintro e w1⟨rfl,hb1⟩;have s1:=s0.more hb1;have bn1:=bn.below hb1 bn.lt;have bz1:=bz.below hb1 bz.lt;clear bn bz tn0 tn1 tn2 s0 hpl;have tn0:=bn1.cell0;have tn1:=bn1.cell1;have tn2:=bn1.cell2;go_wp2_with fail;refine(hle w1).mono ?_;rintro e w2⟨rfl,hb2⟩;have s2:=s1.more hb2;have bn2:=bn1.below hb2 bn1.lt;have bz2:=bz1.below hb2 bz1.lt;clear bn1 bz1 tn0 tn1 tn2 s1 hle;have tn0:=bn2.cell0;go_wp2_with(first|(refine zdr kysP rfl rfl rfl rfl rfl (by omega) (by omega) ?_;intro w3 hb3 hc3)|fail);have s3:=s2.more hb3;have bn3:=bn2.below hb3 bn2.lt;have bz3:=bz2.below hb3 bz2.lt;obtain⟨us1,us2,us3,F3,p⟩:=s3.at'.own3;have hkr:=(((hk.below q).below hb1).below hb2).below hb3;have hne:∀g,Value.ownBlock (.slice a1 n.keys.length c1)=Option.some g->g<w.heap.size:=λg hg=>by
        have:g∈F:=by rw[p.fe];simp[zak,hg]
        exact s3.lt g this
      have z2:w.heap.size<=w2.heap.size:=zv s2.lo1 s2.lo2;refine(zqd w3 (i:=i) p.r1 hile (by omega) (by omega) hc3 rfl (λu hu=>by rw[yL.1 hu];rfl) (λe=>by have:=hne _ e;omega)).mono ?_;rintro e w4⟨V1',rfl,hR⟩;obtain⟨A1,C1,rfl,_,_⟩:=hR.row.shape;obtain⟨F4,s4⟩:=s3.keys (ks:=n.keys.take i++[k]++n.keys.drop i) (by
        have e:(n.keys.take i++[k]++n.keys.drop i).length=n.keys.length+1:=by
          simp only[zC,zp,zF,zI,zM];omega
        rw[e];exact hR) (((Flat.take p.l1 i).append (Flat.single (E:=Elt.bytes) ⟨_,rfl,hkr⟩)).append (Flat.drop p.l1 i))
      have hRt:=hR.trd;have bn4:TriV w4 w.heap.size 46 _ _ _:=(hRt.block _ bn3.lt (λhg=>by have:=hne _ hg;omega)).trans bn3;have bz4:TriV w4 (w.heap.size+1) 46 _ _ _:=(hRt.block _ bz3.lt (λhg=>by have:=hne _ hg;omega)).trans bz3;clear tn0 bn2 bz2 s2 bn3 bz3 s3 p hR hkr hc3 hRt hne;go_upto_region 7 with(first
        |(refine zny rfl rfl rfl (by kernel_rfl) rfl rfl bn4 ?_;intro w5 hg5 bn5)
        |fail)
      have s5:=s4.box hg5 (zf _) (by omega);have bz5:=bz4.other hg5 (by omega);clear bn4 bz4 s4 hg5;have tn1:=bn5.cell1;go_wp2_with(first|(refine zdr chsP rfl rfl rfl rfl rfl (by omega) (by omega) ?_;intro w6 hb6 hc6)|fail);have s6:=s5.more hb6;have bn6:=bn5.below hb6 bn5.lt;have bz6:=bz5.below hb6 bz5.lt;have hcr:RdL Elt.ver D w6 (.slice ca cn cc) c:=hc.keep λg hg=>s6.trd.block g (h.data g hg) λhm=>h.free g hm hg
      obtain⟨us1,us2,us3,F3,p⟩:=s6.at'.own3;have hne:∀g,Value.ownBlock (.slice a2 n.chains.length c2)=Option.some g->g∈F\/w.heap.size+2<=g:=λg hg=>s6.fr g (by rw[p.fe];simp[zak,hg])
      have z5:w.heap.size+2<=w5.heap.size:=s5.lo2;have hne5:Value.ownBlock (.slice a2 n.chains.length c2)≠Option.some w5.heap.size:=λe=>by
        have:=s5.at'.lt;obtain⟨_,_,_,_,p5⟩:=s5.at'.own3;have:=p5.r2.lt e;omega
      refine(zqe w6 (i:=i) p.r2 (by show i<=n.chains.length;omega) (by show n.chains.length+1<=1000000;omega) (by omega) hc6 rfl (λu hu=>by rw[yL.1 hu];rfl) hne5).mono ?_;rintro e w7⟨V2',rfl,hR⟩;obtain⟨A2,C2,rfl,_,_⟩:=hR.row.shape;obtain⟨F7,s7⟩:=s6.chains (cs:=n.chains.take i++[c]++n.chains.drop i) (by
        have e:(n.chains.take i++[c]++n.chains.drop i).length=n.chains.length+1:=by
          simp only[zC,zp,zF,zI,zM];omega
        rw[e];exact hR) (((Flat.take p.l2 i).append (Flat.single (E:=Elt.list Elt.ver) ⟨_,rfl,hcr⟩)).append (Flat.drop p.l2 i))
      have hRt:=hR.trd;have bn7:TriV w7 w.heap.size 46 _ _ _:=(hRt.block _ bn6.lt (λhg=>by rcases hne _ hg with h1|h1;have:=s6.lt _ h1;omega;omega)).trans bn6;have bz7:TriV w7 (w.heap.size+1) 46 _ _ _:=(hRt.block _ bz6.lt (λhg=>by rcases hne _ hg with h1|h1;have:=s6.lt _ h1;omega;omega)).trans bz6;clear tn1 bn5 bz5 s5 bn6 bz6 s6 p hR hcr hc6 hRt hne hne5 z5 hb6 hb3 hb2 hb1;go_upto_region 8 with(first
        |(refine znx rfl rfl rfl (by kernel_rfl) rfl rfl bn7 ?_;intro w8 hg8 bn8)
        |fail)
      have s8:=s7.box hg8 (zf _) (by omega);have bz8:=bz7.other hg8 (by omega);have tn0:=bn8.cell0;have tn1:=bn8.cell1;have tn2:=bn8.cell2;clear bn7 bz7 s7 hg8;go_wp2_with(first|(refine zaq rfl rfl rfl rfl rfl rfl rfl rfl bz8 ?_;intro w9 hg9 bz9)|fail);have s9:=s8.box hg9 (by omega) (by omega);exact zD (v:=.agg #[_,_,_]) (by simp[results,Tryz.results113,go_sem,loadVar,isAgg,zr hu,zaa ndS.hs,loadCellsFrom,Addr.add,bz9.cell0,bz9.cell1,bz9.cell2]) rfl (s9.ret hput)
    · obtain⟨d',rfl,hd',hkl,_,_,hws⟩:=hp.kid hk0
      have ilt:i<n.kids.length:=by omega
      have hdk:decide (n.kids.length=0)=false:=zj (by omega);rw[hdk]at hle;have hpin:∀m,PutN d' (kidN n i) k c m->PutN (d'+1) n k c (za5 (zck n i m) i):=by
        intro m hm;subst hi;exact put_in hp his.symm ilt (by rw[<-zbl ilt];exact hm)
      have hswk:=λm (hm:Wf d' 0 4 m)=>set_wk hsh1 hkl hws ilt hm
      obtain⟨d2,e',e5,e6,hpk,e7,e8⟩:=hp.kid ilt;obtain rfl:d'=d2:=by omega
      clear e5 e6 e7 e8;rw[<-zbl ilt]at hpk;have hn1:1<=n.keys.length:=by rcases hp.ne with h1|h1;omega;exact h1
      replace hi:=Lib.hid hi;replace his:=Lib.hid his;have hs1a:=yE hsh1;have hs1b:=yE hsh1.symm;have hkla:=yE hkl;have hklb:=yE hkl.symm;replace hsh1:=Lib.hid hsh1;replace hsh2:=Lib.hid hsh2;replace hkl:=Lib.hid hkl;replace hdk:=Lib.hid hdk;clear e';go_enter Tryz.func113,Tryz.ntmps113;go_upto_region 1 with(fail);rw[<-hW];clear hW hsz;go_wp2_with fail;refine hpl.mono ?_;rintro e w1⟨rfl,hb1⟩;have s1:=s0.more hb1;have bn1:=bn.below hb1 bn.lt;have bz1:=bz.below hb1 bz.lt;clear bn bz tn0 tn1 tn2 s0 hpl;have tn0:=bn1.cell0;have tn1:=bn1.cell1;have tn2:=bn1.cell2;go_wp2_with fail;refine(hle w1).mono ?_;rintro e W1⟨rfl,hb2⟩;have s2:=s1.more hb2;have bn2:=bn1.below hb2 bn1.lt;have bz2:=bz1.below hb2 bz1.lt;have hkW:=((hk.below q).below hb1).below hb2;have hcW:=((hc.below q).below hb1).below hb2;clear bn1 bz1 tn0 tn1 tn2 s1 hle;obtain⟨us1,us2,us3,F3,p⟩:=s2.at'.own3;obtain⟨g3,c3',e3,_,hg3⟩:=p.r3.some (by omega);cases e3;obtain⟨xa,xc,ya,yc,za,zc,G,k0,k1,k2,hat,hG,hset⟩:=s2.kidAt ilt;have hl3:i*3+2<us3.length:=by rw[p.r3.len];omega
      have hlF:∀g∈G,g<W1.heap.size:=hat.lt;have g3l:g3<W1.heap.size:=p.r3.lt rfl;have hnG:∀g,w.heap.size<=g->g<w.heap.size+2->g∉G/\g≠g3:=λg h1 h2=>⟨λhm=>by
        rcases s2.fr g (hG g hm).1 with h3|h3
        ·have:=s2.lt g h3;omega
        ·omega,λe=>by
        rcases s2.fr g3 (by rw[p.fe];simp[zak,Value.ownBlock])with h3|h3
        ·have:=s2.lt g3 h3;omega
        ·omega⟩
      have hTr:∀(l:List Value)(W':World),Chn W1 (KidR D G g3 (.slice (Option.some ⟨g3,0,none⟩) n.kids.length c3) n.kids.length i us3 (PutN d' (kidN n i) k c)) l W'->Trd (λk=>∃p,p<l.length/\fpK G g3 p k) W1 W':=λl W' h=>Chn.trd kidR_trd h
      have hRN:∀(l:List Value)(W':World),Chn W1 (KidR D G g3 (.slice (Option.some ⟨g3,0,none⟩) n.kids.length c3) n.kids.length i us3 (PutN d' (kidN n i) k c)) l.reverse W'->TriV W' w.heap.size 46 (.slice a1 n.keys.length c1) (.slice a2 n.chains.length c2) (.slice (Option.some ⟨g3,0,none⟩) n.kids.length c3):=λl W' h=>((hTr _ _ h).block _ bn2.lt (zun (hnG _ (by omega) (by omega)).1 (hnG _ (by omega) (by omega)).2 _)).trans bn2
      have eP:∀args w,(callFunc 113 args).run Tryz.prog w=.ok (.enter 113 args) w:=enters_of Tryz.func113 (by kernel_rfl) rfl;have ih1:=ih _ rfl;go_upto_region 9 with(fail);refine zai (K:=K0 W1) (by kernel_rfl) (by kernel_rfl) [10,12] (by kernel_rfl) [lEq (.pointer (some ⟨w.heap.size,0+2,none⟩)),lEq (.slice (some ⟨g3,0,none⟩) n.kids.length c3),lEq (.int .i64 (i:Int)),lEq (.pointer (some ⟨w.heap.size,0+2,none⟩)),lEq (.slice (some ⟨g3,0,none⟩) n.kids.length c3),lEq (.int .i64 (i:Int)),lEq (.pointer (some ⟨g3,0+i*3,none⟩)),lEq (.agg #[.slice xa (kidN n i).keys.length xc,.slice ya (kidN n i).chains.length yc,.slice za (kidN n i).kids.length zc]),lEq (.slice ka kn kc),lEq (.slice ca cn cc),lAny,lEq (.pointer (some ⟨g3,0+i*3,none⟩)),lAny] (λl W=>Chn W1 (KidR D G g3 (.slice (Option.some ⟨g3,0,none⟩) n.kids.length c3) n.kids.length i us3 (PutN d' (kidN n i) k c)) l.reverse W) (λl A B h hb=>Chn.more _ _ _ h hb) (show Below W1.heap.size W1 W1 from ze _ _)
        ⟨?o0,?o1,?o2,?o3,?o4,?o5,?o6,?o7,?o8,?o9,?o10,?o11,?o12,trivial⟩ ?fin
      case o0=>
        refine LnOp.sd (λA va w' k' hF hT hk hJ hb hu hp hd=>?_);have e1:=hF 3 rfl;exact zaf ndS rfl (e1) (by omega) ⟨_,rfl,rfl,ze _ _⟩
      case o1=>
        refine LnOp.sd (λA va w' k' hF hT hk hJ hb hu hp hd=>?_);have e1:=(hT 41 0 (by simp) rfl).trans (hd ⟨0,.data⟩ (by simp) rfl rfl);exact zae (e:=46) rfl (e1) (by kernel_rfl) ((hRN _ _ hJ).cell2) ⟨_,rfl,rfl,ze _ _⟩
      case o2=>
        refine LnOp.sd (λA va w' k' hF hT hk hJ hb hu hp hd=>?_);have e1:=hF 7 rfl;exact zu _ rfl ⟨_,rfl,e1,ze _ _⟩
      case o3=>
        refine LnOp.sd (λA va w' k' hF hT hk hJ hb hu hp hd=>?_);have e1:=hF 3 rfl;exact zaf ndS rfl (e1) (by omega) ⟨_,rfl,rfl,ze _ _⟩
      case o4=>
        refine LnOp.sd (λA va w' k' hF hT hk hJ hb hu hp hd=>?_);have e1:=(hT 44 3 (by simp) rfl).trans (hd ⟨3,.data⟩ (by simp) rfl rfl);exact zae (e:=46) rfl (e1) (by kernel_rfl) ((hRN _ _ hJ).cell2) ⟨_,rfl,rfl,ze _ _⟩
      case o5=>
        refine LnOp.sd (λA va w' k' hF hT hk hJ hb hu hp hd=>?_);have e1:=hF 7 rfl;exact zu _ rfl ⟨_,rfl,e1,ze _ _⟩
      case o6=>
        refine LnOp.sd (λA va w' k' hF hT hk hJ hb hu hp hd=>?_);have e1:=(hT 45 4 (by simp) rfl).trans (hd ⟨4,.data⟩ (by simp) rfl rfl);have e2:=(hT 46 5 (by simp) rfl).trans (hd ⟨5,.data⟩ (by simp) rfl rfl);exact zhn (e:=46) rfl (by kernel_rfl) (by kernel_rfl) (e1) (e2) rfl (by omega) ⟨_,rfl,rfl,ze _ _⟩
      case o7=>
        refine LnOp.sd (λA va w' k' hF hT hk hJ hb hu hp hd=>?_);have e1:=(hT 47 6 (by simp) rfl).trans (hd ⟨6,.data⟩ (by simp) rfl rfl);obtain rfl:k'=0:=Nat.le_zero.1 (hb 0 10 rfl (by kernel_rfl));have hB:Below W1.heap.size W1 w':=hJ;rw[zR]at e1;exact zej ndS rfl e1 ((zag (hB.block g3 g3l) _).trans k0) ((zag (hB.block g3 g3l) _).trans k1) ((zag (hB.block g3 g3l) _).trans k2) ⟨_,rfl,rfl,ze _ _⟩
      case o8=>
        refine LnOp.sd (λA va w' k' hF hT hk hJ hb hu hp hd=>?_);have e1:=hF 1 rfl;exact zu _ rfl ⟨_,rfl,e1,ze _ _⟩
      case o9=>
        refine LnOp.sd (λA va w' k' hF hT hk hJ hb hu hp hd=>?_);have e1:=hF 2 rfl;exact zu _ rfl ⟨_,rfl,e1,ze _ _⟩
      case o10=>
        refine LnOp.line 0 rfl rfl (λA va w' hF hT hJ hu hd=>?_);have e1:=(hT 48 7 (by simp) rfl).trans (hd ⟨7,.data⟩ (by simp) rfl rfl);have e2:=(hT 49 8 (by simp) rfl).trans (hd ⟨8,.data⟩ (by simp) rfl rfl);have e3:=(hT 50 9 (by simp) rfl).trans (hd ⟨9,.data⟩ (by simp) rfl rfl);have hB:Below W1.heap.size W1 w':=hJ;refine zah rfl eP (args:=#[.agg #[.slice xa (kidN n i).keys.length xc,.slice ya (kidN n i).chains.length yc,.slice za (kidN n i).kids.length zc],.slice ka kn kc,.slice ca cn cc]) (by simp only[zE,zn,zo,e1,e2,e3]) ((ih1 w' D _ _ G ka kn kc ca cn cc k c (hat.below hB) hpk (hkW.below hB) (hcW.below hB)).mono ?_);rintro e W4⟨v',m,G',rfl,hm,hatm,hsub,htr⟩;obtain⟨xa',xc',ya',yc',za',zc',_,_,_,_,rfl,_⟩:=hatm.opn;exact⟨_,rfl,_,rfl,⟨w',W4,hJ,⟨m,_,_,_,G',rfl,hm,hatm,hsub,htr,rfl,rfl,rfl⟩,ze _ _⟩,htr.mono λg _ hg=>hlF g hg⟩
      case o11=>
        refine LnOp.sd (λA va w' k' hF hT hk hJ hb hu hp hd=>?_);have e1:=(hT 42 1 (by simp) rfl).trans (hd ⟨1,.data⟩ (by simp) rfl rfl);have e2:=(hT 43 2 (by simp) rfl).trans (hd ⟨2,.data⟩ (by simp) rfl rfl);exact zhn (e:=46) rfl (by kernel_rfl) (by kernel_rfl) (e1) (e2) rfl (by omega) ⟨_,rfl,rfl,ze _ _⟩
      case o12=>
        refine LnOp.line 1 rfl rfl (λA va w' hF hT hJ hu hd=>?_);have e1:=(hT 52 11 (by simp) rfl).trans (hd ⟨11,.data⟩ (by simp) rfl rfl);have x2:A.eval (.tmp 51)=va 10:=hT 51 10 (by simp) rfl;have hJ':Chn W1 (KidR D G g3 (.slice (Option.some ⟨g3,0,none⟩) n.kids.length c3) n.kids.length i us3 (PutN d' (kidN n i) k c)) [va 10] w':=hJ;have hr3:=p.r3.trd (hTr _ _ hJ') (λg hg=>by injection hg with hg;rintro⟨p,hp,hf⟩;rcases p with _|p;exact(hG g hf).2.2.2 hg.symm;simp only[zI,zM]at hp;omega);obtain⟨Wa,Wb,_,⟨m,x,y,z,G',ev,_,_,_,_,ho1,ho2,ho3⟩,_⟩:=hJ';rw[zR]at e1;refine wp_putQ3 rfl e1 (x2.trans ev) ho1 ho2 ho3 hr3 rfl hl3 (λw2 hg hr=>?_);exact⟨_,rfl,⟨w',w2,hJ,⟨hg,x,y,z,ev,hr⟩,ze _ _⟩,Trd.ofGrown hg λg hk=>by injection hk with hk;omega⟩
      case fin=>
        intro vs1 W9 hJ hGG;clear hGG;have hJc:Chn W1 (KidR D G g3 (.slice (Option.some ⟨g3,0,none⟩) n.kids.length c3) n.kids.length i us3 (PutN d' (kidN n i) k c)) [vs1 12,vs1 10] W9:=hJ;have hT9:=hTr _ _ hJc;obtain⟨Wb1,Wb2,hJ1,⟨hgr,x',y',z',ev,hrow⟩,hb9⟩:=hJc;obtain⟨Wa1,Wa2,hJ0,⟨m,x,y,z,G',ev2,hm,hatm,hG',htG,ho1,ho2,ho3⟩,hba⟩:=hJ1;rw[ev]at ev2;injection ev2 with ev2;injection ev2 with ev2;injection ev2 with ex ev2;injection ev2 with ey ev2;injection ev2 with ez _;subst ex ey ez;have hJ0':Below W1.heap.size W1 Wa1:=hJ0;have tG:Trd (·∈G) W1 Wb1:=(Trd.of (F:=(·∈G)) hJ0').trans (htG.trans (Trd.of (F:=(·∈G)) hba) λ_ _ h=>h) λ_ _ h=>h
        obtain⟨F9,s9⟩:=hset m x' y' z' G' Wb1 Wb2 (hatm.below hba) (λg hg=>(hG' g hg).imp id λh1=>zv hJ0'.size h1) tG hgr (λus hus=>by
          rw[hus.uniq (p.r3.trd tG λg hg hm=>(hG g hm).2.2.2 (by injection hg with hg;exact hg.symm))];exact hrow)
        replace s9:=s9.more hb9;have bn9:=hRN _ _ hJ;have bz9:TriV W9 (w.heap.size+1) 46 _ _ _:=(hT9.block _ bz2.lt (zun (hnG _ (by omega) (by omega)).1 (hnG _ (by omega) (by omega)).2 _)).trans bz2;have hst:=zn4 W9 s9.at' (hswk m (hm.1.mono (zH _) hm.1.keys.2)) hn1 hkk;have hpin':=hpin m hm;have tn0:=bn9.cell0;have tn1:=bn9.cell1;have tn2:=bn9.cell2;clear hJ hTr hRN hset hG' htG tG hatm hb9 hgr hrow hJ0 hba hT9 s2 bn2 bz2 p hat k0 k1 k2;simp only[zaj];go_simp;go_wp2_with fail;refine hst.mono ?_;rintro e w4 hto;obtain⟨v2,n2,F2,rfl,hq,sA,t2⟩:=s9.step hto;obtain⟨a1',c1',a2',c2',a3',c3',_,_,_,_,rfl,p2⟩:=sA.at'.opn;have bzA:=s9.tri t2 (b:=w.heap.size+1) (by omega) (by omega) bz9;clear bn9 bz9 hto t2 tn0 tn1 tn2 s9 p2 hst;replace hq:=Lib.hid hq;go_wp2_with(first|(refine zaq rfl rfl rfl rfl rfl rfl rfl rfl bzA ?_;intro w5 hg5 bz5)|fail);have s5:=sA.box hg5 (by omega) (by omega);exact zD (v:=.agg #[.slice a1' n2.keys.length c1',.slice a2' n2.chains.length c2',.slice a3' n2.kids.length c3']) (by simp[results,Tryz.results113,go_sem,loadVar,isAgg,zr hu,zaa ndS.hs,loadCellsFrom,Addr.add,bz5.cell0,bz5.cell1,bz5.cell2]) rfl (s5.ret (by rw[hq.out];exact hpin'))
theorem ztf:∀d,PutAt d
 |0=>zpp 0 λ_ h=>by cases h
 |d+1=>zpp (d+1) λd' h=>by cases h;exact ztf d
def SeekR (S:Nat->Prop)(w:World)(n:Nd)(k:List UInt8)(g:Nat)(W:World):Prop:=
 ∃n1 d1 x y z,d1<=g/\RdN S w (.agg #[x,y,z]) n1/\TriV W w.heap.size 46 x y z/\Pn d1 n1/\zaw (zac n1) k=zaw (zac n) k/\Below w.heap.size w W
theorem find_any (w:World){S S2:Nat->Prop}{v:Value}{n:Nd}{d:Nat}{a:Option Addr}{m c:Nat}{k:List UInt8}(hr:RdN S w v n)(hp:Pn d n)(hk:RdS S2 w (.slice a m c) k):Calls Tryz.prog 115 #[v,.slice a m c] w λe w'=>(∃a2 c2,e=.returned (.tuple #[.slice a2 ((zaw (zac n) k).getD []).length c2,.bool (zaw (zac n) k).isSome])/\RdL Elt.ver S w (.slice a2 ((zaw (zac n) k).getD []).length c2) ((zaw (zac n) k).getD []))/\Below w.heap.size w w':=by
  have hr0:=hr;obtain⟨a1,c1,a2,c2,a3,c3,rfl,_,_,_⟩:=hr;have q:Below w.heap.size w (w.alloc (.cells #[.slice a1 n.keys.length c1,.slice a2 n.chains.length c2,.slice a3 n.kids.length c3] 46)):=(ze _ _).alloc (zf _) _;have bn:=TriV.new w 46 (.slice a1 n.keys.length c1) (.slice a2 n.chains.length c2) (.slice a3 n.kids.length c3);obtain⟨W,hW⟩:∃W,W=w.alloc (.cells #[.slice a1 n.keys.length c1,.slice a2 n.chains.length c2,.slice a3 n.kids.length c3] 46):=⟨_,rfl⟩;rw[<-hW]at q bn;have r0:SeekR S w n k d W:=⟨n,d,_,_,_,zf _,hr0,bn,hp,rfl,q⟩;clear bn q hr0;obtain⟨out,hout⟩:∃out,out=zaw (zac n) k:=⟨_,rfl⟩;rw[<-hout];replace hout:=Lib.hid hout;go_enter Tryz.func115,Tryz.ntmps115;go_wp2_with fail;rw[<-hW];clear hW;go_loopg [] d (λg wr=>SeekR S w n k g wr);case atStart=>exact r0
  case round=>
    clear r0;obtain⟨n1,d1,x,y,z,hdk',hrd,bn1,hp1,hfe,hB⟩:=hrel;obtain⟨b1,e1,b2,e2,b3,e3,eqv,rk,rc,rn⟩:=hrd;injection eqv with eqv;injection eqv with eqv;injection eqv with ex eqv;injection eqv with ey eqv;injection eqv with ez _;subst ex ey ez;have hrd:RdN S w (.agg #[.slice b1 n1.keys.length e1,.slice b2 n1.chains.length e2,.slice b3 n1.kids.length e3]) n1:=⟨b1,e1,b2,e2,b3,e3,rfl,rk,rc,rn⟩;have hkk:=hp1.wf.keys.2;obtain⟨hsh1,hsh2⟩:=hp1.wf.shape;have hpl:=ziy wr (hrd.below hB) hp1.ris (by omega) (hk.below hB);have hle:=λW'=>zh9 W' (x:=.slice b1 n1.keys.length e1) (y:=.slice b2 n1.chains.length e2) (a:=b3) (n:=n1.kids.length) (c:=e3)
    obtain⟨i,hi⟩:∃i,i=plcF n1.keys k:=⟨_,rfl⟩;obtain⟨is,his⟩:∃is,is=isF n1.keys k:=⟨_,rfl⟩;rw[<-hi,<-his]at hpl;have hile:i<=n1.keys.length:=by rw[hi];exact zhu _ _
    have tn0:=bn1.cell0;have tn1:=bn1.cell1;have tn2:=bn1.cell2;cases is with
    |true=>
      have hfi:=find_is hp1 his.symm;obtain⟨hlt,_⟩:=zqb his.symm;rw[<-hi]at hlt hfi;have hlc:i<n1.chains.length:=by omega
      rw[zB hlc]at hfi;have ho:out=some n1.chains[i]:=by rw[hout.out,<-hfe,hfi]
      obtain⟨gb,off,A,C,rfl,hcell,hrl⟩:=rc.lst i hlc;have hcell1:=(zag (hB.block gb (zad hcell)) _).trans hcell;have ho1:=Lib.hid ho;clear ho;replace hi:=Lib.hid hi;replace his:=Lib.hid his;replace hsh1:=Lib.hid hsh1;replace hsh2:=Lib.hid hsh2;replace hfe:=Lib.hid hfe;replace hfi:=Lib.hid hfi;go_wp2_with fail;refine hpl.mono ?_;rintro e w1 ⟨rfl,hb1⟩;have bn2:=bn1.below hb1 bn1.lt;replace hcell1:=(zag (hb1.block gb (zad hcell1)) _).trans hcell1;clear tn0 tn1 tn2 hpl hle bn1 hcell;have tn1:=bn2.cell1;go_wp2_with fail;go_ret2;rw[ho1.out];exact⟨⟨A,C,rfl,hrl⟩,hB.trans (hb1.mono hB.size)⟩
    |false=>
      rcases yx n1.kids.length with hk0|hk0
      · have hdk:decide (n1.kids.length=0)=true:=zk hk0
        rw[hdk]at hle;have ho:out=none:=by rw[hout.out,<-hfe,zus hp1 his.symm (we.1 hk0)]
        have ho1:=Lib.hid ho;clear ho;replace hi:=Lib.hid hi;replace his:=Lib.hid his;replace hsh1:=Lib.hid hsh1;replace hsh2:=Lib.hid hsh2;replace hfe:=Lib.hid hfe;replace hdk:=Lib.hid hdk;replace hk0:=Lib.hid hk0;go_wp2_with fail;refine hpl.mono ?_;rintro e w1 ⟨rfl,hb1⟩;have bn2:=bn1.below hb1 bn1.lt;clear tn0 tn1 tn2 hpl bn1;have tn0:=bn2.cell0;have tn1:=bn2.cell1;have tn2:=bn2.cell2;go_wp2_with fail;refine(hle w1).mono ?_;rintro e w2 ⟨rfl,hb2⟩;have hb12:=hb1.trans (hb2.mono hb1.size);clear hle;go_wp2_with fail;go_ret2;rw[ho1.out];exact⟨⟨none,0,rfl,RdL.nil _ _ _⟩,hB.trans (hb12.mono hB.size)⟩
      · have hdk:decide (n1.kids.length=0)=false:=zj (by omega)
        rw[hdk]at hle;obtain⟨d',rfl,hd',hkl,e4,e5,e6⟩:=hp1.kid hk0;clear e4 e5 e6;have ilt:i<n1.kids.length:=by omega
        obtain⟨d2,e',e5,e6,hpk,e7,e8⟩:=hp1.kid ilt;obtain rfl:d'=d2:=by omega
        clear e5 e6 e7 e8 e';have hfi:zaw (zac n1.kids[i]) k=zaw (zac n) k:=by
          subst hi;rw[<-find_in hp1 his.symm ilt];exact hfe
        obtain⟨gb,off,xa,xc,ya,yc,za,zc,rfl,k0,k1,k2,hrk⟩:=rn.kid i ilt;replace k0:=(zag (hB.block gb (zad k0)) _).trans k0;replace k1:=(zag (hB.block gb (zad k1)) _).trans k1;replace k2:=(zag (hB.block gb (zad k2)) _).trans k2;replace hi:=Lib.hid hi;replace his:=Lib.hid his;replace hsh1:=Lib.hid hsh1;replace hsh2:=Lib.hid hsh2;replace hkl:=Lib.hid hkl;replace hfe:=Lib.hid hfe;replace hfi:=Lib.hid hfi;replace hdk:=Lib.hid hdk;go_wp2_with fail;refine hpl.mono ?_;rintro e w1⟨rfl,hb1⟩;have bn2:=bn1.below hb1 bn1.lt;clear tn0 tn1 tn2 hpl bn1;have tn0:=bn2.cell0;have tn1:=bn2.cell1;have tn2:=bn2.cell2;go_wp2_with fail;refine(hle w1).mono ?_;rintro e w2⟨rfl,hb2⟩;have hb12:=hb1.trans (hb2.mono hb1.size);have bn3:=bn2.below hb2 bn2.lt;replace k0:=(zag (hb12.block gb (zad k0)) _).trans k0;replace k1:=(zag (hb12.block gb (zad k1)) _).trans k1;replace k2:=(zag (hb12.block gb (zad k2)) _).trans k2;clear tn0 tn1 tn2 hle bn2;have tn2:=bn3.cell2;have hB2:=hB.trans (hb12.mono hB.size);go_wp2_with(first|(refine zaq rfl rfl rfl rfl rfl rfl rfl rfl bn3 ?_;intro w3 hg3 bn4)|fail);go_roundg (gk-1);case measure=>omega
        case rel=>exact⟨_,d',_,_,_,by omega,hrk,bn4,hpk,hfi.out,hB2.grown hg3 hB2.size (λk hk=>by injection hk with hk;omega)⟩
def Ris (l:List (List UInt8)):Prop:=l.Pairwise λa b=>ltB a b=true
instance(l:List (List UInt8)):Decidable (Ris l):=by unfold Ris;infer_instance
theorem zoa{A B:List (List UInt8)}{k:List UInt8}:Ris (A++k::B)↔Ris (A++[k])/\Ris (k::B):=by
  unfold Ris;constructor
  · intro h
    refine⟨?_,(xy.1 h).2.1⟩;have e:A++k::B=(A++[k])++B:=by simp
    rw[e]at h;exact(xy.1 h).1
  · rintro⟨h1,h2⟩
    rw[xy]at h1⊢;refine⟨h1.1,h2,λa ha b hb=>?_⟩;have hak:=h1.2.2 a ha k (by simp);rcases zU.1 hb with rfl|hb
    ·exact hak
    ·exact zbe hak ((yh.1 h2).1 b hb)
theorem zn9{a b:List (List UInt8)}(h:Ris b)(hs:a.Sublist b):Ris a:=List.Pairwise.sublist hs h
def kyP(l:List Pr):List (List UInt8):=l.map (·.key)
def loK(ks:List (List UInt8))(low:List (List UInt8))(i:Nat):List (List UInt8):=if i=0 then low else(ks[i-1]?).toList
def hiK (ks:List (List UInt8))(high:List (List UInt8))(i:Nat):List (List UInt8):=if i<ks.length then(ks[i]?).toList else high
theorem zmj:∀(K:List Pr) (x:List Pr) (B:List (List Pr)) (low high:List (List UInt8)),B.length=K.length->(Ris (low++kyP (x++suf K B)++high)↔Ris (low++kyP K++high)/\∀i (h:i<(x::B).length),Ris (loK (kyP K) low i++kyP (x::B)[i]++hiK (kyP K) high i))
  |[],x,[],low,high,_=>by
    constructor
    · intro h
      have h':Ris (low++kyP x++high):=by simpa [suf]using h
      refine⟨zn9 h' ?_,λi hi=>?_⟩
      · simp only[kyP,zo,yr]
        exact List.Sublist.append (List.sublist_append_left _ _) (List.Sublist.refl _)
      · obtain rfl:i=0:=by simp at hi;exact hi
        simpa [loK,hiK,kyP]using h'
    · rintro⟨_,h⟩
      have:=h 0 (by simp);simpa[loK,hiK,kyP,suf]using this
  |p::K,x,y::B,low,high,hl=>by
    have ih:=zmj K y B [p.key] high (by simpa using hl);have e0:suf (p::K) (y::B)=p::(y++suf K B):=by rw[suf,zcw]
    have e1:low++kyP (x++suf (p::K) (y::B))++high=(low++kyP x)++p.key::(kyP (y++suf K B)++high):=by rw[e0];simp[kyP]
    have e2:low++kyP (p::K)++high=low++p.key::(kyP K++high):=by simp[kyP]
    have e3:∀l:List (List UInt8),p.key::(l++high)=[p.key]++l++high:=λl=>by simp
    rw[e1,e2,zoa (A:=low++kyP x) (k:=p.key) (B:=kyP (y++suf K B)++high),zoa (A:=low) (k:=p.key) (B:=kyP K++high),e3 (kyP (y++suf K B)),e3 (kyP K),ih];have e4:∀j,loK (kyP (p::K)) low (j+1)=loK (kyP K) [p.key] j:=λj=>by
      unfold loK;cases j with
      |zero=>simp[kyP]
      |succ j=>simp[kyP]
    have e5:∀j,hiK (kyP (p::K)) high (j+1)=hiK (kyP K) high j:=λj=>by
      unfold hiK;simp[kyP]
    constructor
    · rintro⟨h1,h2,h3⟩
      refine⟨⟨zn9 h1 ?_,h2⟩,λi hi=>?_⟩
      ·exact List.Sublist.append (List.sublist_append_left _ _) (List.Sublist.refl _)
      ·cases i with
        |zero=>simpa [loK,hiK,kyP]using h1
        |succ j=>
          have:=h3 j (by simpa using hi);rw[e4,e5];simpa using this
    · rintro⟨⟨_,h2⟩,h3⟩
      refine⟨?_,h2,λj hj=>?_⟩
      · have:=h3 0 (by simp)
        simpa [loK,hiK,kyP]using this
      · have:=h3 (j+1) (by simpa using hj)
        rw[e4,e5]at this;simpa using this
instance(p:Pr):Decidable (zjw p):=by unfold zjw;infer_instance
def depF (n:Nd)(low high:List (List UInt8)):Nat:=if 0<=zb8 n false/\(∀p∈zac n,zjw p)/\Ris (low++kyP (zac n)++high)then(zb8 n false).toNat else 0
def aloF(n:Nd):Prop:=1<=n.keys.length/\n.keys.length<=3/\n.chains.length=n.keys.length/\(∀p∈kpN n,zjw p)/\(n.kids=[]\/n.kids.length=n.keys.length+1)
instance(n:Nd):Decidable (aloF n):=by unfold aloF;infer_instance
theorem zon{n:Nd}(hc:n.chains.length=n.keys.length):kyP (kpN n)=n.keys:=by
  unfold kyP kpN;apply List.ext_getElem;·rw[zX,wn];omega
  · intro i h1 h2
    simp
theorem zli(n:Nd)(h:1<=n.keys.length):zb8 n true=zb8 n false:=by
 rw[zcs,zcs];have:¬n.keys.length<1:=by omega
 simp[this]
theorem zm9{n:Nd}(hc:n.chains.length=n.keys.length)(h1:1<=n.keys.length)(h3:n.keys.length<=3)(h0:n.kids=[]):zb8 n false=1:=by
 rw[zcs,zh (by omega),zi (by rw[h0];rfl)]
theorem zuo{n:Nd}{b:Int}(hc:n.chains.length=n.keys.length)(h1:1<=n.keys.length)(h3:n.keys.length<=3)(hk:n.kids.length=n.keys.length+1)(hb:0<=b)(ha:∀m∈n.kids,zb8 m false=b):zb8 n false=b+1:=by
 rw[zcs,zh (by omega),zh (by omega),zh (by omega)];cases hm:n.kids with
 |nil=>rw[hm]at hk;simp at hk
 |cons m r=>
  rw[zn];have e:=ha m (by rw[hm];simp);rw[e];exact allD_yes (λx hx=>by
   obtain⟨m',hm',rfl⟩:=xD.1 hx;exact ha m' (by rw[hm];simp[hm'])) hb
theorem zfp{n:Nd}{Q:Pr->Prop}(hc:n.chains.length=n.keys.length)(hk:n.kids=[]\/n.kids.length=n.keys.length+1):(∀p∈zac n,Q p)↔(∀p∈kpN n,Q p)/\∀m∈n.kids,∀p∈zac m,Q p:=by
  have hsuf:∀(K:List Pr)(B:List (List Pr)),B.length=K.length->((∀p∈suf K B,Q p)↔(∀p∈K,Q p)/\∀x∈B,∀p∈x,Q p):=by
    intro K;induction K with
    |nil=>intro B hB;have:B=[]:=yg hB;subst this;simp[suf]
    |cons k K ih=>
      intro B hB;cases B with
      |nil=>simp at hB
      |cons y B=>
        have e:suf (k::K) (y::B)=k::(y++suf K B):=by rw[suf,zcw]
        rw[e,vh,List.forall_mem_append,ih B (by simpa using hB),vh,vh];constructor
        · rintro⟨h1,h2,h3,h4⟩
          exact⟨⟨h1,h3⟩,h2,h4⟩
        · rintro⟨⟨h1,h3⟩,h2,h4⟩
          exact⟨h1,h2,h3,h4⟩
  rw[zar hc hk];rcases hk with hk|hk
  · have:psN n=[]:=by unfold psN;rw[hk];rfl
    rw[this,hk];simp[zca]
  · have hl:(psN n).length=(kpN n).length+1:=by unfold psN;rw[zX,zbt hc,hk]
    have hmem:(∀m∈n.kids,∀p∈zac m,Q p)↔∀x∈psN n,∀p∈x,Q p:=by unfold psN;simp
    rw[hmem];cases hps:psN n with
    |nil=>rw[hps]at hl;simp at hl
    |cons x B=>
      rw[hps]at hl;rw[zcw,List.forall_mem_append,hsuf (kpN n) B (by simpa using hl),vh];constructor
      · rintro⟨h1,h2,h3⟩
        exact⟨h2,h1,h3⟩
      · rintro⟨h2,h1,h3⟩
        exact⟨h1,h2,h3⟩
theorem zkt{n:Nd}(hc:n.chains.length=n.keys.length) (hk:n.kids.length=n.keys.length+1) (low high:List (List UInt8)):Ris (low++kyP (zac n)++high)↔Ris (low++n.keys++high)/\∀i (h:i<n.kids.length),Ris (loK n.keys low i++kyP (zac n.kids[i])++hiK n.keys high i):=by
  rw[zar hc (.inr hk)];have hl:(psN n).length=(kpN n).length+1:=by unfold psN;rw[zX,zbt hc,hk]
  obtain⟨x,B,hps⟩:∃x B,psN n=x::B:=by
    cases hps:psN n with
    |nil=>rw[hps]at hl;simp at hl
    |cons x B=>exact⟨x,B,rfl⟩
  have hlB:B.length=(kpN n).length:=by rw[hps]at hl;simpa using hl
  rw[hps,zcw,zmj (kpN n) x B low high hlB,zon hc];have hlen:(x::B).length=n.kids.length:=by rw[<-hps];unfold psN;rw[zX]
  have hget:∀i (h1:i<(x::B).length)(h2:i<n.kids.length),(x::B)[i]=zac n.kids[i]:=λi h1 h2=>by
    have:(psN n)[i]?=some (zac n.kids[i]):=by unfold psN;rw[List.getElem?_map,zB h2];rfl
    rw[hps,zB h1]at this;exact yn this
  constructor
  · rintro⟨h1,h2⟩
    exact⟨h1,λi hi=>by have:=h2 i (by omega);rwa [hget i (by omega) hi]at this⟩
  · rintro⟨h1,h2⟩
    exact⟨h1,λi hi=>by have:=h2 i (by omega);rwa[hget i hi (by omega)]⟩
theorem zsb{n:Nd}{low high:List (List UInt8)}(h:¬aloF n):depF n low high=0:=by
 unfold depF;rw[zh];rintro⟨h1,h2,_⟩;obtain⟨h4,h5,h6,h7⟩:=zd1 rfl h1;refine h ⟨h6 rfl,h5,h4,?_,h7.imp (λh=>h.1) λh=>h.1⟩;exact((zfp h4 (h7.imp (λh=>h.1) λh=>h.1)).1 h2).1
theorem zu1{n:Nd}{low high:List (List UInt8)}(ha:aloF n)(h:¬Ris (low++n.keys++high)):depF n low high=0:=by
  obtain⟨_,_,hc,_,hk⟩:=ha;unfold depF;rw[zh];rintro⟨_,_,h3⟩;rcases hk with hk|hk
  · rw[zar hc (.inl hk)]at h3
    have:psN n=[]:=by unfold psN;rw[hk];rfl
    rw[this]at h3;exact h (by simpa [zca,zon hc]using h3)
  ·exact h ((zkt hc hk low high).1 h3).1
theorem zu2{n:Nd}{low high:List (List UInt8)}(ha:aloF n)(h:Ris (low++n.keys++high))(h0:n.kids=[]):depF n low high=1:=by
  obtain⟨h1,h3,hc,hg,_⟩:=ha;unfold depF;have hp:psN n=[]:=by unfold psN;rw[h0];rfl
  rw[zm9 hc h1 h3 h0,zi]
  ·rfl
  · refine⟨by omega,(zfp hc (.inl h0)).2 ⟨hg,λm hm=>by rw[h0]at hm;cases hm⟩,?_⟩
    rw[zar hc (.inl h0),hp];simpa[zca,zon hc]using h
theorem zqq{n:Nd}{low high:List (List UInt8)}(h:depF n low high≠0):zb8 n false=(depF n low high:Int)/\(∀p∈zac n,zjw p)/\Ris (low++kyP (zac n)++high):=by
 unfold depF at h⊢;split at h;·next hc=>rw[zi hc];exact⟨by omega,hc.2⟩
 ·exact absurd rfl h
theorem zll {n:Nd}{low high:List (List UInt8)}(ha:aloF n)(hd:depF n low high≠0)(i:Nat)(hi:i<n.kids.length):(depF n.kids[i] (loK n.keys low i) (hiK n.keys high i):Int)=(depF n low high:Int)-1/\depF n.kids[i] (loK n.keys low i) (hiK n.keys high i)≠0:=by
  obtain⟨_,_,hc,hg,hk⟩:=ha;obtain⟨h1,h2,h3⟩:=zqq hd;have hk':n.kids.length=n.keys.length+1:=by
    rcases hk with hk|hk
    · rw[hk]at hi;cases hi
    ·exact hk
  obtain⟨_,_,_,h7⟩:=zd1 h1 (by omega);rcases h7 with⟨h7,_⟩|⟨_,_,h8,h9⟩
  · rw[h7]at hi;cases hi
  · have e:=h9 _ (zL hi)
    have hcond:0<=zb8 n.kids[i] false/\(∀p∈zac n.kids[i],zjw p)/\Ris (loK n.keys low i++kyP (zac n.kids[i])++hiK n.keys high i):=
      ⟨by rw[e];omega,((zfp hc (.inr hk')).1 h2).2 _ (zL hi),((zkt hc hk' low high).1 h3).2 i hi⟩
    have:depF n.kids[i] (loK n.keys low i) (hiK n.keys high i)=(zb8 n.kids[i] false).toNat:=zi hcond;rw[this,e];omega
theorem depF_all{n:Nd}{low high:List (List UInt8)}{b:Nat}(ha:aloF n)(h:Ris (low++n.keys++high))(hk:0<n.kids.length)(hb:0<b)(hd:∀i (hi:i<n.kids.length),depF n.kids[i] (loK n.keys low i) (hiK n.keys high i)=b):depF n low high=b+1:=by
  obtain⟨h1,h3,hc,hg,hk2⟩:=ha;have hk':n.kids.length=n.keys.length+1:=by
    rcases hk2 with hk2|hk2
    ·rw[hk2]at hk;cases hk
    ·exact hk2
  have hp:=λi (hi:i<n.kids.length)=>zqq (n:=n.kids[i]) (low:=loK n.keys low i) (high:=hiK n.keys high i) (by rw[hd i hi];omega)
  have hf:zb8 n false=(b:Int)+1:=zuo hc h1 h3 hk' (by omega) λm hm=>by
    obtain⟨i,hi,rfl⟩:=yy.1 hm;rw[(hp i hi).1,hd i hi]
  unfold depF;rw[hf,zi];·omega
  · refine⟨by omega,(zfp hc (.inr hk')).2 ⟨hg,λm hm=>?_⟩,(zkt hc hk' low high).2 ⟨h,λi hi=>(hp i hi).2.2⟩⟩
    obtain⟨i,hi,rfl⟩:=yy.1 hm;exact(hp i hi).2.1
theorem zu0 (n:Nd):depN n=if n.keys.length+n.chains.length+n.kids.length=0 then 1 else(depF n [] []:Int):=by
  unfold depN;have hsr:∀l:List Pr,Srt l↔Ris ([]++kyP l++[]):=λl=>by
    unfold Srt Ris kyP;rw[yw,yr,List.pairwise_map]
  by_cases h0:n.keys.length+n.chains.length+n.kids.length=0
  · rw[zi h0]
    have e1:n.keys.length=0:=by omega
    have e2:n.kids=[]:=yg (by omega);have hf:zb8 n true=1:=by
      rw[zcs,zh (by simp;omega),zi (by rw[e2];rfl)]
    have hp:zac n=[]:=yg (by rw[zhc n e2];exact e1);have hok:okN n:=⟨by rw[hf];omega,by rw[hp];intro i h;simp at h⟩;rw[zi hok,hf]
  · rw[zh h0]
    by_cases h1:1<=n.keys.length
    · have hiff:okN n↔(0<=zb8 n false/\(∀p∈zac n,zjw p)/\Ris ([]++kyP (zac n)++[])):=by
        unfold okN;rw[zli n h1,zdu,hsr]
      unfold depF;by_cases h2:okN n
      · rw[zi h2,zi (hiff.1 h2),zli n h1]
        have:=(hiff.1 h2).1;omega
      · rw[zh h2,zh λh=>h2 (hiff.2 h)]
        rfl
    · have hf:zb8 n false=-1:=by
        rw[zcs,zi (.inr (.inr ⟨rfl,by omega⟩))]
      have hft:¬0<=zb8 n true:=λh=>by
        obtain⟨h4,_,_,h7⟩:=zd1 rfl h;rcases h7 with⟨h7,_⟩|⟨_,h8,_⟩
        · have e:n.kids.length=0:=by rw[h7];rfl
          exact h0 (by omega)
        ·omega
      rw[zh (λh:okN n=>hft h.1)];unfold depF;rw[zh (λh=>by rw[hf]at h;omega)];rfl
def gdP(n:Nd)(r:Nat):Prop:=(n.keys.getD r []).length<=16/\n.chains.getD r []≠[]/\okV (n.chains.getD r [])
instance (n:Nd)(r:Nat):Decidable (gdP n r):=by unfold gdP;infer_instance
theorem kp_good{n:Nd}(hc:n.chains.length=n.keys.length):(∀p∈kpN n,zjw p)↔∀r,r<n.keys.length->gdP n r:=by
  have e1:∀r (hr:r<n.keys.length),n.keys.getD r []=n.keys[r]/\n.chains.getD r []=n.chains[r]'(by omega):=λr hr=>by
    rw[yu,yu,zB hr,zB (by omega:r<n.chains.length)];exact⟨rfl,rfl⟩
  constructor
  · intro h r hr
    have hm:(⟨n.keys[r],n.chains[r]'(by omega)⟩:Pr)∈kpN n:=xq (zfd hc hr)
    obtain⟨h1,h2,h3⟩:=h _ hm;unfold gdP;rw[(e1 r hr).1,(e1 r hr).2];exact⟨h3,h2,h1⟩
  · intro h p hp
    obtain⟨r,hr,rfl⟩:=yy.1 hp;have hr':r<n.keys.length:=by rw[zbt hc]at hr;exact hr
    have e:=zfd hc hr';rw[zB hr]at e;rw[yn e];have hg:=h r hr';unfold gdP at hg;rw[(e1 r hr').1,(e1 r hr').2]at hg;exact⟨hg.2.2,hg.2.1,hg.1⟩
theorem zrg (w:World){S:Nat->Prop}{v:Value}{n:Nd}(hr:RdN S w v n):Calls Tryz.prog 149 #[v] w λe w'=>e=.returned (.bool (decide (aloF n)))/\Below w.heap.size w w':=by
  obtain⟨a1,c1,a2,c2,a3,c3,rfl,rk,rc,rn⟩:=hr;have q:Below w.heap.size w (w.alloc (.cells #[.slice a1 n.keys.length c1,.slice a2 n.chains.length c2,.slice a3 n.kids.length c3] 46)):=(ze _ _).alloc (zf _) _;have bn:=TriV.new w 46 (.slice a1 n.keys.length c1) (.slice a2 n.chains.length c2) (.slice a3 n.kids.length c3);obtain⟨W,hW⟩:∃W,W=w.alloc (.cells #[.slice a1 n.keys.length c1,.slice a2 n.chains.length c2,.slice a3 n.kids.length c3] 46):=⟨_,rfl⟩;rw[<-hW]at q bn;obtain⟨out,hout⟩:∃out,out=decide (aloF n):=⟨_,rfl⟩;rw[<-hout];replace hout:=Lib.hid hout;have tn0:=bn.cell0;have tn1:=bn.cell1;have tn2:=bn.cell2;obtain⟨hk1,hk2,hk3⟩:n.keys.length<=9223372036854775807/\n.chains.length<=9223372036854775807/\n.kids.length<=9223372036854775807:=RdN.lens (S:=S) (w:=w) (v:=.agg #[.slice a1 n.keys.length c1,.slice a2 n.chains.length c2,.slice a3 n.kids.length c3]) ⟨a1,c1,a2,c2,a3,c3,rfl,rk,rc,rn⟩;by_cases hlen:1<=n.keys.length/\n.keys.length<=3/\n.chains.length=n.keys.length
  · obtain⟨h1,h3,hc⟩:=hlen
    have d1:decide ((n.keys.length:Int)<1)=false:=zj (by omega);have d2:decide ((3:Int)<(n.keys.length:Int))=false:=zj (by omega);have d3:((n.chains.length:Int)!=(n.keys.length:Int))=false:=lenEq hc;have hgood:=kp_good hc;have hc1:=yE hc;have hc2:=yE hc.symm;have HC:=Lib.hid hc;clear hc;replace hgood:=Lib.hid hgood;go_enter Tryz.func149,Tryz.ntmps149;go_wp2_with fail;rw[<-hW];clear hW;go_loopw [3,4,27] (λ_ _ iv wr=>∃j:Nat,j<=n.keys.length/\iv=.int .i64 j/\(∀r,r<j->gdP n r)/\Below W.heap.size W wr) (λ_ _ iv _=>n.keys.length-(intOf iv).toNat);case atStart=>exact⟨0,zH _,rfl,λ_ h=>absurd h (yH _),ze _ _⟩
    case round=>
      obtain⟨j,hj,rfl,hg,hb⟩:=hrel;have hbw:=q.trans (hb.mono q.size);clear tn0 tn1 tn2;rcases zA j n.keys.length with hlt|hge
      · have hjc:j<n.chains.length:=by omega
        obtain⟨b1,o1,A,C,rfl,hk0,hkr⟩:=(rk.below hbw).byt j hlt;obtain⟨b2,o2,A2,C2,rfl,hc0,hcr⟩:=(rc.below hbw).lst j hjc;have hfit:=zql wr (a:=A) (n:=n.keys[j].length) (c:=C) hcr;have hgd:decide (n.keys[j].length<=16/\n.chains[j]≠[]/\okV n.chains[j])=decide (gdP n j):=decide_eq_decide.2 (by
          unfold gdP;rw[yu,yu,zB hlt,zB hjc];exact Iff.rfl)
        rw[hgd]at hfit;clear hgd;have bn2:=bn.below hb bn.lt;have tn1:=bn2.cell1;by_cases hg2:gdP n j
        · rw[zk hg2]at hfit
          go_wp2_with fail;refine hfit.mono ?_;rintro e w2 ⟨rfl,hb2⟩;go_wp2_with fail;go_roundw;case rel=>exact⟨j+1,by omega,by go_num,λr hr=>(zA r j).elim (λh=>hg r h) (λh=>(show r=j by omega)▸hg2),hb.trans (hb2.mono hb.size)⟩
          case measure=>simp[intOf];omega
        · rw[zj hg2]at hfit
          have ho:out=false:=by
            rw[hout.out];exact zj λha=>hg2 (hgood.out.1 ha.2.2.2.1 j hlt)
          replace ho:=Lib.hid ho;go_wp2_with fail;refine hfit.mono ?_;rintro e w2 ⟨rfl,hb2⟩;go_wp2_with fail;go_ret;exact⟨by rw[ho.out]<;>rfl,hbw.trans (hb2.mono hbw.size)⟩
      · obtain rfl:j=n.keys.length:=by omega
        have bn2:=bn.below hb bn.lt;have hle:=zh9 wr (x:=.slice a1 n.keys.length c1) (y:=.slice a2 n.chains.length c2) (a:=a3) (n:=n.kids.length) (c:=c3);have tn0:=bn2.cell0;have tn1:=bn2.cell1;have tn2:=bn2.cell2;have hall:=hgood.out.2 hg;replace hg:=Lib.hid hg;rcases yx n.kids.length with hk0|hk0
        · have hdk:decide (n.kids.length=0)=true:=zk hk0
          rw[hdk]at hle;have ho:out=true:=by
            rw[hout.out];exact zk ⟨h1,h3,HC.out,hall,.inl (we.1 hk0)⟩
          replace ho:=Lib.hid ho;replace hdk:=Lib.hid hdk;replace hk0:=Lib.hid hk0;go_wp2_with fail;refine hle.mono ?_;rintro e w2 ⟨rfl,hb2⟩;go_wp2_with fail;go_ret;exact⟨by rw[ho.out]<;>rfl,hbw.trans (hb2.mono hbw.size)⟩
        · have hdk:decide (n.kids.length=0)=false:=zj (by omega)
          rw[hdk]at hle;obtain⟨yes,hyes⟩:∃yes,yes=decide (n.kids.length=n.keys.length+1):=⟨_,rfl⟩;have d4:((n.kids.length:Int)==(n.keys.length:Int)+1)=yes:=by
            rw[hyes];by_cases h:n.kids.length=n.keys.length+1
            · rw[zk h,zK];omega
            · rw[zj h,zt];omega
          have ho:out=yes:=by
            rw[hout.out,hyes];refine decide_eq_decide.2 ⟨λha=>?_,λh=>⟨h1,h3,HC.out,hall,.inr h⟩⟩;rcases ha.2.2.2.2 with h|h
            · rw[h]at hk0;cases hk0
            ·exact h
          replace ho:=Lib.hid ho;replace hdk:=Lib.hid hdk;replace hyes:=Lib.hid hyes;go_wp2_with fail;refine hle.mono ?_;rintro e w2 ⟨rfl,hb2⟩;have bn3:=bn2.below hb2 bn2.lt;clear tn0 tn1 tn2;have tn0:=bn3.cell0;have tn2:=bn3.cell2;go_wp2_with fail;go_ret;exact⟨by rw[ho.out]<;>rfl,hbw.trans (hb2.mono hbw.size)⟩
  · have ho:out=false:=by
      rw[hout.out];exact zj λha=>hlen ⟨ha.1,ha.2.1,ha.2.2.1⟩
    replace ho:=Lib.hid ho;have fin:∀W',W'=W->(Ending.returned (.bool false)=Ending.returned (.bool out)/\Below w.heap.size w W'):=λW' e=>⟨by rw[ho.out],by rw[e];exact q⟩
    rcases zA n.keys.length 1 with h1|h1
    · have d1:decide ((n.keys.length:Int)<1)=true:=zk (by omega)
      go_enter Tryz.func149,Tryz.ntmps149;go_wp2_with fail;rw[<-hW];go_ret;exact fin _ rfl
    · have d1:decide ((n.keys.length:Int)<1)=false:=zj (by omega)
      rcases zA 3 n.keys.length with h3|h3
      · have d2:decide ((3:Int)<(n.keys.length:Int))=true:=zk (by omega)
        go_enter Tryz.func149,Tryz.ntmps149;go_wp2_with fail;rw[<-hW];go_ret;exact fin _ rfl
      · have d2:decide ((3:Int)<(n.keys.length:Int))=false:=zj (by omega)
        have hne:¬n.chains.length=n.keys.length:=λh=>hlen ⟨h1,h3,h⟩
        have d3:((n.chains.length:Int)!=(n.keys.length:Int))=true:=lenNe hne;go_enter Tryz.func149,Tryz.ntmps149;go_wp2_with fail;rw[<-hW];go_ret;exact fin _ rfl
def LastR(S:Nat->Prop)(w:World)(v:Value)(P:List (List UInt8)):Prop:=
 (P=[]/\v=.slice none 0 0)\/∃Q x b off C A L,P=Q++[x]/\v=.slice (some ⟨b,off,none⟩) 1 C/\w.cell? ⟨b,off,none⟩=some (.slice A x.length L)/\RdS S w (.slice A x.length L) x
theorem zpm{Q:List (List UInt8)}{x k:List UInt8}:Ris (Q++[x]++[k])↔Ris (Q++[x])/\ltB x k=true:=by
 rw[zG,wF,zoa];unfold Ris;simp
theorem ris_pre{A B:List (List UInt8)}(h:Ris (A++B)):Ris A:=zn9 h (List.sublist_append_left _ _)
theorem zsx(w:World){S:Nat->Prop}{a:Option Addr}{m c:Nat}{ls:List (List (List UInt8))}(hl:RdL (Elt.list Elt.bytes) S w (.slice a m c) ls)(hn:ls.length<=1000000)(hn2:∀l∈ls,l.length<=1000000):Calls Tryz.prog 150 #[.slice a m c] w λe w'=>e=.returned (.bool (decide (Ris ls.flatten)))/\Below w.heap.size w w':=by
  obtain⟨rfl,hmc,hcm⟩:=hl.len;obtain⟨out,hout⟩:∃out,out=decide (Ris ls.flatten):=⟨_,rfl⟩;rw[<-hout];replace hout:=Lib.hid hout;go_enter Tryz.func150,Tryz.ntmps150;go_wp2_with fail;go_loopw [3,5,6,7,10](λlv _ _ _ iv wr=>∃r:Nat,r<=ls.length/\iv=.int .i64 r/\LastR S w lv (ls.take r).flatten/\Ris (ls.take r).flatten/\Below w.heap.size w wr)(λ_ _ _ _ iv _=>ls.length-(intOf iv).toNat);case atStart=>exact⟨0,zH _,rfl,.inl ⟨rfl,rfl⟩,List.Pairwise.nil,ze _ _⟩
  case round=>
    obtain⟨r,hr,rfl,hlast,hris,hb⟩:=hrel;rcases zA r ls.length with hlt|hge
    · obtain⟨b1,o1,A1,C1,rfl,hc0,hlr⟩:=hl.lst r hlt
      replace hc0:=(zag (hb.block b1 (zad hc0)) _).trans hc0;have hl0:RdL Elt.bytes S w (.slice A1 ls[r].length C1) ls[r]:=hlr;have hcap:=hl0.len.2;have hln:=hn2 _ (zL hlt);obtain⟨l,hll⟩:∃l,l=ls[r]:=⟨_,rfl⟩;rw[<-hll]at hc0 hl0 hcap hln;replace hll:=Lib.hid hll;clear hlr;obtain⟨P,hP⟩:∃P,P=(ls.take r).flatten:=⟨_,rfl⟩;rw[<-hP]at hlast hris;replace hP:=Lib.hid hP;go_upto_region 5 with(fail);go_wp2_with fail;go_loopw [3,6,7,16](λlv _ _ iv w2=>∃i:Nat,i<=l.length/\iv=.int .i64 i/\LastR S w lv (P++l.take i)/\Ris (P++l.take i)/\Below wr.heap.size wr w2)(λ_ _ _ iv _=>l.length-(intOf iv).toNat);case atStart=>exact⟨0,zH _,rfl,by simpa using hlast,by simpa using hris,ze _ _⟩
      case round=>
        clear hlast hris;obtain⟨i,hi,rfl,hlast,hris,hb2⟩:=hrel;have hbw:=hb.trans (hb2.mono hb.size);rcases zA i l.length with hil|hil
        · obtain⟨b2,o2,A2,C2,rfl,hk0,hkr⟩:=hl0.byt i hil
          obtain⟨y,hy⟩:∃y,y=l[i]:=⟨_,rfl⟩;rw[<-hy]at hk0 hkr;have htk:P++l.take (i+1)=P++l.take i++[y]:=by rw[yT,zB hil,hy,zG];rfl
          replace hy:=Lib.hid hy;have nlast:LastR S w (.slice (some ⟨b2,o2+i,none⟩) 1 (C1-i)) (P++l.take i++[y]):=.inr ⟨_,y,b2,o2+i,C1-i,A2,C2,rfl,rfl,hk0,hkr⟩;replace htk:=Lib.hid htk;have hk1:=(zag (hbw.block b2 (zad hk0)) _).trans hk0;have hkr1:=hkr.below hbw;clear hk0 hkr;rcases hlast with⟨hP0,rfl⟩|⟨Q,x,b4,o4,C4,A4,L4,hQ,rfl,hc4,hr4⟩
          · have hris2:Ris (P++l.take i++[y]):=by rw[hP0];unfold Ris;simp
            replace hP0:=Lib.hid hP0;go_wp2_with(first|(refine zam kysP.toLsP rfl rfl rfl (l:=i) (r:=i+1) (zbj _ rfl (by omega) (by omega) (by omega)) (by omega) ?_)|fail);go_roundw;case rel=>exact⟨i+1,by omega,by go_num,by rw[htk.out];exact nlast,by rw[htk.out];exact hris2,hb2⟩
            case measure=>simp[intOf];omega
          · have hc5:=(zag (hbw.block b4 (zad hc4)) _).trans hc4
            have hcmp:=zao wr (hr4.below hbw) hkr1;have hge:=znk x y;obtain⟨cb,hcb⟩:∃cb,cb=Lib.compareBytes x y:=⟨_,rfl⟩;rw[<-hcb]at hcmp hge;replace hcb:=Lib.hid hcb;clear hc4 hr4;cases hxy:ltB x y with
            |true=>
              rw[hxy]at hge;have hge2:decide (0<=cb)=false:=hge;have hris2:Ris (P++l.take i++[y]):=by rw[hQ]at hris⊢;exact zpm.2 ⟨hris,hxy⟩
              replace hQ:=Lib.hid hQ;replace hxy:=Lib.hid hxy;clear hge;go_wp2_with fail;refine hcmp.mono ?_;rintro e w3 ⟨rfl,rfl⟩;go_wp2_with(first|(refine zam kysP.toLsP rfl rfl rfl (l:=i) (r:=i+1) (zbj _ rfl (by omega) (by omega) (by omega)) (by omega) ?_)|fail);go_roundw;case rel=>exact⟨i+1,by omega,by go_num,by rw[htk.out];exact nlast,by rw[htk.out];exact hris2,hb2⟩
              case measure=>simp[intOf];omega
            |false=>
              rw[hxy]at hge;have hge2:decide (0<=cb)=true:=hge;have ho:out=false:=by
                rw[hout.out];refine zj λh=>?_
                have e1:ls.flatten=P++l.take i++[y]++(l.drop (i+1)++(ls.drop (r+1)).flatten):=by
                  have e2:ls=ls.take r++[l]++ls.drop (r+1):=by
                    rw[hll.out,zG,wF,<-yQ hlt,yz]
                  have e3:P++l.take i++[y]++l.drop (i+1)=P++l:=by rw[<-htk.out,zG,yz]
                  rw[<-zG,e3,hP.out];conv=>lhs;rw[e2]
                  simp
                rw[e1]at h;have h2:=ris_pre h;rw[hQ]at h2;have:=(zpm.1 h2).2;rw[hxy]at this;cases this
              replace hQ:=Lib.hid hQ;replace hxy:=Lib.hid hxy;replace ho:=Lib.hid ho;clear hge;go_wp2_with fail;refine hcmp.mono ?_;rintro e w3 ⟨rfl,rfl⟩;go_wp2_with fail;go_ret;exact⟨by rw[ho.out]<;>rfl,hbw⟩
        · obtain rfl:i=l.length:=by omega
          rw[yv]at hlast hris;have e1:(ls.take (r+1)).flatten=P++l:=by
            rw[yT,zB hlt,xo,List.flatten_append,<-hP.out,<-hll.out];simp
          replace e1:=Lib.hid e1;go_wp2_with fail;go_roundw;case rel=>exact⟨r+1,by omega,by go_num,by rw[e1.out];exact hlast,by rw[e1.out];exact hris,hbw⟩
          case measure=>simp[intOf];omega
    · obtain rfl:r=ls.length:=by omega
      rw[yv]at hris;have ho:out=true:=by rw[hout.out];exact zk hris
      replace ho:=Lib.hid ho;go_wp2_with fail;go_ret;exact⟨by rw[ho.out]<;>rfl,hb⟩
theorem RdL.oneAt{S:Nat->Prop}{w:World}{b off m c:Nat}{ks:List (List UInt8)}(h:RdL Elt.bytes S w (.slice (Option.some ⟨b,off,none⟩) m c) ks){r:Nat}(hr:r<ks.length):RdL Elt.bytes S w (.slice (Option.some ⟨b,off+r,none⟩) 1 (c-r)) [ks[r]]:=by
  obtain⟨a',cap,e,h2,h3,h4⟩:=h;cases e;rcases h4 with rfl|⟨b',off',e,hb,hq⟩
  ·cases hr
  · cases e
    obtain⟨vs,hR,hc⟩:=hq r hr;refine⟨_,_,rfl,by show 1<=c-r;omega,by omega,.inr ⟨b,off+r,rfl,hb,λr' h'=>?_⟩⟩;obtain rfl:r'=0:=by simp at h';exact h'
    refine⟨vs,hR,λj u hj=>?_⟩;have:=hc j u hj;simpa [show Elt.bytes.size=1 from rfl]using this
def DepAt (N:Nat):Prop:=∀(w:World) (S:Nat->Prop) (v:Value) (n:Nd) (la:Option Addr) (lm lc:Nat) (low:List (List UInt8)) (ha:Option Addr) (hm hc:Nat) (high:List (List UInt8)),wN n<=N->N<=1000000->RdN S w v n->RdL Elt.bytes S w (.slice la lm lc) low->RdL Elt.bytes S w (.slice ha hm hc) high->low.length<=1->high.length<=1->Calls Tryz.prog 118 #[v,.slice la lm lc,.slice ha hm hc] w λe w'=>e=.returned (.int .i64 (depF n low high:Nat))/\Below w.heap.size w w'
theorem dep_step (N:Nat) (ih:∀M,M<N->DepAt M):DepAt N:=by
  intro w S v n la lm lc low ha hm hc high hN hN2 hr hlo hhi hl1 hh1;have hw3:=zh5 n;have hkid:=λm (h:m∈n.kids)=>zim h
  have hr0:=hr;obtain⟨a1,c1,a2,c2,a3,c3,rfl,rk,rc,rn⟩:=hr;obtain⟨rfl,hlc,hlm⟩:=hlo.len;obtain⟨rfl,hhc,hhm⟩:=hhi.len;have q:Below w.heap.size w (w.alloc (.cells #[.slice a1 n.keys.length c1,.slice a2 n.chains.length c2,.slice a3 n.kids.length c3] 46)):=(ze _ _).alloc (zf _) _;have bn:=TriV.new w 46 (.slice a1 n.keys.length c1) (.slice a2 n.chains.length c2) (.slice a3 n.kids.length c3);obtain⟨W,hW⟩:∃W,W=w.alloc (.cells #[.slice a1 n.keys.length c1,.slice a2 n.chains.length c2,.slice a3 n.kids.length c3] 46):=⟨_,rfl⟩;rw[<-hW]at q bn;obtain⟨out,hout⟩:∃out,out=depF n low high:=⟨_,rfl⟩;rw[<-hout];replace hout:=Lib.hid hout;have hal:=zrg W (hr0.below q);have tn0:=bn.cell0;have tn1:=bn.cell1;have tn2:=bn.cell2;clear hr0;by_cases hA:aloF n
  · rw[zk hA]at hal
    obtain⟨bk0,ok0,_,_,rfl,_,_⟩:=rk.byt 0 (by have:=hA.1;omega);have hk3:=hA.2.1;have hkk:n.kids.length<=4:=by rcases hA.2.2.2.2 with h|h;rw[h];simp;omega
    go_enter Tryz.func118,Tryz.ntmps118;go_upto_region 1 with(fail);rw[<-hW];clear hW;go_wp2_with fail;refine hal.mono ?_;rintro e w1⟨rfl,hb1⟩;have bn1:=bn.below hb1 bn.lt;have q1:=q.trans (hb1.mono q.size);clear tn0 tn1 tn2 hal bn;have tn0:=bn1.cell0;have tn2:=bn1.cell2;go_wp2_with fail;have qn:Below w1.heap.size w1 (w1.alloc (.cells #[.slice la low.length lc,.slice (Option.some ⟨bk0,ok0,none⟩) n.keys.length c1,.slice ha high.length hc] 42)):=(ze _ _).alloc (zf _) _;have hblk:(w1.alloc (.cells #[.slice la low.length lc,.slice (Option.some ⟨bk0,ok0,none⟩) n.keys.length c1,.slice ha high.length hc] 42)).heap[w1.heap.size]?=Option.some (.cells #[.slice la low.length lc,.slice (Option.some ⟨bk0,ok0,none⟩) n.keys.length c1,.slice ha high.length hc] 42 (0,0)):=by simp only[World.alloc,yf]
    generalize w1.alloc (.cells #[.slice la low.length lc,.slice (Option.some ⟨bk0,ok0,none⟩) n.keys.length c1,.slice ha high.length hc] 42)=w2 at*;have q2:=q1.trans (qn.mono q1.size);have bn2:=bn1.below qn bn1.lt;have hrl:RdL (Elt.list Elt.bytes) (λ_=>True) w2 (.slice (Option.some ⟨w1.heap.size,0,none⟩) 3 3) [low,n.keys,high]:=by
      refine⟨_,3,rfl,zf _,by unfold maxLen;omega,.inr ⟨w1.heap.size,0,rfl,trivial,λr hr=>?_⟩⟩;have hcell:∀k u,#[Value.slice la low.length lc,Value.slice (Option.some ⟨bk0,ok0,none⟩) n.keys.length c1,.slice ha high.length hc][k]?=Option.some u->∀j u',[u][j]?=Option.some u'->w2.cell? ⟨w1.heap.size,0+k*1+j,none⟩=Option.some u':=λk u h j u' hj=>by
        rcases j with _|j
        · have e:u=u':=by simpa using hj
          subst e;simp[World.cell?,hblk,h]
        ·simp at hj
      rcases r with _|_|_|r
      ·exact⟨_,⟨_,rfl,(hlo.below q2).weak λ_ _=>trivial⟩,hcell 0 _ rfl⟩
      ·exact⟨_,⟨_,rfl,(rk.below q2).weak λ_ _=>trivial⟩,hcell 1 _ rfl⟩
      ·exact⟨_,⟨_,rfl,(hhi.below q2).weak λ_ _=>trivial⟩,hcell 2 _ rfl⟩
      ·exact absurd hr (by simp only[zI,zM];omega)
    have hris:=zsx w2 hrl (by simp) (λl hl=>by
      simp only[zU,yJ,yK]at hl;rcases hl with rfl|rfl|rfl<;>omega)
    have hfl:[low,n.keys,high].flatten=low++n.keys++high:=by simp
    rw[hfl]at hris;replace hfl:=Lib.hid hfl;clear hblk hrl tn0 tn2 bn1;by_cases hR:Ris (low++n.keys++high)
    · rw[zk hR]at hris
      refine hris.mono ?_;rintro e w3⟨rfl,hb3⟩;have q3:=q2.trans (hb3.mono q2.size);have bn3:=bn2.below hb3 bn2.lt;clear hris bn2;have tn0:=bn3.cell0;have tn2:=bn3.cell2;replace hR:=Lib.hid hR;replace hA:=Lib.hid hA;go_wp2_with fail;go_loopw[7,8,9,10,11,12,28](λbv _ _ _ _ _ iv wr=>∃j b:Nat,j<=n.kids.length/\iv=.int .i64 j/\bv=.int .i64 b/\(j=0->b=0)/\(0<j->0<b)/\b<=1000000/\(∀i (hi:i<n.kids.length),i<j->depF n.kids[i] (loK n.keys low i) (hiK n.keys high i)=b)/\Below w3.heap.size w3 wr)(λ_ _ _ _ _ _ iv _=>n.kids.length-(intOf iv).toNat);case atStart=>exact⟨0,0,zH _,rfl,rfl,λ_=>rfl,λh=>absurd h (xg _),zH _,λi _ h=>absurd h (yH _),ze _ _⟩
      case round=>
        obtain⟨j,b,hj,rfl,rfl,hb0,hb1',hbm,hall,hbw⟩:=hrel;have qw:=q3.trans (hbw.mono q3.size);rcases zA j n.kids.length with hlt|hge
        · have hkl:n.kids.length=n.keys.length+1:=by
            rcases hA.out.2.2.2.2 with h|h
            ·rw[h]at hlt;cases hlt
            ·exact h
          have hk1:=yE hkl;have hk2:=yE hkl.symm;clear hkl;obtain⟨gb,off,xa,xc,ya,yc,za,zc,rfl,k0,k1,k2,hrk⟩:=rn.kid j hlt;replace k0:=(zag (qw.block gb (zad k0)) _).trans k0;replace k1:=(zag (qw.block gb (zad k1)) _).trans k1;replace k2:=(zag (qw.block gb (zad k2)) _).trans k2;have hwk:=hkid _ (zL hlt);have bn4:=bn3.below hbw bn3.lt;clear tn0 tn2;go_upto_region 7 with(go_big_may;first
            |(refine zdz rfl rfl ?_;intro w4 hb4 ht4)
            |(refine zaq rfl rfl rfl rfl rfl rfl rfl rfl ht4 ?_;intro w5 hg5 bk5)
            |fail)
          have qW:Below wr.heap.size wr w5:=hb4.grown hg5 hb4.size λk hk=>by injection hk with hk;omega
          have q5:=qw.trans (qW.mono qw.size);have bn5:=bn4.below qW bn4.lt;clear hb4 hg5 ht4 k0 k1 k2 bn4;have tn0:=bn5.cell0;have tk0:=bk5.cell0;have tk1:=bk5.cell1;have tk2:=bk5.cell2;have hcap:=rk.len.2;have hdw:∀(la':Option Addr)(lm' lc':Nat)(ha':Option Addr)(hm' hc':Nat),RdL Elt.bytes S w (.slice la' lm' lc') (loK n.keys low j)->RdL Elt.bytes S w (.slice ha' hm' hc') (hiK n.keys high j)->Calls Tryz.prog 118 #[.agg #[.slice xa n.kids[j].keys.length xc,.slice ya n.kids[j].chains.length yc,.slice za n.kids[j].kids.length zc],.slice la' lm' lc',.slice ha' hm' hc'] w5 λe w'=>e=.returned (.int .i64 (depF n.kids[j] (loK n.keys low j) (hiK n.keys high j):Nat))/\Below w5.heap.size w5 w':=λla' lm' lc' ha' hm' hc' h1 h2=>
            ih (wN n.kids[j]) (by omega) w5 S _ _ la' lm' lc' _ ha' hm' hc' _ (zf _) (by omega) (hrk.below q5) (h1.below q5) (h2.below q5) (by unfold loK;split;exact hl1;cases n.keys[j-1]?<;>simp) (by unfold hiK;split;cases n.keys[j]?<;>simp;exact hh1)
          have hstop:depF n.kids[j] (loK n.keys low j) (hiK n.keys high j)=0->out=0:=λh0=>by
            rw[hout.out];exact wH λhd=>(zll hA.out hd j hlt).2 h0
          have hdiff:0<j->depF n.kids[j] (loK n.keys low j) (hiK n.keys high j)≠b->out=0:=λh0 hne=>by
            rw[hout.out];refine wH λhd=>hne ?_
            have e1:=(zll hA.out hd j hlt).1;have e2:=(zll hA.out hd 0 (by omega)).1;have e3:=hall 0 (by omega) h0;omega
          have hnext:depF n.kids[j] (loK n.keys low j) (hiK n.keys high j)≠0->(0<j->depF n.kids[j] (loK n.keys low j) (hiK n.keys high j)=b)->∀i(hi:i<n.kids.length),i<j+1->depF n.kids[i] (loK n.keys low i) (hiK n.keys high i)=depF n.kids[j] (loK n.keys low j) (hiK n.keys high j):=λ_ h2 i hi hij=>by
            rcases zA i j with h3|h3
            ·rw[hall i hi h3,h2 (by omega)]
            · obtain rfl:i=j:=by omega
              rfl
          have hdm:depF n.kids[j] (loK n.keys low j) (hiK n.keys high j)<=1000000:=by
            have h1:=(zkd (wN n.kids[j]) (n:=n.kids[j]) (root:=false) (zf _)).2;unfold depF;split;·omega
            ·omega
          generalize hdj:depF n.kids[j] (loK n.keys low j) (hiK n.keys high j)=dj at hdw hstop hdiff hnext hdm;replace hdj:=Lib.hid hdj;replace hall:=Lib.hid hall;clear hrk hwk hkid ih;rcases yx j with hj0|hj0
          · have d5:decide ((0:Int)<(j:Int))=false:=zj (by omega)
            have hlow:RdL Elt.bytes S w (.slice la low.length lc) (loK n.keys low j):=by unfold loK;rw[zi hj0];exact hlo
            have hj0a:=yE hj0;replace hj0:=Lib.hid hj0;rcases zA (j) n.keys.length with hjk|hjk
            · have d6:decide ((j:Int)<(n.keys.length:Int))=true:=zk (by omega)
              have hhigh:RdL Elt.bytes S w (.slice (Option.some ⟨bk0,ok0+(j),none⟩) 1 (c1-(j))) (hiK n.keys high (j)):=by
                unfold hiK;rw[zi hjk,zB hjk];exact rk.oneAt hjk
              go_wp2_with(first|(refine zam kysP.toLsP rfl rfl rfl (l:=j) (r:=j+1) (zbj _ (by omega) (by omega) (by omega) (by omega)) (by omega) ?_)|fail);refine(hdw _ _ _ _ _ _ hlow hhigh).mono ?_;rintro e w6 ⟨rfl,hb6⟩;clear hdw hlow hhigh tn0 tk0 tk1 tk2;rcases yx dj with hd0|hd0
              · have ho:=hstop hd0
                have d7:((dj:Int)==0)=true:=by rw[hd0];rfl
                replace hd0:=Lib.hid hd0;clear hstop hdiff hnext;replace ho:=Lib.hid ho;go_wp2_with fail;go_ret;exact⟨by rw[ho.out]<;>rfl,q5.trans (hb6.mono q5.size)⟩
              · have d7:((dj:Int)==0)=false:=zt.2 (by omega)
                have hnx:=hnext (by omega) (λh=>absurd h (by omega));replace hnx:=Lib.hid hnx;clear hstop hdiff hnext;go_wp2_with fail;go_roundw;case rel=>exact⟨j+1,dj,by omega,by go_num,by go_num,λh=>absurd h (by omega),λ_=>hd0,hdm,hnx.out,hbw.trans ((qW.trans (hb6.mono qW.size)).mono hbw.size)⟩
                case measure=>simp[intOf];omega
            · have d6:decide ((j:Int)<(n.keys.length:Int))=false:=zj (by omega)
              have hhigh:RdL Elt.bytes S w (.slice ha high.length hc) (hiK n.keys high (j)):=by unfold hiK;rw[zh (by omega)];exact hhi
              go_wp2_with fail;refine(hdw _ _ _ _ _ _ hlow hhigh).mono ?_;rintro e w6 ⟨rfl,hb6⟩;clear hdw hlow hhigh tn0 tk0 tk1 tk2;rcases yx dj with hd0|hd0
              · have ho:=hstop hd0
                have d7:((dj:Int)==0)=true:=by rw[hd0];rfl
                replace hd0:=Lib.hid hd0;clear hstop hdiff hnext;replace ho:=Lib.hid ho;go_wp2_with fail;go_ret;exact⟨by rw[ho.out]<;>rfl,q5.trans (hb6.mono q5.size)⟩
              · have d7:((dj:Int)==0)=false:=zt.2 (by omega)
                have hnx:=hnext (by omega) (λh=>absurd h (by omega));replace hnx:=Lib.hid hnx;clear hstop hdiff hnext;go_wp2_with fail;go_roundw;case rel=>exact⟨j+1,dj,by omega,by go_num,by go_num,λh=>absurd h (by omega),λ_=>hd0,hdm,hnx.out,hbw.trans ((qW.trans (hb6.mono qW.size)).mono hbw.size)⟩
                case measure=>simp[intOf];omega
          · obtain⟨j',rfl⟩:∃j',j=j'+1:=⟨j-1,by omega⟩
            have d5:decide ((0:Int)<((j':Int)+1))=true:=zk (by omega);have hlow:RdL Elt.bytes S w (.slice (Option.some ⟨bk0,ok0+j',none⟩) 1 (c1-j')) (loK n.keys low (j'+1)):=by
              unfold loK;rw[zh (by omega),xt,zB (by omega:j'<n.keys.length)];exact rk.oneAt (by omega)
            rcases zA (j'+1) n.keys.length with hjk|hjk
            · have d6:decide (((j':Int)+1)<(n.keys.length:Int))=true:=zk (by omega)
              have hhigh:RdL Elt.bytes S w (.slice (Option.some ⟨bk0,ok0+(j'+1),none⟩) 1 (c1-(j'+1))) (hiK n.keys high (j'+1)):=by
                unfold hiK;rw[zi hjk,zB hjk];exact rk.oneAt hjk
              go_wp2_with(first|(refine zam kysP.toLsP rfl rfl rfl (l:=j') (r:=j'+1) (zbj _ (by omega) (by omega) (by omega) (by omega)) (by omega) ?_)|(refine zam kysP.toLsP rfl rfl rfl (l:=j'+1) (r:=j'+1+1) (zbj _ (by omega) (by omega) (by omega) (by omega)) (by omega) ?_)|fail);refine(hdw _ _ _ _ _ _ hlow hhigh).mono ?_;rintro e w6 ⟨rfl,hb6⟩;clear hdw hlow hhigh tn0 tk0 tk1 tk2;rcases yx dj with hd0|hd0
              · have ho:=hstop hd0
                have d7:((dj:Int)==0)=true:=by rw[hd0];rfl
                replace hd0:=Lib.hid hd0;clear hstop hdiff hnext;replace ho:=Lib.hid ho;go_wp2_with fail;go_ret;exact⟨by rw[ho.out]<;>rfl,q5.trans (hb6.mono q5.size)⟩
              · have d7:((dj:Int)==0)=false:=zt.2 (by omega)
                by_cases hdb:dj=b
                · have d8:((dj:Int)!=(b:Int))=false:=lenEq hdb
                  have hnx:=hnext (by omega) (λ_=>hdb);replace hnx:=Lib.hid hnx;replace hdb:=Lib.hid hdb;clear hstop hdiff hnext;go_wp2_with fail;go_roundw;case rel=>exact⟨j'+1+1,dj,by omega,by go_num,by go_num,λh=>absurd h (by omega),λ_=>hd0,hdm,hnx.out,hbw.trans ((qW.trans (hb6.mono qW.size)).mono hbw.size)⟩
                  case measure=>simp[intOf];omega
                · have ho:=hdiff (by omega) hdb
                  have d8:((dj:Int)!=(b:Int))=true:=lenNe hdb;clear hstop hdiff hnext;replace ho:=Lib.hid ho;go_wp2_with fail;go_ret;exact⟨by rw[ho.out]<;>rfl,q5.trans (hb6.mono q5.size)⟩
            · have d6:decide (((j':Int)+1)<(n.keys.length:Int))=false:=zj (by omega)
              have hhigh:RdL Elt.bytes S w (.slice ha high.length hc) (hiK n.keys high (j'+1)):=by unfold hiK;rw[zh (by omega)];exact hhi
              go_wp2_with(first|(refine zam kysP.toLsP rfl rfl rfl (l:=j') (r:=j'+1) (zbj _ (by omega) (by omega) (by omega) (by omega)) (by omega) ?_)|fail);refine(hdw _ _ _ _ _ _ hlow hhigh).mono ?_;rintro e w6 ⟨rfl,hb6⟩;clear hdw hlow hhigh tn0 tk0 tk1 tk2;rcases yx dj with hd0|hd0
              · have ho:=hstop hd0
                have d7:((dj:Int)==0)=true:=by rw[hd0];rfl
                replace hd0:=Lib.hid hd0;clear hstop hdiff hnext;replace ho:=Lib.hid ho;go_wp2_with fail;go_ret;exact⟨by rw[ho.out]<;>rfl,q5.trans (hb6.mono q5.size)⟩
              · have d7:((dj:Int)==0)=false:=zt.2 (by omega)
                by_cases hdb:dj=b
                · have d8:((dj:Int)!=(b:Int))=false:=lenEq hdb
                  have hnx:=hnext (by omega) (λ_=>hdb);replace hnx:=Lib.hid hnx;replace hdb:=Lib.hid hdb;clear hstop hdiff hnext;go_wp2_with fail;go_roundw;case rel=>exact⟨j'+1+1,dj,by omega,by go_num,by go_num,λh=>absurd h (by omega),λ_=>hd0,hdm,hnx.out,hbw.trans ((qW.trans (hb6.mono qW.size)).mono hbw.size)⟩
                  case measure=>simp[intOf];omega
                · have ho:=hdiff (by omega) hdb
                  have d8:((dj:Int)!=(b:Int))=true:=lenNe hdb;clear hstop hdiff hnext;replace ho:=Lib.hid ho;go_wp2_with fail;go_ret;exact⟨by rw[ho.out]<;>rfl,q5.trans (hb6.mono q5.size)⟩
        · obtain rfl:j=n.kids.length:=by omega
          have ho:out=b+1:=by
            rw[hout.out];rcases yx n.kids.length with hk0|hk0
            ·rw[hb0 hk0];exact zu2 hA.out hR.out (we.1 hk0)
            ·exact depF_all hA.out hR.out hk0 (hb1' hk0) λi hi=>hall i hi hi
          replace ho:=Lib.hid ho;replace hall:=Lib.hid hall;replace hb0:=Lib.hid hb0;clear hkid ih;go_wp2_with fail;go_ret;exact⟨by rw[ho.out]<;>simp,qw⟩
    · rw[zj hR]at hris
      have ho:out=0:=by rw[hout.out];exact zu1 hA hR
      replace ho:=Lib.hid ho;refine hris.mono ?_;rintro e w3 ⟨rfl,hb3⟩;go_wp2_with fail;go_ret;exact⟨by rw[ho.out]<;>rfl,q2.trans (hb3.mono q2.size)⟩
  · rw[zj hA]at hal
    have ho:out=0:=by rw[hout.out];exact zsb hA
    replace ho:=Lib.hid ho;go_enter Tryz.func118,Tryz.ntmps118;go_upto_region 1 with(fail);rw[<-hW];clear hW;go_wp2_with fail;refine hal.mono ?_;rintro e w1 ⟨rfl,hb1⟩;go_wp2_with fail;go_ret;exact⟨by rw[ho.out]<;>rfl,q.trans (hb1.mono q.size)⟩
theorem dep_any (N:Nat):DepAt N:=by
 induction N using Nat.strongRecOn with
 |_ N ih=>exact dep_step N ih
theorem zqk{n:Nd}{root:Bool}(h:0<=zb8 n root):1<=zb8 n root:=by
 obtain⟨_,_,_,h1|h1⟩:=zd1 rfl h
 ·omega
 ·omega
theorem dep_ok (n:Nd):decide ((0:Int)<depN n)=decide (okN n):=by
  unfold depN;by_cases h:okN n
  · rw[zi h,zk h]
    have:=zqk h.1;exact zk (by omega)
  · rw[zh h,zj h]
    rfl
theorem zre (w:World){S:Nat->Prop}{v:Value}{n:Nd}(hr:RdN S w v n)(hf:wN n<=1000000):Calls Tryz.prog 91 #[v] w λe w'=>e=.returned (.int .i64 (depN n))/\Below w.heap.size w w':=by
  have hw3:=zh5 n;have hr0:=hr;obtain⟨a1,c1,a2,c2,a3,c3,rfl,_,_,_⟩:=hr;have q:Below w.heap.size w (w.alloc (.cells #[.slice a1 n.keys.length c1,.slice a2 n.chains.length c2,.slice a3 n.kids.length c3] 46)):=(ze _ _).alloc (zf _) _;have bn:=TriV.new w 46 (.slice a1 n.keys.length c1) (.slice a2 n.chains.length c2) (.slice a3 n.kids.length c3);obtain⟨W,hW⟩:∃W,W=w.alloc (.cells #[.slice a1 n.keys.length c1,.slice a2 n.chains.length c2,.slice a3 n.kids.length c3] 46):=⟨_,rfl⟩;rw[<-hW]at q bn;have hdep:=dep_any (wN n) W S _ n none 0 0 [] none 0 0 [] (zf _) hf (hr0.below q) (RdL.nil _ _ _) (RdL.nil _ _ _) (zH _) (zH _);have hroot:=zu0 n;obtain⟨out,hout⟩:∃out,out=depN n:=⟨_,rfl⟩;rw[<-hout]at hroot⊢;replace hout:=Lib.hid hout;generalize depF n [] []=dd at hdep hroot;have tn0:=bn.cell0;have tn1:=bn.cell1;have tn2:=bn.cell2;by_cases h0:n.keys.length+n.chains.length+n.kids.length=0
  · rw[zi h0]at hroot
    have d:((n.keys.length:Int)+(n.chains.length:Int)+(n.kids.length:Int)==0)=true:=by rw[zK];omega
    replace hroot:=Lib.hid hroot;replace h0:=Lib.hid h0;go_enter Tryz.func91,Tryz.ntmps91;go_upto_region 1 with(fail);rw[<-hW];clear hW;go_wp2_with fail;go_ret;exact⟨by rw[hroot.out]<;>rfl,q⟩
  · rw[zh h0]at hroot
    have d:((n.keys.length:Int)+(n.chains.length:Int)+(n.kids.length:Int)==0)=false:=zt.2 (by omega);replace hroot:=Lib.hid hroot;replace h0:=Lib.hid h0;go_enter Tryz.func91,Tryz.ntmps91;go_upto_region 1 with(fail);rw[<-hW];clear hW;go_wp2_with fail;refine hdep.mono ?_;rintro e w2 ⟨rfl,hb2⟩;go_wp2_with fail;go_ret;exact⟨by rw[hroot.out]<;>rfl,q.trans (hb2.mono q.size)⟩
theorem zdb(w:World){S:Nat->Prop}{v:Value}{n:Nd}(hr:RdN S w v n)(hf:wN n<=1000000):Calls Tryz.prog 62 #[v] w λe w'=>e=.returned (.bool (decide (okN n)))/\Below w.heap.size w w':=by
 have hr0:=hr;obtain⟨a1,c1,a2,c2,a3,c3,rfl,_,_,_⟩:=hr;have q:Below w.heap.size w (w.alloc (.cells #[.slice a1 n.keys.length c1,.slice a2 n.chains.length c2,.slice a3 n.kids.length c3] 46)):=(ze _ _).alloc (zf _) _;have bn:=TriV.new w 46 (.slice a1 n.keys.length c1) (.slice a2 n.chains.length c2) (.slice a3 n.kids.length c3);obtain⟨W,hW⟩:∃W,W=w.alloc (.cells #[.slice a1 n.keys.length c1,.slice a2 n.chains.length c2,.slice a3 n.kids.length c3] 46):=⟨_,rfl⟩;rw[<-hW]at q bn;have hdep:=zre W (hr0.below q) hf;have hok:=dep_ok n;generalize depN n=dd at hdep hok;generalize decide (okN n)=out at hok⊢;have tn0:=bn.cell0;have tn1:=bn.cell1;have tn2:=bn.cell2;go_enter Tryz.func62,Tryz.ntmps62;go_upto_region 1 with(fail);rw[<-hW];clear hW;go_wp2_with fail;refine hdep.mono ?_;rintro e w2 ⟨rfl,hb2⟩;go_wp2_with fail;go_ret;exact⟨rfl,q.trans (hb2.mono q.size)⟩
theorem ok_wf:∀(d:Nat){n:Nd}{root:Bool},zb8 n root=(d:Int)->Wf d (if root then 0 else 1) 3 n/\(root=true->d=1\/1<=n.keys.length)
  |0,n,root,h=>by have:=zqk (n:=n) (root:=root) (by omega);omega
  |d+1,n,root,h=>by
    obtain⟨h1,h2,h3,h4⟩:=zd1 h (by omega);refine⟨⟨h1,?_,h2,?_⟩,λ_=>?_⟩
    ·cases root with
      |true=>exact zH _
      |false=>exact h3 rfl
    · rcases h4 with⟨h5,h6⟩|⟨h5,_,h7,h8⟩
      ·exact .inl ⟨by omega,h5⟩
      · refine .inr ⟨by omega,h5,λm hm=>?_⟩
        have:=(ok_wf d (n:=m) (root:=false) (by rw[h8 m hm];omega)).1;simpa using this
    · rcases h4 with⟨_,h6⟩|⟨_,h6,_⟩
      ·exact .inl (by omega)
      ·exact .inr h6
theorem zso:∀(d:Nat){n:Nd},Wf d 1 3 n->zb8 n false=(d:Int)
 |0,n,h=>h.elim
 |d+1,n,h=>by
  obtain⟨h1,h2,h3,h4⟩:=h;rcases h4 with⟨h5,h6⟩|⟨h5,h6,h7⟩
  ·rw[zm9 h1 h2 h3 h6,h5];rfl
  ·rw[zuo (b:=(d:Int)) h1 h2 h3 h6 (by omega) λm hm=>zso d (h7 m hm)];rfl
theorem ok_pn{n:Nd}(h:okN n):∃d,Pn d n:=by
 obtain⟨h1,h2⟩:=h;obtain⟨d,hd⟩:∃d:Nat,zb8 n true=(d:Int):=⟨(zb8 n true).toNat,by omega⟩;obtain⟨h3,h4⟩:=ok_wf d hd;exact⟨d,by simpa using h3,h4 rfl,((zdu _).1 h2).2⟩
theorem pn_ok{d:Nat}{n:Nd}(h:Pn d n)(hg:∀p∈zac n,zjw p):okN n:=by
  refine⟨?_,(zdu _).2 ⟨hg,h.srt⟩⟩;by_cases h1:1<=n.keys.length
  · rw[zli n h1,zso d (h.wf.mono h1 h.wf.keys.2)];omega
  · have hd:d=1:=h.ne.resolve_right h1
    subst hd;obtain⟨hc,_,_,hs⟩:=h.wf;rcases hs with⟨_,h0⟩|⟨h0,_⟩
    ·rw[zcs,zh (by simp;omega),zi (by rw[h0];rfl)];omega
    ·exact absurd h0 (xg 0)
theorem NdOf.done {D:Nat->Prop}{w W0 W1 W W':World}{lo b:Nat}{F F':List Nat}{v:Value}{n:Nd}(h:NdOf D W1 lo F W v n F')(q0:Below w.heap.size w W0)(q1:Below W0.heap.size W0 W1)(hD:∀k,D k->W0.heap.size<=k)(hF:∀k∈F,W0.heap.size<=k)(hg:W.grownBy W' (some b))(h1:w.heap.size<=b)(h2:b<W0.heap.size):RdN (λk=>w.heap.size<=k/\k<W'.heap.size) W' v n/\Below w.heap.size w W':=by
  have hS:∀k,(D k\/k∈F')->W0.heap.size<=k:=λk hk=>by
    rcases hk with hk|hk
    ·exact hD k hk
    · rcases h.fr k hk with h3|h3
      ·exact hF k h3
      · have:=h.lo1;have:=q1.size;omega
  have hr:=h.at'.rdN.fit;have qa:Below w.heap.size w W:=(q0.trans (q1.mono q0.size)).trans (h.trd.below (zv q0.size q1.size) λk hk hf=>by have:=hF k hf;have:=q0.size;omega);refine⟨(hr.keep λk hk=>hg.block k hk.2 λe=>?_).weak λk hk=>⟨zv q0.size (hS k hk.1),zm hk.2 hg.size⟩,qa.grown hg qa.size λk e=>by injection e with e;omega⟩;injection e with e;have:=hS k hk.1;omega
def PutJ (w W0 W5:World) (n:Nd) (F:List Nat) (d:Nat) (k:List UInt8) (x:List Ver):List Value->World->Prop
 |[],W=>Below W5.heap.size W5 W
 |[vk],W=>Below W5.heap.size W5 W/\(∃a m c,vk=.slice a m c/\RdS (λg=>W5.heap.size<=g/\g<W.heap.size) W (.slice a m c) k)
 |[vk,vl],W=>Below W5.heap.size W5 W/\(∃a m c,vk=.slice a m c/\RdS (λg=>W5.heap.size<=g/\g<W.heap.size) W (.slice a m c) k)/\(∃a m c,vl=.slice a m c/\RdL Elt.ver (λg=>W5.heap.size<=g/\g<W.heap.size) W (.slice a m c) x)
 |[_,_,vp],W=>∃D Wb lo n1 F1,NdOf D Wb lo F W vp n1 F1/\Below W5.heap.size W5 Wb/\(∀g,D g->W0.heap.size<=g)/\PutN d n k x n1/\TriV W (w.heap.size+1) 46 (.slice none 0 0) (.slice none 0 0) (.slice none 0 0)
 |[_,_,_,vr],W=>∃D Wb lo n1 F1,NdOf D Wb lo F W vr (zh3 n1) F1/\Below W5.heap.size W5 Wb/\(∀g,D g->W0.heap.size<=g)/\PutN d n k x n1/\TriV W (w.heap.size+1) 46 (.slice none 0 0) (.slice none 0 0) (.slice none 0 0)
 |[_,_,_,vr,_],W=>∃n1 a b c,vr=.agg #[a,b,c]/\PutN d n k x n1/\RdN (λg=>w.heap.size<=g/\g<W.heap.size) W (.agg #[a,b,c]) (zh3 n1)/\Below w.heap.size w W/\TriV W (w.heap.size+1) 46 a b c
 |_,_=>False
theorem PutJ.more{w W0 W5:World}{n:Nd}{F:List Nat}{d:Nat}{k:List UInt8}{x:List Ver}:∀(l:List Value)(W W':World),PutJ w W0 W5 n F d k x l W->Below W.heap.size W W'->PutJ w W0 W5 n F d k x l W'
 |[],_,_,h,hb=>y8 h (hb.mono (y9 h))
 |[_],_,_,⟨h1,a,m,c,e,h2⟩,hb=>⟨h1.trans (hb.mono h1.size),a,m,c,e,(h2.below hb).weak λ_ hg=>⟨hg.1,zm hg.2 hb.size⟩⟩
 |[_,_],_,_,⟨h1,⟨a,m,c,e,h2⟩,a',m',c',e',h3⟩,hb=>⟨h1.trans (hb.mono h1.size),⟨a,m,c,e,(h2.below hb).weak λ_ hg=>⟨hg.1,zm hg.2 hb.size⟩⟩,a',m',c',e',(h3.below hb).weak λ_ hg=>⟨hg.1,zm hg.2 hb.size⟩⟩
 |[_,_,_],_,_,⟨D,Wb,lo,n1,F1,h1,h2,h3,h4,h5⟩,hb=>⟨D,Wb,lo,n1,F1,h1.more hb,h2,h3,h4,h5.below hb h5.lt⟩
 |[_,_,_,_],_,_,⟨D,Wb,lo,n1,F1,h1,h2,h3,h4,h5⟩,hb=>⟨D,Wb,lo,n1,F1,h1.more hb,h2,h3,h4,h5.below hb h5.lt⟩
 |[_,_,_,_,_],_,_,⟨n1,a,b,c,e,h1,h2,h3,h4⟩,hb=>⟨n1,a,b,c,e,h1,(h2.below hb).weak λ_ hg=>⟨hg.1,zm hg.2 hb.size⟩,h3.trans (hb.mono h3.size),h4.below hb h4.lt⟩
theorem zfw (w:World){S S2 S3:Nat->Prop}{v:Value}{n:Nd}{a:Option Addr}{m c:Nat}{k:List UInt8}{a2':Option Addr}{m2 c2':Nat}{x:List Ver}(hr:RdN S w v n)(hf:fitN n)(hk:RdS S2 w (.slice a m c) k)(hkl:k.length<=1000)(hx:RdL Elt.ver S3 w (.slice a2' m2 c2') x)(hsm:zb9 x):Calls Tryz.prog 85 #[v,.slice a m c,.slice a2' m2 c2'] w (NodeEnd w (zjm n k x)):=by
  have hr0:=hr;obtain⟨a1,c1,a2,c2,a3,c3,rfl,_,_,_⟩:=hr;obtain⟨W,hW,q,bn,bz,hsz⟩:=zdk w 46 (.slice a1 n.keys.length c1) (.slice a2 n.chains.length c2) (.slice a3 n.kids.length c3) (.slice none 0 0) (.slice none 0 0) (.slice none 0 0);have hcp:=zsd (wN n) n W (zf _) hf.1 hf.2 (hr0.below q);have tn0:=bn.cell0;have tn1:=bn.cell1;have tn2:=bn.cell2;obtain⟨fs,hu,_⟩:=ndS.hu;have hwn:wN n<=1000000:=by have:=hf.1;omega
  obtain⟨rfl,_,_⟩:=hk.len;clear hr0;go_enter Tryz.func85,Tryz.ntmps85;go_upto_region 1 with(fail);rw[<-hW];clear hW;go_wp2_with fail;refine hcp.mono ?_;rintro e W1 ⟨v',rfl,F,hat,hFF,hb1⟩;obtain⟨r1,d1,r2,d2,r3,d3,_,_,_,_,rfl,_⟩:=hat.opn;have bz1:=bz.below hb1 bz.lt;clear tn0 tn1 tn2 hcp bn bz;go_upto_region 2 with(first
    |(refine zdz rfl rfl ?_;intro W2 hb2 ht2)
    |(refine zaq rfl rfl rfl rfl rfl rfl rfl rfl ht2 ?_;intro W3 hg3 bk)
    |fail)
  have s0:=(NdOf.start (lo:=W1.heap.size+1) hat hb2 (by omega) (by have:=ht2.lt;omega)).box hg3 (zf _) (by omega);have bz3:=(bz1.below hb2 bz1.lt).other hg3 (by have:=hb1.size;omega);have qb:Below W1.heap.size W1 W3:=hb2.grown hg3 hb2.size λk e=>by injection e with e;omega
  have hk3:=((hk.below q).below hb1).below qb;have hx3:=((hx.below q).below hb1).below qb;clear ht2 hg3 hb2 bz1;have hch:=zdb W3 s0.at'.rdN hwn;have tk0:=bk.cell0;have tk1:=bk.cell1;have tk2:=bk.cell2;have fin1:∀(W4 W5:World),NdOf _ W1 _ F W4 (.agg #[.slice r1 n.keys.length d1,.slice r2 n.chains.length d2,.slice r3 n.kids.length d3]) n F->W4.grownBy W5 (Option.some (w.heap.size+1))->_:=λW4 W5 s hg=>s.done (D:=λg=>W.heap.size<=g/\g<W1.heap.size/\g∉F) (lo:=W1.heap.size+1) q hb1 (λg hd=>hd.1) hFF hg (by omega) (by omega)
  by_cases hok:okN n
  · obtain⟨d,hpn⟩:=ok_pn hok
    rw[zk hok]at hch;go_wp2_with fail;refine hch.mono ?_;rintro e W4 ⟨rfl,hb4⟩;have s4:=s0.more hb4;have bk4:=bk.below hb4 bk.lt;have bz4:=bz3.below hb4 bz3.lt;have hk4:=hk3.below hb4;have hx4:=hx3.below hb4;have qb4:=qb.trans (hb4.mono qb.size);clear tk0 tk1 tk2 hch bk bz3 s0 hk3 hx3 qb;have hft:=zql W4 (a:=a) (n:=k.length) (c:=c) hx4;by_cases hfit:k.length<=16/\x≠[]/\okV x
    · rw[zk hfit]at hft
      replace hfit:=Lib.hid hfit;go_wp2_with fail;refine hft.mono ?_;rintro e W5 ⟨rfl,hb5⟩;have s5:=s4.more hb5;have bk5:=bk4.below hb5 bk4.lt;have bz5:=bz4.below hb5 bz4.lt;have hk5:=hk4.below hb5;have hx5:=hx4.below hb5;have qb5:=qb4.trans (hb5.mono qb4.size);clear bk4 bz4 s4 hk4 hx4 qb4 hft;have hw5:w.heap.size+2<=W5.heap.size:=by have:=bz5.lt;have:=qb5.size;have:=hb1.size;omega
      have eC:∀args w,(callFunc 60 args).run Tryz.prog w=.ok (.enter 60 args) w:=enters_of Tryz.func60 (by kernel_rfl) rfl;have eV:∀args w,(callFunc 114 args).run Tryz.prog w=.ok (.enter 114 args) w:=enters_of Tryz.func114 (by kernel_rfl) rfl;have eP:∀args w,(callFunc 113 args).run Tryz.prog w=.ok (.enter 113 args) w:=enters_of Tryz.func113 (by kernel_rfl) rfl;have eR:∀args w,(callFunc 112 args).run Tryz.prog w=.ok (.enter 112 args) w:=enters_of Tryz.func112 (by kernel_rfl) rfl;have hFl:∀g∈F,g<W5.heap.size:=s5.at'.lt;go_upto_region 4 with(fail);refine zai (K:=λ_ _=>True) (by kernel_rfl) (by kernel_rfl) [2,4,5,6,7] (by kernel_rfl) [lEq (.agg #[.slice r1 n.keys.length d1,.slice r2 n.chains.length d2,.slice r3 n.kids.length d3]),lEq (.slice a k.length c),lAny,lEq (.slice a2' m2 c2'),lAny,lAny,lAny,lAny,lEq (.int .i64 0)] (PutJ w W W5 n F d k x) PutJ.more (show Below W5.heap.size W5 W5 from ze _ _)
        ⟨?o0,?o1,?o2,?o3,?o4,?o5,?o6,?o7,?o8,trivial⟩ ?fin
      case o0=>
        refine LnOp.sd (λA va w' k' hF hT hk hJ hb hu hp hd=>?_);have e1:=hF 8 rfl;have hk2:k'<=2:=hb 2 5 rfl (by kernel_rfl);have hB:Below W5.heap.size W5 w':=by
          rcases k' with _|_|_|k'
          ·exact hJ
          ·exact(show PutJ w W W5 n F d k x [va 2] w' from hJ).1
          ·exact(show PutJ w W W5 n F d k x [va 2,va 4] w' from hJ).1
          ·omega
        exact zej ndS rfl e1 (bk5.below hB bk5.lt).cell0 (bk5.below hB bk5.lt).cell1 (bk5.below hB bk5.lt).cell2 ⟨_,rfl,rfl,ze _ _⟩
      case o1=>
        refine LnOp.sd (λA va w' k' hF hT hk hJ hb hu hp hd=>?_);have e1:=hF 1 rfl;exact zu _ rfl ⟨_,rfl,e1,ze _ _⟩
      case o2=>
        refine LnOp.line 0 rfl rfl (λA va w' hF hT hJ hu hd=>?_);have e1:=(hT 22 1 (by simp) rfl).trans (hd ⟨1,.data⟩ (by simp) rfl rfl);have hB:Below W5.heap.size W5 w':=hJ;refine zah rfl eC (args:=#[.slice a k.length c]) (by simp only[zE,zn,zo,e1]) ((zby w' (hk5.below hB).rd (zf _) (by omega)).mono ?_);rintro e W6 ⟨ad',k2,c',rfl,hf'⟩;exact⟨_,rfl,_,rfl,⟨hB.trans (hf'.1.mono hB.size),ad',k2,c',rfl,hf'.2.rdS.weak λg hg=>⟨by have:=hB.size;omega,hg.2⟩⟩,trivial⟩
      case o3=>
        refine LnOp.sd (λA va w' k' hF hT hk hJ hb hu hp hd=>?_);have e1:=hF 2 rfl;exact zu _ rfl ⟨_,rfl,e1,ze _ _⟩
      case o4=>
        refine LnOp.line 1 rfl rfl (λA va w' hF hT hJ hu hd=>?_);have e1:=(hT 24 3 (by simp) rfl).trans (hd ⟨3,.data⟩ (by simp) rfl rfl);have hJ':PutJ w W W5 n F d k x [va 2] w':=hJ;obtain⟨hB,a',m',c',ek,hkr⟩:=hJ';refine zah rfl eV (args:=#[.slice a2' m2 c2']) (by simp only[zE,zn,zo,e1]) ((zfk w' (hx5.below hB) hsm).mono ?_);rintro e W6 ⟨a3',c3',rfl,hnew,hb6⟩;exact⟨_,rfl,_,rfl,⟨hB.trans (hb6.mono hB.size),⟨a',m',c',ek,(hkr.below hb6).weak λg hg=>⟨hg.1,zm hg.2 hb6.size⟩⟩,_,_,_,rfl,hnew.weak λg hg=>⟨by have:=hB.size;omega,hg.2⟩⟩,trivial⟩
      case o5=>
        refine LnOp.line 2 rfl rfl (λA va w' hF hT hJ hu hd=>?_);have e1:=(hT 21 0 (by simp) rfl).trans (hd ⟨0,.data⟩ (by simp) rfl rfl);have x2:A.eval (.tmp 23)=va 2:=hT 23 2 (by simp) rfl;have x3:A.eval (.tmp 25)=va 4:=hT 25 4 (by simp) rfl;have hJ':PutJ w W W5 n F d k x [va 2,va 4] w':=hJ;obtain⟨hB,⟨a',m',c',ek,hkr⟩,a'',m'',c'',ev,hvr⟩:=hJ';have z1:=hB.size;have z2:=hb1.size;have z3:=qb5.size;obtain⟨⟨vs,e0,ho⟩,hnd,_,_⟩:=s5.at'.below hB;have hat':NdAt (λg=>W.heap.size<=g/\g<w'.heap.size/\g∉F) w' (.agg #[.slice r1 n.keys.length d1,.slice r2 n.chains.length d2,.slice r3 n.kids.length d3]) n F:=⟨⟨vs,e0,zgu (λg hg=>⟨hg.1,by omega,hg.2.2⟩) n ho⟩,hnd,λg hg hd=>hd.2.2 hg,λg hd=>hd.2.1⟩;refine zah rfl eP (args:=#[.agg #[.slice r1 n.keys.length d1,.slice r2 n.chains.length d2,.slice r3 n.kids.length d3],.slice a' m' c',.slice a'' m'' c'']) (by simp only[zE,zn,zo,e1,x2.trans ek,x3.trans ev]) ((ztf d w' _ _ n F _ _ _ _ _ _ k x hat' hpn (hkr.weak λg hg=>⟨by omega,hg.2,λhm=>by have:=hFl g hm;omega⟩) (hvr.weak λg hg=>⟨by omega,hg.2,λhm=>by have:=hFl g hm;omega⟩)).mono ?_);rintro e W6 hto;obtain⟨v6,n6,F6,rfl,hq6,s6,t6⟩:=(NdOf.start hat' (ze _ _) (zf _) (zf _)).step hto;exact⟨_,rfl,_,rfl,⟨_,w',_,n6,F6,s6,hB,λg hd=>hd.1,hq6,(t6.block _ (bz5.below hB bz5.lt).lt (λhm=>by have:=hFF _ hm;omega)).trans (bz5.below hB bz5.lt)⟩,trivial⟩
      case o6=>
        refine LnOp.line 3 rfl rfl (λA va w' hF hT hJ hu hd=>?_);have x1:A.eval (.tmp 26)=va 5:=hT 26 5 (by simp) rfl;have hJ':PutJ w W W5 n F d k x [va 2,va 4,va 5] w':=hJ;obtain⟨D,Wb,lo,n1,F1,s,hBb,hD,hput,bzb⟩:=hJ';refine zah rfl eR (args:=#[va 5]) (by simp only[zE,zn,zo,x1]) ((zru w' s.at' (hput.1.mono (zH _) hput.1.keys.2)).mono ?_);rintro e W6 hto;obtain⟨v6,n6,F6,rfl,hq6,s6,t6⟩:=s.step hto;rw[hq6]at s6;exact⟨_,rfl,_,rfl,⟨D,Wb,lo,n1,F6,s6,hBb,hD,hput,(t6.block _ bzb.lt (λhm=>by rcases s.fr _ hm with h1|h1;have:=hFF _ h1;omega;have:=s.lo1;have:=hBb.size;omega)).trans bzb⟩,trivial⟩
      case o7=>
        refine LnOp.line 4 rfl rfl (λA va w' hF hT hJ hu hd=>?_);have e1:=hF 6 rfl;have x2:A.eval (.tmp 27)=va 6:=hT 27 6 (by simp) rfl;have hJ':PutJ w W W5 n F d k x [va 2,va 4,va 5,va 6] w':=hJ;obtain⟨D,Wb,lo,n1,F1,s,hBb,hD,hput,bzb⟩:=hJ';obtain⟨y1,f1,y2,f2,y3,f3,_,_,_,_,ev,_⟩:=s.at'.opn;refine zcm rfl e1 (x2.trans ev) rfl rfl rfl bzb (λw2 hg ht=>?_);obtain⟨hrd,hbl⟩:=s.done q (hb1.trans ((qb5.trans (hBb.mono qb5.size)).mono hb1.size)) hD hFF hg (by omega) (by omega);rw[ev]at hrd;exact⟨_,rfl,⟨n1,_,_,_,ev,hput,hrd,hbl,ht⟩,trivial⟩
      case o8=>
        refine LnOp.sd (λA va w' k' hF hT hk hJ hb hu hp hd=>?_);exact yV _ rfl ⟨_,rfl,rfl,ze _ _⟩
      case fin=>
        intro vs1 W9 hJ hGG;have e8:vs1 8=.int .i64 0:=hGG 8 (by decide) rfl;clear hGG;obtain⟨n1,y1,y2,y3,_,hput,hrd,hbl,bz9⟩:=hJ;simp only[zaj,e8];go_simp;go_wp2_with fail;have hs1:Srt (zac n1):=by rw[hput.2];exact zob hpn.srt
        obtain⟨⟨d',hp'⟩,hpr⟩:=zs9 (hput.1.mono (zH _) hput.1.keys.2) hs1;have hq:zjm n k x (zh3 n1) 0:=by
          unfold zjm;rw[zi ⟨hok,hfit.out.1,hfit.out.2.2,hfit.out.2.1⟩];exact⟨rfl,pn_ok hp' (by rw[hpr,hput.2];exact((zdu _).1 (put_okP hok.2 hfit.out.1 hfit.out.2.2 hfit.out.2.1)).1),by rw[hpr,hput.2]⟩
        exact zD (v:=.tuple #[.agg #[y1,y2,y3],.int .i64 0]) (by simp[results,Tryz.results85,go_sem,loadVar,isAgg,zr hu,zaa ndS.hs,loadCellsFrom,Addr.add,bz9.cell0,bz9.cell1,bz9.cell2]) rfl ⟨_,zh3 n1,0,rfl,hq,hrd,hbl⟩
    · rw[zj hfit]at hft
      go_wp2_with fail;refine hft.mono ?_;rintro e W5 ⟨rfl,hb5⟩;have s5:=s4.more hb5;have bk5:=bk4.below hb5 bk4.lt;have bz5:=bz4.below hb5 bz4.lt;clear bk4 bz4 s4 hft;have tk0:=bk5.cell0;have tk1:=bk5.cell1;have tk2:=bk5.cell2;go_wp2_with(first|(refine zaq rfl rfl rfl rfl rfl rfl rfl rfl bz5 ?_;intro W6 hg6 bz6)|fail);obtain⟨hrd,hbl⟩:=fin1 _ _ s5 hg6;exact zD (v:=.tuple #[.agg #[.slice r1 n.keys.length d1,.slice r2 n.chains.length d2,.slice r3 n.kids.length d3],.int .i64 1]) (by simp[results,Tryz.results85,go_sem,loadVar,isAgg,zr hu,zaa ndS.hs,loadCellsFrom,Addr.add,bz6.cell0,bz6.cell1,bz6.cell2]) rfl ⟨_,n,1,rfl,by unfold zjm;rw[zh (λh=>hfit ⟨h.2.1,h.2.2.2,h.2.2.1⟩)];exact⟨rfl,rfl⟩,hrd,hbl⟩
  · rw[zj hok]at hch
    go_wp2_with fail;refine hch.mono ?_;rintro e W4 ⟨rfl,hb4⟩;have s4:=s0.more hb4;have bk4:=bk.below hb4 bk.lt;have bz4:=bz3.below hb4 bz3.lt;clear tk0 tk1 tk2 hch bk bz3 s0;have tk0:=bk4.cell0;have tk1:=bk4.cell1;have tk2:=bk4.cell2;go_wp2_with(first|(refine zaq rfl rfl rfl rfl rfl rfl rfl rfl bz4 ?_;intro W5 hg5 bz5)|fail);obtain⟨hrd,hbl⟩:=fin1 _ _ s4 hg5;exact zD (v:=.tuple #[.agg #[.slice r1 n.keys.length d1,.slice r2 n.chains.length d2,.slice r3 n.kids.length d3],.int .i64 1]) (by simp[results,Tryz.results85,go_sem,loadVar,isAgg,zr hu,zaa ndS.hs,loadCellsFrom,Addr.add,bz5.cell0,bz5.cell1,bz5.cell2]) rfl ⟨_,n,1,rfl,by unfold zjm;rw[zh (λh=>hok h.1)];exact⟨rfl,rfl⟩,hrd,hbl⟩
theorem zbz{P:Program}{f:FuncId}{fn:Func}{c:Code}{args:Array Value}{w:World}{R:Ending->World->Prop}(hf:P.funcs[f]?=some fn)(hb:fn.body=some c)(h:c.wp P (bodyPostM Fence.wide 3 P fn R) {tmps:=args++Array.replicate (fn.ntmps-args.size) undef,defers:=[]} w):Calls P f args w R:=
 (xL (n:=3)).1 (callsIn_of_wp_marks hf hb trivial (yS.2 h) rfl)
theorem zhm{P:Program}{α:Type}{g:Operand}{ps:Array Tmp}{assign body:Code}{Q:Exit->Act->World->Prop}{a:Act}{w:World}{gf:Nat}{lb:Array Value}(hg:a.eval g=.func (.func gf) #[] lb) (eg:∀args w,(callFunc gf args).run P w=.ok (.enter gf args) w)
  {encs:α->Array Value}{Kp:World->World->Prop}{S Sp:List α->Prop}{N:Nat}{w0:World}(hseq:SeqStopsK Fence.wide 2 P gf lb encs Kp S Sp N w0)
  (hKt:∀{A B C:World},Kp A B->Kp B C->Kp A C) (hKb:∀(W:World) (l:Nat) (o o':Obj),w.heap.size<=l->W.heap[l]?=some o->o.isCells=false->o.isWalk=false->Kp W (W.putObj l o')) (hb0:Below w0.heap.size w0 w) (hps:∀x,(encs x).size=ps.size)
  (I:List α->World->Prop) (Ix:Code->List α->World->Prop) (hI:OwnFrom w.heap.size I) (hIx:∀c,OwnFrom w.heap.size (Ix c))(h0:I [] w)(a₁:α->Act)
  (hassign:∀(l:Nat)(x:α)(W:World)(K:Act->World->Prop),K (a₁ x) W->assign.wpIn (Fence.wide.inRound l) 1 P (Exit.then K (λ_ _ _=>False)) {tmps:=(ps.zip (encs x)).foldl (λt(p,v)=>t.setIfInBounds p v) a.tmps,defers:=[]} W)
  (hbody:∀(l:Nat)(pre:List α)(x:α)(W:World),I pre W->pre.length<N->body.wpIn (Fence.wide.inRound l) 1 P (ownPostG w.heap.size Kp I Ix (pre++[x]) W) (a₁ x) W)
  (hdone:∀(D:Nat)(xs:List α)(W:World),w.heap.size<=D->S xs->I xs W->W.heap[D]?=some (.deferred (some []))->Q .normal {a with defers:={target:=.collected D,args:=#[]}::a.defers} W)
  (hstop:∀(D:Nat)(c:Code)(pre:List α)(W:World),w.heap.size<=D->Sp pre->Ix c pre W->W.heap[D]?=some (.deferred (some []))->c.wp P Q {a with defers:={target:=.collected D,args:=#[]}::a.defers} W):
  (Code.rangeFunc g ps assign body).wp P Q a w:=
 (yS (n:=3)).1 (wpIn_rangeFunc_ownG rfl (by omega) hg trivial eg hseq hKt hKb hb0 hps I Ix hI hIx h0 a₁ hassign hbody hdone λD c pre W h1 h2 h3 h4=>yS.2 (hstop D c pre W h1 h2 h3 h4))
def geK(l:List Pr)(k:List UInt8):List (List UInt8):=(l.filter λp=>!ltB p.key k).map (·.key)
theorem zjd (a b:List Pr)(k:List UInt8):geK (a++b) k=geK a k++geK b k:=by simp[geK]
theorem geK_cons (p:Pr)(l:List Pr)(k:List UInt8):geK (p::l) k=if ltB p.key k then geK l k else p.key::geK l k:=by
 unfold geK;rw[wE];cases ltB p.key k<;>simp
theorem zlg{l:List Pr}{k:List UInt8}(h:∀p∈l,ltB p.key k=true):geK l k=[]:=by
 unfold geK;rw[wU.2 λp hp=>by simp[h p hp]];rfl
theorem zum (l:List Pr):geK l []=l.map (·.key):=by
 unfold geK;rw[List.filter_eq_self.2 λp _=>by rw[zt5];rfl]
theorem zul (l:List Pr)(k:List UInt8):(geK l k).length<=l.length:=by
 unfold geK;rw[zX];exact wi _ _
def remN(n:Nd)(i:Nat):List Pr:=zca ((psN n).drop i) ((kpN n).drop i)
def sufN (n:Nd)(i:Nat):List Pr:=suf ((kpN n).drop i) ((psN n).drop (i+1))
theorem ps_get{n:Nd}{i:Nat}(hi:i<n.kids.length):(psN n).drop i=zac n.kids[i]::(psN n).drop (i+1):=by
 have hl:i<(psN n).length:=by unfold psN;rw[zX];exact hi
 rw[yQ hl];congr 1;exact wo (l:=n.kids) zac
theorem zky{n:Nd}{i:Nat}(hi:i<n.kids.length):remN n i=zac n.kids[i]++sufN n i:=by
 unfold remN sufN;rw[ps_get hi,zcw]
theorem ztg{n:Nd}(h0:n.kids=[]):psN n=[]:=by unfold psN;rw[h0];rfl
theorem zs0{n:Nd}(hc:n.chains.length=n.keys.length){i:Nat}(hi:n.keys.length<=i):sufN n i=[]:=by
 unfold sufN;rw[xj (by rw[zbt hc];exact hi)];rfl
theorem suf_key{n:Nd}(hc:n.chains.length=n.keys.length){i:Nat}(hi:i<n.keys.length):sufN n i=⟨n.keys[i],n.chains[i]'(by omega)⟩::remN n (i+1):=by
 unfold sufN remN;have h2:i<(kpN n).length:=by rw[zbt hc];exact hi
 have h3:=zfd hc hi;rw[zB h2]at h3;rw[yQ h2,yn h3];rfl
theorem rem_leaf{n:Nd}(h0:n.kids=[])(i:Nat):remN n i=sufN n i:=by
 unfold remN sufN;rw[ztg h0];simp only[List.drop_nil,zca];cases h:(kpN n).drop i with
 |nil=>rfl
 |cons p r=>rfl
theorem ztc{d:Nat}{n:Nd}(h:Pn d n)(k:List UInt8):geK (zac n) k=geK (remN n (plcF n.keys k)) k:=by
  obtain⟨hc,hsh⟩:=h.wf.shape;obtain⟨i,hi⟩:∃i,i=plcF n.keys k:=⟨_,rfl⟩;rw[<-hi];rcases hsh with h0|h0
  · obtain⟨m1,_⟩:=zlc (k:=k) hc h.ris
    rw[<-hi]at m1;have e:zac n=(kpN n).take i++(kpN n).drop i:=by
      rw[zar hc (.inl h0),ztg h0,yz];rfl
    have e2:remN n i=(kpN n).drop i:=by
      unfold remN;rw[ztg h0,List.drop_nil];rfl
    rw[e,e2,zjd,zlg m1];rfl
  · obtain⟨m1,_⟩:=zix (k:=k) hc h0 h.srt h.ris hi
    have hle:i<=n.keys.length:=hi▸zhu _ _;have hlt:i<n.kids.length:=by omega
    rw[zky hlt,zc3 hc h0 hlt,zG,zjd,zlg m1];rfl
theorem plc_ge{n:Nd}{d i:Nat}{k:List UInt8}(h:Pn d n)(hi:plcF n.keys k<=i)(hl:i<n.keys.length):ltB n.keys[i] k=false:=by
 rw[zht h.ris i hl];exact zj (by omega)
theorem zuk{n:Nd}{d i:Nat}{k:List UInt8}(h:Pn d n)(hi:plcF n.keys k<=i)(hl:i<n.keys.length):geK (sufN n i) k=n.keys[i]::geK (remN n (i+1)) k:=by
 rw[suf_key h.wf.shape.1 hl,geK_cons,plc_ge h hi hl];rfl
attribute [local go_sem] xe
structure zex (w0:World) where
 ad:Option Addr
 c:Nat
 t:List UInt8
 le:t.length<=1000000
 rd:RdS (·<w0.heap.size) w0 (.slice ad t.length c) t
def zex.enc{w0:World}(x:zex w0):Array Value:=#[.slice x.ad x.t.length x.c]
def KpW (n₀:Nat)(A B:World):Prop:=Below n₀ A B/\∀(j:Nat)(c:Array Value)(r:Nat×Nat),A.heap[j]?=some (.cells c 46 r)->B.heap[j]?=A.heap[j]?
theorem KpW.trans{n₀:Nat}{A B C:World}(h:KpW n₀ A B)(k:KpW n₀ B C):KpW n₀ A C:=⟨h.1.trans k.1,λj c r e=>(k.2 j c r ((h.2 j c r e).trans e)).trans (h.2 j c r e)⟩
theorem KpW.refl (n₀:Nat)(A:World):KpW n₀ A A:=⟨ze _ _,λ_ _ _ _=>rfl⟩
theorem KpW.of{n₀:Nat}{A B:World}(h:Below A.heap.size A B)(hn:n₀<=A.heap.size):KpW n₀ A B:=⟨h.mono hn,λj _ _ e=>h.block j (zJ.1 e).1⟩
theorem KpW.tri{n₀ b:Nat}{A B:World}{x y z:Value}(h:KpW n₀ A B)(t:TriV A b 46 x y z):TriV B b 46 x y z:=(h.2 b _ _ t).trans t
theorem zpn{w0 w:World}{v:Value}{xs:List UInt8}(h:RdS (·<w0.heap.size) w0 v xs)(hb:Below w0.heap.size w0 w):RdS (·<w0.heap.size) w v xs:=h.keep λk hk=>hb.block k hk
theorem zpo{w0 w:World}{v:Value}{n:Nd}(h:RdN (·<w0.heap.size) w0 v n)(hb:Below w0.heap.size w0 w):RdN (·<w0.heap.size) w v n:=h.keep λk hk=>hb.block k hk
theorem zbm{W W':World}(h:Below W.heap.size W W'):W.grownBy W' none:=⟨h.os,h.tape,h.output,h.size,λk hk _=>h.block k hk⟩
theorem zrv(k:Nat):Fence.wide.room k:=λd h=>by cases h
theorem zsi{m:Nat}(m':Nat){P:Program}{l:Nat}{args:Array Value}{W:World}{R:Ending->World->Prop}(h:YieldAt Fence.wide m P l args W R):YieldAt Fence.wide m' P l args W R:=by
 obtain⟨fn,tmps,assign,body,hy,hR⟩:=h;exact⟨fn,tmps,assign,body,hy,hR.1,λc cs _=>hR.2 c cs (zrv _)⟩
def PreK{w0:World}(ks:List (List UInt8))(ys:List (zex w0)):Prop:=∃r,ks=ys.map (·.t)++r
def WalkEnd{w0:World}(J Jx:List (zex w0)->World->Prop)(pre:List (zex w0))(ks:List (List UInt8))(W:World)(e:Ending)(W':World):Prop:=
 (e=.returned (.bool true)/\(∃ys,ys.map (·.t)=ks/\J (pre++ys) W')/\KpW w0.heap.size W W')\/(e=.returned (.bool false)/\∃ys,PreK ks ys/\Jx (pre++ys) W')
def WalkR{w0:World}(J:List (zex w0)->World->Prop)(pre:List (zex w0))(n:Nd)(k:List UInt8)(W:World)(v:Value)(wr:World):Prop:=
 ∃(i:Nat)(ys:List (zex w0)),v=.int .i64 (i:Int)/\plcF n.keys k<=i/\i<=n.keys.length+1/\geK (zac n) k=ys.map (·.t)++geK (remN n i) k/\J (pre++ys) wr/\KpW w0.heap.size W wr
def toN:Value->Nat
 |.int _ i=>i.toNat
 |_=>0
def zvn (l:Nat){w0:World}(J Jx:List (zex w0)->World->Prop)(k:List UInt8)(N d:Nat):Prop:=
 ∀(n:Nd)(m:Nat)(v:Value)(a:Option Addr)(c:Nat)(pre:List (zex w0))(W:World),Pn d n->bndN n->RdN (·<w0.heap.size) w0 v n->KpW w0.heap.size w0 W->RdS (·<w0.heap.size) w0 (.slice a k.length c) k->J pre W->pre.length+(geK (zac n) k).length<=N->CallsIn Fence.wide m Tryz.prog 120 #[v,.slice a k.length c,.func (.yield l) #[] #[]] W (WalkEnd J Jx pre (geK (zac n) k) W)
theorem zkz{d:Nat}{n:Nd}(h:Pn d n):remN n (n.keys.length+1)=[]:=by
 obtain⟨hc,hsh⟩:=h.wf.shape;have e:(kpN n).drop (n.keys.length+1)=[]:=xj (by rw[zbt hc];omega);unfold remN;rw[e];cases hps:(psN n).drop (n.keys.length+1)with
 |nil=>rfl
 |cons p r=>
  have:=congrArg List.length hps;unfold psN at this;rw[zF,zX,zI]at this;rcases hsh with h1|h1
  ·rw[h1]at this;simp at this
  ·omega
theorem zsp(l:Nat){w0:World}{J Jx:List (zex w0)->World->Prop}{k:List UInt8}{N d B:Nat}(hAb:AbidesFrom B J)(hY:∀m pre x W,J pre W->pre.length<N->YieldAt Fence.wide m Tryz.prog l x.enc W λe W'=>(e=.returned (.bool true)/\J (pre++[x]) W'/\KpW w0.heap.size W W')\/(e=.returned (.bool false)/\Jx (pre++[x]) W'))
    (ih:∀d',d'<d->zvn l J Jx k N d'):zvn l J Jx k N d:=by
  intro n m v a c pre W hp hbd hr hW hk hJ hN;obtain⟨hbk,_,hbm⟩:=(zf7 n).1 hbd;have hr0:=hr;obtain⟨a1,c1,a2,c2,a3,c3,rfl,rk,rc,rn⟩:=hr;have hkk:=hp.wf.keys.2;obtain⟨hsh1,hsh2⟩:=hp.wf.shape;have bn:=TriV.new W 46 (.slice a1 n.keys.length c1) (.slice a2 n.chains.length c2) (.slice a3 n.kids.length c3);have hb0:Below W.heap.size W (W.alloc (.cells #[.slice a1 n.keys.length c1,.slice a2 n.chains.length c2,.slice a3 n.kids.length c3] 46)):=(ze _ _).alloc (zf _) _;obtain⟨W1,hW1⟩:∃W1,W1=W.alloc (.cells #[.slice a1 n.keys.length c1,.slice a2 n.chains.length c2,.slice a3 n.kids.length c3] 46):=⟨_,rfl⟩;rw[<-hW1]at bn hb0;have k1:KpW w0.heap.size W W1:=KpW.of hb0 hW.1.size;have hpl:=ziy W1 (zpo hr0 (hW.trans k1).1) hp.ris (by omega) (zpn hk (hW.trans k1).1);obtain⟨i0,hi0⟩:∃i,i=plcF n.keys k:=⟨_,rfl⟩;obtain⟨is,his⟩:∃is,is=isF n.keys k:=⟨_,rfl⟩;rw[<-hi0,<-his]at hpl;have hrp:=Lib.hid (ztc hp k);have hi0':=Lib.hid hi0;have hil:i0<=n.keys.length:=by rw[hi0];exact zhu _ _
  replace hsh1:=Lib.hid hsh1;replace hsh2:=Lib.hid hsh2;replace his:=Lib.hid his;clear hi0;refine callsIn_of_wp Tryz.func120 rfl trivial ?_ rfl;simp only[Tryz.ntmps120,yj,zI,zM,Nat.reduceAdd,Nat.reduceSub,xz,xA,xB,xC,yw,ym];refine yS.2 ?_;go_upto_region 1 with(fail);rw[<-hW1];clear hW1;have tn0:=bn.cell0;have tn1:=bn.cell1;have tn2:=bn.cell2;go_wp2_with fail;refine hpl.mono ?_;rintro e W2 ⟨rfl,hb2⟩;clear tn0 tn1 tn2;have bn2:=bn.below hb2 bn.lt;have k2:KpW w0.heap.size W W2:=k1.trans (KpW.of hb2 (by have:=hW.1.size;have:=k1.1.size;omega));have hsz2:W.heap.size<=W2.heap.size:=zv hb0.size hb2.size;have hJ2:J pre W2:=hAb _ _ _ none (hAb _ _ _ none hJ (zbm hb0) (by simp)) (zbm hb2) (by simp);have r0:WalkR J pre n k W2 (.int .i64 (i0:Int)) W2:=⟨i0,[],rfl,by rw[hi0'.out];exact zf _,by omega,by rw[hrp.out,hi0'.out];rfl,by rw[yr];exact hJ2,KpW.refl _ _⟩;have hW2:=hW.trans k2;clear bn hb0 hpl k1 hb2 hJ2 hsz2;go_wp2_with fail;refine(yS (n:=m)).1 ?_;gi_loopw [7] (λv wr=>WalkR J pre n k W2 v wr)(λv _=>n.keys.length+2-toN v);case atStart=>exact r0
  case round=>
    obtain⟨i,ys,rfl,hi1,hi2,hge,hJr,hKr⟩:=hrel;clear r0;have bnr:=hKr.tri bn2;have hW3:=hW2.trans hKr;have tn0:=bnr.cell0;have tn1:=bnr.cell1;have tn2:=bnr.cell2;refine yS.2 ?_;rcases zA n.keys.length i with hl|hl
    · have d1:decide ((i:Int)<=(n.keys.length:Int))=false:=by simp;omega
      obtain rfl:i=n.keys.length+1:=by omega
      go_wp2_with fail;go_ret;refine .inl ⟨rfl,⟨ys,?_,hJr⟩,k2.trans hKr⟩;rw[hge,zkz hp,zlg (λp h=>by cases h),yr]
    · have d1:decide ((i:Int)<=(n.keys.length:Int))=true:=by simp;omega
      have hJb:∀W':World,Below wr.heap.size wr W'->J (pre++ys) W':=λW' hb=>hAb _ _ _ none hJr (zbm hb) (by simp)
      rcases zA i n.kids.length with hkd|hkd
      · have d2:decide ((i:Int)<(n.kids.length:Int))=true:=by simp;omega
        obtain⟨d',ed,hd',hkl,hpk,_,_⟩:=hp.kid hkd;have ihk:=ih d' (by omega) n.kids[i] (m-1);obtain⟨gb,off,xa,xc,ya,yc,za,zc,rfl,c0,c1',c2',hrk⟩:=rn.kid i hkd;have ihk:=(xL (n:=m)).1 (ih d' (by omega) n.kids[i] m _ a c (pre++ys) wr hpk (hbm _ (zL hkd)) hrk hW3 hk hJr (by
          have h1:=congrArg List.length hge;rw[zky hkd,zjd]at h1;simp only[zC,zX]at h1⊢;omega))
        replace c0:=(zag (hW3.1.block gb (zad c0)) _).trans c0;replace c1':=(zag (hW3.1.block gb (zad c1')) _).trans c1';replace c2':=(zag (hW3.1.block gb (zad c2')) _).trans c2';replace ed:=Lib.hid ed;replace hkl:=Lib.hid hkl;replace hge:=Lib.hid hge;go_wp2_with fail;refine ihk.mono ?_;rintro e W4 (⟨rfl,⟨zs,hz,hJ4⟩,hK4⟩|⟨rfl,zs,⟨rz,hz⟩,hx⟩)
        · have hJ4':J (pre++(ys++zs)) W4:=by rw[<-zG];exact hJ4
          have hge4:=Lib.hid (show geK (zac n) k=(ys++zs).map (·.t)++geK (sufN n i) k by rw[hge.out,zky hkd,zjd,yW,hz,zG]);replace hz:=Lib.hid hz;have bn4:=(hKr.trans hK4).tri bn2;have hW4:=hW2.trans (hKr.trans hK4);clear tn0 tn1 tn2 hJ4 ihk;have tn0:=bn4.cell0;have tn1:=bn4.cell1;have tn2:=bn4.cell2;rcases zA i n.keys.length with hky|hky
          · have d3:decide ((i:Int)<(n.keys.length:Int))=true:=by simp;omega
            obtain⟨b1,o1,A,C,rfl,kc,krd⟩:=rk.byt i hky;replace kc:=(zag (hW4.1.block b1 (zad kc)) _).trans kc;have hsk:=Lib.hid (zuk (k:=k) hp hi1 hky);obtain⟨x,hx⟩:∃x:zex w0,x=⟨A,C,n.keys[i],by have:=hbk _ (zL hky);omega,krd⟩:=⟨_,rfl⟩;have hxt:x.t=n.keys[i]:=by rw[hx]
            have hyl:YieldAt Fence.wide (m-1) Tryz.prog l #[.slice A n.keys[i].length C] W4 λe W'=>(e=.returned (.bool true)/\J (pre++(ys++zs)++[x]) W'/\KpW w0.heap.size W4 W')\/(e=.returned (.bool false)/\Jx (pre++(ys++zs)++[x]) W'):=by
              have h1:=hY (m-1) (pre++(ys++zs)) x W4 hJ4' (by
                have h1:=congrArg List.length hge4.out;rw[hsk.out]at h1;simp only[zC,zX,zI]at h1⊢;omega)
              rw[hx]at h1⊢;exact h1
            replace hxt:=Lib.hid hxt;clear hx;obtain⟨fn,tmps,assign,body,hy,hR⟩:=hyl;go_upto_region 6 with(fail);refine(yS (n:=m)).1 ?_;gi_wp2;refine⟨(λh=>by cases h),hR.mono ?_⟩;clear hR;rintro e W5 (⟨rfl,hJ5,hK5⟩|⟨rfl,hx5⟩)
            · gi_wp2
              go_wp2_with fail;go_roundw;case rel=>
                refine⟨i+1,(ys++zs)++[x],by go_num,by omega,by omega,?_,by rw[<-zG];exact hJ5,(hKr.trans hK4).trans hK5⟩;rw[hge4.out,hsk.out];simp[hxt.out]
              case measure=>simp[toN];omega
            · gi_wp2
              go_wp2_with fail;go_ret;exact .inr ⟨rfl,(ys++zs)++[x],⟨geK (remN n (i+1)) k,by rw[hge4.out,hsk.out];simp[hxt.out]⟩,by rw[<-zG];exact hx5⟩
          · have d3:decide ((i:Int)<(n.keys.length:Int))=false:=by simp;omega
            have hse:=Lib.hid (zs0 hsh1.out hky);go_wp2_with fail;go_roundw;case rel=>
              obtain rfl:i=n.keys.length:=by omega
              exact⟨n.keys.length+1,ys++zs,by go_num,by omega,by omega,by rw[hge4.out,hse.out,zkz hp],hJ4',hKr.trans hK4⟩
            case measure=>simp[toN];omega
        · replace hz:=Lib.hid hz
          go_wp2_with fail;go_ret;exact .inr ⟨rfl,ys++zs,⟨rz++geK (sufN n i) k,by rw[hge.out,zky hkd,zjd,hz.out];simp⟩,by rw[<-zG];exact hx⟩
      · have d2:decide ((i:Int)<(n.kids.length:Int))=false:=by simp;omega
        have h0:n.kids=[]:=by rcases hsh2.out with h|h;exact h;omega
        have hge4:=Lib.hid (show geK (zac n) k=ys.map (·.t)++geK (sufN n i) k by rw[hge,rem_leaf h0]);replace h0:=Lib.hid h0;replace hge:=Lib.hid hge;have bn4:=(hKr).tri bn2;have hW4:=hW2.trans (hKr);clear tn0 tn1 tn2;have tn0:=bn4.cell0;have tn1:=bn4.cell1;have tn2:=bn4.cell2;rcases zA i n.keys.length with hky|hky
        · have d3:decide ((i:Int)<(n.keys.length:Int))=true:=by simp;omega
          obtain⟨b1,o1,A,C,rfl,kc,krd⟩:=rk.byt i hky;replace kc:=(zag (hW4.1.block b1 (zad kc)) _).trans kc;have hsk:=Lib.hid (zuk (k:=k) hp hi1 hky);obtain⟨x,hx⟩:∃x:zex w0,x=⟨A,C,n.keys[i],by have:=hbk _ (zL hky);omega,krd⟩:=⟨_,rfl⟩;have hxt:x.t=n.keys[i]:=by rw[hx]
          have hyl:YieldAt Fence.wide (m-1) Tryz.prog l #[.slice A n.keys[i].length C] wr λe W'=>(e=.returned (.bool true)/\J (pre++(ys)++[x]) W'/\KpW w0.heap.size wr W')\/(e=.returned (.bool false)/\Jx (pre++(ys)++[x]) W'):=by
            have h1:=hY (m-1) (pre++(ys)) x wr hJr (by
              have h1:=congrArg List.length hge4.out;rw[hsk.out]at h1;simp only[zC,zX,zI]at h1⊢;omega)
            rw[hx]at h1⊢;exact h1
          replace hxt:=Lib.hid hxt;clear hx;obtain⟨fn,tmps,assign,body,hy,hR⟩:=hyl;go_upto_region 6 with(fail);refine(yS (n:=m)).1 ?_;gi_wp2;refine⟨(λh=>by cases h),hR.mono ?_⟩;clear hR;rintro e W5 (⟨rfl,hJ5,hK5⟩|⟨rfl,hx5⟩)
          · gi_wp2
            go_wp2_with fail;go_roundw;case rel=>
              refine⟨i+1,(ys)++[x],by go_num,by omega,by omega,?_,by rw[<-zG];exact hJ5,(hKr).trans hK5⟩;rw[hge4.out,hsk.out];simp[hxt.out]
            case measure=>simp[toN];omega
          · gi_wp2
            go_wp2_with fail;go_ret;exact .inr ⟨rfl,ys++[x],⟨geK (remN n (i+1)) k,by rw[hge4.out,hsk.out];simp[hxt.out]⟩,by rw[<-zG];exact hx5⟩
        · have d3:decide ((i:Int)<(n.keys.length:Int))=false:=by simp;omega
          have hse:=Lib.hid (zs0 hsh1.out hky);go_wp2_with fail;go_roundw;case rel=>
            obtain rfl:i=n.keys.length:=by omega
            exact⟨n.keys.length+1,ys,by go_num,by omega,by omega,by rw[hge4.out,hse.out,zkz hp],hJr,hKr⟩
          case measure=>simp[toN];omega
attribute [local go_sem] xe
theorem walk_any (l:Nat){w0:World}{J Jx:List (zex w0)->World->Prop}{k:List UInt8}{N B:Nat}(hAb:AbidesFrom B J)(hY:∀m pre x W,J pre W->pre.length<N->YieldAt Fence.wide m Tryz.prog l x.enc W λe W'=>(e=.returned (.bool true)/\J (pre++[x]) W'/\KpW w0.heap.size W W')\/(e=.returned (.bool false)/\Jx (pre++[x]) W'))
  (d:Nat):zvn l J Jx k N d:=Nat.strongRecOn d λ_ ih=>zsp l hAb hY ih
theorem from1_in(l:Nat){w0:World}{J Jx:List (zex w0)->World->Prop}{n:Nd}{k:List UInt8}{a:Option Addr}{c N B nb kb:Nat}{x y z:Value}(hr:RdN (·<w0.heap.size) w0 (.agg #[x,y,z]) n) (hf:fitN n) (hk:RdS (·<w0.heap.size) w0 (.slice a k.length c) k)(hAb:AbidesFrom B J)(hY:∀pre x W,J pre W->pre.length<N->YieldAt Fence.wide 1 Tryz.prog l x.enc W λe W'=>(e=.returned (.bool true)/\J (pre++[x]) W'/\KpW w0.heap.size W W')\/(e=.returned (.bool false)/\Jx (pre++[x]) W'))
    (W:World)(hW:Below w0.heap.size w0 W)(hnb:TriV W nb 46 x y z)(hkb:W.cell? ⟨kb,0,none⟩=some (.slice a k.length c))(h0:J [] W)(hN:(geK (prN n) k).length<=N):
    CallsIn Fence.wide 2 Tryz.prog 119 #[.func (.yield l) #[] #[],.pointer (some ⟨nb,0,none⟩),.pointer (some ⟨kb,0,none⟩)] W λe W'=>(∃v,e=.returned v)/\((∃ys:List (zex w0),ys.map (·.t)=geK (prN n) k/\J ys W')\/(∃pre,PreK (geK (prN n) k) pre/\Jx pre W')):=by
  have hr0:=hr;obtain⟨a1,c1,a2,c2,a3,c3,eqv,_,_,_⟩:=hr;injection eqv with eqv;injection eqv with eqv;injection eqv with ex eqv;injection eqv with ey eqv;injection eqv with ez _;subst ex ey ez;have hwn:wN n<=1000000:=by have:=hf.1;omega
  have hch:=zdb W (zpo hr0 hW) hwn;have tn0:=hnb.cell0;have tn1:=hnb.cell1;have tn2:=hnb.cell2;refine callsIn_of_wp Tryz.func119 rfl trivial ?_ rfl;simp only[Tryz.ntmps119,yj,zI,zM,Nat.reduceAdd,Nat.reduceSub,xz,xA,xB,xC,yw,ym];refine yS.2 ?_;by_cases hok:okN n
  · obtain⟨d,hpn⟩:=ok_pn hok
    rw[zk hok]at hch;have hpr:prN n=zac n:=by unfold prN;rw[zi hok]
    rw[hpr]at hN⊢;replace hpr:=Lib.hid hpr;go_wp2_with fail;refine hch.mono ?_;rintro e W1 ⟨rfl,hb1⟩;have bn1:=hnb.below hb1 hnb.lt;have hkb1:=(hb1.cell (p:=⟨kb,0,none⟩) (zad hkb)).trans hkb;clear tn0 tn1 tn2 hch hnb hkb;have tn0:=bn1.cell0;have tn1:=bn1.cell1;have tn2:=bn1.cell2;have hJ1:J [] W1:=hAb _ _ _ none h0 (zbm hb1) (by simp);have hwk:=(xL (n:=1)).1 (walk_any l hAb (λm pre x W h1 h2=>zsi m (hY pre x W h1 h2)) d n 1 _ a c [] W1 hpn hf.2 hr0 (KpW.of (hW.trans (hb1.mono hW.size)) (zf _)) hk hJ1 (by simpa using hN));go_wp2_with fail;refine hwk.mono ?_;rintro e W2 (⟨rfl,⟨ys,hys,hJ2⟩,_⟩|⟨rfl,ys,hpk,hx⟩)
    · go_wp2_with fail
      go_end0;exact⟨⟨_,rfl⟩,.inl ⟨ys,hys,by simpa using hJ2⟩⟩
    · go_wp2_with fail
      go_end0;exact⟨⟨_,rfl⟩,.inr ⟨_,hpk,hx⟩⟩
  · rw[zj hok]at hch
    have hpr:prN n=[]:=by unfold prN;rw[zh hok]
    rw[hpr];replace hpr:=Lib.hid hpr;go_wp2_with fail;refine hch.mono ?_;rintro e W1 ⟨rfl,hb1⟩;have hJ1:J [] W1:=hAb _ _ _ none h0 (zbm hb1) (by simp);go_wp2_with fail;go_end0;exact⟨⟨_,rfl⟩,.inl ⟨[],rfl,hJ1⟩⟩
theorem zkc{w0 w:World}{n:Nd}{k:List UInt8}{a:Option Addr}{c N nb kb:Nat}{x y z:Value}(hr:RdN (·<w0.heap.size) w0 (.agg #[x,y,z]) n)(hf:fitN n)(hk:RdS (·<w0.heap.size) w0 (.slice a k.length c) k)(hw:Below w0.heap.size w0 w)(hnb:TriV w nb 46 x y z)(hkb:w.cell? ⟨kb,0,none⟩=some (.slice a k.length c))(hN:(geK (prN n) k).length<=N):
  SeqStopsK Fence.wide 2 Tryz.prog 119 #[.pointer (some ⟨nb,0,none⟩),.pointer (some ⟨kb,0,none⟩)] zex.enc (KpW w0.heap.size) (λys:List (zex w0)=>ys.map (·.t)=geK (prN n) k) (PreK (geK (prN n) k)) N w:=λl _ _ W hW hAb _ hY h0=>
 from1_in l hr hf hk hAb hY W (hw.trans (hW.mono hw.size)) (hnb.below hW hnb.lt) ((hW.cell (p:=⟨kb,0,none⟩) (zad hkb)).trans hkb) h0 hN
theorem zqj (w:World) (x y z:Value) (a:Option Addr)(m c:Nat):Calls Tryz.prog 92 #[.agg #[x,y,z],.slice a m c] w λe w'=>e=.returned (.func (.func 119) #[] #[.pointer (some ⟨w.heap.size,0,none⟩),.pointer (some ⟨w.heap.size+1,0,none⟩)])/\w'=(w.alloc (.cells #[x,y,z] 46)).alloc (.cells #[.slice a m c] 23):=by
 go_enter Tryz.func92,Tryz.ntmps92;go_wp2;go_ret;exact⟨rfl,rfl⟩
section
variable {Km Kb : World → World → Prop}
def zt6(Km Kb:World->World->Prop)(m m2 i:Nat)(A B:World):Prop:=if i=m then Km A B else if i=m2 then Kb A B else Below A.heap.size A B
end
variable {P : Program} {Q : Exit → Act → World → Prop}
theorem zqy{P:Program}{o:Oper}{a:Act}{K:Act->World->Prop}{Q:Exit->Act->World->Prop}{w:World}{t:TypeId}{x y:Operand}{b f:Nat}{u:Value}{ad:Option Addr}{k c:Nat}(ho:o.op=.store t x y)(hu:(P.info? t).map (·.size)=some 1)(hx:a.eval x=.pointer (some ⟨b,f,none⟩))(hy:a.eval y=.slice ad k c)(hc:w.cell? ⟨b,f,none⟩=some u)(hf:w.frozen? ⟨b,f,none⟩=false)(h:K (a.put o.dst undef) (w.setCell ⟨b,f,none⟩ (.slice ad k c))):o.wp P a w K Q:=by
 refine zfg ?_ h;simp only[execOp,ho,hx,hy];simp[Instr.storeAt,storeVar,zd6 hu,storeCells,Value.cells,xn _ _ _ _ _ (show(Value.slice ad k c).oneCell'=true from rfl),hc,hf,go_sem]
end Go.Proofs.YtkobhdllagbkhaaGreat
