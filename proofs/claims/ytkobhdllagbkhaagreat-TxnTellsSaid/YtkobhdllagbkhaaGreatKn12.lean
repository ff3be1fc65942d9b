/-
  TEXTS OF ONE PROOF, merged.
-/
import Derived.DeepKeys5
import Derived.Maps.Ext
import Derived.Maps.OwnIn
import Derived.Maps.RangeWalk
import Derived.RangeFuncStops
import Derived.Shelf.SlGeneric
import Derived.Shelf.SlSortCmp.NoneTotal
import Derived.Shelf.SlSortCmp.WholeK
import Derived.Sort.KeysCollected
import Derived.Sort.MapsRangeIn
import Derived.StillTailTactics
import Derived.Test.YtkobhdllagbkhaaGreatKn11
namespace Go.Proofs.YtkobhdllagbkhaaGreat
open Go.RowKit Go.Shelf Go.Maps Go.Lib Go.Sort
set_option maxRecDepth 100000
set_option maxHeartbeats 32000000
theorem zga {D:Nat}{S:Nat->Prop}{w W w1 w3:World}{b N:Nat}{T:Sto}{s:Int}{x:Tx}{r:Dl×Rp}{v:Value}(q:Below w.heap.size w W)(hN:w.heap.size<=N/\N<W.heap.size)(hb:b<w.heap.size)(hSb:¬S b)(hR:RdRp (λk=>W.heap.size<=k/\k<w1.heap.size) w1 v r.2)(hT:Tu D (λk=>(S k/\k<w.heap.size)\/(W.heap.size<=k/\k<w1.heap.size)) w1 b r.1 T s x)(hg:W.grownBy w1 (some b))(hg3:w1.grownBy w3 (some N)):zfv D S w b T s x r (.returned v) w3:=by
 have z0:=q.size;have z1:=hg.size;have z3:=hg3.size;refine⟨v,rfl,(hR.keep λk hk=>hg3.block k hk.2 λe=>by injection e with e;omega).weak λk hk=>⟨by omega,by omega⟩,(hT.past hg3 (λe=>by omega) (by omega)).weak (λk hk=>hk.elim (λh=>.inl h.1) λh=>.inr ⟨by omega,by omega⟩) (λe=>e.elim hSb λe=>by omega),⟨hg3.os.trans (hg.os.trans q.os),hg3.tape.trans (hg.tape.trans q.tape),hg3.output.trans (hg.output.trans q.output),by omega,λk h1 h2=>(hg3.block k (by omega) λe=>by injection e with e;omega).trans ((hg.block k (by omega) h2).trans (q.block k h1))⟩⟩
theorem zfv.same{D:Nat}{S:Nat->Prop}{w w1:World}{b:Nat}{d:Dl}{T:Sto}{s:Int}{x:Tx}(h:Tu D S w b d T s x)(q:Below w.heap.size w w1):Tu D (λk=>S k\/(w.heap.size<=k/\k<w1.heap.size)) w1 b d T s x:=by
 have hl:=h.lt;have hn:¬S b:=by
  obtain⟨_,_,_,_,_,_,_,_,_,_,_,_,_,_,_,_,_,_,_,_,hn,_⟩:=h;exact hn
 exact(h.below q).weak (λk hk=>.inl hk) λe=>e.elim hn λe=>by omega
theorem Tu.out{D:Nat}{S:Nat->Prop}{w:World}{b:Nat}{d:Dl}{T:Sto}{s:Int}{x:Tx}(h:Tu D S w b d T s x):¬S b:=by
 obtain⟨_,_,_,_,_,_,_,_,_,_,_,_,_,_,_,_,_,_,_,_,hn,_⟩:=h;exact hn
theorem ziq(w:World){D:Nat}{S S2:Nat->Prop}{b:Nat}{d:Dl}{T:Sto}{s:Int}{x:Tx}{v:Value}{y:Wr}(h:Tu D S w b d T s x) (hs:smD d) (hy:RdWr S2 w v y) (hy1:y.key.length<=1000000) (hy2:y.val.length<=1000000):Calls Tryz.prog 94 #[.pointer (some ⟨b,0,none⟩),v] w (zfv D S w b T s x (putX d y)):=by
 have hb:=h.lt;have hy0:=hy;obtain⟨yA,yC,yB,yD,rfl,_⟩:=hy;obtain⟨r,hr⟩:∃r:Dl×Rp,r=((putD d y).1,⟨(putD d y).2,false,[],[]⟩):=⟨_,rfl⟩;obtain⟨W,hW,q,bp,by_,bz,hsz⟩:=zvf w 113 62 54 [.pointer (some ⟨b,0,none⟩)] [.int .i64 y.table,.slice yA y.key.length yC,.bool y.gone,.slice yB y.val.length yD] [.int .i64 0,.bool false,.slice none 0 0,.slice none 0 0];have eP:∀args w,(callFunc 123 args).run Tryz.prog w=.ok (.enter 123 args) w:=enters_of Tryz.func123 (by kernel_rfl) rfl;go_enter Tryz.func94,Tryz.ntmps94;go_upto_region 1 with(fail);rw[show((w.alloc (.cells #[.pointer (some ⟨b,0,none⟩)] 113)).alloc (.cells #[.int .i64 y.table,.slice yA y.key.length yC,.bool y.gone,.slice yB y.val.length yD] 62)).alloc (.cells #[.int .i64 0,.bool false,.slice none 0 0,.slice none 0 0] 54)=W from hW.symm];clear hW;have r0:=bp.cell (i:=0) rfl;have hcl:=zg5 W (h.fit.below q) eP (cs:=#[.pointer (some ⟨w.heap.size,0,none⟩),.pointer (some ⟨w.heap.size+1,0,none⟩)]) (λV hV=>zn0 V ((h.fit.below q).below hV) hs (bp.below hV bp.lt) (by_.below hV by_.lt) ((hy0.below q).below hV) hy1 hy2);rw[<-hr]at hcl;replace hr:=Lib.hid hr;go_wp2_with fail;refine hcl.mono ?_;clear hcl r0;rintro e w1 ⟨v,rfl,hR,hTu,hg⟩;obtain⟨va,vc,pa,pc,e9,_⟩:=id hR;subst e9;replace bz:=bz.other hg (λe=>by injection e with e;omega);have zq:=q.size;go_wp2_with(first|(refine zab (us:=[.int .i64 (r.2.err:Int),.bool r.2.found,.slice va r.2.val.length vc,.slice pa r.2.pairs.length pc]) (by kernel_rfl) rfl rfl rfl rfl rfl rfl bz rfl ?_;intro w3 hg3 hB)|fail);have d0:=hB.cell (i:=0) rfl;have d1:=hB.cell (i:=1) rfl;have d2:=hB.cell (i:=2) rfl;have d3:=hB.cell (i:=3) rfl;obtain⟨fs,hu,_⟩:=rpS.hu;refine zD (v:=.agg #[.int .i64 (r.2.err:Int),.bool r.2.found,.slice va r.2.val.length vc,.slice pa r.2.pairs.length pc]) (by simp[results,Tryz.results94,go_sem,loadVar,isAgg,zr hu,zaa rpS.hs,loadCellsFrom,Addr.add,d0,d1,d2,d3]) rfl ?_;rw[show putX d y=r from hr.out.symm];exact zga q ⟨by omega,by omega⟩ hb h.out hR hTu hg hg3
theorem zrb(w:World){D:Nat}{S:Nat->Prop}{b:Nat}{d:Dl}{T:Sto}{s:Int}{x:Tx}(h:Tu D S w b d T s x) (hs:smD d):Calls Tryz.prog 70 #[.pointer (some ⟨b,0,none⟩)] w (zfv D S w b T s x ((zc8 d).1,⟨(zc8 d).2,false,[],[]⟩)):=by
 have hb:=h.lt;obtain⟨r,hr⟩:∃r:Dl×Rp,r=((zc8 d).1,⟨(zc8 d).2,false,[],[]⟩):=⟨_,rfl⟩;obtain⟨W,hW,q,bp,bz,hsz⟩:=ze2 w 113 54 [.pointer (some ⟨b,0,none⟩)] [.int .i64 0,.bool false,.slice none 0 0,.slice none 0 0];have eP:∀args w,(callFunc 98 args).run Tryz.prog w=.ok (.enter 98 args) w:=enters_of Tryz.func98 (by kernel_rfl) rfl;go_enter Tryz.func70,Tryz.ntmps70;go_upto_region 1 with(fail);rw[show(w.alloc (.cells #[.pointer (some ⟨b,0,none⟩)] 113)).alloc (.cells #[.int .i64 0,.bool false,.slice none 0 0,.slice none 0 0] 54)=W from hW.symm];clear hW;have r0:=bp.cell (i:=0) rfl;have hcl:=zg5 W (h.fit.below q) eP (cs:=#[.pointer (some ⟨w.heap.size,0,none⟩)]) (λV hV=>zrd V ((h.fit.below q).below hV) hs (bp.below hV bp.lt));rw[<-hr]at hcl;replace hr:=Lib.hid hr;go_wp2_with fail;refine hcl.mono ?_;clear hcl r0;rintro e w1 ⟨v,rfl,hR,hTu,hg⟩;obtain⟨va,vc,pa,pc,e9,_⟩:=id hR;subst e9;replace bz:=bz.other hg (λe=>by injection e with e;omega);have zq:=q.size;go_wp2_with(first|(refine zab (us:=[.int .i64 (r.2.err:Int),.bool r.2.found,.slice va r.2.val.length vc,.slice pa r.2.pairs.length pc]) (by kernel_rfl) rfl rfl rfl rfl rfl rfl bz rfl ?_;intro w3 hg3 hB)|fail);have d0:=hB.cell (i:=0) rfl;have d1:=hB.cell (i:=1) rfl;have d2:=hB.cell (i:=2) rfl;have d3:=hB.cell (i:=3) rfl;obtain⟨fs,hu,_⟩:=rpS.hu;refine zD (v:=.agg #[.int .i64 (r.2.err:Int),.bool r.2.found,.slice va r.2.val.length vc,.slice pa r.2.pairs.length pc]) (by simp[results,Tryz.results70,go_sem,loadVar,isAgg,zr hu,zaa rpS.hs,loadCellsFrom,Addr.add,d0,d1,d2,d3]) rfl ?_;rw[show(((zc8 d).1,⟨(zc8 d).2,false,[],[]⟩):Dl×Rp)=r from hr.out.symm];exact zga q ⟨by omega,by omega⟩ hb h.out hR hTu hg hg3
theorem zrc(w:World){D:Nat}{S:Nat->Prop}{b:Nat}{d:Dl}{T:Sto}{s:Int}{x:Tx}(h:Tu D S w b d T s x)(hs:smD d):Calls Tryz.prog 71 #[.pointer (some ⟨b,0,none⟩)] w (zfv D S w b T s x ((zc0 d x.n).1,⟨(zc0 d x.n).2,false,[],[]⟩)):=by
 have hb:=h.lt;obtain⟨r,hr⟩:∃r:Dl×Rp,r=((zc0 d x.n).1,⟨(zc0 d x.n).2,false,[],[]⟩):=⟨_,rfl⟩;obtain⟨W,hW,q,bp,bz,hsz⟩:=ze2 w 113 54 [.pointer (some ⟨b,0,none⟩)] [.int .i64 0,.bool false,.slice none 0 0,.slice none 0 0];have eP:∀args w,(callFunc 100 args).run Tryz.prog w=.ok (.enter 100 args) w:=enters_of Tryz.func100 (by kernel_rfl) rfl;go_enter Tryz.func71,Tryz.ntmps71;go_upto_region 1 with(fail);rw[show(w.alloc (.cells #[.pointer (some ⟨b,0,none⟩)] 113)).alloc (.cells #[.int .i64 0,.bool false,.slice none 0 0,.slice none 0 0] 54)=W from hW.symm];clear hW;have r0:=bp.cell (i:=0) rfl;have hcl:=zg5 W (h.fit.below q) eP (cs:=#[.pointer (some ⟨w.heap.size,0,none⟩)]) (λV hV=>zrf V ((h.fit.below q).below hV) hs (bp.below hV bp.lt));rw[<-hr]at hcl;replace hr:=Lib.hid hr;go_wp2_with fail;refine hcl.mono ?_;clear hcl r0;rintro e w1⟨v,rfl,hR,hTu,hg⟩;obtain⟨va,vc,pa,pc,e9,_⟩:=id hR;subst e9;replace bz:=bz.other hg (λe=>by injection e with e;omega);have zq:=q.size;go_wp2_with(first|(refine zab (us:=[.int .i64 (r.2.err:Int),.bool r.2.found,.slice va r.2.val.length vc,.slice pa r.2.pairs.length pc]) (by kernel_rfl) rfl rfl rfl rfl rfl rfl bz rfl ?_;intro w3 hg3 hB)|fail);have d0:=hB.cell (i:=0) rfl;have d1:=hB.cell (i:=1) rfl;have d2:=hB.cell (i:=2) rfl;have d3:=hB.cell (i:=3) rfl;obtain⟨fs,hu,_⟩:=rpS.hu;refine zD (v:=.agg #[.int .i64 (r.2.err:Int),.bool r.2.found,.slice va r.2.val.length vc,.slice pa r.2.pairs.length pc]) (by simp[results,Tryz.results71,go_sem,loadVar,isAgg,zr hu,zaa rpS.hs,loadCellsFrom,Addr.add,d0,d1,d2,d3]) rfl ?_;rw[show(((zc0 d x.n).1,⟨(zc0 d x.n).2,false,[],[]⟩):Dl×Rp)=r from hr.out.symm];exact zga q ⟨by omega,by omega⟩ hb h.out hR hTu hg hg3
theorem zkn (w:World){D:Nat}{S:Nat->Prop}{b:Nat}{d:Dl}{T:Sto}{s:Int}{x:Tx}(h:Tu D S w b d T s x):Calls Tryz.prog 72 #[.pointer (some ⟨b,0,none⟩)] w (zfv D S w b T s x (d,⟨0,false,[],[]⟩)):=by
 have hb:=h.lt;obtain⟨W,hW,q,bz,hsz⟩:=zeb w 54 [.int .i64 0,.bool false,.slice none 0 0,.slice none 0 0];go_enter Tryz.func72,Tryz.ntmps72;go_upto_region 1 with(fail);rw[show w.alloc (.cells #[.int .i64 0,.bool false,.slice none 0 0,.slice none 0 0] 54)=W from hW.symm];clear hW;obtain⟨r,hr⟩:∃r:Dl×Rp,r=(d,⟨0,false,[],[]⟩):=⟨_,rfl⟩;go_wp2_with(first|(refine zab (us:=[.int .i64 0,.bool false,.slice none 0 0,.slice none 0 0]) (by kernel_rfl) rfl rfl rfl rfl rfl rfl bz rfl ?_;intro w3 hg3 hB)|fail);have d0:=hB.cell (i:=0) rfl;have d1:=hB.cell (i:=1) rfl;have d2:=hB.cell (i:=2) rfl;have d3:=hB.cell (i:=3) rfl;obtain⟨fs,hu,_⟩:=rpS.hu;refine zD (v:=.agg #[.int .i64 0,.bool false,.slice none 0 0,.slice none 0 0]) (by simp[results,Tryz.results72,go_sem,loadVar,isAgg,zr hu,zaa rpS.hs,loadCellsFrom,Addr.add,d0,d1,d2,d3]) rfl ?_;exact zga q ⟨by omega,by omega⟩ hb h.out ⟨none,0,none,0,rfl,RdS.nil _ _,RdL.nil _ _ _⟩ (zfv.same (h.fit.below q) (ze _ _)) (zdl (ze _ _) _) hg3
theorem zsw (w:World){D:Nat}{S:Nat->Prop}{b:Nat}{d:Dl}{T:Sto}{s:Int}{x:Tx}(h:Tu D S w b d T s x) (hs:smD d) (hf:fitS T):Calls Tryz.prog 65 #[.pointer (some ⟨b,0,none⟩)] w (zfv D S w b T s x (d,⟨0,(valS d T s x).2,(valS d T s x).1,[]⟩)):=by
 have hb:=h.lt;obtain⟨W,hW,q,bz,hsz⟩:=zeb w 54 [.int .i64 0,.bool false,.slice none 0 0,.slice none 0 0];go_enter Tryz.func65,Tryz.ntmps65;go_upto_region 1 with(fail);rw[show w.alloc (.cells #[.int .i64 0,.bool false,.slice none 0 0,.slice none 0 0] 54)=W from hW.symm];clear hW;obtain⟨g,hg0⟩:∃g,g=valS d T s x:=⟨_,rfl⟩;have hcl:=zio W (h.fit.below q) hs hf;rw[<-hg0]at hcl;replace hg0:=Lib.hid hg0;go_wp2_with fail;refine hcl.mono ?_;rintro e w1 ⟨ga,gc,rfl,hgv,hb1⟩;clear hcl;have zb1:=hb1.size;replace bz:=bz.below hb1 bz.lt;have zq:=q.size;have hTu:=zfv.same (h.fit.below q) hb1;have hg:=zdl hb1 (some b);go_wp2_with(first|(refine zab (us:=[.int .i64 0,.bool g.2,.slice ga g.1.length gc,.slice none 0 0]) (by kernel_rfl) rfl rfl rfl rfl rfl rfl bz rfl ?_;intro w3 hg3 hB)|fail);have d0:=hB.cell (i:=0) rfl;have d1:=hB.cell (i:=1) rfl;have d2:=hB.cell (i:=2) rfl;have d3:=hB.cell (i:=3) rfl;obtain⟨fs,hu,_⟩:=rpS.hu;refine zD (v:=.agg #[.int .i64 0,.bool g.2,.slice ga g.1.length gc,.slice none 0 0]) (by simp[results,Tryz.results65,go_sem,loadVar,isAgg,zr hu,zaa rpS.hs,loadCellsFrom,Addr.add,d0,d1,d2,d3]) rfl ?_;rw[<-hg0.out];exact zga q ⟨by omega,by omega⟩ hb h.out ⟨ga,gc,none,0,rfl,hgv,RdL.nil _ _ _⟩ hTu hg hg3
def insR(d:Dl)(T:Sto)(s:Int)(x:Tx):Dl×Rp:=if(valS d T s x).2=true then(d,⟨150,false,[],[]⟩)else putX d ⟨x.table,x.key,false,x.val⟩
def remR (d:Dl)(T:Sto)(s:Int)(x:Tx):Dl×Rp:=if(valS d T s x).2=true then putX d ⟨x.table,x.key,true,[]⟩else(d,⟨151,false,[],[]⟩)
section
variable {o : Oper} {a : Act} {K : Act → World → Prop} {Q : Exit → Act → World → Prop} {w : World}
theorem zq3{x y z:Operand}{t:Int}{a1 b1:Option Addr}{n c m d:Nat}(ho:o.op=.build 62 #[(0,x),(1,y),(3,z)])(hx:a.eval x=.int .i64 t)(hy:a.eval y=.slice a1 n c)(hz:a.eval z=.slice b1 m d)(h:K (a.put o.dst (.agg #[.int .i64 t,.slice a1 n c,.bool false,.slice b1 m d])) w):o.wp Tryz.prog a w K Q:=by
 refine zcb ?_ h;simp only[execOp,ho,zE,zn,zo,hx,hy,hz];simp[go_sem]
theorem zq4{x y z:Operand}{t:Int}{a1:Option Addr}{n c:Nat}(ho:o.op=.build 62 #[(0,x),(1,y),(2,z)])(hx:a.eval x=.int .i64 t)(hy:a.eval y=.slice a1 n c)(hz:a.eval z=.bool true)(h:K (a.put o.dst (.agg #[.int .i64 t,.slice a1 n c,.bool true,.slice none 0 0])) w):o.wp Tryz.prog a w K Q:=by
 refine zcb ?_ h;simp only[execOp,ho,zE,zn,zo,hx,hy,hz];simp[go_sem]
end
def WrJ(D:Nat)(S:Nat->Prop)(W:World)(b N:Nat)(T:Sto)(s:Int)(x:Tx)(r:Dl×Rp)(U:Value):List Value->World->Prop
 |[],V=>Below W.heap.size W V
 |[u],V=>Below W.heap.size W V/\u=U
 |[_,v],V=>RdRp (λk=>W.heap.size<=k/\k<V.heap.size) V v r.2/\Tu D (λk=>S k\/(W.heap.size<=k/\k<V.heap.size)) V b r.1 T s x/\W.grownBy V (some b)
 |_,V=>∃v w1,RdRp (λk=>W.heap.size<=k/\k<w1.heap.size) w1 v r.2/\Tu D (λk=>S k\/(W.heap.size<=k/\k<w1.heap.size)) w1 b r.1 T s x/\W.grownBy w1 (some b)/\w1.grownBy V (some N)/\∃va vc pa pc,v=.agg #[.int .i64 (r.2.err:Int),.bool r.2.found,.slice va r.2.val.length vc,.slice pa r.2.pairs.length pc]/\BoxN V N 54 [.int .i64 (r.2.err:Int),.bool r.2.found,.slice va r.2.val.length vc,.slice pa r.2.pairs.length pc]
theorem WrJ.below{D:Nat}{S:Nat->Prop}{W:World}{b N:Nat}{T:Sto}{s:Int}{x:Tx}{r:Dl×Rp}{U:Value}:∀(l:List Value)(V V':World),WrJ D S W b N T s x r U l V->Below V.heap.size V V'->WrJ D S W b N T s x r U l V'
 |[],_,_,h,hb=>y8 h (hb.mono (y9 h))
 |[_],_,_,⟨h,e⟩,hb=>⟨h.trans (hb.mono h.size),e⟩
 |[_,_],_,_,⟨h1,h2,h3⟩,hb=>⟨(h1.below hb).weak λ_ hk=>⟨hk.1,zm hk.2 hb.size⟩,(h2.below hb).weak (λ_ hk=>hk.imp id λh=>⟨h.1,zm h.2 hb.size⟩) (λe=>h2.out (e.imp id λh=>⟨h.1,h2.lt⟩)),zbg h3 (za4 hb _)⟩
 |_::_::_::_,_,_,⟨v,w1,h1,h2,h3,h4,va,vc,pa,pc,e,h5⟩,hb=>⟨v,w1,h1,h2,h3,zbg h4 (za4 hb _),va,vc,pa,pc,e,h5.below hb h5.lt⟩
theorem zl6 (w:World){D:Nat}{S:Nat->Prop}{b:Nat}{d:Dl}{T:Sto}{s:Int}{x:Tx}(h:Tu D S w b d T s x) (hs:smD d) (h1:x.key.length<=1000000) (h2:x.val.length<=1000000):Calls Tryz.prog 66 #[.pointer (some ⟨b,0,none⟩)] w (zfv D S w b T s x (putX d ⟨x.table,x.key,false,x.val⟩)):=by
 have hb:=h.lt;obtain⟨W,hW,q,bz,hsz⟩:=zeb w 54 [.int .i64 0,.bool false,.slice none 0 0,.slice none 0 0];go_enter Tryz.func66,Tryz.ntmps66;go_upto_region 1 with(fail);rw[show w.alloc (.cells #[.int .i64 0,.bool false,.slice none 0 0,.slice none 0 0] 54)=W from hW.symm];clear hW;obtain⟨r,hr⟩:∃r:Dl×Rp,r=putX d ⟨x.table,x.key,false,x.val⟩:=⟨_,rfl⟩;have eP:∀args w,(callFunc 94 args).run Tryz.prog w=.ok (.enter 94 args) w:=enters_of Tryz.func94 (by kernel_rfl) rfl;have hW0:=h.fit.below q;have hfb:=hW0;obtain⟨a,c,a2,c2,aS,mS,cS,kA,hA,vA,kC,hC,vC,bt,hd,hT,hk,hh,hv,ht,hSb,hDb⟩:=hW0;have hcl:=λ(V:World) (hV:Below W.heap.size W V)=>ziq V (y:=⟨x.table,x.key,false,x.val⟩) (hfb.below hV) hs (S2:=λk=>S k/\k<w.heap.size) ⟨kA,kC,vA,vC,rfl,hk.below hV,hv.below hV,ht.2.1⟩ (by omega) (by omega)
 rw[<-hr]at hcl;replace hr:=Lib.hid hr;obtain⟨W1,hW1⟩:∃V,V=W:=⟨_,rfl⟩;obtain⟨N,hN⟩:∃n,n=w.heap.size:=⟨_,rfl⟩;rw[<-hW1]at hcl bz bt;rw[<-hN]at bz;rw[<-hW1,<-hN];have hbN:b≠N:=by omega
 replace hW1:=Lib.hid hW1;replace hN:=Lib.hid hN;refine zai (K:=λ_ _=>True) (by kernel_rfl) (by kernel_rfl) [16,17,18] (by kernel_rfl) [lEq (.pointer (some ⟨b,0,none⟩)),lEq (.pointer (some ⟨b,0,none⟩)),lEq (.pointer (some ⟨b,0,none⟩)),lEq (.pointer (some ⟨b,0+15,none⟩)),lEq (.pointer (some ⟨b,0+15+1,none⟩)),lEq (.int .i64 x.table),lEq (.pointer (some ⟨b,0,none⟩)),lEq (.pointer (some ⟨b,0,none⟩)),lEq (.pointer (some ⟨b,0+15,none⟩)),lEq (.pointer (some ⟨b,0+15+2,none⟩)),lEq (.slice kA x.key.length kC),lEq (.pointer (some ⟨b,0,none⟩)),lEq (.pointer (some ⟨b,0,none⟩)),lEq (.pointer (some ⟨b,0+15,none⟩)),lEq (.pointer (some ⟨b,0+15+5,none⟩)),lEq (.slice vA x.val.length vC),lAny,lAny,lAny] (WrJ D (λk=>S k/\k<w.heap.size) W1 b N T s x r (.agg #[.int .i64 x.table,.slice kA x.key.length kC,.bool false,.slice vA x.val.length vC])) WrJ.below (show Below W1.heap.size W1 W1 from ze _ _)
  ⟨?o0,?o1,?o2,?o3,?o4,?o5,?o6,?o7,?o8,?o9,?o10,?o11,?o12,?o13,?o14,?o15,?o16,?o17,?o18,trivial⟩ ?fin
 case o0=>
  refine LnOp.sd (λA va w' k hF hT hk hJ hb hu hp hd=>?_);have e1:=hF 0 rfl;exact zu _ rfl ⟨_,rfl,e1,ze _ _⟩
 case o1=>
  refine LnOp.sd (λA va w' k hF hT hk hJ hb hu hp hd=>?_);have e1:=hF 0 rfl;exact zu _ rfl ⟨_,rfl,e1,ze _ _⟩
 case o2=>
  refine LnOp.sd (λA va w' k hF hT hk hJ hb hu hp hd=>?_);have e1:=(hT 4 1 (by simp) rfl).trans (hd ⟨1,.data⟩ (by simp) rfl rfl);exact zcc rfl (e1) ⟨_,rfl,rfl,ze _ _⟩
 case o3=>
  refine LnOp.sd (λA va w' k hF hT hk hJ hb hu hp hd=>?_);have e1:=(hT 5 2 (by simp) rfl).trans (hd ⟨2,.data⟩ (by simp) rfl rfl);exact za6 tuF3 rfl (e1) ⟨_,rfl,rfl,ze _ _⟩
 case o4=>
  refine LnOp.sd (λA va w' k hF hT hk hJ hb hu hp hd=>?_);have e1:=(hT 6 3 (by simp) rfl).trans (hd ⟨3,.data⟩ (by simp) rfl rfl);exact zaf txS rfl (e1) (by omega) ⟨_,rfl,rfl,ze _ _⟩
 case o5=>
  refine LnOp.sd (λA va w' k hF hT hk hJ hb hu hp hd=>?_);have e1:=(hT 7 4 (by simp) rfl).trans (hd ⟨4,.data⟩ (by simp) rfl rfl);obtain rfl:k=0:=by have:=hb 0 16 rfl (by kernel_rfl);omega
  have hJ0:Below W1.heap.size W1 w':=hJ;exact zbv (k:=.i64) rfl e1 (by kernel_rfl) ((bt.below hJ0 bt.lt).cell (i:=16) rfl) ⟨_,rfl,rfl,ze _ _⟩
 case o6=>
  refine LnOp.sd (λA va w' k hF hT hk hJ hb hu hp hd=>?_);have e1:=hF 0 rfl;exact zu _ rfl ⟨_,rfl,e1,ze _ _⟩
 case o7=>
  refine LnOp.sd (λA va w' k hF hT hk hJ hb hu hp hd=>?_);have e1:=(hT 9 6 (by simp) rfl).trans (hd ⟨6,.data⟩ (by simp) rfl rfl);exact zcc rfl (e1) ⟨_,rfl,rfl,ze _ _⟩
 case o8=>
  refine LnOp.sd (λA va w' k hF hT hk hJ hb hu hp hd=>?_);have e1:=(hT 10 7 (by simp) rfl).trans (hd ⟨7,.data⟩ (by simp) rfl rfl);exact za6 tuF3 rfl (e1) ⟨_,rfl,rfl,ze _ _⟩
 case o9=>
  refine LnOp.sd (λA va w' k hF hT hk hJ hb hu hp hd=>?_);have e1:=(hT 11 8 (by simp) rfl).trans (hd ⟨8,.data⟩ (by simp) rfl rfl);exact zaf txS rfl (e1) (by omega) ⟨_,rfl,rfl,ze _ _⟩
 case o10=>
  refine LnOp.sd (λA va w' k hF hT hk hJ hb hu hp hd=>?_);have e1:=(hT 12 9 (by simp) rfl).trans (hd ⟨9,.data⟩ (by simp) rfl rfl);obtain rfl:k=0:=by have:=hb 0 16 rfl (by kernel_rfl);omega
  have hJ0:Below W1.heap.size W1 w':=hJ;exact zae (e:=5) rfl e1 (by kernel_rfl) ((bt.below hJ0 bt.lt).cell (i:=17) rfl) ⟨_,rfl,rfl,ze _ _⟩
 case o11=>
  refine LnOp.sd (λA va w' k hF hT hk hJ hb hu hp hd=>?_);have e1:=hF 0 rfl;exact zu _ rfl ⟨_,rfl,e1,ze _ _⟩
 case o12=>
  refine LnOp.sd (λA va w' k hF hT hk hJ hb hu hp hd=>?_);have e1:=(hT 14 11 (by simp) rfl).trans (hd ⟨11,.data⟩ (by simp) rfl rfl);exact zcc rfl (e1) ⟨_,rfl,rfl,ze _ _⟩
 case o13=>
  refine LnOp.sd (λA va w' k hF hT hk hJ hb hu hp hd=>?_);have e1:=(hT 15 12 (by simp) rfl).trans (hd ⟨12,.data⟩ (by simp) rfl rfl);exact za6 tuF3 rfl (e1) ⟨_,rfl,rfl,ze _ _⟩
 case o14=>
  refine LnOp.sd (λA va w' k hF hT hk hJ hb hu hp hd=>?_);have e1:=(hT 16 13 (by simp) rfl).trans (hd ⟨13,.data⟩ (by simp) rfl rfl);exact zaf txS rfl (e1) (by omega) ⟨_,rfl,rfl,ze _ _⟩
 case o15=>
  refine LnOp.sd (λA va w' k hF hT hk hJ hb hu hp hd=>?_);have e1:=(hT 17 14 (by simp) rfl).trans (hd ⟨14,.data⟩ (by simp) rfl rfl);obtain rfl:k=0:=by have:=hb 0 16 rfl (by kernel_rfl);omega
  have hJ0:Below W1.heap.size W1 w':=hJ;exact zae (e:=5) rfl e1 (by kernel_rfl) ((bt.below hJ0 bt.lt).cell (i:=20) rfl) ⟨_,rfl,rfl,ze _ _⟩
 case o16=>
  refine LnOp.line 0 rfl rfl (λA va w' hF hT hJ hu hd=>?_);have e1:=(hT 8 5 (by simp) rfl).trans (hd ⟨5,.data⟩ (by simp) rfl rfl);have e2:=(hT 13 10 (by simp) rfl).trans (hd ⟨10,.data⟩ (by simp) rfl rfl);have e3:=(hT 18 15 (by simp) rfl).trans (hd ⟨15,.data⟩ (by simp) rfl rfl);have hJ0:Below W1.heap.size W1 w':=hJ;exact zq3 rfl e1 e2 e3 ⟨_,rfl,⟨hJ0,rfl⟩,trivial⟩
 case o17=>
  refine LnOp.line 1 rfl rfl (λA va w' hF hT hJ hu hd=>?_);have e1:=(hT 3 0 (by simp) rfl).trans (hd ⟨0,.data⟩ (by simp) rfl rfl);have x2:A.eval (.tmp 19)=va 16:=hT 19 16 (by simp) rfl;obtain⟨hJ0,eU⟩:=hJ;have e2:=x2.trans eU;refine zah rfl eP (args:=#[.pointer (some ⟨b,0,none⟩),.agg #[.int .i64 x.table,.slice kA x.key.length kC,.bool false,.slice vA x.val.length vC]]) (by simp only[zE,zn,zo,e1,e2]) ((hcl w' hJ0).mono ?_);rintro e w2 ⟨v,rfl,hR,hTu,hg⟩;exact⟨_,rfl,v,rfl,⟨hR.weak λk hk=>⟨zv hJ0.size hk.1,hk.2⟩,hTu.weak (λk hk=>hk.imp id λh=>⟨zv hJ0.size h.1,h.2⟩) (λe=>e.elim hSb λe=>by have:=bt.lt;omega),zbg (zdl hJ0 _) hg⟩,trivial⟩
 case o18=>
  refine LnOp.line 2 rfl rfl (λA va w' hF hT hJ hu hd=>?_);have e1:=hF 2 rfl;have x2:A.eval (.tmp 20)=va 17:=hT 20 17 (by simp) rfl;obtain⟨hR,hTu,hg⟩:=hJ;obtain⟨va,vc,pa,pc,e9,hv9⟩:=id hR;refine za3 (us:=[.int .i64 (r.2.err:Int),.bool r.2.found,.slice va r.2.val.length vc,.slice pa r.2.pairs.length pc]) (by kernel_rfl) rfl e1 (x2.trans e9) rfl (bz.other hg (λe=>by injection e with e;exact hbN e)) rfl (λw2 hg2 hB2=>?_);exact⟨_,rfl,⟨_,_,hR,hTu,hg,hg2,va,vc,pa,pc,e9,hB2⟩,trivial⟩
 case fin=>
  intro vs1 W9 hJ hG;obtain⟨v,w1,hR,hTu,hg,hg3,va,vc,pa,pc,e9,hB⟩:=hJ;subst e9;have g0:vs1 0=.pointer (some ⟨b,0,none⟩):=hG 0 (by decide) rfl;have g1:vs1 1=.pointer (some ⟨b,0,none⟩):=hG 1 (by decide) rfl;have g2:vs1 2=.pointer (some ⟨b,0,none⟩):=hG 2 (by decide) rfl;have g3:vs1 3=.pointer (some ⟨b,0+15,none⟩):=hG 3 (by decide) rfl;have g4:vs1 4=.pointer (some ⟨b,0+15+1,none⟩):=hG 4 (by decide) rfl;have g5:vs1 5=.int .i64 x.table:=hG 5 (by decide) rfl;have g6:vs1 6=.pointer (some ⟨b,0,none⟩):=hG 6 (by decide) rfl;have g7:vs1 7=.pointer (some ⟨b,0,none⟩):=hG 7 (by decide) rfl;have g8:vs1 8=.pointer (some ⟨b,0+15,none⟩):=hG 8 (by decide) rfl;have g9:vs1 9=.pointer (some ⟨b,0+15+2,none⟩):=hG 9 (by decide) rfl;have g10:vs1 10=.slice kA x.key.length kC:=hG 10 (by decide) rfl;have g11:vs1 11=.pointer (some ⟨b,0,none⟩):=hG 11 (by decide) rfl;have g12:vs1 12=.pointer (some ⟨b,0,none⟩):=hG 12 (by decide) rfl;have g13:vs1 13=.pointer (some ⟨b,0+15,none⟩):=hG 13 (by decide) rfl;have g14:vs1 14=.pointer (some ⟨b,0+15+5,none⟩):=hG 14 (by decide) rfl;have g15:vs1 15=.slice vA x.val.length vC:=hG 15 (by decide) rfl;simp only[zaj,g0,g1,g2,g3,g4,g5,g6,g7,g8,g9,g10,g11,g12,g13,g14,g15];clear hG g0 g1 g2 g3 g4 g5 g6 g7 g8 g9 g10 g11 g12 g13 g14 g15;go_simp;have d0:=hB.cell (i:=0) rfl;have d1:=hB.cell (i:=1) rfl;have d2:=hB.cell (i:=2) rfl;have d3:=hB.cell (i:=3) rfl;go_wp2_with fail;obtain⟨fs,hu,_⟩:=rpS.hu;refine zD (v:=.agg #[.int .i64 (r.2.err:Int),.bool r.2.found,.slice va r.2.val.length vc,.slice pa r.2.pairs.length pc]) (by simp[results,Tryz.results66,go_sem,loadVar,isAgg,zr hu,zaa rpS.hs,loadCellsFrom,Addr.add,d0,d1,d2,d3]) rfl ?_;rw[show putX d ⟨x.table,x.key,false,x.val⟩=r from hr.out.symm];have hW1:=hW1.out;have hN:=hN.out;subst hW1 hN;exact zga q ⟨by omega,by omega⟩ hb h.out hR hTu hg hg3
theorem zl7(w:World){D:Nat}{S:Nat->Prop}{b:Nat}{d:Dl}{T:Sto}{s:Int}{x:Tx}(h:Tu D S w b d T s x)(hs:smD d)(hf:fitS T)(h1:x.key.length<=1000000)(h2:x.val.length<=1000000):Calls Tryz.prog 67 #[.pointer (some ⟨b,0,none⟩)] w (zfv D S w b T s x (insR d T s x)):=by
 have hb:=h.lt;obtain⟨W,hW,q,bz,hsz⟩:=zeb w 54 [.int .i64 0,.bool false,.slice none 0 0,.slice none 0 0];go_enter Tryz.func67,Tryz.ntmps67;go_upto_region 1 with(fail);rw[show w.alloc (.cells #[.int .i64 0,.bool false,.slice none 0 0,.slice none 0 0] 54)=W from hW.symm];clear hW;obtain⟨g,hg0⟩:∃g,g=valS d T s x:=⟨_,rfl⟩;have hcl:=zio W (h.fit.below q) hs hf;rw[<-hg0]at hcl;replace hg0:=Lib.hid hg0;go_wp2_with fail;refine hcl.mono ?_;rintro e w1 ⟨ga,gc,rfl,hgv,hb1⟩;clear hcl;have zb1:=hb1.size;replace bz:=bz.below hb1 bz.lt;obtain⟨g1,g2⟩:=g;have zq:=q.size;have hW1:=zfv.same (h.fit.below q) hb1;have q1:=q.trans (hb1.mono q.size);cases g2 with
 |true=>
  go_wp2_with(first|(refine zab (us:=[.int .i64 150,.bool false,.slice none 0 0,.slice none 0 0]) (by kernel_rfl) rfl rfl rfl rfl rfl rfl bz rfl ?_;intro w3 hg3 hB)|fail);have d0:=hB.cell (i:=0) rfl;have d1:=hB.cell (i:=1) rfl;have d2:=hB.cell (i:=2) rfl;have d3:=hB.cell (i:=3) rfl;obtain⟨fs,hu,_⟩:=rpS.hu;refine zD (v:=.agg #[.int .i64 150,.bool false,.slice none 0 0,.slice none 0 0]) (by simp[results,Tryz.results67,go_sem,loadVar,isAgg,zr hu,zaa rpS.hs,loadCellsFrom,Addr.add,d0,d1,d2,d3]) rfl ?_;rw[show insR d T s x=(d,⟨150,false,[],[]⟩)by unfold insR;rw[<-hg0.out];rfl];exact zga q ⟨by omega,by omega⟩ hb h.out (r:=(d,⟨150,false,[],[]⟩)) ⟨none,0,none,0,rfl,RdS.nil _ _,RdL.nil _ _ _⟩ hW1 (zdl hb1 (some b)) hg3
 |false=>
  obtain⟨r,hr⟩:∃r:Dl×Rp,r=putX d ⟨x.table,x.key,false,x.val⟩:=⟨_,rfl⟩;have hcl:=zl6 w1 ((h.fit.below q).below hb1) hs h1 h2;rw[<-hr]at hcl;replace hr:=Lib.hid hr;go_wp2_with fail;refine hcl.mono ?_;rintro e w2 ⟨v,rfl,hR,hTu,hg⟩;obtain⟨va,vc,pa,pc,e9,_⟩:=id hR;subst e9;replace bz:=bz.other hg (λe=>by injection e with e;omega);go_wp2_with(first|(refine zab (us:=[.int .i64 (r.2.err:Int),.bool r.2.found,.slice va r.2.val.length vc,.slice pa r.2.pairs.length pc]) (by kernel_rfl) rfl rfl rfl rfl rfl rfl bz rfl ?_;intro w3 hg3 hB)|fail);have d0:=hB.cell (i:=0) rfl;have d1:=hB.cell (i:=1) rfl;have d2:=hB.cell (i:=2) rfl;have d3:=hB.cell (i:=3) rfl;obtain⟨fs,hu,_⟩:=rpS.hu;refine zD (v:=.agg #[.int .i64 (r.2.err:Int),.bool r.2.found,.slice va r.2.val.length vc,.slice pa r.2.pairs.length pc]) (by simp[results,Tryz.results67,go_sem,loadVar,isAgg,zr hu,zaa rpS.hs,loadCellsFrom,Addr.add,d0,d1,d2,d3]) rfl ?_;rw[show insR d T s x=r by unfold insR;rw[<-hg0.out,hr.out];rfl];exact zga q1 ⟨by omega,by omega⟩ hb h.out hR hTu hg hg3
theorem zl5 (w:World){D:Nat}{S:Nat->Prop}{b:Nat}{d:Dl}{T:Sto}{s:Int}{x:Tx}(h:Tu D S w b d T s x) (hs:smD d) (hf:fitS T) (h1:x.key.length<=1000000):Calls Tryz.prog 68 #[.pointer (some ⟨b,0,none⟩)] w (zfv D S w b T s x (remR d T s x)):=by
 have hb:=h.lt;obtain⟨W,hW,q,bz,hsz⟩:=zeb w 54 [.int .i64 0,.bool false,.slice none 0 0,.slice none 0 0];go_enter Tryz.func68,Tryz.ntmps68;go_upto_region 1 with(fail);rw[show w.alloc (.cells #[.int .i64 0,.bool false,.slice none 0 0,.slice none 0 0] 54)=W from hW.symm];clear hW;have eP:∀args w,(callFunc 94 args).run Tryz.prog w=.ok (.enter 94 args) w:=enters_of Tryz.func94 (by kernel_rfl) rfl;obtain⟨g,hg0⟩:∃g,g=valS d T s x:=⟨_,rfl⟩;have hcl:=zio W (h.fit.below q) hs hf;rw[<-hg0]at hcl;replace hg0:=Lib.hid hg0;go_wp2_with fail;refine hcl.mono ?_;rintro e w1 ⟨ga,gc,rfl,hgv,hb1⟩;clear hcl;have zb1:=hb1.size;replace bz:=bz.below hb1 bz.lt;obtain⟨g1,g2⟩:=g;have zq:=q.size;have hW1:=zfv.same (h.fit.below q) hb1;have q1:=q.trans (hb1.mono q.size);cases g2 with
 |false=>
  go_wp2_with(first|(refine zab (us:=[.int .i64 151,.bool false,.slice none 0 0,.slice none 0 0]) (by kernel_rfl) rfl rfl rfl rfl rfl rfl bz rfl ?_;intro w3 hg3 hB)|fail);have d0:=hB.cell (i:=0) rfl;have d1:=hB.cell (i:=1) rfl;have d2:=hB.cell (i:=2) rfl;have d3:=hB.cell (i:=3) rfl;obtain⟨fs,hu,_⟩:=rpS.hu;refine zD (v:=.agg #[.int .i64 151,.bool false,.slice none 0 0,.slice none 0 0]) (by simp[results,Tryz.results68,go_sem,loadVar,isAgg,zr hu,zaa rpS.hs,loadCellsFrom,Addr.add,d0,d1,d2,d3]) rfl ?_;rw[show remR d T s x=(d,⟨151,false,[],[]⟩)by unfold remR;rw[<-hg0.out];rfl];exact zga q ⟨by omega,by omega⟩ hb h.out (r:=(d,⟨151,false,[],[]⟩)) ⟨none,0,none,0,rfl,RdS.nil _ _,RdL.nil _ _ _⟩ hW1 (zdl hb1 (some b)) hg3
 |true=>
  go_upto_region 4 with(fail);obtain⟨r,hr⟩:∃r:Dl×Rp,r=putX d ⟨x.table,x.key,true,[]⟩:=⟨_,rfl⟩;have hW0:=(h.fit.below q).below hb1;have hfb:=hW0;obtain⟨a,c,a2,c2,aS,mS,cS,kA,hA,vA,kC,hC,vC,bt,hd,hT,hk,hh,hv,ht,hSb,hDb⟩:=hW0;have hcl:=λ(V:World) (hV:Below w1.heap.size w1 V)=>ziq V (y:=⟨x.table,x.key,true,[]⟩) (hfb.below hV) hs (S2:=λk=>S k/\k<w.heap.size) ⟨kA,kC,none,0,rfl,hk.below hV,RdS.nil _ _,ht.2.1⟩ (by omega) (by simp)
  rw[<-hr]at hcl;replace hr:=Lib.hid hr;obtain⟨W1,hW1⟩:∃V,V=w1:=⟨_,rfl⟩;obtain⟨N,hN⟩:∃n,n=w.heap.size:=⟨_,rfl⟩;rw[<-hW1]at hcl bz bt;rw[<-hN]at bz;rw[<-hW1,<-hN];have hbN:b≠N:=by omega
  replace hW1:=Lib.hid hW1;replace hN:=Lib.hid hN;refine zai (K:=λ_ _=>True) (by kernel_rfl) (by kernel_rfl) [11,12,13] (by kernel_rfl) [lEq (.pointer (some ⟨b,0,none⟩)),lEq (.pointer (some ⟨b,0,none⟩)),lEq (.pointer (some ⟨b,0,none⟩)),lEq (.pointer (some ⟨b,0+15,none⟩)),lEq (.pointer (some ⟨b,0+15+1,none⟩)),lEq (.int .i64 x.table),lEq (.pointer (some ⟨b,0,none⟩)),lEq (.pointer (some ⟨b,0,none⟩)),lEq (.pointer (some ⟨b,0+15,none⟩)),lEq (.pointer (some ⟨b,0+15+2,none⟩)),lEq (.slice kA x.key.length kC),lAny,lAny,lAny] (WrJ D (λk=>S k/\k<w.heap.size) W1 b N T s x r (.agg #[.int .i64 x.table,.slice kA x.key.length kC,.bool true,.slice none 0 0])) WrJ.below (show Below W1.heap.size W1 W1 from ze _ _)
   ⟨?o0,?o1,?o2,?o3,?o4,?o5,?o6,?o7,?o8,?o9,?o10,?o11,?o12,?o13,trivial⟩ ?fin
  case o0=>
   refine LnOp.sd (λA va w' k hF hT hk hJ hb hu hp hd=>?_);have e1:=hF 0 rfl;exact zu _ rfl ⟨_,rfl,e1,ze _ _⟩
  case o1=>
   refine LnOp.sd (λA va w' k hF hT hk hJ hb hu hp hd=>?_);have e1:=hF 0 rfl;exact zu _ rfl ⟨_,rfl,e1,ze _ _⟩
  case o2=>
   refine LnOp.sd (λA va w' k hF hT hk hJ hb hu hp hd=>?_);have e1:=(hT 14 1 (by simp) rfl).trans (hd ⟨1,.data⟩ (by simp) rfl rfl);exact zcc rfl (e1) ⟨_,rfl,rfl,ze _ _⟩
  case o3=>
   refine LnOp.sd (λA va w' k hF hT hk hJ hb hu hp hd=>?_);have e1:=(hT 15 2 (by simp) rfl).trans (hd ⟨2,.data⟩ (by simp) rfl rfl);exact za6 tuF3 rfl (e1) ⟨_,rfl,rfl,ze _ _⟩
  case o4=>
   refine LnOp.sd (λA va w' k hF hT hk hJ hb hu hp hd=>?_);have e1:=(hT 16 3 (by simp) rfl).trans (hd ⟨3,.data⟩ (by simp) rfl rfl);exact zaf txS rfl (e1) (by omega) ⟨_,rfl,rfl,ze _ _⟩
  case o5=>
   refine LnOp.sd (λA va w' k hF hT hk hJ hb hu hp hd=>?_);have e1:=(hT 17 4 (by simp) rfl).trans (hd ⟨4,.data⟩ (by simp) rfl rfl);obtain rfl:k=0:=by have:=hb 0 11 rfl (by kernel_rfl);omega
   have hJ0:Below W1.heap.size W1 w':=hJ;exact zbv (k:=.i64) rfl e1 (by kernel_rfl) ((bt.below hJ0 bt.lt).cell (i:=16) rfl) ⟨_,rfl,rfl,ze _ _⟩
  case o6=>
   refine LnOp.sd (λA va w' k hF hT hk hJ hb hu hp hd=>?_);have e1:=hF 0 rfl;exact zu _ rfl ⟨_,rfl,e1,ze _ _⟩
  case o7=>
   refine LnOp.sd (λA va w' k hF hT hk hJ hb hu hp hd=>?_);have e1:=(hT 19 6 (by simp) rfl).trans (hd ⟨6,.data⟩ (by simp) rfl rfl);exact zcc rfl (e1) ⟨_,rfl,rfl,ze _ _⟩
  case o8=>
   refine LnOp.sd (λA va w' k hF hT hk hJ hb hu hp hd=>?_);have e1:=(hT 20 7 (by simp) rfl).trans (hd ⟨7,.data⟩ (by simp) rfl rfl);exact za6 tuF3 rfl (e1) ⟨_,rfl,rfl,ze _ _⟩
  case o9=>
   refine LnOp.sd (λA va w' k hF hT hk hJ hb hu hp hd=>?_);have e1:=(hT 21 8 (by simp) rfl).trans (hd ⟨8,.data⟩ (by simp) rfl rfl);exact zaf txS rfl (e1) (by omega) ⟨_,rfl,rfl,ze _ _⟩
  case o10=>
   refine LnOp.sd (λA va w' k hF hT hk hJ hb hu hp hd=>?_);have e1:=(hT 22 9 (by simp) rfl).trans (hd ⟨9,.data⟩ (by simp) rfl rfl);obtain rfl:k=0:=by have:=hb 0 11 rfl (by kernel_rfl);omega
   have hJ0:Below W1.heap.size W1 w':=hJ;exact zae (e:=5) rfl e1 (by kernel_rfl) ((bt.below hJ0 bt.lt).cell (i:=17) rfl) ⟨_,rfl,rfl,ze _ _⟩
  case o11=>
   refine LnOp.line 0 rfl rfl (λA va w' hF hT hJ hu hd=>?_);have e1:=(hT 18 5 (by simp) rfl).trans (hd ⟨5,.data⟩ (by simp) rfl rfl);have e2:=(hT 23 10 (by simp) rfl).trans (hd ⟨10,.data⟩ (by simp) rfl rfl);have hJ0:Below W1.heap.size W1 w':=hJ;exact zq4 rfl e1 e2 rfl ⟨_,rfl,⟨hJ0,rfl⟩,trivial⟩
  case o12=>
   refine LnOp.line 1 rfl rfl (λA va w' hF hT hJ hu hd=>?_);have e1:=(hT 13 0 (by simp) rfl).trans (hd ⟨0,.data⟩ (by simp) rfl rfl);have x2:A.eval (.tmp 24)=va 11:=hT 24 11 (by simp) rfl;obtain⟨hJ0,eU⟩:=hJ;have e2:=x2.trans eU;refine zah rfl eP (args:=#[.pointer (some ⟨b,0,none⟩),.agg #[.int .i64 x.table,.slice kA x.key.length kC,.bool true,.slice none 0 0]]) (by simp only[zE,zn,zo,e1,e2]) ((hcl w' hJ0).mono ?_);rintro e w2 ⟨v,rfl,hR,hTu,hg⟩;exact⟨_,rfl,v,rfl,⟨hR.weak λk hk=>⟨zv hJ0.size hk.1,hk.2⟩,hTu.weak (λk hk=>hk.imp id λh=>⟨zv hJ0.size h.1,h.2⟩) (λe=>e.elim hSb λe=>by have:=bt.lt;omega),zbg (zdl hJ0 _) hg⟩,trivial⟩
  case o13=>
   refine LnOp.line 2 rfl rfl (λA va w' hF hT hJ hu hd=>?_);have e1:=hF 2 rfl;have x2:A.eval (.tmp 25)=va 12:=hT 25 12 (by simp) rfl;obtain⟨hR,hTu,hg⟩:=hJ;obtain⟨va,vc,pa,pc,e9,hv9⟩:=id hR;refine za3 (us:=[.int .i64 (r.2.err:Int),.bool r.2.found,.slice va r.2.val.length vc,.slice pa r.2.pairs.length pc]) (by kernel_rfl) rfl e1 (x2.trans e9) rfl (bz.other hg (λe=>by injection e with e;exact hbN e)) rfl (λw2 hg2 hB2=>?_);exact⟨_,rfl,⟨_,_,hR,hTu,hg,hg2,va,vc,pa,pc,e9,hB2⟩,trivial⟩
  case fin=>
   intro vs1 W9 hJ hG;obtain⟨v,w1,hR,hTu,hg,hg3,va,vc,pa,pc,e9,hB⟩:=hJ;subst e9;have g0:vs1 0=.pointer (some ⟨b,0,none⟩):=hG 0 (by decide) rfl;have g1:vs1 1=.pointer (some ⟨b,0,none⟩):=hG 1 (by decide) rfl;have g2:vs1 2=.pointer (some ⟨b,0,none⟩):=hG 2 (by decide) rfl;have g3:vs1 3=.pointer (some ⟨b,0+15,none⟩):=hG 3 (by decide) rfl;have g4:vs1 4=.pointer (some ⟨b,0+15+1,none⟩):=hG 4 (by decide) rfl;have g5:vs1 5=.int .i64 x.table:=hG 5 (by decide) rfl;have g6:vs1 6=.pointer (some ⟨b,0,none⟩):=hG 6 (by decide) rfl;have g7:vs1 7=.pointer (some ⟨b,0,none⟩):=hG 7 (by decide) rfl;have g8:vs1 8=.pointer (some ⟨b,0+15,none⟩):=hG 8 (by decide) rfl;have g9:vs1 9=.pointer (some ⟨b,0+15+2,none⟩):=hG 9 (by decide) rfl;have g10:vs1 10=.slice kA x.key.length kC:=hG 10 (by decide) rfl;simp only[zaj,g0,g1,g2,g3,g4,g5,g6,g7,g8,g9,g10];clear hG g0 g1 g2 g3 g4 g5 g6 g7 g8 g9 g10;go_simp;have d0:=hB.cell (i:=0) rfl;have d1:=hB.cell (i:=1) rfl;have d2:=hB.cell (i:=2) rfl;have d3:=hB.cell (i:=3) rfl;go_wp2_with fail;obtain⟨fs,hu,_⟩:=rpS.hu;refine zD (v:=.agg #[.int .i64 (r.2.err:Int),.bool r.2.found,.slice va r.2.val.length vc,.slice pa r.2.pairs.length pc]) (by simp[results,Tryz.results68,go_sem,loadVar,isAgg,zr hu,zaa rpS.hs,loadCellsFrom,Addr.add,d0,d1,d2,d3]) rfl ?_;rw[show remR d T s x=r by unfold remR;rw[<-hg0.out,hr.out];rfl];have hW1:=hW1.out;have hN:=hN.out;subst hW1 hN;exact zga q1 ⟨by omega,by omega⟩ hb h.out hR hTu hg hg3
theorem zr9{ws:List Wr}{n:Nat}{v:Wr}(hv:ws[n]?=some v)(h:∀j w,n<j->ws[j]?=some w->w.plc≠v.plc):zjx ws v.plc=some v:=by
  induction ws using zkp with
  |h0=>cases hv
  |h1 ws u ih=>
    rw[zhh];have hn:=(yI.1 hv).1;simp only[zC,zI,zM]at hn;by_cases e:n=ws.length
    · subst e
      rw[xw (zf _),wk]at hv;simp at hv;rw[hv,zi rfl]
    · rw[zh (h ws.length u (by omega) (by rw[xw (zf _),wk];rfl))]
      rw[xu (by omega)]at hv;refine ih hv λj w hj hw=>h j w hj ?_
      rw[xu (yI.1 hw).1];exact hw
theorem zow{ws:List Wr}{w:Wr}(h:w∈ws):∃v,zjx ws w.plc=some v/\v∈zcy ws:=by
 cases hf:zjx ws w.plc with
 |none=>exact absurd rfl (zdg.1 hf w (List.mem_reverse.2 h))
 |some v=>exact⟨v,rfl,(zdf ((zgw ws _).trans hf)).1⟩
theorem zof{ws:List Wr}{ps:List Plc}(hs:SrtE ltP id ps)(hm:∀p,p∈ps↔∃w∈ws,w.plc=p):ps=(zcy ws).map Wr.plc:=by
  have hs2:SrtE ltP id ((zcy ws).map Wr.plc):=List.pairwise_map.2 (zgv ws);refine zko totP hs hs2 λp=>?_
  have hmem:p∈ps↔p∈(zcy ws).map Wr.plc:=by
    rw[hm];constructor
    · rintro⟨w,hw,rfl⟩
      obtain⟨v,h1,h2⟩:=zow hw;exact xD.2 ⟨v,h2,(zdf h1).2⟩
    · intro h
      obtain⟨v,hv,e⟩:=xD.1 h;exact⟨v,zp6 hv,e⟩
  by_cases h:p∈ps
  ·rw[show p=id p from rfl,zft totP hs h,zft totP hs2 (hmem.1 h)]
  ·rw[zdg.2 λy hy e=>h (by rw[<-e];exact hy),zdg.2 λy hy e=>h (hmem.2 (by rw[<-e];exact hy))]
theorem zg1{w:World}{n:Nat}{S S2:Nat->Prop}{a a2:Option Addr}{k c k2 c2:Nat}{xs ys:List UInt8}(hx:RdS S w (.slice a k c) xs)(hy:RdS S2 w (.slice a2 k2 c2) ys):Calls Tryz.prog 56 #[.slice a k c,.slice a2 k2 c2] (w.drewN n) λe w''=>e=.returned (.int .i64 (Lib.compareBytes xs ys))/\∃m,w''=w.drewN m:=
 (zao (w.drewN n) (hx.keep λ_ _=>rfl) (hy.keep λ_ _=>rfl)).mono λ_ _ h=>⟨h.1,n,h.2.symm⟩
theorem zpd{l:List Pq}:SrtQ l↔∀j (h:j+1<l.length),ltB (l[j]'(by omega)).key (l[j+1]'h).key=true:=by
  constructor
  · intro h j hj
    exact srtE_get h (xX j) hj
  · intro h
    refine wX.2 λi j hi hj hij=>?_
    induction j with
    |zero=>omega
    |succ j ih=>
      by_cases e:i=j;·subst e;exact h i hj
      ·exact totB.tr (ih (by omega) (by omega)) (h j hj)
theorem rise_any(w:World){S:Nat->Prop}{a:Option Addr}{n c:Nat}{l:List Pq}(hl:RdL Elt.pq S w (.slice a n c) l):Calls Tryz.prog 126 #[.slice a n c] w λe w'=>e=.returned (.bool (decide (SrtQ l)))/\Below w.heap.size w w':=by
  obtain⟨rfl,hnc,hcm⟩:=hl.len;have hlm:l.length<=9223372036854775807:=by unfold maxLen at hcm;omega
  have q:=ze w.heap.size w;go_enter Tryz.func126,Tryz.ntmps126;go_upto_region 2 with(fail);go_loopw[3] (λiv wr=>∃j:Nat,iv=.int .i64 ((j:Int)+1)/\(j<l.length\/j=0)/\RowKit.Hid (∀i (h:i+1<l.length),i<j->ltB (l[i]'(by omega)).key (l[i+1]'h).key=true)/\Below w.heap.size w wr) (λi _=>l.length+1-(intOf i).toNat)
  case atStart=>exact⟨0,rfl,.inr rfl,Lib.hid (λi _ h=>absurd h (yH _)),q⟩
  case round=>
    clear q;obtain⟨j,rfl,hjl,hno,q⟩:=hrel;rcases zA (j+1) l.length with hlt|hge
    · have d1:decide ((j:Int)+1<(l.length:Int))=true:=zk (by omega)
      have d0:((j:Int)+1<(l.length:Int))=True:=eq_true (by omega);obtain⟨b,off,A,C,A2,C2,rfl,hb,c0,c1,hk1,hk2⟩:=(hl.below q).pq j (by omega);obtain⟨b',off',A',C',A2',C2',ee,hb',c0',c1',hk1',hk2'⟩:=(hl.below q).pq (j+1) hlt;obtain⟨rfl,rfl⟩:b=b'/\off=off':=by simpa using ee
      have hj9:(j:Int)<=9223372036854775806:=by omega
      have w0:IntKind.i64.wrap (j:Int)=(j:Int):=by rw[IntKind.wrap_i64];omega
      have ec:=Lib.hid (znk (l[j]'(by omega)).key (l[j+1]'hlt).key)
      obtain⟨k1,hk10⟩:∃k1,k1=(l[j]'(by omega)).key:=⟨_,rfl⟩
      obtain⟨k2,hk20⟩:∃k2,k2=(l[j+1]'hlt).key:=⟨_,rfl⟩
      have ej:((j+1:Nat):Int)=(j:Int)+1:=by omega
      rw[<-hk10]at c0 hk1 ec;rw[<-hk20]at c0' hk1' ec;have hnn:(0:Int)<=(j:Int)+1:=by omega
      have hj0:j<l.length:=by omega
      clear c1 c1' hk2 hk2' ej ee hb hb';cases h3:ltB k1 k2 with
      |true=>
        have d3:decide (0<=Lib.compareBytes k1 k2)=false:=by rw[ec.out,h3];rfl
        have H:=Lib.hid (show∀i (h:i+1<l.length),i<j+1->ltB (l[i]'(by omega)).key (l[i+1]'h).key=true fromλi h hi=>by
          by_cases e:i=j
          ·subst e;rw[<-hk10,<-hk20];exact h3
          ·exact hno.out i h (by omega))
        clear h3 hno ec hk10 hk20 hjl;go_upto_region 4 with(fail);go_quiet (exact zg1 hk1 hk1');go_wp2_with fail;go_roundw;case rel=>exact⟨j+1,by go_num,.inl hlt,H,Go.Proofs.YtkobhdllagbkhaaGreat.Below.drewN q _⟩
        case measure=>simp[intOf];omega
      |false=>
        have d3:decide (0<=Lib.compareBytes k1 k2)=true:=by rw[ec.out,h3];rfl
        have H:=Lib.hid (show decide (SrtQ l)=false from zj λh=>by
          have:=zpd.1 h j hlt;rw[<-hk10,<-hk20,h3]at this;cases this)
        clear h3 hno ec hk10 hk20 hjl;go_upto_region 4 with(fail);go_quiet (exact zg1 hk1 hk1');go_wp2_with fail;go_ret;exact⟨by rw[H.out];rfl,Go.Proofs.YtkobhdllagbkhaaGreat.Below.drewN q _⟩
    · have d1:decide ((j:Int)+1<(l.length:Int))=false:=zj (by omega)
      have d0:((j:Int)+1<(l.length:Int))=False:=eq_false (by omega);have H:=Lib.hid (show decide (SrtQ l)=true from zk (zpd.2 λi h=>hno.out i h (by omega)));clear hge hjl hno;go_wp2_with fail;go_ret;exact⟨by rw[H.out];rfl,q⟩
theorem in_any(w:World){S S2:Nat->Prop}{p v:Value}{u:Wr}{x:Sp}(hu:RdWr S w p u) (hx:RdSp S2 w v x):Calls Tryz.prog 128 #[p,v] w λe w'=>e=.returned (.bool (decide (u.table=x.table)&&inS x u.key))/\Below w.heap.size w w':=by
  obtain⟨a,c,a2,c2,rfl,hk,hv,ht⟩:=hu;obtain⟨a',c',a2',c2',rfl,hl,hh,ht'⟩:=hx;obtain⟨W,hW,q,bn,bm,hsz⟩:=zg2 w 62 67 [.int .i64 u.table,.slice a u.key.length c,.bool u.gone,.slice a2 u.val.length c2] [.int .i64 x.table,.slice a' x.lo.length c',.slice a2' x.hi.length c2',.bool x.isOpen];clear hsz;go_enter Tryz.func128,Tryz.ntmps128;go_upto_region 1 with(fail);rw[show(w.alloc (.cells #[.int .i64 u.table,.slice a u.key.length c,.bool u.gone,.slice a2 u.val.length c2] 62)).alloc (.cells #[.int .i64 x.table,.slice a' x.lo.length c',.slice a2' x.hi.length c2',.bool x.isOpen] 67)=W from hW.symm];clear hW;have b0:=bn.cell (i:=0) rfl;have b1:=bn.cell (i:=1) rfl;have f0:=bm.cell (i:=0) rfl;have f1:=bm.cell (i:=1) rfl;have f2:=bm.cell (i:=2) rfl;have f3:=bm.cell (i:=3) rfl;have r1:=hk.below q;have r2:=hl.below q;have r3:=hh.below q;by_cases h1:u.table=x.table
  · have d1:(u.table==x.table)=true:=zK.2 h1
    have d12:decide (u.table=x.table)=true:=zk h1;have d13:(u.table=x.table)=True:=eq_true h1;have e2:=Lib.hid (znk u.key x.lo);have e3:=Lib.hid (zfe u.key x.hi);cases h2:ltB u.key x.lo with
    |true=>
      have d2:decide (0<=Lib.compareBytes u.key x.lo)=false:=by rw[e2.out,h2];rfl
      have H:=Lib.hid (show(decide (u.table=x.table)&&inS x u.key)=false by unfold inS;simp[h2]);clear h1 h2;go_wp2_with fail;refine(zao _ r1 r2).mono ?_;rintro e w1 ⟨rfl,rfl⟩;go_wp2_with fail;go_ret;exact⟨by rw[H.out];rfl,q⟩
    |false=>
      have d2:decide (0<=Lib.compareBytes u.key x.lo)=true:=by rw[e2.out,h2];rfl
      cases h3:x.isOpen with
      |true=>
        rw[h3]at f3;have H:=Lib.hid (show(decide (u.table=x.table)&&inS x u.key)=true by unfold inS;simp[h1,h2,h3]);clear h1 h2 h3;go_wp2_with fail;refine(zao _ r1 r2).mono ?_;rintro e w1 ⟨rfl,rfl⟩;go_wp2_with fail;go_ret;exact⟨by rw[H.out];rfl,q⟩
      |false=>
        rw[h3]at f3;cases h4:ltB u.key x.hi with
        |true=>
          have d4:decide (Lib.compareBytes u.key x.hi<0)=true:=by rw[e3.out,h4]
          have H:=Lib.hid (show(decide (u.table=x.table)&&inS x u.key)=true by unfold inS;simp[h1,h2,h3,h4]);clear h1 h2 h3 h4;go_wp2_with fail;refine(zao _ r1 r2).mono ?_;rintro e w1 ⟨rfl,rfl⟩;go_wp2_with fail;refine(zao _ r1 r3).mono ?_;rintro e w2 ⟨rfl,rfl⟩;go_wp2_with fail;go_ret;exact⟨by rw[H.out];rfl,q⟩
        |false=>
          have d4:decide (Lib.compareBytes u.key x.hi<0)=false:=by rw[e3.out,h4]
          have H:=Lib.hid (show(decide (u.table=x.table)&&inS x u.key)=false by unfold inS;simp[h2,h3,h4]);clear h1 h2 h3 h4;go_wp2_with fail;refine(zao _ r1 r2).mono ?_;rintro e w1 ⟨rfl,rfl⟩;go_wp2_with fail;refine(zao _ r1 r3).mono ?_;rintro e w2⟨rfl,rfl⟩;go_wp2_with fail;go_ret;exact⟨by rw[H.out];rfl,q⟩
  · have d1:(u.table==x.table)=false:=zt.2 h1
    have d12:decide (u.table=x.table)=false:=zj h1;have H:=Lib.hid (show(decide (u.table=x.table)&&inS x u.key)=false by unfold inS;simp[h1]);clear h1;go_wp2_with fail;go_ret;exact⟨by rw[H.out];rfl,q⟩
def smQ (l:List Pq):Prop:=l.length<=1000000/\∀x∈l,x.key.length<=1000000/\x.val.length<=1000000
def PqEnd(w:World)(l:List Pq)(e:Ending)(w':World):Prop:=∃a c,e=.returned (.slice a l.length c)/\OwnL Elt.pq 72 w.heap.size w.heap.size w' (.slice a l.length c) l/\Below w.heap.size w w'
theorem zsc (w:World){S:Nat->Prop}{a:Option Addr}{n c:Nat}{l:List Pq}(hl:RdL Elt.pq S w (.slice a n c) l) (hs:smQ l):Calls Tryz.prog 125 #[.slice a n c] w (PqEnd w l):=by
  obtain⟨rfl,hnc,hcm⟩:=hl.len;obtain⟨hs1,hs2⟩:=hs;replace hl:=hl.fit;have eC:∀args w,(callFunc 60 args).run Tryz.prog w=.ok (.enter 60 args) w:=enters_of Tryz.func60 (by kernel_rfl) rfl;have q:=ze w.heap.size w;go_enter Tryz.func125,Tryz.ntmps125;go_upto_region 3 with(fail);go_loopw[3,8] (λov iv wr=>∃(k:Nat) (ad:Option Addr) (ko:Nat),iv=.int .i64 k/\k<=l.length/\ov=.slice ad (l.take k).length ko/\OwnL Elt.pq 72 w.heap.size w.heap.size wr (.slice ad (l.take k).length ko) (l.take k)/\Below w.heap.size w wr)(λ_ i _=>l.length-(intOf i).toNat)
  case atStart=>exact⟨0,none,0,rfl,zH _,rfl,OwnL.nil _ _ _ _ _,q⟩
  case round=>
    clear q;obtain⟨k,ad,ko,rfl,hkl,rfl,hO,q⟩:=hrel;rcases zA k l.length with hlt|hge
    · obtain⟨b,off,KA,KC,VA,VC,rfl,hb,c0,c1,hk1,hk2⟩:=(hl.below q).pq k hlt
      obtain⟨hx1,hx2⟩:=hs2 _ (zL hlt);have hsn:=Lib.hid (show l.take (k+1)=l.take k++[l[k]]from yZ hlt);obtain⟨x,ex⟩:∃x,x=l[k]:=⟨_,rfl⟩;obtain⟨xs,exs⟩:∃xs,xs=l.take k:=⟨_,rfl⟩;have hxl:xs.length<=1000000:=by rw[exs,zp];omega
      rw[<-ex]at c0 c1 hk1 hk2 hx1 hx2 hsn;rw[<-exs]at hO hsn;rw[<-exs];clear ex exs;go_upto_region 5 with(first|(refine za2 (vs:=[.slice none 0 0,.slice none 0 0]) (by kernel_rfl) rfl rfl ?_;intro wa hba hBa)|(refine zab (us:=[.slice KA x.key.length KC,.slice VA x.val.length VC]) (by kernel_rfl) rfl rfl rfl rfl rfl rfl hBa rfl ?_;intro W hgw hXW)|fail);go_simp;have hbw:Below wr.heap.size wr W:=hba.grown hgw hba.size λk hk=>by injection hk with hk;omega
      have qW:=q.trans (hbw.mono q.size);have hrr:∀k,Value.ownBlock (.slice ad xs.length ko)=some k->w.heap.size<=k/\k<wr.heap.size:=λk hk=>hO.block_lt k hk
      have hzw:=hbw.size;have hrW:∀k,Value.ownBlock (.slice ad xs.length ko)=some k->k<W.heap.size:=λk hk=>by have:=hrr k hk;omega
      have hS:∀k,(λ_=>False) k->some k≠Value.ownBlock (.slice ad xs.length ko):=λ_ h=>h.elim
      have hrS:∀k,Value.ownBlock (.slice ad xs.length ko)=some k->¬(S k/\k<w.heap.size):=λk hk h2=>by have:=hrr k hk;omega
      have hxr:Value.ownBlock (.slice ad xs.length ko)≠some wr.heap.size:=λe=>by have:=hrr _ e;omega
      replace hO:=hO.below hbw;replace hk1:=hk1.below hbw;replace hk2:=hk2.below hbw;have hlo:w.heap.size<=W.heap.size:=qW.size;clear c0 c1 hba hBa hgw hbw q hzw;refine zai (K:=λA B=>A.grownBy B (Value.ownBlock (.slice ad xs.length ko))) (by kernel_rfl) (by kernel_rfl) [9,10] (by kernel_rfl) [lEq (.slice ad xs.length ko),lEq (.pointer (some ⟨wr.heap.size,0+0,none⟩)),lEq (.slice KA x.key.length KC),aRd (W) (Value.ownBlock (.slice ad xs.length ko)) (λ_=>False) (x.key) hrW hS,lEq (.pointer (some ⟨wr.heap.size,0+1,none⟩)),lEq (.slice VA x.val.length VC),aRd (W) (Value.ownBlock (.slice ad xs.length ko)) (λ_=>False) (x.val) hrW hS,aElt Elt.pq (W) (Value.ownBlock (.slice ad xs.length ko)) (λ_=>False) (x) hrW hS,aRow Elt.pq 72 (W) (Value.ownBlock (.slice ad xs.length ko)) (λ_=>False) (x) hrW hS,lAny,lAny] (ApJ Elt.pq 72 (w.heap.size) (w.heap.size) (Value.ownBlock (.slice ad xs.length ko)) (W) (xs) [x]) ApJ.below (show Below (W).heap.size (W) (W)from ze _ _)
        ⟨?o0,?o1,?o2,?o3,?o4,?o5,?o6,?o7,?o8,?o9,?o10,trivial⟩ ?fin
      case o0=>
        refine LnOp.sd (λA va w' k hF hT hk hJ hb hu hp hd=>?_);have e1:A.eval (.tmp 3)=.slice ad xs.length ko:=(hT 3 10 (by simp) rfl).trans (hu 1 10 3 (hb 1 10 rfl (by kernel_rfl)) rfl rfl);exact zu _ rfl ⟨_,rfl,e1,ze _ _⟩
      case o1=>
        refine LnOp.sd (λA va w' k hF hT hk hJ hb hu hp hd=>?_);have e1:=hF 5 rfl;exact zaf pqS rfl (e1) (by omega) ⟨_,rfl,rfl,ze _ _⟩
      case o2=>
        refine LnOp.sd (λA va w' k hF hT hk hJ hb hu hp hd=>?_);have e1:=(hT 13 1 (by simp) rfl).trans (hd ⟨1,.data⟩ (by simp) rfl rfl);have hJg:(W).grownBy w' (Value.ownBlock (.slice ad xs.length ko)):=ApJ.grown hJ;exact zae (e:=5) rfl e1 (by kernel_rfl) ((hXW.other hJg hxr).cell (i:=0) rfl) ⟨_,rfl,rfl,ze _ _⟩
      case o3=>
        refine LnOp.sd (λA va w' k hF hT hk hJ hb hu hp hd=>?_);have e1:=(hT 14 2 (by simp) rfl).trans (hd ⟨2,.data⟩ (by simp) rfl rfl);have hJg:(W).grownBy w' (Value.ownBlock (.slice ad xs.length ko)):=ApJ.grown hJ;refine zah rfl eC (by simp only[zE,zn,zo,e1]) ((zby w' (hk1.grownR hJg hrS).rd (zf _) hx1).mono ?_);rintro e w2 ⟨ad',k',c',rfl,hf⟩;exact⟨_,rfl,_,rfl,hf.2.rdS.weak (λk hk=>⟨.inr (zv hJg.size hk.1),hk.2⟩),hf.1⟩
      case o4=>
        refine LnOp.sd (λA va w' k hF hT hk hJ hb hu hp hd=>?_);have e1:=hF 5 rfl;exact zaf pqS rfl (e1) (by omega) ⟨_,rfl,rfl,ze _ _⟩
      case o5=>
        refine LnOp.sd (λA va w' k hF hT hk hJ hb hu hp hd=>?_);have e1:=(hT 16 4 (by simp) rfl).trans (hd ⟨4,.data⟩ (by simp) rfl rfl);have hJg:(W).grownBy w' (Value.ownBlock (.slice ad xs.length ko)):=ApJ.grown hJ;exact zae (e:=5) rfl e1 (by kernel_rfl) ((hXW.other hJg hxr).cell (i:=1) rfl) ⟨_,rfl,rfl,ze _ _⟩
      case o6=>
        refine LnOp.sd (λA va w' k hF hT hk hJ hb hu hp hd=>?_);have e1:=(hT 17 5 (by simp) rfl).trans (hd ⟨5,.data⟩ (by simp) rfl rfl);have hJg:(W).grownBy w' (Value.ownBlock (.slice ad xs.length ko)):=ApJ.grown hJ;refine zah rfl eC (by simp only[zE,zn,zo,e1]) ((zby w' (hk2.grownR hJg hrS).rd (zf _) hx2).mono ?_);rintro e w2 ⟨ad',k',c',rfl,hf⟩;exact⟨_,rfl,_,rfl,hf.2.rdS.weak (λk hk=>⟨.inr (zv hJg.size hk.1),hk.2⟩),hf.1⟩
      case o7=>
        refine LnOp.sd (λA va w' k hF hT hk hJ hb hu hp hd=>?_);have x1:A.eval (.tmp 15)=va 3:=hT 15 3 (by simp) rfl;have y1:=hd ⟨3,.data⟩ (by simp) rfl rfl;have x2:A.eval (.tmp 18)=va 6:=hT 18 6 (by simp) rfl;have y2:=hd ⟨6,.data⟩ (by simp) rfl rfl;have z1:RdS (zgy (λ_=>False) (W) w') w' (va 3) (x.key):=y1;have z2:RdS (zgy (λ_=>False) (W) w') w' (va 6) (x.val):=y2;obtain⟨A1,C1,q1,_,_⟩:=z1.shape;obtain⟨A2,C2,q2,_,_⟩:=z2.shape;exact zly pqS rfl (x1.trans q1) (x2.trans q2) rfl rfl ⟨_,rfl,⟨_,rfl,_,_,rfl,q1▸z1,q2▸z2⟩,ze _ _⟩
      case o8=>
        refine LnOp.sd (λA va w' k hF hT hk hJ hb hu hp hd=>?_);have x1:A.eval (.tmp 19)=va 7:=hT 19 7 (by simp) rfl;have y1:=hd ⟨7,.data⟩ (by simp) rfl rfl;obtain rfl:k=0:=by have:=hb 0 9 rfl (by kernel_rfl);omega
        have hJ0:Below (W).heap.size (W) w':=hJ;obtain⟨us,eus,hR⟩:∃us:List Value,(va 7).cells=us.toArray/\Elt.R Elt.pq (zgy (λ_=>False) (W) w') w' (x) us:=y1;exact zba pqP rfl x1 eus (Elt.len _ hR) (by decide) (by decide) ⟨_,rfl,aRow.mk (hr:=hrW) (hS:=hS) hJ0.size hR,(ze _ _).alloc (zf _) _⟩
      case o9=>
        refine LnOp.line 0 rfl rfl (λA va w' hF hT hJ hu hd=>?_);have e1:=(hT 12 0 (by simp) rfl).trans (hd ⟨0,.data⟩ (by simp) rfl rfl);have x2:A.eval (.tmp 20)=va 8:=hT 20 8 (by simp) rfl;have y2:=hd ⟨8,.data⟩ (by simp) rfl rfl;exact wp_apv (hr:=hrW) (hS:=hS) pqP hJ rfl e1 x2 hO rfl y2 (λ_ h=>h.elim) hlo hlo (by omega) (λv' V' h1 h2=>⟨_,rfl,h1,h2⟩)
      case o10=>
        refine LnOp.line 1 rfl rfl (λA va w' hF hT hJ hu hd=>?_);have x1:A.eval (.tmp 21)=va 9:=hT 21 9 (by simp) rfl;have hJ':ApJ Elt.pq 72 (w.heap.size) (w.heap.size) (Value.ownBlock (.slice ad xs.length ko)) (W) (xs) [x] [va 9,A.eval (.tmp 21)] w':=⟨λu hu=>by obtain rfl:=yL.1 hu;exact x1,hJ.2⟩;exact yV _ rfl ⟨_,rfl,hJ',zdl (ze _ _) _⟩
      case fin=>
        intro vs1 W9 hJ hG;obtain⟨hsame,hg9,ad9,c9,e9,hO9⟩:=hJ;have ea:=hsame _ (yL.2 rfl);obtain⟨L9,hL9⟩:∃L9,L9=(xs++[x]).length:=⟨_,rfl⟩;rw[<-hL9]at e9 hO9;replace hL9:=Lib.hid hL9;have g0:vs1 0=.slice ad xs.length ko:=hG 0 (by decide) rfl;have g1:vs1 1=.pointer (some ⟨wr.heap.size,0+0,none⟩):=hG 1 (by decide) rfl;have g2:vs1 2=.slice KA x.key.length KC:=hG 2 (by decide) rfl;have g4:vs1 4=.pointer (some ⟨wr.heap.size,0+1,none⟩):=hG 4 (by decide) rfl;have g5:vs1 5=.slice VA x.val.length VC:=hG 5 (by decide) rfl;clear hG hsame;simp only[zaj,ea,e9,g0,g1,g2,g4,g5];clear ea e9 g0 g1 g2 g4 g5;go_simp;have q9:Below w.heap.size w W9:=qW.grown hg9 qW.size λk hk=>(hrr k hk).1
        clear hXW hO hk1 hk2 hg9;go_wp2_with fail;go_roundw;case rel=>
          have e:=hL9.out;rw[<-hsn.out]at e hO9;subst e;exact⟨k+1,ad9,c9,by go_num,by omega,rfl,hO9,q9⟩
        case measure=>simp[intOf];omega
    · obtain rfl:k=l.length:=by omega
      rw[yv]at hO;rw[yv];go_wp2_with fail;go_ret;exact⟨_,_,rfl,hO,q⟩
def lenOf:Value->Nat
 |.slice _ n _=>n
 |_=>0
def WsEnd(w:World)(l:List Wr)(e:Ending)(w':World):Prop:=∃a c,e=.returned (.slice a l.length c)/\OwnL Elt.wr 62 w.heap.size w.heap.size w' (.slice a l.length c) l/\Below w.heap.size w w'
theorem done_len(w:Wr)(l:List Pq):(zei w l).length<=l.length+1:=by
  unfold zei;split
  · have:=wi (λy:Pq=>decide (y.key≠w.key)) l
    unfold delE;omega
  · generalize (⟨w.key,w.val⟩:Pq)=x
    induction l with
    |nil=>simp[insE]
    |cons y l ih=>
      unfold insE;split
      ·simp
      · split
        ·simp
        · simpa using ih
theorem insert_p(w:World){v:Value}{n i b m:Nat}{vs us:List Value}(hv:RowQ 72 2 w v n vs)(hi:i<=n)(hn:n+m<=1000000)(hm:0<m)(hb:w.heap[b]?=some (.cells us.toArray 72 (0,0)))(hu:us.length=m*2)(hu1:∀u∈us,u.oneCell'=true)(hbg:v.ownBlock≠some b):Calls Tryz.prog 160 #[v,.int .i64 i,.slice (some ⟨b,0,none⟩) m m] w (zdo 72 2 w v (n+m) (vs.take (i*2)++us++vs.drop (i*2))):=
 zld pqP (by omega) (by unfold zgj;simp) w hv hi hn hm hb hu hu1 hbg
theorem pqs1:∀i z,Tryz.prog.info? 72=some i->i.zero=some z->∀u∈z.cells.toList,u.oneCell'=true:=zk7 (z0:=.agg #[.slice none 0 0,.slice none 0 0]) (by kernel_rfl) (λu hu=>by
 simp[Value.cells]at hu;subst hu;rfl)
theorem delete_p(w:World){v:Value}{n i:Nat}{j:Int}{vs:List Value}(hv:RowQ 72 2 w v n vs)(hi:i<n)(hj:j=(i:Int)+1)(hn:n<=1000000):Calls Tryz.prog 159 #[v,.int .i64 i,.int .i64 j] w (zdo 72 2 w v (n-1) (vs.take (i*2)++vs.drop ((i+1)*2))):=
 zlm pqP (by omega) pqs1 (by unfold zln;simp) w hv hi hj hn
def plcQ (l:List Pq)(k:List UInt8):Nat:=(l.takeWhile λx=>ltB x.key k).length
def isQ (l:List Pq)(k:List UInt8):Bool:=decide ((l[plcQ l k]?).map Pq.key=some k)
theorem ztl (l:List Pq)(k:List UInt8):plcQ l k<=l.length:=(List.takeWhile_prefix _).length_le
theorem ztk:∀{l:List Pq}{k:List UInt8},SrtQ l->∀i(h:i<l.length),ltB l[i].key k=decide (i<plcQ l k)
 |[],_,_,_,h=>absurd h (yH _)
 |x::r,k,hs,0,_=>by
  unfold plcQ;rw[xx];cases hx:ltB x.key k<;>simp[hx]
 |x::r,k,hs,i+1,h=>by
  obtain⟨h1,h2⟩:=yh.1 hs;have ih:=ztk (k:=k) h2 i (by simpa using h);unfold plcQ at ih⊢;rw[xx,List.getElem_cons_succ];cases hx:ltB x.key k with
  |true=>simpa using ih
  |false=>
   have hir:i<r.length:=by simpa using h
   cases hy:ltB (r[i]'hir).key k with
   |false=>simp
   |true=>rw[zbe (h1 _ (zL _)) hy]at hx;cases hx
theorem zug{p:Pq}:∀{l:List Pq},SrtQ l->insE ltB Pq.key p l=l.take (plcQ l p.key)++p::l.drop (if isQ l p.key=true then plcQ l p.key+1 else plcQ l p.key)
  |[],_=>by simp[insE,plcQ,isQ]
  |x::r,hs=>by
    obtain⟨h1,h2⟩:=yh.1 hs;have ih:=zug (p:=p) h2;unfold insE;by_cases e:p.key=x.key
    · have hx:ltB x.key p.key=false:=by rw[e];exact zbx _
      have hp:plcQ (x::r) p.key=0:=by unfold plcQ;rw[xx,hx];rfl
      have hi:isQ (x::r) p.key=true:=by unfold isQ;rw[hp];simp[e]
      rw[hp,hi,zi e];simp
    · rw[zh e]
      cases hx:ltB p.key x.key with
      |true=>
        have hx2:ltB x.key p.key=false:=zi7 hx;have hp:plcQ (x::r) p.key=0:=by unfold plcQ;rw[xx,hx2];rfl
        have hi:isQ (x::r) p.key=false:=by unfold isQ;rw[hp];simp;exactλh=>e h.symm
        rw[hp,hi,zi rfl];simp
      |false=>
        have hx2:ltB x.key p.key=true:=zcq e hx;have hp:plcQ (x::r) p.key=plcQ r p.key+1:=by unfold plcQ;rw[xx,hx2];simp
        have hi:isQ (x::r) p.key=isQ r p.key:=by unfold isQ;rw[hp];simp
        rw[hp,hi,zh (by simp),ih];split<;>simp
theorem zu3{k:List UInt8}:∀{l:List Pq},SrtQ l->delE Pq.key k l=if isQ l k=true then l.take (plcQ l k)++l.drop (plcQ l k+1)else l
  |[],_=>by simp[delE,isQ]
  |x::r,hs=>by
    obtain⟨h1,h2⟩:=yh.1 hs;have ih:=zu3 (k:=k) h2;have hc:delE Pq.key k (x::r)=if x.key=k then delE Pq.key k r else x::delE Pq.key k r:=by
      unfold delE;rw[wE];by_cases e:x.key=k<;>simp[e]
    rw[hc];have hno:∀y∈r,ltB k y.key=true->y.key≠k:=λy _ h e=>by rw[e,zbx]at h;cases h
    have hr:(∀y∈r,ltB k y.key=true)->delE Pq.key k r=r:=λh=>by
      unfold delE;rw[List.filter_eq_self];intro y hy;simpa using hno y hy (h y hy)
    by_cases e:x.key=k
    · have hx:ltB x.key k=false:=by rw[e];exact zbx _
      have hp:plcQ (x::r) k=0:=by unfold plcQ;rw[xx,hx];rfl
      have hi:isQ (x::r) k=true:=by unfold isQ;rw[hp];simp[e]
      rw[hp,hi,zi e,zi rfl,hr (λy hy=>by rw[<-e];exact h1 y hy)];simp
    · rw[zh e]
      cases hx:ltB x.key k with
      |false=>
        have hx2:ltB k x.key=true:=zcq e hx;have hp:plcQ (x::r) k=0:=by unfold plcQ;rw[xx,hx];rfl
        have hi:isQ (x::r) k=false:=by unfold isQ;rw[hp];simp[e]
        rw[hi,zh (by simp),hr (λy hy=>zbe hx2 (h1 y hy))]
      |true=>
        have hp:plcQ (x::r) k=plcQ r k+1:=by unfold plcQ;rw[xx,hx];simp
        have hi:isQ (x::r) k=isQ r k:=by unfold isQ;rw[hp];simp
        rw[hp,hi,ih];split<;>simp
theorem zqr (w:World){S S2:Nat->Prop}{A B:Option Addr}{x:Pq}{C D:Nat}{a2:Option Addr}{n2 c2:Nat}{k:List UInt8}(hx:RdS S w (.slice A x.key.length C) x.key)(hk:RdS S2 w (.slice a2 n2 c2) k):Calls Tryz.prog 158 #[.agg #[.slice A x.key.length C,.slice B x.val.length D],.slice a2 n2 c2] w λe w'=>e=.returned (.int .i64 (Lib.compareBytes x.key k))/\Below w.heap.size w w':=by
 obtain⟨W,hW⟩:∃W,W=w.alloc (.cells #[.slice A x.key.length C,.slice B x.val.length D] 72):=⟨_,rfl⟩;have q:Below w.heap.size w W:=by rw[hW];exact(ze _ _).alloc (zf _) _
 have bn:BoxN W w.heap.size 72 [.slice A x.key.length C,.slice B x.val.length D]:=by rw[hW];exact BoxN.new _ _ _
 go_enter Tryz.func158,Tryz.ntmps158;go_upto_region 1 with(fail);rw[<-hW];clear hW;have b0:=bn.cell (i:=0) rfl;go_wp2_with fail;refine(zao W (hx.below q) (hk.below q)).mono ?_;rintro e w1 ⟨rfl,rfl⟩;go_wp2_with fail;go_ret;exact⟨rfl,q⟩
theorem znn (w:World){S S2:Nat->Prop}{a a2:Option Addr}{n c n2 c2:Nat}{l:List Pq}{k:List UInt8}(hl:RdL Elt.pq S w (.slice a n c) l) (hk:RdS S2 w (.slice a2 n2 c2) k) (hn:n<=2000000) (hs:SrtQ l):Calls Tryz.prog 157 #[.slice a n c,.slice a2 n2 c2,.func (.func 158) #[] #[]] w λe w'=>e=.returned (.tuple #[.int .i64 (plcQ l k),.bool (isQ l k)])/\Below w.heap.size w w':=by
  obtain⟨m,hmq⟩:∃m,m=plcQ l k:=⟨_,rfl⟩;obtain⟨is,his0⟩:∃is,is=isQ l k:=⟨_,rfl⟩;have hm:m<=l.length:=by rw[hmq];exact ztl l k
  have h1:∀i(h:i<l.length),ltB l[i].key k=decide (i<m):=by rw[hmq];exact ztk hs
  have his:is=decide ((l[m]?).map Pq.key=some k):=by rw[his0,hmq];rfl
  rw[<-hmq,<-his0];clear hmq his0 hs;obtain⟨rfl,hnc,hcm⟩:=hl.len;have q:=ze w.heap.size w;have hEE:=enters_of Tryz.func158 (by kernel_rfl) rfl;go_enter Tryz.func157,Tryz.ntmps157;go_upto_region 3 with(fail);go_loopw[9,10] (λiv jv wr=>∃(i j:Nat),iv=.int .i64 i/\jv=.int .i64 j/\i<=m/\m<=j/\j<=l.length/\Below w.heap.size w wr)(λi j _=>(intOf j).toNat-(intOf i).toNat)
  case atStart=>exact⟨0,l.length,rfl,rfl,zH _,hm,zf _,q⟩
  case round=>
    clear q;obtain⟨i,j,rfl,rfl,him,hmj,hjn,q⟩:=hrel;rcases zA i j with hlt|hge
    · obtain⟨h,hh⟩:∃h:Nat,h=(i+j)/2:=⟨_,rfl⟩
      have e:((i:Int)+(j:Int))/2=(h:Int):=by omega
      have hih:i<=h:=by omega
      have hhj:h<j:=by omega
      clear hh;obtain⟨b,off,A,C,A2,C2,rfl,hb,c0,c1,hr,hr2⟩:=(hl.below q).pq h (by omega);have hlth:=h1 h (by omega);have hcl:=zfe l[h].key k;rw[hlth]at hcl;obtain⟨y,hy⟩:∃y,y=l[h]:=⟨_,rfl⟩;rw[<-hy]at hr hr2 c0 c1 hcl;clear hy hlth hb;go_wp2_with fail;clear e;refine(zqr wr hr (hk.below q)).mono ?_;rintro e w1⟨rfl,hb1⟩;replace q:=q.trans (hb1.mono q.size);clear c0 c1 hr hr2 hb1;rcases zA h m with h2|h2
      · rw[zk h2]at hcl
        go_wp2_with fail;go_roundw;case rel=>exact⟨h+1,j,by go_num,rfl,by omega,hmj,hjn,q⟩
        case measure=>simp[intOf];omega
      · rw[zj (by omega:¬h<m)]at hcl
        go_wp2_with fail;go_roundw;case rel=>exact⟨i,h,rfl,rfl,him,by omega,by omega,q⟩
        case measure=>simp[intOf];omega
    · obtain rfl:i=m:=by omega
      rcases zA i l.length with hlt|hge2
      · have d:decide ((i:Int)<(l.length:Int))=true:=zk (by omega)
        obtain⟨b,off,A,C,A2,C2,rfl,hb,c0,c1,hr,hr2⟩:=(hl.below q).pq i hlt;have hce:=zqs l[i].key k;have hans:decide ((l[i]?).map Pq.key=some k)=decide (l[i].key=k):=by rw[zB hlt];simp
        rw[hans,<-hce]at his;clear hans hce hb;generalize l[i]=y at hr hr2 c0 c1 his;have HI:=Lib.hid his;clear his;go_wp2_with fail;refine(zqr wr hr (hk.below q)).mono ?_;rintro e w1⟨rfl,hb1⟩;go_wp2_with fail;go_ret2;exact⟨by rw[HI.out];rfl,q.trans (hb1.mono q.size)⟩
      · have d:decide ((i:Int)<(l.length:Int))=false:=zj (by omega)
        have hans:decide ((l[i]?).map Pq.key=some k)=false:=by rw[wV hge2];simp
        rw[hans]at his;subst his;clear hans;go_wp2_with fail;go_ret2;exact⟨rfl,q⟩
section
variable {α : Type} {E : Elt α} {S : Nat → Prop} {w w' : World}
theorem Flat.dropF:∀{xs:List α}{vs:List Value}(_:Flat E S w xs vs)(k:Nat),Flat E S w (xs.drop k) (vs.drop (k*E.size))
 |[],_,h,k=>by cases h;simp[Flat]
 |x::xs,_,h,0=>by simpa using h
 |x::xs,_,⟨us,ws,rfl,h1,h2⟩,k+1=>by
  have hl:=E.len h1;rw[List.drop_succ_cons,show(k+1)*E.size=us.length+k*E.size by rw[hl,zT];omega,<-List.drop_drop,wO];exact Flat.dropF h2 k
theorem Flat.cut{xs:List α}{vs:List Value}(h:Flat E S w xs vs){m:Nat}(hm:m<xs.length):∃us,E.R S w xs[m] us/\vs=vs.take (m*E.size)++us++vs.drop ((m+1)*E.size)/\Flat E S w (xs.take m) (vs.take (m*E.size))/\Flat E S w (xs.drop (m+1)) (vs.drop ((m+1)*E.size)):=by
 have h1:=Flat.dropF h m;rw[yQ hm]at h1;obtain⟨us,ws,e,h2,h3⟩:=h1;have hl:=E.len h2;have e2:vs.drop ((m+1)*E.size)=ws:=by
  rw[show(m+1)*E.size=m*E.size+us.length by rw[hl,zT];omega,<-List.drop_drop,e,wO]
 refine⟨us,h2,?_,Flat.take h m,Flat.dropF h (m+1)⟩;rw[e2,zG,<-e,yz]
theorem OwnL.rowQ{Te:TypeId}{base lo:Nat}{v:Value}{xs:List α}(h:OwnL E Te base lo w v xs):∃vs,RowQ Te E.size w v xs.length vs/\Flat E (λk=>lo<=k/\k<w.heap.size/\some k≠v.ownBlock) w xs vs:=by
 obtain⟨vs,h1,h2⟩:=h;exact⟨vs,⟨⟨h1.1,h1.2.imp id λ⟨g,cap,cur,a,b,c⟩=>⟨g,cap,cur,a,zH _,c⟩⟩,h2.one⟩,h2⟩
theorem OwnL.rowTo{Te:TypeId}{base lo:Nat}{v v':Value}{xs xs':List α}{vs':List Value}{n':Nat}(h:OwnL E Te base lo w v xs)(hT:zci Te E.size w v n' vs' v' w')(hF:Flat E (λk=>lo<=k/\k<w.heap.size/\some k≠v.ownBlock) w xs' vs')(hn:n'=xs'.length)(hb:base<=w.heap.size):OwnL E Te base lo w' v' xs':=by
  obtain⟨hq,hg,hv⟩:=hT;subst hn;have hne:∀g,v'.ownBlock=some g->base<=g:=λg e2=>by
    rcases hv with hv|⟨k,hv,hk⟩
    ·exact(h.block_lt g (hv.symm.trans e2)).1
    ·rw[e2]at hv;injection hv with hv;omega
  refine⟨vs',⟨hq.1.1,?_⟩,(hF.keep λk hk=>hg.block k hk.2.1 hk.2.2).weak λk hk=>⟨hk.1,zm hk.2.1 hg.size,?_⟩⟩
  · rcases hq.1.2 with h1|⟨g,cap,cur,e,_,c⟩
    ·exact .inl h1
    ·exact .inr ⟨g,cap,cur,e,hne g (by rw[e];rfl),c⟩
  · rcases hv with hv|⟨j,hv,hj⟩
    ·rw[hv];exact hk.2.2
    ·rw[hv];intro e;injection e with e;omega
end
def zvo(w:World)(base lo:Nat)(r:Option Nat)(l:List Pq)(e:Ending)(w':World):Prop:=∃a c,e=.returned (.slice a l.length c)/\OwnL Elt.pq 72 base lo w' (.slice a l.length c) l/\w.grownBy w' r/\(Value.ownBlock (.slice a l.length c)=r\/∃k,Value.ownBlock (.slice a l.length c)=some k/\w.heap.size<=k)
theorem done_any(w:World){S:Nat->Prop}{base lo:Nat}{v p:Value}{cur:List Pq}{u:Wr}(hO:OwnL Elt.pq 72 base lo w v cur)(hs:SrtQ cur)(hn:cur.length<=999999)(hu:RdWr S w p u)(hS:∀k,S k->lo<=k/\k<w.heap.size/\some k≠v.ownBlock)(hbase:base<=w.heap.size):Calls Tryz.prog 129 #[v,p] w (zvo w base lo v.ownBlock (zei u cur)):=by
  obtain⟨KA,KC,VA,VC,rfl,hk,hv,ht⟩:=hu;have hob:=hO.block_lt;obtain⟨a,c,rfl⟩:=hO.shape;obtain⟨W,hW⟩:∃W,W=w.alloc (.cells #[.int .i64 u.table,.slice KA u.key.length KC,.bool u.gone,.slice VA u.val.length VC] 62):=⟨_,rfl⟩;have q:Below w.heap.size w W:=by rw[hW];exact(ze _ _).alloc (zf _) _
  have bn:BoxN W w.heap.size 62 [.int .i64 u.table,.slice KA u.key.length KC,.bool u.gone,.slice VA u.val.length VC]:=by rw[hW];exact BoxN.new _ _ _
  obtain⟨m,hmq⟩:∃m,m=plcQ cur u.key:=⟨_,rfl⟩;have hm:m<=cur.length:=by rw[hmq];exact ztl _ _
  have hins:=Lib.hid (zug (p:=⟨u.key,u.val⟩) hs);have hdel:=Lib.hid (zu3 (k:=u.key) hs);have hiq:isQ cur u.key=true->∃h:m<cur.length,cur[m].key=u.key:=λh=>by
    have h2:(cur[m]?).map Pq.key=some u.key:=by rw[hmq];exact wt h
    cases h3:cur[m]? with
    |none=>rw[h3]at h2;cases h2
    |some y=>
      obtain⟨h4,h5⟩:=yI.1 h3;rw[h3]at h2;injection h2 with h2;exact⟨h4,by rw[h5];exact h2⟩
  replace hS:=Lib.hid hS;replace hiq:=Lib.hid hiq;replace hob:=Lib.hid hob;go_enter Tryz.func129,Tryz.ntmps129;go_upto_region 1 with(fail);rw[<-hW];clear hW;have b1:=bn.cell (i:=1) rfl;go_wp2_with fail;refine(znn W ((hO.below q).rdL) (hk.below q) (by omega) hs).mono ?_;rintro e w1 ⟨rfl,hb1⟩;rw[<-hmq];replace hmq:=Lib.hid hmq;replace hs:=Lib.hid hs;have q1:=q.trans (hb1.mono q.size);have bn1:=bn.below hb1 bn.lt;have hO1:=hO.below q1;have hk1:=hk.below q1;have hv1:=hv.below q1;have hz1:=q1.size;have hzb:=bn.lt;have hzb1:=hb1.size;clear b1;have b1:=bn1.cell (i:=1) rfl;have b2:=bn1.cell (i:=2) rfl;have b3:=bn1.cell (i:=3) rfl;have hgr:=Lib.hid (show∀r,w.grownBy w1 r fromλr=>zdl q1 r);cases his:isQ cur u.key with
  |true=>
    obtain⟨hml,hkey⟩:=hiq.out his;cases hgo:u.gone with
    |true=>
      rw[hgo]at b2;have HD:=Lib.hid (show zei u cur=cur.take m++cur.drop (m+1)by unfold zei;rw[zi hgo,hdel.out,zi his,hmq.out]);clear his hgo hiq hkey;obtain⟨vs,hQ,hF⟩:=hO1.rowQ;go_wp2_with fail;refine(delete_p w1 hQ hml rfl (by omega)).mono ?_;rintro e w2 ⟨v',rfl,hT⟩;have hO2:=hO1.rowTo hT ((Flat.take hF m).append (Flat.dropF hF (m+1))) (by simp;omega) (by omega);have hg2:=hT.2.1;rw[<-HD.out]at hO2;obtain⟨a',c',rfl⟩:=hO2.shape;go_wp2_with fail;go_ret;exact⟨a',c',rfl,hO2,zhw (hgr.out _) hg2,hT.2.2.imp id λ⟨k,h1,h2⟩=>⟨k,h1,zv (hgr.out none).size h2⟩⟩
    |false=>
      rw[hgo]at b2;have HD:=Lib.hid (show zei u cur=cur.take m++⟨u.key,u.val⟩::cur.drop (m+1)by unfold zei;rw[zh (by rw[hgo];simp),hins.out,zi his,hmq.out]);replace hkey:=Lib.hid hkey;clear his hgo hiq;obtain⟨vs,h1,hF⟩:=hO1;obtain⟨g,cp,cells,ev,hbg,hgc,hnc,hcm,hcs,hct⟩:∃g cap cells,Value.slice a cur.length c=.slice (some ⟨g,0,none⟩) cur.length cap/\base<=g/\w1.heap[g]?=some (.cells cells 72 (0,0))/\cur.length<=cap/\cap<=maxLen/\cells.size=cap*2/\cells.toList.take (cur.length*2)=vs:=by
        rcases h1.2 with⟨_,h2⟩|h2
        ·omega
        ·exact h2
      obtain⟨rfl,rfl⟩:a=some ⟨g,0,none⟩/\c=cp:=by injection ev with e1 _ e3;exact⟨e1,e3⟩
      have hB:BoxN w1 g 72 cells.toList:=by unfold BoxN;rw[hgc]
      have hjl:m*2+1<cells.toList.length:=by rw[yo,hcs];omega
      have hvl:=Lib.hid (show vs.length=cur.length*2 from h1.1);replace h1:=Lib.hid h1;replace hct:=Lib.hid hct;replace hcs:=Lib.hid hcs;clear ev;go_wp2_with(first|(refine zc1 (vs:=cells.toList) (j:=m*2+1) (u:=.slice VA u.val.length VC) rfl rfl rfl (by kernel_rfl) rfl rfl rfl rfl hB hjl ?_;intro w2 hg2 hB2)|fail);go_ret;obtain⟨us,hR,hvs,hF1,hF2⟩:=hF.cut hml;obtain⟨kc,vc,rfl,hRk,hRv⟩:=hR;have hset:vs.set (m*2+1) (.slice VA u.val.length VC)=vs.take (m*2)++[kc,.slice VA u.val.length VC]++vs.drop ((m+1)*2):=by
        have e:(vs.take (m*2)).length=m*2:=by rw[zp];have:=hvl.out;omega
        conv=>lhs;rw[show vs=vs.take (m*2)++[kc,vc]++vs.drop ((m+1)*2)from hvs]
        rw[zG,List.set_append,zh (by omega),e,show m*2+1-m*2=1 by omega,zG];rfl
      have hne:∀k,lo<=k/\k<w1.heap.size/\some k≠Value.ownBlock (.slice (some ⟨g,0,none⟩) cur.length c)->w2.heap[k]?=w1.heap[k]?:=λk hk=>hg2.block k hk.2.1 hk.2.2
      have hsz2:=hg2.size;have hlen:(zei u cur).length=cur.length:=by rw[HD.out];simp;omega
      rw[zvo];refine⟨some ⟨g,0,none⟩,c,by rw[hlen];rfl,?_,zhw (hgr.out _) hg2,.inl rfl⟩;rw[hlen];refine⟨vs.set (m*2+1) (.slice VA u.val.length VC),⟨by rw[yR,hlen];exact h1.out.1,.inr ⟨g,c,(cells.toList.set (m*2+1) (.slice VA u.val.length VC)).toArray,by rw[hlen],hbg,hB2,by omega,hcm,?_,?_⟩⟩,?_⟩
      · rw[yj,yR,yo];exact hcs.out
      · rw[hlen,<-hct.out,List.take_set];rfl
      · rw[hset,HD.out]
        have hRn:Elt.pq.R (λk=>lo<=k/\k<w1.heap.size/\some k≠Value.ownBlock (.slice (some ⟨g,0,none⟩) cur.length c)) w1 ⟨u.key,u.val⟩ [kc,.slice VA u.val.length VC]:=⟨_,_,rfl,by rw[<-hkey.out];exact hRk,hv1.weak λk hk=>by
          have:=hS.out k hk;exact⟨this.1,by omega,this.2.2⟩⟩
        have hall:=(hF1.append ((Flat.single hRn).append hF2)).keep hne;rw[zG];exact hall.weak λk hk=>⟨hk.1,by omega,hk.2.2⟩
  |false=>
    cases hgo:u.gone with
    |true=>
      rw[hgo]at b2;have HD:=Lib.hid (show zei u cur=cur by unfold zei;rw[zi hgo,hdel.out,zh (by rw[his];simp)]);clear his hgo hiq;go_wp2_with fail;go_ret;rw[zvo,HD.out];exact⟨_,_,rfl,hO1,hgr.out _,.inl rfl⟩
    |false=>
      rw[hgo]at b2;have HD:=Lib.hid (show zei u cur=cur.take m++⟨u.key,u.val⟩::cur.drop m by unfold zei;rw[zh (by rw[hgo];simp),hins.out,zh (by rw[his];simp),hmq.out]);clear his hgo hiq;go_wp2_with(first|(refine zd9 pqP rfl rfl rfl (us:=[.slice KA u.key.length KC,.slice VA u.val.length VC]) rfl rfl (by decide) (by decide) ?_;intro w2 hb2 hrow)|fail);have hO2:=hO1.below hb2;obtain⟨vs,hQ,hF⟩:=hO2.rowQ;have hz2:=hb2.size;refine(insert_p w2 hQ hm (by omega) (by decide) hrow rfl (λy hy=>by
        simp only[zU,yJ,yK]at hy;rcases hy with rfl|rfl<;>rfl) (λe=>by have:=hob.out _ e;omega)).mono ?_
      rintro e w3 ⟨v',rfl,hT⟩;have hRn:Elt.pq.R (λk=>lo<=k/\k<w2.heap.size/\some k≠Value.ownBlock (.slice a cur.length c)) w2 ⟨u.key,u.val⟩ [.slice KA u.key.length KC,.slice VA u.val.length VC]:=⟨_,_,rfl,(hk1.below hb2).weak λk hk=>by
          have:=hS.out k hk;exact⟨this.1,by omega,this.2.2⟩,(hv1.below hb2).weak λk hk=>by
          have:=hS.out k hk;exact⟨this.1,by omega,this.2.2⟩⟩
      have hO3:=hO2.rowTo (xs':=cur.take m++⟨u.key,u.val⟩::cur.drop m) hT (by rw[zG];exact(Flat.take hF m).append ((Flat.single hRn).append (Flat.dropF hF m))) (by simp;omega) (by omega);have hg2:=hT.2.1;rw[<-HD.out]at hO3;obtain⟨a',c',rfl⟩:=hO3.shape;go_wp2_with fail;go_ret;exact⟨a',c',rfl,hO3,zhw (zhw (hgr.out _) (zdl hb2 _)) hg2,hT.2.2.imp id λ⟨k,h1,h2⟩=>⟨k,h1,zv (hgr.out none).size (zv hb2.size h2)⟩⟩
def klP (p:Plc):Lit:=.string (keyBytes [.int .i64 p.table,.string p.key])
def valP (p:Plc):Value:=.agg #[.int .i64 p.table,.string (zap p.key)]
theorem zo9{p q:Plc}(h:valP p=valP q):p=q:=by
 unfold valP at h;injection h with h;have h1:(Value.int .i64 p.table)=.int .i64 q.table:=by
  have:=congrArg (λa:Array Value=>a[0]?) h;simpa using this
 have h2:(Value.string (zap p.key))=.string (zap q.key):=by
  have:=congrArg (λa:Array Value=>a[1]?) h;simpa using this
 injection h1 with _ h1;injection h2 with h2;have h3:p.key=q.key:=by rw[<-show(zap p.key).toList=p.key by simp[zap],h2];simp[zap]
 cases p;cases q;simp_all
def wfP(p:Plc):Prop:=W64 p.table/\p.key.length<=maxLen
theorem zqa:WideMaps.KeyLaw Tryz.prog 180:=deep_law_laid (by kernel_rfl) (m:=2) (by omega) (wt (by kernel_rfl)) (by kernel_rfl) (by kernel_rfl)
theorem zp9:Keyed Tryz.prog 180:=Keyed.of_law zqa
theorem zvb:Tryz.prog.cellsOf 180=2:=by kernel_rfl
theorem cellsI:Tryz.prog.cellsOf 3=1:=by kernel_rfl
theorem cellsS:Tryz.prog.cellsOf 9=1:=by kernel_rfl
theorem wf_W64{n:Int}(h:W64 n):(Lit.int .i64 n).wf=true:=by
 unfold W64 at h;simp[Lit.wf,IntKind.min,IntKind.max,IntKind.signed,IntKind.bits];omega
theorem typesS:∃m,Tryz.prog.types.size=m+1:=⟨Tryz.prog.types.size-1,by have:0<Tryz.prog.types.size:=wt (by kernel_rfl);omega⟩
theorem zgx{p:Plc}(h:wfP p):keyOf Tryz.prog 180 (valP p)=some (klP p):=by
 have hkt:Tryz.prog.keyType 180=true:=by kernel_rfl
 obtain⟨m,hm⟩:=typesS;have hw:=wf_W64 h.1;have hk:(ByteArray.mk p.key.toArray).size<=maxLen:=by rw[show(ByteArray.mk p.key.toArray).size=p.key.length from rfl];exact h.2
 unfold keyOf;simp only[Tryz.underlying180];rw[zi (by simp[hkt,valP,Value.formed,Tryz.underlying180,zvb]),hm];unfold Program.keyLits;simp only[Tryz.underlying180,valP,Value.cells];rw[zi (by simp[zvb])];simp[Program.keyLits,cellsI,cellsS,Tryz.underlying3,Tryz.underlying9,hw,hk,klP,zap]
theorem zj5{v:Value}{l:Lit}(h:keyOf Tryz.prog 180 v=some l):∃p,v=valP p/\l=klP p/\wfP p:=by
  obtain⟨m,hm⟩:=typesS;unfold keyOf at h;simp only[Tryz.underlying180]at h;split at h
  · rename_i hf
    rw[hm]at h;unfold Program.keyLits at h;simp only[Tryz.underlying180]at h;split at h
    · rename_i hc
      rw[yk]at hf;obtain⟨xs,rfl⟩:∃xs,v=.agg xs:=by
        cases v<;>simp[Value.formed,Tryz.underlying180]at hf;exact⟨_,rfl⟩
      have hl:=hc.1;rw[zvb]at hl;obtain⟨xl⟩:=xs;match xl,hl with
      |[c0,c1],_=>
        simp only[Value.cells,wQ]at h;obtain⟨ls,⟨lls,h2,rfl⟩,rfl⟩:=h;simp[Program.keyLits,cellsI,cellsS,Tryz.underlying3,Tryz.underlying9]at h2;cases c0<;>simp at h2;rename_i a k n;split at h2
        · rename_i ha
          obtain⟨rfl,hw⟩:=ha;cases c1<;>simp at h2;rename_i s;split at h2
          · rename_i hs
            simp at h2;subst h2;refine⟨⟨k,s.data.toList⟩,by simp[valP,zap],by simp[klP],?_,hs⟩;simp[Lit.wf,IntKind.min,IntKind.max,IntKind.signed,IntKind.bits]at hw;show W64 k;unfold W64;omega
          ·simp at h2
        ·simp at h2
    ·cases h
  ·cases h
theorem zt8{p q:Plc}(hp:wfP p)(hq:wfP q)(h:klP p=klP q):p=q:=zo9 (zqa.inj (zgx hp) (h▸zgx hq))
attribute [local go_sem] xe
def zlt{H:Type}(D0:DataW H)(left:Lit->Bool)(ps:List Plc):Prop:=ps.Nodup/\(∀p∈ps,wfP p)/\∀p,wfP p->(p∈ps↔(has D0 (klP p)=true/\left (klP p)=false))
def zo4{H:Type}(D0:DataW H)(ps:List Plc):Prop:=ps.Nodup/\(∀p∈ps,wfP p)/\(∀p,wfP p->(p∈ps↔has D0 (klP p)=true))/\ps.length<=Maps.size D0
theorem zlt.start{H:Type}(D0:DataW H):zlt D0 (has D0) []:=⟨List.nodup_nil,⟨(λ_ h=>nomatch h),λx _=>by cases has D0 (klP x)<;>simp⟩⟩
theorem zlt.step{H:Type}{D0:DataW H}{left:Lit->Bool}{ps:List Plc}(h:zlt D0 left ps){x:Plc}{y:DataW H}(hx:wfP x) (hlk:left (klP x)=true) (hat:∀zd,D0.atKey (klP x) zd=y):zlt D0 (λz=>left z&&!z.sameKey (klP x)) (ps++[x]):=by
  have hhas:has D0 (klP x)=true:=has_true_of_atKey hat;have hnew:x∉ps:=λhm=>by have:=((h.2.2 x hx).1 hm).2;rw[hlk]at this;cases this
  refine⟨List.nodup_append.2 ⟨h.1,by simp,λa ha b hb=>by simp at hb;subst hb;exactλe=>hnew (e▸ha)⟩,λp hp=>?_,λy hy=>?_⟩
  · rcases zV.1 hp with h1|h1
    ·exact h.2.1 p h1
    · simp at h1;exact h1▸hx
  · by_cases e:y=x
    · subst e
      have hs:(klP y).sameKey (klP y)=true:=by simp[klP,Lit.sameKey]
      simp[hhas,hs]
    · have hne:(klP y).sameKey (klP x)=false:=sameKey_ne λh1=>e (zt8 hy hx h1)
      simp[h.2.2 y hy,e,hne]
theorem zlt.all{H:Type}{D0:DataW H}{left:Lit->Bool}{ps:List Plc}(h:zlt D0 left ps)(hl:∀kl,left kl=false)(hs:ps.length<=Maps.size D0):zo4 D0 ps:=⟨h.1,h.2.1,λp hp=>by rw[h.2.2 p hp,hl];simp,hs⟩
theorem zc6{W W':World}(h:Below W.heap.size W W'):W.grownBy W' none:=⟨h.os,h.tape,h.output,h.size,λk hk _=>h.block k hk⟩
section
variable {P : Program} {t : TypeId} {ops : Array Oper} {rest : List Oper} {o : Oper} {a : Act} {Q : Exit → Act → World → Prop} {w : World} {n : Nat}
theorem wp_opF {K K':Act->World->Prop}(hd:∀c,o.op≠.defer c) (hK:∀a w,K a w->K' a w) (h:o.wp P a w K Q):o.wpIn Fence.wide n P a w K' Q:=by
 replace h:=xO hK h;unfold Oper.wp at h;unfold Oper.wpIn;refine⟨λ_ _=>trivial,?_⟩;rw[Oper.semAt_plain Fence.wide _ _ hd];generalize (execOp a.eval o).run P w=r at*;cases r with
 |ok x w'=>
  cases x<;>simp only[Oper.upon,Oper.uponIn]at h⊢<;>first
   |exact h
   |exact h.elim
   |exact⟨(λh=>by cases h),xL.2 h⟩
   |exact⟨(λh=>by cases h),λc cs _=>let⟨v,w',r,s⟩:=h c cs;⟨v,w',r,stepsIn_wide.2 s⟩⟩
 |halt x w'=>cases x<;>simp only[Oper.upon,Oper.uponIn]at h⊢<;>first|exact h|exact h.elim
theorem zr8{vs:List Value}(hz:(P.info? t).bind (·.zero)=some (.agg vs.toArray))(ho:o.op=.alloc t)(hgd:Region.wanted o (yielded ops a.tmps)=true)(h:∀w',Below w.heap.size w w'->BoxN w' w.heap.size t vs->wpListIn Fence.wide n P ops Q rest (a.put o.dst (.pointer (some ⟨w.heap.size,0,none⟩))) w'):wpListIn Fence.wide n P ops Q (o::rest) a w:=
 BigFrame.wpListIn_want hgd λK hK=>wp_opF (K:=K) (by rw[ho];intro c h;cases h) (λ_ _ h=>h) (zgl hz ho λw' h1 h2=>hK _ _ (h w' h1 h2))
theorem zm6{vs us:List Value}{x y:Operand}{b:Nat}(hs:(P.info? t).map (·.size)=some us.length)(ho:o.op=.store t x y)(hd:o.dst=none)(hgd:Region.wanted o (yielded ops a.tmps)=true)(hx:a.eval x=.pointer (some ⟨b,0,none⟩))(hy:a.eval y=.agg us.toArray)(h1:us.all (·.oneCell')=true)(hb:BoxN w b t vs)(hl:vs.length=us.length)(h:∀w',w.grownBy w' (some b)->BoxN w' b t us->wpListIn Fence.wide n P ops Q rest a w'):wpListIn Fence.wide n P ops Q (o::rest) a w:=
 BigFrame.wpListIn_want hgd λK hK=>wp_opF (K:=K) (by rw[ho];intro c h;cases h) (λ_ _ h=>h) (za3 hs ho hx hy h1 hb hl λw' h3 h4=>hK _ _ (by rw[hd];exact h w' h3 h4))
end
theorem zub{H:Type}(l Bm b nn:Nat) (D0:DataW H){R:Value->Option (DataW H×List MemPlace)}(J Jx:List Plc->World->Prop)(hY:∀pre x W,J pre W->pre.length<Maps.size D0->YieldAt Fence.wide 1 Tryz.prog l #[valP x] W λe W'=>
      (e=.returned (.bool true)/\J (pre++[x]) W'/\KeepsWalks W W')\/(e=.returned (.bool false)/\Jx (pre++[x]) W'))
    (W:World) (hJ:AbidesFrom W.heap.size J) (hm:W.cell? ⟨Bm,0,none⟩=some (.map (some b))) (hown:W.ownsMap Tryz.prog 180 R b nn D0) (h0:J [] W):
    CallsIn Fence.wide 2 Tryz.prog 175 #[.func (.yield l) #[] #[],.pointer (some ⟨Bm,0,none⟩)] W λe W'=>(∃v,e=.returned v)/\((∃ps:List Plc,zo4 D0 ps/\J ps W')\/(∃pre:List Plc,True/\Jx pre W')):=by
  refine callsIn_of_wp Tryz.func175 rfl trivial ?_ rfl;simp only[Tryz.ntmps175,yj,zI,zM,Nat.reduceAdd,Nat.reduceSub,xz,xA,xB,xC,yw,ym];gi_wp2_with (first
    |(gi_at_range;refine wpListIn_range_own _ rfl _ 185 rfl 180 3 zp9 Tryz.underlying185 _ b nn _ rfl hown ?_;intro w0 hrg0 hg0 hs0)
    |gi_in)
  go_frame;gi_loopw [3] (λ_ wr=>∃(left:Lit->Bool)(cnt:Nat)(ps:List Plc),wr.ranges Tryz.prog 180 R b W.heap.size nn D0 left cnt/\ps.length+cnt<=Maps.size D0/\zlt D0 left ps/\J ps wr)(λ_ wr=>wr.rangeLeft b W.heap.size)
  case atStart=>
    exact⟨_,_,[],hrg0,by simp,zlt.start D0,hJ [] W w0 none h0 hg0 (λr e=>by cases e)⟩
  case round=>
    obtain⟨left,cnt,ps,hrg,hcs,hC,hJs⟩:=hrel;gi_wp2_with (first
      |(gi_at_next;refine wpListIn_next_ranges _ rfl _ rfl 180 zp9 R valP id (λkey kl hk=>by obtain⟨x,hx,_⟩:=zj5 hk;exact⟨x,hx⟩) (λv _ _=>⟨v,rfl⟩) b W.heap.size nn _ _ _ rfl hrg ?_ ?_)
      |gi_in)
    · intro hc0 hl0
      gi_wp2;go_end0;exact⟨⟨_,rfl⟩,.inl ⟨ps,hC.all hl0 (by omega),hJs⟩⟩
    · intro x c kl yd yp w2 cnt2 hkey hlk hv hat hrg2 hlt hg2 hs2 hen
      obtain⟨x',ex,rfl,hxw⟩:=zj5 hkey;obtain rfl:x=x':=zo9 ex;have hJ2:J ps w2:=hJ ps wr w2 (some W.heap.size) hJs hg2 (λr e=>by cases e;exact⟨zf _,hrg.iter_walk⟩);clear hs2;gi_wp2_with (first
        |(refine zr8 (vs:=[.int .i64 0,.string (zap [])]) (by kernel_rfl) rfl rfl ?_;intro w3 hb3 hB3)
        |(refine zm6 (us:=[.int .i64 x.table,.string (zap x.key)]) (by kernel_rfl) rfl rfl rfl rfl rfl rfl hB3 rfl ?_;intro w4 hg4 hB4;have d0:=hB4.cell (i:=0) rfl;have d1:=hB4.cell (i:=1) rfl;have hg24:=World.grownBy.andThen (zc6 hb3) hg4 (λj e=>.inl (by cases e;exact zf _));have hJ4:J ps w4:=hJ ps w2 w4 none hJ2 hg24 (λr e=>by cases e);obtain⟨fn,tmps,assign,body,hy,hR⟩:YieldAt Fence.wide 1 Tryz.prog l #[.agg #[.int .i64 x.table,.string (zap x.key)]] w4 _:=hY ps x w4 hJ4 (by omega))
        |gi_in)
      refine hR.mono ?_;have hrg4:=hrg2.kept hg24 (by simp) (by simp);have hC2:=hC.step hxw hlk hat;clear hR;rintro e w5(⟨rfl,hJ5,hk5⟩|⟨rfl,hJx5⟩)
      · gi_wp2
        have hrg5:=hrg4.of_walks hk5;go_roundw;case rel=>exact⟨_,cnt2,ps++[x],hrg5,by simp;omega,hC2,hJ5⟩
        case measure=>rw[hrg5.left_eq,hrg.left_eq];exact hlt
      · gi_wp2
        refine zD (results_none rfl _ _ _) rfl ?_;exact⟨⟨_,rfl⟩,.inr ⟨ps++[x],trivial,hJx5⟩⟩
attribute [local go_sem] xe
def za0(p:Plc):List Value:=[.int .i64 p.table,.string (zap p.key)]
theorem plsP:LoP Tryz.prog 186 180 2:=⟨⟨by kernel_rfl,by kernel_rfl⟩,.agg #[.int .i64 0,.string (zap [])],24,by kernel_rfl,rfl,by omega⟩
theorem zoo{H:Type}(Bm b nn:Nat)(D0:DataW H){R:Value->Option (DataW H×List MemPlace)}(w:World)(hm:w.cell? ⟨Bm,0,none⟩=some (.map (some b)))(hown:w.ownsMap Tryz.prog 180 R b nn D0):SeqStopsK Fence.wide 2 Tryz.prog 175 #[.pointer (some ⟨Bm,0,none⟩)] (λp=>#[valP p]) KeepsWalks (zo4 D0) (λ_:List Plc=>True) (Maps.size D0) w:=λl J Jx W hW hJ _ hY h0=>by
 have hown':W.ownsMap Tryz.prog 180 R b nn D0:=by
  have hbl:=hown.lt;obtain⟨es,clock,hb,Ft,hs,hD⟩:=hown;exact⟨es,clock,(hW.block b hbl).trans hb,Ft,hs,hD⟩
 exact zub l Bm b nn D0 J Jx hY W hJ ((hW.cell (p:=⟨Bm,0,none⟩) (zad hm)).trans hm) hown' h0
theorem zua (w:World)(b:Nat):Calls Tryz.prog 155 #[.map (some b)] w λe w'=>e=.returned (.func (.func 175) #[] #[.pointer (some ⟨w.heap.size,0,none⟩)])/\w'=w.alloc (.cells #[.map (some b)] 185):=by
 go_enter Tryz.func155,Tryz.ntmps155;go_wp2;go_ret;exact⟨rfl,rfl⟩
theorem zm5{P:Program}{T Te:TypeId}{ops:Array Oper}{rest:List Oper}{o:Oper}{a:Act}{Q:Exit->Act->World->Prop}{w:World}{l n m:Nat}{y:Operand}{v:Value}{us:List Value}(hP:LoP P T Te n)(ho:o.op=.buildSlice T 1 #[(0,y)])(hgd:Region.wanted o (yielded ops a.tmps)=true)(hy:a.eval y=v)(hv:v.cells=us.toArray)(hl:us.length=n)(h0:0<n)(hn:n<=4096)(h:wpListIn (Fence.wide.inRound l) m P ops Q rest (a.put o.dst (.slice (some ⟨w.heap.size,0,none⟩) 1 1)) (w.alloc (.cells us.toArray Te))):wpListIn (Fence.wide.inRound l) m P ops Q (o::rest) a w:=
 BigFrame.wpListIn_want hgd λK hK=>zg4 (K:=K) (by rw[ho];intro c h;cases h) (λ_ _ h=>h) (zba hP ho hy hv hl h0 hn (hK _ _ h))
def PlIn(w:World)(B:Nat)(pre:List Plc)(W:World):Prop:=(∃v,Boxed W B 186 v/\W.ownsRow w.heap.size 180 2 v pre.length (pre.flatMap za0)/\True)/\Below w.heap.size w W/\B<W.heap.size
theorem zo2 (w:World){H:Type}(Bm b nn:Nat) (D0:DataW H){R:Value->Option (DataW H×List MemPlace)}(hm:w.cell? ⟨Bm,0,none⟩=some (.map (some b))) (hown:w.ownsMap Tryz.prog 180 R b nn D0) (hN:Maps.size D0<=1000000):Calls Tryz.prog 195 #[.slice none 0 0,.func (.func 175) #[] #[.pointer (some ⟨Bm,0,none⟩)]] w λe w'=>
      ∃v ps,e=.returned v/\zo4 D0 ps/\w'.ownsRow w.heap.size 180 2 v ps.length (ps.flatMap za0)/\Below w.heap.size w w':=by
  refine zbz Tryz.func195 rfl ?_;simp only[Tryz.ntmps195,yj,zI,zM,Nat.reduceAdd,Nat.reduceSub,xz,xA,xB,xC,yw,ym];have hst:=zoo Bm b nn D0 w hm hown;obtain⟨W0,hW0⟩:∃W0,W0=w.alloc (.cells #[.slice none 0 0] 186):=⟨_,rfl⟩;have z0:W0.heap.size=w.heap.size+1:=by rw[hW0];simp
  have bx:Boxed W0 w.heap.size 186 (.slice none 0 0):=by rw[hW0];exact Boxed.new w _ _
  have q:Below w.heap.size w W0:=by rw[hW0];exact(ze _ w).alloc (zf _) _
  go_upto_region 1 with(fail);rw[<-hW0];clear hW0;go_wp2_with fail;refine zgk (gf:=175) (lb:=#[.pointer (some ⟨Bm,0,none⟩)]) rfl (enters_of Tryz.func175 (by kernel_rfl) rfl)
      hst (λh k=>h.trans k) walksK_b q (λ_=>rfl)
      (PlIn w w.heap.size) (λ_ _ _=>False) ?hI ?hIx ⟨⟨_,bx,⟨rfl,.inl ⟨rfl,rfl⟩⟩,trivial⟩,q,by omega⟩
      (λ(y:Plc) a' W=>∃Bx,W0.heap.size<=Bx/\BoxN W Bx 180 (za0 y)/\a'={tmps:=#[.slice none 0 0,.func (.func 175) #[] #[.pointer (some ⟨Bm,0,none⟩)],.pointer (some ⟨w.heap.size,0,none⟩),undef,.slice none 0 0,.pointer (some ⟨Bx,0,none⟩),.func (.func 175) #[] #[.pointer (some ⟨Bm,0,none⟩)],valP y,undef,undef,undef,undef,undef],defers:=[]})
      ?hAx ?assign ?body ?done ?stop
  case hI=>
    refine OwnFrom.and ?_ (OwnFrom.and (zhl (zf _) (by omega)) (λ_ _ _ _ hs hg _=>zm hs hg.size));exact(holdsRow_own w.heap.size w.heap.size 186 180 2 (λs:List Plc=>s.length) (λs=>s.flatMap za0) (λ_ _=>True)).from _
  case hIx=>exactλ_ _ _ _ _ h _ _=>h
  case hAx=>
    intro y a' _ X Y row hs hg hr;obtain⟨Bx,h1,h2,e⟩:=hs;exact⟨Bx,h1,zen () X Y row h2 hg hr,e⟩
  case assign=>
    rintro l pre y W K ⟨⟨v,hv,hr,_⟩,hbw,hWS⟩hK;have eZ:(#[7]:Array Tmp).zip #[valP y]=#[(7,.agg #[.int .i64 y.table,.string (zap y.key)])]:=by kernel_rfl
    rw[eZ];simp only[List.foldl_toArray',List.foldl_cons,List.foldl_nil];go_simp;gi_wp2_with (first|(refine zka (vs:=[.int .i64 0,.string (zap [])]) (by kernel_rfl) rfl rfl ?_;intro wa hba hBa)|(refine zfs (us:=[.int .i64 y.table,.string (zap y.key)]) (by kernel_rfl) rfl rfl rfl rfl rfl rfl hBa rfl ?_;intro wb hgb hBb)|fail);have zz:=hba.size;have hbb:=hba.grown hgb hba.size λk e=>by injection e with e;omega
    have zb:=hbb.size;exact hK _ _ ((zc5 hba).trans (zd0 hBa hgb)) ((KeepsWalks.of_grownBy (zc6 hba) (λj o e=>nomatch e)).trans (KeepsWalks.of_grownBy hgb (λj o e ho=>by injection e with e;subst e;rw[show wa.heap[_]?=_ from hBa]at ho;cases ho;rfl))) ⟨⟨v,hv.kept (zc6 hbb) (by simp),hr.kept (zc6 hbb) (by cases v.ownBlock<;>simp),trivial⟩,hbw.trans (hbb.mono hbw.size),by omega⟩ ⟨W.heap.size,by omega,hBb,rfl⟩
  case body=>
    rintro l pre y a' W ⟨⟨v,hv,hr,_⟩,hbw,hWS⟩⟨Bx,hBx,hbx,rfl⟩hlt;obtain⟨i,z,hi,hz,hsz,hby,hzs⟩:=plsP.all;have hmul:(pre.length+1)*i.bytes<=1000000*4096:=xP (by omega) hby;have c0:=hv.cell;have x0:=hbx.cell (i:=0) rfl;have x1:=hbx.cell (i:=1) rfl;have hqW:=hbw.size;gi_wp2_with (first
      |(refine zm5 (us:=[.int .i64 y.table,.string (zap y.key)]) plsP rfl rfl rfl rfl rfl (by omega) (by omega) ?_)
      | (gi_at_builtin;refine wpListIn_append_own _ rfl _ _ 186 rfl w.heap.size 180 i z 2 i.bytes plsP.hT hi hz hsz rfl hzs (by decide) _ _ _ rfl (hr.alloc _) ⟨W.heap.size,0,none⟩ 1 1 [.int .i64 y.table,.string (zap y.key)] rfl rfl (zji W _ _) (by simp[Value.oneCell']) (by unfold maxLen;omega) (by omega) (by simp;omega) ?_;intro v' w3 hown' hg3 hnil3
         obtain⟨hv1,hv2,hr2,hko,hbb⟩:=Boxed.appended hv (by decide) hr hbw.size (zf _) hown' hg3;obtain⟨g,cap,rfl⟩:=ownsRow_succ hown';have c1:=hv1.cell;have f1:=hv1.frozen;go_frame)
      |fail)
    have zz:=hbb.size;refine⟨hko.from _,hko.walks,⟨⟨_,hv2,?_,trivial⟩,hbw.trans hbb,by omega⟩⟩;rw[zC,List.flatMap_append];simpa [za0]using hr2
  case done=>
    rintro D ys W hD hys⟨⟨v,hv,hr,_⟩,hbw,hWS⟩hK;have c0:=hv.cell;go_wp2_with fail;refine⟨by simp,.inl ⟨_,_,rfl,run_takeDeferred hK,?_⟩⟩;exact⟨_,results_tmp rfl _ _ _,v,ys,rfl,hys,ownsRow_putObj hr _ hK rfl,hbw.trans (belowK_b (w:=w) (zf _) W D _ _ (by omega) hK rfl rfl)⟩
  case stop=>exactλ_ _ _ _ _ _ h _=>h.elim
theorem znj (w:World){H:Type}(Bm b nn:Nat)(D0:DataW H){R:Value->Option (DataW H×List MemPlace)}(hm:w.cell? ⟨Bm,0,none⟩=some (.map (some b)))(hown:w.ownsMap Tryz.prog 180 R b nn D0)(hN:Maps.size D0<=1000000):Calls Tryz.prog 173 #[.func (.func 175) #[] #[.pointer (some ⟨Bm,0,none⟩)]] w λe w'=>
   ∃v ps,e=.returned v/\zo4 D0 ps/\w'.ownsRow w.heap.size 180 2 v ps.length (ps.flatMap za0)/\Below w.heap.size w w':=by
 have ha:=zo2 w Bm b nn D0 hm hown hN;clear hm hown;go_enter Tryz.func173,Tryz.ntmps173;go_wp2_with fail;refine ha.mono ?_;rintro e w' ⟨v,ps,rfl,h1,h2,h3⟩;clear ha;obtain⟨a,c,rfl⟩:∃a c,v=.slice a ps.length c:=by
  rcases h2.2 with⟨rfl,h0⟩|⟨g,cap,cur,rfl,_⟩
  ·rw[h0];exact⟨none,0,rfl⟩
  ·exact⟨_,_,rfl⟩
 go_wp2_with fail;go_ret;exact⟨_,ps,rfl,h1,h2,h3⟩
set_option maxRecDepth 100000
def sortRen:Ren:=⟨λ|6=>174|15=>197|14=>196|28=>218|29=>219|20=>210|21=>211|22=>212|23=>213|24=>214|25=>215|26=>216|27=>217|46=>223|47=>224|48=>225|49=>226|50=>227|57=>228|n=>n,λ|22=>186|24=>180|25=>191|3=>3|39=>206|0=>0|53=>248|55=>250|4=>4|46=>242|45=>241|50=>172|5=>5|9=>9|66=>253|70=>257|76=>259|77=>260|n=>n,λn=>n⟩
theorem zpe:SlLaysF0.n6 Tryz.prog sortRen where
 mixed:=by kernel_rfl
 f6:=⟨"slices.SortFunc[[]banksman/delta.place,banksman/delta.place]",by decide,Tryz.func174.trans (congrArg some (by kernel_rfl))⟩;f14:=⟨"slices.pdqsortCmpFunc[banksman/delta.place]",by decide,Tryz.func196.trans (congrArg some (by kernel_rfl))⟩;f15:=Tryz.func197.trans (congrArg some (by kernel_rfl));f20:=⟨"slices.insertionSortCmpFunc[banksman/delta.place]",by decide,Tryz.func210.trans (congrArg some (by kernel_rfl))⟩;f21:=⟨"slices.heapSortCmpFunc[banksman/delta.place]",by decide,Tryz.func211.trans (congrArg some (by kernel_rfl))⟩;f22:=⟨"slices.breakPatternsCmpFunc[banksman/delta.place]",by decide,Tryz.func212.trans (congrArg some (by kernel_rfl))⟩;f23:=⟨"slices.choosePivotCmpFunc[banksman/delta.place]",by decide,Tryz.func213.trans (congrArg some (by kernel_rfl))⟩;f24:=⟨"slices.reverseRangeCmpFunc[banksman/delta.place]",by decide,Tryz.func214.trans (congrArg some (by kernel_rfl))⟩;f25:=⟨"slices.partialInsertionSortCmpFunc[banksman/delta.place]",by decide,Tryz.func215.trans (congrArg some (by kernel_rfl))⟩;f26:=⟨"slices.partitionEqualCmpFunc[banksman/delta.place]",by decide,Tryz.func216.trans (congrArg some (by kernel_rfl))⟩;f27:=⟨"slices.partitionCmpFunc[banksman/delta.place]",by decide,Tryz.func217.trans (congrArg some (by kernel_rfl))⟩;f28:=Tryz.func218.trans (congrArg some (by kernel_rfl));f29:=Tryz.func219.trans (congrArg some (by kernel_rfl));f46:=⟨"slices.siftDownCmpFunc[banksman/delta.place]",by decide,Tryz.func223.trans (congrArg some (by kernel_rfl))⟩;f47:=Tryz.func224.trans (congrArg some (by kernel_rfl));f48:=Tryz.func225.trans (congrArg some (by kernel_rfl));f49:=⟨"slices.medianAdjacentCmpFunc[banksman/delta.place]",by decide,Tryz.func226.trans (congrArg some (by kernel_rfl))⟩;f50:=⟨"slices.medianCmpFunc[banksman/delta.place]",by decide,Tryz.func227.trans (congrArg some (by kernel_rfl))⟩;f57:=⟨"slices.order2CmpFunc[banksman/delta.place]",by decide,Tryz.func228.trans (congrArg some (by kernel_rfl))⟩;t0:=Tryz.underlying0;a0:=Tryz.isAgg0;z0:=Tryz.sizeOf0;v0:=Tryz.zeroValue0;t3:=Tryz.underlying3;a3:=Tryz.isAgg3;z3:=Tryz.sizeOf3;v3:=Tryz.zeroValue3;t4:=Tryz.underlying4;a4:=Tryz.isAgg4;z4:=Tryz.sizeOf4;v4:=Tryz.zeroValue4;t5:=Tryz.underlying5;a5:=Tryz.isAgg5;z5:=Tryz.sizeOf5;v5:=Tryz.zeroValue5;t9:=Tryz.underlying9;a9:=Tryz.isAgg9;z9:=Tryz.sizeOf9;v9:=Tryz.zeroValue9;t22:=Tryz.underlying186;a22:=Tryz.isAgg186;z22:=Tryz.sizeOf186;v22:=Tryz.zeroValue186;t25:=Tryz.underlying191;a25:=Tryz.isAgg191;z25:=Tryz.sizeOf191;v25:=Tryz.zeroValue191;t39:=Tryz.underlying206;a39:=Tryz.isAgg206;z39:=Tryz.sizeOf206;v39:=Tryz.zeroValue206;t45:=Tryz.underlying241;a45:=Tryz.isAgg241;z45:=Tryz.sizeOf241;v45:=Tryz.zeroValue241;t46:=Tryz.underlying242;a46:=Tryz.isAgg242;z46:=Tryz.sizeOf242;v46:=Tryz.zeroValue242;t50:=Tryz.underlying172;a50:=Tryz.isAgg172;z50:=Tryz.sizeOf172;v50:=Tryz.zeroValue172;t53:=Tryz.underlying248;a53:=Tryz.isAgg248;z53:=Tryz.sizeOf248;v53:=Tryz.zeroValue248;t55:=Tryz.underlying250;a55:=Tryz.isAgg250;z55:=Tryz.sizeOf250;v55:=Tryz.zeroValue250;t66:=Tryz.underlying253;a66:=Tryz.isAgg253;z66:=Tryz.sizeOf253;v66:=Tryz.zeroValue253;t70:=Tryz.underlying257;a70:=Tryz.isAgg257;z70:=Tryz.sizeOf257;v70:=Tryz.zeroValue257;t76:=Tryz.underlying259;a76:=Tryz.isAgg259;z76:=Tryz.sizeOf259;v76:=Tryz.zeroValue259;t77:=Tryz.underlying260;a77:=Tryz.isAgg260;z77:=Tryz.sizeOf260;v77:=Tryz.zeroValue260
def cmpI(x y:Int):Int:=if x<y then-1 else if y<x then 1 else 0
def cmpP (x y:Plc):Int:=if x.table=y.table then Lib.compareBytes x.key y.key else cmpI x.table y.table
theorem zsf(w:World)(x y:Int):Calls Tryz.prog 177 #[.int .i64 x,.int .i64 y] w λe w'=>e=.returned (.int .i64 (cmpI x y))/\w'=w:=by
  by_cases h:x<y
  · have d1:decide (x<y)=true:=zk h
    have e:cmpI x y=-1:=zi h;rw[e];clear h e;go_enter Tryz.func177,Tryz.ntmps177;go_wp2;go_ret;exact⟨rfl,rfl⟩
  · have d1:decide (x<y)=false:=zj h
    by_cases h2:y<x
    · have d2:decide (y<x)=true:=zk h2
      have e:cmpI x y=1:=by unfold cmpI;rw[zh h,zi h2]
      rw[e];clear h h2 e;go_enter Tryz.func177,Tryz.ntmps177;go_wp2;go_ret;exact⟨rfl,rfl⟩
    · have d2:decide (y<x)=false:=zj h2
      have e:cmpI x y=0:=by unfold cmpI;rw[zh h,zh h2]
      rw[e];clear h h2 e;go_enter Tryz.func177,Tryz.ntmps177;go_wp2;go_ret;exact⟨rfl,rfl⟩
theorem zse (w:World)(x y:List UInt8):Calls Tryz.prog 178 #[.string (zap x),.string (zap y)] w λe w'=>e=.returned (.int .i64 (Lib.compareBytes x y))/\w'=w:=by
 have hc:(callFunc 220 #[.string (zap x),.string (zap y)]).run Tryz.prog w=.ok (.value (.int .i64 (Lib.compareBytes x y))) w:=by
  rw[ve Tryz.func220 (by kernel_rfl) (by kernel_rfl) (by kernel_rfl) (e:=Extern.BytealgCompare.compare) (by kernel_rfl),run_compareString,show(zap x).data.toList=x by simp[zap],show(zap y).data.toList=y by simp[zap]];rfl
 go_enter Tryz.func178,Tryz.ntmps178;go_wp2;go_ret;exact⟨rfl,rfl⟩
theorem zu9 (w:World){b:Nat}{x y:Int}{t:TypeId}(h:w.heap[b]?=some (.cells #[.int .i64 x,.int .i64 y] t (0,0))):Calls Tryz.prog 176 #[.slice (some ⟨b,0,none⟩) 2 2] w λe w'=>e=.returned (.int .i64 (if x=0 then y else x))/\w'=w:=by
  have c0:w.cell? ⟨b,0,none⟩=some (.int .i64 x):=by simp[World.cell?,h]
  have c1:w.cell? ⟨b,1,none⟩=some (.int .i64 y):=by simp[World.cell?,h]
  clear h;obtain⟨r,hr⟩:∃r,r=(if x=0 then y else x):=⟨_,rfl⟩;rw[<-hr];replace hr:=Lib.hid hr;go_enter Tryz.func176,Tryz.ntmps176;go_upto_region 3 with(fail);go_loopw[8] (λiv wr=>∃i:Nat,iv=.int .i64 (i:Int)/\i<=2/\RowKit.Hid ((0<i->x=0)/\(1<i->y=0))/\wr=w) (λi _=>2-(intOf i).toNat);case atStart=>exact⟨0,rfl,by omega,Lib.hid ⟨λh=>absurd h (by omega),λh=>absurd h (by omega)⟩,rfl⟩
  case round=>
    obtain⟨i,rfl,hil,hno,rfl⟩:=hrel;rcases(show i=0\/i=1\/i=2 by omega)with rfl|rfl|rfl
    · by_cases hx:x=0
      · have d1:(x==0)=true:=zK.2 hx
        have d2:(x !=0)=false:=xf.2 hx;have H:=Lib.hid (show(0<0+1->x=0)/\(1<0+1->y=0)from⟨λ_=>hx,λh=>absurd h (by omega)⟩);clear hx hno;go_wp2_with fail;go_roundw;case rel=>exact⟨1,rfl,by omega,H,trivial⟩
        case measure=>simp[intOf]
      · have d1:(x==0)=false:=zt.2 hx
        have d2:(x !=0)=true:=xi.2 hx;have H:=Lib.hid (show r=x from hr.out.trans (zh hx));clear hx hno;go_wp2_with fail;go_ret;exact⟨by rw[H.out];rfl,rfl⟩
    · have hx:=hno.out.1 (by omega)
      by_cases hy:y=0
      · have d1:(y==0)=true:=zK.2 hy
        have d2:(y !=0)=false:=xf.2 hy;have H:=Lib.hid (show(0<1+1->x=0)/\(1<1+1->y=0)from⟨λ_=>hx,λ_=>hy⟩);clear hx hy hno;go_wp2_with fail;go_roundw;case rel=>exact⟨2,rfl,by omega,H,trivial⟩
        case measure=>simp[intOf]
      · have d1:(y==0)=false:=zt.2 hy
        have d2:(y !=0)=true:=xi.2 hy;have H:=Lib.hid (show r=y from hr.out.trans (zi hx));clear hx hy hno;go_wp2_with fail;go_ret;exact⟨by rw[H.out];rfl,rfl⟩
    · have H:=Lib.hid (show r=0 from hr.out.trans (by rw[zi (hno.out.1 (by omega))];exact hno.out.2 (by omega)))
      clear hno;go_wp2_with fail;go_ret;exact⟨by rw[H.out];rfl,rfl⟩
theorem cmpP_or (x y:Plc):(if cmpI x.table y.table=0 then Lib.compareBytes x.key y.key else cmpI x.table y.table)=cmpP x y:=by
  unfold cmpP cmpI;by_cases h:x.table=y.table;· simp[h]
  · rw[zh h]
    by_cases h1:x.table<y.table;· simp[h1]
    · have h2:y.table<x.table:=by omega
      simp[h1,h2]
theorem zni(w:World)(x y:Plc):Calls Tryz.prog 156 #[.agg #[.int .i64 x.table,.string (zap x.key)],.agg #[.int .i64 y.table,.string (zap y.key)]] w λe w'=>e=.returned (.int .i64 (cmpP x y))/\∃q os,w'=grow (w.drewN q) os:=by
 obtain⟨r,hr⟩:∃r,r=cmpP x y:=⟨_,rfl⟩;rw[<-hr];replace hr:=Lib.hid hr;obtain⟨W,hW,q,bn,bm,hsz⟩:=zg2 w 180 180 [.int .i64 x.table,.string (zap x.key)] [.int .i64 y.table,.string (zap y.key)];clear hsz q;go_enter Tryz.func156,Tryz.ntmps156;go_upto_region 1 with(fail);rw[show(w.alloc (.cells #[.int .i64 x.table,.string (zap x.key)] 180)).alloc (.cells #[.int .i64 y.table,.string (zap y.key)] 180)=W from hW.symm];replace hW:=Lib.hid hW;have b0:=bn.cell (i:=0) rfl;have b1:=bn.cell (i:=1) rfl;have f0:=bm.cell (i:=0) rfl;have f1:=bm.cell (i:=1) rfl;refine wp_region_still_tail 10 (by kernel_rfl) (by kernel_rfl) ?_;simp only[List.take_succ_cons,List.take_zero,List.drop_succ_cons,wq];repeat still_step
 still_call(zsf _ _ _);repeat still_step
 still_call(zse _ _ _);repeat still_step
 refine wpStill_nil ?_;clear b0 b1 f0 f1 bn bm;have hor:=cmpP_or x y;change wpList _ _ _ _ _ W.drew;obtain⟨W2,hW2⟩:∃W2,W2=W.drew:=⟨_,rfl⟩;rw[<-hW2];replace hW2:=Lib.hid hW2;generalize cmpI x.table y.table=c1 at*;generalize Lib.compareBytes x.key y.key=c2 at*;replace hor:=Lib.hid (hor.trans hr.out.symm);go_wp2_with fail;refine(zu9 (W2.alloc (.cells #[.int .i64 c1,.int .i64 c2] 3)) (x:=c1) (y:=c2) (t:=3) (by simp only[World.alloc,yf])).mono ?_;rintro e w3 ⟨rfl,rfl⟩;rw[hor.out];go_wp2_with fail;go_ret;have hfin:W2.alloc (.cells #[.int .i64 c1,.int .i64 c2] 3)=grow (w.drewN 1) (#[.cells #[.int .i64 x.table,.string (zap x.key)] 180 (0,0)]++(#[.cells #[.int .i64 y.table,.string (zap y.key)] 180 (0,0)]++#[.cells #[.int .i64 c1,.int .i64 c2] 3 (0,0)])):=by
  rw[hW2.out,hW.out];show(((w.drewN 1).alloc (.cells #[.int .i64 x.table,.string (zap x.key)] 180)).alloc (.cells #[.int .i64 y.table,.string (zap y.key)] 180)).alloc (.cells #[.int .i64 c1,.int .i64 c2] 3)=_;rw[alloc_eq_grow,alloc_eq_grow,alloc_eq_grow,grow_grow,grow_grow]
 exact⟨rfl,1,_,hfin⟩
instance:Inhabited Plc:=⟨⟨0,[]⟩⟩
theorem zev:ltOf cmpP=ltP:=by
  funext x y;unfold ltOf cmpP ltP;by_cases h:x.table=y.table
  · rw[zi h,zfe];simp[h]
  · rw[zh h]
    unfold cmpI;by_cases h2:x.table<y.table;· simp[h2]
    · rw[zh h2];split<;>simp[h,h2]
theorem swoP:SWO (ltOf cmpP):=by
  rw[zev];refine⟨totP.irr,λ_ _ _ h k=>totP.tr h k,λx y z h k=>?_⟩;cases e:ltP x z with
  |false=>rfl
  |true=>
    by_cases hxy:x=y
    · subst hxy;rw[k]at e;cases e
    · have:=totP.tr (totP.tot hxy h) e
      rw[this]at k;cases k
theorem zgz:∀(ps:List Plc)(t:Nat),(ps.flatMap za0)[t]?=(ps[t/2]?).bind λp=>(za0 p)[t%2]?
 |[],t=>by simp
 |p::ps,0=>by simp[za0]
 |p::ps,1=>by simp[za0]
 |p::ps,t+2=>by
  have h:=zgz ps t;rw[show(t+2)/2=t/2+1 by omega,show(t+2)%2=t%2 by omega,List.getElem?_cons_succ,<-h,List.flatMap_cons];simp[za0]
theorem zdm(ps:List Plc):(ps.flatMap za0).length=ps.length*2:=by
 induction ps with
 |nil=>rfl
 |cons p ps ih=>rw[List.flatMap_cons,zC,ih,zI];simp[za0];omega
theorem znb (ps:List Plc):flatK za0 2 ps.toArray=(ps.flatMap za0).toArray:=by
 refine Array.ext (by rw[size_flatK,yj,yj,zdm]) λt h1 h2=>?_
 have ht:t<ps.length*2:=by simpa using h1
 have hq:t/2<ps.length:=by omega
 have hg:=zgz ps t;rw[zB hq,Option.bind_some]at hg;have h3:t%2<(za0 ps[t/2]).length:=by simp[za0];omega
 rw[zB h3,zB (by rw[zdm];exact ht)]at hg;injection hg with hg;simp only[List.getElem_toArray,hg];simp[flatK,hq,h3]
theorem holdsP{w:World}{g:Nat}{cur:Array Value}{e:TypeId}{ps:List Plc}(hb:w.heap[g]?=some (.cells cur e (0,0)))(ht:cur.toList.take (ps.length*2)=ps.flatMap za0):HoldsK za0 2 w g 0 ps.toArray:=by
 unfold HoldsK;rw[znb];intro j hj;have hj':j<ps.length*2:=by rw[yj,zdm]at hj;exact hj
 refine⟨?_,by simp[World.frozen?,hb]⟩;have h1:(cur.toList.take (ps.length*2))[j]?=(ps.flatMap za0)[j]?:=by rw[ht]
 rw[wY hj']at h1;simp only[World.cell?,hb,zR];simp only[Option.isSome_none,zY,zW];rw[<-yF,h1];have hl:j<(ps.flatMap za0).length:=by rw[zdm];exact hj'
 rw[zB hl,getElem!_pos _ j (by simpa using hj)];rfl
theorem zm7{w:World}{g n:Nat}{os:Array Obj}{cur:Array Value}{e:TypeId}{fr:Nat×Nat}(d:Array Plc)(hb:w.heap[g]?=some (.cells cur e fr)):(sortWorldK za0 2 w g 0 n d os).heap[g]?=some (.cells (putCells id 0 (flatK za0 2 d) cur) e fr):=by
 have hg:g<w.heap.size:=(zJ.1 hb).1;unfold sortWorldK putRowK;rw[heap_grow_old _ _ (by simpa using hg)];simp[putRow,mapBlock,Sort.ahead,yU,hb,onCells]
theorem zjc{w:World}{g n:Nat}{os:Array Obj}(d:Array Plc):w.grownBy (sortWorldK za0 2 w g 0 n d os) (some g):=by
 unfold sortWorldK putRowK;refine⟨rfl,rfl,rfl,by simp,λk hk hne=>?_⟩;rw[heap_grow_old _ _ (by simpa using hk)];have:g≠k:=λe=>hne (by rw[e])
 simp[putRow,mapBlock,Sort.ahead,yU,this]
theorem takeP(cur:Array Value)(vs:List Value)(h:vs.length<=cur.size):(putCells id 0 vs.toArray cur).toList.take vs.length=vs:=by
  apply List.ext_getElem?;intro j;by_cases hj:j<vs.length
  · rw[wY hj,yF]
    simp[putCells,hj,show j<cur.size by omega]
  ·rw[List.getElem?_take_eq_none (by omega),wV (by omega)]
def zgb(ps:List Plc):List Plc:=ps.mergeSort λx y=>!ltP y x
theorem zcu(ps:List Plc):(zgb ps).Perm ps:=List.mergeSort_perm _ _
theorem zrh{ps:List Plc}(h:ps.Nodup):SrtE ltP id (zgb ps):=by
 have hn:(zgb ps).Nodup:=(zcu ps).nodup_iff.2 h;have hs:(zgb ps).Pairwise (λx y=>(!ltP y x)=true):=List.pairwise_mergeSort (λa b c h k=>by
  simp only[Bool.not_eq_true']at h k⊢;have:=swoP.ntrans c b a (by rw[zev];exact k) (by rw[zev];exact h);rwa [zev]at this) (λa b=>by
  cases e:ltP b a with
  |false=>simp
  |true=>
   have:ltP a b=false:=by
    cases e2:ltP a b with
    |false=>rfl
    |true=>have:=totP.tr e e2;rw[totP.irr]at this;cases this
   simp[this]) ps
 refine(hs.and hn).imp λ{a b}hab=>?_
 exact totP.tot (λe=>hab.2 e.symm) (by simpa using hab.1)
theorem zs2 (w:World){base:Nat}{v:Value}{ps:List Plc}(h:w.ownsRow base 180 2 v ps.length (ps.flatMap za0)) (hn:ps.length<=1000000):Calls Tryz.prog 174 #[v,.func (.func 156) #[] #[]] w λe w'=>e=.returned (.tuple #[])/\w'.ownsRow base 180 2 v ps.length ((zgb ps).flatMap za0)/\w.grownBy w' v.ownBlock:=by
  have hl:=h.1;rcases h.2 with⟨rfl,h0⟩|⟨g,cap,cur,rfl,hbase,hb,h1,h2,h3,h4⟩
  · obtain rfl:ps=[]:=we.1 h0
    refine(AnyF.slices_SortFunc_none zpe none 0 (.func (.func 156) #[] #[]) w).mono ?_;rintro e w'⟨rfl,rfl⟩;exact⟨rfl,⟨by rw[zdm,(zcu []).length_eq],.inl ⟨rfl,rfl⟩⟩,rfl,rfl,rfl,zf _,λ_ _ _=>rfl⟩
  · have hc:CmpLays Tryz.prog 156 #[] za0 2 cmpP g 0 ps.toArray.size w:=λm os dk hs x y=>by
      rw[Array.append_empty];exact zni _ x y
    have hs:=AnyQ.slices_SortFunc_total zpe 2 Tryz.isAgg180 Tryz.sizeOf180 za0 (λ_=>rfl) (λx v hv=>by simp[za0]at hv;rcases hv with rfl|rfl<;>rfl) cmpP swoP 156 #[] g 0 cap ps.toArray w (enters_of Tryz.func156 (by kernel_rfl) rfl) hc (holdsP hb h4) (zJ.1 hb).1 (by simp;omega)
      (λx y h k=>by
        rw[zev]at h k;by_cases e:x=y
        ·exact e
        ·have:=totP.tot e h;rw[this]at k;cases k)
    refine hs.mono ?_;rintro e w' ⟨rfl,n,os,rfl⟩;rw[zev];have hp:(ps.toArray.toList.mergeSort λx y=>!ltP y x)=zgb ps:=rfl;rw[hp];have hlen:(zgb ps).length=ps.length:=(zcu ps).length_eq;refine⟨rfl,⟨by rw[zdm,hlen],.inr ⟨g,cap,_,rfl,hbase,zm7 _ hb,h1,h2,by simp[putCells,h3],?_⟩⟩,zjc _⟩;rw[znb,<-hlen,<-zdm];exact takeP cur _ (by rw[zdm,hlen,h3];exact yN 2 h1)
def PlcS{H:Type}(D0:DataW H)(qs:List Plc):Prop:=SrtE ltP id qs/\(∀p∈qs,wfP p)/\(∀p,wfP p->(p∈qs↔has D0 (klP p)=true))/\qs.length<=Maps.size D0
theorem zo4.sorted{H:Type}{D0:DataW H}{ps:List Plc}(h:zo4 D0 ps):PlcS D0 (zgb ps):=
 ⟨zrh h.1,λp hp=>h.2.1 p ((zcu ps).mem_iff.1 hp),λp hp=>by rw[(zcu ps).mem_iff];exact h.2.2.1 p hp,by rw[(zcu ps).length_eq];exact h.2.2.2⟩
theorem zn1 (w:World){H:Type}(Bm b nn:Nat) (D0:DataW H){R:Value->Option (DataW H×List MemPlace)}(hm:w.cell? ⟨Bm,0,none⟩=some (.map (some b))) (hown:w.ownsMap Tryz.prog 180 R b nn D0) (hN:Maps.size D0<=1000000):Calls Tryz.prog 154 #[.func (.func 175) #[] #[.pointer (some ⟨Bm,0,none⟩)],.func (.func 156) #[] #[]] w λe w'=>
   ∃v qs,e=.returned v/\PlcS D0 qs/\w'.ownsRow w.heap.size 180 2 v qs.length (qs.flatMap za0)/\Below w.heap.size w w':=by
 have ha:=znj w Bm b nn D0 hm hown hN;clear hm hown;go_enter Tryz.func154,Tryz.ntmps154;go_wp2_with fail;refine ha.mono ?_;rintro e w2⟨v,ps,rfl,h1,h2,h3⟩;clear ha;have hsz:=h3.size;have hlt:=h2.lt;have hs:=zs2 w2 h2 (zv h1.2.2.2 hN);obtain⟨a,c,rfl⟩:∃a c,v=.slice a ps.length c:=by
  rcases h2.2 with⟨rfl,h0⟩|⟨g,cap,cur,rfl,_⟩
  · rw[h0];exact⟨none,0,rfl⟩
  ·exact⟨_,_,rfl⟩
 go_wp2_with fail;refine hs.mono ?_;rintro e w3⟨rfl,h4,h5⟩;clear hs;go_wp2_with fail;go_ret;have hlen:(zgb ps).length=ps.length:=(zcu ps).length_eq;exact⟨_,zgb ps,rfl,h1.sorted,by rw[hlen];exact h4,h3.grown h5 hsz λk e=>(hlt k e).1⟩
end Go.Proofs.YtkobhdllagbkhaaGreat
