/-
  TEXTS OF ONE PROOF, merged.
-/
import Derived.Deep.CutRange
import Derived.Test.YtkobhdllagbkhaaGreatKn10
namespace Go.Proofs.YtkobhdllagbkhaaGreat
open Go.RowKit Go.Shelf Go.ChangeShapes Go.WideShapes Go.ChangeAt Go.Deep Go.Joins
set_option maxRecDepth 100000
set_option maxHeartbeats 32000000
def BakJ (W:World) (bz:Nat) (d:Dl):List Value->World->Prop
 |[],V=>Below W.heap.size W V
 |[v],V=>Below W.heap.size W V/\RdDl (λk=>W.heap.size<=k/\k<V.heap.size) V v d
 |_,V=>W.grownBy V (some bz)/\∃a c a2 c2,BoxN V bz 41 [.slice a d.writes.length c,.slice a2 d.marks.length c2]/\RdL Elt.wr (λk=>W.heap.size<=k/\k<V.heap.size) V (.slice a d.writes.length c) d.writes/\RdL Elt.int (λk=>W.heap.size<=k/\k<V.heap.size) V (.slice a2 d.marks.length c2) d.marks
theorem BakJ.below{W:World}{bz:Nat}{d:Dl}:∀(l:List Value)(V V':World),BakJ W bz d l V->Below V.heap.size V V'->BakJ W bz d l V'
 |[],_,_,h,hb=>y8 h (hb.mono (y9 h))
 |[_],_,_,⟨h,h1⟩,hb=>⟨h.trans (hb.mono h.size),(h1.below hb).weak λ_ hk=>⟨hk.1,zm hk.2 hb.size⟩⟩
 |_::_::_,_,_,⟨h,a,c,a2,c2,h0,h1,h2⟩,hb=>⟨zbg h (za4 hb _),a,c,a2,c2,h0.below hb h0.lt,(h1.below hb).weak λ_ hk=>⟨hk.1,zm hk.2 hb.size⟩,(h2.below hb).weak λ_ hk=>⟨hk.1,zm hk.2 hb.size⟩⟩
theorem BakJ.grown{W:World}{bz:Nat}{d:Dl}:∀{l:List Value}{V:World},BakJ W bz d l V->W.grownBy V (some bz)
 |[],_,h=>zb0 h rfl _
 |[_],_,⟨h,_⟩=>zb0 h rfl _
 |_::_::_,_,⟨h,_⟩=>h
def bRd{α:Type}(E:Elt α)(w:World)(bz:Nat)(h:w.heap.size<=bz)(xs:List α):SGn (λA B=>A.grownBy B (some bz)):=
 ⟨λV v=>∃a c,v=.slice a xs.length c/\RdL E (·<w.heap.size) V (.slice a xs.length c) xs,λ_ _ _⟨a,c,e,hr⟩hb=>⟨a,c,e,hr.below hb⟩,λ_ _ _⟨a,c,e,hr⟩hk=>⟨a,c,e,(hr.fit.keep λk hh=>hk.block k hh.2 (λe=>by injection e with e;have:=hh.1;omega)).weak λ_ hh=>hh.1⟩⟩
def bDl (w:World)(bz:Nat)(h:w.heap.size<=bz)(d:Dl):SGn (λA B=>A.grownBy B (some bz)):=
 ⟨λV v=>RdDl (·<w.heap.size) V v d,λ_ _ _ hr hb=>hr.below hb,λ_ _ _ ⟨a,c,a2,c2,e,h1,h2⟩hk=>⟨a,c,a2,c2,e,(h1.fit.keep λk hh=>hk.block k hh.2 (λe=>by injection e with e;have:=hh.1;omega)).weak λ_ hh=>hh.1,(h2.fit.keep λk hh=>hk.block k hh.2 (λe=>by injection e with e;have:=hh.1;omega)).weak λ_ hh=>hh.1⟩⟩
theorem zng (w:World){S:Nat->Prop}{v:Value}{d:Dl}{i:Int}(h:RdDl S w v d)(hs:smD d):Calls Tryz.prog 38 #[v,.int .i64 i] w (zff w (zc0 d i)):=by
  replace h:RdDl (·<w.heap.size) w v d:=by
    obtain⟨a,c,a2,c2,e,h1,h2⟩:=h;exact⟨a,c,a2,c2,e,h1.fit.weak λ_ hk=>hk.2,h2.fit.weak λ_ hk=>hk.2⟩
  have hd:=h;obtain⟨a,c,a2,c2,rfl,hw,hm⟩:=h;obtain⟨W0,hW,q,bn,bz,hsz⟩:=zg2 w 41 41 [.slice a d.writes.length c,.slice a2 d.marks.length c2] [.slice none 0 0,.slice none 0 0];have eC:∀args w,(callFunc 61 args).run Tryz.prog w=.ok (.enter 61 args) w:=enters_of Tryz.func61 (by kernel_rfl) rfl;have hs1:=hs.1;have hsm:=hs.2.1;go_enter Tryz.func38,Tryz.ntmps38;go_upto_region 1 with(fail);rw[show(w.alloc (.cells #[.slice a d.writes.length c,.slice a2 d.marks.length c2] 41)).alloc (.cells #[.slice none 0 0,.slice none 0 0] 41)=W0 from hW.symm];clear hW;have b0:=bn.cell (i:=0) rfl;have b1:=bn.cell (i:=1) rfl;go_wp2_with fail;refine(zd7 W0 (hd.below q)).mono ?_;rintro e w4 ⟨rfl,hb4⟩;replace q:=q.trans (hb4.mono q.size);replace bn:=bn.below hb4 bn.lt;replace bz:=bz.below hb4 bz.lt;have z4:=hb4.size;have hsz':w.heap.size+1+1<=w4.heap.size:=by omega
  clear b0 b1 hb4 hsz z4;have b0:=bn.cell (i:=0) rfl;have b1:=bn.cell (i:=1) rfl;by_cases hok:okD d
  · have dok:decide (okD d)=true:=zk hok
    by_cases hi0:i<0
    · have di:decide (i<0)=true:=zk hi0
      have HK:=Lib.hid (show zc0 d i=(d,1)by unfold zc0;rw[zh (λh=>by omega)]);have HKx:=HK;go_wp2_with fail;refine(zdh w4 (hd.below q) hs).mono ?_;rintro e w5 ⟨_,rfl,ho,hb5⟩;obtain⟨wa,wc,ma,mc,rfl,h7,h8⟩:=ho.rd;have z5:=hb5.size;have q5:=q.trans (hb5.mono q.size);have hBZ:=bz.below hb5 bz.lt;go_wp2_with(first|(refine zab (us:=[.slice wa d.writes.length wc,.slice ma d.marks.length mc]) (by kernel_rfl) rfl rfl rfl rfl rfl rfl hBZ rfl ?_;intro wd hgd hBd)|fail);have d0:=hBd.cell (i:=0) rfl;have d1:=hBd.cell (i:=1) rfl;obtain⟨fs,hu,_⟩:=dlS.hu;refine zD (v:=.tuple #[.agg #[.slice wa d.writes.length wc,.slice ma d.marks.length mc],.int .i64 1]) (by simp[results,Tryz.results38,go_sem,loadVar,isAgg,zr hu,zaa dlS.hs,loadCellsFrom,Addr.add,d0,d1]) rfl ?_;rw[zff,HKx.out];exact⟨_,rfl,⟨wa,wc,ma,mc,rfl,(h7.keep λk hk=>hgd.block k hk.2 λe=>by injection e with e;omega).weak λk hk=>⟨by omega,zm hk.2 hgd.size⟩,(h8.keep λk hk=>hgd.block k hk.2 λe=>by injection e with e;omega).weak λk hk=>⟨by omega,zm hk.2 hgd.size⟩⟩,q5.grown hgd q5.size λk e=>by injection e with e;omega⟩
    · have di:decide (i<0)=false:=zj hi0
      by_cases hi1:i<(d.marks.length:Int)
      · have dj:decide ((d.marks.length:Int)<=i)=false:=zj (by omega)
        obtain⟨n,rfl⟩:∃n:Nat,i=(n:Int):=⟨i.toNat,by omega⟩;have hn:n<d.marks.length:=by omega
        obtain⟨mb,mo,rfl,hmb,c0,hmi⟩:=hm.num n hn;have hmk:=zok hok.2.2.2 hn;obtain⟨m,hm0⟩:∃m:Nat,(m:Int)=d.marks[n]:=⟨d.marks[n].toNat,by omega⟩;have HK:=Lib.hid (show zc0 d (n:Int)=(⟨d.writes.take m,d.marks.take (n+1)⟩,0)by
          unfold zc0;rw[zi ⟨hok,by omega,hi1⟩,wG,yu,zB hn,xk,<-hm0,wG])
        rw[<-hm0]at c0 hmk;have hmle:m<=d.writes.length:=by omega
        have hml:(d.writes.take m).length=m:=by rw[zp];omega
        have hnl:(d.marks.take (n+1)).length=n+1:=by rw[zp];omega
        have hs2:smD ⟨d.writes.take m,d.marks.take (n+1)⟩:=⟨by show(d.writes.take m).length<=_;omega,by show(d.marks.take (n+1)).length<=_;omega,λx hx=>hs.2.2 x (y7 hx)⟩;have hn4:n<=1000000:=by omega
        have hcl:=hw.len.2.1;have hcm:=hm.len.2.1;clear hm0;go_upto_region 3 with(fail);clear b0 b1;refine zai (K:=λA B=>A.grownBy B (some (w.heap.size+1))) (by kernel_rfl) (by kernel_rfl) [14,15] (by kernel_rfl) [lEq (.pointer (some ⟨w.heap.size,0+0,none⟩)),lEq (.slice a d.writes.length c),lEq (.pointer (some ⟨w.heap.size,0+1,none⟩)),lEq (.slice (some ⟨mb,mo,none⟩) d.marks.length c2),lEq (.int .i64 (n:Int)),lEq (.pointer (some ⟨mb,mo+n*1,none⟩)),lEq (.int .i64 (m:Int)),bRd Elt.wr w (w.heap.size+1) (by omega) (d.writes.take m),lEq (.pointer (some ⟨w.heap.size,0+1,none⟩)),lEq (.slice (some ⟨mb,mo,none⟩) d.marks.length c2),lEq (.int .i64 (n:Int)),lEq (.int .i64 ((n:Int)+1)),bRd Elt.int w (w.heap.size+1) (by omega) (d.marks.take (n+1)),bDl w (w.heap.size+1) (by omega) ⟨d.writes.take m,d.marks.take (n+1)⟩,lAny,lAny,lEq (.int .i64 0)] (BakJ w4 (w.heap.size+1) ⟨d.writes.take m,d.marks.take (n+1)⟩) BakJ.below (show Below w4.heap.size w4 w4 from ze _ _)
          ⟨?o0,?o1,?o2,?o3,?o4,?o5,?o6,?o7,?o8,?o9,?o10,?o11,?o12,?o13,?o14,?o15,?o16,trivial⟩ ?fin
        case o0=>
          refine LnOp.sd (λA va w' k hF hT hk hJ hb hu hp hd=>?_);have e1:=hF 2 rfl;exact zaf dlS rfl (e1) (by omega) ⟨_,rfl,rfl,ze _ _⟩
        case o1=>
          refine LnOp.sd (λA va w' k hF hT hk hJ hb hu hp hd=>?_);have e1:=(hT 22 0 (by simp) rfl).trans (hd ⟨0,.data⟩ (by simp) rfl rfl);exact zae (e:=62) rfl (e1) (by kernel_rfl) ((bn.other (BakJ.grown hJ) (by simp)).cell (i:=0) rfl) ⟨_,rfl,rfl,ze _ _⟩
        case o2=>
          refine LnOp.sd (λA va w' k hF hT hk hJ hb hu hp hd=>?_);have e1:=hF 2 rfl;exact zaf dlS rfl (e1) (by omega) ⟨_,rfl,rfl,ze _ _⟩
        case o3=>
          refine LnOp.sd (λA va w' k hF hT hk hJ hb hu hp hd=>?_);have e1:=(hT 24 2 (by simp) rfl).trans (hd ⟨2,.data⟩ (by simp) rfl rfl);exact zae (e:=3) rfl (e1) (by kernel_rfl) ((bn.other (BakJ.grown hJ) (by simp)).cell (i:=1) rfl) ⟨_,rfl,rfl,ze _ _⟩
        case o4=>
          refine LnOp.sd (λA va w' k hF hT hk hJ hb hu hp hd=>?_);have e1:=hF 1 rfl;exact zu _ rfl ⟨_,rfl,e1,ze _ _⟩
        case o5=>
          refine LnOp.sd (λA va w' k hF hT hk hJ hb hu hp hd=>?_);have e1:=(hT 25 3 (by simp) rfl).trans (hd ⟨3,.data⟩ (by simp) rfl rfl);have e2:=(hT 26 4 (by simp) rfl).trans (hd ⟨4,.data⟩ (by simp) rfl rfl);exact zhn (e:=3) rfl (by kernel_rfl) (by kernel_rfl) (e1) (e2) rfl (by omega) ⟨_,rfl,rfl,ze _ _⟩
        case o6=>
          refine LnOp.sd (λA va w' k hF hT hk hJ hb hu hp hd=>?_);have e1:=(hT 27 5 (by simp) rfl).trans (hd ⟨5,.data⟩ (by simp) rfl rfl);exact zbv (k:=.i64) rfl (e1) (by kernel_rfl) ((by simpa using((zag ((BakJ.grown hJ).block mb (zm hmb q.size) (λe=>by injection e with e;omega)) _).trans ((q.cell (p:=⟨mb,mo+n,none⟩) hmb).trans c0)))) ⟨_,rfl,rfl,ze _ _⟩
        case o7=>
          refine LnOp.sd (λA va w' k hF hT hk hJ hb hu hp hd=>?_);have e1:=(hT 23 1 (by simp) rfl).trans (hd ⟨1,.data⟩ (by simp) rfl rfl);have e2:=(hT 28 6 (by simp) rfl).trans (hd ⟨6,.data⟩ (by simp) rfl rfl);have hr:=(hw.below q).keep λk (hk:k<w.heap.size)=>(BakJ.grown hJ).block k (zm hk q.size) (λe=>by injection e with e;omega)
          exact zlv wrP.toLsP rfl e1 hr rfl (congrArg some e2) (zax _ (by omega)) (λad' c' h'=>⟨_,rfl,⟨ad',c',by rw[hml];rfl,by rw[hml];simpa using h'⟩,ze _ _⟩) (by omega) (by omega)
        case o8=>
          refine LnOp.sd (λA va w' k hF hT hk hJ hb hu hp hd=>?_);have e1:=hF 2 rfl;exact zaf dlS rfl (e1) (by omega) ⟨_,rfl,rfl,ze _ _⟩
        case o9=>
          refine LnOp.sd (λA va w' k hF hT hk hJ hb hu hp hd=>?_);have e1:=(hT 30 8 (by simp) rfl).trans (hd ⟨8,.data⟩ (by simp) rfl rfl);exact zae (e:=3) rfl (e1) (by kernel_rfl) ((bn.other (BakJ.grown hJ) (by simp)).cell (i:=1) rfl) ⟨_,rfl,rfl,ze _ _⟩
        case o10=>
          refine LnOp.sd (λA va w' k hF hT hk hJ hb hu hp hd=>?_);have e1:=hF 1 rfl;exact zu _ rfl ⟨_,rfl,e1,ze _ _⟩
        case o11=>
          refine LnOp.sd (λA va w' k hF hT hk hJ hb hu hp hd=>?_);have e1:=(hT 32 10 (by simp) rfl).trans (hd ⟨10,.data⟩ (by simp) rfl rfl);exact zbq rfl (e1) (rfl) (by omega) (by omega) ⟨_,rfl,rfl,ze _ _⟩
        case o12=>
          refine LnOp.sd (λA va w' k hF hT hk hJ hb hu hp hd=>?_);have e1:=(hT 31 9 (by simp) rfl).trans (hd ⟨9,.data⟩ (by simp) rfl rfl);have e2:=(hT 33 11 (by simp) rfl).trans (hd ⟨11,.data⟩ (by simp) rfl rfl);have hr:=(hm.below q).keep λk (hk:k<w.heap.size)=>(BakJ.grown hJ).block k (zm hk q.size) (λe=>by injection e with e;omega)
          exact zlv inP.toLsP rfl e1 hr rfl (congrArg some e2) (zax (h:=n+1) _ (by omega)) (λad' c' h'=>⟨_,rfl,⟨ad',c',by rw[hnl];rfl,by rw[hnl];simpa using h'⟩,ze _ _⟩) (by omega) (by omega)
        case o13=>
          refine LnOp.sd (λA va w' k hF hT hk hJ hb hu hp hd=>?_);have x1:A.eval (.tmp 29)=va 7:=hT 29 7 (by simp) rfl;have y1:=hd ⟨7,.data⟩ (by simp) rfl rfl;have x2:A.eval (.tmp 34)=va 12:=hT 34 12 (by simp) rfl;have y2:=hd ⟨12,.data⟩ (by simp) rfl rfl;obtain⟨a7,c7,e7,h7⟩:=y1;obtain⟨a8,c8,e8,h8⟩:=y2;exact zly dlS rfl (x1.trans e7) (x2.trans e8) rfl rfl ⟨_,rfl,⟨a7,c7,a8,c8,rfl,h7,h8⟩,ze _ _⟩
        case o14=>
          refine LnOp.line 0 rfl rfl (λA va w' hF hT hJ hu hd=>?_);have x1:A.eval (.tmp 35)=va 13:=hT 35 13 (by simp) rfl;have y1:=hd ⟨13,.data⟩ (by simp) rfl rfl;have hJ0:Below w4.heap.size w4 w':=hJ;refine zah rfl eC (args:=#[va 13]) (by simp only[zE,zn,zo,x1]) ((zdh w' y1 hs2).mono ?_);rintro e w2 ⟨v2,rfl,ho,hb2⟩;exact⟨_,rfl,_,rfl,⟨hJ0.trans (hb2.mono hJ0.size),(ho.rd).weak λk hk=>⟨zv hJ0.size hk.1,hk.2⟩⟩,za4 hb2 _⟩
        case o15=>
          refine LnOp.line 1 rfl rfl (λA va w' hF hT hJ hu hd=>?_);have e1:=hF 4 rfl;have x2:A.eval (.tmp 36)=va 14:=hT 36 14 (by simp) rfl;obtain⟨hJ0,a7,c7,a8,c8,e7,h7,h8⟩:=hJ;refine za3 (us:=[.slice a7 _ c7,.slice a8 _ c8]) (by kernel_rfl) rfl e1 (x2.trans e7) rfl (bz.below hJ0 (by omega)) rfl (λw2 hg hB2=>?_);exact⟨_,rfl,⟨(zb0 hJ0 rfl _).andThen hg (by simp),a7,c7,a8,c8,hB2,(h7.keep λk hk=>hg.block k hk.2 λe=>by injection e with e;omega).weak λk hk=>⟨hk.1,zm hk.2 hg.size⟩,(h8.keep λk hk=>hg.block k hk.2 λe=>by injection e with e;omega).weak λk hk=>⟨hk.1,zm hk.2 hg.size⟩⟩,hg⟩
        case o16=>
          refine LnOp.sd (λA va w' k hF hT hk hJ hb hu hp hd=>?_);exact yV _ rfl ⟨_,rfl,rfl,ze _ _⟩
        case fin=>
          intro vs1 W9 hJ hG;obtain⟨hg9,a9,c9,a8,c8,hB9,h7,h8⟩:=hJ;have g16:vs1 16=.int .i64 0:=hG 16 (by decide) rfl;clear hG;simp only[zaj,g16];clear g16;have d0:=hB9.cell (i:=0) rfl;have d1:=hB9.cell (i:=1) rfl;go_simp;go_wp2_with fail;obtain⟨fs,hu,_⟩:=dlS.hu;refine zD (v:=.tuple #[.agg #[.slice a9 (d.writes.take m).length c9,.slice a8 (d.marks.take (n+1)).length c8],.int .i64 0]) (by simp[results,Tryz.results38,go_sem,loadVar,isAgg,zr hu,zaa dlS.hs,loadCellsFrom,Addr.add,d0,d1]) rfl ?_;rw[zff,HK.out];exact⟨_,rfl,⟨a9,c9,a8,c8,rfl,h7.weak λk hk=>⟨by omega,hk.2⟩,h8.weak λk hk=>⟨by omega,hk.2⟩⟩,q.grown hg9 q.size λk e=>by injection e with e;omega⟩
      · have dj:decide ((d.marks.length:Int)<=i)=true:=zk (by omega)
        have HK:=Lib.hid (show zc0 d i=(d,1)by unfold zc0;rw[zh (λh=>by omega)]);have HKx:=HK;go_wp2_with fail;refine(zdh w4 (hd.below q) hs).mono ?_;rintro e w5⟨_,rfl,ho,hb5⟩;obtain⟨wa,wc,ma,mc,rfl,h7,h8⟩:=ho.rd;have z5:=hb5.size;have q5:=q.trans (hb5.mono q.size);have hBZ:=bz.below hb5 bz.lt;go_wp2_with(first|(refine zab (us:=[.slice wa d.writes.length wc,.slice ma d.marks.length mc]) (by kernel_rfl) rfl rfl rfl rfl rfl rfl hBZ rfl ?_;intro wd hgd hBd)|fail);have d0:=hBd.cell (i:=0) rfl;have d1:=hBd.cell (i:=1) rfl;obtain⟨fs,hu,_⟩:=dlS.hu;refine zD (v:=.tuple #[.agg #[.slice wa d.writes.length wc,.slice ma d.marks.length mc],.int .i64 1]) (by simp[results,Tryz.results38,go_sem,loadVar,isAgg,zr hu,zaa dlS.hs,loadCellsFrom,Addr.add,d0,d1]) rfl ?_;rw[zff,HKx.out];exact⟨_,rfl,⟨wa,wc,ma,mc,rfl,(h7.keep λk hk=>hgd.block k hk.2 λe=>by injection e with e;omega).weak λk hk=>⟨by omega,zm hk.2 hgd.size⟩,(h8.keep λk hk=>hgd.block k hk.2 λe=>by injection e with e;omega).weak λk hk=>⟨by omega,zm hk.2 hgd.size⟩⟩,q5.grown hgd q5.size λk e=>by injection e with e;omega⟩
  · have dok:decide (okD d)=false:=zj hok
    have HK:=Lib.hid (show zc0 d i=(d,1)by unfold zc0;rw[zh (λh=>hok h.1)]);have HKx:=HK;go_wp2_with fail;refine(zdh w4 (hd.below q) hs).mono ?_;rintro e w5⟨_,rfl,ho,hb5⟩;obtain⟨wa,wc,ma,mc,rfl,h7,h8⟩:=ho.rd;have z5:=hb5.size;have q5:=q.trans (hb5.mono q.size);have hBZ:=bz.below hb5 bz.lt;go_wp2_with(first|(refine zab (us:=[.slice wa d.writes.length wc,.slice ma d.marks.length mc]) (by kernel_rfl) rfl rfl rfl rfl rfl rfl hBZ rfl ?_;intro wd hgd hBd)|fail);have d0:=hBd.cell (i:=0) rfl;have d1:=hBd.cell (i:=1) rfl;obtain⟨fs,hu,_⟩:=dlS.hu;refine zD (v:=.tuple #[.agg #[.slice wa d.writes.length wc,.slice ma d.marks.length mc],.int .i64 1]) (by simp[results,Tryz.results38,go_sem,loadVar,isAgg,zr hu,zaa dlS.hs,loadCellsFrom,Addr.add,d0,d1]) rfl ?_;rw[zff,HKx.out];exact⟨_,rfl,⟨wa,wc,ma,mc,rfl,(h7.keep λk hk=>hgd.block k hk.2 λe=>by injection e with e;omega).weak λk hk=>⟨by omega,zm hk.2 hgd.size⟩,(h8.keep λk hk=>hgd.block k hk.2 λe=>by injection e with e;omega).weak λk hk=>⟨by omega,zm hk.2 hgd.size⟩⟩,q5.grown hgd q5.size λk e=>by injection e with e;omega⟩
def mayS(x:Sp):Prop:=0<=x.table/\x.table<=3/\x.lo.length<=17/\x.hi.length<=17/\(x.isOpen=true->x.hi=[])
instance(x:Sp):Decidable (mayS x):=by unfold mayS;exact inferInstance
def zem (x:Sp):Bool:=!x.isOpen&&!ltB x.lo x.hi
def inT (x:Sp)(t:Int)(k:List UInt8):Bool:=decide (x.table=t)&&inS x k
def meetsS(a b:Sp):Bool:=(inT a a.table a.lo&&inT b a.table a.lo)||(inT a a.table b.lo&&inT b a.table b.lo)
def za8 (t:Int)(k:List UInt8):Sp:=⟨t,k,k++[0],false⟩
def shortS (x:Sp):Prop:=x.lo.length<=100/\x.hi.length<=100
instance(x:Sp):Decidable (shortS x):=by unfold shortS;exact inferInstance
def fewS (l:List Sp):Prop:=l.length<=100/\∀x∈l,x.lo.length<=100/\x.hi.length<=100
instance (l:List Sp):Decidable (fewS l):=by unfold fewS;exact inferInstance
def okA (l:List Sp)(x:Sp)(m:Int):Prop:=mayS x/\(∀y∈l,mayS y)/\1<=m/\m<=100
instance(l:List Sp)(x:Sp)(m:Int):Decidable (okA l x m):=by unfold okA;exact inferInstance
def spC (x:Sp)(k v:Value):List Value:=[.int .i64 x.table,k,v,.bool x.isOpen]
def Elt.sp:Elt Sp where
 size:=4;pos:=by omega
 R S w x vs:=∃k v,vs=spC x k v/\RdS S w k x.lo/\RdS S w v x.hi/\W64 x.table;len:=by rintro _ _ _ _ ⟨_,_,rfl,_⟩;rfl
 keep:=by rintro _ _ _ _ _ ⟨k,v,rfl,h,h1,h2⟩hk;exact⟨k,v,rfl,h.keep hk,h1.keep hk,h2⟩
 weak:=by rintro _ _ _ _ _ ⟨k,v,rfl,h,h1,h2⟩hk;exact⟨k,v,rfl,h.weak hk,h1.weak hk,h2⟩
 fit:=by rintro _ _ _ _ ⟨k,v,rfl,h,h1,h2⟩;exact⟨k,v,rfl,h.fit,h1.fit,h2⟩
 one:=by
  rintro _ _ _ _ ⟨k,v,rfl,h,h1,_⟩u hu;have h3:=h.one;have h4:=h1.one;simp only[spC,zU,yJ,yK]at hu;rcases hu with rfl|rfl|rfl|rfl
  ·rfl
  ·exact h3
  ·exact h4
  ·rfl
theorem spS:StP Tryz.prog 67 4:=StP.of (by kernel_rfl)
section
variable {S S' : Nat → Prop} {w w' : World} {v : Value}
theorem RdSp.weak{x:Sp}(h:RdSp S w v x)(hs:∀k,S k->S' k):RdSp S' w v x:=by
 obtain⟨a,c,a2,c2,e,h1,h2,h3⟩:=h;exact⟨a,c,a2,c2,e,h1.weak hs,h2.weak hs,h3⟩
end
def SpEnd(w:World)(x:Sp)(e:Ending)(w':World):Prop:=∃v,e=.returned v/\RdSp (λk=>w.heap.size<=k/\k<w'.heap.size) w' v x/\Below w.heap.size w w'
theorem zeb(w:World)(t:TypeId)(us:List Value):∃W,W=w.alloc (.cells us.toArray t)/\Below w.heap.size w W/\BoxN W w.heap.size t us/\W.heap.size=w.heap.size+1:=
 ⟨_,rfl,(ze _ _).alloc (zf _) _,BoxN.new _ _ _,by simp only[World.alloc,wg]⟩
theorem ze2(w:World)(t t2:TypeId)(us vs:List Value):∃W,W=(w.alloc (.cells us.toArray t)).alloc (.cells vs.toArray t2)/\Below w.heap.size w W/\BoxN W w.heap.size t us/\BoxN W (w.heap.size+1) t2 vs/\W.heap.size=w.heap.size+1+1:=by
 have h1:Below w.heap.size w (w.alloc (.cells us.toArray t)):=(ze _ _).alloc (zf _) _;have hs:(w.alloc (.cells us.toArray t)).heap.size=w.heap.size+1:=by simp only[World.alloc,wg]
 have hb:=BoxN.new (w.alloc (.cells us.toArray t)) t2 vs;rw[hs]at hb;exact⟨_,rfl,h1.alloc h1.size _,(BoxN.new w t us).below ((ze _ _).alloc (zf _) _) (by rw[hs];omega),hb,by simp only[World.alloc,wg]⟩
theorem spBoxes3(w:World)(t t2 t3:TypeId)(us vs ys:List Value):∃W,W=((w.alloc (.cells us.toArray t)).alloc (.cells vs.toArray t2)).alloc (.cells ys.toArray t3)/\Below w.heap.size w W/\BoxN W w.heap.size t us/\BoxN W (w.heap.size+1) t2 vs/\BoxN W (w.heap.size+1+1) t3 ys/\W.heap.size=w.heap.size+1+1+1:=by
 obtain⟨V,hV,h1,h2,h3,h4⟩:=ze2 w t t2 us vs;have hb:=BoxN.new V t3 ys;have hg:Below V.heap.size V (V.alloc (.cells ys.toArray t3)):=(ze _ _).alloc (zf _) _;rw[h4]at hb;exact⟨_,by rw[hV],h1.trans (hg.mono h1.size),h2.below hg h2.lt,h3.below hg h3.lt,hb,by simp only[World.alloc,wg,h4]⟩
def kn (a:Int):Bool:=decide (1<=a)&&decide (a<=5)
def fitM (a b:Int):Bool:=kn a&&kn b&&((a==1&&b !=5)||(b==1&&a !=5)||(a==2&&b==2)||(a==3&&b==3))
def aboM(a:Int):Int:=if a==1||a==3 then 1 else if a==2||a==4||a==5 then 2 else 0
theorem md_cases(a:Int):a=1\/a=2\/a=3\/a=4\/a=5\/kn a=false:=by
  by_cases h1:1<=a
  · by_cases h2:a<=5
    ·omega
    ·simp[kn,h2]
  ·simp[kn,h1]
theorem abo_none{a:Int}(h:kn a=false):aboM a=0:=by
 have:a≠1/\a≠2/\a≠3/\a≠4/\a≠5:=by
  simp only[kn,wW,wD]at h;omega
 simp[aboM,this]
theorem kn_ne{a:Int}(h:kn a=false):a≠1/\a≠2/\a≠3/\a≠4/\a≠5:=by
 simp only[kn,wW,wD]at h;omega
structure Lk where
 owner:Int
 whole:Bool
 span:Sp
 mode:Int
deriving DecidableEq
def zva(a b:Lk):Bool:=!decide (a.owner=b.owner)&&decide (a.span.table=b.span.table)&&(a.whole==b.whole)&&(if a.whole then !fitM a.mode b.mode else meetsS a.span b.span&&(a.mode==5||b.mode==5))
def sameL(x y:Lk):Bool:=decide (y.owner=x.owner)&&x.whole&&y.whole&&decide (x.span.table=y.span.table)
def fine(x:Lk):Bool:=decide (0<=x.owner)&&decide (x.owner<4)&&decide (mayS x.span)&&(if x.whole then kn x.mode&&!x.span.isOpen&&decide (x.span.lo.length+x.span.hi.length=0)else !zem x.span&&(x.mode==3||x.mode==5))
def blk(x:Lk)(H Q:List Lk):Bool:=H.any (zva x)||Q.any (zva x)
def okH(H:List Lk):Prop:=H.Pairwise λy x=>zva x y=false/\sameL x y=false
def okQ(H Q:List Lk):Prop:=∀i(h:i<Q.length),blk Q[i] H (Q.take i)=true/\∀y∈Q.take i,y.owner≠Q[i].owner
def okLk(H Q:List Lk):Prop:=H.length+Q.length<=40/\(∀x∈H,fine x=true)/\(∀x∈Q,fine x=true)/\okH H/\okQ H Q
instance(H:List Lk):Decidable (okH H):=by unfold okH;exact inferInstance
instance(H Q:List Lk):Decidable (okQ H Q):=by unfold okQ;exact inferInstance
instance(H Q:List Lk):Decidable (okLk H Q):=by unfold okLk;exact inferInstance
def nodup(l:List Lk):Prop:=l.Pairwise λy x=>y.owner≠x.owner
structure Tx where
 kind:Int
 table:Int
 key:List UInt8
 hi:List UInt8
 isOpen:Bool
 val:List UInt8
 n:Int
deriving DecidableEq
structure Rp where
 err:Nat
 found:Bool
 val:List UInt8
 pairs:List Pq
deriving DecidableEq
def okX (o:Tx):Prop:=(1<=o.kind/\o.kind<=11/\0<=o.table/\o.table<=3/\o.key.length<=16/\o.hi.length<=16/\(o.isOpen=true->o.hi.length=0)/\o.val.length<=32)/\(o.kind=8->o.n=3\/o.n=5)/\(o.kind=11->o.n=0\/o.n=1)/\(o.kind=7->0<=o.n/\o.n<=3)
instance(o:Tx):Decidable (okX o):=by unfold okX;infer_instance
def zay (o:Tx):Sp:=⟨o.table,o.key,o.hi,o.isOpen⟩
def zj1 (o:Tx)(u m:Int):Lk:=⟨u,true,⟨o.table,[],[],false⟩,m⟩
def oneX (o:Tx)(u m:Int):Lk:=⟨u,false,za8 o.table o.key,m⟩
def zdw (o:Tx)(u:Int):List Lk:=
 if¬okX o then[]else if o.kind=1 then[zj1 o u 1,oneX o u 3]
 else if o.kind=2\/o.kind=3\/o.kind=4 then[zj1 o u 2,oneX o u 5]
 else if o.kind=5 then(if zem (zay o)=true then[zj1 o u 1]else[zj1 o u 1,⟨u,false,zay o,3⟩])
 else if o.kind=8 then[zj1 o u o.n]else[]
def zed(o:Tx):List Sp:=
 if¬okX o then[]else if o.kind=1\/o.kind=3\/o.kind=4 then[za8 o.table o.key]else if o.kind=5 then[zay o]else[]
def valX(d:Dl)(l:List Pr)(s t:Int)(k:List UInt8):List UInt8×Bool:=
 match zf8 d ⟨t,k⟩with
 |some w=>(w.val,!w.gone)
 |none=>match getP l k s with
  |some v=>(v,true)
  |none=>([],false)
def putX (d:Dl)(w:Wr):Dl×Rp:=((putD d w).1,⟨(putD d w).2,false,[],[]⟩)
def onX(d:Dl)(l:List Pr)(s:Int)(o:Tx):Dl×Rp:=
 if o.kind=1 then(d,⟨0,(valX d l s o.table o.key).2,(valX d l s o.table o.key).1,[]⟩)
 else if o.kind=2 then putX d ⟨o.table,o.key,false,o.val⟩
 else if o.kind=3 then(if(valX d l s o.table o.key).2=true then(d,⟨150,false,[],[]⟩)else putX d ⟨o.table,o.key,false,o.val⟩)
 else if o.kind=4 then(if(valX d l s o.table o.key).2=true then putX d ⟨o.table,o.key,true,[]⟩else(d,⟨151,false,[],[]⟩))
 else if o.kind=5 then(d,⟨0,false,[],zi3 d (zay o) (zbr l (zay o) s)⟩)
 else if o.kind=6 then((zc8 d).1,⟨(zc8 d).2,false,[],[]⟩)
 else if o.kind=7 then((zc0 d o.n).1,⟨(zc0 d o.n).2,false,[],[]⟩)
 else(d,⟨0,false,[],[]⟩)
noncomputable def doX(d:Dl)(T:Sto)(s:Int)(o:Tx):Dl×Rp:=if okS T/\okD d/\okX o then onX d (zrx (tabS T) o.table) s o else(d,⟨1,false,[],[]⟩)
theorem ze7{d:Dl}{T:Sto}{s:Int}{o:Tx}(h1:okS T)(h2:okD d)(h3:okX o):doX d T s o=onX d (zrx (tabS T) o.table) s o:=by
 unfold doX;rw[zi ⟨h1,h2,h3⟩]
theorem zhx{d:Dl}{T:Sto}{s:Int}{o:Tx}(h:¬(okS T/\okD d/\okX o)):doX d T s o=(d,⟨1,false,[],[]⟩):=by
 unfold doX;rw[zh h]
def Tx64 (x:Tx):Prop:=W64 x.kind/\W64 x.table/\W64 x.n
theorem txS:StP Tryz.prog 25 7:=StP.of (by kernel_rfl)
def RdTx (S:Nat->Prop)(w:World)(v:Value)(x:Tx):Prop:=∃a a2 a3 c c2 c3,v=.agg #[.int .i64 x.kind,.int .i64 x.table,.slice a x.key.length c,.slice a2 x.hi.length c2,.bool x.isOpen,.slice a3 x.val.length c3,.int .i64 x.n]/\RdS S w (.slice a x.key.length c) x.key/\RdS S w (.slice a2 x.hi.length c2) x.hi/\RdS S w (.slice a3 x.val.length c3) x.val/\Tx64 x
section
variable {S S' : Nat → Prop} {w w' : World} {v : Value} {x : Tx}
theorem RdTx.keep(h:RdTx S w v x)(hk:∀k,S k->w'.heap[k]?=w.heap[k]?):RdTx S w' v x:=by
 obtain⟨a,a2,a3,c,c2,c3,e,h1,h2,h3,h4⟩:=h;exact⟨a,a2,a3,c,c2,c3,e,h1.keep hk,h2.keep hk,h3.keep hk,h4⟩
theorem RdTx.below(h:RdTx S w v x)(hb:Below w.heap.size w w'):RdTx S w' v x:=by
 obtain⟨a,a2,a3,c,c2,c3,e,h1,h2,h3,h4⟩:=h;exact⟨a,a2,a3,c,c2,c3,e,h1.below hb,h2.below hb,h3.below hb,h4⟩
theorem RdTx.weak(h:RdTx S w v x)(hs:∀k,S k->S' k):RdTx S' w v x:=by
 obtain⟨a,a2,a3,c,c2,c3,e,h1,h2,h3,h4⟩:=h;exact⟨a,a2,a3,c,c2,c3,e,h1.weak hs,h2.weak hs,h3.weak hs,h4⟩
theorem RdTx.fit (h:RdTx S w v x):RdTx (λk=>S k/\k<w.heap.size) w v x:=by
 obtain⟨a,a2,a3,c,c2,c3,e,h1,h2,h3,h4⟩:=h;exact⟨a,a2,a3,c,c2,c3,e,h1.fit,h2.fit,h3.fit,h4⟩
end
def errX(x:Tx):Nat:=if okX x then 0 else 1
def badX (x:Tx):Prop:=x.kind<1\/11<x.kind\/x.table<0\/3<x.table\/16<x.key.length\/16<x.hi.length\/(x.isOpen=true/\0<x.hi.length)\/32<x.val.length
instance (x:Tx):Decidable (badX x):=by unfold badX;infer_instance
theorem okX_iff(x:Tx):okX x↔¬badX x/\(x.kind=8->x.n=3\/x.n=5)/\(x.kind=11->x.n=0\/x.n=1)/\(x.kind=7->0<=x.n/\x.n<=3):=by
 unfold okX badX;cases x.isOpen<;>simp<;>omega
def zfn(x:Tx):Prop:=x.key.length<=100/\x.hi.length<=100/\x.val.length<=100
instance(x:Tx):Decidable (zfn x):=by unfold zfn;infer_instance
def numX (x:Tx):Prop:=(x.kind=8->x.n=3\/x.n=5)/\(x.kind=11->x.n=0\/x.n=1)/\(x.kind=7->0<=x.n/\x.n<=3)
instance (x:Tx):Decidable (numX x):=by unfold numX;infer_instance
theorem zdt{x:Tx}:okX x↔¬badX x/\numX x:=okX_iff x
theorem zhv(w:World){S:Nat->Prop}{v:Value}{x:Tx}(hx:RdTx S w v x):Calls Tryz.prog 36 #[v] w λe w'=>e=.returned (.bool (decide (numX x)))/\Below w.heap.size w w':=by
  obtain⟨a,a2,a3,c,c2,c3,rfl,hk1,hk2,hk3,ht⟩:=hx;unfold Tx64 W64 at ht;clear hk1 hk2 hk3;obtain⟨W,hW,q,Bx,hsz⟩:=zeb w 25 [.int .i64 x.kind,.int .i64 x.table,.slice a x.key.length c,.slice a2 x.hi.length c2,.bool x.isOpen,.slice a3 x.val.length c3,.int .i64 x.n];clear hsz;go_enter Tryz.func36,Tryz.ntmps36;go_upto_region 1 with(fail);rw[show w.alloc (.cells #[.int .i64 x.kind,.int .i64 x.table,.slice a x.key.length c,.slice a2 x.hi.length c2,.bool x.isOpen,.slice a3 x.val.length c3,.int .i64 x.n] 25)=W from hW.symm];clear hW;have r0:=Bx.cell (i:=0) rfl;have r1:=Bx.cell (i:=1) rfl;have r2:=Bx.cell (i:=2) rfl;have r3:=Bx.cell (i:=3) rfl;have r4:=Bx.cell (i:=4) rfl;have r5:=Bx.cell (i:=5) rfl;have r6:=Bx.cell (i:=6) rfl;clear Bx;by_cases k8:x.kind=8
  · skip
    have g8:(x.kind==8)=true:=zK.2 (by omega);by_cases n3:x.n=3
    · skip
      have f3:(x.n==3)=true:=zK.2 (by omega);have hk:=Lib.hid (show decide (numX x)=true from zk (by unfold numX;omega));go_wp2_with fail;go_ret;exact⟨by rw[hk.out];try rfl,q⟩
    by_cases n5:x.n=5
    · skip
      have f3:(x.n==3)=false:=zt.2 (by omega);have f5:(x.n==5)=true:=zK.2 (by omega);have hk:=Lib.hid (show decide (numX x)=true from zk (by unfold numX;omega));go_wp2_with fail;go_ret;exact⟨by rw[hk.out];try rfl,q⟩
    have f3:(x.n==3)=false:=zt.2 (by omega);have f5:(x.n==5)=false:=zt.2 (by omega);have hk:=Lib.hid (show decide (numX x)=false from zj (by unfold numX;omega));go_wp2_with fail;go_ret;exact⟨by rw[hk.out];try rfl,q⟩
  have g8:(x.kind==8)=false:=zt.2 (by omega);by_cases k11:x.kind=11
  · skip
    have g11:(x.kind==11)=true:=zK.2 (by omega);by_cases n0:x.n=0
    · skip
      have f0:(x.n==0)=true:=zK.2 (by omega);have hk:=Lib.hid (show decide (numX x)=true from zk (by unfold numX;omega));go_wp2_with fail;go_ret;exact⟨by rw[hk.out];try rfl,q⟩
    by_cases n1:x.n=1
    · skip
      have f0:(x.n==0)=false:=zt.2 (by omega);have f1:(x.n==1)=true:=zK.2 (by omega);have hk:=Lib.hid (show decide (numX x)=true from zk (by unfold numX;omega));go_wp2_with fail;go_ret;exact⟨by rw[hk.out];try rfl,q⟩
    have f0:(x.n==0)=false:=zt.2 (by omega);have f1:(x.n==1)=false:=zt.2 (by omega);have hk:=Lib.hid (show decide (numX x)=false from zj (by unfold numX;omega));go_wp2_with fail;go_ret;exact⟨by rw[hk.out];try rfl,q⟩
  have g11:(x.kind==11)=false:=zt.2 (by omega);by_cases k7:x.kind=7
  · skip
    have g7:(x.kind==7)=true:=zK.2 (by omega);by_cases m0:0<=x.n
    · skip
      by_cases m3:x.n<4
      · skip
        have hk:=Lib.hid (show decide (numX x)=true from zk (by unfold numX;omega));go_wp2_with fail;go_ret;exact⟨by rw[hk.out];try rfl,q⟩
      have hk:=Lib.hid (show decide (numX x)=false from zj (by unfold numX;omega));go_wp2_with fail;go_ret;exact⟨by rw[hk.out];try rfl,q⟩
    have hk:=Lib.hid (show decide (numX x)=false from zj (by unfold numX;omega));go_wp2_with fail;go_ret;exact⟨by rw[hk.out];try rfl,q⟩
  have g7:(x.kind==7)=false:=zt.2 (by omega);have hk:=Lib.hid (show decide (numX x)=true from zk (by unfold numX;omega));go_wp2_with fail;go_ret;exact⟨by rw[hk.out];try rfl,q⟩
theorem tCheckX_any(w:World){S:Nat->Prop}{v:Value}{x:Tx}(hx:RdTx S w v x):Calls Tryz.prog 17 #[v] w λe w'=>e=.returned (.int .i64 (errX x:Nat))/\Below w.heap.size w w':=by
  have hx0:=hx;obtain⟨a,a2,a3,c,c2,c3,rfl,hk1,hk2,hk3,ht⟩:=hx;obtain⟨_,hc1,hm1⟩:=hk1.len;obtain⟨_,hc2,hm2⟩:=hk2.len;obtain⟨_,hc3,hm3⟩:=hk3.len;unfold maxLen at hm1 hm2 hm3;unfold Tx64 W64 at ht;clear hk1 hk2 hk3;obtain⟨W,hW,q,Bx,hsz⟩:=zeb w 25 [.int .i64 x.kind,.int .i64 x.table,.slice a x.key.length c,.slice a2 x.hi.length c2,.bool x.isOpen,.slice a3 x.val.length c3,.int .i64 x.n];clear hsz;go_enter Tryz.func17,Tryz.ntmps17;go_upto_region 1 with(fail);rw[show w.alloc (.cells #[.int .i64 x.kind,.int .i64 x.table,.slice a x.key.length c,.slice a2 x.hi.length c2,.bool x.isOpen,.slice a3 x.val.length c3,.int .i64 x.n] 25)=W from hW.symm];clear hW;have r0:=Bx.cell (i:=0) rfl;have r1:=Bx.cell (i:=1) rfl;have r2:=Bx.cell (i:=2) rfl;have r3:=Bx.cell (i:=3) rfl;have r4:=Bx.cell (i:=4) rfl;have r5:=Bx.cell (i:=5) rfl;have r6:=Bx.cell (i:=6) rfl;clear Bx;replace hx0:=hx0.below q;by_cases c0:x.kind<1
  · skip
    have hk:=Lib.hid (show errX x=1 from zh (λh=>(zdt.1 h).1 (by unfold badX;omega)));go_wp2_with fail;go_ret;exact⟨by rw[hk.out];rfl,q⟩
  by_cases c1:11<x.kind
  · skip
    have hk:=Lib.hid (show errX x=1 from zh (λh=>(zdt.1 h).1 (by unfold badX;omega)));go_wp2_with fail;go_ret;exact⟨by rw[hk.out];rfl,q⟩
  by_cases c2:x.table<0
  · skip
    have hk:=Lib.hid (show errX x=1 from zh (λh=>(zdt.1 h).1 (by unfold badX;omega)));go_wp2_with fail;go_ret;exact⟨by rw[hk.out];rfl,q⟩
  by_cases c3:4<=x.table
  · skip
    have hk:=Lib.hid (show errX x=1 from zh (λh=>(zdt.1 h).1 (by unfold badX;omega)));go_wp2_with fail;go_ret;exact⟨by rw[hk.out];rfl,q⟩
  by_cases c4:16<(x.key.length:Int)
  · skip
    have hk:=Lib.hid (show errX x=1 from zh (λh=>(zdt.1 h).1 (by unfold badX;omega)));go_wp2_with fail;go_ret;exact⟨by rw[hk.out];rfl,q⟩
  by_cases c5:16<(x.hi.length:Int)
  · skip
    have hk:=Lib.hid (show errX x=1 from zh (λh=>(zdt.1 h).1 (by unfold badX;omega)));go_wp2_with fail;go_ret;exact⟨by rw[hk.out];rfl,q⟩
  by_cases c6:32<(x.val.length:Int)
  · skip
    have hk:=Lib.hid (show errX x=1 from zh (λh=>(zdt.1 h).1 (by unfold badX;omega)));go_wp2_with fail;go_ret;exact⟨by rw[hk.out];rfl,q⟩
  obtain⟨b4,eb4⟩:∃b,b=x.isOpen:=⟨_,rfl⟩;rw[<-eb4]at r4 hx0;replace eb4:=Lib.hid eb4;cases b4 with
  |true=>
    by_cases c7:0<(x.hi.length:Int)
    · skip
      have e6:0<x.hi.length:=by omega
      have hk:=Lib.hid (show errX x=1 from zh (λh=>(zdt.1 h).1 (.inr (.inr (.inr (.inr (.inr (.inr (.inl ⟨eb4.out.symm,by omega⟩)))))))));go_wp2_with fail;go_ret;exact⟨by rw[hk.out];rfl,q⟩
    have e6:¬0<x.hi.length:=by omega
    have nb:¬badX x:=λh=>by unfold badX at h;rw[<-eb4.out]at h;simp at h;omega
    go_wp2_with fail;refine(zhv W hx0).mono ?_;rintro e w1 ⟨rfl,hb⟩;replace q:=q.trans (hb.mono q.size);clear hb;by_cases hn:numX x
    · rw[zk hn]
      have hk:=Lib.hid (show errX x=0 from zi (zdt.2 ⟨nb,hn⟩));go_wp2_with fail;go_ret;exact⟨by rw[hk.out];rfl,q⟩
    · rw[zj hn]
      have hk:=Lib.hid (show errX x=1 from zh (λh=>hn (zdt.1 h).2));go_wp2_with fail;go_ret;exact⟨by rw[hk.out];rfl,q⟩
  |false=>
    have nb:¬badX x:=λh=>by unfold badX at h;rw[<-eb4.out]at h;simp at h;omega
    go_wp2_with fail;refine(zhv W hx0).mono ?_;rintro e w1 ⟨rfl,hb⟩;replace q:=q.trans (hb.mono q.size);clear hb;by_cases hn:numX x
    · rw[zk hn]
      have hk:=Lib.hid (show errX x=0 from zi (zdt.2 ⟨nb,hn⟩));go_wp2_with fail;go_ret;exact⟨by rw[hk.out];rfl,q⟩
    · rw[zj hn]
      have hk:=Lib.hid (show errX x=1 from zh (λh=>hn (zdt.1 h).2));go_wp2_with fail;go_ret;exact⟨by rw[hk.out];rfl,q⟩
def zgc(T:Sto):Prop:=∀j,j<4->zce 5 (T j)=true
instance(T:Sto):Decidable (zgc T):=by unfold zgc;infer_instance
theorem ziz{T:Sto}(h:okS T)(t:Int):zcp T t=if 0<=t/\t<4 then tabS T t.toNat else[]:=by
 unfold zcp;by_cases h1:0<=t/\t<4;·rw[zi ⟨h1.1,h1.2,h⟩,zi h1];rfl
 ·rw[zh λh2=>h1 ⟨h2.1,h2.2.1⟩,zh h1]
theorem zph(T:Sto)(x:Sp)(s:Int):(zbr (zcp T x.table) x s).length<=60:=by
 refine zv (List.length_filterMap_le _ _) ?_;unfold zcp;split;·rename_i h;exact(h.2.2 _ (by omega)).2
 ·simp
theorem zog{T:Sto}(h:okS T)(t:Int):zrx (tabS T) t=zcp T t:=by
 rw[ziz h];rfl
def shP (l:List Pq):Prop:=l.length<=100/\∀x∈l,x.key.length<=100/\x.val.length<=100
instance(l:List Pq):Decidable (shP l):=by unfold shP;exact inferInstance
def fewD (d:Dl):Prop:=d.writes.length<=30/\d.marks.length<=30/\∀x∈d.writes,x.key.length<=100/\x.val.length<=100
instance (d:Dl):Decidable (fewD d):=by unfold fewD;exact inferInstance
theorem zis(xs:List UInt8):(zap xs).toList=xs:=by simp[zap]
def RdRp(S:Nat->Prop)(w:World)(v:Value)(x:Rp):Prop:=∃a c a2 c2,v=.agg #[.int .i64 (x.err:Int),.bool x.found,.slice a x.val.length c,.slice a2 x.pairs.length c2]/\RdS S w (.slice a x.val.length c) x.val/\RdL Elt.pq S w (.slice a2 x.pairs.length c2) x.pairs
section
variable {S S' : Nat → Prop} {w w' : World} {v : Value} {x : Rp}
theorem RdRp.keep (h:RdRp S w v x)(hk:∀k,S k->w'.heap[k]?=w.heap[k]?):RdRp S w' v x:=by
 obtain⟨a,c,a2,c2,e,h1,h2⟩:=h;exact⟨a,c,a2,c2,e,h1.keep hk,h2.keep hk⟩
theorem RdRp.below(h:RdRp S w v x)(hb:Below w.heap.size w w'):RdRp S w' v x:=by
 obtain⟨a,c,a2,c2,e,h1,h2⟩:=h;exact⟨a,c,a2,c2,e,h1.below hb,h2.below hb⟩
theorem RdRp.weak (h:RdRp S w v x)(hs:∀k,S k->S' k):RdRp S' w v x:=by
 obtain⟨a,c,a2,c2,e,h1,h2⟩:=h;exact⟨a,c,a2,c2,e,h1.weak hs,h2.weak hs⟩
end
theorem wf_I64{s:Int}(h:(Lit.int .i64 s).wf=true):I64' s:=by
 simp[Lit.wf,IntKind.min,IntKind.max,IntKind.signed,IntKind.bits]at h;unfold I64';omega
def ApJ{α:Type}(E:Elt α)(Te:TypeId)(base lo:Nat)(r:Option Nat)(W:World)(xs ys:List α):List Value->World->Prop
 |[],V=>Below W.heap.size W V
 |s::rest,V=>(∀u∈rest,u=s)/\W.grownBy V r/\∃ad c,s=.slice ad (xs++ys).length c/\OwnL E Te base lo V (.slice ad (xs++ys).length c) (xs++ys)
section
variable {α : Type} {E : Elt α} {Te : TypeId} {base lo : Nat} {r : Option Nat} {W : World} {xs ys : List α}
theorem zdl{A B:World}(h:Below A.heap.size A B)(r:Option Nat):A.grownBy B r:=⟨h.os,h.tape,h.output,h.size,λk hk _=>h.block k hk⟩
theorem zhw{A B C:World}(h:A.grownBy B r)(k:B.grownBy C r):A.grownBy C r:=⟨k.os.trans h.os,k.tape.trans h.tape,k.output.trans h.output,zv h.size k.size,λj hj hn=>(k.block j (zm hj h.size) hn).trans (h.block j hj hn)⟩
theorem ApJ.below:∀(l:List Value)(V V':World),ApJ E Te base lo r W xs ys l V->Below V.heap.size V V'->ApJ E Te base lo r W xs ys l V'
 |[],_,_,h,hb=>y8 h (hb.mono (y9 h))
 |_::_,_,_,⟨h0,h1,ad,c,e,h2⟩,hb=>⟨h0,zhw h1 (zdl hb r),ad,c,e,h2.below hb⟩
theorem ApJ.grown:∀{l:List Value}{V:World},ApJ E Te base lo r W xs ys l V->W.grownBy V r
 |[],_,h=>zdl h r
 |_::_,_,⟨_,h,_⟩=>h
theorem RdS.grownR{S:Nat->Prop}{V:World}{v:Value}{l:List UInt8}(h:RdS S W v l)(hg:W.grownBy V r)(hr:∀k,r=some k->¬S k):RdS S V v l:=(h.fit.keep λk hk=>hg.block k hk.2 λe=>hr k e.symm hk.1).weak λ_ hk=>hk.1
theorem RdL.grownR{β:Type}{F:Elt β}{S:Nat->Prop}{V:World}{v:Value}{l:List β}(h:RdL F S W v l)(hg:W.grownBy V r)(hr:∀k,r=some k->¬S k):RdL F S V v l:=(h.fit.keep λk hk=>hg.block k hk.2 λe=>hr k e.symm hk.1).weak λ_ hk=>hk.1
def zgy(S:Nat->Prop)(W V:World):Nat->Prop:=λk=>(S k\/W.heap.size<=k)/\k<V.heap.size
theorem zgy.ne{S:Nat->Prop}{V:World}{k:Nat}(hr:∀k,r=some k->k<W.heap.size)(hS:∀k,S k->some k≠r)(h:zgy S W V k):some k≠r:=by
 rcases h.1 with h1|h1
 ·exact hS k h1
 · intro e;have:=hr k e.symm;omega
def aElt(E:Elt α)(W:World)(r:Option Nat)(S:Nat->Prop)(x:α)(hr:∀k,r=some k->k<W.heap.size)(hS:∀k,S k->some k≠r):SGn (λA B=>A.grownBy B r):=
 ⟨λV v=>∃us:List Value,v.cells=us.toArray/\E.R (zgy S W V) V x us,
 λ_ _ _⟨us,e,h⟩ hb=>⟨us,e,E.weak (Elt.below h hb) λ_ hk=>⟨hk.1,zm hk.2 hb.size⟩⟩,
 λ_ _ _⟨us,e,h⟩hk=>⟨us,e,E.weak (E.keep h λk h2=>hk.block k h2.2 (zgy.ne hr hS h2)) λ_ h2=>⟨h2.1,zm h2.2 hk.size⟩⟩⟩
def aRd (W:World)(r:Option Nat)(S:Nat->Prop)(x:List UInt8)(hr:∀k,r=some k->k<W.heap.size)(hS:∀k,S k->some k≠r):SGn (λA B=>A.grownBy B r):=
 ⟨λV v=>RdS (zgy S W V) V v x,
 λ_ _ _ h hb=>(h.below hb).weak λ_ hk=>⟨hk.1,zm hk.2 hb.size⟩,
 λ_ _ _ h hk=>(h.keep λk h2=>hk.block k h2.2 (zgy.ne hr hS h2)).weak λ_ h2=>⟨h2.1,zm h2.2 hk.size⟩⟩
def aRow (E:Elt α)(Te:TypeId)(W:World)(r:Option Nat)(S:Nat->Prop)(x:α)(hr:∀k,r=some k->k<W.heap.size)(hS:∀k,S k->some k≠r):SGn (λA B=>A.grownBy B r):=
 ⟨λV v=>∃g,∃us:List Value,v=.slice (some ⟨g,0,none⟩) 1 1/\W.heap.size<=g/\V.heap[g]?=some (.cells us.toArray Te (0,0))/\E.R (zgy S W V) V x us,
 λ_ _ _⟨g,us,h,h0,hc,hR⟩hb=>⟨g,us,h,h0,(hb.block g (zJ.1 hc).1).trans hc,E.weak (Elt.below hR hb) λ_ hk=>⟨hk.1,zm hk.2 hb.size⟩⟩,
 λ_ _ _⟨g,us,h,h0,hc,hR⟩hk=>⟨g,us,h,h0,(hk.block g (zJ.1 hc).1 (λe=>by have:=hr g e.symm;omega)).trans hc,E.weak (E.keep hR λk h2=>hk.block k h2.2 (zgy.ne hr hS h2)) λ_ h2=>⟨h2.1,zm h2.2 hk.size⟩⟩⟩
theorem aRow.mk{S:Nat->Prop}{x:α}{us:List Value}{hr:∀k,r=some k->k<W.heap.size}{hS:∀k,S k->some k≠r}{V:World}(hWV:W.heap.size<=V.heap.size) (hR:E.R (zgy S W V) V x us):(aRow E Te W r S x hr hS).1 (V.alloc (.cells us.toArray Te)) (.slice (some ⟨V.heap.size,0,none⟩) 1 1):=by
 have hb:Below V.heap.size V (V.alloc (.cells us.toArray Te)):=(ze _ _).alloc (zf _) _;exact⟨_,us,rfl,hWV,by simp only[World.alloc,yf],E.weak (Elt.below hR hb) λk hk=>⟨hk.1,zm hk.2 hb.size⟩⟩
variable {P : Program} {T : TypeId} {o : Oper} {a : Act} {Q : Exit → Act → World → Prop} {K : Act → World → Prop}
theorem wp_apv (hP:LoP P T Te E.size){x y:Operand}{S:Nat->Prop}{e:α}{hr:∀k,r=some k->k<W.heap.size}{hS:∀k,S k->some k≠r}{V:World}(hJ:Below W.heap.size W V) (ho:o.op=.call {callee:=.builtin .append,args:=#[x,y],argTypes:=#[T,T]}){v u:Value}(hx:a.eval x=v)(hy:a.eval y=u)(hO:OwnL E Te base lo W v xs)(hro:r=v.ownBlock)(hu:(aRow E Te W r S e hr hS).1 V u)(hSl:∀k,S k->lo<=k)(hlo:lo<=W.heap.size)(hbase:base<=W.heap.size)(hlen:xs.length+1<=1073741824)
    (h:∀v' V',ApJ E Te base lo r W xs [e] [v'] V'->V.grownBy V' r->K (a.put o.dst v') V'):o.wp P a V K Q:=by
  obtain⟨g,us,eg,hg0,hgc,hgR⟩:=hu;subst eg;subst hro;refine zd4 (E:=E) (ys:=[e]) hP ho hx (hO.below hJ) hy (λj u hj=>by rw[zN,World.cell?,hgc];simpa using hj) (Flat.single hgR) (λk hk=>⟨?_,hk.2,zgy.ne hr hS hk⟩) (zv hbase hJ.size) (λad7 k7 cap7 w2 h2 hg h3=>?_) hlen
  · rcases hk.1 with h1|h1
    ·exact hSl k h1
    ·exact zv hlo h1
  · obtain rfl:k7=(xs++[e]).length:=h2.len
    exact h _ _ ⟨(λ_ h=>by cases h),zhw (zdl hJ _) hg,ad7,cap7,rfl,h2⟩ hg
variable {ops : Array Oper} {rest : List Oper} {w : World}
theorem zd9{n:Nat}(hP:LoP P T Te n){y:Operand}{v:Value}{us:List Value}(ho:o.op=.buildSlice T 1 #[(0,y)])(hgd:Region.wanted o (yielded ops a.tmps)=true)(hy:a.eval y=v)(hv:v.cells=us.toArray)(hl:us.length=n)(h0:0<n)(hn:n<=4096)(h:∀w',Below w.heap.size w w'->w'.heap[w.heap.size]?=some (.cells us.toArray Te (0,0))->wpList P ops Q rest (a.put o.dst (.slice (some ⟨w.heap.size,0,none⟩) 1 1)) w'):wpList P ops Q (o::rest) a w:=
 zQ hgd λ_ hK=>zba hP ho hy hv hl h0 hn (hK _ _ (h _ ((ze _ _).alloc (zf _) _) (by simp only[World.alloc,yf])))
theorem zki(hP:LoP P T Te E.size){x y:Operand}{S:Nat->Prop}{e:α}{us:List Value}{n g:Nat}{v:Value}(ho:o.op=.call {callee:=.builtin .append,args:=#[x,y],argTypes:=#[T,T]}) (hgd:Region.wanted o (yielded ops a.tmps)=true) (hx:a.eval x=v)(hy:a.eval y=.slice (some ⟨g,0,none⟩) 1 1)(hO:OwnL E Te base lo w v xs)(hrow:w.heap[g]?=some (.cells us.toArray Te (0,0)))(hR:E.R S w e us)(hS:∀k,S k->lo<=k/\k<w.heap.size/\some k≠v.ownBlock)(hbase:base<=w.heap.size)(hlen:xs.length+1<=1073741824)(hn:n=xs.length+1)
  (h:∀ad cap w',OwnL E Te base lo w' (.slice ad n cap) (xs++[e])->w.grownBy w' v.ownBlock->(Value.ownBlock (.slice ad n cap)=v.ownBlock\/Value.ownBlock (.slice ad n cap)=some w.heap.size)->wpList P ops Q rest (a.put o.dst (.slice ad n cap)) w'):wpList P ops Q (o::rest) a w:=by
 refine zf9 (E:=E) (ys:=[e]) hP ho hgd hx hO hy (λj u hj=>by rw[zN,World.cell?,hrow];simpa using hj) (Flat.single hR) hS hbase (λad7 k7 cap7 w2 h2 hg h3=>?_) hlen;obtain rfl:k7=n:=by rw[h2.len,zC,hn];rfl
 exact h _ _ _ h2 hg h3
end
def FdP(P:Program)(t:TypeId)(i off:Nat):Prop:=∃fs f m,P.underlying t=some (.struct fs)/\fs[i]?=some f/\f.offset=off/\(P.info? f.type).map (·.size)=some (m+1)
def SgP (P:Program)(t:TypeId)(n:Nat):Prop:=(∃fs,P.underlying t=some (.struct fs))/\(P.info? t).map (·.size)=some n
section
variable {P : Program} {t : TypeId} {n : Nat} {ops : Array Oper} {rest : List Oper} {o : Oper} {a : Act} {K : Act → World → Prop} {Q : Exit → Act → World → Prop} {w : World}
theorem za6{i o2:Nat}(hP:FdP P t i o2){x:Operand}{b off:Nat}(ho:o.op=.fieldAddr t x i)(hx:a.eval x=.pointer (some ⟨b,off,none⟩))(h:K (a.put o.dst (.pointer (some ⟨b,off+o2,none⟩))) w):o.wp P a w K Q:=by
 obtain⟨fs,f,m,hu,hf,ho2,hs⟩:=hP;subst ho2;refine zcb ?_ h;simp only[execOp,ho,hx];simp[Instr.fieldAt,zr hu,fieldPlace,hf,zaa hs,go_sem,Addr.add]
end
theorem tuF0:FdP Tryz.prog 86 0 0:=⟨_,_,1,Tryz.underlying86,rfl,rfl,by kernel_rfl⟩
theorem tuF1:FdP Tryz.prog 86 1 2:=⟨_,_,11,Tryz.underlying86,rfl,rfl,by kernel_rfl⟩
theorem tuF2:FdP Tryz.prog 86 2 14:=⟨_,_,0,Tryz.underlying86,rfl,rfl,by kernel_rfl⟩
theorem tuF3:FdP Tryz.prog 86 3 15:=⟨_,_,6,Tryz.underlying86,rfl,rfl,by kernel_rfl⟩
def Tu (D:Nat) (S:Nat->Prop) (w:World) (b:Nat) (d:Dl) (T:Sto) (s:Int) (x:Tx):Prop:=
 ∃(a:Option Addr) (c:Nat) (a2:Option Addr) (c2:Nat) (aS:Nat->Option Addr) (mS cS:Nat->Nat) (kA hA vA:Option Addr) (kC hC vC:Nat),BoxN w b 86 [.slice a d.writes.length c,.slice a2 d.marks.length c2,.slice (aS 0) (mS 0) (cS 0),.slice (aS 1) (mS 1) (cS 1),.slice (aS 2) (mS 2) (cS 2),.slice (aS 3) (mS 3) (cS 3),.slice (aS 4) (mS 4) (cS 4),.slice (aS 5) (mS 5) (cS 5),.slice (aS 6) (mS 6) (cS 6),.slice (aS 7) (mS 7) (cS 7),.slice (aS 8) (mS 8) (cS 8),.slice (aS 9) (mS 9) (cS 9),.slice (aS 10) (mS 10) (cS 10),.slice (aS 11) (mS 11) (cS 11),.int .i64 s,.int .i64 x.kind,.int .i64 x.table,.slice kA x.key.length kC,.slice hA x.hi.length hC,.bool x.isOpen,.slice vA x.val.length vC,.int .i64 x.n]/\RdDl (λk=>S k/\D<=k) w (.agg #[.slice a d.writes.length c,.slice a2 d.marks.length c2]) d/\RdSt S w (.agg #[.slice (aS 0) (mS 0) (cS 0),.slice (aS 1) (mS 1) (cS 1),.slice (aS 2) (mS 2) (cS 2),.slice (aS 3) (mS 3) (cS 3),.slice (aS 4) (mS 4) (cS 4),.slice (aS 5) (mS 5) (cS 5),.slice (aS 6) (mS 6) (cS 6),.slice (aS 7) (mS 7) (cS 7),.slice (aS 8) (mS 8) (cS 8),.slice (aS 9) (mS 9) (cS 9),.slice (aS 10) (mS 10) (cS 10),.slice (aS 11) (mS 11) (cS 11)]) T/\RdS S w (.slice kA x.key.length kC) x.key/\RdS S w (.slice hA x.hi.length hC) x.hi/\RdS S w (.slice vA x.val.length vC) x.val/\Tx64 x/\¬S b/\D<=b
section
variable {D : Nat} {S S' : Nat → Prop} {w w' : World} {b : Nat} {d : Dl} {T : Sto} {s : Int} {x : Tx}
theorem Tu.lt (h:Tu D S w b d T s x):b<w.heap.size:=by
 obtain⟨a,c,a2,c2,aS,mS,cS,kA,hA,vA,kC,hC,vC,bt,hd,hT,hk,hh,hv,ht,hSb,hDb⟩:=h;exact bt.lt
theorem Tu.below (h:Tu D S w b d T s x)(hb:Below w.heap.size w w'):Tu D S w' b d T s x:=by
 obtain⟨a,c,a2,c2,aS,mS,cS,kA,hA,vA,kC,hC,vC,bt,hd,hT,hk,hh,hv,ht,hSb,hDb⟩:=h;exact⟨a,c,a2,c2,aS,mS,cS,kA,hA,vA,kC,hC,vC,bt.below hb bt.lt,hd.below hb,hT.below hb,hk.below hb,hh.below hb,hv.below hb,ht,hSb,hDb⟩
theorem Tu.weak(h:Tu D S w b d T s x)(hs:∀k,S k->S' k)(hn:¬S' b):Tu D S' w b d T s x:=by
 obtain⟨a,c,a2,c2,aS,mS,cS,kA,hA,vA,kC,hC,vC,bt,hd,hT,hk,hh,hv,ht,hSb,hDb⟩:=h;exact⟨a,c,a2,c2,aS,mS,cS,kA,hA,vA,kC,hC,vC,bt,hd.weak (λk hk=>⟨hs k hk.1,hk.2⟩),hT.weak hs,hk.weak hs,hh.weak hs,hv.weak hs,ht,hn,hDb⟩
theorem Tu.fit (h:Tu D S w b d T s x):Tu D (λk=>S k/\k<w.heap.size) w b d T s x:=by
 obtain⟨a,c,a2,c2,aS,mS,cS,kA,hA,vA,kC,hC,vC,bt,hd,hT,hk,hh,hv,ht,hSb,hDb⟩:=h;exact⟨a,c,a2,c2,aS,mS,cS,kA,hA,vA,kC,hC,vC,bt,(RdDl.fit hd).weak (λk hk=>⟨⟨hk.1.1,hk.2⟩,hk.1.2⟩),hT.fit,hk.fit,hh.fit,hv.fit,ht,λe=>hSb e.1,hDb⟩
theorem Tu.past (h:Tu D S w b d T s x){g:Nat}(hg:w.grownBy w' (some g)) (hn:¬S g) (hb:g≠b):Tu D S w' b d T s x:=by
 obtain⟨a,c,a2,c2,aS,mS,cS,kA,hA,vA,kC,hC,vC,bt,hd,hT,hk,hh,hv,ht,hSb,hDb⟩:=h.fit;have hk2:∀k,(S k/\k<w.heap.size)->w'.heap[k]?=w.heap[k]?:=λk hk=>hg.block k hk.2 λe=>by injection e with e;exact hn (e▸hk.1)
 exact Tu.weak ⟨a,c,a2,c2,aS,mS,cS,kA,hA,vA,kC,hC,vC,bt.other hg (λe=>by injection e with e;exact hb e),RdDl.keep hd (λk hk=>hk2 k hk.1),hT.keep hk2,hk.keep hk2,hh.keep hk2,hv.keep hk2,ht,hSb,hDb⟩ (λk hk=>hk.1) (λe=>hSb ⟨e,h.lt⟩)
end
def ValEnd(w:World)(r:List UInt8×Bool)(e:Ending)(w':World):Prop:=∃a c,e=.returned (.tuple #[.slice a r.1.length c,.bool r.2])/\RdS (λk=>w.heap.size<=k/\k<w'.heap.size) w' (.slice a r.1.length c) r.1/\Below w.heap.size w w'
def zfv (D:Nat)(S:Nat->Prop)(w:World)(b:Nat)(T:Sto)(s:Int)(x:Tx)(r:Dl×Rp)(e:Ending)(w':World):Prop:=∃v,e=.returned v/\RdRp (λk=>w.heap.size<=k/\k<w'.heap.size) w' v r.2/\Tu D (λk=>S k\/(w.heap.size<=k/\k<w'.heap.size)) w' b r.1 T s x/\w.grownBy w' (some b)
def valS (d:Dl)(T:Sto)(s:Int)(x:Tx):List UInt8×Bool:=valX d (zcp T x.table) s x.table x.key
def WfR(r:Option Wr)(S:Nat->Prop)(w:World)(v e:Value):Prop:=e=.bool r.isSome/\RdWr S w v (r.getD noWr)
def WfB (w:World)(b:Nat)(v:Value):Prop:=∃x y z u,v=.agg #[x,y,z,u]/\BoxN w b 62 [x,y,z,u]
def zWf:Obj:=.cells [Value.int .i64 0,.slice none 0 0,.bool false,.slice none 0 0].toArray 62 (0,0)
theorem RdWr.keep'{S:Nat->Prop}{w w':World}{v:Value}{x:Wr}(h:RdWr S w v x)(hk:∀k,S k->w'.heap[k]?=w.heap[k]?):RdWr S w' v x:=by
 obtain⟨a,c,a2,c2,e,h1,h2,h3⟩:=h;exact⟨a,c,a2,c2,e,h1.keep hk,h2.keep hk,h3⟩
theorem zik (r:Option Wr):zo3 (WfR r) WfB AnyV AnyV where
 keep:=λ⟨e,h⟩ hk=>⟨e,h.keep' hk⟩
 weak:=λ⟨e,h⟩ hk=>⟨e,h.weak hk⟩
 bx:=λ⟨x,y,z,u,e,h⟩ hb=>⟨x,y,z,u,e,h.below hb h.lt⟩
 s1:=λ_ _=>trivial
 w1:=λ_ _=>trivial
 s2:=λ_ _=>trivial
 w2:=λ_ _=>trivial
theorem CbS.errW{hk:Bool}{C0:Array Value}{E0:TypeId}{r:Option Wr}{Z:Obj}{Bx:World->Nat->Value->Prop}{K1 K2:(Nat->Prop)->World->Value->Prop}{W w:World}{o0 o1 o2 c m x z s:Option Value}{u:Value}(h:CbS hk C0 E0 (WfR r) Z Bx K1 K2 W o0 o1 o2 c m x (some u) z s w):u=.bool r.isSome:=by
 obtain⟨v,e1⟩:=h.my u rfl;obtain⟨v',e',e2,e3,_⟩:=h.rr _ (h.mv _ e1);injection e2 with e2;injection e2 with e2;injection e2 with _ e2;injection e2 with e2 _;rw[e2,e3]
theorem zvc {W:World}{b o:Nat}{v0 v1 v2 v3 v4 v5 v6 v7 v8 v9 v10 v11:Value}(h0:W.cell? ⟨b,o,none⟩=some v0)(h1:W.cell? ⟨b,o+1,none⟩=some v1)(h2:W.cell? ⟨b,o+2,none⟩=some v2)(h3:W.cell? ⟨b,o+3,none⟩=some v3)(h4:W.cell? ⟨b,o+4,none⟩=some v4)(h5:W.cell? ⟨b,o+5,none⟩=some v5)(h6:W.cell? ⟨b,o+6,none⟩=some v6)(h7:W.cell? ⟨b,o+7,none⟩=some v7)(h8:W.cell? ⟨b,o+8,none⟩=some v8)(h9:W.cell? ⟨b,o+9,none⟩=some v9)(h10:W.cell? ⟨b,o+10,none⟩=some v10)(h11:W.cell? ⟨b,o+11,none⟩=some v11)(j:Nat)(u:Value)(hj:[v0,v1,v2,v3,v4,v5,v6,v7,v8,v9,v10,v11][j]?=some u):W.cell? ⟨b,o+j,none⟩=some u:=by
 match j,hj with
 |0,hj=>exact h0.trans hj
 |1,hj=>exact h1.trans hj
 |2,hj=>exact h2.trans hj
 |3,hj=>exact h3.trans hj
 |4,hj=>exact h4.trans hj
 |5,hj=>exact h5.trans hj
 |6,hj=>exact h6.trans hj
 |7,hj=>exact h7.trans hj
 |8,hj=>exact h8.trans hj
 |9,hj=>exact h9.trans hj
 |10,hj=>exact h10.trans hj
 |11,hj=>exact h11.trans hj
def sgVnx (W:World)(r:Option (List UInt8)):SG:=⟨λw v=>∃a c,v=.tuple #[.slice a (r.getD []).length c,.bool r.isSome]/\RdS (λk=>W.heap.size<=k/\k<w.heap.size) w (.slice a (r.getD []).length c) (r.getD []),λ_ _ _ ⟨a,c,e,h⟩hb=>⟨a,c,e,(h.below hb).weak λ_ hk=>⟨hk.1,zm hk.2 hb.size⟩⟩⟩
def sgVny (W:World)(r:Option (List UInt8)):SG:=⟨λw v=>∃a c,v=.slice a (r.getD []).length c/\RdS (λk=>W.heap.size<=k/\k<w.heap.size) w (.slice a (r.getD []).length c) (r.getD []),λ_ _ _ ⟨a,c,e,h⟩hb=>⟨a,c,e,(h.below hb).weak λ_ hk=>⟨hk.1,zm hk.2 hb.size⟩⟩⟩
theorem zio(w:World){b:Nat}{d:Dl}{T:Sto}{s:Int}{x:Tx}{D:Nat}{S:Nat->Prop}(h:Tu D S w b d T s x)(hs:smD d)(hf:fitS T):Calls Tryz.prog 93 #[.pointer (some ⟨b,0,none⟩)] w (ValEnd w (valS d T s x)):=by
  obtain⟨a,c,a2,c2,aS,mS,cS,kA,hA,vA,kC,hC,vC,bt,hd,hT,hk,hh,hv,ht,hSb,hDb⟩:=h;have eP:∀args w,(callFunc 121 args).run Tryz.prog w=.ok (.enter 121 args) w:=enters_of Tryz.func121 (by kernel_rfl) rfl;have eG:∀args w,(callFunc 122 args).run Tryz.prog w=.ok (.enter 122 args) w:=enters_of Tryz.func122 (by kernel_rfl) rfl;obtain⟨r,hr⟩:∃r,r=zf8 d ⟨x.table,x.key⟩:=⟨_,rfl⟩;have hcl:=λ(V:World)(hV:Below w.heap.size w V)=>zu7 V (t:=x.table) (hd.below hV) hs (hk.below hV)
  rw[<-hr]at hcl;replace hr:=Lib.hid hr;go_enter Tryz.func93,Tryz.ntmps93;go_upto_region 1 with(fail);have c0:=bt.cell (i:=0) rfl;have c1:=bt.cell (i:=1) rfl;have c14:=bt.cell (i:=14) rfl;have c16:=bt.cell (i:=16) rfl;have c17:=bt.cell (i:=17) rfl;refine zcn (K:=λ_ _=>True) (by kernel_rfl) (by kernel_rfl) [14,15,16,17,18,19] (by kernel_rfl) [lEq (.pointer (some ⟨b,0,none⟩)),lEq (.pointer (some ⟨b,0,none⟩)),lEq (.pointer (some ⟨b,0+0,none⟩)),lEq (.agg #[.slice a d.writes.length c,.slice a2 d.marks.length c2]),lEq (.pointer (some ⟨b,0,none⟩)),lEq (.pointer (some ⟨b,0,none⟩)),lEq (.pointer (some ⟨b,0+15,none⟩)),lEq (.pointer (some ⟨b,0+15+1,none⟩)),lEq (.int .i64 x.table),lEq (.pointer (some ⟨b,0,none⟩)),lEq (.pointer (some ⟨b,0,none⟩)),lEq (.pointer (some ⟨b,0+15,none⟩)),lEq (.pointer (some ⟨b,0+15+2,none⟩)),lEq (.slice kA x.key.length kC),lAny,lAny,lAny,lAny,lAny,lAny,lEq (.bool r.isSome)]
    (CbL #[] 5 (WfR r) zWf WfB AnyV AnyV w) (CbL.more (zik r)) (CbS.start _)
    ⟨?o0,?o1,?o2,?o3,?o4,?o5,?o6,?o7,?o8,?o9,?o10,?o11,?o12,?o13,?o14,?o15,?o16,?o17,?o18,?o19,?o20,trivial⟩ ?fin
  case o0=>
    refine StOp.free rfl (by kernel_rfl) (λA va D w' hF hT hN hE hd hu hg=>?_);have e1:=hF 0 rfl;exact zu _ rfl ⟨_,rfl,e1,ze _ _⟩
  case o1=>
    refine StOp.free rfl (by kernel_rfl) (λA va D w' hF hT hN hE hd hu hg=>?_);have e1:=(hT 7 0 (by simp) rfl).trans (hg ⟨0,.data⟩ (by simp) rfl rfl);exact zcc rfl (e1) ⟨_,rfl,rfl,ze _ _⟩
  case o2=>
    refine StOp.free rfl (by kernel_rfl) (λA va D w' hF hT hN hE hd hu hg=>?_);have e1:=(hT 8 1 (by simp) rfl).trans (hg ⟨1,.data⟩ (by simp) rfl rfl);exact za6 tuF0 rfl (e1) ⟨_,rfl,rfl,ze _ _⟩
  case o3=>
    refine StOp.free rfl (by kernel_rfl) (λA va D w' hF hT hN hE hd hu hg=>?_);have e1:=(hT 9 2 (by simp) rfl).trans (hg ⟨2,.data⟩ (by simp) rfl rfl);have hBE:=hE.be;exact ze0 dlS rfl e1 ((hE.be.cell (p:=⟨_,_,none⟩) (zad c0)).trans c0) ((hE.be.cell (p:=⟨_,_,none⟩) (zad c1)).trans c1) ⟨_,rfl,rfl,ze _ _⟩
  case o4=>
    refine StOp.free rfl (by kernel_rfl) (λA va D w' hF hT hN hE hd hu hg=>?_);have e1:=hF 0 rfl;exact zu _ rfl ⟨_,rfl,e1,ze _ _⟩
  case o5=>
    refine StOp.free rfl (by kernel_rfl) (λA va D w' hF hT hN hE hd hu hg=>?_);have e1:=(hT 11 4 (by simp) rfl).trans (hg ⟨4,.data⟩ (by simp) rfl rfl);exact zcc rfl (e1) ⟨_,rfl,rfl,ze _ _⟩
  case o6=>
    refine StOp.free rfl (by kernel_rfl) (λA va D w' hF hT hN hE hd hu hg=>?_);have e1:=(hT 12 5 (by simp) rfl).trans (hg ⟨5,.data⟩ (by simp) rfl rfl);exact za6 tuF3 rfl (e1) ⟨_,rfl,rfl,ze _ _⟩
  case o7=>
    refine StOp.free rfl (by kernel_rfl) (λA va D w' hF hT hN hE hd hu hg=>?_);have e1:=(hT 13 6 (by simp) rfl).trans (hg ⟨6,.data⟩ (by simp) rfl rfl);exact zaf txS rfl (e1) (by omega) ⟨_,rfl,rfl,ze _ _⟩
  case o8=>
    refine StOp.free rfl (by kernel_rfl) (λA va D w' hF hT hN hE hd hu hg=>?_);have e1:=(hT 14 7 (by simp) rfl).trans (hg ⟨7,.data⟩ (by simp) rfl rfl);exact zbv (k:=.i64) rfl (e1) (by kernel_rfl) (((hE.be.cell (p:=⟨_,_,none⟩) (zad c16)).trans c16)) ⟨_,rfl,rfl,ze _ _⟩
  case o9=>
    refine StOp.free rfl (by kernel_rfl) (λA va D w' hF hT hN hE hd hu hg=>?_);have e1:=hF 0 rfl;exact zu _ rfl ⟨_,rfl,e1,ze _ _⟩
  case o10=>
    refine StOp.free rfl (by kernel_rfl) (λA va D w' hF hT hN hE hd hu hg=>?_);have e1:=(hT 16 9 (by simp) rfl).trans (hg ⟨9,.data⟩ (by simp) rfl rfl);exact zcc rfl (e1) ⟨_,rfl,rfl,ze _ _⟩
  case o11=>
    refine StOp.free rfl (by kernel_rfl) (λA va D w' hF hT hN hE hd hu hg=>?_);have e1:=(hT 17 10 (by simp) rfl).trans (hg ⟨10,.data⟩ (by simp) rfl rfl);exact za6 tuF3 rfl (e1) ⟨_,rfl,rfl,ze _ _⟩
  case o12=>
    refine StOp.free rfl (by kernel_rfl) (λA va D w' hF hT hN hE hd hu hg=>?_);have e1:=(hT 18 11 (by simp) rfl).trans (hg ⟨11,.data⟩ (by simp) rfl rfl);exact zaf txS rfl (e1) (by omega) ⟨_,rfl,rfl,ze _ _⟩
  case o13=>
    refine StOp.free rfl (by kernel_rfl) (λA va D w' hF hT hN hE hd hu hg=>?_);have e1:=(hT 19 12 (by simp) rfl).trans (hg ⟨12,.data⟩ (by simp) rfl rfl);exact zae (e:=5) rfl (e1) (by kernel_rfl) (((hE.be.cell (p:=⟨_,_,none⟩) (zad c17)).trans c17)) ⟨_,rfl,rfl,ze _ _⟩
  case o14=>
    refine StOp.set rfl (by kernel_rfl) (λA va D w' hF hT hN hE hd hu hg=>?_);have e1:=(hT 10 3 (by simp) rfl).trans (hg ⟨3,.data⟩ (by simp) rfl rfl);have e2:=(hT 15 8 (by simp) rfl).trans (hg ⟨8,.data⟩ (by simp) rfl rfl);have e3:=(hT 20 13 (by simp) rfl).trans (hg ⟨13,.data⟩ (by simp) rfl rfl);have hE2:=hE;simp only[told,zn,zo,hN,zY,zW]at hE2;have hBE:=hE2.be;refine zah rfl eP (args:=#[.agg #[.slice a d.writes.length c,.slice a2 d.marks.length c2],.int .i64 x.table,.slice kA x.key.length kC]) (by simp only[zE,zn,zo,e1,e2,e3]) ((hcl w' hBE).mono ?_);rintro e w2⟨v,rfl,hrd,hb2⟩;have h5:=CbS.call (zik r) hE2 (by simp) hb2 (v:=v) (e:=.bool _) ⟨rfl,hrd⟩;exact⟨_,rfl,_,rfl,by simpa[CbL,told,don,upd]using h5,trivial⟩
  case o15=>
    refine StOp.set rfl (by kernel_rfl) (λA va D w' hF hT hN hE hd hu hg=>?_);have x1:A.eval (.tmp 21)=va 14:=hT 21 14 (by simp) rfl;have hE2:=hE;have d14:D 14=true:=hd ⟨14,.data⟩ (by simp) rfl;simp only[told,zn,zo,hN,d14,zY,zW,yl]at hE2;have h5:=CbS.move hE2;exact zu _ rfl ⟨_,rfl,by rw[x1];simpa[CbL,told,don,upd,d14]using h5,trivial⟩
  case o16=>
    refine StOp.set rfl (by kernel_rfl) (λA va D w' hF hT hN hE hd hu hg=>?_);have x1:A.eval (.tmp 6)=va 15:=hT 6 15 (by simp) rfl;have hE2:=hE;have d15:D 15=true:=hd ⟨15,.data⟩ (by simp) rfl;simp only[told,zn,zo,hN,d15,zY,zW,yl]at hE2;obtain⟨v,e,em⟩:=CbS.tup hE2;rw[em]at hE2;have h5:=CbS.ex0 hE2;exact zjp rfl (x1.trans em) rfl ⟨_,rfl,by simpa[CbL,told,don,upd,d15,em]using h5,trivial⟩
  case o17=>
    refine StOp.set rfl (by kernel_rfl) (λA va D w' hF hT hN hE hd hu hg=>?_);have x1:A.eval (.tmp 6)=va 15:=hT 6 15 (by simp) rfl;have hE2:=hE;have d15:D 15=true:=hd ⟨15,.data⟩ (by simp) rfl;simp only[told,zn,zo,hN,d15,zY,zW,yl]at hE2;obtain⟨v,e,em⟩:=CbS.tup hE2;rw[em]at hE2;have h5:=CbS.ex1 hE2;exact zjp rfl (x1.trans em) rfl ⟨_,rfl,by simpa[CbL,told,don,upd,d15,em]using h5,trivial⟩
  case o18=>
    refine StOp.set rfl (by kernel_rfl) (λA va D w' hF hT hN hE hd hu hg=>?_);have hE2:=hE;simp only[told,zn,zo,hN,zY,zW]at hE2;refine zgl (vs:=[.int .i64 0,.slice none 0 0,.bool false,.slice none 0 0]) (by kernel_rfl) rfl (λw2 hb2 hz=>⟨_,rfl,?_,trivial⟩);have h5:=CbS.alloc (zik r) hE2 hb2 hz;simpa[CbL,told,don,upd]using h5
  case o19=>
    refine StOp.set rfl (by kernel_rfl) (λA va D w' hF hT hN hE hd hu hg=>?_);have x1:A.eval (.tmp 4)=va 18:=hT 4 18 (by simp) rfl;have x2:A.eval (.tmp 22)=va 16:=hT 22 16 (by simp) rfl;have hE2:=hE;have d18:D 18=true:=hd ⟨18,.data⟩ (by simp) rfl;have d16:D 16=true:=hd ⟨16,.data⟩ (by simp) rfl;simp only[told,zn,zo,hN,d18,d16,zY,zW,yl]at hE2;obtain⟨b9,eb,hb0⟩:=CbS.box hE2;obtain⟨e,hm⟩:=hE2.mx _ rfl;obtain⟨v,e2,ec,_,hrd⟩:=hE2.rr _ (hE2.mv _ hm);obtain⟨A1,B1,A4,B4,ev,_⟩:=id hrd;injection ec with ec;injection ec with ec;injection ec with ec _;rw[<-ec]at ev;refine za3 (vs:=[.int .i64 0,.slice none 0 0,.bool false,.slice none 0 0]) (us:=[.int .i64 _,.slice A1 _ B1,.bool _,.slice A4 _ B4]) (by kernel_rfl) rfl (x1.trans eb) (x2.trans ev) rfl hb0 rfl (λw2 hg2 ht2=>⟨_,rfl,?_,trivial⟩);rw[eb]at hE2;have h5:=CbS.sto (u:=undef) (zik r) hE2 hg2 ⟨_,_,_,_,ev,ht2⟩;simpa[CbL,told,don,upd,d18,d16,eb]using h5
  case o20=>
    refine StOp.free rfl (by kernel_rfl) (λA va D w' hF hT hN hE hd hu hg=>?_);have x1:A.eval (.tmp 23)=va 17:=hT 23 17 (by simp) rfl;have hE2:=hE;have d17:D 17=true:=hd ⟨17,.data⟩ (by simp) rfl;simp only[told,zn,zo,d17,yl]at hE2;have ee:=CbS.errW hE2;exact yV _ rfl ⟨_,rfl,x1.trans ee,ze _ _⟩
  case fin=>
    intro vs1 W1 hE hG;obtain⟨bM,ez,em,ec,hbM,hBx,hR,hbE⟩:=CbS.done (zik r).toRdP hE (by simp);obtain⟨ee,hM⟩:=hR;obtain⟨u1,u2,u3,u4,ev,xM⟩:=hBx;have g0:vs1 0=.pointer (some ⟨b,0,none⟩):=hG 0 (by decide) rfl;have g1:vs1 1=.pointer (some ⟨b,0,none⟩):=hG 1 (by decide) rfl;have g2:vs1 2=.pointer (some ⟨b,0+0,none⟩):=hG 2 (by decide) rfl;have g3:vs1 3=.agg #[.slice a d.writes.length c,.slice a2 d.marks.length c2]:=hG 3 (by decide) rfl;have g4:vs1 4=.pointer (some ⟨b,0,none⟩):=hG 4 (by decide) rfl;have g5:vs1 5=.pointer (some ⟨b,0,none⟩):=hG 5 (by decide) rfl;have g6:vs1 6=.pointer (some ⟨b,0+15,none⟩):=hG 6 (by decide) rfl;have g7:vs1 7=.pointer (some ⟨b,0+15+1,none⟩):=hG 7 (by decide) rfl;have g8:vs1 8=.int .i64 x.table:=hG 8 (by decide) rfl;have g9:vs1 9=.pointer (some ⟨b,0,none⟩):=hG 9 (by decide) rfl;have g10:vs1 10=.pointer (some ⟨b,0,none⟩):=hG 10 (by decide) rfl;have g11:vs1 11=.pointer (some ⟨b,0+15,none⟩):=hG 11 (by decide) rfl;have g12:vs1 12=.pointer (some ⟨b,0+15+2,none⟩):=hG 12 (by decide) rfl;have g13:vs1 13=.slice kA x.key.length kC:=hG 13 (by decide) rfl;have g20:vs1 20=.bool r.isSome:=hG 20 (by decide) rfl;simp only[zaj,g0,g1,g2,g3,g4,g5,g6,g7,g8,g9,g10,g11,g12,g13,g20,ec,em,ev,ee,ez];rw[ev]at hM;clear hE hG ec em ev ee ez g0 g1 g2 g3 g4 g5 g6 g7 g8 g9 g10 g11 g12 g13 g20;obtain⟨A1,B1,A4,B4,e9,hwk,hwv,hw64⟩:=hM;injection e9 with e9;injection e9 with e9;injection e9 with e1 e9;injection e9 with e2 e9;injection e9 with e3 e9;injection e9 with e4 _;subst e1 e2 e3 e4;have q:Below w.heap.size w W1:=hbE;clear hbE;replace hT:=hT.below q;replace hk:=hk.below q;clear hh hv hwk hw64;replace c14:=(q.cell (p:=⟨_,_,none⟩) (zad c14)).trans c14;replace c16:=(q.cell (p:=⟨_,_,none⟩) (zad c16)).trans c16;replace c17:=(q.cell (p:=⟨_,_,none⟩) (zad c17)).trans c17;have s0:=(q.cell (p:=⟨_,_,none⟩) (zad (bt.cell (i:=2) rfl))).trans (bt.cell (i:=2) rfl);have s1:=(q.cell (p:=⟨_,_,none⟩) (zad (bt.cell (i:=3) rfl))).trans (bt.cell (i:=3) rfl);have s2:=(q.cell (p:=⟨_,_,none⟩) (zad (bt.cell (i:=4) rfl))).trans (bt.cell (i:=4) rfl);have s3:=(q.cell (p:=⟨_,_,none⟩) (zad (bt.cell (i:=5) rfl))).trans (bt.cell (i:=5) rfl);have s4:=(q.cell (p:=⟨_,_,none⟩) (zad (bt.cell (i:=6) rfl))).trans (bt.cell (i:=6) rfl);have s5:=(q.cell (p:=⟨_,_,none⟩) (zad (bt.cell (i:=7) rfl))).trans (bt.cell (i:=7) rfl);have s6:=(q.cell (p:=⟨_,_,none⟩) (zad (bt.cell (i:=8) rfl))).trans (bt.cell (i:=8) rfl);have s7:=(q.cell (p:=⟨_,_,none⟩) (zad (bt.cell (i:=9) rfl))).trans (bt.cell (i:=9) rfl);have s8:=(q.cell (p:=⟨_,_,none⟩) (zad (bt.cell (i:=10) rfl))).trans (bt.cell (i:=10) rfl);have s9:=(q.cell (p:=⟨_,_,none⟩) (zad (bt.cell (i:=11) rfl))).trans (bt.cell (i:=11) rfl);have s10:=(q.cell (p:=⟨_,_,none⟩) (zad (bt.cell (i:=12) rfl))).trans (bt.cell (i:=12) rfl);have s11:=(q.cell (p:=⟨_,_,none⟩) (zad (bt.cell (i:=13) rfl))).trans (bt.cell (i:=13) rfl);clear c0 c1 bt hd;have z:=xM.lt;go_simp;go_upto_region 2 with(fail);have hV:valS d T s x=valX d (zcp T x.table) s x.table x.key:=rfl;unfold valX at hV;rw[<-hr.out]at hV;clear hcl hr;replace hV:=Lib.hid hV;obtain⟨bs,hbs⟩:∃z,z=r.isSome:=⟨_,rfl⟩;rw[<-hbs];rcases r with _|u
    case none=>
      obtain rfl:bs=false:=hbs;have hV:=Lib.hid hV.out;clear hwv xM;go_upto_region 4 with(fail);obtain⟨g,hg⟩:∃g,g=getP (zcp T x.table) x.key s:=⟨_,rfl⟩;have hV:=Lib.hid (hV.out.trans (by rw[<-hg]));have hcl:=λ(V:World) (hV:Below W1.heap.size W1 V)=>sGet_any V (T:=T) (t:=x.table) (s:=s) (hT.below hV) hf (hk.below hV)
      rw[<-hg]at hcl;clear hg;refine zez (by kernel_rfl) (by kernel_rfl) [sgEq (.pointer (some ⟨b,0,none⟩)),sgEq (.pointer (some ⟨b,0,none⟩)),sgEq (.pointer (some ⟨b,0+2,none⟩)),sgEq (.agg #[.slice (aS 0) (mS 0) (cS 0),.slice (aS 1) (mS 1) (cS 1),.slice (aS 2) (mS 2) (cS 2),.slice (aS 3) (mS 3) (cS 3),.slice (aS 4) (mS 4) (cS 4),.slice (aS 5) (mS 5) (cS 5),.slice (aS 6) (mS 6) (cS 6),.slice (aS 7) (mS 7) (cS 7),.slice (aS 8) (mS 8) (cS 8),.slice (aS 9) (mS 9) (cS 9),.slice (aS 10) (mS 10) (cS 10),.slice (aS 11) (mS 11) (cS 11)]),sgEq (.pointer (some ⟨b,0,none⟩)),sgEq (.pointer (some ⟨b,0,none⟩)),sgEq (.pointer (some ⟨b,0+15,none⟩)),sgEq (.pointer (some ⟨b,0+15+1,none⟩)),sgEq (.int .i64 x.table),sgEq (.pointer (some ⟨b,0,none⟩)),sgEq (.pointer (some ⟨b,0,none⟩)),sgEq (.pointer (some ⟨b,0+15,none⟩)),sgEq (.pointer (some ⟨b,0+15+2,none⟩)),sgEq (.slice kA x.key.length kC),sgEq (.pointer (some ⟨b,0,none⟩)),sgEq (.pointer (some ⟨b,0,none⟩)),sgEq (.pointer (some ⟨b,0+14,none⟩)),sgEq (.int .i64 s),sgVnx W1 g,sgVny W1 g,sgEq (.bool g.isSome),sgVny W1 g,sgEq (.bool g.isSome)]
        ⟨?o0,?o1,?o2,?o3,?o4,?o5,?o6,?o7,?o8,?o9,?o10,?o11,?o12,?o13,?o14,?o15,?o16,?o17,?o18,?o19,?o20,?o21,?o22,trivial⟩ ?fin
      case o0=>
        refine GdOp.plain rfl (λA vs w' hF hT hb hd=>?_);have e1:=hF 0 rfl;exact zu _ rfl ⟨_,rfl,e1,ze _ _⟩
      case o1=>
        refine GdOp.plain rfl (λA vs w' hF hT hb hd=>?_);have e1:=(hT 30 0 (by simp) rfl).trans (hd ⟨0,.data⟩ (by simp) rfl);exact zcc rfl (e1) ⟨_,rfl,rfl,ze _ _⟩
      case o2=>
        refine GdOp.plain rfl (λA vs w' hF hT hb hd=>?_);have e1:=(hT 31 1 (by simp) rfl).trans (hd ⟨1,.data⟩ (by simp) rfl);exact za6 tuF1 rfl (e1) ⟨_,rfl,rfl,ze _ _⟩
      case o3=>
        refine GdOp.plain rfl (λA vs w' hF hT hb hd=>?_);have e1:=(hT 32 2 (by simp) rfl).trans (hd ⟨2,.data⟩ (by simp) rfl);exact zkg (us:=[.slice (aS 0) (mS 0) (cS 0),.slice (aS 1) (mS 1) (cS 1),.slice (aS 2) (mS 2) (cS 2),.slice (aS 3) (mS 3) (cS 3),.slice (aS 4) (mS 4) (cS 4),.slice (aS 5) (mS 5) (cS 5),.slice (aS 6) (mS 6) (cS 6),.slice (aS 7) (mS 7) (cS 7),.slice (aS 8) (mS 8) (cS 8),.slice (aS 9) (mS 9) (cS 9),.slice (aS 10) (mS 10) (cS 10),.slice (aS 11) (mS 11) (cS 11)]) stS7 rfl e1 (zvc ((hb.cell (p:=⟨_,_,none⟩) (zad s0)).trans s0) ((hb.cell (p:=⟨_,_,none⟩) (zad s1)).trans s1) ((hb.cell (p:=⟨_,_,none⟩) (zad s2)).trans s2) ((hb.cell (p:=⟨_,_,none⟩) (zad s3)).trans s3) ((hb.cell (p:=⟨_,_,none⟩) (zad s4)).trans s4) ((hb.cell (p:=⟨_,_,none⟩) (zad s5)).trans s5) ((hb.cell (p:=⟨_,_,none⟩) (zad s6)).trans s6) ((hb.cell (p:=⟨_,_,none⟩) (zad s7)).trans s7) ((hb.cell (p:=⟨_,_,none⟩) (zad s8)).trans s8) ((hb.cell (p:=⟨_,_,none⟩) (zad s9)).trans s9) ((hb.cell (p:=⟨_,_,none⟩) (zad s10)).trans s10) ((hb.cell (p:=⟨_,_,none⟩) (zad s11)).trans s11)) ⟨_,rfl,rfl,ze _ _⟩
      case o4=>
        refine GdOp.plain rfl (λA vs w' hF hT hb hd=>?_);have e1:=hF 0 rfl;exact zu _ rfl ⟨_,rfl,e1,ze _ _⟩
      case o5=>
        refine GdOp.plain rfl (λA vs w' hF hT hb hd=>?_);have e1:=(hT 34 4 (by simp) rfl).trans (hd ⟨4,.data⟩ (by simp) rfl);exact zcc rfl (e1) ⟨_,rfl,rfl,ze _ _⟩
      case o6=>
        refine GdOp.plain rfl (λA vs w' hF hT hb hd=>?_);have e1:=(hT 35 5 (by simp) rfl).trans (hd ⟨5,.data⟩ (by simp) rfl);exact za6 tuF3 rfl (e1) ⟨_,rfl,rfl,ze _ _⟩
      case o7=>
        refine GdOp.plain rfl (λA vs w' hF hT hb hd=>?_);have e1:=(hT 36 6 (by simp) rfl).trans (hd ⟨6,.data⟩ (by simp) rfl);exact zaf txS rfl (e1) (by omega) ⟨_,rfl,rfl,ze _ _⟩
      case o8=>
        refine GdOp.plain rfl (λA vs w' hF hT hb hd=>?_);have e1:=(hT 37 7 (by simp) rfl).trans (hd ⟨7,.data⟩ (by simp) rfl);exact zbv (k:=.i64) rfl e1 (by kernel_rfl) (((hb.cell (p:=⟨_,_,none⟩) (zad c16)).trans c16)) ⟨_,rfl,rfl,ze _ _⟩
      case o9=>
        refine GdOp.plain rfl (λA vs w' hF hT hb hd=>?_);have e1:=hF 0 rfl;exact zu _ rfl ⟨_,rfl,e1,ze _ _⟩
      case o10=>
        refine GdOp.plain rfl (λA vs w' hF hT hb hd=>?_);have e1:=(hT 39 9 (by simp) rfl).trans (hd ⟨9,.data⟩ (by simp) rfl);exact zcc rfl (e1) ⟨_,rfl,rfl,ze _ _⟩
      case o11=>
        refine GdOp.plain rfl (λA vs w' hF hT hb hd=>?_);have e1:=(hT 40 10 (by simp) rfl).trans (hd ⟨10,.data⟩ (by simp) rfl);exact za6 tuF3 rfl (e1) ⟨_,rfl,rfl,ze _ _⟩
      case o12=>
        refine GdOp.plain rfl (λA vs w' hF hT hb hd=>?_);have e1:=(hT 41 11 (by simp) rfl).trans (hd ⟨11,.data⟩ (by simp) rfl);exact zaf txS rfl (e1) (by omega) ⟨_,rfl,rfl,ze _ _⟩
      case o13=>
        refine GdOp.plain rfl (λA vs w' hF hT hb hd=>?_);have e1:=(hT 42 12 (by simp) rfl).trans (hd ⟨12,.data⟩ (by simp) rfl);exact zae (e:=5) rfl e1 (by kernel_rfl) (((hb.cell (p:=⟨_,_,none⟩) (zad c17)).trans c17)) ⟨_,rfl,rfl,ze _ _⟩
      case o14=>
        refine GdOp.plain rfl (λA vs w' hF hT hb hd=>?_);have e1:=hF 0 rfl;exact zu _ rfl ⟨_,rfl,e1,ze _ _⟩
      case o15=>
        refine GdOp.plain rfl (λA vs w' hF hT hb hd=>?_);have e1:=(hT 44 14 (by simp) rfl).trans (hd ⟨14,.data⟩ (by simp) rfl);exact zcc rfl (e1) ⟨_,rfl,rfl,ze _ _⟩
      case o16=>
        refine GdOp.plain rfl (λA vs w' hF hT hb hd=>?_);have e1:=(hT 45 15 (by simp) rfl).trans (hd ⟨15,.data⟩ (by simp) rfl);exact za6 tuF2 rfl (e1) ⟨_,rfl,rfl,ze _ _⟩
      case o17=>
        refine GdOp.plain rfl (λA vs w' hF hT hb hd=>?_);have e1:=(hT 46 16 (by simp) rfl).trans (hd ⟨16,.data⟩ (by simp) rfl);exact zbv (k:=.i64) rfl e1 (by kernel_rfl) (((hb.cell (p:=⟨_,_,none⟩) (zad c14)).trans c14)) ⟨_,rfl,rfl,ze _ _⟩
      case o18=>
        refine GdOp.plain rfl (λA vs w' hF hT hb hd=>?_);have e1:=(hT 33 3 (by simp) rfl).trans (hd ⟨3,.data⟩ (by simp) rfl);have e2:=(hT 38 8 (by simp) rfl).trans (hd ⟨8,.data⟩ (by simp) rfl);have e3:=(hT 43 13 (by simp) rfl).trans (hd ⟨13,.data⟩ (by simp) rfl);have e4:=(hT 47 17 (by simp) rfl).trans (hd ⟨17,.data⟩ (by simp) rfl);refine zah rfl eG (args:=#[.agg #[.slice (aS 0) (mS 0) (cS 0),.slice (aS 1) (mS 1) (cS 1),.slice (aS 2) (mS 2) (cS 2),.slice (aS 3) (mS 3) (cS 3),.slice (aS 4) (mS 4) (cS 4),.slice (aS 5) (mS 5) (cS 5),.slice (aS 6) (mS 6) (cS 6),.slice (aS 7) (mS 7) (cS 7),.slice (aS 8) (mS 8) (cS 8),.slice (aS 9) (mS 9) (cS 9),.slice (aS 10) (mS 10) (cS 10),.slice (aS 11) (mS 11) (cS 11)],.int .i64 x.table,.slice kA x.key.length kC,.int .i64 s]) (by simp only[zE,zn,zo,e1,e2,e3,e4]) ((hcl w' hb).mono ?_);rintro e w2 ⟨a9,c9,rfl,ho9,hb2⟩;exact⟨_,rfl,_,rfl,⟨a9,c9,rfl,ho9.weak λk hk=>⟨zv hb.size hk.1,hk.2⟩⟩,hb2⟩
      case o19=>
        refine GdOp.plain rfl (λA vs w' hF hT hb hd=>?_);obtain⟨a1,k1,q1,hr1⟩:=hd ⟨18,.data⟩ (by simp) rfl;have e1:A.eval (.tmp 48)=.tuple #[.slice a1 (g.getD []).length k1,.bool g.isSome]:=(hT 48 18 (by simp) rfl).trans q1;exact zjp rfl e1 rfl ⟨_,rfl,⟨a1,k1,rfl,hr1⟩,ze _ _⟩
      case o20=>
        refine GdOp.plain rfl (λA vs w' hF hT hb hd=>?_);obtain⟨a1,k1,q1,hr1⟩:=hd ⟨18,.data⟩ (by simp) rfl;have e1:A.eval (.tmp 48)=.tuple #[.slice a1 (g.getD []).length k1,.bool g.isSome]:=(hT 48 18 (by simp) rfl).trans q1;exact zjp rfl e1 rfl ⟨_,rfl,rfl,ze _ _⟩
      case o21=>
        refine GdOp.plain rfl (λA vs w' hF hT hb hd=>?_);obtain⟨a1,k1,q1,hr1⟩:=hd ⟨19,.data⟩ (by simp) rfl;exact yV _ rfl ⟨_,rfl,⟨a1,k1,(hT 49 19 (by simp) rfl).trans q1,hr1⟩,ze _ _⟩
      case o22=>
        refine GdOp.plain rfl (λA vs w' hF hT hb hd=>?_);have e1:=(hT 50 20 (by simp) rfl).trans (hd ⟨20,.data⟩ (by simp) rfl);exact yV _ rfl ⟨_,rfl,e1,ze _ _⟩
      case fin=>
        intro vs9 W9 hb9 hG9;have e0:vs9 0=.pointer (some ⟨b,0,none⟩):=hG9 0 (by decide);have e1:vs9 1=.pointer (some ⟨b,0,none⟩):=hG9 1 (by decide);have e2:vs9 2=.pointer (some ⟨b,0+2,none⟩):=hG9 2 (by decide);have e3:vs9 3=.agg #[.slice (aS 0) (mS 0) (cS 0),.slice (aS 1) (mS 1) (cS 1),.slice (aS 2) (mS 2) (cS 2),.slice (aS 3) (mS 3) (cS 3),.slice (aS 4) (mS 4) (cS 4),.slice (aS 5) (mS 5) (cS 5),.slice (aS 6) (mS 6) (cS 6),.slice (aS 7) (mS 7) (cS 7),.slice (aS 8) (mS 8) (cS 8),.slice (aS 9) (mS 9) (cS 9),.slice (aS 10) (mS 10) (cS 10),.slice (aS 11) (mS 11) (cS 11)]:=hG9 3 (by decide);have e4:vs9 4=.pointer (some ⟨b,0,none⟩):=hG9 4 (by decide);have e5:vs9 5=.pointer (some ⟨b,0,none⟩):=hG9 5 (by decide);have e6:vs9 6=.pointer (some ⟨b,0+15,none⟩):=hG9 6 (by decide);have e7:vs9 7=.pointer (some ⟨b,0+15+1,none⟩):=hG9 7 (by decide);have e8:vs9 8=.int .i64 x.table:=hG9 8 (by decide);have e9:vs9 9=.pointer (some ⟨b,0,none⟩):=hG9 9 (by decide);have e10:vs9 10=.pointer (some ⟨b,0,none⟩):=hG9 10 (by decide);have e11:vs9 11=.pointer (some ⟨b,0+15,none⟩):=hG9 11 (by decide);have e12:vs9 12=.pointer (some ⟨b,0+15+2,none⟩):=hG9 12 (by decide);have e13:vs9 13=.slice kA x.key.length kC:=hG9 13 (by decide);have e14:vs9 14=.pointer (some ⟨b,0,none⟩):=hG9 14 (by decide);have e15:vs9 15=.pointer (some ⟨b,0,none⟩):=hG9 15 (by decide);have e16:vs9 16=.pointer (some ⟨b,0+14,none⟩):=hG9 16 (by decide);have e17:vs9 17=.int .i64 s:=hG9 17 (by decide);obtain⟨x18,y18,e18,r18⟩:=hG9 18 (by decide);obtain⟨x19,y19,e19,r19⟩:=hG9 19 (by decide);have e20:vs9 20=.bool g.isSome:=hG9 20 (by decide);obtain⟨x21,y21,e21,r21⟩:=hG9 21 (by decide);have e22:vs9 22=.bool g.isSome:=hG9 22 (by decide);simp only[zaj,e0,e1,e2,e3,e4,e5,e6,e7,e8,e9,e10,e11,e12,e13,e14,e15,e16,e17,e18,e19,e20,e21,e22];clear hG9 e0 e1 e2 e3 e4 e5 e6 e7 e8 e9 e10 e11 e12 e13 e14 e15 e16 e17 e18 e19 e20 e21 e22;go_simp;go_wp2_with fail;go_ret2;rw[hV.out];have hr:=r21;clear r18 r19 r21;refine⟨x21,y21,?_,?_,q.trans (hb9.mono q.size)⟩;·cases g<;>rfl
        · have hr2:=hr.weak (S':=λk=>w.heap.size<=k/\k<W9.heap.size) λk hk=>⟨zv q.size hk.1,hk.2⟩
          cases g<;>exact hr2
    case some=>
      obtain rfl:bs=true:=hbs;have hV:=Lib.hid hV.out;simp only[xk]at hwv xM;have m2:=xM.cell (i:=2) rfl;have m3:=xM.cell (i:=3) rfl;clear xM;go_upto_region 3 with(fail);refine wp_region_quiet_lit (by kernel_rfl) (by kernel_rfl) ?_;repeat(first|go_big_quiet_step(fail))
      first|(refine wpQuiet_nil ?_;intro _ hw';obtain⟨nq,hw''⟩:=hw';subst hw'')|intro nq
      go_wp2_with fail;go_ret2;rw[hV.out];exact⟨A4,B4,rfl,((show RdS _ _ _ _ from RdS.keep hwv (λ_ _=>rfl)).weak λk hk=>⟨hk.1,hk.2.1⟩),Below.drewN q _⟩
theorem zu5(w:World){S:Nat->Prop}{v:Value}{d:Dl}(h:RdDl S w v d) (hs:smD d):Calls Tryz.prog 99 #[v] w (zff w (zc8 d)):=by
  have hd:=h;obtain⟨a,c,a2,c2,rfl,hw,hm⟩:=h;obtain⟨W0,hW,q,bn,bz,hsz⟩:=zg2 w 41 41 [.slice a d.writes.length c,.slice a2 d.marks.length c2] [.slice none 0 0,.slice none 0 0];have hs1:=hs.1;have hs2:=hs.2.1;go_enter Tryz.func99,Tryz.ntmps99;go_upto_region 1 with(fail);rw[show(w.alloc (.cells #[.slice a d.writes.length c,.slice a2 d.marks.length c2] 41)).alloc (.cells #[.slice none 0 0,.slice none 0 0] 41)=W0 from hW.symm];clear hW;have b0:=bn.cell (i:=0) rfl;have b1:=bn.cell (i:=1) rfl;go_wp2_with fail;refine(zdh W0 (hd.below q) hs).mono ?_;rintro e w1 ⟨_,rfl,⟨wa,wc,ma,mc,M,hM0,hM1,rfl,hOw,hOm,hMm⟩,hb1⟩;have q1:=q.trans (hb1.mono q.size);have z1:=hb1.size;have hOw0:=hOw.block_lt;have hOm0:=hOm.block_lt;replace hOw:=hOw.but (b:=w1.heap.size) (λk _ hk=>by omega);replace bn:=bn.below hb1 bn.lt;replace bz:=bz.below hb1 bz.lt;clear b0 b1;go_upto_region 2 with(first|(refine za2 (vs:=[.slice none 0 0,.slice none 0 0]) (by kernel_rfl) rfl rfl ?_;intro w2 hb2 hB2)|(refine zab (us:=[.slice wa d.writes.length wc,.slice ma d.marks.length mc]) (by kernel_rfl) rfl rfl rfl rfl rfl rfl hB2 rfl ?_;intro w3 hg3 hBO)|fail);go_simp;have qb3:Below w1.heap.size w1 w3:=hb2.grown hg3 hb2.size λk hk=>by injection hk with hk;omega
  have zO:=hBO.lt;obtain⟨BO,eBO⟩:∃BO,BO=w1.heap.size:=⟨_,rfl⟩;rw[<-eBO]at hBO zO hOw0 hOm0 hOw hM1;rw[<-eBO];have zBO:W0.heap.size<=BO:=by omega
  replace q:=q1.trans (qb3.mono q1.size);replace bn:=bn.below qb3 bn.lt;have hBZ:=bz.below qb3 bz.lt;replace hOw:=hOw.below qb3;replace hOm:=hOm.below qb3;clear hb2 hB2 hg3 qb3 q1 eBO bz hb1 z1;have b0:=bn.cell (i:=0) rfl;have b1:=bn.cell (i:=1) rfl;go_wp2_with fail;refine(zd7 w3 (hd.below q)).mono ?_;rintro e w4⟨rfl,hb4⟩;replace q:=q.trans (hb4.mono q.size);replace bn:=bn.below hb4 bn.lt;replace hBO:=hBO.below hb4 hBO.lt;replace hBZ:=hBZ.below hb4 hBZ.lt;replace hOw:=hOw.below hb4;replace hOm:=hOm.below hb4;have z4:=hb4.size;clear b0 b1 hb4;by_cases hok:okD d
  · have dok:decide (okD d)=true:=zk hok
    have b0:=bn.cell (i:=0) rfl;have b1:=bn.cell (i:=1) rfl;by_cases hfull:d.marks.length=4
    · have d20:((d.marks.length:Int)==4)=true:=zK.2 (by omega)
      have HK:=Lib.hid (show zc8 d=(d,80)by unfold zc8;rw[zi hok,zi hfull]);clear hfull;have o0:=hBO.cell (i:=0) rfl;have o1:=hBO.cell (i:=1) rfl;go_wp2_with(first|(refine zab (us:=[.slice wa d.writes.length wc,.slice ma d.marks.length mc]) (by kernel_rfl) rfl rfl rfl rfl rfl rfl hBZ rfl ?_;intro wd hgd hBd)|fail);have d0:=hBd.cell (i:=0) rfl;have d1:=hBd.cell (i:=1) rfl;obtain⟨fs,hu,_⟩:=dlS.hu;refine zD (v:=.tuple #[.agg #[.slice wa d.writes.length wc,.slice ma d.marks.length mc],.int .i64 80]) (by simp[results,Tryz.results99,go_sem,loadVar,isAgg,zr hu,zaa dlS.hs,loadCellsFrom,Addr.add,d0,d1]) rfl ?_;rw[zff,HK.out];exact⟨_,rfl,⟨wa,wc,ma,mc,rfl,(hOw.unbut.other hgd (by omega) (by omega)).rdS λk hk hl=>⟨by omega,hl⟩,(hOm.other hgd (by omega) (by omega)).rdS λk hk hl=>⟨by omega,hl⟩⟩,q.grown hgd q.size λk e=>by injection e with e;omega⟩
    · have d20:((d.marks.length:Int)==4)=false:=zt.2 (by omega)
      have HK:=Lib.hid (show zc8 d=(⟨d.writes,d.marks++[(d.writes.length:Int)]⟩,0)by unfold zc8;rw[zi hok,zh hfull]);have o0:=hBO.cell (i:=0) rfl;have o1:=hBO.cell (i:=1) rfl;have hap:=hOm.apart2 (by decide) hOw;have hal:Below w4.heap.size w4 (w4.alloc (.cells #[.int .i64 (d.writes.length:Int)] 3)):=(ze _ _).alloc (zf _) _;have hmr:Value.ownBlock (.slice ma d.marks.length mc)≠some BO:=λe=>by have:=hOm0 _ e;omega
      have hlo:W0.heap.size<=w4.heap.size+1:=by omega
      go_upto_region 7 with(first
        |(at_builtin;refine zf9 (E:=Elt.int) (ys:=[(d.writes.length:Int)]) inP rfl rfl rfl (hOm.below hal) rfl (zji w4 [.int .i64 (d.writes.length:Int)] 3) (Flat.single (E:=Elt.int) (S:=λ_=>False) ⟨rfl,by unfold W64;omega⟩) (λk hk=>hk.elim) (by simp;omega) ?_ (by simp;omega);intro ad9 L9 c9 w6 hO9 hg6 h36)
        |(refine zc1 (j:=1) rfl rfl rfl (by kernel_rfl) rfl rfl rfl rfl ((hBO.below hal hBO.lt).other hg6 hmr) (by simp) ?_;intro w7 hg7 hB7)
        |fail)
      go_simp;have hL:=hO9.len;subst hL;have hr6:∀g,Value.ownBlock (.slice ma d.marks.length mc)=some g->W0.heap.size<=g/\g<M/\g<BO:=λg hg=>by have:=hOm0 g hg;have:=hMm g hg;omega
      have hsz4:(w4.alloc (.cells #[.int .i64 (d.writes.length:Int)] 3)).heap.size=w4.heap.size+1:=yG _ _;have hn9:Value.ownBlock (.slice ad9 (d.marks++[(d.writes.length:Int)]).length c9)≠some BO:=by
        rcases h36 with e|e
        · rw[e];exact hmr
        · rw[e,hsz4];intro e2;injection e2 with e2;omega
      have hOw6:OwnL Elt.wr 62 M M w6 (.slice wa d.writes.length wc) d.writes:=by
        refine((hOw.below hal).unbut).kept hg6.size λk hk hl=>hg6.block k hl λe=>?_
        have:=hr6 k e.symm;omega
      have hOw7:OwnL (Elt.but Elt.wr BO) 62 M M w7 (.slice wa d.writes.length wc) d.writes:=by
        have hb6:OwnL (Elt.but Elt.wr BO) 62 M M w6 (.slice wa d.writes.length wc) d.writes:=by
          refine(hOw.below hal).kept hg6.size λk hk hl=>hg6.block k hl λe=>?_
          have:=hr6 k e.symm;omega
        exact hb6.butOther hg7 λe=>by have:=hOw0 _ e;omega
      have hO97:OwnL Elt.int 3 W0.heap.size W0.heap.size w7 (.slice ad9 (d.marks++[(d.writes.length:Int)]).length c9) (d.marks++[(d.writes.length:Int)]):=hO9.num2 λg hg=>hg7.block g ((hO9.block_lt g hg).2) λe=>by injection e with e;exact hn9 (by rw[hg,e])
      have hz6:=hg6.size;have hz7:=hg7.size;have q7:Below w.heap.size w w7:=((q.trans (hal.mono q.size)).grown hg6 (by omega) (λk e=>by have:=hr6 k e;omega)).grown hg7 (by omega) (λk e=>by injection e with e;omega);have hBZ7:BoxN w7 (w.heap.size+1) 41 [.slice none 0 0,.slice none 0 0]:=((hBZ.below hal hBZ.lt).other hg6 (λe=>by have:=hr6 _ e;omega)).other hg7 (by simp;omega);obtain⟨L9,hL9⟩:∃L9,L9=(d.marks++[(d.writes.length:Int)]).length:=⟨_,rfl⟩;simp only[List.set_cons_zero,List.set_cons_succ]at hB7;rw[<-hL9]at hO97 hB7;rw[<-hL9];replace hL9:=Lib.hid hL9;clear o0 o1 hOw hOw6 hO9 hn9 hOm;have o0:=hB7.cell (i:=0) rfl;have o1:=hB7.cell (i:=1) rfl;go_wp2_with(first|(refine zab (us:=[.slice wa d.writes.length wc,.slice ad9 L9 c9]) (by kernel_rfl) rfl rfl rfl rfl rfl rfl hBZ7 rfl ?_;intro wd hgd hBd)|fail);have d0:=hBd.cell (i:=0) rfl;have d1:=hBd.cell (i:=1) rfl;obtain⟨fs,hu,_⟩:=dlS.hu;refine zD (v:=.tuple #[.agg #[.slice wa d.writes.length wc,.slice ad9 L9 c9],.int .i64 0]) (by simp[results,Tryz.results99,go_sem,loadVar,isAgg,zr hu,zaa dlS.hs,loadCellsFrom,Addr.add,d0,d1]) rfl ?_;rw[zff,HK.out];have hL:=hL9.out;subst hL;exact⟨_,rfl,⟨wa,wc,ad9,c9,rfl,(hOw7.unbut.other hgd (by omega) (by omega)).rdS λk hk hl=>⟨by omega,hl⟩,(hO97.other hgd (by omega) (by omega)).rdS λk hk hl=>⟨by omega,hl⟩⟩,q7.grown hgd q7.size λk e=>by injection e with e;omega⟩
  · have dok:decide (okD d)=false:=zj hok
    have HK:=Lib.hid (show zc8 d=(d,1)by unfold zc8;rw[zh hok]);have o0:=hBO.cell (i:=0) rfl;have o1:=hBO.cell (i:=1) rfl;go_wp2_with(first|(refine zab (us:=[.slice wa d.writes.length wc,.slice ma d.marks.length mc]) (by kernel_rfl) rfl rfl rfl rfl rfl rfl hBZ rfl ?_;intro wd hgd hBd)|fail);have d0:=hBd.cell (i:=0) rfl;have d1:=hBd.cell (i:=1) rfl;obtain⟨fs,hu,_⟩:=dlS.hu;refine zD (v:=.tuple #[.agg #[.slice wa d.writes.length wc,.slice ma d.marks.length mc],.int .i64 1]) (by simp[results,Tryz.results99,go_sem,loadVar,isAgg,zr hu,zaa dlS.hs,loadCellsFrom,Addr.add,d0,d1]) rfl ?_;rw[zff,HK.out];exact⟨_,rfl,⟨wa,wc,ma,mc,rfl,(hOw.unbut.other hgd (by omega) (by omega)).rdS λk hk hl=>⟨by omega,hl⟩,(hOm.other hgd (by omega) (by omega)).rdS λk hk hl=>⟨by omega,hl⟩⟩,q.grown hgd q.size λk e=>by injection e with e;omega⟩
section
variable {P : Program} {o : Oper} {a : Act} {K : Act → World → Prop} {Q : Exit → Act → World → Prop} {w : World}
theorem zkh{t e:TypeId}{x:Operand}{p:Addr}{v:Value}(ho:o.op=.load t x)(hx:a.eval x=.pointer (some p))(hu:P.underlying t=some (.pointer e))(hc:w.cell? p=some v)(h:K (a.put o.dst v) w):o.wp P a w K Q:=by
 refine zid ?_ h;simp only[execOp,ho,hx];simp[isAgg,zr hu,hc,go_sem]
end
def pDt (W:World)(bz:Nat)(hbz:bz<W.heap.size)(r:Dl×Nat):SGn (λA B=>A.grownBy B (some bz)):=
 ⟨λV v=>∃u,v=.tuple #[u,.int .i64 (r.2:Nat)]/\RdDl (λk=>W.heap.size<=k/\k<V.heap.size) V u r.1,λ_ _ _ ⟨u,e,h⟩ hb=>⟨u,e,(h.below hb).weak λ_ hk=>⟨hk.1,zm hk.2 hb.size⟩⟩,
  λ_ _ _⟨u,e,h⟩ hk=>⟨u,e,(h.keep λk hh=>hk.block k hh.2 (λe=>by injection e with e;have:=hh.1;omega)).weak λ_ hh=>⟨hh.1,zm hh.2 hk.size⟩⟩⟩
def pDu(W:World)(bz:Nat)(hbz:bz<W.heap.size)(r:Dl×Nat):SGn (λA B=>A.grownBy B (some bz)):=
 ⟨λV u=>RdDl (λk=>W.heap.size<=k/\k<V.heap.size) V u r.1,λ_ _ _ h hb=>(h.below hb).weak λ_ hk=>⟨hk.1,zm hk.2 hb.size⟩,
  λ_ _ _ h hk=>(h.keep λk hh=>hk.block k hh.2 (λe=>by injection e with e;have:=hh.1;omega)).weak λ_ hh=>⟨hh.1,zm hh.2 hk.size⟩⟩
def SdJ(W:World)(bz:Nat)(r:Dl):List Value->World->Prop
 |[],V=>Below W.heap.size W V
 |_,V=>W.grownBy V (some bz)/\∃a c a2 c2,BoxN V bz 41 [.slice a r.writes.length c,.slice a2 r.marks.length c2]/\RdDl (λk=>W.heap.size<=k/\k<V.heap.size) V (.agg #[.slice a r.writes.length c,.slice a2 r.marks.length c2]) r
theorem SdJ.below{W:World}{bz:Nat}{r:Dl}:∀(l:List Value) (V V':World),SdJ W bz r l V->Below V.heap.size V V'->SdJ W bz r l V'
 |[],_,_,h,hb=>y8 h (hb.mono (y9 h))
 |_::_,_,_,⟨h,a,c,a2,c2,h0,h1⟩,hb=>⟨zbg h (za4 hb _),a,c,a2,c2,h0.below hb h0.lt,(h1.below hb).weak λ_ hk=>⟨hk.1,zm hk.2 hb.size⟩⟩
theorem zrf (w:World){b p:Nat}{d:Dl}{T:Sto}{s:Int}{x:Tx}{D:Nat}{S:Nat->Prop}(h:Tu D S w b d T s x) (hs:smD d) (bp:BoxN w p 113 [.pointer (some ⟨b,0,none⟩)]):Calls Tryz.prog 100 #[.pointer (some ⟨p,0,none⟩)] w (zff w (zc0 d x.n)):=by
 obtain⟨a,c,a2,c2,aS,mS,cS,kA,hA,vA,kC,hC,vC,bt,hd,hT,hk,hh,hv,ht,hSb,hDb⟩:=h;obtain⟨r,hr0⟩:∃r,r=zc0 d x.n:=⟨_,rfl⟩;have hcl:=λ(V:World) (hV:Below w.heap.size w V)=>zng V (i:=x.n) (hd.below hV) hs
 rw[<-hr0]at hcl;rw[<-hr0];clear hr0;have eP:∀args w,(callFunc 38 args).run Tryz.prog w=.ok (.enter 38 args) w:=enters_of Tryz.func38 (by kernel_rfl) rfl;obtain⟨W,hW,q,bz,hsz⟩:=zeb w 41 [.slice none 0 0,.slice none 0 0];go_enter Tryz.func100,Tryz.ntmps100;go_upto_region 1 with(fail);rw[show w.alloc (.cells #[.slice none 0 0,.slice none 0 0] 41)=W from hW.symm];clear hW;have qb:=bt.lt;refine zai (K:=λA B=>A.grownBy B (some w.heap.size)) (by kernel_rfl) (by kernel_rfl) [12] (by kernel_rfl) [lEq (.pointer (some ⟨b,0,none⟩)),lEq (.pointer (some ⟨b,0,none⟩)),lEq (.pointer (some ⟨b,0+0,none⟩)),lEq (.agg #[.slice a d.writes.length c,.slice a2 d.marks.length c2]),lEq (.pointer (some ⟨b,0,none⟩)),lEq (.pointer (some ⟨b,0,none⟩)),lEq (.pointer (some ⟨b,0+15,none⟩)),lEq (.pointer (some ⟨b,0+15+6,none⟩)),lEq (.int .i64 x.n),pDt W w.heap.size (by omega) r,pDu W w.heap.size (by omega) r,lEq (.int .i64 (r.2:Nat)),lAny,lEq (.int .i64 (r.2:Nat))] (SdJ W w.heap.size r.1) SdJ.below (show Below W.heap.size W W from ze _ _)
  ⟨?o0,?o1,?o2,?o3,?o4,?o5,?o6,?o7,?o8,?o9,?o10,?o11,?o12,?o13,trivial⟩ ?fin
 case o0=>
  refine LnOp.sd (λA va w' k hF hT hk hJ hb hu hp hd=>?_);have e1:=hF 0 rfl;obtain rfl:k=0:=by have:=hb 0 12 rfl (by kernel_rfl);omega
  have hJ0:Below W.heap.size W w':=hJ;have hJq:Below w.heap.size w w':=q.trans (hJ0.mono q.size);exact zkh (e:=86) rfl e1 (by kernel_rfl) ((bp.below hJq bp.lt).cell (i:=0) rfl) ⟨_,rfl,rfl,ze _ _⟩
 case o1=>
  refine LnOp.sd (λA va w' k hF hT hk hJ hb hu hp hd=>?_);have e1:=(hT 3 0 (by simp) rfl).trans (hd ⟨0,.data⟩ (by simp) rfl rfl);exact zcc rfl (e1) ⟨_,rfl,rfl,ze _ _⟩
 case o2=>
  refine LnOp.sd (λA va w' k hF hT hk hJ hb hu hp hd=>?_);have e1:=(hT 4 1 (by simp) rfl).trans (hd ⟨1,.data⟩ (by simp) rfl rfl);exact za6 tuF0 rfl (e1) ⟨_,rfl,rfl,ze _ _⟩
 case o3=>
  refine LnOp.sd (λA va w' k hF hT hk hJ hb hu hp hd=>?_);have e1:=(hT 5 2 (by simp) rfl).trans (hd ⟨2,.data⟩ (by simp) rfl rfl);obtain rfl:k=0:=by have:=hb 0 12 rfl (by kernel_rfl);omega
  have hJ0:Below W.heap.size W w':=hJ;have hJq:Below w.heap.size w w':=q.trans (hJ0.mono q.size);exact ze0 dlS rfl e1 ((bt.below hJq bt.lt).cell (i:=0) rfl) ((bt.below hJq bt.lt).cell (i:=1) rfl) ⟨_,rfl,rfl,ze _ _⟩
 case o4=>
  refine LnOp.sd (λA va w' k hF hT hk hJ hb hu hp hd=>?_);have e1:=hF 0 rfl;obtain rfl:k=0:=by have:=hb 0 12 rfl (by kernel_rfl);omega
  have hJ0:Below W.heap.size W w':=hJ;have hJq:Below w.heap.size w w':=q.trans (hJ0.mono q.size);exact zkh (e:=86) rfl e1 (by kernel_rfl) ((bp.below hJq bp.lt).cell (i:=0) rfl) ⟨_,rfl,rfl,ze _ _⟩
 case o5=>
  refine LnOp.sd (λA va w' k hF hT hk hJ hb hu hp hd=>?_);have e1:=(hT 7 4 (by simp) rfl).trans (hd ⟨4,.data⟩ (by simp) rfl rfl);exact zcc rfl (e1) ⟨_,rfl,rfl,ze _ _⟩
 case o6=>
  refine LnOp.sd (λA va w' k hF hT hk hJ hb hu hp hd=>?_);have e1:=(hT 8 5 (by simp) rfl).trans (hd ⟨5,.data⟩ (by simp) rfl rfl);exact za6 tuF3 rfl (e1) ⟨_,rfl,rfl,ze _ _⟩
 case o7=>
  refine LnOp.sd (λA va w' k hF hT hk hJ hb hu hp hd=>?_);have e1:=(hT 9 6 (by simp) rfl).trans (hd ⟨6,.data⟩ (by simp) rfl rfl);exact zaf txS rfl (e1) (by omega) ⟨_,rfl,rfl,ze _ _⟩
 case o8=>
  refine LnOp.sd (λA va w' k hF hT hk hJ hb hu hp hd=>?_);have e1:=(hT 10 7 (by simp) rfl).trans (hd ⟨7,.data⟩ (by simp) rfl rfl);obtain rfl:k=0:=by have:=hb 0 12 rfl (by kernel_rfl);omega
  have hJ0:Below W.heap.size W w':=hJ;have hJq:Below w.heap.size w w':=q.trans (hJ0.mono q.size);exact zbv (k:=.i64) rfl e1 (by kernel_rfl) ((bt.below hJq bt.lt).cell (i:=21) rfl) ⟨_,rfl,rfl,ze _ _⟩
 case o9=>
  refine LnOp.sd (λA va w' k hF hT hk hJ hb hu hp hd=>?_);have e1:=(hT 6 3 (by simp) rfl).trans (hd ⟨3,.data⟩ (by simp) rfl rfl);have e2:=(hT 11 8 (by simp) rfl).trans (hd ⟨8,.data⟩ (by simp) rfl rfl);obtain rfl:k=0:=by have:=hb 0 12 rfl (by kernel_rfl);omega
  have hJ0:Below W.heap.size W w':=hJ;have hJq:Below w.heap.size w w':=q.trans (hJ0.mono q.size);refine zah rfl eP (args:=#[.agg #[.slice a d.writes.length c,.slice a2 d.marks.length c2],.int .i64 x.n]) (by simp only[zE,zn,zo,e1,e2]) ((hcl w' hJq).mono ?_);rintro e w2 ⟨v,rfl,hrd,hb2⟩;exact⟨_,rfl,_,rfl,⟨v,rfl,hrd.weak λk hk=>⟨zv hJ0.size hk.1,hk.2⟩⟩,hb2⟩
 case o10=>
  refine LnOp.sd (λA va w' k hF hT hk hJ hb hu hp hd=>?_);have x1:A.eval (.tmp 12)=va 9:=hT 12 9 (by simp) rfl;have y1:=hd ⟨9,.data⟩ (by simp) rfl rfl;obtain⟨u,eu,hu9⟩:=y1;exact zjp rfl (x1.trans eu) rfl ⟨_,rfl,hu9,ze _ _⟩
 case o11=>
  refine LnOp.sd (λA va w' k hF hT hk hJ hb hu hp hd=>?_);have x1:A.eval (.tmp 12)=va 9:=hT 12 9 (by simp) rfl;have y1:=hd ⟨9,.data⟩ (by simp) rfl rfl;obtain⟨u,eu,hu9⟩:=y1;exact zjp rfl (x1.trans eu) rfl ⟨_,rfl,rfl,ze _ _⟩
 case o12=>
  refine LnOp.line 0 rfl rfl (λA va w' hF hT hJ hu hd=>?_);have e1:=hF 1 rfl;have x2:A.eval (.tmp 13)=va 10:=hT 13 10 (by simp) rfl;have y2:=hd ⟨10,.data⟩ (by simp) rfl rfl;have hJ0:Below W.heap.size W w':=hJ;obtain⟨a7,c7,a8,c8,e7,h7⟩:=id y2;rw[e7]at y2;refine za3 (us:=[.slice a7 r.1.writes.length c7,.slice a8 r.1.marks.length c8]) (by kernel_rfl) rfl e1 (x2.trans e7) rfl (bz.below hJ0 (by omega)) rfl (λw2 hg hB2=>?_);exact⟨_,rfl,⟨(zb0 hJ0 rfl _).andThen hg (by simp),a7,c7,a8,c8,hB2,(y2.keep λk hk=>hg.block k hk.2 λe=>by injection e with e;have:=hk.1;omega).weak λk hk=>⟨hk.1,zm hk.2 hg.size⟩⟩,hg⟩
 case o13=>
  refine LnOp.sd (λA va w' k hF hT hk hJ hb hu hp hd=>?_);have e1:=(hT 14 11 (by simp) rfl).trans (hd ⟨11,.data⟩ (by simp) rfl rfl);exact yV _ rfl ⟨_,rfl,e1,ze _ _⟩
 case fin=>
  intro vs1 W9 hJ hG;obtain⟨hg9,a9,c9,m9,n9,hb9,hr9⟩:=hJ;have q9:Below w.heap.size w W9:=q.grown hg9 q.size λk e=>by injection e with e;omega
  have g0:vs1 0=.pointer (some ⟨b,0,none⟩):=hG 0 (by decide) rfl;have g1:vs1 1=.pointer (some ⟨b,0,none⟩):=hG 1 (by decide) rfl;have g2:vs1 2=.pointer (some ⟨b,0+0,none⟩):=hG 2 (by decide) rfl;have g3:vs1 3=.agg #[.slice a d.writes.length c,.slice a2 d.marks.length c2]:=hG 3 (by decide) rfl;have g4:vs1 4=.pointer (some ⟨b,0,none⟩):=hG 4 (by decide) rfl;have g5:vs1 5=.pointer (some ⟨b,0,none⟩):=hG 5 (by decide) rfl;have g6:vs1 6=.pointer (some ⟨b,0+15,none⟩):=hG 6 (by decide) rfl;have g7:vs1 7=.pointer (some ⟨b,0+15+6,none⟩):=hG 7 (by decide) rfl;have g8:vs1 8=.int .i64 x.n:=hG 8 (by decide) rfl;have g11:vs1 11=.int .i64 (r.2:Nat):=hG 11 (by decide) rfl;have g13:vs1 13=.int .i64 (r.2:Nat):=hG 13 (by decide) rfl;simp only[zaj,g0,g1,g2,g3,g4,g5,g6,g7,g8,g11,g13];clear hG g0 g1 g2 g3 g4 g5 g6 g7 g8 g11 g13;go_simp;have d0:=hb9.cell (i:=0) rfl;have d1:=hb9.cell (i:=1) rfl;go_wp2_with fail;obtain⟨fs,hu,_⟩:=dlS.hu;refine zD (v:=.tuple #[.agg #[.slice a9 r.1.writes.length c9,.slice m9 r.1.marks.length n9],.int .i64 (r.2:Nat)]) (by simp[results,Tryz.results100,go_sem,loadVar,isAgg,zr hu,zaa dlS.hs,loadCellsFrom,Addr.add,d0,d1]) rfl ?_;exact⟨_,rfl,hr9.weak λk hk=>⟨by omega,hk.2⟩,q9⟩
theorem zn0(w:World){b p py:Nat}{d:Dl}{T:Sto}{s:Int}{x:Tx}{D:Nat}{S:Nat->Prop}(h:Tu D S w b d T s x)(hs:smD d)(bp:BoxN w p 113 [.pointer (some ⟨b,0,none⟩)]){y:Wr}{yA yB:Option Addr}{yC yD:Nat}(by_:BoxN w py 62 [.int .i64 y.table,.slice yA y.key.length yC,.bool y.gone,.slice yB y.val.length yD]){S2:Nat->Prop}(hy:RdWr S2 w (.agg #[.int .i64 y.table,.slice yA y.key.length yC,.bool y.gone,.slice yB y.val.length yD]) y)(hy1:y.key.length<=1000000)(hy2:y.val.length<=1000000):Calls Tryz.prog 123 #[.pointer (some ⟨p,0,none⟩),.pointer (some ⟨py,0,none⟩)] w (zff w (putD d y)):=by
 obtain⟨a,c,a2,c2,aS,mS,cS,kA,hA,vA,kC,hC,vC,bt,hd,hT,hk,hh,hv,ht,hSb,hDb⟩:=h;obtain⟨r,hr0⟩:∃r,r=putD d y:=⟨_,rfl⟩;have hcl:=λ(V:World)(hV:Below w.heap.size w V)=>dPut_any V (x:=y) (hd.below hV) hs (hy.below hV) hy1 hy2
 rw[<-hr0]at hcl;rw[<-hr0];clear hr0;have eP:∀args w,(callFunc 124 args).run Tryz.prog w=.ok (.enter 124 args) w:=enters_of Tryz.func124 (by kernel_rfl) rfl;obtain⟨W,hW,q,bz,hsz⟩:=zeb w 41 [.slice none 0 0,.slice none 0 0];go_enter Tryz.func123,Tryz.ntmps123;go_upto_region 1 with(fail);rw[show w.alloc (.cells #[.slice none 0 0,.slice none 0 0] 41)=W from hW.symm];clear hW;have qb:=bt.lt;refine zai (K:=λA B=>A.grownBy B (some w.heap.size)) (by kernel_rfl) (by kernel_rfl) [8] (by kernel_rfl) [lEq (.pointer (some ⟨b,0,none⟩)),lEq (.pointer (some ⟨b,0,none⟩)),lEq (.pointer (some ⟨b,0+0,none⟩)),lEq (.agg #[.slice a d.writes.length c,.slice a2 d.marks.length c2]),lEq (.agg #[.int .i64 y.table,.slice yA y.key.length yC,.bool y.gone,.slice yB y.val.length yD]),pDt W w.heap.size (by omega) r,pDu W w.heap.size (by omega) r,lEq (.int .i64 (r.2:Nat)),lAny,lEq (.int .i64 (r.2:Nat))] (SdJ W w.heap.size r.1) SdJ.below (show Below W.heap.size W W from ze _ _)
  ⟨?o0,?o1,?o2,?o3,?o4,?o5,?o6,?o7,?o8,?o9,trivial⟩ ?fin
 case o0=>
  refine LnOp.sd (λA va w' k hF hT hk hJ hb hu hp hd=>?_);have e1:=hF 0 rfl;obtain rfl:k=0:=by have:=hb 0 8 rfl (by kernel_rfl);omega
  have hJ0:Below W.heap.size W w':=hJ;have hJq:Below w.heap.size w w':=q.trans (hJ0.mono q.size);exact zkh (e:=86) rfl e1 (by kernel_rfl) ((bp.below hJq bp.lt).cell (i:=0) rfl) ⟨_,rfl,rfl,ze _ _⟩
 case o1=>
  refine LnOp.sd (λA va w' k hF hT hk hJ hb hu hp hd=>?_);have e1:=(hT 4 0 (by simp) rfl).trans (hd ⟨0,.data⟩ (by simp) rfl rfl);exact zcc rfl (e1) ⟨_,rfl,rfl,ze _ _⟩
 case o2=>
  refine LnOp.sd (λA va w' k hF hT hk hJ hb hu hp hd=>?_);have e1:=(hT 5 1 (by simp) rfl).trans (hd ⟨1,.data⟩ (by simp) rfl rfl);exact za6 tuF0 rfl (e1) ⟨_,rfl,rfl,ze _ _⟩
 case o3=>
  refine LnOp.sd (λA va w' k hF hT hk hJ hb hu hp hd=>?_);have e1:=(hT 6 2 (by simp) rfl).trans (hd ⟨2,.data⟩ (by simp) rfl rfl);obtain rfl:k=0:=by have:=hb 0 8 rfl (by kernel_rfl);omega
  have hJ0:Below W.heap.size W w':=hJ;have hJq:Below w.heap.size w w':=q.trans (hJ0.mono q.size);exact ze0 dlS rfl e1 ((bt.below hJq bt.lt).cell (i:=0) rfl) ((bt.below hJq bt.lt).cell (i:=1) rfl) ⟨_,rfl,rfl,ze _ _⟩
 case o4=>
  refine LnOp.sd (λA va w' k hF hT hk hJ hb hu hp hd=>?_);have e1:=hF 1 rfl;obtain rfl:k=0:=by have:=hb 0 8 rfl (by kernel_rfl);omega
  have hJ0:Below W.heap.size W w':=hJ;have hJq:Below w.heap.size w w':=q.trans (hJ0.mono q.size);exact zdj wrS rfl e1 ((by_.below hJq by_.lt).cell (i:=0) rfl) ((by_.below hJq by_.lt).cell (i:=1) rfl) ((by_.below hJq by_.lt).cell (i:=2) rfl) ((by_.below hJq by_.lt).cell (i:=3) rfl) ⟨_,rfl,rfl,ze _ _⟩
 case o5=>
  refine LnOp.sd (λA va w' k hF hT hk hJ hb hu hp hd=>?_);have e1:=(hT 7 3 (by simp) rfl).trans (hd ⟨3,.data⟩ (by simp) rfl rfl);have e2:=(hT 8 4 (by simp) rfl).trans (hd ⟨4,.data⟩ (by simp) rfl rfl);obtain rfl:k=0:=by have:=hb 0 8 rfl (by kernel_rfl);omega
  have hJ0:Below W.heap.size W w':=hJ;have hJq:Below w.heap.size w w':=q.trans (hJ0.mono q.size);refine zah rfl eP (args:=#[.agg #[.slice a d.writes.length c,.slice a2 d.marks.length c2],.agg #[.int .i64 y.table,.slice yA y.key.length yC,.bool y.gone,.slice yB y.val.length yD]]) (by simp only[zE,zn,zo,e1,e2]) ((hcl w' hJq).mono ?_);rintro e w2⟨v,rfl,hrd,hb2⟩;exact⟨_,rfl,_,rfl,⟨v,rfl,hrd.weak λk hk=>⟨zv hJ0.size hk.1,hk.2⟩⟩,hb2⟩
 case o6=>
  refine LnOp.sd (λA va w' k hF hT hk hJ hb hu hp hd=>?_);have x1:A.eval (.tmp 9)=va 5:=hT 9 5 (by simp) rfl;have y1:=hd ⟨5,.data⟩ (by simp) rfl rfl;obtain⟨u,eu,hu9⟩:=y1;exact zjp rfl (x1.trans eu) rfl ⟨_,rfl,hu9,ze _ _⟩
 case o7=>
  refine LnOp.sd (λA va w' k hF hT hk hJ hb hu hp hd=>?_);have x1:A.eval (.tmp 9)=va 5:=hT 9 5 (by simp) rfl;have y1:=hd ⟨5,.data⟩ (by simp) rfl rfl;obtain⟨u,eu,hu9⟩:=y1;exact zjp rfl (x1.trans eu) rfl ⟨_,rfl,rfl,ze _ _⟩
 case o8=>
  refine LnOp.line 0 rfl rfl (λA va w' hF hT hJ hu hd=>?_);have e1:=hF 2 rfl;have x2:A.eval (.tmp 10)=va 6:=hT 10 6 (by simp) rfl;have y2:=hd ⟨6,.data⟩ (by simp) rfl rfl;have hJ0:Below W.heap.size W w':=hJ;obtain⟨a7,c7,a8,c8,e7,h7⟩:=id y2;rw[e7]at y2;refine za3 (us:=[.slice a7 r.1.writes.length c7,.slice a8 r.1.marks.length c8]) (by kernel_rfl) rfl e1 (x2.trans e7) rfl (bz.below hJ0 (by omega)) rfl (λw2 hg hB2=>?_);exact⟨_,rfl,⟨(zb0 hJ0 rfl _).andThen hg (by simp),a7,c7,a8,c8,hB2,(y2.keep λk hk=>hg.block k hk.2 λe=>by injection e with e;have:=hk.1;omega).weak λk hk=>⟨hk.1,zm hk.2 hg.size⟩⟩,hg⟩
 case o9=>
  refine LnOp.sd (λA va w' k hF hT hk hJ hb hu hp hd=>?_);have e1:=(hT 11 7 (by simp) rfl).trans (hd ⟨7,.data⟩ (by simp) rfl rfl);exact yV _ rfl ⟨_,rfl,e1,ze _ _⟩
 case fin=>
  intro vs1 W9 hJ hG;obtain⟨hg9,a9,c9,m9,n9,hb9,hr9⟩:=hJ;have q9:Below w.heap.size w W9:=q.grown hg9 q.size λk e=>by injection e with e;omega
  have g0:vs1 0=.pointer (some ⟨b,0,none⟩):=hG 0 (by decide) rfl;have g1:vs1 1=.pointer (some ⟨b,0,none⟩):=hG 1 (by decide) rfl;have g2:vs1 2=.pointer (some ⟨b,0+0,none⟩):=hG 2 (by decide) rfl;have g3:vs1 3=.agg #[.slice a d.writes.length c,.slice a2 d.marks.length c2]:=hG 3 (by decide) rfl;have g4:vs1 4=.agg #[.int .i64 y.table,.slice yA y.key.length yC,.bool y.gone,.slice yB y.val.length yD]:=hG 4 (by decide) rfl;have g7:vs1 7=.int .i64 (r.2:Nat):=hG 7 (by decide) rfl;have g9:vs1 9=.int .i64 (r.2:Nat):=hG 9 (by decide) rfl;simp only[zaj,g0,g1,g2,g3,g4,g7,g9];clear hG g0 g1 g2 g3 g4 g7 g9;go_simp;have d0:=hb9.cell (i:=0) rfl;have d1:=hb9.cell (i:=1) rfl;go_wp2_with fail;obtain⟨fs,hu,_⟩:=dlS.hu;refine zD (v:=.tuple #[.agg #[.slice a9 r.1.writes.length c9,.slice m9 r.1.marks.length n9],.int .i64 (r.2:Nat)]) (by simp[results,Tryz.results123,go_sem,loadVar,isAgg,zr hu,zaa dlS.hs,loadCellsFrom,Addr.add,d0,d1]) rfl ?_;exact⟨_,rfl,hr9.weak λk hk=>⟨by omega,hk.2⟩,q9⟩
theorem zrd (w:World){b p:Nat}{d:Dl}{T:Sto}{s:Int}{x:Tx}{D:Nat}{S:Nat->Prop}(h:Tu D S w b d T s x) (hs:smD d) (bp:BoxN w p 113 [.pointer (some ⟨b,0,none⟩)]):Calls Tryz.prog 98 #[.pointer (some ⟨p,0,none⟩)] w (zff w (zc8 d)):=by
 obtain⟨a,c,a2,c2,aS,mS,cS,kA,hA,vA,kC,hC,vC,bt,hd,hT,hk,hh,hv,ht,hSb,hDb⟩:=h;obtain⟨r,hr0⟩:∃r,r=zc8 d:=⟨_,rfl⟩;have hcl:=λ(V:World) (hV:Below w.heap.size w V)=>zu5 V (hd.below hV) hs
 rw[<-hr0]at hcl;rw[<-hr0];clear hr0;have eP:∀args w,(callFunc 99 args).run Tryz.prog w=.ok (.enter 99 args) w:=enters_of Tryz.func99 (by kernel_rfl) rfl;obtain⟨W,hW,q,bz,hsz⟩:=zeb w 41 [.slice none 0 0,.slice none 0 0];go_enter Tryz.func98,Tryz.ntmps98;go_upto_region 1 with(fail);rw[show w.alloc (.cells #[.slice none 0 0,.slice none 0 0] 41)=W from hW.symm];clear hW;have qb:=bt.lt;have r0:=(bp.below q bp.lt).cell (i:=0) rfl;have r1:=(bt.below q bt.lt).cell (i:=0) rfl;have r2:=(bt.below q bt.lt).cell (i:=1) rfl;go_wp2_with fail;refine(hcl W q).mono ?_;rintro e w1 ⟨v,rfl,hrd,hb⟩;clear hcl r0 r1 r2;obtain⟨a9,c9,m9,n9,e9,_⟩:=id hrd;subst e9;replace bz:=bz.below hb bz.lt;have q1:=q.trans (hb.mono q.size);have z:=hb.size;go_wp2_with(first|(refine zab (us:=[.slice a9 r.1.writes.length c9,.slice m9 r.1.marks.length n9]) (by kernel_rfl) rfl rfl rfl rfl rfl rfl bz rfl ?_;intro w2 hg hb9)|fail);have q9:Below w.heap.size w w2:=q1.grown hg q1.size λk e=>by injection e with e;omega
 have hr9:RdDl (λk=>W.heap.size<=k/\k<w2.heap.size) w2 (.agg #[.slice a9 r.1.writes.length c9,.slice m9 r.1.marks.length n9]) r.1:=(hrd.keep λk hk=>hg.block k hk.2 λe=>by injection e with e;have:=hk.1;omega).weak λk hk=>⟨hk.1,zm hk.2 hg.size⟩
 have d0:=hb9.cell (i:=0) rfl;have d1:=hb9.cell (i:=1) rfl;go_wp2_with fail;obtain⟨fs,hu,_⟩:=dlS.hu;refine zD (v:=.tuple #[.agg #[.slice a9 r.1.writes.length c9,.slice m9 r.1.marks.length n9],.int .i64 (r.2:Nat)]) (by simp[results,Tryz.results98,go_sem,loadVar,isAgg,zr hu,zaa dlS.hs,loadCellsFrom,Addr.add,d0,d1]) rfl ?_;exact⟨_,rfl,hr9.weak λk hk=>⟨by omega,hk.2⟩,q9⟩
section
variable {P : Program} {ops : Array Oper} {rest : List Oper} {o : Oper} {a : Act} {K : Act → World → Prop} {Q : Exit → Act → World → Prop} {w : World}
theorem zq1{f:FuncId}{c:Operand}{ts:Array TypeId}{cs:Array Value}(ho:o.op=.call {callee:=.value c,args:=#[],argTypes:=ts}) (hv:a.eval c=.func (.func f) #[] cs) (eg:∀args w,(callFunc f args).run P w=.ok (.enter f args) w)(hc:Calls P f cs w (λe w'=>∃v,e=.returned v/\K (a.put o.dst v) w')):o.wp P a w K Q:=by
 have hrun:(execOp a.eval o).run P w=.ok (.enter f cs) w:=by
  simp[execOp,ho,resolve,hv,invoke,Deferred.ofValue,eg]
 unfold Oper.wp;rw[hrun,Oper.upon_enter];refine hc.mono (λe w' h=>?_);obtain⟨v,rfl,hk⟩:=h;exact hk
theorem zjq{f:FuncId}{c:Operand}{ts:Array TypeId}{cs:Array Value}(ho:o.op=.call {callee:=.value c,args:=#[],argTypes:=ts})(hgd:Region.wanted o (yielded ops a.tmps)=true)(hv:a.eval c=.func (.func f) #[] cs)(eg:∀args w,(callFunc f args).run P w=.ok (.enter f args) w)(hc:Calls P f cs w (λe w'=>∃v,e=.returned v/\wpList P ops Q rest (a.put o.dst v) w')):wpList P ops Q (o::rest) a w:=
 zQ hgd λ_ hK=>zq1 ho hv eg (hc.mono λ_ _⟨v,e,h⟩=>⟨v,e,hK _ _ h⟩)
end
theorem rpS:StP Tryz.prog 54 4:=StP.of (by kernel_rfl)
theorem zg5 (w:World){b:Nat}{d:Dl}{T:Sto}{s:Int}{x:Tx}{D:Nat}{S:Nat->Prop}(h:Tu D S w b d T s x){f:FuncId}{cs:Array Value}{r:Dl×Nat}(eg:∀args w,(callFunc f args).run Tryz.prog w=.ok (.enter f args) w) (hc:∀V:World,Below w.heap.size w V->Calls Tryz.prog f cs V (zff V r)):Calls Tryz.prog 97 #[.pointer (some ⟨b,0,none⟩),.func (.func f) #[] cs] w (zfv D S w b T s x (r.1,⟨r.2,false,[],[]⟩)):=by
 obtain⟨a,c,a2,c2,aS,mS,cS,kA,hA,vA,kC,hC,vC,bt,hd,hT,hk,hh,hv,ht,hSb,hDb⟩:=h;have qb:=bt.lt;obtain⟨W,hW,q,bz,hsz⟩:=zeb w 54 [.int .i64 0,.bool false,.slice none 0 0,.slice none 0 0];go_enter Tryz.func97,Tryz.ntmps97;go_upto_region 1 with(fail);rw[show w.alloc (.cells #[.int .i64 0,.bool false,.slice none 0 0,.slice none 0 0] 54)=W from hW.symm];clear hW;have hcl:=hc W q;go_upto_region 3 with(first|(refine zjq rfl rfl rfl eg (hcl.mono ?_);rintro e w1 ⟨v,rfl,hrd,hb⟩;refine⟨_,rfl,?_⟩;obtain⟨a9,c9,m9,n9,e9,_⟩:=id hrd;subst e9;have bt1:=(bt.below q bt.lt).below hb (by omega))|(refine zb2 (us:=[.slice a9 r.1.writes.length c9,.slice m9 r.1.marks.length n9]) (by kernel_rfl) rfl rfl rfl rfl rfl rfl bt1 (by simp) ?_;intro w2 hg bt2)|fail);have z1:=hb.size;have z2:=hg.size;replace bz:=(bz.below hb bz.lt).other hg (λe=>by injection e with e;omega);simp only[List.take_zero,yw,ym,zI,zM,List.drop_succ_cons,wq]at bt2;go_wp2_with(first|(refine zab (us:=[.int .i64 (r.2:Nat),.bool false,.slice none 0 0,.slice none 0 0]) (by kernel_rfl) rfl rfl rfl rfl rfl rfl bz rfl ?_;intro w3 hg3 hB)|fail);have z3:=hg3.size;have d0:=hB.cell (i:=0) rfl;have d1:=hB.cell (i:=1) rfl;have d2:=hB.cell (i:=2) rfl;have d3:=hB.cell (i:=3) rfl;obtain⟨fs,hu,_⟩:=rpS.hu;refine zD (v:=.agg #[.int .i64 (r.2:Nat),.bool false,.slice none 0 0,.slice none 0 0]) (by simp[results,Tryz.results97,go_sem,loadVar,isAgg,zr hu,zaa rpS.hs,loadCellsFrom,Addr.add,d0,d1,d2,d3]) rfl ?_;have k1:∀k,k<w.heap.size->S k->w3.heap[k]?=w.heap[k]?:=λk h1 h2=>(hg3.block k (by omega) λe=>by injection e with e;omega).trans ((hg.block k (by omega) λe=>by injection e with e;exact hSb (e▸h2)).trans ((hb.block k (by omega)).trans (q.block k h1)))
 have k2:∀k,W.heap.size<=k->k<w1.heap.size->w3.heap[k]?=w1.heap[k]?:=λk h1 h2=>(hg3.block k (by omega) λe=>by injection e with e;omega).trans (hg.block k (by omega) λe=>by injection e with e;omega)
 refine⟨_,rfl,⟨none,0,none,0,rfl,RdS.nil _ _,RdL.nil _ _ _⟩,⟨a9,c9,m9,n9,aS,mS,cS,kA,hA,vA,kC,hC,vC,bt2.other hg3 (λe=>by injection e with e;omega),?_,?_,?_,?_,?_,ht,λe=>e.elim hSb λe=>by omega,hDb⟩,?_⟩
 ·exact(hrd.keep λk hk=>k2 k hk.1 hk.2).weak λk hk=>⟨.inr ⟨by have:=hk.1;omega,by have:=hk.2;omega⟩,by have:=hk.1;omega⟩
 ·exact(hT.fit.keep λk g=>k1 k g.2 g.1).weak λk g=>.inl g.1
 ·exact(hk.fit.keep λk g=>k1 k g.2 g.1).weak λk g=>.inl g.1
 ·exact(hh.fit.keep λk g=>k1 k g.2 g.1).weak λk g=>.inl g.1
 ·exact(hv.fit.keep λk g=>k1 k g.2 g.1).weak λk g=>.inl g.1
 ·exact⟨hg3.os.trans (hg.os.trans (hb.os.trans q.os)),hg3.tape.trans (hg.tape.trans (hb.tape.trans q.tape)),hg3.output.trans (hg.output.trans (hb.output.trans q.output)),by omega,λk h1 h2=>(hg3.block k (by omega) λe=>by injection e with e;omega).trans ((hg.block k (by omega) λe=>h2 e).trans ((hb.block k (by omega)).trans (q.block k h1)))⟩
end Go.Proofs.YtkobhdllagbkhaaGreat
