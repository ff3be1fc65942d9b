/-
  TEXTS OF ONE PROOF, merged: SlI, SlD, SlC, Nod, TraA, TraB, TrbG, TraC, Cmp, TraD.
-/
import Derived.Laws.Externs
import Derived.Lib.Bytealg
import Derived.Lib.BytesEntry
import Derived.Test.YtkobhdllagbkhaaGreatKn2
namespace Go.Proofs.YtkobhdllagbkhaaGreat
open Go.RowKit
set_option maxRecDepth 100000
set_option maxHeartbeats 32000000
def zdo (Te:TypeId)(sz:Nat)(w:World)(v:Value)(n':Nat)(vs':List Value)(e:Ending)(w':World):Prop:=∃v',e=.returned v'/\zci Te sz w v n' vs' v' w'
theorem zbp{w:World}{b:Nat}{us:List Value}{t:TypeId}(hb:w.heap[b]?=some (.cells us.toArray t (0,0)))(j:Nat)(u:Value)(h:us[j]?=some u):w.cell? (Addr.add ⟨b,0,none⟩ j)=some u:=by
 simp[zN,World.cell?,hb,h]
theorem zuf{cur us:List Value}{p q r:Nat}(h1:p<=q)(h2:us.length=r)(h3:q+r<=cur.length):((cur.take (p+r)++(cur.take q).drop p++cur.drop (p+r+((cur.take q).drop p).length)).take p++us++(cur.take (p+r)++(cur.take q).drop p++cur.drop (p+r+((cur.take q).drop p).length)).drop (p+us.length)).take (q+r)=(cur.take q).take p++us++(cur.take q).drop p:=by
 have e0:((cur.take q).drop p).length=q-p:=by rw[zF,zp];omega
 have e1:(cur.take (p+r)++(cur.take q).drop p++cur.drop (p+r+((cur.take q).drop p).length)).take p=(cur.take q).take p:=by
  rw[zG,xp (by rw[zp];omega),xJ,xJ];congr 1;omega
 have e2:(cur.take (p+r)++(cur.take q).drop p++cur.drop (p+r+((cur.take q).drop p).length)).drop (p+us.length)=(cur.take q).drop p++cur.drop (p+r+(q-p)):=by
  rw[e0,h2,zG,wZ (by rw[zp];omega),xj (by rw[zp];omega),yw]
 rw[e1,e2,<-zG];rw[xp (by simp only[zC,zp,zF,h2];omega),yq (by simp only[zC,zp,zF,h2];omega)]
theorem ins_new{cur vs us:List Value}{p q r:Nat}(h1:p<=q)(h0:vs.length=q)(h2:us.length=r)(h4:cur.take p=vs.take p):((cur.take p++us++cur.drop (p+us.length)).take (p+r)++vs.drop p++(cur.take p++us++cur.drop (p+us.length)).drop (p+r+(vs.drop p).length)).take (q+r)=vs.take p++us++vs.drop p:=by
 have e0:(vs.drop p).length=q-p:=by rw[zF,h0]
 have e1:(cur.take p++us++cur.drop (p+us.length)).take (p+r)=vs.take p++us:=by
  rw[h4,xp (by simp only[zC,zp,h2];omega),yq (by simp only[zC,zp,h2];omega)]
 rw[e1,xp (by simp only[zC,zp,zF,h2];omega),yq (by simp only[zC,zp,zF,h2];omega)]
theorem zeo{P:Program}{T Te Tb:TypeId}{sz:Nat}(hP:LsP P T Te sz){f:FuncId}{fn:Func}(hf:P.funcs[f]?=some fn)(hname:(fn.name=="runtime.NumGoroutine")=false)(hb:fn.body.isNone=true)(hn:Extern.findNext fn=none)(he:Extern.find fn=some (Extern.SlicesOverlaps.overlaps #[T,T] #[Tb])){w:World}{b g off m k mc kc:Nat}{us:List Value}{cur:Array Value}(hbc:w.heap[b]?=some (.cells us.toArray Te (0,0)))(hg:w.heap[g]?=some (.cells cur Te (0,0)))(hne:b≠g)(hcur:cur.size≠0):
  (callFunc f #[.slice (some ⟨b,0,none⟩) m mc,.slice (some ⟨g,off,none⟩) k kc]).run P w=.ok (.value (.bool false)) w:=by
 obtain⟨i,hi,hsz⟩:=hP.info;rw[ve hf hname hb hn he,Lib.run_overlaps_apart w T Tb Te hP.hT sz (λw=>by simp[sizeOf,typeInfo,hi,hsz]) ⟨b,0,none⟩ ⟨g,off,none⟩ m mc k kc hne Te Te us.length cur.size (by simp[World.shape?,hbc]) (by simp[World.shape?,hg]) hcur (by simp[World.frozen?,hbc]) (by simp[World.frozen?,hbc])];rfl
def zgj(f:FuncId)(T:TypeId):Prop:=(f=143/\T=42)\/(f=144/\T=43)\/(f=160/\T=52)
theorem zor {f:FuncId}{T Te:TypeId}{sz:Nat}(hP:LoP Tryz.prog T Te sz)(h0:0<sz)(hQ:zgj f T)(w:World){v:Value}{i b m:Nat}{vs us:List Value}(hv:RowQ Te sz w v i vs)(hn:i+m<=1000000)(hm:0<m)(hb:w.heap[b]?=some (.cells us.toArray Te (0,0)))(hu:us.length=m*sz)(hu1:∀u∈us,u.oneCell'=true):Calls Tryz.prog f #[v,.int .i64 i,.slice (some ⟨b,0,none⟩) m m] w (zdo Te sz w v (i+m) (vs.take (i*sz)++us++vs.drop (i*sz))):=by
 have hz1:((m:Int)==0)=false:=zt.2 (by omega);have hcs:=zbp hb;have hl:vs.take (i*sz)++us++vs.drop (i*sz)=vs++us:=by rw[yq (by rw[hv.len];omega),xj (by rw[hv.len];omega),yr]
 rw[hl];clear hl;obtain⟨a,c,rfl,hnc,hcm⟩:=hv.shape;rcases hQ with⟨rfl,rfl⟩|⟨rfl,rfl⟩|⟨rfl,rfl⟩
 all_goals
  first|go_enter Tryz.func143,Tryz.ntmps143|go_enter Tryz.func144,Tryz.ntmps144|go_enter Tryz.func160,Tryz.ntmps160
  go_upto_region 7 with(go_big_may;first
   |(refine zbd hP.toLsP rfl rfl rfl (l:=i) (r:=i) (za1 _ (by omega)) ?_;intro _)
   |fail)
  go_wp2_with(first
   |(refine zea hP (by omega) rfl rfl rfl hv rfl hu hcs hu1 (by omega) ?_;intro ad cap w' hR)
   |fail)
  go_ret;exact⟨_,rfl,hR⟩
theorem zm4{f:FuncId}{T Te:TypeId}{sz:Nat}(hP:LoP Tryz.prog T Te sz)(h0:0<sz)(hQ:zgj f T)(w:World){n i b m g cap:Nat}{vs us:List Value}(hv:RowQ Te sz w (.slice (some ⟨g,0,none⟩) n cap) n vs)(hi:i<n)(hn:n+m<=1000000)(hm:0<m)(hb:w.heap[b]?=some (.cells us.toArray Te (0,0)))(hu:us.length=m*sz)(hu1:∀u∈us,u.oneCell'=true)(hnc:n<=cap)(hroom:cap<n+m):Calls Tryz.prog f #[.slice (some ⟨g,0,none⟩) n cap,.int .i64 i,.slice (some ⟨b,0,none⟩) m m] w (zdo Te sz w (.slice (some ⟨g,0,none⟩) n cap) (n+m) (vs.take (i*sz)++us++vs.drop (i*sz))):=by
  have hz1:((m:Int)==0)=false:=zt.2 (by omega);have hz2:((i:Int)==(n:Int))=false:=zt.2 (by omega);have hz3:decide ((cap:Int)<(n:Int)+(m:Int))=true:=zk (by omega);have hcs:=zbp hb;have hglt:=hv.lt (k:=g) rfl;have hblt:=(zJ.1 hb).1;have hcs0:∀(j:Nat)(u:Value),(vs.take (i*sz))[j]?=some u->w.cell? (Addr.add ⟨g,0,none⟩ j)=some u:=λj u hj=>by
    rw[xG]at hj;split at hj
    ·rw[zN,zR];exact hv.cell rfl hj
    ·cases hj
  have hl0:(vs.take (i*sz)).length=i*sz:=by rw[zp,hv.len];exact yi (yN _ (xY hi))
  rcases hQ with⟨rfl,rfl⟩|⟨rfl,rfl⟩|⟨rfl,rfl⟩
  all_goals
    first|go_enter Tryz.func143,Tryz.ntmps143|go_enter Tryz.func144,Tryz.ntmps144|go_enter Tryz.func160,Tryz.ntmps160
    go_upto_region 10 with(go_big_may;first
      |(refine zbd hP.toLsP rfl rfl rfl (l:=i) (r:=n) (za1 _ (by omega)) ?_;intro _)
      |(refine zbi hP.toLsP rfl rfl rfl (r:=i) (zax _ (by omega)) ?_)
      |(refine zgf hP (by omega) (by kernel_rfl) rfl rfl rfl (m:=n+m-i) rfl (by omega) hl0 (λq hq=>by cases hq;exact hcs0) (λh=>by cases h) (by omega) (by omega) (by omega) ?_;intro G cr hG1 hG2 hG3 hG4)
      |fail)
    have hL:i+(n+m-i)=n+m:=by omega
    rw[hL]at hG1⊢;clear hL;have hg1:((w.alloc (.cells cr Te)).drew).heap[w.heap.size]?=some (.cells cr Te (0,0)):=by simp only[World.alloc,World.drew,yf]
    have q1:Below w.heap.size w ((w.alloc (.cells cr Te)).drew):=((ze _ _).alloc (zf _) _).drew;generalize (w.alloc (.cells cr Te)).drew=W1 at*;have hcs1:∀(j:Nat)(u:Value),us[j]?=some u->W1.cell? (Addr.add ⟨b,0,none⟩ j)=some u:=λj u hj=>by
      have:=hcs j u hj;rw[zN]at this⊢;exact(zag (q1.block b hblt) _).trans this
    have hGs:(n+m)*sz<=G*sz:=yN _ hG1;have hLs:(n+m)*sz=n*sz+m*sz:=by rw[zT]
    have his:i*sz<=n*sz:=yN _ (xY hi);go_upto_region 11 with(go_big_may;first
      |(refine zam hP.toLsP rfl rfl rfl (l:=i) (r:=n+m) (za1 _ (by omega)) (by omega) ?_)
      |(refine zco hP.toLsP rfl rfl rfl rfl hg1 (cs:=us) (by rw[yi (by omega)];exact hu) hcs1 hu1 (by rw[hG3,hu];omega) ?_;intro W2 hg2 hgr2)
      |fail)
    have q2:Below w.heap.size w W2:=q1.grown hgr2 q1.size (λk hk=>by injection hk with hk;omega);have hdl:(vs.drop (i*sz)).length=(n-i)*sz:=by rw[zF,hv.len,xK]
    have hgc:∀(W:World),Below w.heap.size w W->∀(j:Nat) (u:Value),(vs.drop (i*sz))[j]?=some u->W.cell? (Addr.add ⟨g,0+i*sz,none⟩ j)=some u:=λW hW j u hj=>by
      rw[xR]at hj;rw[zN,zR];exact(zag (hW.block g hglt) _).trans (hv.cell rfl hj)
    obtain⟨C1,hC1⟩:∃C1:Array Value,C1=(cr.toList.take (0+i*sz)++us++cr.toList.drop (0+i*sz+us.length)).toArray:=⟨_,rfl⟩;replace hg2:W2.heap[w.heap.size]?=some (.cells C1 Te (0,0)):=by rw[hC1];simpa using hg2
    have hC1s:C1.size=G*sz:=by
      rw[hC1];simp only[yj,zC,zp,zF,yo,hG3,hu];omega
    refine zai (K:=λ_ _=>True) (by kernel_rfl) (by kernel_rfl) [8] (by kernel_rfl) [lEq (.slice (some ⟨w.heap.size,0,none⟩) (n+m) G),lEq (.int .i64 (i:Int)),lEq (.int .i64 (m:Int)),lEq (.int .i64 ((i:Int)+(m:Int))),lEq (.slice (some ⟨w.heap.size,0+(i+m)*sz,none⟩) (n+m-(i+m)) (G-(i+m))),lEq (.slice (some ⟨g,0,none⟩) n cap),lEq (.int .i64 (i:Int)),lEq (.slice (some ⟨g,0+i*sz,none⟩) (n-i) (cap-i)),lAny] (λl W=>Below w.heap.size w W/\W.heap[w.heap.size]?=some (.cells (match l with|[]=>C1|_::_=>(C1.toList.take (0+(i+m)*sz)++vs.drop (i*sz)++C1.toList.drop (0+(i+m)*sz+(vs.drop (i*sz)).length)).toArray) Te (0,0))) (λl A B h hb=>⟨h.1.trans (hb.mono h.1.size),(hb.block _ (zJ.1 h.2).1).trans h.2⟩) ⟨q2,hg2⟩
      ⟨?o0,?o1,?o2,?o3,?o4,?o5,?o6,?o7,?o8,trivial⟩ ?fin
    case o0=>
      refine LnOp.side rfl (by kernel_rfl) (λA va w' k hF hT hk hJ hb hu hp hd=>?_);have e1:A.eval (.tmp 9)=.slice (some ⟨w.heap.size,0,none⟩) (n+m) G:=hF 9 rfl;exact zu _ rfl ⟨_,rfl,e1,ze _ _⟩
    case o1=>
      refine LnOp.side rfl (by kernel_rfl) (λA va w' k hF hT hk hJ hb hu hp hd=>?_);have e1:A.eval (.tmp 1)=.int .i64 (i:Int):=hF 1 rfl;exact zu _ rfl ⟨_,rfl,e1,ze _ _⟩
    case o2=>
      refine LnOp.side rfl (by kernel_rfl) (λA va w' k hF hT hk hJ hb hu hp hd=>?_);have e1:A.eval (.tmp 7)=.int .i64 (m:Int):=hF 7 rfl;exact zu _ rfl ⟨_,rfl,e1,ze _ _⟩
    case o3=>
      refine LnOp.side rfl (by kernel_rfl) (λA va w' k hF hT hk hJ hb hu hp hd=>?_);have e1:A.eval (.tmp 47)=.int .i64 (i:Int):=(hT 47 1 (by simp[zaz]) rfl).trans (hd ⟨1,.data⟩ (by simp) rfl rfl);have e2:A.eval (.tmp 48)=.int .i64 (m:Int):=(hT 48 2 (by simp[zaz]) rfl).trans (hd ⟨2,.data⟩ (by simp) rfl rfl);exact zbq rfl (e1) (e2) (by omega) (by omega) ⟨_,rfl,rfl,ze _ _⟩
    case o4=>
      refine LnOp.side rfl (by kernel_rfl) (λA va w' k hF hT hk hJ hb hu hp hd=>?_);have e1:A.eval (.tmp 46)=.slice (some ⟨w.heap.size,0,none⟩) (n+m) G:=(hT 46 0 (by simp[zaz]) rfl).trans (hd ⟨0,.data⟩ (by simp) rfl rfl);have e2:A.eval (.tmp 49)=.int .i64 ((i:Int)+(m:Int)):=(hT 49 3 (by simp[zaz]) rfl).trans (hd ⟨3,.data⟩ (by simp) rfl rfl);exact zav hP.toLsP rfl (e1) (congrArg some e2) rfl (zas _ (by omega) (by omega)) (by omega) ⟨_,rfl,rfl,ze _ _⟩
    case o5=>
      refine LnOp.side rfl (by kernel_rfl) (λA va w' k hF hT hk hJ hb hu hp hd=>?_);have e1:A.eval (.tmp 0)=.slice (some ⟨g,0,none⟩) n cap:=hF 0 rfl;exact zu _ rfl ⟨_,rfl,e1,ze _ _⟩
    case o6=>
      refine LnOp.side rfl (by kernel_rfl) (λA va w' k hF hT hk hJ hb hu hp hd=>?_);have e1:A.eval (.tmp 1)=.int .i64 (i:Int):=hF 1 rfl;exact zu _ rfl ⟨_,rfl,e1,ze _ _⟩
    case o7=>
      refine LnOp.side rfl (by kernel_rfl) (λA va w' k hF hT hk hJ hb hu hp hd=>?_);have e1:A.eval (.tmp 51)=.slice (some ⟨g,0,none⟩) n cap:=(hT 51 5 (by simp[zaz]) rfl).trans (hd ⟨5,.data⟩ (by simp) rfl rfl);have e2:A.eval (.tmp 52)=.int .i64 (i:Int):=(hT 52 6 (by simp[zaz]) rfl).trans (hd ⟨6,.data⟩ (by simp) rfl rfl);exact zav hP.toLsP rfl (e1) (congrArg some e2) rfl (zas _ (by omega) (by omega)) (by omega) ⟨_,rfl,rfl,ze _ _⟩
    case o8=>
      refine LnOp.line 0 rfl rfl (λA va w' hF hT hJ hu hd=>?_);have e1:A.eval (.tmp 50)=.slice (some ⟨w.heap.size,0+(i+m)*sz,none⟩) (n+m-(i+m)) (G-(i+m)):=(hT 50 4 (by simp[zaz]) rfl).trans (hd ⟨4,.data⟩ (by simp) rfl rfl);have e2:A.eval (.tmp 53)=.slice (some ⟨g,0+i*sz,none⟩) (n-i) (cap-i):=(hT 53 7 (by simp[zaz]) rfl).trans (hd ⟨7,.data⟩ (by simp) rfl rfl);refine zd3 hP.toLsP rfl e1 e2 hJ.2 (cs:=vs.drop (i*sz)) (by rw[hdl,yi (by omega)]) (hgc _ hJ.1) (λu hu=>hv.2 u (yM hu)) ?_ ?_
      · show 0+(i+m)*sz+(vs.drop (i*sz)).length<=C1.size
        rw[hC1s,hdl,xK,zT];omega
      · intro W3 hg3 hgr3
        exact⟨_,rfl,⟨hJ.1.grown hgr3 hJ.1.size (λk hk=>by injection hk with hk;omega),hg3⟩,trivial⟩
    case fin=>
      intro vs1 W3 hJ hG;have e0:vs1 0=.slice (some ⟨w.heap.size,0,none⟩) (n+m) G:=hG 0 (by decide) rfl;have e1:vs1 1=.int .i64 (i:Int):=hG 1 (by decide) rfl;have e2:vs1 2=.int .i64 (m:Int):=hG 2 (by decide) rfl;have e3:vs1 3=.int .i64 ((i:Int)+(m:Int)):=hG 3 (by decide) rfl;have e4:vs1 4=.slice (some ⟨w.heap.size,0+(i+m)*sz,none⟩) (n+m-(i+m)) (G-(i+m)):=hG 4 (by decide) rfl;have e5:vs1 5=.slice (some ⟨g,0,none⟩) n cap:=hG 5 (by decide) rfl;have e6:vs1 6=.int .i64 (i:Int):=hG 6 (by decide) rfl;have e7:vs1 7=.slice (some ⟨g,0+i*sz,none⟩) (n-i) (cap-i):=hG 7 (by decide) rfl;simp only[zaj,e0,e1,e2,e3,e4,e5,e6,e7];clear hG e0 e1 e2 e3 e4 e5 e6 e7;go_simp;go_wp2_with fail;go_ret;refine⟨_,rfl,RowQ.of hJ.2 hG1 hG2 ?_ ?_ ?_,⟨hJ.1.os,hJ.1.tape,hJ.1.output,hJ.1.size,λk hk _=>hJ.1.block k hk⟩,.inr ⟨_,rfl,zf _⟩⟩
      · show(List.toArray _).size=_
        simp only[yj,zC,zp,zF,yo,hC1s,hv.len,zT];rw[zT]at hGs;omega
      · show List.take _ (C1.toList.take _++_++C1.toList.drop _)=_
        have:=ins_new (cur:=cr.toList) (vs:=vs) (us:=us) (p:=i*sz) (q:=n*sz) (r:=m*sz) his hv.len hu hG4;rw[hC1];simp only[zT,zR]at this⊢;exact this
      · intro u hu
        rcases zV.1 hu with h|h
        · rcases zV.1 h with h|h
          ·exact hv.2 u (y7 h)
          ·exact hu1 u h
        ·exact hv.2 u (yM h)
theorem zoq{f:FuncId}{T Te:TypeId}{sz:Nat}(hP:LoP Tryz.prog T Te sz)(h0:0<sz)(hQ:zgj f T)(w:World){n i b m g cap:Nat}{vs us:List Value}(hv:RowQ Te sz w (.slice (some ⟨g,0,none⟩) n cap) n vs)(hi:i<n)(hn:n+m<=1000000)(hm:0<m)(hb:w.heap[b]?=some (.cells us.toArray Te (0,0)))(hu:us.length=m*sz)(hu1:∀u∈us,u.oneCell'=true)(hbg:b≠g)(hroom:n+m<=cap):Calls Tryz.prog f #[.slice (some ⟨g,0,none⟩) n cap,.int .i64 i,.slice (some ⟨b,0,none⟩) m m] w (zdo Te sz w (.slice (some ⟨g,0,none⟩) n cap) (n+m) (vs.take (i*sz)++us++vs.drop (i*sz))):=by
  have hz1:((m:Int)==0)=false:=zt.2 (by omega);have hz2:((i:Int)==(n:Int))=false:=zt.2 (by omega);have hz3:decide ((cap:Int)<(n:Int)+(m:Int))=false:=zj (by omega);have hcs:=zbp hb;have hblt:=(zJ.1 hb).1;have hglt:=hv.lt (k:=g) rfl;obtain⟨cur,hg,hcm,hcs1,hct⟩:∃cur,w.heap[g]?=some (.cells cur Te (0,0))/\cap<=maxLen/\cur.size=cap*sz/\cur.toList.take (n*sz)=vs:=by
    rcases hv.cases with⟨h,_⟩|⟨g',cap',cur,h,h1,h2,h3,h4,h5⟩
    ·cases h
    · cases h
      exact⟨cur,h1,h3,h4,h5⟩
  have his:i*sz<=n*sz:=yN _ (xY hi);have hns:(n+m)*sz<=cap*sz:=yN _ hroom;have hdl:(vs.drop (i*sz)).length=(n-i)*sz:=by rw[zF,hv.len,xK]
  obtain⟨fo,hov⟩:∃fo:FuncId,(∀off k kc,(callFunc fo #[.slice (some ⟨b,0,none⟩) m m,.slice (some ⟨g,off,none⟩) k kc]).run Tryz.prog w=.ok (.value (.bool false)) w)/\((f=143/\fo=167)\/(f=144/\fo=169)\/(f=160/\fo=179)):=by
    rcases hQ with⟨rfl,rfl⟩|⟨rfl,rfl⟩|⟨rfl,rfl⟩
    ·exact⟨167,λoff k kc=>zeo (Tb:=4) hP.toLsP Tryz.func167 (by kernel_rfl) rfl (by kernel_rfl) (by kernel_rfl) hb hg hbg (by rw[hcs1];have:0<cap*sz:=Nat.mul_pos (by omega) (by omega);omega),by simp⟩
    ·exact⟨169,λoff k kc=>zeo (Tb:=4) hP.toLsP Tryz.func169 (by kernel_rfl) rfl (by kernel_rfl) (by kernel_rfl) hb hg hbg (by rw[hcs1];have:0<cap*sz:=Nat.mul_pos (by omega) (by omega);omega),by simp⟩
    ·exact⟨179,λoff k kc=>zeo (Tb:=4) hP.toLsP Tryz.func179 (by kernel_rfl) rfl (by kernel_rfl) (by kernel_rfl) hb hg hbg (by rw[hcs1];have:0<cap*sz:=Nat.mul_pos (by omega) (by omega);omega),by simp⟩
  obtain⟨hov,hfo⟩:=hov;rcases hQ with⟨rfl,rfl⟩|⟨rfl,rfl⟩|⟨rfl,rfl⟩
  all_goals
    rcases hfo with⟨e0,rfl⟩|⟨e0,rfl⟩|⟨e0,rfl⟩
    all_goals first|exact absurd e0 (by decide)|clear e0
  all_goals
    first|go_enter Tryz.func143,Tryz.ntmps143|go_enter Tryz.func144,Tryz.ntmps144|go_enter Tryz.func160,Tryz.ntmps160
    go_upto_region 15 with(go_big_may;first
      |(refine zbd hP.toLsP rfl rfl rfl (l:=i) (r:=n) (za1 _ (by omega)) ?_;intro _)
      |(refine zbi hP.toLsP rfl rfl rfl (r:=n+m) (zax _ (by omega)) ?_)
      |(refine zam hP.toLsP rfl rfl rfl (l:=i+m) (r:=n+m) (zas _ (by omega) (by omega)) (by omega) ?_)
      |fail)
    have hg0:=hg;refine zai (K:=λ_ _=>True) (by kernel_rfl) (by kernel_rfl) [8] (by kernel_rfl) [lEq (.slice (some ⟨g,0,none⟩) (n+m) cap),lEq (.int .i64 (i:Int)),lEq (.int .i64 (m:Int)),lEq (.int .i64 ((i:Int)+(m:Int))),lEq (.slice (some ⟨g,0+(i+m)*sz,none⟩) (n+m-(i+m)) (cap-(i+m))),lEq (.slice (some ⟨g,0,none⟩) (n+m) cap),lEq (.int .i64 (i:Int)),lEq (.slice (some ⟨g,0+i*sz,none⟩) (n+m-i) (cap-i)),lAny] (λl W=>Trd (·=g) w W/\W.heap[g]?=some (.cells (match l with|[]=>cur|_::_=>(cur.toList.take (0+(i+m)*sz)++vs.drop (i*sz)++cur.toList.drop (0+(i+m)*sz+(vs.drop (i*sz)).length)).toArray) Te (0,0))) (λl A B h hb=>⟨h.1.trans (Trd.of (F:=(·=g)) hb) (λ_ _ h=>h),(hb.block _ (zJ.1 h.2).1).trans h.2⟩) ⟨Trd.refl _ _,hg⟩
      ⟨?o0,?o1,?o2,?o3,?o4,?o5,?o6,?o7,?o8,trivial⟩ ?fin
    case o0=>
      refine LnOp.side rfl (by kernel_rfl) (λA va w' k hF hT hk hJ hb hu hp hd=>?_);have e1:A.eval (.tmp 0)=.slice (some ⟨g,0,none⟩) (n+m) cap:=hF 0 rfl;exact zu _ rfl ⟨_,rfl,e1,ze _ _⟩
    case o1=>
      refine LnOp.side rfl (by kernel_rfl) (λA va w' k hF hT hk hJ hb hu hp hd=>?_);have e1:A.eval (.tmp 1)=.int .i64 (i:Int):=hF 1 rfl;exact zu _ rfl ⟨_,rfl,e1,ze _ _⟩
    case o2=>
      refine LnOp.side rfl (by kernel_rfl) (λA va w' k hF hT hk hJ hb hu hp hd=>?_);have e1:A.eval (.tmp 7)=.int .i64 (m:Int):=hF 7 rfl;exact zu _ rfl ⟨_,rfl,e1,ze _ _⟩
    case o3=>
      refine LnOp.side rfl (by kernel_rfl) (λA va w' k hF hT hk hJ hb hu hp hd=>?_);have e1:A.eval (.tmp 70)=.int .i64 (i:Int):=(hT 70 1 (by simp) rfl).trans (hd ⟨1,.data⟩ (by simp) rfl rfl);have e2:A.eval (.tmp 71)=.int .i64 (m:Int):=(hT 71 2 (by simp) rfl).trans (hd ⟨2,.data⟩ (by simp) rfl rfl);exact zbq rfl (e1) (e2) (by omega) (by omega) ⟨_,rfl,rfl,ze _ _⟩
    case o4=>
      refine LnOp.side rfl (by kernel_rfl) (λA va w' k hF hT hk hJ hb hu hp hd=>?_);have e1:A.eval (.tmp 69)=.slice (some ⟨g,0,none⟩) (n+m) cap:=(hT 69 0 (by simp) rfl).trans (hd ⟨0,.data⟩ (by simp) rfl rfl);have e2:A.eval (.tmp 72)=.int .i64 ((i:Int)+(m:Int)):=(hT 72 3 (by simp) rfl).trans (hd ⟨3,.data⟩ (by simp) rfl rfl);exact zav hP.toLsP rfl (e1) (congrArg some e2) rfl (zas _ (by omega) (by omega)) (by omega) ⟨_,rfl,rfl,ze _ _⟩
    case o5=>
      refine LnOp.side rfl (by kernel_rfl) (λA va w' k hF hT hk hJ hb hu hp hd=>?_);have e1:A.eval (.tmp 0)=.slice (some ⟨g,0,none⟩) (n+m) cap:=hF 0 rfl;exact zu _ rfl ⟨_,rfl,e1,ze _ _⟩
    case o6=>
      refine LnOp.side rfl (by kernel_rfl) (λA va w' k hF hT hk hJ hb hu hp hd=>?_);have e1:A.eval (.tmp 1)=.int .i64 (i:Int):=hF 1 rfl;exact zu _ rfl ⟨_,rfl,e1,ze _ _⟩
    case o7=>
      refine LnOp.side rfl (by kernel_rfl) (λA va w' k hF hT hk hJ hb hu hp hd=>?_);have e1:A.eval (.tmp 74)=.slice (some ⟨g,0,none⟩) (n+m) cap:=(hT 74 5 (by simp) rfl).trans (hd ⟨5,.data⟩ (by simp) rfl rfl);have e2:A.eval (.tmp 75)=.int .i64 (i:Int):=(hT 75 6 (by simp) rfl).trans (hd ⟨6,.data⟩ (by simp) rfl rfl);exact zav hP.toLsP rfl (e1) (congrArg some e2) rfl (zas _ (by omega) (by omega)) (by omega) ⟨_,rfl,rfl,ze _ _⟩
    case o8=>
      refine LnOp.line 0 rfl rfl (λA va w' hF hT hJ hu hd=>?_);have e1:A.eval (.tmp 73)=.slice (some ⟨g,0+(i+m)*sz,none⟩) (n+m-(i+m)) (cap-(i+m)):=(hT 73 4 (by simp) rfl).trans (hd ⟨4,.data⟩ (by simp) rfl rfl);have e2:A.eval (.tmp 76)=.slice (some ⟨g,0+i*sz,none⟩) (n+m-i) (cap-i):=(hT 76 7 (by simp) rfl).trans (hd ⟨7,.data⟩ (by simp) rfl rfl);refine zd3 hP.toLsP rfl e1 e2 hJ.2 (cs:=vs.drop (i*sz)) (by rw[hdl,Nat.min_eq_right (by omega)];congr 1;omega) (λj u hj=>?_) (λu hu=>hv.2 u (yM hu)) ?_ ?_
      · rw[xR,<-hct,xG]at hj
        split at hj
        · rw[zN,zR]
          have h5:w'.heap[g]?=some (.cells cur Te (0,0)):=hJ.2;simpa[World.cell?,h5,<-Array.getElem?_toList]using hj
        ·cases hj
      · show 0+(i+m)*sz+(vs.drop (i*sz)).length<=cur.size
        rw[hcs1,hdl,zR,<-zT];exact yN _ (by omega)
      · intro W3 hg3 hgr3
        exact⟨_,rfl,⟨hJ.1.trans (Trd.ofGrown (F:=(·=g)) hgr3 λk hk=>by injection hk with hk;exact hk.symm) (λ_ _ h=>h),hg3⟩,trivial⟩
    case fin=>
      intro vs1 W3 hJ hG;have e0:vs1 0=.slice (some ⟨g,0,none⟩) (n+m) cap:=hG 0 (by decide) rfl;have e1:vs1 1=.int .i64 (i:Int):=hG 1 (by decide) rfl;have e2:vs1 2=.int .i64 (m:Int):=hG 2 (by decide) rfl;have e3:vs1 3=.int .i64 ((i:Int)+(m:Int)):=hG 3 (by decide) rfl;have e4:vs1 4=.slice (some ⟨g,0+(i+m)*sz,none⟩) (n+m-(i+m)) (cap-(i+m)):=hG 4 (by decide) rfl;have e5:vs1 5=.slice (some ⟨g,0,none⟩) (n+m) cap:=hG 5 (by decide) rfl;have e6:vs1 6=.int .i64 (i:Int):=hG 6 (by decide) rfl;have e7:vs1 7=.slice (some ⟨g,0+i*sz,none⟩) (n+m-i) (cap-i):=hG 7 (by decide) rfl;simp only[zaj,e0,e1,e2,e3,e4,e5,e6,e7];clear hG e0 e1 e2 e3 e4 e5 e6 e7;obtain⟨C1,hC1⟩:∃C1:Array Value,C1=(cur.toList.take (0+(i+m)*sz)++vs.drop (i*sz)++cur.toList.drop (0+(i+m)*sz+(vs.drop (i*sz)).length)).toArray:=⟨_,rfl⟩;have hg3:W3.heap[g]?=some (.cells C1 Te (0,0)):=by rw[hC1];exact hJ.2
      have hC1s:C1.size=cap*sz:=by
        rw[hC1];simp only[yj,zC,zp,zF,yo,hcs1,hv.len,zT];rw[zT]at hns;omega
      have hcs3:∀(j:Nat) (u:Value),us[j]?=some u->W3.cell? (Addr.add ⟨b,0,none⟩ j)=some u:=λj u hj=>by
        have:=hcs j u hj;rw[zN]at this⊢;exact(zag (hJ.1.block b hblt hbg) _).trans this
      go_simp;go_wp2_with(go_big_may;first
        |(refine zam hP.toLsP rfl rfl rfl (l:=i) (r:=n+m) (za1 _ (by omega)) (by omega) ?_)
        |(refine zco hP.toLsP rfl rfl rfl rfl hg3 (cs:=us) (by rw[yi (by omega)];exact hu) hcs3 hu1 (by rw[hC1s,hu];rw[zT]at hns;omega) ?_;intro W4 hg4 hgr4)
        |fail)
      go_ret;have q4:Trd (·=g) w W4:=hJ.1.trans (Trd.ofGrown (F:=(·=g)) hgr4 λk hk=>by injection hk with hk;exact hk.symm) (λ_ _ h=>h);refine⟨_,rfl,RowQ.of hg4 hroom hcm ?_ ?_ ?_,⟨q4.os,q4.tape,q4.output,q4.size,λk hk hn=>q4.block k hk λh=>hn (by rw[h];rfl)⟩,.inl rfl⟩
      · simp only[yj,zC,zp,zF,yo,hC1s,hu]
        rw[zT]at hns;omega
      · have:=zuf (cur:=cur.toList) (us:=us) (p:=i*sz) (q:=n*sz) (r:=m*sz) his hu (by rw[yo,hcs1,<-zT];exact hns)
        rw[hct]at this;rw[hC1];simp only[zR,zT]at this⊢;exact this
      · intro u hu
        rcases zV.1 hu with h|h
        · rcases zV.1 h with h|h
          ·exact hv.2 u (y7 h)
          ·exact hu1 u h
        ·exact hv.2 u (yM h)
theorem zld{f:FuncId}{T Te:TypeId}{sz:Nat}(hP:LoP Tryz.prog T Te sz)(h0:0<sz)(hQ:zgj f T)(w:World){v:Value}{n i b m:Nat}{vs us:List Value}(hv:RowQ Te sz w v n vs)(hi:i<=n)(hn:n+m<=1000000)(hm:0<m)(hb:w.heap[b]?=some (.cells us.toArray Te (0,0)))(hu:us.length=m*sz)(hu1:∀u∈us,u.oneCell'=true)(hbg:v.ownBlock≠some b):Calls Tryz.prog f #[v,.int .i64 i,.slice (some ⟨b,0,none⟩) m m] w (zdo Te sz w v (n+m) (vs.take (i*sz)++us++vs.drop (i*sz))):=by
  rcases zA i n with h|h
  · rcases hv.cases with⟨_,h2,_⟩|⟨g,cap,cur,rfl,_,h3,_⟩
    ·omega
    · rcases zA cap (n+m)with h4|h4
      ·exact zm4 hP h0 hQ w hv h hn hm hb hu hu1 h3 h4
      ·exact zoq hP h0 hQ w hv h hn hm hb hu hu1 (λe=>hbg (by rw[e];rfl)) h4
  · obtain rfl:i=n:=by omega
    exact zor hP h0 hQ w hv hn hm hb hu hu1
theorem zk7{t:TypeId}{z0:Value}(h:(Tryz.prog.info? t).bind (·.zero)=some z0)(h1:∀u∈z0.cells.toList,u.oneCell'=true):∀i z,Tryz.prog.info? t=some i->i.zero=some z->∀u∈z.cells.toList,u.oneCell'=true:=λi z hi hz=>by
 rw[hi]at h;simp only[Option.bind_some,hz]at h;cases h;exact h1
theorem zqd (w:World){v:Value}{n i b m:Nat}{vs us:List Value}(hv:RowQ 23 1 w v n vs)(hi:i<=n)(hn:n+m<=1000000)(hm:0<m)(hb:w.heap[b]?=some (.cells us.toArray 23 (0,0)))(hu:us.length=m*1)(hu1:∀u∈us,u.oneCell'=true)(hbg:v.ownBlock≠some b):Calls Tryz.prog 143 #[v,.int .i64 i,.slice (some ⟨b,0,none⟩) m m] w (zdo 23 1 w v (n+m) (vs.take (i*1)++us++vs.drop (i*1))):=
 zld kysP (by omega) (by unfold zgj;simp) w hv hi hn hm hb hu hu1 hbg
theorem zqe (w:World){v:Value}{n i b m:Nat}{vs us:List Value}(hv:RowQ 102 1 w v n vs)(hi:i<=n)(hn:n+m<=1000000)(hm:0<m)(hb:w.heap[b]?=some (.cells us.toArray 102 (0,0)))(hu:us.length=m*1)(hu1:∀u∈us,u.oneCell'=true)(hbg:v.ownBlock≠some b):Calls Tryz.prog 144 #[v,.int .i64 i,.slice (some ⟨b,0,none⟩) m m] w (zdo 102 1 w v (n+m) (vs.take (i*1)++us++vs.drop (i*1))):=
 zld chsP (by omega) (by unfold zgj;simp) w hv hi hn hm hb hu hu1 hbg
section
variable {P : Program} {T Te : TypeId} {n : Nat} {ops : Array Oper} {rest : List Oper} {o : Oper} {a : Act} {Q : Exit → Act → World → Prop} {w : World} {K : Act → World → Prop}
theorem zgd (hP:LsP P T Te n){x lo hi mx:Operand}(ho:o.op=.slice T x (some lo) (some hi) (some mx)) (hgd:Region.wanted o (yielded ops a.tmps)=true){ad:Option Addr}{k c:Nat}(hx:a.eval x=.slice ad k c){l r m:Nat}(hb:(Instr.sliceBounds true k c (some (a.eval lo)) (some (a.eval hi)) (some (a.eval mx))).run P w=.ok (l,r,m) w)
  (h:∀ad',wpList P ops Q rest (a.put o.dst (.slice ad' (r-l) (m-l))) w):wpList P ops Q (o::rest) a w:=by
 refine zQ hgd λK hK=>?_
 obtain⟨i,hi',hsz⟩:=hP.info;have hrun:(Instr.slice T (.slice ad k c) (some (a.eval lo)) (some (a.eval hi)) (some (a.eval mx))).run P w=.ok (.slice (if m=l then ad else ad.map (·.add (l*n))) (r-l) (m-l)) w:=by
  simp[Instr.slice,zr hP.hT,hb,sizeOf,typeInfo,hi',hsz]
 unfold Oper.wp execOp;have hat:(Instr.sliceAt T (.slice ad k c) (some (a.eval lo)) (some (a.eval hi)) (some (a.eval mx))).run P w=.ok (.slice (if m=l then ad else ad.map (·.add (l*n))) (r-l) (m-l)) w:=by
  rw[show(Instr.sliceAt T (.slice ad k c) (some (a.eval lo)) (some (a.eval hi)) (some (a.eval mx))).run P w=(Instr.slice T (.slice ad k c) (some (a.eval lo)) (some (a.eval hi)) (some (a.eval mx))).run P w by simp[Instr.sliceAt,zr hP.hT]];exact hrun
 simp only[ho,hx,xF,zZ,yb,ye,hat];exact hK _ _ (h _)
theorem zdq (hP:LoP P T Te n)(hz1:∀i z,P.info? Te=some i->i.zero=some z->∀u∈z.cells.toList,u.oneCell'=true){x:Operand}(ho:o.op=.call {callee:=.builtin .clear,args:=#[x],argTypes:=#[T]})(hd:o.dst=none)(hgd:Region.wanted o (yielded ops a.tmps)=true){ad:Option Addr}{m c:Nat}(hx:a.eval x=.slice ad m c){g off:Nat}{cur:Array Value}{t:TypeId}(hg:w.heap[g]?=some (.cells cur t (0,0)))(had:m=0\/ad=some ⟨g,off,none⟩)(hfit:m=0\/off+m*n<=cur.size)(h:∀w' cur',w'.heap[g]?=some (.cells cur' t (0,0))->cur'.size=cur.size->(m≠0->cur'.toList.take off=cur.toList.take off)->(m=0->cur'=cur)->w.grownBy w' (some g)->wpList P ops Q rest a w'):wpList P ops Q (o::rest) a w:=by
 refine zQ hgd λK hK=>?_
 obtain⟨w',cur',hr,h1,h2,h3,h4,h5⟩:=zrr hP hz1 w o.type hg had hfit (c:=c);unfold Oper.wp execOp;simp only[ho,resolve,invoke,builtin,zZ,yb,ye,zE,zn,zo,hx,hr];refine hK _ _ ?_;rw[hd];exact h w' cur' h1 h2 h3 h4 h5
end
theorem kys1:∀i z,Tryz.prog.info? 23=some i->i.zero=some z->∀u∈z.cells.toList,u.oneCell'=true:=zk7 (z0:=.slice none 0 0) (by kernel_rfl) (λu hu=>by simp[Value.cells]at hu;subst hu;rfl)
theorem chs1:∀i z,Tryz.prog.info? 102=some i->i.zero=some z->∀u∈z.cells.toList,u.oneCell'=true:=zk7 (z0:=.slice none 0 0) (by kernel_rfl) (λu hu=>by simp[Value.cells]at hu;subst hu;rfl)
theorem nd1:∀i z,Tryz.prog.info? 46=some i->i.zero=some z->∀u∈z.cells.toList,u.oneCell'=true:=zk7 (z0:=.agg #[.slice none 0 0,.slice none 0 0,.slice none 0 0]) (by kernel_rfl) (λu hu=>by simp[Value.cells]at hu;subst hu;rfl)
theorem zry(g sz l cap:Nat):∃sa:Addr,(if cap=l then(some (⟨g,0,none⟩:Addr))else(some (⟨g,0,none⟩:Addr)).map (·.add (l*sz)))=some sa/\(cap≠l->sa=⟨g,l*sz,none⟩):=by
 by_cases h:cap=l;·exact⟨_,by rw[zi h],λhn=>absurd h hn⟩
 ·exact⟨_,by rw[zh h];rfl,λ_=>by simp[zN]⟩
theorem znf{cur:List Value}{p q r:Nat}(h1:p<=r)(h2:r<=q)(h3:q<=cur.length):(cur.take p++(cur.take q).drop r++cur.drop (p+(q-r))).take (p+(q-r))=(cur.take q).take p++(cur.take q).drop r:=by
 rw[xp (by simp only[zC,zp,zF];omega),yq (by simp only[zC,zp,zF];omega),xJ];congr 2;omega
def zln (f:FuncId)(T:TypeId):Prop:=(f=193/\T=42)\/(f=194/\T=43)\/(f=159/\T=52)
theorem zlm{f:FuncId}{T Te:TypeId}{sz:Nat}(hP:LoP Tryz.prog T Te sz)(h0:0<sz)(hz0:∀i z,Tryz.prog.info? Te=some i->i.zero=some z->∀u∈z.cells.toList,u.oneCell'=true)(hQ:zln f T)(w:World){v:Value}{n i:Nat}{j:Int}{vs:List Value}(hv:RowQ Te sz w v n vs)(hi:i<n)(hj:j=(i:Int)+1)(hn:n<=1000000):Calls Tryz.prog f #[v,.int .i64 i,.int .i64 j] w (zdo Te sz w v (n-1) (vs.take (i*sz)++vs.drop ((i+1)*sz))):=by
  rcases hQ with⟨rfl,rfl⟩|⟨rfl,rfl⟩|⟨rfl,rfl⟩
  all_goals
    subst hj;obtain⟨g,cap,cur,rfl,hg,hnc,hcm,hcs1,hct⟩:∃g cap cur,v=.slice (some ⟨g,0,none⟩) n cap/\w.heap[g]?=some (.cells cur Te (0,0))/\n<=cap/\cap<=maxLen/\cur.size=cap*sz/\cur.toList.take (n*sz)=vs:=by
      rcases hv.cases with⟨_,h,_⟩|h
      ·omega
      ·exact h
    have hz2:((i:Int)==(i:Int)+1)=false:=zt.2 (by omega);have his:i*sz<=n*sz:=yN _ (xY hi);have his1:(i+1)*sz<=n*sz:=yN _ hi;have hns:n*sz<=cap*sz:=yN _ hnc;have hdl:(vs.drop ((i+1)*sz)).length=(n-(i+1))*sz:=by rw[zF,hv.len,xK]
    obtain⟨sa,hsa,hsa2⟩:=zry g sz (i+1) cap;first|go_enter Tryz.func193,Tryz.ntmps193|go_enter Tryz.func194,Tryz.ntmps194|go_enter Tryz.func159,Tryz.ntmps159
    go_upto_region 5 with(go_big_may;first
      |(refine zgd hP.toLsP rfl rfl rfl (l:=i) (r:=i+1) (m:=n) (zn7 _ rfl (by omega) rfl (by omega) (by omega) (by omega)) ?_;intro _)
      |fail)
    refine zai (K:=λ_ _=>True) (by kernel_rfl) (by kernel_rfl) [6,7] (by kernel_rfl) [lEq (.slice (some ⟨g,0,none⟩) n cap),lEq (.int .i64 (i:Int)),lEq (.slice (some ⟨g,0,none⟩) i cap),lEq (.slice (some ⟨g,0,none⟩) n cap),lEq (.int .i64 ((i:Int)+1)),lEq (.slice (some sa) (n-(i+1)) (cap-(i+1))),lAny,lAny] (λl W=>Trd (·=g) w W/\(∀x∈l,x=.slice (some ⟨g,0,none⟩) (i+(n-(i+1))) cap)/\W.heap[g]?=some (.cells (match l with|[]=>cur|_::_=>(cur.toList.take (i*sz)++vs.drop ((i+1)*sz)++cur.toList.drop (i*sz+(vs.drop ((i+1)*sz)).length)).toArray) Te (0,0))) (λl A B h hb=>⟨h.1.trans (Trd.of (F:=(·=g)) hb) (λ_ _ h=>h),h.2.1,(hb.block _ (zJ.1 h.2.2).1).trans h.2.2⟩) ⟨Trd.refl _ _,by simp,hg⟩
      ⟨?o0,?o1,?o2,?o3,?o4,?o5,?o6,?o7,trivial⟩ ?fin
    case o0=>
      refine LnOp.side rfl (by kernel_rfl) (λA va w' k hF hT hk hJ hb hu hp hd=>?_);have e1:A.eval (.tmp 0)=.slice (some ⟨g,0,none⟩) n cap:=(hT 0 7 (by simp) rfl).trans (hu 1 7 0 (hb 1 7 rfl (by kernel_rfl)) rfl rfl);exact zu _ rfl ⟨_,rfl,e1,ze _ _⟩
    case o1=>
      refine LnOp.side rfl (by kernel_rfl) (λA va w' k hF hT hk hJ hb hu hp hd=>?_);have e1:A.eval (.tmp 1)=.int .i64 (i:Int):=hF 1 rfl;exact zu _ rfl ⟨_,rfl,e1,ze _ _⟩
    case o2=>
      refine LnOp.side rfl (by kernel_rfl) (λA va w' k hF hT hk hJ hb hu hp hd=>?_);have e1:A.eval (.tmp 20)=.slice (some ⟨g,0,none⟩) n cap:=(hT 20 0 (by simp) rfl).trans (hd ⟨0,.data⟩ (by simp) rfl rfl);have e2:A.eval (.tmp 21)=.int .i64 (i:Int):=(hT 21 1 (by simp) rfl).trans (hd ⟨1,.data⟩ (by simp) rfl rfl);exact zep hP.toLsP rfl (e1) (congrArg some e2) (zax _ (by omega)) ⟨_,rfl,rfl,ze _ _⟩
    case o3=>
      refine LnOp.side rfl (by kernel_rfl) (λA va w' k hF hT hk hJ hb hu hp hd=>?_);have e1:A.eval (.tmp 0)=.slice (some ⟨g,0,none⟩) n cap:=(hT 0 7 (by simp) rfl).trans (hu 1 7 0 (hb 1 7 rfl (by kernel_rfl)) rfl rfl);exact zu _ rfl ⟨_,rfl,e1,ze _ _⟩
    case o4=>
      refine LnOp.side rfl (by kernel_rfl) (λA va w' k hF hT hk hJ hb hu hp hd=>?_);have e1:A.eval (.tmp 2)=.int .i64 ((i:Int)+1):=hF 2 rfl;exact zu _ rfl ⟨_,rfl,e1,ze _ _⟩
    case o5=>
      refine LnOp.side rfl (by kernel_rfl) (λA va w' k hF hT hk hJ hb hu hp hd=>?_);have e1:A.eval (.tmp 23)=.slice (some ⟨g,0,none⟩) n cap:=(hT 23 3 (by simp) rfl).trans (hd ⟨3,.data⟩ (by simp) rfl rfl);have e2:A.eval (.tmp 24)=.int .i64 ((i:Int)+1):=(hT 24 4 (by simp) rfl).trans (hd ⟨4,.data⟩ (by simp) rfl rfl);exact zey hP.toLsP rfl (e1) (congrArg some e2) rfl (zas (l:=i+1) _ (by omega) (by omega)) ⟨_,rfl,by rw[hsa];rfl,ze _ _⟩
    case o6=>
      refine LnOp.line 0 rfl rfl (λA va w' hF hT hJ hu hd=>?_);have e1:A.eval (.tmp 22)=.slice (some ⟨g,0,none⟩) i cap:=(hT 22 2 (by simp) rfl).trans (hd ⟨2,.data⟩ (by simp) rfl rfl);have e2:A.eval (.tmp 25)=.slice (some sa) (n-(i+1)) (cap-(i+1)):=(hT 25 5 (by simp) rfl).trans (hd ⟨5,.data⟩ (by simp) rfl rfl);refine zlz hP.toLsP rfl e1 e2 hJ.2.2 (cs:=vs.drop ((i+1)*sz)) (by rw[hdl]) (λj u hj=>?_) (λu hu=>hv.2 u (yM hu)) (by omega) ?_ ?_
      · rw[xR,<-hct,xG]at hj
        split at hj
        · rename_i hlt
          rw[hsa2 (λe=>by rw[<-Nat.not_le]at hlt;exact hlt (by have:n*sz<=(i+1)*sz:=yN _ (by omega);omega)),zN];have h5:w'.heap[g]?=some (.cells cur Te (0,0)):=hJ.2.2;simpa[World.cell?,h5,<-Array.getElem?_toList]using hj
        ·cases hj
      · show i*sz+(vs.drop ((i+1)*sz)).length<=cur.size
        rw[hcs1,hdl,<-zT];exact yN _ (by omega)
      · intro W3 hg3 hgr3
        exact⟨_,rfl,⟨hJ.1.trans (Trd.ofGrown (F:=(·=g)) hgr3 λk hk=>by injection hk with hk;exact hk.symm) (λ_ _ h=>h),λx hx=>by simpa using hx,hg3⟩,trivial⟩
    case o7=>
      refine LnOp.line 1 rfl rfl (λA va w' hF hT hJ hu hd=>?_);have x1:A.eval (.tmp 26)=va 6:=hT 26 6 (by simp) rfl;refine yV _ rfl ⟨_,rfl,⟨hJ.1,λy hy=>?_,hJ.2.2⟩,trivial⟩;rcases zV.1 hy with h|h
      ·exact hJ.2.1 y h
      · rw[yL.1 h]
        exact x1.trans (hJ.2.1 _ (by simp))
    case fin=>
      intro vs1 W3 hJ hG;have e0:vs1 0=.slice (some ⟨g,0,none⟩) n cap:=hG 0 (by decide) rfl;have e1:vs1 1=.int .i64 (i:Int):=hG 1 (by decide) rfl;have e2:vs1 2=.slice (some ⟨g,0,none⟩) i cap:=hG 2 (by decide) rfl;have e3:vs1 3=.slice (some ⟨g,0,none⟩) n cap:=hG 3 (by decide) rfl;have e4:vs1 4=.int .i64 ((i:Int)+1):=hG 4 (by decide) rfl;have e5:vs1 5=.slice (some sa) (n-(i+1)) (cap-(i+1)):=hG 5 (by decide) rfl;have e6:vs1 6=.slice (some ⟨g,0,none⟩) (i+(n-(i+1))) cap:=hJ.2.1 _ (by simp);have e7:vs1 7=.slice (some ⟨g,0,none⟩) (i+(n-(i+1))) cap:=hJ.2.1 _ (by simp);simp only[zaj,e0,e1,e2,e3,e4,e5,e6,e7];clear hG e0 e1 e2 e3 e4 e5 e6 e7;obtain⟨C1,hC1⟩:∃C1:Array Value,C1=(cur.toList.take (i*sz)++vs.drop ((i+1)*sz)++cur.toList.drop (i*sz+(vs.drop ((i+1)*sz)).length)).toArray:=⟨_,rfl⟩;have hg3:W3.heap[g]?=some (.cells C1 Te (0,0)):=by rw[hC1];exact hJ.2.2
      have hC1s:C1.size=cap*sz:=by
        rw[hC1];simp only[yj,zC,zp,zF,yo,hcs1,hv.len,zT];rw[zT]at his1;omega
      obtain⟨n1,hn1⟩:∃n1,n1=i+(n-(i+1)):=⟨_,rfl⟩;have hn2:n<=n1+1:=by omega
      have hn3:n1+1<=n:=by omega
      rw[<-hn1];clear hn1;go_simp;go_wp2_with(go_big_may;first
        |(refine zam hP.toLsP rfl rfl rfl (l:=n1) (r:=n) (zbo _ (by omega) (by omega)) (by omega) ?_)
        |(refine zdq hP hz0 rfl rfl rfl rfl hg3 (.inr rfl) (.inr (by have h9:n1*sz+(n-n1)*sz=n*sz:=(by rw[<-zT];congr 1;omega);rw[hC1s];omega)) ?_;intro W4 C4 hg4 hs4 ht4 _ hgr4)
        |fail)
      go_ret;have q4:Trd (·=g) w W4:=hJ.1.trans (Trd.ofGrown (F:=(·=g)) hgr4 λk hk=>by injection hk with hk;exact hk.symm) (λ_ _ h=>h);refine⟨_,rfl,?_,⟨q4.os,q4.tape,q4.output,q4.size,λk hk hn=>q4.block k hk λh=>hn (by rw[h];rfl)⟩,.inl rfl⟩;obtain rfl:n-1=n1:=by omega
      refine RowQ.of hg4 (by omega) hcm (by rw[hs4,hC1s]) ?_ ?_
      · have h5:=ht4 (by omega)
        have h6:C4.toList.take ((n-1)*sz)=C1.toList.take ((n-1)*sz):=by
          rw[<-zR ((n-1)*sz)];first
            |exact h5
            |simpa using h5
        rw[h6,hC1];have:=znf (cur:=cur.toList) (p:=i*sz) (q:=n*sz) (r:=(i+1)*sz) (yN _ (by omega)) his1 (by rw[yo,hcs1];exact hns);rw[hct,<-xK]at this;rw[hdl];have e:(n-1)*sz=i*sz+(n-(i+1))*sz:=by rw[<-zT];congr 1;omega
        rw[e];exact this
      · intro u hu
        rcases zV.1 hu with h|h
        ·exact hv.2 u (y7 h)
        ·exact hv.2 u (yM h)
theorem delete_k (w:World){v:Value}{n i:Nat}{j:Int}{vs:List Value}(hv:RowQ 23 1 w v n vs)(hi:i<n)(hj:j=(i:Int)+1)(hn:n<=1000000):Calls Tryz.prog 193 #[v,.int .i64 i,.int .i64 j] w (zdo 23 1 w v (n-1) (vs.take (i*1)++vs.drop ((i+1)*1))):=
 zlm kysP (by omega) kys1 (by unfold zln;simp) w hv hi hj hn
theorem delete_c(w:World){v:Value}{n i:Nat}{j:Int}{vs:List Value}(hv:RowQ 102 1 w v n vs)(hi:i<n)(hj:j=(i:Int)+1)(hn:n<=1000000):Calls Tryz.prog 194 #[v,.int .i64 i,.int .i64 j] w (zdo 102 1 w v (n-1) (vs.take (i*1)++vs.drop ((i+1)*1))):=
 zlm chsP (by omega) chs1 (by unfold zln;simp) w hv hi hj hn
def SrcC(sz:Nat)(w:World)(ad:Option Addr)(m:Nat)(cs:List Value):Prop:=
 cs.length=m*sz/\(ad=none->m=0)/\(∀p,ad=some p->∀j u,cs[j]?=some u->w.cell? (p.add j)=some u)/\∀u∈cs,u.oneCell'=true
section
variable {Te : TypeId} {sz n m : Nat} {w w' : World} {ad : Option Addr} {cs vs : List Value} {v : Value}
theorem SrcC.below (h:SrcC sz w ad m cs)(hb:Below w.heap.size w w'):SrcC sz w' ad m cs:=
 ⟨h.1,h.2.1,λp hp j u hj=>by
  have h1:=h.2.2.1 p hp j u hj;have h2:(p.add j).block<w.heap.size:=wA w _ h1;exact(World.cell?_of_block (w:=w) (hb.block _ h2)).trans h1,h.2.2.2⟩
theorem RowQ.part(h:RowQ Te sz w v n vs){l r:Nat}(hl:l<=r)(hr:r<=n):∃ad c,v=.slice ad n c/\n<=c/\SrcC sz w (if c=l then ad else ad.map (·.add (l*sz))) (r-l) ((vs.take (r*sz)).drop (l*sz)):=by
  have hlen:((vs.take (r*sz)).drop (l*sz)).length=(r-l)*sz:=by
    rw[zF,zp,h.len,yi (yN _ hr),xK]
  have h1:∀u∈(vs.take (r*sz)).drop (l*sz),u.oneCell'=true:=λu hu=>h.2 u (y7 (yM hu))
  rcases h.cases with⟨rfl,rfl,rfl⟩|⟨g,cap,cur,rfl,hg,hnc,hcm,hcs,hct⟩
  · obtain rfl:r=0:=by omega
    obtain rfl:l=0:=by omega
    exact⟨none,0,rfl,zf _,hlen,λ_=>rfl,λp hp=>by simp at hp,h1⟩
  · refine⟨_,cap,rfl,hnc,hlen,λhn=>by split at hn<;>simp at hn,λp hp j u hj=>?_,h1⟩
    rw[xR,xG]at hj;split at hj
    · rename_i hlt
      have hne:¬cap=l:=λe=>by
        have:r*sz<=l*sz:=yN _ (by omega);omega
      rw[zh hne]at hp;simp only[xF,zN]at hp;injection hp with hp;subst hp;rw[zN,zR];exact h.cell rfl hj
    ·cases hj
theorem RowQ.src (h:RowQ Te sz w v n vs):∃ad c,v=.slice ad n c/\n<=c/\SrcC sz w ad n vs:=by
  rcases h.cases with⟨rfl,rfl,rfl⟩|⟨g,cap,cur,rfl,hg,hnc,hcm,hcs,hct⟩
  ·exact⟨none,0,rfl,zf _,by simp,λ_=>rfl,λp hp=>by simp at hp,λ_ h=>by cases h⟩
  · refine⟨_,cap,rfl,hnc,h.len,(λhn=>by cases hn),λp hp j u hj=>?_,h.2⟩
    injection hp with hp;subst hp;rw[zN,zR];exact h.cell rfl hj
end
def za9 (Te:TypeId)(sz:Nat)(w:World)(v:Value)(n:Nat)(vs:List Value)(W:World):Prop:=RowQ Te sz W v n vs/\(∀k,v.ownBlock=some k->w.heap.size<=k)/\Below w.heap.size w W
def zdy (Te:TypeId)(sz:Nat)(w:World)(n:Nat)(vs:List Value)(e:Ending)(W:World):Prop:=∃v,e=.returned v/\za9 Te sz w v n vs W
section
variable {Te : TypeId} {sz n n' : Nat} {w W W' : World} {v v' : Value} {vs vs' : List Value}
theorem za9.nil(Te:TypeId)(sz:Nat){w W:World}(hb:Below w.heap.size w W):za9 Te sz w (.slice none 0 0) 0 [] W:=⟨RowQ.nil _ _ _,(λk h=>by cases h),hb⟩
theorem za9.to (h:za9 Te sz w v n vs W)(h2:zci Te sz W v n' vs' v' W'):za9 Te sz w v' n' vs' W':=
 ⟨h2.1,λk hk=>by
  rcases h2.2.2 with h3|⟨q,h3,h4⟩
  ·exact h.2.1 k (h3▸hk)
  · rw[h3]at hk;injection hk with hk;subst hk;exact zv h.2.2.size h4,h.2.2.grown h2.2.1 h.2.2.size h.2.1⟩
theorem za9.below(h:za9 Te sz w v n vs W)(hb:Below W.heap.size W W'):za9 Te sz w v n vs W':=⟨h.1.below hb,h.2.1,h.2.2.trans (hb.mono h.2.2.size)⟩
end
section
variable {P : Program} {T Te : TypeId} {n : Nat} {ops : Array Oper} {rest : List Oper} {o : Oper} {a : Act} {Q : Exit → Act → World → Prop} {w : World} {K : Act → World → Prop}
theorem zig (hP:LsP P T Te n)(ho:o.op=.buildSlice T 0 #[])(hgd:Region.wanted o (yielded ops a.tmps)=true)(h:∀w',RowQ Te n w' (.slice (some ⟨w.heap.size,0,none⟩) 0 0) 0 []->Below w.heap.size w w'->wpList P ops Q rest (a.put o.dst (.slice (some ⟨w.heap.size,0,none⟩) 0 0)) w'):wpList P ops Q (o::rest) a w:=by
 refine zQ hgd λK hK=>?_
 obtain⟨i,hi,hsz⟩:=hP.info;have hrun:(Instr.buildSlice T 0 #[]).run P w=.ok (.slice (some ⟨w.heap.size,0,none⟩) 0 0) (w.alloc (.cells #[] Te)):=by
  simp[Instr.buildSlice,zr hP.hT,sizeOf,typeInfo,hi,Instr.fill,newRow,show Array.range 0=#[]from rfl]
 unfold Oper.wp execOp;simp only[ho,zZ,yb,ye,hrun,zE,zo];refine hK _ _ (h _ (RowQ.of (cur:=#[]) (by simp only[World.alloc,yf]) (zf _) (by unfold maxLen;omega) (by simp) (by simp) (λ_ h=>by cases h)) ((ze _ _).alloc (zf _) _))
theorem run_appS (hP:LoP P T Te n)(h0:0<n)(w:World)(ty:TypeId){v:Value}{k:Nat}{vs:List Value}(hv:RowQ Te n w v k vs){ad:Option Addr}{m c:Nat}{cs:List Value}(hs:SrcC n w ad m cs)(hlen:k+m<=1073741824):∃v' w',(Builtin.append_ #[T,T] ty #[v,.slice ad m c]).run P w=.ok v' w'/\zci Te n w v (k+m) (vs++cs) v' w':=by
 cases ad with
 |some p=>exact zpl hP h0 w ty hv hs.1 (hs.2.2.1 p rfl) hs.2.2.2 hlen
 |none=>
  obtain rfl:=hs.2.1 rfl;obtain rfl:cs=[]:=yg (by rw[hs.1,xH]);obtain⟨i,z,hi,_⟩:=hP.all;obtain⟨a,c',rfl,h1,_⟩:=hv.shape;refine⟨_,w,run_append_nothing w T T ty Te i hP.hT hi a k c' h1 _ (Src.ofNil w hP.hT c),?_⟩;rw[yr,yO];exact⟨hv,⟨rfl,rfl,rfl,zf _,λ_ _ _=>rfl⟩,.inl rfl⟩
theorem wp_appS (hP:LoP P T Te n)(h0:0<n){s x:Operand}(ho:o.op=.call {callee:=.builtin .append,args:=#[s,x],argTypes:=#[T,T]}){v:Value}{k:Nat}{vs:List Value}(hs:a.eval s=v)(hv:RowQ Te n w v k vs){ad:Option Addr}{m c:Nat}{cs:List Value}(hx:a.eval x=.slice ad m c)(hsr:SrcC n w ad m cs)(hlen:k+m<=1073741824)
  (h:∀ad cap w',zci Te n w v (k+m) (vs++cs) (.slice ad (k+m) cap) w'->K (a.put o.dst (.slice ad (k+m) cap)) w'):o.wp P a w K Q:=by
 obtain⟨v',w',hrun,h2⟩:=run_appS hP h0 w o.type hv hsr hlen (c:=c);obtain⟨ad,cap,rfl,_⟩:=h2.1.shape;unfold Oper.wp execOp;simp only[ho,resolve,invoke,builtin,zZ,yb,ye,zE,zn,zo,hs,hx,hrun];exact h _ _ _ h2
theorem zih (hP:LoP P T Te n)(h0:0<n){s x:Operand}(ho:o.op=.call {callee:=.builtin .append,args:=#[s,x],argTypes:=#[T,T]})(hgd:Region.wanted o (yielded ops a.tmps)=true){v:Value}{k:Nat}{vs:List Value}(hs:a.eval s=v)(hv:RowQ Te n w v k vs){ad:Option Addr}{m c:Nat}{cs:List Value}(hx:a.eval x=.slice ad m c)(hsr:SrcC n w ad m cs)(hlen:k+m<=1073741824)
  (h:∀ad cap w',zci Te n w v (k+m) (vs++cs) (.slice ad (k+m) cap) w'->wpList P ops Q rest (a.put o.dst (.slice ad (k+m) cap)) w'):wpList P ops Q (o::rest) a w:=
 zQ hgd λ_ hK=>wp_appS hP h0 ho hs hv hx hsr hlen λad cap w' h2=>hK _ _ (h ad cap w' h2)
theorem zhy(hP:LsP P T Te n){x:Operand}{lo hi:Option Operand}(ho:o.op=.slice T x lo hi none)(hgd:Region.wanted o (yielded ops a.tmps)=true){v:Value}{k:Nat}{vs:List Value}(hv:RowQ Te n w v k vs)(hx:a.eval x=v){l r:Nat}(hl:l<=r)(hr:r<=k)(hb:∀c,k<=c->(Instr.sliceBounds true k c (lo.map a.eval) (hi.map a.eval) none).run P w=.ok (l,r,c) w)
  (h:∀ad' c',SrcC n w ad' (r-l) ((vs.take (r*n)).drop (l*n))->wpList P ops Q rest (a.put o.dst (.slice ad' (r-l) c')) w):wpList P ops Q (o::rest) a w:=by
 obtain⟨ad,c,rfl,hnc,hs⟩:=hv.part hl hr;exact zd8 hP ho hgd hx (hb c hnc) (h _ _ hs)
theorem zif(hP:LsP P T Te n){x:Operand}{hi:Option Operand}(ho:o.op=.slice T x none hi none)(hgd:Region.wanted o (yielded ops a.tmps)=true)(hx:a.eval x=.slice none 0 0)(hb:(Instr.sliceBounds true 0 0 none (hi.map a.eval) none).run P w=.ok (0,0,0) w)
  (h:wpList P ops Q rest (a.put o.dst (.slice none 0 0)) w):wpList P ops Q (o::rest) a w:=
 zd8 hP ho hgd hx hb (by simpa using h)
end
structure Pc where
 ad:Option Addr
 m:Nat
 c:Nat
 cs:List Value
def Pc.v (p:Pc):Value:=.slice p.ad p.m p.c
def sumC(ps:List Pc):Nat:=(ps.map (·.m)).sum
def allC(ps:List Pc):List Value:=(ps.map (·.cs)).flatten
theorem zl9{ps:List Pc}{k:Nat}(h:k<ps.length):sumC (ps.take (k+1))=sumC (ps.take k)+ps[k].m:=by
 unfold sumC;rw[yT,zB h,xo,yW,wI];simp only[zn,zo,wm,List.sum_nil,yO]
theorem zvl{ps:List Pc}{k:Nat}(h:k<ps.length):allC (ps.take (k+1))=allC (ps.take k)++ps[k].cs:=by
 unfold allC;rw[yT,zB h,xo,yW,List.flatten_append];simp only[zn,zo,List.flatten_cons,List.flatten_nil,yr]
theorem zsz{ps:List Pc}:∀(k:Nat),sumC (ps.take k)<=sumC ps:=λk=>by
 have:sumC ps=sumC (ps.take k)+sumC (ps.drop k):=by
  unfold sumC;rw[<-wI,<-yW,yz]
 omega
def cloneQ(f:FuncId)(T:TypeId):Prop:=(f=202/\T=42)\/(f=203/\T=43)\/(f=204/\T=44)
def cutQ (f:FuncId)(T:TypeId):Prop:=(f=185/\T=42)\/(f=186/\T=43)\/(f=187/\T=44)
def growQ (f:FuncId)(T:TypeId):Prop:=(f=207/\T=42)\/(f=208/\T=43)\/(f=209/\T=44)
def zlp(f:FuncId)(T:TypeId):Prop:=(f=190/\T=42)\/(f=191/\T=43)\/(f=192/\T=44)
theorem clone_q{f:FuncId}{T Te:TypeId}{sz:Nat}(hP:LoP Tryz.prog T Te sz)(h0:0<sz)(hQ:cloneQ f T)(w:World){ad:Option Addr}{m c:Nat}{cs:List Value}(hs:SrcC sz w ad m cs)(hm:m<=1000000):Calls Tryz.prog f #[.slice ad m c] w (zdy Te sz w m cs):=by
 rcases hQ with⟨rfl,rfl⟩|⟨rfl,rfl⟩|⟨rfl,rfl⟩
 all_goals
  have he:=λ(w:World)(ad:Option Addr)(n c:Nat)=>Lib.run_eql_slice_nil (P:=Tryz.prog) w _ Te ad n c 0 0 hP.hT
  cases ad with
  |none=>
   obtain rfl:=hs.2.1 rfl;obtain rfl:cs=[]:=yg (by rw[hs.1,xH])
   first|go_enter Tryz.func202,Tryz.ntmps202|go_enter Tryz.func203,Tryz.ntmps203|go_enter Tryz.func204,Tryz.ntmps204
   go_wp2;go_ret;exact⟨_,rfl,za9.nil _ _ (ze _ _)⟩
  |some p=>
   first|go_enter Tryz.func202,Tryz.ntmps202|go_enter Tryz.func203,Tryz.ntmps203|go_enter Tryz.func204,Tryz.ntmps204
   go_wp2_with(go_big_may;first
    |(refine zig hP.toLsP rfl rfl ?_;intro w1 hr1 hb1)
    |(refine zih hP (by omega) rfl rfl (v:=.slice (some ⟨w.heap.size,0,none⟩) 0 0) rfl hr1 rfl (hs.below hb1) (by omega) ?_;intro ad' cap' w2 hR)
    |fail)
   go_ret;rw[yw,zR]at hR;refine⟨_,rfl,za9.to (v:=.slice (some ⟨w.heap.size,0,none⟩) 0 0) ⟨hr1,λk hk=>?_,hb1⟩ ?_⟩
   ·simp[Value.ownBlock]at hk;omega
   · simpa using hR
theorem cut_q{f:FuncId}{T Te:TypeId}{sz:Nat}(hP:LoP Tryz.prog T Te sz)(h0:0<sz)(hQ:cutQ f T)(w:World){v:Value}{n i j:Nat}{jz:Int}{vs:List Value}(hv:RowQ Te sz w v n vs)(hj:jz=(j:Int))(hij:i<=j)(hn:n<=1000000):Calls Tryz.prog f #[v,.int .i64 i,.int .i64 jz] w (zdy Te sz w (min j n-min i n) ((vs.take (min j n*sz)).drop (min i n*sz))):=by
 rcases hQ with⟨rfl,rfl⟩|⟨rfl,rfl⟩|⟨rfl,rfl⟩
 all_goals
  subst hj;obtain⟨x,hx⟩:∃x,x=min i n:=⟨_,rfl⟩;obtain⟨y,hy⟩:∃y,y=min j n:=⟨_,rfl⟩;have hxy:x<=y:=by omega
  have hyn:y<=n:=by omega
  have hxi:(x:Int)=min (i:Int) (n:Int):=by omega
  have hyi:(y:Int)=min (j:Int) (n:Int):=by omega
  rw[<-hx,<-hy];obtain⟨ad,c,rfl,hnc,_⟩:=hv.shape;have Hx:=Lib.hid hxi;have Hy:=Lib.hid hyi;clear hx hy hxi hyi
  first|go_enter Tryz.func185,Tryz.ntmps185|go_enter Tryz.func186,Tryz.ntmps186|go_enter Tryz.func187,Tryz.ntmps187
  go_wp2_with(go_big_may;first
   |(refine zj0 rfl rfl rfl rfl ?_ Hx.out)
   |(refine zj0 rfl rfl rfl rfl ?_ Hy.out)
   |(refine zhy hP.toLsP rfl rfl hv rfl hxy hyn (λc hc=>zbo _ hxy (by omega)) ?_;intro ad' c' hs)
   |fail)
  refine(clone_q hP h0 (by unfold cloneQ;simp) w hs (by omega)).mono ?_;rintro e w1 ⟨v,rfl,h⟩;obtain⟨_,_,rfl,_⟩:=h.1.shape;go_wp2_with fail;go_ret;exact⟨_,rfl,h⟩
theorem grow_q {f:FuncId}{T Te:TypeId}{sz:Nat}(hP:LoP Tryz.prog T Te sz)(h0:0<sz)(hQ:growQ f T) (w:World){n:Nat}(hn:n<=1000000):Calls Tryz.prog f #[.slice none 0 0,.int .i64 n] w (zdy Te sz w 0 []):=by
  rcases hQ with⟨rfl,rfl⟩|⟨rfl,rfl⟩|⟨rfl,rfl⟩
  all_goals
    have d:decide ((n:Int)<0)=false:=zj (by omega);rcases yx n with h0|h0
    · subst h0
      first|go_enter Tryz.func207,Tryz.ntmps207|go_enter Tryz.func208,Tryz.ntmps208|go_enter Tryz.func209,Tryz.ntmps209
      go_wp2;go_ret;exact⟨_,rfl,za9.nil _ _ (ze _ _)⟩
    · have d2:decide (0<(n:Int))=true:=zk (by omega)
      first|go_enter Tryz.func207,Tryz.ntmps207|go_enter Tryz.func208,Tryz.ntmps208|go_enter Tryz.func209,Tryz.ntmps209
      go_wp2_with(go_big_may;first
        |(refine zif hP.toLsP rfl rfl rfl (zax _ (zf _)) ?_)
        |(refine zgf hP (by omega) (by kernel_rfl) rfl rfl rfl (k:=0) (m:=n) rfl (by omega) (cs:=[]) (by simp) (λq hq=>by cases hq) (λ_=>rfl) (by omega) (by omega) (by omega) ?_;intro G cr hG1 hG2 hG3 hG4)
        |(refine zbi hP.toLsP rfl rfl rfl (r:=0) (zax _ (by omega)) ?_)
        |fail)
      go_ret;have hg1:((w.alloc (.cells cr Te)).drew).heap[w.heap.size]?=some (.cells cr Te (0,0)):=by simp only[World.alloc,World.drew,yf]
      exact⟨_,rfl,RowQ.of hg1 (zH _) hG2 hG3 (by simp) (λ_ h=>by cases h),λk hk=>by simp[Value.ownBlock]at hk;omega,((ze _ _).alloc (zf _) _).drew⟩
theorem zlo {f:FuncId}{T Te:TypeId}{sz:Nat}(hP:LoP Tryz.prog T Te sz)(h0:0<sz)(hQ:zlp f T) (w:World){B m:Nat}{ps:List Pc}(hB:∀k (h:k<ps.length),w.cell? ⟨B,k,none⟩=some ps[k].v) (hm:ps.length=m) (hm3:m<=1000) (hs:∀p∈ps,SrcC sz w p.ad p.m p.cs) (hsum:sumC ps<=1000000):Calls Tryz.prog f #[.slice (some ⟨B,0,none⟩) m m] w (zdy Te sz w (sumC ps) (allC ps)):=by
  rcases hQ with⟨rfl,rfl⟩|⟨rfl,rfl⟩|⟨rfl,rfl⟩
  all_goals
    have hBlt:∀k,k<ps.length->B<w.heap.size:=λk h=>zad (hB k h)
    first|go_enter Tryz.func190,Tryz.ntmps190|go_enter Tryz.func191,Tryz.ntmps191|go_enter Tryz.func192,Tryz.ntmps192
    go_upto_region 3 with(fail);go_loopw [3,11](λsv iv wr=>∃k:Nat,k<=m/\iv=.int .i64 k/\sv=.int .i64 (sumC (ps.take k):Nat)/\Below w.heap.size w wr) (λ_ i _=>m-(intOf i).toNat);case atStart=>exact⟨0,zH _,rfl,rfl,ze _ _⟩
    case round=>
      obtain⟨k,hk,rfl,rfl,q⟩:=hrel;rcases zA k m with hlt|hge
      · have hkl:k<ps.length:=by omega
        have hc:=(zag (q.block B (hBlt k hkl)) k).trans (hB k hkl);unfold Pc.v at hc;have e1:=zl9 hkl;have e2:=zsz (ps:=ps) (k+1);obtain⟨A,hA⟩:∃A,A=ps[k].m:=⟨_,rfl⟩;rw[<-hA]at e1 hc;obtain⟨Z,hZ⟩:∃Z,Z=sumC (ps.take k):=⟨_,rfl⟩;rw[<-hZ]at e1⊢;have d:decide ((Z:Int)+(A:Int)<0)=false:=zj (by omega);have hZA:Z+A<=1000000:=by omega
        have H1:=Lib.hid e1;clear hA hZ e1 e2;go_wp2_with fail;go_roundw;case rel=>exact⟨k+1,by omega,by go_num,by rw[H1.out];go_num,q⟩
        case measure=>simp[intOf];omega
      · obtain rfl:k=m:=by omega
        have e0:ps.take k=ps:=yq (by omega);rw[e0];clear hge hk;go_upto_region 9 with(fail);go_wp2_with fail;refine(grow_q hP h0 (by unfold growQ;simp) wr hsum).mono ?_;rintro e w1 ⟨v0,rfl,hr0⟩;have hr1:za9 Te sz w v0 (sumC (ps.take 0)) (allC (ps.take 0)) w1:=⟨hr0.1,λk hk=>zv q.size (hr0.2.1 k hk),q.trans (hr0.2.2.mono q.size)⟩;clear hr0 q e0;go_upto_region 11 with(fail);go_loopw [6,27](λvv iv wr=>∃j:Nat,j<=k/\iv=.int .i64 j/\za9 Te sz w vv (sumC (ps.take j)) (allC (ps.take j)) wr) (λ_ i _=>k-(intOf i).toNat);case atStart=>exact⟨0,zH _,rfl,hr1⟩
        case round=>
          clear hr1;obtain⟨j,hj,rfl,hr⟩:=hrel;rename_i wr2 _ _;rcases zA j k with hlt|hge
          · have hkl:j<ps.length:=by omega
            obtain⟨_,c2,rfl,hn2,_⟩:=hr.1.shape;have hc:=(zag (hr.2.2.block B (hBlt j hkl)) j).trans (hB j hkl);unfold Pc.v at hc;have e1:=zl9 hkl;have e2:=zvl hkl;have e3:=zsz (ps:=ps) (j+1);have hsr:=(hs ps[j] (zL hkl)).below hr.2.2;obtain⟨Y,hY⟩:∃Y,Y=allC (ps.take j):=⟨_,rfl⟩;obtain⟨Z,hZ⟩:∃Z,Z=sumC (ps.take j):=⟨_,rfl⟩;rw[<-hZ]at hr hn2 e1⊢;rw[<-hY]at hr e2;have hZA:Z+ps[j].m<=1000000:=by omega
            generalize ps[j]=p at hc e1 e2 hsr hZA;have H1:=Lib.hid e1;have H2:=Lib.hid e2;clear e1 e2 e3 hZ hY;go_wp2_with(go_big_may;first
              |(refine zih hP (by omega) rfl rfl (v:=.slice _ Z c2) rfl hr.1 rfl hsr (by omega) ?_;intro ad' cap' w2 hR)
              |fail)
            go_roundw;case rel=>exact⟨j+1,by omega,by go_num,by rw[H1.out,H2.out];exact hr.to hR⟩
            case measure=>simp[intOf];omega
          · obtain rfl:j=k:=by omega
            rw[yq (by omega)]at hr;obtain⟨_,c2,rfl,hn2,_⟩:=hr.1.shape;go_wp2_with fail;go_ret;exact⟨_,rfl,hr⟩
theorem cut_k(w:World){v:Value}{n i j:Nat}{jz:Int}{vs:List Value}(hv:RowQ 23 1 w v n vs)(hj:jz=(j:Int))(hij:i<=j)(hn:n<=1000000):Calls Tryz.prog 185 #[v,.int .i64 i,.int .i64 jz] w (zdy 23 1 w (min j n-min i n) ((vs.take (min j n*1)).drop (min i n*1))):=
 cut_q kysP (by omega) (by unfold cutQ;simp) w hv hj hij hn
theorem concat_k (w:World){B m:Nat}{ps:List Pc}(hB:∀k (h:k<ps.length),w.cell? ⟨B,k,none⟩=some ps[k].v)(hm:ps.length=m)(hm3:m<=1000)(hs:∀p∈ps,SrcC 1 w p.ad p.m p.cs)(hsum:sumC ps<=1000000):Calls Tryz.prog 190 #[.slice (some ⟨B,0,none⟩) m m] w (zdy 23 1 w (sumC ps) (allC ps)):=
 zlo kysP (by omega) (by unfold zlp;simp) w hB hm hm3 hs hsum
theorem cut_c(w:World){v:Value}{n i j:Nat}{jz:Int}{vs:List Value}(hv:RowQ 102 1 w v n vs)(hj:jz=(j:Int))(hij:i<=j)(hn:n<=1000000):Calls Tryz.prog 186 #[v,.int .i64 i,.int .i64 jz] w (zdy 102 1 w (min j n-min i n) ((vs.take (min j n*1)).drop (min i n*1))):=
 cut_q chsP (by omega) (by unfold cutQ;simp) w hv hj hij hn
theorem concat_c (w:World){B m:Nat}{ps:List Pc}(hB:∀k (h:k<ps.length),w.cell? ⟨B,k,none⟩=some ps[k].v)(hm:ps.length=m)(hm3:m<=1000)(hs:∀p∈ps,SrcC 1 w p.ad p.m p.cs)(hsum:sumC ps<=1000000):Calls Tryz.prog 191 #[.slice (some ⟨B,0,none⟩) m m] w (zdy 102 1 w (sumC ps) (allC ps)):=
 zlo chsP (by omega) (by unfold zlp;simp) w hB hm hm3 hs hsum
theorem cut_n (w:World){v:Value}{n i j:Nat}{jz:Int}{vs:List Value}(hv:RowQ 46 3 w v n vs)(hj:jz=(j:Int))(hij:i<=j)(hn:n<=1000000):Calls Tryz.prog 187 #[v,.int .i64 i,.int .i64 jz] w (zdy 46 3 w (min j n-min i n) ((vs.take (min j n*3)).drop (min i n*3))):=
 cut_q ndP (by omega) (by unfold cutQ;simp) w hv hj hij hn
theorem concat_n(w:World){B m:Nat}{ps:List Pc}(hB:∀k(h:k<ps.length),w.cell? ⟨B,k,none⟩=some ps[k].v)(hm:ps.length=m)(hm3:m<=1000)(hs:∀p∈ps,SrcC 3 w p.ad p.m p.cs)(hsum:sumC ps<=1000000):Calls Tryz.prog 192 #[.slice (some ⟨B,0,none⟩) m m] w (zdy 46 3 w (sumC ps) (allC ps)):=
 zlo ndP (by omega) (by unfold zlp;simp) w hB hm hm3 hs hsum
def zak (v:Value):List Nat:=v.ownBlock.toList
theorem zch{v:Value}{k:Nat}:k∈zak v↔v.ownBlock=some k:=by
 unfold zak;cases v.ownBlock with
 |none=>simp
 |some j=>simp[eq_comm]
theorem zjk(v:Value):(zak v).Nodup:=by
 unfold zak;cases v.ownBlock<;>simp
section
variable {α : Type} {E : Elt α} {S : Nat → Prop} {w : World}
theorem Flat.drop:∀{xs:List α}{vs:List Value}(_:Flat E S w xs vs)(k:Nat),Flat E S w (xs.drop k) (vs.drop (k*E.size))
 |[],_,h,k=>by cases h;simp[Flat]
 |x::xs,_,h,0=>by simpa using h
 |x::xs,_,⟨us,ws,rfl,h1,h2⟩,k+1=>by
  have hl:=E.len h1;have e:(us++ws).drop ((k+1)*E.size)=ws.drop (k*E.size):=by
   rw[show(k+1)*E.size=us.length+k*E.size by rw[hl,zT];omega,List.drop_length_add_append]
  rw[e];exact Flat.drop h2 k
end
mutual
def OwnN (D:Nat->Prop)(w:World):Nd->List Value->List Nat->Prop|.mk ks cs ns,vs,F=>∃v1 v2 v3 us1 us2 us3 F3,vs=[v1,v2,v3]/\F=zak v1++zak v2++zak v3++F3/\RowQ 23 1 w v1 ks.length us1/\Flat Elt.bytes D w ks us1/\RowQ 102 1 w v2 cs.length us2/\Flat (Elt.list Elt.ver) D w cs us2/\RowQ 46 3 w v3 ns.length us3/\zbf D w ns us3 F3
def zbf(D:Nat->Prop)(w:World):List Nd->List Value->List Nat->Prop
 |[],vs,F=>vs=[]/\F=[]
 |n::ns,vs,F=>∃us ws F1 F2,vs=us++ws/\F=F1++F2/\OwnN D w n us F1/\zbf D w ns ws F2
end
theorem zfb (D:Nat->Prop)(w:World)(n:Nd)(vs:List Value)(F:List Nat):OwnN D w n vs F↔∃v1 v2 v3 us1 us2 us3 F3,vs=[v1,v2,v3]/\F=zak v1++zak v2++zak v3++F3/\RowQ 23 1 w v1 n.keys.length us1/\Flat Elt.bytes D w n.keys us1/\RowQ 102 1 w v2 n.chains.length us2/\Flat (Elt.list Elt.ver) D w n.chains us2/\RowQ 46 3 w v3 n.kids.length us3/\zbf D w n.kids us3 F3:=by
 cases n with
 |mk ks cs ns=>rw[OwnN];rfl
section
variable {D : Nat → Prop} {w w' : World}
mutual
theorem zh7:∀(n:Nd){vs:List Value}{F:List Nat},OwnN D w n vs F->(∀k∈F,w'.heap[k]?=w.heap[k]?)->(∀k,D k->w'.heap[k]?=w.heap[k]?)->OwnN D w' n vs F
 |.mk ks cs ns,vs,F,h,hF,hD=>by
  rw[OwnN]at h⊢;obtain⟨v1,v2,v3,us1,us2,us3,F3,e1,rfl,h1,h2,h3,h4,h5,h6⟩:=h;refine⟨v1,v2,v3,us1,us2,us3,F3,e1,rfl,h1.kept λk hk=>hF k ?_,h2.keep hD,h3.kept λk hk=>hF k ?_,h4.keep hD,h5.kept λk hk=>hF k ?_,zbh ns h6 (λk hk=>hF k ?_) hD⟩
  · simp[zch,hk]
  · simp[zch,hk]
  · simp[zch,hk]
  · simp[hk]
theorem zbh:∀(ns:List Nd){vs:List Value}{F:List Nat},zbf D w ns vs F->(∀k∈F,w'.heap[k]?=w.heap[k]?)->(∀k,D k->w'.heap[k]?=w.heap[k]?)->zbf D w' ns vs F
 |[],vs,F,h,_,_=>by rw[zbf]at h⊢;exact h
 |n::ns,vs,F,h,hF,hD=>by
  rw[zbf]at h⊢;obtain⟨us,ws,F1,F2,e1,rfl,h1,h2⟩:=h;exact⟨us,ws,F1,F2,e1,rfl,zh7 n h1 (λk hk=>hF k (xI _ hk)) hD,zbh ns h2 (λk hk=>hF k (wJ _ hk)) hD⟩
end
mutual
theorem zpy:∀(n:Nd){vs:List Value}{F:List Nat},OwnN D w n vs F->∀k∈F,k<w.heap.size
 |.mk ks cs ns,vs,F,h,k,hk=>by
  rw[OwnN]at h;obtain⟨v1,v2,v3,us1,us2,us3,F3,e1,rfl,h1,h2,h3,h4,h5,h6⟩:=h;simp only[zV,zch]at hk;rcases hk with((hk|hk)|hk)|hk
  ·exact h1.lt hk
  ·exact h3.lt hk
  ·exact h5.lt hk
  ·exact zhe ns h6 k hk
theorem zhe:∀(ns:List Nd){vs:List Value}{F:List Nat},zbf D w ns vs F->∀k∈F,k<w.heap.size
 |[],vs,F,h,k,hk=>by rw[zbf]at h;rw[h.2]at hk;cases hk
 |n::ns,vs,F,h,k,hk=>by
  rw[zbf]at h;obtain⟨us,ws,F1,F2,e1,rfl,h1,h2⟩:=h;rcases zV.1 hk with hk|hk
  ·exact zpy n h1 k hk
  ·exact zhe ns h2 k hk
end
theorem zoi{n:Nd}{vs:List Value}{F:List Nat}(h:OwnN D w n vs F):vs.length=3:=by
 rw[zfb]at h;obtain⟨v1,v2,v3,_,_,_,_,rfl,_⟩:=h;rfl
theorem zgt:∀{ns:List Nd}{vs:List Value}{F:List Nat},zbf D w ns vs F->vs.length=ns.length*3
 |[],vs,F,h=>by rw[zbf]at h;rw[h.1];rfl
 |n::ns,vs,F,h=>by
  rw[zbf]at h;obtain⟨us,ws,F1,F2,rfl,_,h1,h2⟩:=h;rw[zC,zoi h1,zgt h2,zI,zT];omega
theorem zb7:∀{ns ms:List Nd}{vs us:List Value}{F G:List Nat},zbf D w ns vs F->zbf D w ms us G->zbf D w (ns++ms) (vs++us) (F++G)
 |[],ms,vs,us,F,G,h,k=>by
  rw[zbf]at h;rw[h.1,h.2];exact k
 |n::ns,ms,vs,us,F,G,h,k=>by
  rw[zbf]at h;obtain⟨u1,w1,F1,F2,rfl,rfl,h1,h2⟩:=h;rw[ym,zbf];exact⟨u1,w1++us,F1,F2++G,by rw[zG],by rw[zG],h1,zb7 h2 k⟩
theorem zeu:∀{ns ms:List Nd}{vs:List Value}{F:List Nat},zbf D w (ns++ms) vs F->∃us ws F1 F2,vs=us++ws/\F=F1++F2/\zbf D w ns us F1/\zbf D w ms ws F2
 |[],ms,vs,F,h=>⟨[],vs,[],F,rfl,rfl,by rw[zbf];exact⟨rfl,rfl⟩,h⟩
 |n::ns,ms,vs,F,h=>by
  rw[ym,zbf]at h;obtain⟨u1,w1,F1,F2,rfl,rfl,h1,h2⟩:=h;obtain⟨us,ws,G1,G2,rfl,rfl,h3,h4⟩:=zeu h2;refine⟨u1++us,ws,F1++G1,G2,by rw[zG],by rw[zG],?_,h4⟩;rw[zbf];exact⟨u1,us,F1,G1,rfl,rfl,h1,h3⟩
theorem zf3{n:Nd}{vs:List Value}{F:List Nat}:zbf D w [n] vs F↔OwnN D w n vs F:=by
  rw[zbf];constructor
  · rintro⟨us,ws,F1,F2,rfl,rfl,h1,h2⟩
    rw[zbf]at h2;rw[h2.1,h2.2,yr,yr];exact h1
  · intro h
    exact⟨vs,[],F,[],by simp,by simp,h,by rw[zbf];exact⟨rfl,rfl⟩⟩
theorem owns_nil:zbf D w [] [] []:=by rw[zbf];exact⟨rfl,rfl⟩
theorem zoh{ns:List Nd}{vs:List Value}{F:List Nat}(h:zbf D w ns vs F)(i:Nat)(hi:i<ns.length):∃us ms ws F1 F2 F3,vs=us++ms++ws/\F=F1++F2++F3/\us.length=i*3/\ms.length=3/\zbf D w (ns.take i) us F1/\OwnN D w ns[i] ms F2/\zbf D w (ns.drop (i+1)) ws F3:=by
 have e:ns=ns.take i++([ns[i]]++ns.drop (i+1)):=by
  rw[wF,<-yQ hi,yz]
 rw[e]at h;obtain⟨us,ws,F1,F2,rfl,rfl,h1,h2⟩:=zeu h;obtain⟨ms,xs,G1,G2,rfl,rfl,h3,h4⟩:=zeu h2;have h3':=zf3.1 h3;have hl:=zgt h1;rw[zp,yi (xY hi)]at hl;exact⟨us,ms,xs,F1,G1,G2,by rw[zG],by rw[zG],hl,zoi h3',h1,h3',h4⟩
theorem RowQ.rdL{α:Type}{E:Elt α}{S:Nat->Prop}{Te:TypeId}{v:Value}{xs:List α}{us:List Value}(h:RowQ Te E.size w v xs.length us)(hf:∀r (hr:r<xs.length),∃cs,E.R S w xs[r] cs/\∀j u,cs[j]?=some u->us[r*E.size+j]?=some u)(hS:∀k,v.ownBlock=some k->S k):RdL E S w v xs:=by
  rcases h.cases with⟨rfl,h2,rfl⟩|⟨g,cap,cur,rfl,hg,hnc,hcm,_⟩
  · obtain rfl:xs=[]:=yg h2
    exact RdL.nil _ _ _
  · refine⟨_,cap,rfl,hnc,hcm,.inr ⟨g,0,rfl,hS g rfl,λr hr=>?_⟩⟩
    obtain⟨cs,h1,h2⟩:=hf r hr;refine⟨cs,h1,λj u hj=>?_⟩;rw[zR];exact h.cell rfl (h2 j u hj)
theorem zpw:∀{ns:List Nd}{vs:List Value}{F:List Nat},zbf D w ns vs F->∀r (hr:r<ns.length),∃cs G,OwnN D w ns[r] cs G/\(∀k∈G,k∈F)/\∀j u,cs[j]?=some u->vs[r*3+j]?=some u:=by
 intro ns vs F h r hr;obtain⟨us,ms,ws,F1,F2,F3,rfl,rfl,h1,h2,_,h3,_⟩:=zoh h r hr;refine⟨ms,F2,h3,λk hk=>by simp[hk],λj u hj=>?_⟩;have hjl:=(yI.1 hj).1;rw[zG,xw (by omega),h1,xW,xu hjl];exact hj
theorem zk6:∀(N:Nat){n:Nd},wN n<=N->∀{vs:List Value}{F:List Nat}{S:Nat->Prop},OwnN D w n vs F->(∀k,D k->S k)->(∀k∈F,S k)->Elt.nd.R S w n vs
  |0,n,hN,_,_,_,_,_,_=>by have:=zil n;omega
  |N+1,n,hN,vs,F,S,h,hD,hF=>by
    rw[zfb]at h;obtain⟨v1,v2,v3,us1,us2,us3,F3,rfl,rfl,h1,h2,h3,h4,h5,h6⟩:=h;refine nd_in ?_ ?_ ?_
    · refine RowQ.rdL (E:=Elt.bytes) h1 (λr hr=>?_) (λk hk=>hF k (by simp[zch,hk]))
      obtain⟨cs,h7,h8⟩:=h2.at r hr;exact⟨cs,Elt.bytes.weak h7 hD,h8⟩
    · refine RowQ.rdL (E:=Elt.list Elt.ver) h3 (λr hr=>?_) (λk hk=>hF k (by simp[zch,hk]))
      obtain⟨cs,h7,h8⟩:=h4.at r hr;exact⟨cs,(Elt.list Elt.ver).weak h7 hD,h8⟩
    · refine RowQ.rdL (E:=Elt.nd) h5 (λr hr=>?_) (λk hk=>hF k (by simp[zch,hk]))
      obtain⟨cs,G,h7,h8,h9⟩:=zpw h6 r hr;have hm:n.kids[r]∈n.kids:=zL hr;have:=zim hm;exact⟨cs,zk6 N (n:=n.kids[r]) (by omega) h7 hD (λk hk=>hF k (by simp[h8 k hk])),h9⟩
end
structure NdAt (D:Nat->Prop)(w:World)(v:Value)(n:Nd)(F:List Nat):Prop where
 ex:∃vs,v=.agg vs.toArray/\OwnN D w n vs F
 nodup:F.Nodup
 free:∀k∈F,¬D k
 data:∀k,D k->k<w.heap.size
section
variable {D : Nat → Prop} {w w' : World} {v : Value} {n : Nd} {F : List Nat}
theorem NdAt.lt (h:NdAt D w v n F):∀k∈F,k<w.heap.size:=by
 obtain⟨vs,_,h1⟩:=h.ex;exact zpy n h1
theorem NdAt.keep(h:NdAt D w v n F)(hs:w.heap.size<=w'.heap.size)(hk:∀k,k<w.heap.size->(D k\/k∈F)->w'.heap[k]?=w.heap[k]?):NdAt D w' v n F:=by
 obtain⟨vs,e,h1⟩:=h.ex;exact⟨⟨vs,e,zh7 n h1 (λk hF=>hk k (h.lt k hF) (.inr hF)) (λk hD=>hk k (h.data k hD) (.inl hD))⟩,h.nodup,h.free,λk hD=>zm (h.data k hD) hs⟩
theorem NdAt.below (h:NdAt D w v n F)(hb:Below w.heap.size w w'):NdAt D w' v n F:=h.keep hb.size λk hk _=>hb.block k hk
theorem NdAt.rdN (h:NdAt D w v n F):RdN (λk=>D k\/k∈F) w v n:=by
 obtain⟨vs,rfl,h1⟩:=h.ex;exact RdN.of (zk6 (wN n) (zf _) h1 (λ_ h=>.inl h) (λ_ h=>.inr h))
end
def NdTo(D:Nat->Prop)(w:World)(F:List Nat)(Q:Nd->Prop)(e:Ending)(w':World):Prop:=
 ∃v' n' F',e=.returned v'/\Q n'/\NdAt D w' v' n' F'/\(∀k∈F',k∈F\/w.heap.size<=k)/\Trd (·∈F) w w'
section
variable {P : Program} {T Te : TypeId} {n : Nat} {ops : Array Oper} {rest : List Oper} {o : Oper} {a : Act} {Q : Exit → Act → World → Prop} {w : World} {K : Act → World → Prop}
theorem zfj(hP:LoP P T Te n){x y:Operand}(ho:o.op=.makeSlice T x y)(hgd:Region.wanted o (yielded ops a.tmps)=true){m:Nat}{i:Int}{kl kc:IntKind}(hx:a.eval x=.int kl 0)(hy:a.eval y=.int kc i)(him:i=(m:Int))(hm:m<=1073741824)(h:∀w',RowQ Te n w' (.slice (some ⟨w.heap.size,0,none⟩) 0 m) 0 []->Below w.heap.size w w'->wpList P ops Q rest (a.put o.dst (.slice (some ⟨w.heap.size,0,none⟩) 0 m)) w'):wpList P ops Q (o::rest) a w:=by
 subst him;refine zQ hgd λK hK=>?_
 obtain⟨i,z,hi,hz,hsz,hby,hzs⟩:=hP.all;have hbytes:i.bytes*m<=4096*1073741824:=xP hby hm;have hr:=run_make (P:=P) w T Te i z hP.hT hi hz kl kc 0 (m:Int) (Int.le_refl _) (by omega) (by
  have:((i.bytes*m:Nat):Int)<=281474976710656:=by omega
  rwa [Int.natCast_mul]at this) (by omega)
 simp only[wG,Int.toNat_zero]at hr;unfold Oper.wp execOp;simp only[ho,hx,hy,zZ,yb,ye,hr];exact hK _ _ (h _ (RowQ.of (cur:=madeCells z.cells (m*i.size)) (by simp only[World.alloc,yf]) (zH _) (by unfold maxLen;omega) (by rw[size_madeCells,hsz]) (by simp) (λ_ h=>by cases h)) ((ze _ _).alloc (zf _) _))
theorem zct(hP:LoP P T Te n){y:Operand}{v:Value}{us:List Value}(ho:o.op=.buildSlice T 1 #[(0,y)])(hgd:Region.wanted o (yielded ops a.tmps)=true)(hy:a.eval y=v)(hv:v.cells=us.toArray)(hl:us.length=n)(h0:0<n)(hn:n<=4096)(h:∀w',w'.heap[w.heap.size]?=some (.cells us.toArray Te (0,0))->Below w.heap.size w w'->wpList P ops Q rest (a.put o.dst (.slice (some ⟨w.heap.size,0,none⟩) 1 1)) w'):wpList P ops Q (o::rest) a w:=
 zQ hgd λ_ hK=>zba hP ho hy hv hl h0 hn (hK _ _ (h _ (by simp only[World.alloc,yf]) ((ze _ _).alloc (zf _) _)))
end
theorem cnt_none{l:List Ver}(hk:okV l):cntV l 0=0:=by
  have:∀k,zdx l 0 k=0:=by
    intro k;induction k with
    |zero=>rfl
    |succ k ih=>
      by_cases h:k<l.length;·rw[zmy h (by have:=(hk k h).1.1;omega),ih]
      · unfold zdx
        rw[dif_neg h,ih]
  exact this _
theorem vac_none (l:List Ver):vacV l 0=l:=by
 by_cases hk:okV l;·exact zl4 (cnt_none hk)
 ·unfold vacV;rw[zh hk]
theorem zfk(w:World){S:Nat->Prop}{a:Option Addr}{n c:Nat}{l:List Ver}(hl:RdL Elt.ver S w (.slice a n c) l) (hsm:zb9 l):Calls Tryz.prog 114 #[.slice a n c] w (zc7 w l):=by
 go_enter Tryz.func114,Tryz.ntmps114;go_wp2_with fail;refine(znl w (s:=0) hl hsm).mono ?_;rw[vac_none];rintro e w1 ⟨a1,c1,rfl,h1,h2⟩;go_wp2_with fail;go_ret;exact⟨a1,c1,rfl,h1,h2⟩
def CpK{α:Type}(E:Elt α)(Te:TypeId)(w:World)(v:Value)(xs:List α)(W:World):Prop:=
 ∃us,za9 Te E.size w v xs.length us W/\Flat E (λk=>w.heap.size<=k/\k<W.heap.size/\v.ownBlock≠some k) W xs us
theorem CpK.shape{α:Type}{E:Elt α}{Te:TypeId}{w:World}{v:Value}{xs:List α}{W:World}(h:CpK E Te w v xs W){m:Nat}(hm:xs.length=m):∃ad cp,v=.slice ad m cp/\m<=cp:=by
 obtain⟨us,h1,_⟩:=h;obtain⟨ad,cp,h2,h3,_⟩:=h1.1.shape;exact⟨ad,cp,hm▸h2,hm▸h3⟩
theorem CpK.row{α:Type}{E:Elt α}{Te:TypeId}{w:World}{v:Value}{xs:List α}{W:World}(h:CpK E Te w v xs W){m:Nat}(hm:xs.length=m):∃vs,za9 Te E.size w v m vs W/\Flat E (λk=>w.heap.size<=k/\k<W.heap.size/\v.ownBlock≠some k) W xs vs:=by
 obtain⟨us,h1,h2⟩:=h;exact⟨us,hm▸h1,h2⟩
theorem CpK.next{α:Type}{E:Elt α}{Te:TypeId}{w:World}{v v':Value}{xs:List α}{x:α}{us vs:List Value}{W W1 W2:World}{m:Nat}(hm:xs.length=m) (h1:za9 Te E.size w v m vs W) (h2:Flat E (λk=>w.heap.size<=k/\k<W.heap.size/\v.ownBlock≠some k) W xs vs) (hb:Below W.heap.size W W1)(hx:E.R (λk=>W.heap.size<=k/\k<W1.heap.size) W1 x us)(h4:zci Te E.size W1 v (m+1) (vs++us) v' W2):CpK E Te w v' (xs++[x]) W2:=by
  subst hm;have h3:=h1.below hb;refine⟨vs++us,by simpa using h3.to h4,?_⟩;have hnb:∀k,k<W1.heap.size->v.ownBlock≠some k->W2.heap[k]?=W1.heap[k]?:=λk hk hn=>h4.2.1.block k hk (λe=>hn e.symm)
  have hnew:∀k,k<W1.heap.size->v.ownBlock≠some k->v'.ownBlock≠some k:=λk hk hn e=>by
    rcases h4.2.2 with h5|⟨q,h5,h6⟩
    ·exact hn (by rw[<-h5];exact e)
    · rw[h5]at e;injection e with e;omega
  have hs:=h4.2.1.size;have hWW:=hb.size;refine Flat.append ?_ (Flat.single ?_);·refine((h2.keep (w':=W1) λk hk=>hb.block k hk.2.1).keep (w':=W2) λk hk=>hnb k (by omega) hk.2.2).weak λk hk=>⟨hk.1,by omega,hnew k (by omega) hk.2.2⟩
  · have hvW:∀k,W.heap.size<=k->v.ownBlock≠some k:=λk hk e=>by
      have:=h1.1.lt e;omega
    have hw:=h1.2.2.size;exact E.weak (E.keep hx λk hk=>hnb k hk.2 (hvW k hk.1)) λk hk=>⟨by omega,by omega,hnew k hk.2 (hvW k hk.1)⟩
theorem each_k (w:World){S:Nat->Prop}{a:Option Addr}{n c:Nat}{xs:List (List UInt8)}(hl:RdL Elt.bytes S w (.slice a n c) xs)(hn:n<=1000000)(F:FuncId)(hE:Enters Tryz.prog F)(hF:∀(W:World)(r:Nat)(hr:r<xs.length)(A:Option Addr)(C:Nat),Below w.heap.size w W->RdS S W (.slice A xs[r].length C) xs[r]->Calls Tryz.prog F #[.slice A xs[r].length C] W (λe W'=>∃A' C',e=.returned (.slice A' xs[r].length C')/\RdS (λk=>W.heap.size<=k/\k<W'.heap.size) W' (.slice A' xs[r].length C') xs[r]/\Below W.heap.size W W')):
    Calls Tryz.prog 137 #[.slice a n c,.func (.func F) #[] #[]] w λe W=>∃v,e=.returned v/\CpK Elt.bytes 23 w v xs W:=by
  obtain⟨rfl,hnc,hcm⟩:=hl.len;have hlm:xs.length<=1073741824:=by omega
  have hEE:=hE;unfold Enters at hEE;go_enter Tryz.func137,Tryz.ntmps137;go_upto_region 3 with(go_big_may;first
    |(refine zfj kysP rfl rfl rfl rfl rfl hlm ?_;intro w1 hr1 hb1)
    |fail)
  have hc1:CpK Elt.bytes 23 w (.slice (some ⟨w.heap.size,0,none⟩) 0 xs.length) (xs.take 0) w1:=⟨[],⟨hr1,λk hk=>by simp[Value.ownBlock]at hk;omega,hb1⟩,rfl⟩;clear hr1;go_loopw[5,13] (λvv iv wr=>∃k:Nat,k<=xs.length/\iv=.int .i64 k/\CpK Elt.bytes 23 w vv (xs.take k) wr)(λ_ i _=>xs.length-(intOf i).toNat);case atStart=>exact⟨0,zH _,rfl,hc1⟩
  case round=>
    clear hc1 hb1;obtain⟨k,hk,rfl,hC⟩:=hrel;have hkl:(xs.take k).length=k:=by rw[zp];omega
    obtain⟨vs,h1,h2⟩:=hC.row hkl;have hbw:=h1.2.2;obtain⟨ad,cp,rfl,hcp⟩:=hC.shape hkl;rcases zA k xs.length with hlt|hge
    · obtain⟨b,off,A,C,rfl,hc,hr⟩:=(hl.below hbw).byt k hlt
      have H:=Lib.hid hkl;clear hkl hC;go_wp2_with fail;refine(hF wr k hlt A C hbw hr).mono ?_;rintro e w2 ⟨A',C',rfl,hr2,hb2⟩;have h3:=(h1.below hb2).1;go_wp2_with(go_big_may;first
        |(refine zct kysP rfl rfl rfl (us:=[.slice A' xs[k].length C']) rfl rfl (by omega) (by omega) ?_;intro w3 hg3 hb3)
        |(refine zea kysP (by omega) rfl rfl (v:=.slice ad k cp) rfl (h3.below hb3) rfl (m:=1) (cs:=[.slice A' xs[k].length C']) rfl (zbp hg3) (λu hu=>by rw[yL.1 hu];rfl) (by omega) ?_;intro ad' cap' w4 hR)
        |fail)
      go_roundw;case rel=>
        refine⟨k+1,by omega,by go_num,?_⟩;rw[yT,zB hlt,xo];refine CpK.next H.out h1 h2 (hb2.trans (hb3.mono hb2.size)) ⟨_,rfl,?_⟩ hR;exact(hr2.below hb3).weak λk hk=>⟨hk.1,zm hk.2 hb3.size⟩
      case measure=>simp[intOf];omega
    · obtain rfl:k=xs.length:=by omega
      rw[yv]at hC;go_wp2_with fail;go_ret;exact⟨_,rfl,hC⟩
theorem each_c (w:World){S:Nat->Prop}{a:Option Addr}{n c:Nat}{xs:List (List Ver)}(hl:RdL (Elt.list Elt.ver) S w (.slice a n c) xs)(hn:n<=1000000)(F:FuncId)(hE:Enters Tryz.prog F)(hF:∀(W:World)(r:Nat)(hr:r<xs.length)(A:Option Addr)(C:Nat),Below w.heap.size w W->RdL Elt.ver S W (.slice A xs[r].length C) xs[r]->Calls Tryz.prog F #[.slice A xs[r].length C] W (λe W'=>∃A' C',e=.returned (.slice A' xs[r].length C')/\RdL Elt.ver (λk=>W.heap.size<=k/\k<W'.heap.size) W' (.slice A' xs[r].length C') xs[r]/\Below W.heap.size W W')):
    Calls Tryz.prog 138 #[.slice a n c,.func (.func F) #[] #[]] w λe W=>∃v,e=.returned v/\CpK (Elt.list Elt.ver) 102 w v xs W:=by
  obtain⟨rfl,hnc,hcm⟩:=hl.len;have hlm:xs.length<=1073741824:=by omega
  have hEE:=hE;unfold Enters at hEE;go_enter Tryz.func138,Tryz.ntmps138;go_upto_region 3 with(go_big_may;first
    |(refine zfj chsP rfl rfl rfl rfl rfl hlm ?_;intro w1 hr1 hb1)
    |fail)
  have hc1:CpK (Elt.list Elt.ver) 102 w (.slice (some ⟨w.heap.size,0,none⟩) 0 xs.length) (xs.take 0) w1:=⟨[],⟨hr1,λk hk=>by simp[Value.ownBlock]at hk;omega,hb1⟩,rfl⟩;clear hr1;go_loopw [5,13] (λvv iv wr=>∃k:Nat,k<=xs.length/\iv=.int .i64 k/\CpK (Elt.list Elt.ver) 102 w vv (xs.take k) wr)(λ_ i _=>xs.length-(intOf i).toNat);case atStart=>exact⟨0,zH _,rfl,hc1⟩
  case round=>
    clear hc1 hb1;obtain⟨k,hk,rfl,hC⟩:=hrel;have hkl:(xs.take k).length=k:=by rw[zp];omega
    obtain⟨vs,h1,h2⟩:=hC.row hkl;have hbw:=h1.2.2;obtain⟨ad,cp,rfl,hcp⟩:=hC.shape hkl;rcases zA k xs.length with hlt|hge
    · obtain⟨b,off,A,C,rfl,hc,hr⟩:=(hl.below hbw).lst k hlt
      have H:=Lib.hid hkl;clear hkl hC;go_wp2_with fail;refine(hF wr k hlt A C hbw hr).mono ?_;rintro e w2⟨A',C',rfl,hr2,hb2⟩;have h3:=(h1.below hb2).1;go_wp2_with(go_big_may;first
        |(refine zct chsP rfl rfl rfl (us:=[.slice A' xs[k].length C']) rfl rfl (by omega) (by omega) ?_;intro w3 hg3 hb3)
        |(refine zea chsP (by omega) rfl rfl (v:=.slice ad k cp) rfl (h3.below hb3) rfl (m:=1) (cs:=[.slice A' xs[k].length C']) rfl (zbp hg3) (λu hu=>by rw[yL.1 hu];rfl) (by omega) ?_;intro ad' cap' w4 hR)
        |fail)
      go_roundw;case rel=>
        refine⟨k+1,by omega,by go_num,?_⟩;rw[yT,zB hlt,xo];refine CpK.next H.out h1 h2 (hb2.trans (hb3.mono hb2.size)) ⟨_,rfl,?_⟩ hR;exact(hr2.below hb3).weak λk hk=>⟨hk.1,zm hk.2 hb3.size⟩
      case measure=>simp[intOf];omega
    · obtain rfl:k=xs.length:=by omega
      rw[yv]at hC;go_wp2_with fail;go_ret;exact⟨_,rfl,hC⟩
section
variable {D D' : Nat → Prop} {w : World}
mutual
theorem zgu(hD:∀k,D k->D' k):∀(n:Nd){vs:List Value}{F:List Nat},OwnN D w n vs F->OwnN D' w n vs F
 |.mk ks cs ns,vs,F,h=>by
  rw[OwnN]at h⊢;obtain⟨v1,v2,v3,us1,us2,us3,F3,e1,e2,h1,h2,h3,h4,h5,h6⟩:=h;exact⟨v1,v2,v3,us1,us2,us3,F3,e1,e2,h1,h2.weak hD,h3,h4.weak hD,h5,zet hD ns h6⟩
theorem zet(hD:∀k,D k->D' k):∀(ns:List Nd){vs:List Value}{F:List Nat},zbf D w ns vs F->zbf D' w ns vs F
 |[],vs,F,h=>by rw[zbf]at h⊢;exact h
 |n::ns,vs,F,h=>by
  rw[zbf]at h⊢;obtain⟨us,ws,F1,F2,e1,e2,h1,h2⟩:=h;exact⟨us,ws,F1,F2,e1,e2,zgu hD n h1,zet hD ns h2⟩
end
end
def zvp (w:World)(n:Nd)(v:Value)(W:World):Prop:=
 ∃F,NdAt (λk=>w.heap.size<=k/\k<W.heap.size/\k∉F) W v n F/\(∀k∈F,w.heap.size<=k)/\Below w.heap.size w W
def CpN (w:World)(v:Value)(xs:List Nd)(W:World):Prop:=
 ∃us F,za9 46 3 w v xs.length us W/\zbf (λk=>w.heap.size<=k/\k<W.heap.size/\k∉F/\v.ownBlock≠some k) W xs us F/\F.Nodup/\∀k∈F,w.heap.size<=k/\v.ownBlock≠some k
theorem CpN.shape{w:World}{v:Value}{xs:List Nd}{W:World}(h:CpN w v xs W){m:Nat}(hm:xs.length=m):∃ad cp,v=.slice ad m cp/\m<=cp:=by
 obtain⟨us,F,h1,_⟩:=h;obtain⟨ad,cp,h2,h3,_⟩:=h1.1.shape;exact⟨ad,cp,hm▸h2,hm▸h3⟩
theorem CpN.next{w:World}{v v' xv:Value}{xs:List Nd}{x:Nd}{us vs:List Value}{F:List Nat}{W W1 W2 W3:World}{m:Nat}(hm:xs.length=m) (h1:za9 46 3 w v m vs W) (h2:zbf (λk=>w.heap.size<=k/\k<W.heap.size/\k∉F/\v.ownBlock≠some k) W xs vs F)(hF:F.Nodup) (hF2:∀k∈F,w.heap.size<=k/\v.ownBlock≠some k) (hx:zvp W x xv W1) (hxu:xv=.agg us.toArray) (hb:Below W1.heap.size W1 W2) (h4:zci 46 3 W2 v (m+1) (vs++us) v' W3):CpN w v' (xs++[x]) W3:=by
  subst hm;obtain⟨G,hG1,hG2,hb1⟩:=hx;obtain⟨us',e,hG3⟩:=hG1.ex;rw[hxu]at e;obtain rfl:us'=us:=by injection e with e;simpa using congrArg Array.toList e.symm
  have hb2:Below W.heap.size W W2:=hb1.trans (hb.mono hb1.size);have h3:=h1.below hb2;have s1:=hb1.size;have s2:=hb.size;have s3:=h4.2.1.size;have s0:=h1.2.2.size;have hFW:=zhe xs h2;have hGW:=zpy x hG3;have hvW:∀k,W.heap.size<=k->v.ownBlock≠some k:=λk hk e=>by
    have:=h1.1.lt e;omega
  have hk3:∀k,k<W2.heap.size->v.ownBlock≠some k->W3.heap[k]?=W2.heap[k]?:=λk hk hn=>h4.2.1.block k hk (λe=>hn e.symm)
  have hnew:∀k,k<W2.heap.size->v.ownBlock≠some k->v'.ownBlock≠some k:=λk hk hn e=>by
    rcases h4.2.2 with h5|⟨q,h5,h6⟩
    ·exact hn (by rw[<-h5];exact e)
    · rw[h5]at e;injection e with e;omega
  refine⟨vs++us',F++G,by simpa using h3.to h4,zb7 ?_ (zf3.2 ?_),?_,?_⟩
  · refine zet (D:=λk=>w.heap.size<=k/\k<W.heap.size/\k∉F/\v.ownBlock≠some k) (λk hk=>⟨hk.1,by omega,λhm=>?_,hnew k (by omega) hk.2.2.2⟩) xs (zbh (w:=W) xs h2 (λk hk=>?_) λk hk=>?_)
    ·exact(hk3 k (by have:=hFW k hk;omega) (hF2 k hk).2).trans (hb2.block k (hFW k hk))
    ·exact(hk3 k (by omega) hk.2.2.2).trans (hb2.block k hk.2.1)
    · rcases zV.1 hm with h|h
      ·exact hk.2.2.1 h
      · have:=hG2 k h;omega
  · refine zgu (D:=λk=>W.heap.size<=k/\k<W1.heap.size/\k∉G) (λk hk=>⟨by omega,by omega,λhm=>?_,hnew k (by omega) (hvW k hk.1)⟩) x (zh7 (w:=W1) x hG3 (λk hk=>?_) λk hk=>?_)
    ·exact(hk3 k (by have:=hGW k hk;omega) (hvW k (hG2 k hk))).trans (hb.block k (hGW k hk))
    ·exact(hk3 k (by omega) (hvW k hk.1)).trans (hb.block k hk.2.1)
    · rcases zV.1 hm with h|h
      · have:=hFW k h;omega
      ·exact hk.2.2 h
  · rw[List.nodup_append]
    exact⟨hF,hG1.nodup,λa ha b hb e=>by have:=hFW a ha;have:=hG2 b hb;omega⟩
  · intro k hk
    rcases zV.1 hk with h|h
    · have:=hFW k h
      exact⟨(hF2 k h).1,hnew k (by omega) (hF2 k h).2⟩
    · have h5:=hG2 k h
      have:=hGW k h;exact⟨by omega,hnew k (by omega) (hvW k h5)⟩
section
variable {ops : Array Oper} {rest : List Oper} {o : Oper} {a : Act} {Q : Exit → Act → World → Prop} {w : World} {K : Act → World → Prop}
theorem zdz(ho:o.op=.alloc 46)(hgd:Region.wanted o (yielded ops a.tmps)=true)(h:∀w',Below w.heap.size w w'->TriV w' w.heap.size 46 (.slice none 0 0) (.slice none 0 0) (.slice none 0 0)->wpList Tryz.prog ops Q rest (a.put o.dst (.pointer (some ⟨w.heap.size,0,none⟩))) w'):wpList Tryz.prog ops Q (o::rest) a w:=
 zQ hgd λ_ hK=>zfi ho λw' h1 h2=>hK _ _ (h w' h1 h2)
theorem zcm{x y:Operand}{b:Nat}{u v r p q s:Value}(ho:o.op=.store 46 x y) (hx:a.eval x=.pointer (some ⟨b,0,none⟩)) (hy:a.eval y=.agg #[u,v,r]) (hu1:u.oneCell'=true)(hv1:v.oneCell'=true)(hr1:r.oneCell'=true)(t0:TriV w b 46 p q s)(h:∀w',w.grownBy w' (some b)->TriV w' b 46 u v r->K (a.put o.dst undef) w'):o.wp Tryz.prog a w K Q:=by
 have hs:(Tryz.prog.info? 46).map (·.size)=some 3:=ndS.hs;have g0:∀(W:World)(j:Nat)(e:Value)(p q s:Value),TriV W b 46 p q s->W.frozen? ⟨b,j,none⟩=false:=λW j e p q s h=>by simp[World.frozen?,show W.heap[b]?=_ from h]
 have t1:TriV (w.setCell ⟨b,0,none⟩ u) b 46 u q s:=by
  unfold TriV at t0⊢;simp only[World.setCell,yU,t0];simp
 have t2:TriV ((w.setCell ⟨b,0,none⟩ u).setCell ⟨b,1,none⟩ v) b 46 u v s:=by
  unfold TriV at t1⊢;rw[World.setCell];simp only[yU,t1];simp
 have t3:TriV (((w.setCell ⟨b,0,none⟩ u).setCell ⟨b,1,none⟩ v).setCell ⟨b,2,none⟩ r) b 46 u v r:=by
  unfold TriV at t2⊢;rw[World.setCell];simp only[yU,t2];simp
 have hg:w.grownBy (((w.setCell ⟨b,0,none⟩ u).setCell ⟨b,1,none⟩ v).setCell ⟨b,2,none⟩ r) (some b):=⟨rfl,rfl,rfl,by simp[World.setCell],λk _ hk=>by
  have hkb:k≠b:=λe=>hk (by rw[e])
  exact(xm _ ⟨b,2,none⟩ k r hkb).trans ((xm _ ⟨b,1,none⟩ k v hkb).trans (xm _ ⟨b,0,none⟩ k u hkb))⟩
 refine zfg ?_ (h _ hg t3);simp only[execOp,ho,hx,hy];simp[Instr.storeAt,storeVar,zd6 hs,storeCells,Value.cells,xn _ _ _ _ _ hu1,xn _ _ _ _ _ hv1,xn _ _ _ _ _ hr1,t0.cell0,t1.cell1,t2.cell2,g0 _ _ u _ _ _ t0,g0 _ _ u _ _ _ t1,g0 _ _ u _ _ _ t2,Addr.add,go_sem]
theorem zaq{x y:Operand}{b:Nat}{u v r p q s:Value}(ho:o.op=.store 46 x y)(hd:o.dst=none)(hgd:Region.wanted o (yielded ops a.tmps)=true)(hx:a.eval x=.pointer (some ⟨b,0,none⟩))(hy:a.eval y=.agg #[u,v,r])(hu1:u.oneCell'=true)(hv1:v.oneCell'=true)(hr1:r.oneCell'=true)(t0:TriV w b 46 p q s)(h:∀w',w.grownBy w' (some b)->TriV w' b 46 u v r->wpList Tryz.prog ops Q rest a w'):wpList Tryz.prog ops Q (o::rest) a w:=
 zQ hgd λ_ hK=>zcm ho hx hy hu1 hv1 hr1 t0 λw' h1 h2=>hK _ _ (by rw[hd];exact h w' h1 h2)
end
theorem each_n (w:World){S:Nat->Prop}{a:Option Addr}{n c:Nat}{xs:List Nd}(hl:RdL Elt.nd S w (.slice a n c) xs) (hn:n<=1000000) (F:FuncId) (hE:Enters Tryz.prog F)(hF:∀(W:World) (r:Nat) (hr:r<xs.length) (v:Value),Below w.heap.size w W->RdN S W v xs[r]->Calls Tryz.prog F #[v] W (λe W'=>∃v',e=.returned v'/\zvp W xs[r] v' W')):
    Calls Tryz.prog 139 #[.slice a n c,.func (.func F) #[] #[]] w λe W=>∃v,e=.returned v/\CpN w v xs W:=by
  obtain⟨rfl,hnc,hcm⟩:=hl.len;have hlm:xs.length<=1073741824:=by omega
  have hEE:=hE;unfold Enters at hEE;go_enter Tryz.func139,Tryz.ntmps139;go_upto_region 3 with(go_big_may;first
    |(refine zfj ndP rfl rfl rfl rfl rfl hlm ?_;intro w1 hr1 hb1)
    |fail)
  have hc1:CpN w (.slice (some ⟨w.heap.size,0,none⟩) 0 xs.length) (xs.take 0) w1:=⟨[],[],⟨hr1,λk hk=>by simp[Value.ownBlock]at hk;omega,hb1⟩,owns_nil,List.nodup_nil,λ_ h=>by cases h⟩;clear hr1;go_loopw [5,13] (λvv iv wr=>∃k:Nat,k<=xs.length/\iv=.int .i64 k/\CpN w vv (xs.take k) wr) (λ_ i _=>xs.length-(intOf i).toNat);case atStart=>exact⟨0,zH _,rfl,hc1⟩
  case round=>
    clear hc1 hb1;obtain⟨k,hk,rfl,hC⟩:=hrel;have hkl:(xs.take k).length=k:=by rw[zp];omega
    obtain⟨ad,cp,rfl,hcp⟩:=hC.shape hkl;obtain⟨vs,F1,h1,h2,h3,h4⟩:=hC;rw[hkl]at h1;have hbw:=h1.2.2;rcases zA k xs.length with hlt|hge
    · obtain⟨b,off,a1,c1,a2,c2,a3,c3,rfl,hc0,hc1,hc2,hr⟩:=(hl.below hbw).kid k hlt
      have H:=Lib.hid hkl;clear hkl;go_wp2_with(go_big_may;first
        |(refine zdz rfl rfl ?_;intro w2 hb2 ht2)
        |(refine zaq rfl rfl rfl rfl rfl rfl rfl rfl ht2 ?_;intro w3 hg3 ht3;have ht30:=ht3.cell0;have ht31:=ht3.cell1;have ht32:=ht3.cell2)
        |fail)
      have hb3:Below wr.heap.size wr w3:=hb2.grown hg3 hb2.size λk hk=>by injection hk with hk;omega
      have q3:=hbw.trans (hb3.mono hbw.size);refine(hF w3 k hlt _ q3 (hr.below hb3)).mono ?_;rintro e w4 ⟨v4,rfl,hN⟩;obtain⟨G,hG1,hG2,hb4⟩:=hN;obtain⟨us4,rfl,hG3⟩:=hG1.ex;have hN:zvp w3 xs[k] (.agg us4.toArray) w4:=⟨G,hG1,hG2,hb4⟩;have h1':=h1.below hb3;have h5:=(h1'.below hb4).1;have hul:=zoi hG3;have huo:=(zk6 (wN xs[k]) (zf _) hG3 (S:=λ_=>True) (λ_ _=>trivial) (λ_ _=>trivial));have huo:=Elt.nd.one huo;have huc:(Value.agg us4.toArray).cells=us4.toArray:=rfl;clear ht30 ht31 ht32;go_wp2_with(go_big_may;first
        |(refine zct ndP rfl rfl rfl (us:=us4) huc hul (by omega) (by omega) ?_;intro w5 hg5 hb5)
        |(refine zea ndP (by omega) rfl rfl (v:=.slice ad k cp) rfl (h5.below hb5) rfl (m:=1) (cs:=us4) (by rw[hul]) (zbp hg5) huo (by omega) ?_;intro ad' cap' w6 hR)
        |fail)
      go_roundw;case rel=>
        refine⟨k+1,by omega,by go_num,?_⟩;rw[yT,zB hlt,xo];refine CpN.next H.out h1' ?_ h3 h4 hN rfl hb5 hR;exact zet (λk hk=>⟨hk.1,zm hk.2.1 hb3.size,hk.2.2⟩) _ (zbh _ h2 (λk hk=>hb3.block k (zhe _ h2 k hk)) λk hk=>hb3.block k hk.2.1)
      case measure=>simp[intOf];omega
    · obtain rfl:k=xs.length:=by omega
      rw[yv]at h2;go_wp2_with fail;go_ret;exact⟨_,rfl,vs,F1,h1,h2,h3,h4⟩
def NodeR(Q:Nd->Nat->Prop)(S:Nat->Prop)(w:World)(v e:Value):Prop:=∃n er,e=.int .i64 (er:Nat)/\Q n er/\RdN S w v n
def NodeB(w:World)(b:Nat)(v:Value):Prop:=∃x y z,v=.agg #[x,y,z]/\TriV w b 46 x y z
theorem nodeR (Q:Nd->Nat->Prop):RdP (NodeR Q) where
 keep:=λ⟨n,er,e,hq,h⟩hk=>⟨n,er,e,hq,h.keep hk⟩
 weak:=λ⟨n,er,e,hq,h⟩hk=>⟨n,er,e,hq,h.weak hk⟩
def KeyW (k:List UInt8)(S:Nat->Prop)(w:World)(u:Value):Prop:=∃a c,u=.slice a k.length c/\RdS S w (.slice a k.length c) k
def VerW (l:List Ver)(S:Nat->Prop)(w:World)(u:Value):Prop:=∃a c,u=.slice a l.length c/\RdL Elt.ver S w (.slice a l.length c) l
theorem zgo (Q:Nd->Nat->Prop)(k:List UInt8)(l:List Ver):zo3 (NodeR Q) NodeB (KeyW k) (VerW l) where
 toRdP:=nodeR Q;bx:=λ⟨x,y,z,e,h⟩ hb=>⟨x,y,z,e,h.below hb h.lt⟩
 s1:=λ⟨a,c,e,h⟩hb=>⟨a,c,e,h.keep hb⟩
 w1:=λ⟨a,c,e,h⟩hb=>⟨a,c,e,h.weak hb⟩
 s2:=λ⟨a,c,e,h⟩hb=>⟨a,c,e,h.keep hb⟩
 w2:=λ⟨a,c,e,h⟩hb=>⟨a,c,e,h.weak hb⟩
theorem CbS.err{hk:Bool}{C0:Array Value}{E0:TypeId}{Q:Nd->Nat->Prop}{Z:Obj}{Bx:World->Nat->Value->Prop}{K1 K2:(Nat->Prop)->World->Value->Prop}{W w:World}{o0 o1 o2 c m x z s:Option Value}{u:Value}{e0:Nat}(h:CbS hk C0 E0 (NodeR Q) Z Bx K1 K2 W o0 o1 o2 c m x (some u) z s w)(hq:∀n er,Q n er->er=e0):u=.int .i64 (e0:Nat):=by
 obtain⟨v,e1⟩:=h.my u rfl;obtain⟨v',e',e2,n,er,e3,hQ,_⟩:=h.rr _ (h.mv _ e1);injection e2 with e2;injection e2 with e2;injection e2 with _ e2;injection e2 with e2 _;rw[e2,e3,hq n er hQ]
theorem zdk (w:World) (t:TypeId) (u v r u' v' r':Value):∃W,W=(w.alloc (.cells #[u,v,r] t)).alloc (.cells #[u',v',r'] t)/\Below w.heap.size w W/\TriV W w.heap.size t u v r/\TriV W (w.heap.size+1) t u' v' r'/\W.heap.size=w.heap.size+1+1:=by
 have h1:Below w.heap.size w (w.alloc (.cells #[u,v,r] t)):=(ze _ _).alloc (zf _) _;have s1:(w.alloc (.cells #[u,v,r] t)).heap.size=w.heap.size+1:=yG _ _;have b1:=TriV.new w t u v r;generalize w.alloc (.cells #[u,v,r] t)=w1 at*;have h2:Below w1.heap.size w1 (w1.alloc (.cells #[u',v',r'] t)):=(ze _ _).alloc (zf _) _;have s2:(w1.alloc (.cells #[u',v',r'] t)).heap.size=w1.heap.size+1:=yG _ _;have b2:=TriV.new w1 t u' v' r';rw[s1]at b2 s2;exact⟨_,rfl,h1.trans (h2.mono h1.size),b1.below h2 b1.lt,b2,s2⟩
theorem CpK.below{α:Type}{E:Elt α}{Te:TypeId}{w:World}{v:Value}{xs:List α}{W W':World}(h:CpK E Te w v xs W)(hb:Below W.heap.size W W'):CpK E Te w v xs W':=by
 obtain⟨us,h1,h2⟩:=h;exact⟨us,h1.below hb,(h2.keep λk hk=>hb.block k hk.2.1).weak λk hk=>⟨hk.1,zm hk.2.1 hb.size,hk.2.2⟩⟩
theorem CpN.below{w:World}{v:Value}{xs:List Nd}{W W':World}(h:CpN w v xs W)(hb:Below W.heap.size W W'):CpN w v xs W':=by
 obtain⟨us,F,h1,h2,h3,h4⟩:=h;refine⟨us,F,h1.below hb,?_,h3,h4⟩;exact zet (λk hk=>⟨hk.1,zm hk.2.1 hb.size,hk.2.2⟩) _ (zbh _ h2 (λk hk=>hb.block k (zhe _ h2 k hk)) λk hk=>hb.block k hk.2.1)
def zdi(lo:Nat)(W:World)(n:Nd)(v:Value):Prop:=∃F,NdAt (λk=>lo<=k/\k<W.heap.size/\k∉F) W v n F/\∀k∈F,lo<=k
theorem zdi.keep{lo:Nat}{W W':World}{n:Nd}{v:Value}(h:zdi lo W n v)(hs:W.heap.size<=W'.heap.size)(hk:∀k,lo<=k->k<W.heap.size->W'.heap[k]?=W.heap[k]?):zdi lo W' n v:=by
 obtain⟨F,h1,h2⟩:=h;obtain⟨vs,e,h3⟩:=h1.ex;have hF:=zpy n h3;refine⟨F,⟨⟨vs,e,zgu (λk hk=>⟨hk.1,zm hk.2.1 hs,hk.2.2⟩) n (zh7 n h3 (λk hm=>hk k (h2 k hm) (hF k hm)) λk hd=>hk k hd.1 hd.2.1)⟩,h1.nodup,λk hm hd=>hd.2.2 hm,λk hd=>hd.2.1⟩,h2⟩
theorem zdi.of{w1 Wa Wb W:World}{n:Nd}{a b c:Value}(ha:CpK Elt.bytes 23 w1 a n.keys Wa) (hb:CpK (Elt.list Elt.ver) 102 Wa b n.chains Wb)(hc:CpN Wb c n.kids W):zdi w1.heap.size W n (.agg #[a,b,c]):=by
  obtain⟨ua,ha1,ha2⟩:=ha;obtain⟨ub,hb1,hb2⟩:=hb;obtain⟨uc,F,hc1,hc2,hc3,hc4⟩:=hc;have sa:=ha1.2.2.size;have sb:=hb1.2.2.size;have sc:=hc1.2.2.size;have qa:∀k,k<Wa.heap.size->W.heap[k]?=Wa.heap[k]?:=λk hk=>(hc1.2.2.block k (by omega)).trans (hb1.2.2.block k hk)
  have qb:∀k,k<Wb.heap.size->W.heap[k]?=Wb.heap[k]?:=λk hk=>hc1.2.2.block k hk
  have hF:=zhe _ hc2;have la:∀k,a.ownBlock=some k->w1.heap.size<=k/\k<Wa.heap.size:=λk hk=>⟨ha1.2.1 k hk,ha1.1.lt hk⟩
  have lb:∀k,b.ownBlock=some k->Wa.heap.size<=k/\k<Wb.heap.size:=λk hk=>⟨hb1.2.1 k hk,hb1.1.lt hk⟩
  have lc:∀k,c.ownBlock=some k->Wb.heap.size<=k/\k<W.heap.size:=λk hk=>⟨hc1.2.1 k hk,hc1.1.lt hk⟩
  have lF:∀k∈F,Wb.heap.size<=k/\k<W.heap.size:=λk hk=>⟨(hc4 k hk).1,hF k hk⟩
  have hm:∀k,k∈zak a++zak b++zak c++F↔(a.ownBlock=some k\/b.ownBlock=some k\/c.ownBlock=some k\/k∈F):=λk=>by
    simp only[zV,zch];constructor
    · rintro(((h|h)|h)|h)
      ·exact .inl h
      ·exact .inr (.inl h)
      ·exact .inr (.inr (.inl h))
      ·exact .inr (.inr (.inr h))
    · rintro(h|h|h|h)
      ·exact .inl (.inl (.inl h))
      ·exact .inl (.inl (.inr h))
      ·exact .inl (.inr h)
      ·exact .inr h
  refine⟨zak a++zak b++zak c++F,⟨⟨[a,b,c],rfl,?_⟩,?_,λk hk hd=>hd.2.2 hk,λk hd=>hd.2.1⟩,λk hk=>?_⟩
  · rw[zfb]
    refine⟨a,b,c,ua,ub,uc,F,rfl,rfl,ha1.1.kept λk hk=>qa k (la k hk).2,(ha2.keep λk hk=>qa k hk.2.1).weak λk hk=>⟨hk.1,by omega,?_⟩,hb1.1.kept λk hk=>qb k (lb k hk).2,(hb2.keep λk hk=>qb k hk.2.1).weak λk hk=>⟨by omega,by omega,?_⟩,hc1.1,zet (λk hk=>⟨by omega,hk.2.1,?_⟩) _ hc2⟩
    · rw[hm]
      rintro(h|h|h|h);·exact hk.2.2 h
      · have:=lb k h;omega
      · have:=lc k h;omega
      · have:=lF k h;omega
    · rw[hm]
      rintro(h|h|h|h);·have:=la k h;omega
      ·exact hk.2.2 h
      ·have:=lc k h;omega
      ·have:=lF k h;omega
    · rw[hm]
      rintro(h|h|h|h);·have:=la k h;omega
      ·have:=lb k h;omega
      ·exact hk.2.2.2 h
      ·exact hk.2.2.1 h
  · simp only[List.nodup_append,zjk,hc3,zV,zch,true_and]
    refine⟨⟨λx hx y hy e=>?_,λx hx y hy e=>?_⟩,λx hx y hy e=>?_⟩;·have:=la x hx;have:=lb y hy;omega
    · have:=lc y hy
      rcases hx with hx|hx
      ·have:=la x hx;omega
      ·have:=lb x hx;omega
    · subst e
      rcases hx with(hx|hx)|hx
      ·have:=la x hx;have:=lF x hy;omega
      ·have:=lb x hx;have:=lF x hy;omega
      ·exact(hc4 x hy).2 hx
  · rw[hm]at hk
    rcases hk with h|h|h|h
    ·exact(la k h).1
    ·have:=lb k h;omega
    ·have:=lc k h;omega
    ·have:=lF k h;omega
def zic (N:Nat):Prop:=∀(n:Nd)(w:World){S:Nat->Prop}{v:Value},wN n<=N->wN n<=100000->bndN n->RdN S w v n->Calls Tryz.prog 110 #[v] w λe W=>∃v',e=.returned v'/\zvp w n v' W
def CopJ(w1:World)(n:Nd)(bx:Nat):List Value->World->Prop
 |[],W=>Below w1.heap.size w1 W
 |[a],W=>CpK Elt.bytes 23 w1 a n.keys W
 |[a,b],W=>∃Wa,CpK Elt.bytes 23 w1 a n.keys Wa/\CpK (Elt.list Elt.ver) 102 Wa b n.chains W
 |[a,b,c],W=>∃Wa Wb,CpK Elt.bytes 23 w1 a n.keys Wa/\CpK (Elt.list Elt.ver) 102 Wa b n.chains Wb/\CpN Wb c n.kids W
 |_,W=>∃x y z,TriV W bx 46 x y z/\zdi w1.heap.size W n (.agg #[x,y,z])/\Trd (·=bx) w1 W
theorem CpK.from{α:Type}{E:Elt α}{Te:TypeId}{w0 w:World}{v:Value}{xs:List α}{W:World}(h:CpK E Te w v xs W)(hb:Below w0.heap.size w0 w):CpK E Te w0 v xs W:=by
 obtain⟨us,h1,h2⟩:=h;exact⟨us,⟨h1.1,λk hk=>zv hb.size (h1.2.1 k hk),hb.trans (h1.2.2.mono hb.size)⟩,h2.weak λk hk=>⟨zv hb.size hk.1,hk.2⟩⟩
theorem zdi.tri{lo:Nat}{W:World}{n:Nd}{v:Value}(h:zdi lo W n v):∃x y z,v=.agg #[x,y,z]/\(x.oneCell'=true/\y.oneCell'=true/\z.oneCell'=true)/\x.cells=#[x]/\y.cells=#[y]/\z.cells=#[z]:=by
 obtain⟨F,h1,_⟩:=h;obtain⟨vs,rfl,h2⟩:=h1.ex;rw[zfb]at h2;obtain⟨x,y,z,_,_,_,_,rfl,_,h3,_,h4,_,h5,_⟩:=h2;obtain⟨_,_,rfl,_⟩:=h3.shape;obtain⟨_,_,rfl,_⟩:=h4.shape;obtain⟨_,_,rfl,_⟩:=h5.shape;exact⟨_,_,_,rfl,⟨rfl,rfl,rfl⟩,rfl,rfl,rfl⟩
theorem zdi.nd{w W:World}{lo:Nat}{n:Nd}{v:Value}(h:zdi lo W n v) (hlo:w.heap.size<=lo) (hb:Below w.heap.size w W):zvp w n v W:=by
 obtain⟨F,h1,h2⟩:=h;obtain⟨vs,e,h3⟩:=h1.ex;exact⟨F,⟨⟨vs,e,zgu (λk hk=>⟨by omega,hk.2⟩) n h3⟩,h1.nodup,λk hm hd=>hd.2.2 hm,λk hd=>hd.2.1⟩,λk hk=>zv hlo (h2 k hk),hb⟩
theorem CpK.base{α:Type}{E:Elt α}{Te:TypeId}{w:World}{v:Value}{xs:List α}{W:World}(h:CpK E Te w v xs W):Below w.heap.size w W:=by
 obtain⟨us,h1,_⟩:=h;exact h1.2.2
theorem CpN.base{w:World}{v:Value}{xs:List Nd}{W:World}(h:CpN w v xs W):Below w.heap.size w W:=by
 obtain⟨us,F,h1,_⟩:=h;exact h1.2.2
theorem CopJ.trd{w1:World}{n:Nd}{bx:Nat}:∀{l:List Value}{W:World},CopJ w1 n bx l W->Trd (·=bx) w1 W
 |[],_,h=>Trd.of h
 |[_],_,h=>Trd.of (CpK.base h)
 |[_,_],_,⟨_,h1,h2⟩=>Trd.of (h1.base.trans (h2.base.mono h1.base.size))
 |[_,_,_],_,⟨_,_,h1,h2,h3⟩=>Trd.of ((h1.base.trans (h2.base.mono h1.base.size)).trans (h3.base.mono (h1.base.trans (h2.base.mono h1.base.size)).size))
 |_::_::_::_::_,_,⟨_,_,_,_,_,h⟩=>h
theorem CopJ.below{w1:World}{n:Nd}{bx:Nat}:∀(l:List Value)(W W':World),CopJ w1 n bx l W->Below W.heap.size W W'->CopJ w1 n bx l W'
 |[],_,_,h,hb=>y8 h (hb.mono (y9 h))
 |[_],_,_,h,hb=>CpK.below h hb
 |[_,_],_,_,⟨Wa,h1,h2⟩,hb=>⟨Wa,h1,h2.below hb⟩
 |[_,_,_],_,_,⟨Wa,Wb,h1,h2,h3⟩,hb=>⟨Wa,Wb,h1,h2,h3.below hb⟩
 |_::_::_::_::_,_,_,⟨x,y,z,h1,h2,h3⟩,hb=>⟨x,y,z,h1.below hb h1.lt,h2.keep hb.size λk _ hk=>hb.block k hk,h3.trans (Trd.of (F:=(·=bx)) hb) λ_ _ h=>h⟩
def cNew(w1:World)(n:Nd)(bx:Nat)(hbx:bx<w1.heap.size):SGn (λA B=>Trd (·=bx) A B):=
 ⟨λW v=>zdi w1.heap.size W n v,λ_ _ _ h hb=>h.keep hb.size λk _ hk=>hb.block k hk,λ_ _ _ h hk=>h.keep hk.size λk hl hlt=>hk.block k hlt (by omega)⟩
theorem zoz (N:Nat) (ih:zic N):zic (N+1):=by
  intro n w S v hN hbig hbd hr;unfold zic at ih;have hwp:=zh5 n;obtain⟨hbk,hbc,hbn⟩:=(zf7 n).1 hbd;obtain⟨a1,c1,a2,c2,a3,c3,rfl,r1,r2,r3⟩:=hr;obtain⟨W,hW,q,bn,bz,hsz⟩:=zdk w 46 (.slice a1 n.keys.length c1) (.slice a2 n.chains.length c2) (.slice a3 n.kids.length c3) (.slice none 0 0) (.slice none 0 0) (.slice none 0 0);have ekk:∀args w,(callFunc 137 args).run Tryz.prog w=.ok (.enter 137 args) w:=enters_of Tryz.func137 (by kernel_rfl) rfl;have ekc:∀args w,(callFunc 138 args).run Tryz.prog w=.ok (.enter 138 args) w:=enters_of Tryz.func138 (by kernel_rfl) rfl;have ekn:∀args w,(callFunc 139 args).run Tryz.prog w=.ok (.enter 139 args) w:=enters_of Tryz.func139 (by kernel_rfl) rfl;have ef1:Enters Tryz.prog 60:=enters_of Tryz.func60 (by kernel_rfl) rfl;have ef2:Enters Tryz.prog 114:=enters_of Tryz.func114 (by kernel_rfl) rfl;have ef3:Enters Tryz.prog 110:=enters_of Tryz.func110 (by kernel_rfl) rfl;go_enter Tryz.func110,Tryz.ntmps110;go_upto_region 1 with(fail);rw[<-hW];clear hW;have hbx:w.heap.size+1<W.heap.size:=by omega
  have r1':=r1.below q;have r2':=r2.below q;have r3':=r3.below q;have hRD:∀l W',CopJ W n (w.heap.size+1) l W'->TriV W' w.heap.size 46 (.slice a1 n.keys.length c1) (.slice a2 n.chains.length c2) (.slice a3 n.kids.length c3):=λl W' h=>(h.trd.block _ (by omega) (by omega)).trans bn
  refine zai (K:=λA B=>Trd (·=w.heap.size+1) A B) (by kernel_rfl) (by kernel_rfl) [2,5,8,10] (by kernel_rfl) [lEq (.pointer (some ⟨w.heap.size,0+0,none⟩)),lEq (.slice a1 n.keys.length c1),lAny,lEq (.pointer (some ⟨w.heap.size,0+1,none⟩)),lEq (.slice a2 n.chains.length c2),lAny,lEq (.pointer (some ⟨w.heap.size,0+2,none⟩)),lEq (.slice a3 n.kids.length c3),lAny,cNew W n (w.heap.size+1) hbx,lAny] (CopJ W n (w.heap.size+1)) CopJ.below (show Below W.heap.size W W from ze _ _)
    ⟨?o0,?o1,?o2,?o3,?o4,?o5,?o6,?o7,?o8,?o9,?o10,trivial⟩ ?fin
  case o0=>
    refine LnOp.side rfl (by kernel_rfl) (λA va w' k hF hT hk hJ hb hu hp hd=>?_);have e1:A.eval (.tmp 1)=.pointer (some ⟨w.heap.size,0,none⟩):=hF 1 rfl;exact zaf ndS rfl (e1) (by omega) ⟨_,rfl,rfl,ze _ _⟩
  case o1=>
    refine LnOp.side rfl (by kernel_rfl) (λA va w' k hF hT hk hJ hb hu hp hd=>?_);have e1:A.eval (.tmp 3)=.pointer (some ⟨w.heap.size,0+0,none⟩):=(hT 3 0 (by simp) rfl).trans (hd ⟨0,.data⟩ (by simp) rfl rfl);exact zae (e:=23) rfl (e1) (by kernel_rfl) ((hRD _ _ hJ).cell0) ⟨_,rfl,rfl,ze _ _⟩
  case o2=>
    refine LnOp.line 0 rfl rfl (λA va w' hF hT hJ hu hd=>?_);have e1:A.eval (.tmp 4)=.slice a1 n.keys.length c1:=(hT 4 1 (by simp) rfl).trans (hd ⟨1,.data⟩ (by simp) rfl rfl);refine zah rfl ekk (by simp only[zE,zn,zo,e1,wT]) ((each_k w' (r1'.below hJ) (by omega) 60 ef1 (λW3 r hr A C hb3 hrd=>?_)).mono ?_)
    · refine(zby W3 hrd.rd (zf _) (by have:=hbk _ (zL hr);omega)).mono ?_
      rintro e W4 ⟨ad',k',c',rfl,hf⟩;have hrs:=hf.2.rdS;obtain⟨rfl,_,_⟩:=hrs.len;exact⟨_,_,rfl,hrs,hf.1⟩
    · rintro e W4 ⟨v,rfl,hc⟩
      have hJ':Below W.heap.size W w':=hJ;exact⟨_,rfl,_,rfl,hc.from hJ',Trd.of hc.base⟩
  case o3=>
    refine LnOp.side rfl (by kernel_rfl) (λA va w' k hF hT hk hJ hb hu hp hd=>?_);have e1:A.eval (.tmp 1)=.pointer (some ⟨w.heap.size,0,none⟩):=hF 1 rfl;exact zaf ndS rfl (e1) (by omega) ⟨_,rfl,rfl,ze _ _⟩
  case o4=>
    refine LnOp.side rfl (by kernel_rfl) (λA va w' k hF hT hk hJ hb hu hp hd=>?_);have e1:A.eval (.tmp 6)=.pointer (some ⟨w.heap.size,0+1,none⟩):=(hT 6 3 (by simp) rfl).trans (hd ⟨3,.data⟩ (by simp) rfl rfl);exact zae (e:=102) rfl (e1) (by kernel_rfl) ((hRD _ _ hJ).cell1) ⟨_,rfl,rfl,ze _ _⟩
  case o5=>
    refine LnOp.line 1 rfl rfl (λA va w' hF hT hJ hu hd=>?_);have e1:A.eval (.tmp 7)=.slice a2 n.chains.length c2:=(hT 7 4 (by simp) rfl).trans (hd ⟨4,.data⟩ (by simp) rfl rfl);have hq:Below W.heap.size W w':=CpK.base hJ;refine zah rfl ekc (by simp only[zE,zn,zo,e1,wT]) ((each_c w' (r2'.below hq) (by omega) 114 ef2 (λW3 r hr A C hb3 hrd=>?_)).mono ?_)
    · refine(zfk W3 hrd (hbc _ (zL hr))).mono ?_
      rintro e W4 ⟨ad',c',rfl,h1,h2⟩;exact⟨_,_,rfl,h1,h2⟩
    · rintro e W4 ⟨v,rfl,hc⟩
      exact⟨_,rfl,_,rfl,⟨w',hJ,hc⟩,Trd.of hc.base⟩
  case o6=>
    refine LnOp.side rfl (by kernel_rfl) (λA va w' k hF hT hk hJ hb hu hp hd=>?_);have e1:A.eval (.tmp 1)=.pointer (some ⟨w.heap.size,0,none⟩):=hF 1 rfl;exact zaf ndS rfl (e1) (by omega) ⟨_,rfl,rfl,ze _ _⟩
  case o7=>
    refine LnOp.side rfl (by kernel_rfl) (λA va w' k hF hT hk hJ hb hu hp hd=>?_);have e1:A.eval (.tmp 9)=.pointer (some ⟨w.heap.size,0+2,none⟩):=(hT 9 6 (by simp) rfl).trans (hd ⟨6,.data⟩ (by simp) rfl rfl);exact zae (e:=46) rfl (e1) (by kernel_rfl) ((hRD _ _ hJ).cell2) ⟨_,rfl,rfl,ze _ _⟩
  case o8=>
    refine LnOp.line 2 rfl rfl (λA va w' hF hT hJ hu hd=>?_);have e1:A.eval (.tmp 10)=.slice a3 n.kids.length c3:=(hT 10 7 (by simp) rfl).trans (hd ⟨7,.data⟩ (by simp) rfl rfl);obtain⟨Wa,hJ1,hJ2⟩:=hJ;have hq:Below W.heap.size W w':=hJ1.base.trans (hJ2.base.mono hJ1.base.size);refine zah rfl ekn (by simp only[zE,zn,zo,e1,wT]) ((each_n w' (r3'.below hq) (by omega) 110 ef3 (λW3 r hr v hb3 hrd=>?_)).mono ?_)
    · have:=zim (zL hr)
      exact ih _ W3 (by omega) (by omega) (hbn _ (zL hr)) hrd
    · rintro e W4 ⟨v,rfl,hc⟩
      exact⟨_,rfl,_,rfl,⟨Wa,w',hJ1,hJ2,hc⟩,Trd.of hc.base⟩
  case o9=>
    refine LnOp.side rfl (by kernel_rfl) (λA va w' k hF hT hk hJ hb hu hp hd=>?_);have x1:A.eval (.tmp 5)=va 2:=hT 5 2 (by simp) rfl;have x2:A.eval (.tmp 8)=va 5:=hT 8 5 (by simp) rfl;have x3:A.eval (.tmp 11)=va 8:=hT 11 8 (by simp) rfl;obtain rfl:k=3:=by
      have h1:=hp ⟨8,.data⟩ (by simp) rfl 2 rfl;have h2:=hb 3 10 rfl (by kernel_rfl);omega
    obtain⟨Wa,Wb,hJ1,hJ2,hJ3⟩:=hJ;have hn:=zdi.of hJ1 hJ2 hJ3;obtain⟨x,y,z,e,_,hx1,hy1,hz1⟩:=hn.tri;injection e with e;simp only[Array.mk.injEq,List.cons.injEq,and_true]at e;obtain⟨rfl,rfl,rfl⟩:=e;exact zfh ndS rfl x1 x2 x3 hx1 hy1 hz1 ⟨_,rfl,hn,ze _ _⟩
  case o10=>
    refine LnOp.line 3 rfl rfl (λA va w' hF hT hJ hu hd=>?_);have e1:A.eval (.tmp 2)=.pointer (some ⟨w.heap.size+1,0,none⟩):=hF 2 rfl;have x2:A.eval (.tmp 12)=va 9:=hT 12 9 (by simp) rfl;have y2:=hd ⟨9,.data⟩ (by simp) rfl rfl;have hn:zdi W.heap.size w' n (va 9):=y2;obtain⟨Wa,Wb,hJ1,hJ2,hJ3⟩:=hJ;have hq:Below W.heap.size W w':=(hJ1.base.trans (hJ2.base.mono hJ1.base.size)).trans (hJ3.base.mono (hJ1.base.trans (hJ2.base.mono hJ1.base.size)).size);obtain⟨x,y,z,e,⟨hx1,hy1,hz1⟩,_⟩:=hn.tri;refine zcm rfl e1 (x2.trans e) hx1 hy1 hz1 (bz.below hq (by omega)) (λw2 hg ht=>?_);have hk:Trd (·=w.heap.size+1) w' w2:=Trd.ofGrown (F:=(·=w.heap.size+1)) hg λk hk=>by injection hk with hk;exact hk.symm
    exact⟨_,rfl,⟨x,y,z,ht,e▸hn.keep hk.size λk hl hlt=>hk.block k hlt (by omega),(Trd.of (F:=(·=w.heap.size+1)) hq).trans hk λ_ _ h=>h⟩,hk⟩
  case fin=>
    intro vs1 W9 hJ hG;obtain⟨x,y,z,ht,hn,hk⟩:=hJ;have q9:Below w.heap.size w W9:=q.trans (hk.below (n:=w.heap.size) q.size λk hk=>by omega);clear hG;simp only[zaj];go_simp;go_wp2_with fail;obtain⟨fs,hu,_⟩:=ndS.hu;refine zD (v:=.agg #[x,y,z]) (by simp[results,Tryz.results110,go_sem,loadVar,isAgg,zr hu,zaa ndS.hs,loadCellsFrom,Addr.add,ht.cell0,ht.cell1,ht.cell2]) rfl ⟨_,rfl,hn.nd q.size q9⟩
theorem zsd(N:Nat):zic N:=by
 induction N with
 |zero=>
  intro n w S v h;have:=zil n;omega
 |succ N ih=>exact zoz N ih
theorem zsv (x y:UInt8):x<y\/x=y\/y<x:=by
 rcases Nat.lt_trichotomy x.toNat y.toNat with h|h|h
 ·exact .inl (xZ.2 h)
 ·exact .inr (.inl (UInt8.toNat_inj.1 h))
 ·exact .inr (.inr (xZ.2 h))
theorem zfe:∀(a b:List UInt8),decide (Lib.compareBytes a b<0)=ltB a b
  |[],[]=>rfl
  |[],_::_=>rfl
  |_::_,[]=>rfl
  |x::a,y::b=>by
    have ih:=zfe a b;unfold Lib.compareBytes ltB Op.bytesLess;unfold ltB at ih;rcases zsv x y with h|h|h
    · simp[h]
    · subst h
      simp[UInt8.lt_irrefl,ih]
    · have h1:¬x<y:=UInt8.lt_asymm h
      have h2:x≠y:=λe=>by subst e;exact wP _ h
      simp[h,h1,h2]
theorem zqs:∀(a b:List UInt8),(Lib.compareBytes a b==0)=decide (a=b)
  |[],[]=>rfl
  |[],_::_=>rfl
  |_::_,[]=>rfl
  |x::a,y::b=>by
    have ih:=zqs a b;unfold Lib.compareBytes;rcases zsv x y with h|h|h
    · have h2:x≠y:=λe=>by subst e;exact wP _ h
      simp[h,h2]
    · subst h
      simp[UInt8.lt_irrefl,ih]
    · have h1:¬x<y:=UInt8.lt_asymm h
      have h2:x≠y:=λe=>by subst e;exact wP _ h
      simp[h,h1,h2]
theorem znk (a b:List UInt8):decide (0<=Lib.compareBytes a b)=!ltB a b:=by
 rw[<-zfe];by_cases h:Lib.compareBytes a b<0
 · simp[h]
 · simp[h];omega
theorem zme {P:Program}{S:Nat->Prop}{w:World}{v:Value}{xs:List UInt8}(h:RdS S w v xs):(Extern.Bytes.bytesOf v).run P w=.ok ⟨xs.toArray⟩ w:=by
  rcases h with⟨a,c,rfl,_,rfl⟩|⟨b,off,cap,rfl,_,_,_,hc⟩
  ·cases a with
    |none=>rfl
    |some p=>simp[Extern.Bytes.bytesOf,Extern.Bytes.loadBytes];rfl
  · have:=Lib.run_loadBytesX (P:=P) (w:=w) (xs.map λb=>(b.toNat:Int)) ⟨b,off,none⟩ .empty (λj x hj=>by
      rw[zN];refine hc j _ ?_;rw[List.getElem?_map]at hj;cases he:xs[j]? with
      |none=>rw[he]at hj;cases hj
      |some y=>
        rw[he]at hj;simp only[xF,Option.some.injEq]at hj;subst hj;simp[bv,he])
    rw[zX]at this;simp only[Extern.Bytes.bytesOf,this];have e:Lib.bytesOf (xs.map λb=>(b.toNat:Int))=xs:=by
      unfold Lib.bytesOf;rw[List.map_map];exact(wB λb _=>by simp).trans (List.map_id _)
    rw[e];show Result.ok (⟨#[]++xs.toArray⟩:ByteArray) w=_;rw[Array.empty_append]
theorem zn6{P:Program}{S S2:Nat->Prop}{w:World}{va vb:Value}{xs ys:List UInt8}(hx:RdS S w va xs)(hy:RdS S2 w vb ys):(Extern.BytealgCompare.compare #[va,vb]).run P w=.ok (.int .i64 (Lib.compareBytes xs ys)) w:=by
 change Sem.run P (do pure (goInt (Extern.BytealgCompare.cmp (<-Extern.Bytes.bytesOf va) (<-Extern.Bytes.bytesOf vb)))) w=_;simp only[zZ,yb,zme hx,zme hy,Result.andThen];rw[Lib.cmp_eq];rfl
theorem zao(w:World){S S2:Nat->Prop}{a a2:Option Addr}{n c n2 c2:Nat}{xs ys:List UInt8}(hx:RdS S w (.slice a n c) xs)(hy:RdS S2 w (.slice a2 n2 c2) ys):Calls Tryz.prog 56 #[.slice a n c,.slice a2 n2 c2] w λe w'=>e=.returned (.int .i64 (Lib.compareBytes xs ys))/\w=w':=by
 have hc:(callFunc 88 #[.slice a n c,.slice a2 n2 c2]).run Tryz.prog w=.ok (.value (.int .i64 (Lib.compareBytes xs ys))) w:=by
  rw[ve Tryz.func88 (by kernel_rfl) (by kernel_rfl) (by kernel_rfl) (e:=Extern.BytealgCompare.compare) (by kernel_rfl),zn6 hx hy];rfl
 go_enter Tryz.func56,Tryz.ntmps56;go_wp2_with fail;go_ret;exact⟨rfl,rfl⟩
theorem zo1 (w:World){S S2:Nat->Prop}{a a2:Option Addr}{n c n2 c2:Nat}{ks:List (List UInt8)}{k:List UInt8}(hl:RdL Elt.bytes S w (.slice a n c) ks)(hk:RdS S2 w (.slice a2 n2 c2) k)(hn:n<=1000000)(m:Nat)(hm:m<=ks.length)(h1:∀i(h:i<ks.length),ltB ks[i] k=decide (i<m)){is:Bool}(his:is=decide (ks[m]?=some k)):
    Calls Tryz.prog 166 #[.slice a n c,.slice a2 n2 c2,.func (.func 56) #[] #[]] w λe w'=>e=.returned (.tuple #[.int .i64 m,.bool is])/\Below w.heap.size w w':=by
  obtain⟨rfl,hnc,hcm⟩:=hl.len;have q:=ze w.heap.size w;have hEE:=enters_of Tryz.func56 (by kernel_rfl) rfl;go_enter Tryz.func166,Tryz.ntmps166;go_upto_region 3 with(fail);go_loopw [9,10](λiv jv wr=>∃(i j:Nat),iv=.int .i64 i/\jv=.int .i64 j/\i<=m/\m<=j/\j<=ks.length/\Below w.heap.size w wr)(λi j _=>(intOf j).toNat-(intOf i).toNat)
  case atStart=>exact⟨0,ks.length,rfl,rfl,zH _,hm,zf _,q⟩
  case round=>
    clear q;obtain⟨i,j,rfl,rfl,him,hmj,hjn,q⟩:=hrel;rcases zA i j with hlt|hge
    · obtain⟨h,hh⟩:∃h:Nat,h=(i+j)/2:=⟨_,rfl⟩
      have e:((i:Int)+(j:Int))/2=(h:Int):=by omega
      have hih:i<=h:=by omega
      have hhj:h<j:=by omega
      clear hh;obtain⟨b,off,A,C,rfl,hc,hr⟩:=(hl.below q).byt h (by omega);have hlth:=h1 h (by omega);have hcl:=zfe ks[h] k;rw[hlth]at hcl;obtain⟨y,hy⟩:∃y,y=ks[h]:=⟨_,rfl⟩;rw[<-hy]at hr hc hcl;clear hy hlth;go_wp2_with fail;clear e;refine(zao wr hr (hk.below q)).mono ?_;rintro e w1 ⟨rfl,rfl⟩;rcases zA h m with h2|h2
      · rw[zk h2]at hcl
        go_wp2_with fail;go_roundw;case rel=>exact⟨h+1,j,by go_num,rfl,by omega,hmj,hjn,q⟩
        case measure=>simp[intOf];omega
      · rw[zj (by omega:¬h<m)]at hcl
        go_wp2_with fail;go_roundw;case rel=>exact⟨i,h,rfl,rfl,him,by omega,by omega,q⟩
        case measure=>simp[intOf];omega
    · obtain rfl:i=m:=by omega
      rcases zA i ks.length with hlt|hge2
      · have d:decide ((i:Int)<(ks.length:Int))=true:=zk (by omega)
        obtain⟨b,off,A,C,rfl,hc,hr⟩:=(hl.below q).byt i hlt;have hce:=zqs ks[i] k;have hans:decide (ks[i]?=some k)=decide (ks[i]=k):=by rw[zB hlt];simp
        rw[hans,<-hce]at his;clear hans hce;generalize ks[i]=y at hr hc his;have HI:=Lib.hid his;clear his;go_wp2_with fail;refine(zao wr hr (hk.below q)).mono ?_;rintro e w1 ⟨rfl,rfl⟩;go_wp2_with fail;go_ret2;exact⟨by rw[HI.out];rfl,q⟩
      · have d:decide ((i:Int)<(ks.length:Int))=false:=zj (by omega)
        have hans:decide (ks[i]?=some k)=false:=by rw[wV hge2];simp
        rw[hans]at his;subst his;clear hans;go_wp2_with fail;go_ret2;exact⟨rfl,q⟩
def plcF(ks:List (List UInt8))(k:List UInt8):Nat:=(ks.takeWhile λx=>ltB x k).length
theorem zhu(ks:List (List UInt8))(k:List UInt8):plcF ks k<=ks.length:=(List.takeWhile_prefix _).length_le
def risK:List (List UInt8)->Prop
 |[]=>True
 |x::r=>(∀y∈r,ltB x y=true)/\risK r
theorem zht:∀{ks:List (List UInt8)}{k:List UInt8},risK ks->∀i (h:i<ks.length),ltB ks[i] k=decide (i<plcF ks k)
 |[],_,_,_,h=>absurd h (yH _)
 |x::r,k,⟨h1,h2⟩,0,_=>by
  unfold plcF;rw[xx];cases hx:ltB x k<;>simp[hx]
 |x::r,k,⟨h1,h2⟩,i+1,h=>by
  have ih:=zht (k:=k) h2 i (by simpa using h);unfold plcF at ih⊢;rw[xx,List.getElem_cons_succ];cases hx:ltB x k with
  |true=>simpa using ih
  |false=>
   have hir:i<r.length:=by simpa using h
   cases hy:ltB (r[i]'hir) k with
   |false=>simp
   |true=>rw[zbe (h1 _ (zL _)) hy]at hx;cases hx
def isF(ks:List (List UInt8))(k:List UInt8):Bool:=decide (ks[plcF ks k]?=some k)
theorem ziy(w:World){S S2:Nat->Prop}{v:Value}{n:Nd}{a2:Option Addr}{n2 c2:Nat}{k:List UInt8}(hr:RdN S w v n)(hs:risK n.keys)(hn:n.keys.length<=1000000)(hk:RdS S2 w (.slice a2 n2 c2) k):Calls Tryz.prog 142 #[v,.slice a2 n2 c2] w λe w'=>e=.returned (.tuple #[.int .i64 (plcF n.keys k),.bool (isF n.keys k)])/\Below w.heap.size w w':=by
 obtain⟨a1,c1,a2',c2',a3,c3,rfl,r1,r2,r3⟩:=hr;have q:Below w.heap.size w (w.alloc (.cells #[.slice a1 n.keys.length c1,.slice a2' n.chains.length c2',.slice a3 n.kids.length c3] 46)):=(ze _ _).alloc (zf _) _;have hb:=zo1 _ (r1.below q) (hk.below q) hn (plcF n.keys k) (zhu _ _) (zht hs) (is:=isF n.keys k) rfl;have t:=TriV.new w 46 (.slice a1 n.keys.length c1) (.slice a2' n.chains.length c2') (.slice a3 n.kids.length c3);have t0:=t.cell0;obtain⟨m,hm⟩:∃m,m=plcF n.keys k:=⟨_,rfl⟩;obtain⟨is,his⟩:∃is,is=isF n.keys k:=⟨_,rfl⟩;rw[<-hm,<-his]at hb⊢;clear hm his t;go_enter Tryz.func142,Tryz.ntmps142;go_wp2_with fail;generalize w.alloc (.cells #[.slice a1 n.keys.length c1,.slice a2' n.chains.length c2',.slice a3 n.kids.length c3] 46)=W at*;refine hb.mono ?_;rintro e w1 ⟨rfl,hb1⟩;go_wp2_with fail;go_ret2;exact⟨rfl,q.trans (hb1.mono q.size)⟩
theorem zh9 (w:World){x y:Value}{a:Option Addr}{n c:Nat}:Calls Tryz.prog 141 #[.agg #[x,y,.slice a n c]] w λe w'=>e=.returned (.bool (decide (n=0)))/\Below w.heap.size w w':=by
 have q:Below w.heap.size w (w.alloc (.cells #[x,y,.slice a n c] 46)):=(ze _ _).alloc (zf _) _;have t2:=(TriV.new w 46 x y (.slice a n c)).cell2;have d:((n:Int)==0)=decide (n=0):=by by_cases h:n=0<;>simp[h]
 go_enter Tryz.func141,Tryz.ntmps141;go_wp2_with fail;go_ret;exact⟨by simp,q⟩
theorem zql(w:World){S2:Nat->Prop}{a a2:Option Addr}{n c n2 c2:Nat}{l:List Ver}(hl:RdL Elt.ver S2 w (.slice a2 n2 c2) l):Calls Tryz.prog 111 #[.slice a n c,.slice a2 n2 c2] w λe w'=>e=.returned (.bool (decide (n<=16/\l≠[]/\okV l)))/\Below w.heap.size w w':=by
  obtain⟨rfl,hnc,hcm⟩:=hl.len;rcases zA 16 n with h|h
  · have d:decide ((n:Int)<=16)=false:=zj (by omega)
    have hans:decide (n<=16/\l≠[]/\okV l)=false:=zj λh2=>by omega
    rw[hans];go_enter Tryz.func111,Tryz.ntmps111;go_wp2_with fail;go_ret;exact⟨rfl,ze _ _⟩
  · have d:decide ((n:Int)<=16)=true:=zk (by omega)
    rcases yx l.length with h0|h0
    · have d2:¬0<l.length:=by omega
      have hans:decide (n<=16/\l≠[]/\okV l)=false:=zj λh2=>h2.2.1 (yg h0)
      rw[hans];clear h0;go_enter Tryz.func111,Tryz.ntmps111;go_wp2_with fail;go_ret;exact⟨rfl,ze _ _⟩
    · have hne:l≠[]:=xV.1 h0
      have hans:decide (n<=16/\l≠[]/\okV l)=decide (okV l):=by simp[h,hne]
      rw[hans];clear hans hne;have hc:=zeg w hl;generalize decide (okV l)=ok at hc⊢;go_enter Tryz.func111,Tryz.ntmps111;go_wp2_with fail;refine hc.mono ?_;rintro e w1 ⟨rfl,hb1⟩;go_wp2_with fail;go_ret;exact⟨rfl,hb1⟩
end Go.Proofs.YtkobhdllagbkhaaGreat
