/-
  TEXTS OF ONE PROOF, merged.
-/
import Derived.Test.YtkobhdllagbkhaaGreatKn8
namespace Go.Proofs.YtkobhdllagbkhaaGreat
open Go.RowKit Go.Shelf
set_option maxRecDepth 100000
set_option maxHeartbeats 32000000
def zns{ι α:Type}(P:Program)(g:Nat)(lb:Array Value)(encs:α->Array Value)(Kp:ι->World->World->Prop)(Gd:ι->α->World->Prop)(S Sp:List α->Prop)(N:Nat)(w:World):Prop:=
 ∀(l:Nat)(J Jx:ι->List α->World->Prop)(W:World),Below w.heap.size w W->(∀i,AbidesFrom W.heap.size (J i))->(∀i,AbidesFrom W.heap.size (Jx i))->(∀i pre x W1,J i pre W1->Gd i x W1->pre.length<N->YieldAt Fence.wide 1 P l (encs x) W1 λe W'=>(e=.returned (.bool true)/\J i (pre++[x]) W'/\Kp i W1 W')\/(e=.returned (.bool false)/\Jx i (pre++[x]) W'))->
  (∀i,J i [] W)->CallsIn Fence.wide 2 P g (#[.func (.yield l) #[] #[]]++lb) W λe W'=>(∃v,e=.returned v)/\∃i,((∃xs,S xs/\J i xs W')\/(∃pre,Sp pre/\Jx i pre W'))
section
variable {P : Program} {ι α : Type} {ps : Array Tmp} {assign body : Code}
def Bk(K:Nat)(r:Loop)(W:World):Prop:=W.heap[K+1]?=some (.loop r)/\W.heap[K]?=some (.deferred (some []))
theorem Bk.keeps{K:Nat}{r:Loop}{W W':World}(h:Bk K r W)(hk:KeepsFrom K W W'):Bk K r W':=⟨hk.same _ _ (by omega) h.1 rfl,hk.same _ _ (zf _) h.2 rfl⟩
theorem Bk.put{K:Nat}{r r':Loop}{W:World}(h:Bk K r W):Bk K r' (W.putObj (K+1) (.loop r')):=⟨World.putObj_heap_same (zJ.1 h.1).1,(World.putObj_heap_other (by omega)).trans h.2⟩
theorem Bk.grown{K:Nat}{r:Loop}{W W':World}{row:Option Nat}(h:Bk K r W)(hg:W.grownBy W' row)(hr:∀k,row=some k->∃o:Obj,W.heap[k]?=some o/\o.isWalk=true):Bk K r W':=
 ⟨(grownBy_keeps hg hr h.1 rfl).trans h.1,(grownBy_keeps hg hr h.2 rfl).trans h.2⟩
theorem zkf{g:Operand}{Q:Exit->Act->World->Prop}{a:Act}{w:World}{gf:Nat}{lb:Array Value}(hg:a.eval g=.func (.func gf) #[] lb) (eg:∀args w,(callFunc gf args).run P w=.ok (.enter gf args) w){encs:α->Array Value}{Kp:ι->World->World->Prop}{Gd:ι->α->World->Prop}{S Sp:List α->Prop}{N:Nat}{w0:World}(hseq:zns P gf lb encs Kp Gd S Sp N w0)
    (hKt:∀{i:ι}{A B C:World},Kp i A B->Kp i B C->Kp i A C)(hKb:∀(i:ι)(W:World)(l:Nat)(o o':Obj),w.heap.size<=l->W.heap[l]?=some o->o.isCells=false->o.isWalk=false->Kp i W (W.putObj l o'))(hb0:Below w0.heap.size w0 w)(hps:∀x,(encs x).size=ps.size)
    (I:ι->List α->World->Prop)(Ix:ι->Code->List α->World->Prop)(hI:∀i,OwnFrom w.heap.size (I i))(hIx:∀i c,OwnFrom w.heap.size (Ix i c))(h0:∀i,I i [] w)(Ax:ι->α->Act->World->Prop)(hAx:∀i x a',OwnFrom w.heap.size (λ(_:Unit)W=>Ax i x a' W))
    (hassign:∀(i:ι)(l:Nat)(pre:List α)(x:α)(W:World)(K:Act->World->Prop),I i pre W->Gd i x W->(∀a' W',KeepsFrom w.heap.size W W'->Kp i W W'->I i pre W'->Ax i x a' W'->K a' W')->assign.wpIn (Fence.wide.inRound l) 1 P (Exit.then K (λ_ _ _=>False)) {tmps:=(ps.zip (encs x)).foldl (λt (p,v)=>t.setIfInBounds p v) a.tmps,defers:=[]} W)
    (hbody:∀(i:ι)(l:Nat)(pre:List α)(x:α)(a':Act)(W:World),I i pre W->Ax i x a' W->pre.length<N->body.wpIn (Fence.wide.inRound l) 1 P (ownPostG w.heap.size (Kp i) (I i) (Ix i) (pre++[x]) W) a' W)
    (hdone:∀(i:ι)(D:Nat)(xs:List α)(W:World),w.heap.size<=D->S xs->I i xs W->W.heap[D]?=some (.deferred (some []))->Q .normal {a with defers:={target:=.collected D,args:=#[]}::a.defers} W)
    (hstop:∀(i:ι)(D:Nat)(c:Code)(pre:List α)(W:World),w.heap.size<=D->Sp pre->Ix i c pre W->W.heap[D]?=some (.deferred (some []))->c.wp P Q {a with defers:={target:=.collected D,args:=#[]}::a.defers} W):
    (Code.rangeFunc g ps assign body).wp P Q a w:=by
  refine(yS (n:=3)).1 (wpIn_rangeFunc λfn hfn=>?_);rw[show Fence.wide.round=none from rfl];obtain⟨rec,hrec⟩:∃rec:LoopState->Option Code->Loop,∀st pe,rec st pe={state:=st,pending:=pe,fn,tmps:=a.tmps,params:=ps,assign,body,defers:=w.heap.size}:=⟨_,λ_ _=>rfl⟩;obtain⟨W1,hW1⟩:∃W1,W1=(w.alloc (.deferred (some []))).alloc (.loop (rec .ready none)):=⟨_,rfl⟩;have bk1:Bk w.heap.size (rec .ready none) W1:=by
    rw[hW1];constructor
    · have:=World.alloc_heap_new (w.alloc (.deferred (some []))) (.loop (rec .ready none))
      rwa [yG]at this
    ·exact(Below.heap_alloc _ _ _ (by simp)).trans (World.alloc_heap_new w _)
  have i1:∀i,I i [] W1:=λi=>by rw[hW1];exact(hI i).alloc _ ((hI i).alloc _ (h0 i))
  have b1:Below w0.heap.size w0 W1:=by
    rw[hW1];exact hb0.trans ((((ze _ w).alloc (zf _) _).alloc (by simp) _).mono hb0.size)
  have s1:w.heap.size<=W1.heap.size:=by rw[hW1];simp;omega
  refine⟨w.heap.size+1,[{target:=.collected w.heap.size,args:=#[]}],W1,{target:=.fn (.func gf) lb,args:=#[.func (.yield (w.heap.size+1)) #[] #[]]},W1,gf,#[.func (.yield (w.heap.size+1)) #[] #[]]++lb,W1,?_,?_,?_,?_,λ_=>by omega,?_⟩
  · rw[hW1,hrec]
    exact run_enterLoop_outer _ _ _ _ _
  · simp only[resolve,hg]
    simp[go_sem]
  · intro f hf
    simp[Target.leads]at hf;subst hf;trivial
  ·simp[invoke,go_sem,eg]
  have far:∀{A:World}{row:Option Nat},(∀r,row=some r->W1.heap.size<=r/\∃o:Obj,A.heap[r]?=some o/\o.isWalk=true)->∀r,row=some r->w.heap.size<=r/\∃o:Obj,A.heap[r]?=some o/\o.isCells=false:=λhr r e=>by
    obtain⟨h1,o,h2,h3⟩:=hr r e;exact⟨by omega,o,h2,Obj.not_cells_of_walk h3⟩
  refine(hseq (w.heap.size+1) (λi pre W=>I i pre W/\Bk w.heap.size (rec .ready none) W) (λi pre W=>∃c,Ix i c pre W/\Bk w.heap.size (rec .done (some c)) W) W1 b1
    (λi s A B row hs h hr=>⟨hI i s A B row hs.1 h (far hr),hs.2.grown h λk e=>(hr k e).2⟩)
    (λi s A B row hs h hr=>hs.imp λc hc=>⟨hIx i c s A B row hc.1 h (far hr),hc.2.grown h λk e=>(hr k e).2⟩)
    ?round λi=>⟨i1 i,bk1⟩).mono ?behind
  case behind=>
    rintro e W2 ⟨⟨v,rfl⟩,i,(⟨xs,hS,hi,bk⟩|⟨pre,hSp,c,hi,bk⟩)⟩
    · have hr:=run_endLoop (P:=P) bk.1 (by rw[hrec];simp)
      rw[hrec]at hr;exact⟨none,_,hr,hdone i _ xs _ (zf _) hS ((hI i).putObj _ hi (by omega) bk.1 rfl) ((World.putObj_heap_other (by omega)).trans bk.2)⟩
    · have hr:=run_endLoop (P:=P) bk.1 (by rw[hrec];simp)
      rw[hrec]at hr;exact⟨some c,_,hr,yS.2 (hstop i _ c pre _ (zf _) hSp ((hIx i c).putObj _ hi (by omega) bk.1 rfl) ((World.putObj_heap_other (by omega)).trans bk.2))⟩
  case round=>
    rintro i pre x W⟨hi,bk⟩hgd hlen;have hy:=run_yield (P:=P) (args:=encs x) bk.1 (by rw[hrec];exact hps x);rw[hrec]at hy;refine⟨fn,_,assign,body,hy,roundIn_of_wpIn hfn (hassign i _ pre x W _ hi hgd λa' Wa hka hkpa hia hax=>?_)⟩;have bka:=bk.keeps hka;refine⟨_,run_beginRound bka.1 (by rw[hrec]),?_⟩;have bk2:Bk w.heap.size {rec .ready none with state:=.busy} (Wa.putObj (w.heap.size+1) (.loop {rec .ready none with state:=.busy})):=bka.put;have hw2:Kp i Wa (Wa.putObj (w.heap.size+1) (.loop {rec .ready none with state:=.busy})):=hKb _ _ _ _ _ (by omega) bka.1 rfl rfl;refine wpIn_mono (hbody i _ pre x a' _ ((hI i).putObj _ hia (by omega) bka.1 rfl) ((hAx i x a').putObj (s:=()) _ hax (by omega) bka.1 rfl) hlen) ?_;have fin:∀(jump:Option Code) (W3:World),KeepsFrom w.heap.size (Wa.putObj (w.heap.size+1) (.loop {rec .ready none with state:=.busy})) W3->(Instr.endRound (w.heap.size+1) jump).run P W3=.ok (.bool jump.isNone) (W3.putObj (w.heap.size+1) (.loop (rec (if jump.isNone then .ready else .done) jump)))/\W3.heap[w.heap.size+1]?=some (.loop {rec .ready none with state:=.busy})/\
        Bk w.heap.size (rec (if jump.isNone then .ready else .done) jump) (W3.putObj (w.heap.size+1) (.loop (rec (if jump.isNone then .ready else .done) jump))):=λjump W3 hk3=>by
      have bk3:=bk2.keeps hk3;have hr:=run_endRound (P:=P) jump bk3.1;refine⟨?_,bk3.1,bk3.put⟩;rw[hrec]at hr⊢;exact hr
    intro e a3 W3 hp;cases e with
    |normal=>
      obtain⟨hk3,hkp3,hi3⟩:=hp;obtain⟨hr,hl3,hb3⟩:=fin none W3 hk3;exact⟨_,_,hr,.inl ⟨rfl,⟨(hI i).putObj _ hi3 (by omega) hl3 rfl,hb3⟩,hKt hkpa (hKt (hKt hw2 hkp3) (hKb _ _ _ _ _ (by omega) hl3 rfl rfl))⟩⟩
    |ret=>
      obtain⟨hk3,hi3⟩:=hp;obtain⟨hr,hl3,hb3⟩:=fin (some .ret) W3 hk3;exact⟨_,_,hr,.inr ⟨rfl,.ret,(hIx i _).putObj _ hi3 (by omega) hl3 rfl,hb3⟩⟩
    |exit id=>
      obtain⟨hk3,hi3⟩:=hp;obtain⟨hr,hl3,hb3⟩:=fin (some (.exit id)) W3 hk3;exact⟨_,_,hr,.inr ⟨rfl,.exit id,(hIx i _).putObj _ hi3 (by omega) hl3 rfl,hb3⟩⟩
    |goto t=>
      obtain⟨hk3,hi3⟩:=hp;obtain⟨hr,hl3,hb3⟩:=fin (some (.goto t)) W3 hk3;exact⟨_,_,hr,.inr ⟨rfl,.goto t,(hIx i _).putObj _ hi3 (by omega) hl3 rfl,hb3⟩⟩
    |panic ch=>exact hp.elim
    |outgrown=>exact hp.elim
end
theorem zu8(a b:List UInt8):decide (0<=Lib.compareBytes a b)=!ltB a b:=by
 have h1:=zfe a b;cases h:ltB a b with
 |true=>
  rw[h]at h1;have:=wt h1;exact zj (by omega)
 |false=>
  rw[h]at h1;have:=of_decide_eq_false h1;exact zk (by omega)
theorem sIn_any (w:World){S S2:Nat->Prop}{v:Value}{x:Sp}{A:Option Addr}{n C:Nat}{k:List UInt8}(h:RdSp S w v x)(hk:RdS S2 w (.slice A n C) k):Calls Tryz.prog 163 #[.slice A n C,v] w λe w'=>e=.returned (.bool (inS x k))/\Below w.heap.size w w':=by
 obtain⟨a1,a2,a3,a4,rfl,hl,hh,ht⟩:=h;obtain rfl:=hk.len.1;obtain⟨W,hW⟩:∃W,W=w.alloc (.cells #[.int .i64 x.table,.slice a1 x.lo.length a2,.slice a3 x.hi.length a4,.bool x.isOpen] 67):=⟨_,rfl⟩;have q:Below w.heap.size w W:=by rw[hW];exact(ze _ _).alloc (zf _) _
 have Bx:BoxN W w.heap.size 67 [.int .i64 x.table,.slice a1 x.lo.length a2,.slice a3 x.hi.length a4,.bool x.isOpen]:=by rw[hW];exact BoxN.new _ _ _
 go_enter Tryz.func163,Tryz.ntmps163;go_upto_region 1 with(fail);rw[<-hW];clear hW;have cx1:=Bx.cell (i:=1) rfl;have cx2:=Bx.cell (i:=2) rfl;have cx3:=Bx.cell (i:=3) rfl;have rlx:=hl.below q;have rhx:=hh.below q;have rk:=hk.below q;cases h_kl:ltB k x.lo with
 |true=>
  have dkl:decide (0<=Lib.compareBytes k x.lo)=false:=by rw[zu8,h_kl];rfl
  have H:=Lib.hid (show inS x k=false from by unfold inS;simp[h_kl]);clear h_kl;go_wp2_with fail;refine(zao _ rk rlx).mono ?_;rintro e _⟨rfl,rfl⟩;go_wp2_with fail;go_ret;exact⟨by first|(rw[H.out];done)|(rw[H.out];rfl),q⟩
 |false=>
  have dkl:decide (0<=Lib.compareBytes k x.lo)=true:=by rw[zu8,h_kl];rfl
  cases h_op:x.isOpen with
  |true=>
   rw[h_op]at cx3;have H:=Lib.hid (show inS x k=true from by unfold inS;simp[h_kl,h_op]);clear h_kl h_op;go_wp2_with fail;refine(zao _ rk rlx).mono ?_;rintro e _⟨rfl,rfl⟩;go_wp2_with fail;go_ret;exact⟨by first|(rw[H.out];done)|(rw[H.out];rfl),q⟩
  |false=>
   rw[h_op]at cx3;cases h_kh:ltB k x.hi with
   |true=>
    have dkh:decide (Lib.compareBytes k x.hi<0)=true:=(zfe _ _).trans h_kh;have H:=Lib.hid (show inS x k=true from by unfold inS;simp[h_kl,h_op,h_kh]);clear h_kl h_op h_kh;go_wp2_with fail;refine(zao _ rk rlx).mono ?_;rintro e _⟨rfl,rfl⟩;go_wp2_with fail;refine(zao _ rk rhx).mono ?_;rintro e _⟨rfl,rfl⟩;go_wp2_with fail;go_ret;exact⟨by first|(rw[H.out];done)|(rw[H.out];rfl),q⟩
   |false=>
    have dkh:decide (Lib.compareBytes k x.hi<0)=false:=(zfe _ _).trans h_kh;have H:=Lib.hid (show inS x k=false from by unfold inS;simp[h_kl,h_op,h_kh]);clear h_kl h_op h_kh;go_wp2_with fail;refine(zao _ rk rlx).mono ?_;rintro e _⟨rfl,rfl⟩;go_wp2_with fail;refine(zao _ rk rhx).mono ?_;rintro e _⟨rfl,rfl⟩;go_wp2_with fail;go_ret;exact⟨by first|(rw[H.out];done)|(rw[H.out];rfl),q⟩
attribute [local go_sem] xe
structure YEl where
 ad:Option Addr
 c:Nat
 t:List UInt8
 ad2:Option Addr
 c2:Nat
 l:List Ver
def YEl.enc(x:YEl):Array Value:=#[.slice x.ad x.t.length x.c,.slice x.ad2 x.l.length x.c2]
def YEl.pr (x:YEl):Pr:=⟨x.t,x.l⟩
def KpB(n₀ b hi:Nat)(A B:World):Prop:=Below n₀ A B/\∀(k:Nat)(o:Obj),k<hi->k≠b->A.heap[k]?=some o->o.isCells=true->B.heap[k]?=A.heap[k]?
theorem KpB.trans{n₀ b hi:Nat}{A B C:World}(h:KpB n₀ b hi A B)(k:KpB n₀ b hi B C):KpB n₀ b hi A C:=⟨h.1.trans k.1,λj o h1 h2 h3 h4=>(k.2 j o h1 h2 ((h.2 j o h1 h2 h3 h4).trans h3) h4).trans (h.2 j o h1 h2 h3 h4)⟩
theorem KpB.refl(n₀ b hi:Nat)(A:World):KpB n₀ b hi A A:=⟨ze _ _,λ_ _ _ _ _ _=>rfl⟩
theorem KpB.of{n₀ b hi:Nat}{A B:World}(h:Below A.heap.size A B)(hn:n₀<=A.heap.size):KpB n₀ b hi A B:=⟨h.mono hn,λj _ _ _ h3 _=>h.block j (zJ.1 h3).1⟩
def GdW (lo hi:Nat)(x:YEl)(W:World):Prop:=RdS (λk=>lo<=k/\k<hi/\ze9 W k) W (.slice x.ad x.t.length x.c) x.t/\RdL Elt.ver (λk=>lo<=k/\k<W.heap.size) W (.slice x.ad2 x.l.length x.c2) x.l/\(lo<=hi/\hi<=W.heap.size)/\x.t.length<=16/\zb9 x.l
def inPk(l:List Pr)(x:Sp):List Pr:=l.filter λp=>inS x p.key
def PreP (ps:List Pr)(ys:List YEl):Prop:=∃r,ps=ys.map (·.pr)++r
theorem zgs{n:Nd}(hf:fitN n):∀p∈prN n,zb9 p.chain:=by
  unfold prN;split
  · rename_i h
    obtain⟨d,hp⟩:=ok_pn h;exact zjj d hp.wf hf.2
  ·exactλp hp=>by cases hp
theorem zui{l:List Pr}{x:Sp}{i:Nat}(h:i<l.length):inPk (l.take (i+1)) x=inPk (l.take i) x++if inS x l[i].key then[l[i]]else[]:=by
 unfold inPk;rw[yZ h,List.filter_append];congr 1;simp[wE]
theorem zqi(l:List Pr)(x:Sp)(i:Nat):∃r,inPk l x=inPk (l.take i) x++r:=⟨inPk (l.drop i) x,by unfold inPk;rw[<-List.filter_append,yz]⟩
theorem zmo{α:Type}{E:Elt α}(hE:znt E){S:Nat->Prop}{w:World}{v:Value}{xs:List α}(h:RdL E S w v xs):RdL E (λk=>S k/\ze9 w k) w v xs:=by
 obtain⟨a,cap,h1,h2,h3,h4⟩:=h;by_cases h0:xs=[]
 ·exact⟨a,cap,h1,h2,h3,.inl h0⟩
 obtain⟨b,off,e,hb,hr⟩:=h4.resolve_left h0;have hpos:0<xs.length:=xV.2 h0;have hcl:ze9 w b:=by
  obtain⟨vs,hR,hc⟩:=hr 0 hpos;have hl:=E.len hR;have hp:=E.pos;exact cells_of_cell (hc 0 vs[0] (zB (by omega)))
 refine⟨a,cap,h1,h2,h3,.inr ⟨b,off,e,⟨hb,hcl⟩,λr h=>?_⟩⟩;obtain⟨vs,hR,hc⟩:=hr r h;exact⟨vs,hE _ _ _ _ hR,hc⟩
theorem zq7(w:World) (x y z u v r s:Value):Calls Tryz.prog 130 #[.agg #[x,y,z],.agg #[u,v,r,s]] w λe w'=>e=.returned (.func (.func 161) #[] #[.pointer (some ⟨w.heap.size,0,none⟩),.pointer (some ⟨w.heap.size+1,0,none⟩)])/\w'=(w.alloc (.cells #[x,y,z] 46)).alloc (.cells #[u,v,r,s] 67):=by
 go_enter Tryz.func130,Tryz.ntmps130;go_wp2;go_ret;exact⟨rfl,rfl⟩
theorem zq8 (l:Nat){w0:World}{J Jx:Nat->List YEl->World->Prop}{n:Nd}{x:Sp}{N B b nb xb lo:Nat}{v0 v1 v2:Value}{vx:Value}(hr:RdN (·<w0.heap.size) w0 (.agg #[v0,v1,v2]) n) (hf:fitN n) (hx:RdSp (·<w0.heap.size) w0 vx x)(hAb:∀i,AbidesFrom B (J i))
    (hY:∀i pre y W,J i pre W->GdW lo i y W->pre.length<N->YieldAt Fence.wide 1 Tryz.prog l y.enc W λe W'=>(e=.returned (.bool true)/\J i (pre++[y]) W'/\KpB w0.heap.size b i W W')\/(e=.returned (.bool false)/\Jx i (pre++[y]) W'))
    (W:World)(hlo:lo<=W.heap.size)(hW:Below w0.heap.size w0 W)(hnb:TriV W nb 46 v0 v1 v2)(us:List Value)(hvx:vx=.agg us.toArray)(hxb:BoxN W xb 67 us)(hbl:b<W.heap.size)(hbn:nb≠b)(hbx:xb≠b)(h0:∀i,J i [] W)(hN:(inPk (prN n) x).length<=N):
    CallsIn Fence.wide 2 Tryz.prog 161 #[.func (.yield l) #[] #[],.pointer (some ⟨nb,0,none⟩),.pointer (some ⟨xb,0,none⟩)] W λe W'=>(∃v,e=.returned v)/\∃i,((∃ys:List YEl,ys.map (·.pr)=inPk (prN n) x/\J i ys W')\/(∃pre,PreP (inPk (prN n) x) pre/\Jx i pre W')):=by
  have hr0:=hr;have hx0:=hx;obtain⟨a1,c1,a2,c2,a3,c3,eqv,_,_,_⟩:=hr;injection eqv with eqv;injection eqv with eqv;injection eqv with ex eqv;injection eqv with ey eqv;injection eqv with ez _;subst ex ey ez;obtain⟨xa,xc,xa2,xc2,rfl,_,_,_⟩:=hx;obtain rfl:us=[.int .i64 x.table,.slice xa x.lo.length xc,.slice xa2 x.hi.length xc2,.bool x.isOpen]:=by
    injection hvx with h;injection h with h;exact h.symm
  clear hvx;have hks:=zsy W (zpo hr0 hW) hf;have hPL:(prN n).length<=100000:=zk4 hf;have hPB:=zth n;have hPS:=zgs hf;have hPO:=zod n;obtain⟨ps,hps⟩:∃ps,ps=prN n:=⟨_,rfl⟩;rw[<-hps]at hPL hPB hPS hPO hks hN⊢;replace hps:=Lib.hid hps;have tn0:=hnb.cell0;have tn1:=hnb.cell1;have tn2:=hnb.cell2;refine callsIn_of_wp Tryz.func161 rfl trivial ?_ rfl;simp only[Tryz.ntmps161,yj,zI,zM,Nat.reduceAdd,Nat.reduceSub,xz,xA,xB,xC,yw,ym];refine yS.2 ?_;go_wp2_with fail;refine hks.mono ?_;rintro e W1 ⟨ka,kc,rfl,hkr,hb1⟩;rw[zX]at hkr;have bn1:=hnb.below hb1 hnb.lt;have bx1:BoxN W1 xb 67 _:=hxb.below hb1 hxb.lt;have hlx:=hxb.lt;have hln:=hnb.lt;have hkc:=zmo zhk hkr;have hs1:=hb1.size;have hsW:=hW.size;obtain⟨hi,hhi⟩:∃hi,hi=W1.heap.size:=⟨_,rfl⟩;have hW1:=hW.trans (hb1.mono hsW);clear tn0 tn1 tn2 hkr;rw[zX];go_wp2_with fail;refine(yS (n:=2)).1 ?_;gi_loopw [11] (λv wr=>∃(i:Nat)(ys:List YEl),v=.int .i64 (i:Int)/\i<=ps.length/\ys.map (·.pr)=inPk (ps.take i) x/\J hi ys wr/\KpB w0.heap.size b hi W1 wr/\hi<=wr.heap.size)(λv _=>ps.length-toN v);case atStart=>exact⟨0,[],rfl,by omega,rfl,hAb _ _ _ _ none (h0 hi) (zbm hb1) (by simp),KpB.refl _ _ _ _,by omega⟩
  case round=>
    obtain⟨i,ys,rfl,hil,hys,hJ,hK,hsr⟩:=hrel;refine yS.2 ?_;have bnr:TriV wr nb 46 _ _ _:=(hK.2 nb _ (by omega) hbn bn1 rfl).trans bn1;have bxr:BoxN wr xb 67 _:=(hK.2 xb _ (by omega) hbx bx1 rfl).trans bx1;have hkr:RdL Elt.bytes (λk=>(W.heap.size<=k/\k<W1.heap.size)/\ze9 W1 k) wr (.slice ka ps.length kc) (ps.map (·.key)):=hkc.keep λk hk=>by
      obtain⟨o,ho,hc⟩:=hk.2;exact hK.2 k o (by omega) (by omega) ho hc
    have hWr:=hW1.trans hK.1;rcases zA i ps.length with hl|hl
    · have d1:decide ((i:Int)<(ps.length:Int))=true:=by simp;omega
      have hl':i<(ps.map (·.key)).length:=by simpa using hl
      obtain⟨kb,ko,A,C,rfl,kcl,krd⟩:=hkr.byt i hl';rw[wo]at kcl krd;have hin:=sIn_any wr (x:=x) (S:=(·<w0.heap.size)) (v:=.agg #[.int .i64 x.table,.slice xa x.lo.length xc,.slice xa2 x.hi.length xc2,.bool x.isOpen]) (by
        obtain⟨p1,p2,p3,p4,e,q1,q2,q3⟩:=hx0;exact⟨p1,p2,p3,p4,e,zpn q1 hWr,zpn q2 hWr,q3⟩) krd
      have hsn:=zui (x:=x) hl;have x0:=bxr.cell (i:=0) rfl;have x1:=bxr.cell (i:=1) rfl;have x2:=bxr.cell (i:=2) rfl;have x3:=bxr.cell (i:=3) rfl;cases hb:inS x ps[i].key with
      |false=>
        rw[hb]at hin hsn;rw[zh (by simp),yr]at hsn;replace hsn:=Lib.hid hsn;clear hb;go_wp2_with fail;refine hin.mono ?_;rintro e W2 ⟨rfl,hb2⟩;have hJ2:=hAb _ _ _ _ none hJ (zbm hb2) (by simp);have hK2:=hK.trans (KpB.of (n₀:=w0.heap.size) (b:=b) (hi:=hi) hb2 (by omega));have hs2:=hb2.size;go_wp2_with fail;go_roundw;case rel=>exact⟨i+1,ys,by go_num,by omega,by rw[hsn.out];exact hys,hJ2,hK2,by omega⟩
        case measure=>simp[toN];omega
      |true=>
        rw[hb]at hin hsn;rw[zi rfl]at hsn;replace hsn:=Lib.hid hsn;clear hb;go_wp2_with fail;refine hin.mono ?_;rintro e W2 ⟨rfl,hb2⟩;have hs2:=hb2.size;have hfm:=Lib.hid (znc hPO (zL hl));have hfd:=zgn W2 (zpo hr0 (hWr.trans (hb2.mono (by omega)))) hf (krd.below hb2);rw[<-hps.out,hfm.out]at hfd;have bn2:=bnr.below hb2 bnr.lt;clear x0 x1 x2 x3;have tn0:=bn2.cell0;have tn1:=bn2.cell1;have tn2:=bn2.cell2;have hJ2:=hAb _ _ _ _ none hJ (zbm hb2) (by simp);go_wp2_with fail;refine hfd.mono ?_;rintro e W3⟨ca,cc,rfl,hcr,hb3⟩;have hs3:=hb3.size;have hJ3:=hAb _ _ _ _ none hJ2 (zbm hb3) (by simp);have hb23:Below wr.heap.size wr W3:=hb2.trans (hb3.mono hs2);have hK3:=hK.trans (KpB.of (n₀:=w0.heap.size) (b:=b) (hi:=hi) hb23 (by omega));obtain⟨y,hy⟩:∃y:YEl,y=⟨A,C,ps[i].key,ca,cc,ps[i].chain⟩:=⟨_,rfl⟩;have hyp:y.pr=ps[i]:=by rw[hy];rfl
        have hgd:GdW lo hi y W3:=by
          rw[hy];exact⟨(zee (krd.below hb23)).weak λk hk=>⟨by omega,by omega,hk.2⟩,hcr.weak λk hk=>⟨by omega,hk.2⟩,⟨by omega,by omega⟩,hPB _ (zL hl),hPS _ (zL hl)⟩
        have hyl:=hY hi ys y W3 hJ3 hgd (by
          have h1:=congrArg List.length hys;obtain⟨r,h2⟩:=zqi ps x (i+1);rw[hsn.out]at h2;rw[h2]at hN;simp only[zC,zX,zI,zM]at h1 hN;omega)
        replace hys:=Lib.hid hys;have hyn:=Lib.hid (show(ys++[y]).map (·.pr)=inPk (ps.take (i+1)) x by rw[hsn.out,yW,hys.out,zn,zo,hyp]);obtain⟨fn,tmps,assign,body,hyr,hR⟩:=hyl;rw[hy]at hyr;replace hyr:(Instr.yield l #[.slice A ps[i].key.length C,.slice ca ps[i].chain.length cc]).run Tryz.prog W3=_:=hyr;replace hyp:=Lib.hid hyp;replace hgd:=Lib.hid hgd;replace hfm:=Lib.hid hfm;clear hy tn0 tn1 tn2 hfd hin;go_upto_region 5 with(fail);refine(yS (n:=2)).1 ?_;gi_wp2;refine hR.mono ?_;clear hR;rintro e W5 (⟨rfl,hJ5,hK5⟩|⟨rfl,hx5⟩)
        · gi_wp2
          go_wp2_with fail;go_roundw;case rel=>exact⟨i+1,ys++[y],by go_num,by omega,hyn.out,hJ5,hK3.trans hK5,by have:=hK5.1.size;omega⟩
          case measure=>simp[toN];omega
        · gi_wp2
          go_wp2_with fail
          (try simp only[Exit.inBlock,Exit.then]);refine zD (results_none rfl _ _ _) rfl ?_;obtain⟨r,h2⟩:=zqi ps x (i+1);exact⟨⟨_,rfl⟩,hi,.inr ⟨ys++[y],⟨r,by rw[h2,hyn.out]⟩,hx5⟩⟩
    · obtain rfl:i=ps.length:=by omega
      have d1:decide ((ps.length:Int)<(ps.length:Int))=false:=by simp
      rw[yv]at hys;replace hys:=Lib.hid hys;go_wp2_with fail;go_end0;exact⟨⟨_,rfl⟩,hi,.inl ⟨ys,hys.out,hJ⟩⟩
theorem zl3{w0 w:World}{n:Nd}{x:Sp}{N b nb xb:Nat}{v0 v1 v2 vx:Value}{us:List Value}(hr:RdN (·<w0.heap.size) w0 (.agg #[v0,v1,v2]) n)(hf:fitN n)(hx:RdSp (·<w0.heap.size) w0 vx x)(hw:Below w0.heap.size w0 w)(hnb:TriV w nb 46 v0 v1 v2)(hvx:vx=.agg us.toArray)(hxb:BoxN w xb 67 us)(hbl:b<w.heap.size)(hbn:nb≠b)(hbx:xb≠b)(hN:(inPk (prN n) x).length<=N):
  zns Tryz.prog 161 #[.pointer (some ⟨nb,0,none⟩),.pointer (some ⟨xb,0,none⟩)] YEl.enc (KpB w0.heap.size b) (GdW w.heap.size) (λys=>ys.map (·.pr)=inPk (prN n) x) (PreP (inPk (prN n) x)) N w:=λl _ _ W hW hAb _ hY h0=>
 zq8 l hr hf hx hAb hY W hW.size (hw.trans (hW.mono hw.size)) (hnb.below hW hnb.lt) us hvx (hxb.below hW hxb.lt) (zm hbl hW.size) hbn hbx h0 hN
def zo6(w:World)(l:List Pr)(k:List UInt8)(x:Ver)(e:Ending)(w':World):Prop:=
 ∃u m,e=.returned (.tuple #[u,.int .i64 ((zcl l k x).2:Nat)])/\RdN (λk=>w.heap.size<=k/\k<w'.heap.size) w' u m/\Below w.heap.size w w'/\((zcl l k x).2=0->okN m/\zac m=(zcl l k x).1)
theorem zm2 (l:List Ver)(x:Ver):(zcz l x).1.length<=l.length+1:=by
 rcases ze6 l x with⟨er,_,e⟩|⟨e,_⟩
 ·rw[e];simp
 ·rw[e];simp
theorem zud{l:List Ver}{x z:Ver}(h:z∈(zcz l x).1):z∈l\/z=x:=by
  rcases ze6 l x with⟨er,_,e⟩|⟨e,_⟩
  · rw[e]at h;exact .inl h
  · rw[e]at h
    rcases zV.1 h with h|h
    ·exact .inl h
    ·exact .inr (yL.1 h)
theorem ziw{l:List Pr}(h:Srt l)(k:List UInt8)(c:List Ver):(putP l k c).length<=l.length+1:=by
 rw[put_len h];split<;>omega
theorem zrp (w:World){S S2 S3:Nat->Prop}{v:Value}{n:Nd}{A:Option Addr}{zt6 C:Nat}{k:List UInt8}{x:Ver}{Ax:Option Addr}{nx Cx:Nat}(hr:RdN S w v n) (hok:okN n) (hl:(zac n).length<=60) (hch:∀p∈zac n,p.chain.length<=900)(hk:RdS S2 w (.slice A zt6 C) k)(hkl:k.length<=16)(hx:RdS S3 w (.slice Ax nx Cx) x.value)(hm:mayV x):
    Calls Tryz.prog 55 #[v,.slice A zt6 C,.agg #[.int .i64 x.stamp,.bool x.gone,.slice Ax nx Cx]] w (zo6 w (zac n) k x):=by
  have hr0:=hr;obtain⟨hgood,hsrt⟩:=(zdu _).1 hok.2;have hps:∀p∈zac n,zb9 p.chain:=λp hp=>zmt (hgood p hp).1 (by have:=hch p hp;omega)
  have hf:fitN n:=zms hok ⟨by omega,hps⟩;have hpr:prN n=zac n:=by unfold prN;rw[zi hok]
  obtain⟨l,hle⟩:∃l,l=zac n:=⟨_,rfl⟩;obtain rfl:=hx.len.1;obtain rfl:=hk.len.1;obtain⟨a1,c1,a2,c2,a3,c3,rfl,_,_,_⟩:=hr;obtain⟨w1,hw1⟩:∃w1,w1=w.alloc (.cells #[.slice a1 n.keys.length c1,.slice a2 n.chains.length c2,.slice a3 n.kids.length c3] 46):=⟨_,rfl⟩;obtain⟨w2,hw2⟩:∃w2,w2=w1.alloc (.cells #[.int .i64 x.stamp,.bool x.gone,.slice Ax x.value.length Cx] 100):=⟨_,rfl⟩;obtain⟨W,hW⟩:∃W,W=w2.alloc (.cells #[.slice none 0 0,.slice none 0 0,.slice none 0 0] 46):=⟨_,rfl⟩;have hs1:w1.heap.size=w.heap.size+1:=by rw[hw1];simp
  have hs2:w2.heap.size=w.heap.size+2:=by rw[hw2];simp[hs1]
  have hsW:W.heap.size=w.heap.size+3:=by rw[hW];simp[hs2]
  have k2:Below w2.heap.size w2 W:=by rw[hW];exact(ze _ _).alloc (zf _) _
  have k1:Below w1.heap.size w1 W:=(show Below w1.heap.size w1 w2 by rw[hw2];exact(ze _ _).alloc (zf _) _).trans (k2.mono (by omega));have q:Below w.heap.size w W:=(show Below w.heap.size w w1 by rw[hw1];exact(ze _ _).alloc (zf _) _).trans (k1.mono (by omega));have bn:TriV W w.heap.size 46 (.slice a1 n.keys.length c1) (.slice a2 n.chains.length c2) (.slice a3 n.kids.length c3):=(show TriV w1 w.heap.size 46 (.slice a1 n.keys.length c1) (.slice a2 n.chains.length c2) (.slice a3 n.kids.length c3)by rw[hw1];exact TriV.new _ _ _ _ _).below k1 (by omega);have bv:TriV W (w.heap.size+1) 100 (.int .i64 x.stamp) (.bool x.gone) (.slice Ax x.value.length Cx):=(show TriV w2 (w.heap.size+1) 100 (.int .i64 x.stamp) (.bool x.gone) (.slice Ax x.value.length Cx)by
    have h:=TriV.new w1 100 (.int .i64 x.stamp) (.bool x.gone) (.slice Ax x.value.length Cx);rw[hs1]at h;rw[hw2];exact h).below k2 (by omega)
  have bz:TriV W (w.heap.size+2) 46 (.slice none 0 0) (.slice none 0 0) (.slice none 0 0):=by
    have h:=TriV.new w2 46 (.slice none 0 0) (.slice none 0 0) (.slice none 0 0);rw[hs2]at h;rw[hW];exact h
  have hWW:((w.alloc (.cells #[.slice a1 n.keys.length c1,.slice a2 n.chains.length c2,.slice a3 n.kids.length c3] 46)).alloc (.cells #[.int .i64 x.stamp,.bool x.gone,.slice Ax x.value.length Cx] 100)).alloc (.cells #[.slice none 0 0,.slice none 0 0,.slice none 0 0] 46)=W:=by rw[hW,hw2,hw1]
  clear hs1 hs2 k1 k2 hw1 hw2 hW w1 w2;have hfd:=zgn W (hr0.below q) hf (hk.below q);rw[hpr,<-hle]at hfd;rw[<-hle]at hl hch hps hsrt hgood⊢;obtain⟨lo,hlo⟩:∃lo,lo=(zaw l k).getD []:=⟨_,rfl⟩;have hlos:lo.length<=900/\zb9 lo:=by
    rw[hlo];cases h:zaw l k with
    |none=>exact⟨by simp,by simp,λx hx=>by simp at hx⟩
    |some c=>
      obtain⟨p,hp,_,rfl⟩:=zde h;exact⟨hch p hp,hps p hp⟩
  have hnew:zb9 (zcz lo x).1:=⟨by have:=zm2 lo x;omega,λz hz=>by
    rcases zud hz with h|rfl
    ·exact hlos.2.2 z h
    · have:=hm.2.2.1;omega⟩
  unfold zls at hfd;rw[<-hlo]at hfd;generalize (zaw l k).isSome=fs at hfd;obtain⟨R,hR⟩:∃R,R=zcz lo x:=⟨_,rfl⟩;have hi1:zcl l k x=if R.2≠0 then([],R.2)else if 60<(putP l k R.1).length then([],40)else(putP l k R.1,0):=by
    unfold zcl;rw[hR,hlo]
  have hRc:R.2≠0\/(R.2=0/\okV R.1/\R.1≠[]):=by
    rcases ze6 lo x with⟨er,h1,h2⟩|⟨h1,h2,h3,h4⟩
    ·left;rw[hR,h2];exact h1
    · right
      rw[hR,h1];exact⟨rfl,zh8 h2 h3 h4,by simp⟩
  rw[<-hR]at hnew;have hR2:R.2<=50:=by
    rw[hR];unfold zcz;split
    · split
      ·split<;>simp
      ·simp
    ·simp
  replace hlo:=Lib.hid hlo;replace hle:=Lib.hid hle;replace hR:=Lib.hid hR;replace hlos:=Lib.hid hlos;replace hpr:=Lib.hid hpr;replace hl:=Lib.hid hl;have hgo:∀(Q:Nat×List Pr),True:=λ_=>trivial
  clear hgo;have d0:=bn.cell0;have d1:=bn.cell1;have d2:=bn.cell2;rcases hRc with hRe|⟨hR0,hRk,hRn⟩
  · have hi2:zcl l k x=([],R.2):=by rw[hi1,zi hRe]
    rw[show zo6 w l k x=λe w'=>∃u m,e=.returned (.tuple #[u,.int .i64 (R.2:Nat)])/\RdN (λk=>w.heap.size<=k/\k<w'.heap.size) w' u m/\Below w.heap.size w w'/\(R.2=0->False)from by
      funext e w';unfold zo6;rw[hi2];refine propext ⟨λ⟨u,m,h1,h2,h3,_⟩=>⟨u,m,h1,h2,h3,hRe⟩,λ⟨u,m,h1,h2,h3,_⟩=>⟨u,m,h1,h2,h3,λh=>absurd h hRe⟩⟩]
    have dR:((R.2:Int)!=0)=true:=by rw[xi];omega
    replace hi1:=Lib.hid hi1;replace hi2:=Lib.hid hi2;replace hRe:=Lib.hid hRe;go_enter Tryz.func55,Tryz.ntmps55;go_upto_region 1 with(fail)
    (try rw[hWW]);clear hWW;go_wp2_with fail;refine hfd.mono ?_;rintro e W2 ⟨fa,fc,rfl,hfr,hb2⟩;have bv2:=bv.below hb2 bv.lt;have bz2:=bz.below hb2 bz.lt;have q2:=q.trans (hb2.mono q.size);have x0:=bv2.cell0;have x1:=bv2.cell1;have x2:=bv2.cell2;clear d0 d1 d2;have hin:=ze8 W2 (x:=x) (hfr.weak λ_ _=>trivial) hlos.out.2 (((hx.below q).below hb2).weak λ_ _=>trivial) (by have:=hm.2.2.1;omega) (zlb hm);unfold zeh at hin;rw[<-hR.out]at hin;go_wp2_with fail;refine hin.mono ?_;rintro e W3⟨ia,ic,rfl,hir,hb3⟩;have bz3:=bz2.below hb3 bz2.lt;have q3:=q2.trans (hb3.mono q2.size);have hs3:=q3.size;clear x0 x1 x2;go_wp2_with(first|(refine za7 (by kernel_rfl) rfl rfl rfl rfl rfl rfl rfl rfl bz3 (λW9 hg9 bz9=>?_))|fail);have g0:=bz9.cell0;have g1:=bz9.cell1;have g2:=bz9.cell2;obtain⟨fs,hu,_,_⟩:=zc4.hu;refine zD (v:=.tuple #[.agg #[.slice none 0 0,.slice none 0 0,.slice none 0 0],.int .i64 (R.2:Nat)]) (by simp[results,Tryz.results55,go_sem,loadVar,isAgg,zr hu,zaa zc4.hs,loadCellsFrom,Addr.add,g0,g1,g2]) rfl ?_;exact⟨_,.mk [] [] [],rfl,ziv _ _,q3.trans ⟨hg9.os,hg9.tape,hg9.output,hg9.size,λk hk=>hg9.block k (by omega) (λe=>by injection e with e;omega)⟩,hRe.out⟩
  · rcases zA 60 (putP l k R.1).length with hc|hc
    · have hi2:zcl l k x=([],40):=by rw[hi1,zh (by rw[hR0];simp),zi hc]
      rw[show zo6 w l k x=λe w'=>∃u m,e=.returned (.tuple #[u,.int .i64 (40:Int)])/\RdN (λk=>w.heap.size<=k/\k<w'.heap.size) w' u m/\Below w.heap.size w w'/\(True)from by
        funext e w';unfold zo6;rw[hi2];refine propext ⟨λ⟨u,m,h1,h2,h3,_⟩=>⟨u,m,h1,h2,h3,trivial⟩,λ⟨u,m,h1,h2,h3,_⟩=>⟨u,m,h1,h2,h3,λh=>by simp at h⟩⟩]
      have d9:decide ((60:Int)<((putP l k R.1).length:Int))=true:=by simp;omega
      replace hi1:=Lib.hid hi1;replace hi2:=Lib.hid hi2;replace hc:=Lib.hid hc;replace hR0:=Lib.hid hR0;go_enter Tryz.func55,Tryz.ntmps55;go_upto_region 1 with(fail)
      (try rw[hWW]);clear hWW;go_wp2_with fail;refine hfd.mono ?_;rintro e W2 ⟨fa,fc,rfl,hfr,hb2⟩;have bv2:=bv.below hb2 bv.lt;have bz2:=bz.below hb2 bz.lt;have bn2:=bn.below hb2 bn.lt;have q2:=q.trans (hb2.mono q.size);have x0:=bv2.cell0;have x1:=bv2.cell1;have x2:=bv2.cell2;clear d0 d1 d2;have hin:=ze8 W2 (x:=x) (hfr.weak λ_ _=>trivial) hlos.out.2 (((hx.below q).below hb2).weak λ_ _=>trivial) (by have:=hm.2.2.1;omega) (zlb hm);unfold zeh at hin;rw[<-hR.out,hR0.out]at hin;go_wp2_with fail;refine hin.mono ?_;rintro e W3⟨ia,ic,rfl,hir,hb3⟩;have bz3:=bz2.below hb3 bz2.lt;have bn3:=bn2.below hb3 bn2.lt;have q3:=q2.trans (hb3.mono q2.size);have hs3:=q3.size;clear x0 x1 x2;have x0:=bn3.cell0;have x1:=bn3.cell1;have x2:=bn3.cell2;have hpt:=zfw W3 (hr0.below q3) hf (hk.below q3) (by omega) hir hnew;go_wp2_with fail;refine hpt.mono ?_;rintro e W4⟨v4,m,er,rfl,hp4,hr4,hb4⟩;obtain⟨rfl,hmk,hmp⟩:er=0/\okN m/\zac m=putP l k R.1:=by
        unfold zjm at hp4;rw[zi ⟨hok,hkl,hRk,hRn⟩,<-hle.out]at hp4;exact hp4
      clear hp4 hpt;have hmf:fitN m:=zms hmk ⟨by rw[hmp];have:=ziw hsrt k R.1;have:=hl.out;omega,by rw[hmp];exact zuw hsrt hps hnew⟩;have hmq:prN m=putP l k R.1:=by unfold prN;rw[zi hmk,hmp]
      replace hmp:=Lib.hid hmp;obtain⟨f0,h0,f1,h1,f2,h2,rfl,_,_,_⟩:=id hr4;have bz4:=bz3.below hb4 bz3.lt;have bn4:=bn3.below hb4 bn3.lt;have hs4:=hb4.size;clear x0 x1 x2;go_wp2_with(first|(refine za7 (by kernel_rfl) rfl rfl rfl rfl rfl rfl rfl rfl bn4 (λW5 hg5 bn5=>?_);have x0:=bn5.cell0;have x1:=bn5.cell1;have x2:=bn5.cell2)|fail);have hne:∀j,j<W4.heap.size->j≠w.heap.size->W5.heap[j]?=W4.heap[j]?:=λj h1 h2=>hg5.block j h1 (λe=>h2 (by injection e))
      have hs5:=hg5.size;have hm5:RdN (λk=>w.heap.size+3<=k/\k<W5.heap.size) W5 (.agg #[.slice f0 m.keys.length h0,.slice f1 m.chains.length h1,.slice f2 m.kids.length h2]) m:=(hr4.keep λj hj=>hne j hj.2 (by have:=bz3.lt;omega)).weak λj hj=>⟨by have:=bz3.lt;omega,by omega⟩
      have bz5:TriV W5 (w.heap.size+2) 46 _ _ _:=(hne _ bz4.lt (by omega)).trans bz4;have q5:Below w.heap.size w W5:=(q3.trans (hb4.mono hs3)).trans ⟨hg5.os,hg5.tape,hg5.output,hs5,λj hj=>hne j (by omega) (by omega)⟩;have hmn:=zes W5 hm5 hmf;rw[hmq]at hmn;replace hmq:=Lib.hid hmq;refine hmn.mono ?_;rintro e W6⟨rfl,hb6⟩;have bz6:=bz5.below hb6 bz5.lt;have bn6:=bn5.below hb6 bn5.lt;have hm6:=hm5.below hb6;have q6:=q5.trans (hb6.mono q5.size);have hs6:=hb6.size;clear x0 x1 x2;have x0:=bn6.cell0;have x1:=bn6.cell1;have x2:=bn6.cell2;go_wp2_with(first|(refine za7 (by kernel_rfl) rfl rfl rfl rfl rfl rfl rfl rfl bz6 (λW9 hg9 bz9=>?_))|fail);have hq9:Below w.heap.size w W9:=q6.trans ⟨hg9.os,hg9.tape,hg9.output,hg9.size,λk hk=>hg9.block k (by have:=q6.size;omega) (λe=>by injection e with e;omega)⟩;have g0:=bz9.cell0;have g1:=bz9.cell1;have g2:=bz9.cell2;obtain⟨fs,hu,_,_⟩:=zc4.hu;refine zD (v:=.tuple #[.agg #[.slice none 0 0,.slice none 0 0,.slice none 0 0],.int .i64 40]) (by simp[results,Tryz.results55,go_sem,loadVar,isAgg,zr hu,zaa zc4.hs,loadCellsFrom,Addr.add,g0,g1,g2]) rfl ?_;exact⟨_,.mk [] [] [],rfl,ziv _ _,hq9,trivial⟩
    · have hi2:zcl l k x=(putP l k R.1,0):=by rw[hi1,zh (by rw[hR0];simp),zh (Nat.not_lt.2 hc)]
      rw[show zo6 w l k x=λe w'=>∃u m,e=.returned (.tuple #[u,.int .i64 (0:Int)])/\RdN (λk=>w.heap.size<=k/\k<w'.heap.size) w' u m/\Below w.heap.size w w'/\(okN m/\zac m=putP l k R.1)from by
        funext e w';unfold zo6;rw[hi2];refine propext ⟨λ⟨u,m,h1,h2,h3,h4⟩=>⟨u,m,h1,h2,h3,h4 rfl⟩,λ⟨u,m,h1,h2,h3,h4⟩=>⟨u,m,h1,h2,h3,λ_=>h4⟩⟩]
      have d9:decide ((60:Int)<((putP l k R.1).length:Int))=false:=by simp;omega
      replace hi1:=Lib.hid hi1;replace hi2:=Lib.hid hi2;replace hc:=Lib.hid hc;replace hR0:=Lib.hid hR0;go_enter Tryz.func55,Tryz.ntmps55;go_upto_region 1 with(fail)
      (try rw[hWW]);clear hWW;go_wp2_with fail;refine hfd.mono ?_;rintro e W2 ⟨fa,fc,rfl,hfr,hb2⟩;have bv2:=bv.below hb2 bv.lt;have bz2:=bz.below hb2 bz.lt;have bn2:=bn.below hb2 bn.lt;have q2:=q.trans (hb2.mono q.size);have x0:=bv2.cell0;have x1:=bv2.cell1;have x2:=bv2.cell2;clear d0 d1 d2;have hin:=ze8 W2 (x:=x) (hfr.weak λ_ _=>trivial) hlos.out.2 (((hx.below q).below hb2).weak λ_ _=>trivial) (by have:=hm.2.2.1;omega) (zlb hm);unfold zeh at hin;rw[<-hR.out,hR0.out]at hin;go_wp2_with fail;refine hin.mono ?_;rintro e W3 ⟨ia,ic,rfl,hir,hb3⟩;have bz3:=bz2.below hb3 bz2.lt;have bn3:=bn2.below hb3 bn2.lt;have q3:=q2.trans (hb3.mono q2.size);have hs3:=q3.size;clear x0 x1 x2;have x0:=bn3.cell0;have x1:=bn3.cell1;have x2:=bn3.cell2;have hpt:=zfw W3 (hr0.below q3) hf (hk.below q3) (by omega) hir hnew;go_wp2_with fail;refine hpt.mono ?_;rintro e W4⟨v4,m,er,rfl,hp4,hr4,hb4⟩;obtain⟨rfl,hmk,hmp⟩:er=0/\okN m/\zac m=putP l k R.1:=by
        unfold zjm at hp4;rw[zi ⟨hok,hkl,hRk,hRn⟩,<-hle.out]at hp4;exact hp4
      clear hp4 hpt;have hmf:fitN m:=zms hmk ⟨by rw[hmp];have:=ziw hsrt k R.1;have:=hl.out;omega,by rw[hmp];exact zuw hsrt hps hnew⟩;have hmq:prN m=putP l k R.1:=by unfold prN;rw[zi hmk,hmp]
      replace hmp:=Lib.hid hmp;obtain⟨f0,g0,f1,g1,f2,g2,rfl,_,_,_⟩:=id hr4;have bz4:=bz3.below hb4 bz3.lt;have bn4:=bn3.below hb4 bn3.lt;have hs4:=hb4.size;clear x0 x1 x2;go_wp2_with(first|(refine za7 (by kernel_rfl) rfl rfl rfl rfl rfl rfl rfl rfl bn4 (λW5 hg5 bn5=>?_);have x0:=bn5.cell0;have x1:=bn5.cell1;have x2:=bn5.cell2)|fail);have hne:∀j,j<W4.heap.size->j≠w.heap.size->W5.heap[j]?=W4.heap[j]?:=λj h1 h2=>hg5.block j h1 (λe=>h2 (by injection e))
      have hs5:=hg5.size;have hm5:RdN (λk=>w.heap.size+3<=k/\k<W5.heap.size) W5 (.agg #[.slice f0 m.keys.length g0,.slice f1 m.chains.length g1,.slice f2 m.kids.length g2]) m:=(hr4.keep λj hj=>hne j hj.2 (by have:=bz3.lt;omega)).weak λj hj=>⟨by have:=bz3.lt;omega,by omega⟩
      have bz5:TriV W5 (w.heap.size+2) 46 _ _ _:=(hne _ bz4.lt (by omega)).trans bz4;have q5:Below w.heap.size w W5:=(q3.trans (hb4.mono hs3)).trans ⟨hg5.os,hg5.tape,hg5.output,hs5,λj hj=>hne j (by omega) (by omega)⟩;have hmn:=zes W5 hm5 hmf;rw[hmq]at hmn;replace hmq:=Lib.hid hmq;refine hmn.mono ?_;rintro e W6 ⟨rfl,hb6⟩;have bz6:=bz5.below hb6 bz5.lt;have bn6:=bn5.below hb6 bn5.lt;have hm6:=hm5.below hb6;have q6:=q5.trans (hb6.mono q5.size);have hs6:=hb6.size;clear x0 x1 x2;have x0:=bn6.cell0;have x1:=bn6.cell1;have x2:=bn6.cell2;go_wp2_with(first|(refine za7 (by kernel_rfl) rfl rfl rfl rfl rfl rfl rfl rfl bz6 (λW9 hg9 bz9=>?_))|fail);have hq9:Below w.heap.size w W9:=q6.trans ⟨hg9.os,hg9.tape,hg9.output,hg9.size,λk hk=>hg9.block k (by have:=q6.size;omega) (λe=>by injection e with e;omega)⟩;have y0:=bz9.cell0;have y1:=bz9.cell1;have y2:=bz9.cell2;obtain⟨fs,hu,_,_⟩:=zc4.hu;refine zD (v:=.tuple #[.agg #[.slice f0 m.keys.length g0,.slice f1 m.chains.length g1,.slice f2 m.kids.length g2],.int .i64 0]) (by simp[results,Tryz.results55,go_sem,loadVar,isAgg,zr hu,zaa zc4.hs,loadCellsFrom,Addr.add,y0,y1,y2]) rfl ?_;exact⟨_,m,rfl,(hm6.keep λk hk=>hg9.block k (by omega) (λe=>by injection e with e;omega)).weak λk hk=>⟨by omega,by have:=hg9.size;omega⟩,hq9,hmk,hmp.out⟩
def FndW (p:Wr->Bool)(l:List Wr)(v:Int):Prop:=(v=-1/\∀y∈l,p y=false)\/∃(j:Nat)(h:j<l.length),v=(j:Int)/\p l[j]=true/\∀y∈l.take j,p y=false
def TellsW (F:FuncId)(bs caps:Array Value)(S:Nat->Prop)(w:World)(p:Wr->Bool):Prop:=
 ∀(W:World)(v:Value)(x:Wr),Below w.heap.size w W->RdWr S W v x->Calls Tryz.prog F (bs++#[v]++caps) W λe W'=>e=.returned (.bool (p x))/\Below W.heap.size W W'
theorem zq9 (w:World){S:Nat->Prop}{a:Option Addr}{n c:Nat}{l:List Wr}(hl:RdL Elt.wr S w (.slice a n c) l)(F:FuncId)(bs caps:Array Value)(hE:Enters Tryz.prog F)(p:Wr->Bool)(hF:TellsW F bs caps S w p):Calls Tryz.prog 84 #[.slice a n c,.func (.func F) bs caps] w λe w'=>∃i:Int,e=.returned (.int .i64 i)/\FndW p l i/\Below w.heap.size w w':=by
  obtain⟨rfl,hnc,hcm⟩:=hl.len;have hlm:l.length<=9223372036854775807:=by unfold maxLen at hcm;omega
  have hEE:=hE;unfold Enters at hEE;have q:=ze w.heap.size w;go_enter Tryz.func84,Tryz.ntmps84;go_upto_region 2 with(fail);go_loopw [5,8] (λ_ iv wr=>∃(k:Nat),iv=.int .i64 k/\k<=l.length/\(∀x∈l.take k,p x=false)/\Below w.heap.size w wr)(λ_ i _=>l.length-(intOf i).toNat)
  case atStart=>exact⟨0,rfl,zH _,by simp,q⟩
  case round=>
    clear q;obtain⟨k,rfl,hkl,hall,q⟩:=hrel;replace hall:=Lib.hid hall;rcases zA k l.length with hlt|hge
    · obtain⟨b,off,A,C,A2,C2,rfl,hb,c0,c1,c2,c3,hk1,hk2,hw64⟩:=(hl.below q).wr k hlt
      have hw:RdWr S wr (.agg #[.int .i64 l[k].table,.slice A l[k].key.length C,.bool l[k].gone,.slice A2 l[k].val.length C2]) l[k]:=⟨A,C,A2,C2,rfl,hk1,hk2,hw64⟩;go_upto_region 4 with(fail);go_wp2_with fail;refine(hF wr _ _ q hw).mono ?_;rintro e w1 ⟨rfl,hb1⟩;replace q:=q.trans (hb1.mono q.size);clear c0 c1 c2 c3 hk1 hk2 hw;cases hm:p l[k]with
      |false=>
        have hall2:=Lib.hid (show∀x∈l.take (k+1),p x=false fromλx hx=>by
          rw[yZ hlt]at hx;rcases zV.1 hx with h|h
          ·exact hall.out x h
          ·simp at h;rw[h];exact hm)
        clear hall hm;go_wp2_with fail;go_roundw;case rel=>exact⟨k+1,by go_num,by omega,hall2.out,q⟩
        case measure=>simp[intOf];omega
      |true=>
        replace hm:=Lib.hid hm;go_wp2_with fail;go_ret;exact⟨_,rfl,.inr ⟨k,hlt,rfl,hm.out,hall.out⟩,q⟩
    · obtain rfl:k=l.length:=by omega
      have hno:=Lib.hid (show∀x∈l,p x=false fromλx hx=>hall.out x (by rw[yv];exact hx));clear hall;go_wp2_with fail;go_ret;exact⟨_,rfl,.inl ⟨rfl,hno.out⟩,q⟩
theorem fndW_any{p:Wr->Bool}{l:List Wr}{i:Int}(h:FndW p l i):decide (0<=i)=l.any p:=by
 rcases h with⟨h1,h2⟩|⟨j,h1,h2,h3,_⟩
 · rw[zj (by omega),List.any_eq_false.2 λx hx=>by simp[h2 x hx]]
 · rw[zk (by omega),List.any_eq_true.2 ⟨_,zL h1,h3⟩]
theorem zkl(w:World){S:Nat->Prop}{a:Option Addr}{n c:Nat}{l:List Wr}(hl:RdL Elt.wr S w (.slice a n c) l)(F:FuncId)(bs caps:Array Value)(hE:Enters Tryz.prog F)(p:Wr->Bool)(hF:TellsW F bs caps S w p):Calls Tryz.prog 53 #[.slice a n c,.func (.func F) bs caps] w λe w'=>e=.returned (.bool (l.any p))/\Below w.heap.size w w':=by
 go_enter Tryz.func53,Tryz.ntmps53;go_wp2_with fail;refine(zq9 w hl F bs caps hE p hF).mono ?_;rintro e w1⟨i,rfl,hi,hb⟩;have hd:=Lib.hid (fndW_any hi);clear hi;go_wp2_with fail;go_ret;exact⟨by first|(rw[hd.out];done)|(rw[<-hd.out];rfl),hb⟩
def badW (s:Int)(x:Wr):Bool:=!(decide (0<=x.table)&&decide (x.table<4)&&(decide (x.key.length<=16)&&decide (okV [verW x s])))
theorem one_wr{S:Nat->Prop}{W:World}{x:Wr}{A2:Option Addr}{C2:Nat}{s:Int}{g:Nat}(hv:RdS S W (.slice A2 x.val.length C2) x.val)(hi:I64' s)(hb:BoxN W g 100 [.int .i64 s,.bool x.gone,.slice A2 x.val.length C2]):RdL Elt.ver (λk=>S k\/k=g) W (.slice (some ⟨g,0,none⟩) 1 1) [verW x s]:=
 ⟨some ⟨g,0,none⟩,1,rfl,zf _,by unfold maxLen;omega,.inr ⟨g,0,rfl,.inr rfl,λr hr=>by
  obtain rfl:r=0:=by simp at hr;omega
  exact⟨_,⟨_,rfl,hv.weak λ_ h=>.inl h,hi⟩,λj u hj=>by simpa using hb.cell hj⟩⟩⟩
theorem zqx (w:World){S:Nat->Prop}{v:Value}{x:Wr}{sb:Nat}{s:Int}(hx:RdWr S w v x)(hs:w.cell? ⟨sb,0,none⟩=some (.int .i64 s))(hi:I64' s):Calls Tryz.prog 49 #[v,.pointer (some ⟨sb,0,none⟩)] w λe w'=>e=.returned (.bool (badW s x))/\Below w.heap.size w w':=by
  obtain⟨a,c,a2,c2,rfl,hk,hv,h64⟩:=hx;have hsl:=zad hs;obtain⟨W,hW⟩:∃W,W=w.alloc (.cells #[.int .i64 x.table,.slice a x.key.length c,.bool x.gone,.slice a2 x.val.length c2] 62):=⟨_,rfl⟩;have q:Below w.heap.size w W:=by rw[hW];exact(ze _ _).alloc (zf _) _
  have bx:BoxN W w.heap.size 62 [.int .i64 x.table,.slice a x.key.length c,.bool x.gone,.slice a2 x.val.length c2]:=by rw[hW];exact BoxN.new _ _ _
  have hsW:W.cell? ⟨sb,0,none⟩=some (.int .i64 s):=(q.cell (p:=⟨sb,0,none⟩) hsl).trans hs;have hvW:=hv.below q;have c0:=bx.cell (i:=0) rfl;have c1:=bx.cell (i:=1) rfl;have c3:=bx.cell (i:=2) rfl;have c4:=bx.cell (i:=3) rfl;have hkn:=zm0 W x.table;go_enter Tryz.func49,Tryz.ntmps49;go_upto_region 1 with(fail);rw[<-hW];clear hW;cases hkb:(decide (0<=x.table)&&decide (x.table<4))with
  |false=>
    rw[hkb]at hkn;have H:=Lib.hid (show badW s x=true by unfold badW;rw[hkb];rfl);go_wp2_with fail;refine hkn.mono ?_;rintro e W' ⟨rfl,hw'⟩;obtain rfl:W=W':=hw'.symm;go_wp2_with fail;go_ret;exact⟨by first|(rw[H.out];done)|(rw[H.out];rfl),q⟩
  |true=>
    rw[hkb]at hkn;go_wp2_with fail;refine hkn.mono ?_;rintro e W'⟨rfl,hw'⟩;obtain rfl:W=W':=hw'.symm;rcases zA 16 x.key.length with h16|h16
    · have d1:decide ((16:Int)<(x.key.length:Int))=true:=by simp;omega
      have H:=Lib.hid (show badW s x=true by unfold badW;rw[hkb,zj (Nat.not_le.2 h16)];rfl);clear h16;go_wp2_with fail;go_ret;exact⟨by first|(rw[H.out];done)|(rw[H.out];rfl),q⟩
    · have d1:decide ((16:Int)<(x.key.length:Int))=false:=by simp;omega
      have H:=Lib.hid (show badW s x=!decide (okV [verW x s])by unfold badW;rw[hkb,zk h16];rfl);clear h16;have hve:=zin W x a a2 c c2 s;go_wp2_with fail;refine hve.mono ?_;rintro e W2⟨rfl,hb2⟩;obtain⟨W3,hW3⟩:∃W3,W3=W2.alloc (.cells #[.int .i64 s,.bool x.gone,.slice a2 x.val.length c2] 100):=⟨_,rfl⟩;have hb3:Below W2.heap.size W2 W3:=by rw[hW3];exact(ze _ _).alloc (zf _) _
      have b3:BoxN W3 W2.heap.size 100 [.int .i64 s,.bool x.gone,.slice a2 x.val.length c2]:=by rw[hW3];exact BoxN.new _ _ _
      have hch:=zeg W3 (one_wr ((hvW.below hb2).below hb3) hi b3);have q3:=q.trans ((hb2.mono q.size).trans (hb3.mono (by have:=q.size;have:=hb2.size;omega)));go_wp2_with fail;rw[<-hW3];refine hch.mono ?_;rintro e W4⟨rfl,hb4⟩;go_wp2_with fail;go_ret;exact⟨by first|(rw[H.out];done)|(rw[H.out];rfl),q3.trans (hb4.mono q3.size)⟩
def zcr (T:Sto)(s:Int)(l:List Wr):Tb×Nat:=if okS T/\1<=s/\s<2147483648/\l.any (badW s)=false then goI (tabS T) (tabS T) s l else(tabS T,1)
theorem zvh{s:Int}{x:Wr}(h:badW s x=false):0<=x.table/\x.table<4/\x.key.length<=16/\mayV (verW x s):=by
 unfold badW at h;simp only[Bool.not_eq_false',yk,yP]at h;obtain⟨⟨h1,h2⟩,h3,h4⟩:=h;exact⟨h1,h2,h3,(h4 0 (by simp)).1⟩
structure InS (T:Sto)(s:Int)(l:List Wr)(K i:Nat)(T':Sto)(Lc:Tb):Prop where
 go:goI (tabS T) (tabS T) s l=goI (tabS T) Lc s (l.drop i)
 ok:∀j,j<4->okN (T' j)/\zac (T' j)=Lc j
 len:∀j,j<4->(Lc j).length<=60
 ch:∀j,j<4->∀p∈Lc j,p.chain.length<=K+i
theorem InS.start{T:Sto}{s:Int}{l:List Wr}{K:Nat}(hk:okS T)(hc:∀j,j<4->∀p∈prN (T j),p.chain.length<=K):InS T s l K 0 T (tabS T)where
 go:=rfl;ok j hj:=⟨(hk j hj).1,by unfold tabS prN;rw[zi (hk j hj).1]⟩;len j hj:=(hk j hj).2;ch:=hc
theorem InS.err{T T':Sto}{s:Int}{l:List Wr}{K i:Nat}{Lc:Tb}(h:InS T s l K i T' Lc)(hi:i<l.length)(he:(zcl (Lc l[i].table.toNat) l[i].key (verW l[i] s)).2≠0):goI (tabS T) (tabS T) s l=(tabS T,(zcl (Lc l[i].table.toNat) l[i].key (verW l[i] s)).2):=by
 rw[h.go,yQ hi];unfold goI;rw[zi he]
theorem putP_mem{l:List Pr}(h:Srt l){k:List UInt8}{c:List Ver}{p:Pr}(hp:p∈putP l k c):p=⟨k,c⟩\/p∈l:=by
 rw[zek h]at hp;exact zhg hp
theorem InS.step{T T':Sto}{s:Int}{l:List Wr}{K i:Nat}{Lc:Tb}(h:InS T s l K i T' Lc) (hi:i<l.length) (hb:badW s l[i]=false) (he:(zcl (Lc l[i].table.toNat) l[i].key (verW l[i] s)).2=0){m:Nd}(hm:okN m/\zac m=(zcl (Lc l[i].table.toNat) l[i].key (verW l[i] s)).1):InS T s l K (i+1) (λj=>if j=l[i].table.toNat then m else T' j) (λj=>if j=l[i].table.toNat then(zcl (Lc l[i].table.toNat) l[i].key (verW l[i] s)).1 else Lc j):=by
  obtain⟨b1,b2,_,_⟩:=zvh hb;have ht:l[i].table.toNat<4:=by omega
  have hsr:Srt (Lc l[i].table.toNat):=by
    rw[<-(h.ok _ ht).2];exact ztx (h.ok _ ht).1
  have hst:(zcl (Lc l[i].table.toNat) l[i].key (verW l[i] s)).1=putP (Lc l[i].table.toNat) l[i].key (zcz ((zaw (Lc l[i].table.toNat) l[i].key).getD []) (verW l[i] s)).1/\(putP (Lc l[i].table.toNat) l[i].key (zcz ((zaw (Lc l[i].table.toNat) l[i].key).getD []) (verW l[i] s)).1).length<=60:=by
    revert he;unfold zcl;dsimp only;split
    · rename_i h1;intro h2;exact absurd h2 h1
    · split
      ·intro h2;cases h2
      · rename_i h2;exactλ_=>⟨rfl,by omega⟩
  refine⟨?_,λj hj=>?_,λj hj=>?_,λj hj p hp=>?_⟩
  · rw[h.go,yQ hi]
    conv=>lhs;unfold goI
    rw[zh (by rw[he];simp)];have:setT Lc l[i].table (zcl (Lc l[i].table.toNat) l[i].key (verW l[i] s)).1=λj=>if j=l[i].table.toNat then(zcl (Lc l[i].table.toNat) l[i].key (verW l[i] s)).1 else Lc j:=by
      funext j;unfold setT;by_cases e:j=l[i].table.toNat
      · rw[zi e,zi (by omega)]
      · rw[zh e,zh (by omega)]
    rw[this]
  · split
    ·exact hm
    ·exact h.ok j hj
  · split
    · rw[hst.1];exact hst.2
    ·exact h.len j hj
  · split at hp
    · rw[hst.1]at hp
      rcases putP_mem hsr hp with rfl|hp
      · have h1:=zm2 ((zaw (Lc l[i].table.toNat) l[i].key).getD []) (verW l[i] s)
        have h2:((zaw (Lc l[i].table.toNat) l[i].key).getD []).length<=K+i:=by
          cases hf:zaw (Lc l[i].table.toNat) l[i].key with
          |none=>simp
          |some c=>
            obtain⟨p,hp,_,rfl⟩:=zde hf;exact h.ch _ ht p hp
        show(zcz _ _).1.length<=_;omega
      · have:=h.ch _ ht p hp
        omega
    · have:=h.ch j hj p hp
      omega
theorem InS.done{T T':Sto}{s:Int}{l:List Wr}{K:Nat}{Lc:Tb}(h:InS T s l K l.length T' Lc):goI (tabS T) (tabS T) s l=(Lc,0):=by
 rw[h.go,List.drop_length];rfl
def InQ (R:List Pr×Nat)(m:Nd)(er:Nat):Prop:=er=R.2/\(R.2=0->okN m/\zac m=R.1)
def InT(T:Sto)(s:Int)(l:List Wr)(K:Nat)(T':Sto):Prop:=((zcr T s l).2≠0->T'=T)/\((zcr T s l).2=0->okS T/\∀j,j<4->okN (T' j)/\zac (T' j)=(zcr T s l).1 j/\(zac (T' j)).length<=60/\∀p∈zac (T' j),p.chain.length<=K+l.length)
def InsEnd (w:World)(T:Sto)(s:Int)(l:List Wr)(K:Nat)(e:Ending)(w':World):Prop:=∃u T',e=.returned (.tuple #[u,.int .i64 ((zcr T s l).2:Nat)])/\RdSt (λk=>w.heap.size<=k/\k<w'.heap.size) w' u T'/\Below w.heap.size w w'/\InT T s l K T'
theorem InT.err{T:Sto}{s:Int}{l:List Wr}{K:Nat}(h:(zcr T s l).2≠0):InT T s l K T:=⟨λ_=>rfl,λh2=>absurd h2 h⟩
theorem sInstall_any(w:World){S S2:Nat->Prop}{v:Value}{T:Sto}{s:Int}{aw:Option Addr}{nw cw:Nat}{l:List Wr}{K:Nat}(hr:RdSt S w v T)(hf:fitS T)(hi:I64' s)(hl:RdL Elt.wr S2 w (.slice aw nw cw) l)(hc:okS T->∀j,j<4->∀p∈prN (T j),p.chain.length<=K)(hK:K+l.length<=900):Calls Tryz.prog 25 #[v,.int .i64 s,.slice aw nw cw] w (InsEnd w T s l K):=by
  have hr0:=hr;obtain⟨rfl,hlc,hlm⟩:=hl.len;obtain⟨a,m,c,rfl,hx⟩:=hr;obtain⟨w1,hw1⟩:∃w1,w1=w.alloc (.cells #[.slice (a 0) (m 0) (c 0),.slice (a 1) (m 1) (c 1),.slice (a 2) (m 2) (c 2),.slice (a 3) (m 3) (c 3),.slice (a 4) (m 4) (c 4),.slice (a 5) (m 5) (c 5),.slice (a 6) (m 6) (c 6),.slice (a 7) (m 7) (c 7),.slice (a 8) (m 8) (c 8),.slice (a 9) (m 9) (c 9),.slice (a 10) (m 10) (c 10),.slice (a 11) (m 11) (c 11)] 49):=⟨_,rfl⟩;obtain⟨w2,hw2⟩:∃w2,w2=w1.alloc (.cells #[.int .i64 s] 3):=⟨_,rfl⟩;obtain⟨W,hW⟩:∃W,W=w2.alloc (.cells #[.slice none 0 0,.slice none 0 0,.slice none 0 0,.slice none 0 0,.slice none 0 0,.slice none 0 0,.slice none 0 0,.slice none 0 0,.slice none 0 0,.slice none 0 0,.slice none 0 0,.slice none 0 0] 49):=⟨_,rfl⟩;have hs1:w1.heap.size=w.heap.size+1:=by rw[hw1];simp
  have hs2:w2.heap.size=w.heap.size+2:=by rw[hw2];simp[hs1]
  have hsW:w.heap.size+3=W.heap.size:=by rw[hW];simp[hs2]
  have k2:Below w2.heap.size w2 W:=by rw[hW];exact(ze _ _).alloc (zf _) _
  have k1:Below w1.heap.size w1 W:=(show Below w1.heap.size w1 w2 by rw[hw2];exact(ze _ _).alloc (zf _) _).trans (k2.mono (by omega));have q:Below w.heap.size w W:=(show Below w.heap.size w w1 by rw[hw1];exact(ze _ _).alloc (zf _) _).trans (k1.mono (by omega));have bn:StB W w.heap.size a m c:=BoxN.below (show BoxN w1 w.heap.size 49 (bxS a m c)by rw[hw1];exact BoxN.new _ _ (bxS a m c)) k1 (by omega);have bs:Boxed W (w.heap.size+1) 3 (.int .i64 s):=(k2.block _ (by omega)).trans (show Boxed w2 (w.heap.size+1) 3 (.int .i64 s)by
    have h:=Boxed.new w1 3 (.int .i64 s);rw[hs1]at h;rw[hw2];exact h)
  have bz:BoxN W (w.heap.size+2) 49 [.slice none 0 0,.slice none 0 0,.slice none 0 0,.slice none 0 0,.slice none 0 0,.slice none 0 0,.slice none 0 0,.slice none 0 0,.slice none 0 0,.slice none 0 0,.slice none 0 0,.slice none 0 0]:=by
    have h:=BoxN.new w2 49 [.slice none 0 0,.slice none 0 0,.slice none 0 0,.slice none 0 0,.slice none 0 0,.slice none 0 0,.slice none 0 0,.slice none 0 0,.slice none 0 0,.slice none 0 0,.slice none 0 0,.slice none 0 0];rw[hs2]at h;rw[hW];exact h
  have hWW:((w.alloc (.cells #[.slice (a 0) (m 0) (c 0),.slice (a 1) (m 1) (c 1),.slice (a 2) (m 2) (c 2),.slice (a 3) (m 3) (c 3),.slice (a 4) (m 4) (c 4),.slice (a 5) (m 5) (c 5),.slice (a 6) (m 6) (c 6),.slice (a 7) (m 7) (c 7),.slice (a 8) (m 8) (c 8),.slice (a 9) (m 9) (c 9),.slice (a 10) (m 10) (c 10),.slice (a 11) (m 11) (c 11)] 49)).alloc (.cells #[.int .i64 s] 3)).alloc (.cells #[.slice none 0 0,.slice none 0 0,.slice none 0 0,.slice none 0 0,.slice none 0 0,.slice none 0 0,.slice none 0 0,.slice none 0 0,.slice none 0 0,.slice none 0 0,.slice none 0 0,.slice none 0 0] 49)=W:=by rw[hW,hw2,hw1]
  clear hs1 hs2 k1 k2 hw1 hw2 hW w1 w2;have hch:=zg8 W (hr0.below q) hf;have ss:=bs.cell;go_enter Tryz.func25,Tryz.ntmps25;go_upto_region 1 with(fail);(try rw[hWW]);clear hWW;obtain⟨d0,d1,d2,d3,d4,d5,d6,d7,d8,d9,d10,d11⟩:=bn.c12;by_cases hok:okS T
  · rw[zk hok]at hch
    go_wp2_with fail;refine hch.mono ?_;rintro e W2⟨rfl,hb2⟩;have bn2:StB W2 w.heap.size a m c:=bn.below hb2 bn.lt;have bs2:Boxed W2 (w.heap.size+1) 3 (.int .i64 s):=(hb2.block _ bs.lt).trans bs;have bz2:=bz.below hb2 bz.lt;have q2:=q.trans (hb2.mono q.size);clear ss d0 d1 d2 d3 d4 d5 d6 d7 d8 d9 d10 d11;have ss:=bs2.cell;by_cases h1:1<=s
    · have e1:decide (s<1)=false:=by simp;omega
      by_cases h2:s<2147483648
      · have e2:decide (2147483647<s)=false:=by simp;omega
        have hcon:=zkl W2 ((hl.below q).below hb2) 49 #[] #[.pointer (some ⟨w.heap.size+1,0,none⟩)] (enters_of Tryz.func49 (by kernel_rfl) rfl) (badW s) (λV v x hV hx=>zqx V hx ((hV.cell (p:=⟨w.heap.size+1,0,none⟩) bs2.lt).trans bs2.cell) hi);cases hbad:l.any (badW s)with
        |true=>
          rw[hbad]at hcon;have H2:=Lib.hid (show(zcr T s l).2=1 from by unfold zcr;rw[zh (λh=>by rw[hbad]at h;cases h.2.2.2)]);have H:=Lib.hid (InT.err (K:=K) (show(zcr T s l).2≠0 by rw[H2.out];simp));clear hbad h1 h2 hok;go_wp2_with fail;refine hcon.mono ?_;rintro e W3⟨rfl,hb3⟩;have qE:=q2.trans (hb3.mono q2.size);have bnE:StB W3 w.heap.size a m c:=bn2.below hb3 bn2.lt;have bzE:=bz2.below hb3 bz2.lt;clear ss;have hcp:=zdd W3 (hr0.below qE) hf;obtain⟨d0,d1,d2,d3,d4,d5,d6,d7,d8,d9,d10,d11⟩:=bnE.c12;go_wp2_with fail;refine hcp.mono ?_;rintro e Wc⟨vc,rfl,⟨ac,mc,cc,rfl,hcc⟩,hbc⟩;have bzc:=bzE.below hbc bzE.lt;clear d0 d1 d2 d3 d4 d5 d6 d7 d8 d9 d10 d11;go_wp2_with(first|(refine zab (us:=[.slice (ac 0) (mc 0) (cc 0),.slice (ac 1) (mc 1) (cc 1),.slice (ac 2) (mc 2) (cc 2),.slice (ac 3) (mc 3) (cc 3),.slice (ac 4) (mc 4) (cc 4),.slice (ac 5) (mc 5) (cc 5),.slice (ac 6) (mc 6) (cc 6),.slice (ac 7) (mc 7) (cc 7),.slice (ac 8) (mc 8) (cc 8),.slice (ac 9) (mc 9) (cc 9),.slice (ac 10) (mc 10) (cc 10),.slice (ac 11) (mc 11) (cc 11)]) (by kernel_rfl) rfl rfl rfl rfl rfl rfl bzc rfl (λW9 hg9 bx9=>?_))|fail);have bx9':StB W9 (w.heap.size+2) ac mc cc:=bx9;obtain⟨d0,d1,d2,d3,d4,d5,d6,d7,d8,d9,d10,d11⟩:=bx9'.c12;refine zD (v:=.tuple #[.agg #[.slice (ac 0) (mc 0) (cc 0),.slice (ac 1) (mc 1) (cc 1),.slice (ac 2) (mc 2) (cc 2),.slice (ac 3) (mc 3) (cc 3),.slice (ac 4) (mc 4) (cc 4),.slice (ac 5) (mc 5) (cc 5),.slice (ac 6) (mc 6) (cc 6),.slice (ac 7) (mc 7) (cc 7),.slice (ac 8) (mc 8) (cc 8),.slice (ac 9) (mc 9) (cc 9),.slice (ac 10) (mc 10) (cc 10),.slice (ac 11) (mc 11) (cc 11)],.int .i64 1]) (by simp[results,Tryz.results25,go_sem,loadVar,isAgg,zr Tryz.underlying49,zaa (show(Tryz.prog.info? 49).map (·.size)=some 12 by kernel_rfl),loadCellsFrom,Addr.add,d0,d1,d2,d3,d4,d5,d6,d7,d8,d9,d10,d11]) rfl ?_;have hs9:=hg9.size;have hsE:=qE.size;have hsc:=hbc.size;have hzl:=bzE.lt;have hne:∀k,k<Wc.heap.size->k≠w.heap.size+2->W9.heap[k]?=Wc.heap[k]?:=λk h1 h2=>hg9.block k h1 (λe=>h2 (by injection e))
          refine⟨_,T,by rw[H2.out];rfl,⟨ac,mc,cc,rfl,λj hj=>((hcc j hj).keep λk hk=>hne k hk.2 (by omega)).weak λk hk=>⟨by omega,by omega⟩⟩,(qE.trans (hbc.mono hsE)).trans ⟨hg9.os,hg9.tape,hg9.output,hs9,λk hk=>hne k (by omega) (by omega)⟩,H.out⟩
        |false=>
          rw[hbad]at hcon;have hII:=Lib.hid (show zcr T s l=goI (tabS T) (tabS T) s l from by unfold zcr;rw[zi ⟨hok,h1,h2,hbad⟩]);have hno:∀x∈l,badW s x=false:=λx hx=>by
            cases hx2:badW s x with
            |false=>rfl
            |true=>rw[List.any_eq_true.2 ⟨x,hx,hx2⟩]at hbad;cases hbad
          replace hno:=Lib.hid hno;clear hbad h1 h2;go_wp2_with fail;refine hcon.mono ?_;rintro e W3⟨rfl,hb3⟩;have bn3:StB W3 w.heap.size a m c:=bn2.below hb3 bn2.lt;have bs3:Boxed W3 (w.heap.size+1) 3 (.int .i64 s):=(hb3.block _ bs2.lt).trans bs2;have bz3:=bz2.below hb3 bz2.lt;have q3:=q2.trans (hb3.mono q2.size);clear ss;have hcp:=zdd W3 (hr0.below q3) hf;obtain⟨d0,d1,d2,d3,d4,d5,d6,d7,d8,d9,d10,d11⟩:=bn3.c12;go_wp2_with fail;refine hcp.mono ?_;rintro e W4⟨v4,rfl,⟨a1,m1,c1,rfl,hcp⟩,hb4⟩;obtain⟨W5,hW5⟩:∃W5,W5=W4.alloc (.cells #[.slice (a1 0) (m1 0) (c1 0),.slice (a1 1) (m1 1) (c1 1),.slice (a1 2) (m1 2) (c1 2),.slice (a1 3) (m1 3) (c1 3),.slice (a1 4) (m1 4) (c1 4),.slice (a1 5) (m1 5) (c1 5),.slice (a1 6) (m1 6) (c1 6),.slice (a1 7) (m1 7) (c1 7),.slice (a1 8) (m1 8) (c1 8),.slice (a1 9) (m1 9) (c1 9),.slice (a1 10) (m1 10) (c1 10),.slice (a1 11) (m1 11) (c1 11)] 49):=⟨_,rfl⟩;have b5:Below W4.heap.size W4 W5:=by rw[hW5];exact(ze _ _).alloc (zf _) _
          have bx:StB W5 W4.heap.size a1 m1 c1:=by rw[hW5];exact BoxN.new _ _ (bxS a1 m1 c1)
          have hs4:=hb4.size;have hs5:=b5.size;have hs3:w.heap.size+3<=W3.heap.size:=by have:=bz3.lt;omega
          have hb45:=(hb4.mono (zf _)).trans (b5.mono hs4);have bn5:StB W5 w.heap.size a m c:=bn3.below hb45 bn3.lt;have bs5:Boxed W5 (w.heap.size+1) 3 (.int .i64 s):=(hb45.block _ bs3.lt).trans bs3;have bz5:=bz3.below hb45 bz3.lt;have q5:=q3.trans (hb45.mono q3.size);replace hcp:∀j,j<4->RdN (λk=>w.heap.size+3<=k/\k<W5.heap.size/\k≠W4.heap.size) W5 (.agg #[.slice (a1 (3*j)) (m1 (3*j)) (c1 (3*j)),.slice (a1 (3*j+1)) (m1 (3*j+1)) (c1 (3*j+1)),.slice (a1 (3*j+2)) (m1 (3*j+2)) (c1 (3*j+2))]) (T j):=λj hj=>((hcp j hj).keep λk hk=>b5.block k hk.2).weak λk hk=>⟨by omega,by omega,by omega⟩
          clear d0 d1 d2 d3 d4 d5 d6 d7 d8 d9 d10 d11;go_upto_region 5 with(fail);rw[<-hW5];clear hW5;go_wp2_with fail;go_loopw[37](λv wr=>∃(i:Nat) (a2:Nat->Option Addr) (m2 c2:Nat->Nat) (T':Sto) (Lc:Tb),v=.int .i64 (i:Int)/\i<=l.length/\Below W4.heap.size W5 wr/\StB wr W4.heap.size a2 m2 c2/\InS T s l K i T' Lc/\∀j,j<4->RdN (λk=>w.heap.size+3<=k/\k<wr.heap.size/\k≠W4.heap.size) wr (.agg #[.slice (a2 (3*j)) (m2 (3*j)) (c2 (3*j)),.slice (a2 (3*j+1)) (m2 (3*j+1)) (c2 (3*j+1)),.slice (a2 (3*j+2)) (m2 (3*j+2)) (c2 (3*j+2))]) (T' j)) (λv _=>l.length-toN v)
          case atStart=>exact⟨0,a1,m1,c1,T,tabS T,rfl,by omega,ze _ _|>.mono (by omega),bx,InS.start hok (hc hok),hcp⟩
          case round=>
            obtain⟨i,a2,m2,c2,T',Lc,rfl,hil,hb,bx,hIS,hA⟩:=hrel;replace hA:=Lib.hid hA;have hbl:=bx.lt;have qw:Below w.heap.size w wr:=q5.trans (hb.mono (by omega));have hsz:=hb.size;rcases zA i l.length with hlt0|hge
            · have dl:decide ((i:Int)<(l.length:Int))=true:=by simp;omega
              obtain⟨lb,lo,kA,kC,vA,vC,rfl,_,c0,c1',c2',c3,hk1,hv1,h64⟩:=(hl.below qw).wr i hlt0;have hbx:=zvh (hno.out _ (zL hlt0));obtain⟨x,hxe⟩:∃x,x=l[i]:=⟨_,rfl⟩;rw[<-hxe]at c0 c1' c2' c3 hk1 hv1 h64 hbx;replace hxe:=Lib.hid hxe;obtain⟨ht0,ht4,hb16,hmay⟩:=hbx;obtain⟨W7,hW7⟩:∃W7,W7=wr.alloc (.cells #[.int .i64 x.table,.slice kA x.key.length kC,.bool x.gone,.slice vA x.val.length vC] 62):=⟨_,rfl⟩;have b7:Below wr.heap.size wr W7:=by rw[hW7];exact(ze _ _).alloc (zf _) _
              have bw:BoxN W7 wr.heap.size 62 [.int .i64 x.table,.slice kA x.key.length kC,.bool x.gone,.slice vA x.val.length vC]:=by rw[hW7];exact BoxN.new _ _ _
              replace bx:StB W7 W4.heap.size a2 m2 c2:=bx.below b7 bx.lt;have hb57:Below W4.heap.size W5 W7:=hb.trans (b7.mono (by omega));have bs:Boxed W7 (w.heap.size+1) 3 (.int .i64 s):=(hb57.block _ (by omega)).trans bs5;have hk7:=hk1.below b7;have hv7:=hv1.below b7;have hs7:=b7.size;go_upto_region 8 with(fail);rw[<-hW7];clear hW7 c0 c1' c2' c3 hk1 hv1;obtain⟨tt,htt,ht⟩:∃tt:Nat,tt<4/\x.table=(tt:Int):=⟨x.table.toNat,by omega,by omega⟩
              · have hn7:RdN (λk=>w.heap.size+3<=k) W7 (.agg #[.slice (a2 (3*tt)) (m2 (3*tt)) (c2 (3*tt)),.slice (a2 (3*tt+1)) (m2 (3*tt+1)) (c2 (3*tt+1)),.slice (a2 (3*tt+2)) (m2 (3*tt+2)) (c2 (3*tt+2))]) (T' tt):=((hA.out tt htt).below b7).weak λk hk=>hk.1
                have hokt:=hIS.ok tt htt;have hlt:(zac (T' tt)).length<=60:=by rw[hokt.2];exact hIS.len tt htt
                have hct:∀p∈zac (T' tt),p.chain.length<=900:=by rw[hokt.2];exactλp hp=>by have:=hIS.ch tt htt p hp;omega
                obtain⟨R,hR⟩:∃R,R=zcl (Lc tt) x.key (verW x s):=⟨_,rfl⟩;have hRe:=Lib.hid hR;clear hR;refine zcn (K:=λ_ _=>True) (by kernel_rfl) (by kernel_rfl) [10,11,12,13,14,15] (by kernel_rfl) [lEq (.pointer (some ⟨wr.heap.size,0,none⟩)),lEq (.int .i64 x.table),lEq (.pointer (some ⟨W4.heap.size,0,none⟩)),lEq (.pointer (some ⟨W4.heap.size,0+tt*3,none⟩)),lEq (.agg #[.slice (a2 (3*tt)) (m2 (3*tt)) (c2 (3*tt)),.slice (a2 (3*tt+1)) (m2 (3*tt+1)) (c2 (3*tt+1)),.slice (a2 (3*tt+2)) (m2 (3*tt+2)) (c2 (3*tt+2))]),lEq (.pointer (some ⟨wr.heap.size,1,none⟩)),lEq (.slice kA x.key.length kC),lEq (.agg #[.int .i64 x.table,.slice kA x.key.length kC,.bool x.gone,.slice vA x.val.length vC]),lEq (.int .i64 s),lEq (.agg #[.int .i64 s,.bool x.gone,.slice vA x.val.length vC]),lAny,lAny,lAny,lAny,lAny,lAny,lEq (.int .i64 (R.2:Nat))]
                  (CbL (bv ([])).toArray 5 (NodeR (InQ R)) zg3 NodeB (KeyW ([])) (VerW ([])) W7) (CbL.more (zgo (InQ R) ([]) ([]))) (CbS.start _)
                  ⟨?o0,?o1,?o2,?o3,?o4,?o5,?o6,?o7,?o8,?o9,?o10,?o11,?o12,?o13,?o14,?o15,?o16,trivial⟩ ?fin
                case o0=>
                  refine StOp.free rfl (by kernel_rfl) (λA va D w' hF hT hN hE hd hu hg=>?_);have e1:=hF 11 rfl;exact zaf wrS rfl e1 (by omega) ⟨_,rfl,rfl,ze _ _⟩
                case o1=>
                  refine StOp.free rfl (by kernel_rfl) (λA va D w' hF hT hN hE hd hu hg=>?_);have e1:=(hT 42 0 (by simp) rfl).trans (hg ⟨0,.data⟩ (by simp) rfl rfl);exact zbv (k:=.i64) rfl e1 (by kernel_rfl) ((bw.below (CbL.below hE) bw.lt).cell (i:=0) rfl) ⟨_,rfl,rfl,ze _ _⟩
                case o2=>
                  refine StOp.free rfl (by kernel_rfl) (λA va D w' hF hT hN hE hd hu hg=>?_);have e1:=hF 9 rfl;exact zsl stF7 rfl e1 ⟨_,rfl,rfl,ze _ _⟩
                case o3=>
                  refine StOp.free rfl (by kernel_rfl) (λA va D w' hF hT hN hE hd hu hg=>?_);have e1:=(hT 44 2 (by simp) rfl).trans (hg ⟨2,.data⟩ (by simp) rfl rfl);have e2:=(hT 43 1 (by simp) rfl).trans (hg ⟨1,.data⟩ (by simp) rfl rfl);exact wp_ixP taP (k:=tt) rfl e1 e2 (by omega) (by omega) ⟨_,rfl,rfl,ze _ _⟩
                case o4=>
                  refine StOp.free rfl (by kernel_rfl) (λA va D w' hF hT hN hE hd hu hg=>?_);have e1:=(hT 45 3 (by simp) rfl).trans (hg ⟨3,.data⟩ (by simp) rfl rfl);have h3:=StB.at3 (bx.below (CbL.below hE) bx.lt) htt;exact zej zc4 rfl e1 h3.1 h3.2.1 h3.2.2 ⟨_,rfl,rfl,ze _ _⟩
                case o5=>
                  refine StOp.free rfl (by kernel_rfl) (λA va D w' hF hT hN hE hd hu hg=>?_);have e1:=hF 11 rfl;exact zaf wrS rfl e1 (by omega) ⟨_,rfl,rfl,ze _ _⟩
                case o6=>
                  refine StOp.free rfl (by kernel_rfl) (λA va D w' hF hT hN hE hd hu hg=>?_);have e1:=(hT 47 5 (by simp) rfl).trans (hg ⟨5,.data⟩ (by simp) rfl rfl);exact zae (e:=5) rfl e1 (by kernel_rfl) ((bw.below (CbL.below hE) bw.lt).cell (i:=1) rfl) ⟨_,rfl,rfl,ze _ _⟩
                case o7=>
                  refine StOp.free rfl (by kernel_rfl) (λA va D w' hF hT hN hE hd hu hg=>?_);have e1:=hF 11 rfl;exact zdj wrS rfl e1 ((bw.below (CbL.below hE) bw.lt).cell (i:=0) rfl) ((bw.below (CbL.below hE) bw.lt).cell (i:=1) rfl) ((bw.below (CbL.below hE) bw.lt).cell (i:=2) rfl) ((bw.below (CbL.below hE) bw.lt).cell (i:=3) rfl) ⟨_,rfl,rfl,ze _ _⟩
                case o8=>
                  refine StOp.free rfl (by kernel_rfl) (λA va D w' hF hT hN hE hd hu hg=>?_);have e1:=hF 4 rfl;exact zbv (k:=.i64) rfl e1 (by kernel_rfl) (((CbL.below hE).cell (p:=⟨w.heap.size+1,0,none⟩) bs.lt).trans bs.cell) ⟨_,rfl,rfl,ze _ _⟩
                case o9=>
                  refine StOp.free rfl (by kernel_rfl) (λA va D w' hF hT hN hE hd hu hg=>?_);have e1:=(hT 49 7 (by simp) rfl).trans (hg ⟨7,.data⟩ (by simp) rfl rfl);have e2:=(hT 50 8 (by simp) rfl).trans (hg ⟨8,.data⟩ (by simp) rfl rfl);refine zah rfl (enters_of Tryz.func52 (by kernel_rfl) rfl) (args:=#[.agg #[.int .i64 x.table,.slice kA x.key.length kC,.bool x.gone,.slice vA x.val.length vC],.int .i64 s]) (by simp only[zE,zn,zo,e1,e2]) ((zin w' x kA vA kC vC s).mono ?_);rintro e w2 ⟨rfl,hb2⟩;exact⟨_,rfl,_,rfl,rfl,hb2⟩
                case o10=>
                  refine StOp.set rfl (by kernel_rfl) (λA va D w' hF hT hN hE hd hu hg=>?_);have e1:=(hT 46 4 (by simp) rfl).trans (hg ⟨4,.data⟩ (by simp) rfl rfl);have e2:=(hT 48 6 (by simp) rfl).trans (hg ⟨6,.data⟩ (by simp) rfl rfl);have e3:=(hT 51 9 (by simp) rfl).trans (hg ⟨9,.data⟩ (by simp) rfl rfl);have hE2:=hE;simp only[told,zn,zo,hN,zY,zW]at hE2;have hBE:=hE2.be;refine zah rfl (enters_of Tryz.func55 (by kernel_rfl) rfl) (args:=#[.agg #[.slice (a2 (3*tt)) (m2 (3*tt)) (c2 (3*tt)),.slice (a2 (3*tt+1)) (m2 (3*tt+1)) (c2 (3*tt+1)),.slice (a2 (3*tt+2)) (m2 (3*tt+2)) (c2 (3*tt+2))],.slice kA x.key.length kC,.agg #[.int .i64 s,.bool x.gone,.slice vA x.val.length vC]]) (by simp only[zE,zn,zo,e1,e2,e3]) ((zrp w' (hn7.below hBE) hokt.1 hlt hct (hk7.below hBE) hb16 (x:=verW x s) (hv7.below hBE) hmay).mono ?_);rintro e w2 ⟨u,mm,rfl,hrd,hb2,hz⟩;rw[hokt.2,<-hRe.out]at hz⊢;have h5:=CbS.call (zgo (InQ R) ([]) ([])) hE2 (by simp) hb2 (v:=u) (e:=.int .i64 (R.2:Nat)) ⟨mm,_,rfl,⟨rfl,hz⟩,hrd⟩;exact⟨_,rfl,_,rfl,by simpa[CbL,told,don,upd,zcg]using h5,trivial⟩
                case o11=>
                  refine StOp.set rfl (by kernel_rfl) (λA va D w' hF hT hN hE hd hu hg=>?_);have x1:A.eval (.tmp 52)=va 10:=hT 52 10 (by simp) rfl;have hE2:=hE;have d10:D 10=true:=hd ⟨10,.data⟩ (by simp) rfl;simp only[told,zn,zo,hN,d10,zY,zW,yl]at hE2;have h5:=CbS.move hE2;exact zu _ rfl ⟨_,rfl,by rw[x1];simpa[CbL,told,don,upd,zcg,d10]using h5,trivial⟩
                case o12=>
                  refine StOp.set rfl (by kernel_rfl) (λA va D w' hF hT hN hE hd hu hg=>?_);have x1:A.eval (.tmp 41)=va 11:=hT 41 11 (by simp) rfl;have hE2:=hE;have d11:D 11=true:=hd ⟨11,.data⟩ (by simp) rfl;simp only[told,zn,zo,hN,d11,zY,zW,yl]at hE2;obtain⟨v,e,em⟩:=CbS.tup hE2;rw[em]at hE2;have h5:=CbS.ex0 hE2;exact zjp rfl (x1.trans em) rfl ⟨_,rfl,by simpa[CbL,told,don,upd,d11,em]using h5,trivial⟩
                case o13=>
                  refine StOp.set rfl (by kernel_rfl) (λA va D w' hF hT hN hE hd hu hg=>?_);have x1:A.eval (.tmp 41)=va 11:=hT 41 11 (by simp) rfl;have hE2:=hE;have d11:D 11=true:=hd ⟨11,.data⟩ (by simp) rfl;simp only[told,zn,zo,hN,d11,zY,zW,yl]at hE2;obtain⟨v,e,em⟩:=CbS.tup hE2;rw[em]at hE2;have h5:=CbS.ex1 hE2;exact zjp rfl (x1.trans em) rfl ⟨_,rfl,by simpa[CbL,told,don,upd,d11,em]using h5,trivial⟩
                case o14=>
                  refine StOp.set rfl (by kernel_rfl) (λA va D w' hF hT hN hE hd hu hg=>?_);have hE2:=hE;simp only[told,zn,zo,hN,zY,zW]at hE2;refine zfi rfl (λw2 hb2 hz=>⟨_,rfl,?_,trivial⟩);have h5:=CbS.alloc (zgo (InQ R) ([]) ([])) hE2 hb2 hz;simpa[CbL,told,don,upd,zcg]using h5
                case o15=>
                  refine StOp.set rfl (by kernel_rfl) (λA va D w' hF hT hN hE hd hu hg=>?_);have x1:A.eval (.tmp 12)=va 14:=hT 12 14 (by simp) rfl;have x2:A.eval (.tmp 53)=va 12:=hT 53 12 (by simp) rfl;have hE2:=hE;have d14:D 14=true:=hd ⟨14,.data⟩ (by simp) rfl;have d12:D 12=true:=hd ⟨12,.data⟩ (by simp) rfl;simp only[told,zn,zo,hN,d14,d12,zY,zW,yl]at hE2;obtain⟨b,eb,hb0⟩:=CbS.box hE2;obtain⟨e,hm⟩:=hE2.mx _ rfl;obtain⟨v,e2,ec,n2,er,_,_,hrd⟩:=hE2.rr _ (hE2.mv _ hm);obtain⟨A1,B1,A2,B2,A3,B3,ev,_⟩:=id hrd;injection ec with ec;injection ec with ec;injection ec with ec _;rw[<-ec]at ev;refine zcm rfl (x1.trans eb) (x2.trans ev) rfl rfl rfl hb0 (λw2 hg2 ht2=>⟨_,rfl,?_,trivial⟩);rw[eb]at hE2;have h5:=CbS.sto (u:=undef) (zgo (InQ R) ([]) ([])) hE2 hg2 ⟨_,_,_,ev,ht2⟩;simpa[CbL,told,don,upd,d14,d12,eb]using h5
                case o16=>
                  refine StOp.free rfl (by kernel_rfl) (λA va D w' hF hT hN hE hd hu hg=>?_);have x1:A.eval (.tmp 54)=va 13:=hT 54 13 (by simp) rfl;have hE2:=hE;have d13:D 13=true:=hd ⟨13,.data⟩ (by simp) rfl;simp only[told,zn,zo,d13,yl]at hE2;have ee:=CbS.err hE2 (λn er hQ=>hQ.1);exact yV _ rfl ⟨_,rfl,x1.trans ee,ze _ _⟩
                case fin=>
                  intro vs1 W1 hE hG;obtain⟨bM,ez,em,ec,hbM,hBx,hR,hbE⟩:=CbS.done (nodeR _) hE (by simp);obtain⟨nM,er,ee,hQ,hM⟩:=hR;have her:er=R.2:=hQ.1;rw[her]at ee hQ;clear her;obtain⟨x1,y1,z1,ev,hTM⟩:=hBx;have g0:vs1 0=.pointer (some ⟨wr.heap.size,0,none⟩):=hG 0 (by decide) rfl;have g1:vs1 1=.int .i64 x.table:=hG 1 (by decide) rfl;have g2:vs1 2=.pointer (some ⟨W4.heap.size,0,none⟩):=hG 2 (by decide) rfl;have g3:vs1 3=.pointer (some ⟨W4.heap.size,0+tt*3,none⟩):=hG 3 (by decide) rfl;have g4:vs1 4=.agg #[.slice (a2 (3*tt)) (m2 (3*tt)) (c2 (3*tt)),.slice (a2 (3*tt+1)) (m2 (3*tt+1)) (c2 (3*tt+1)),.slice (a2 (3*tt+2)) (m2 (3*tt+2)) (c2 (3*tt+2))]:=hG 4 (by decide) rfl;have g5:vs1 5=.pointer (some ⟨wr.heap.size,1,none⟩):=hG 5 (by decide) rfl;have g6:vs1 6=.slice kA x.key.length kC:=hG 6 (by decide) rfl;have g7:vs1 7=.agg #[.int .i64 x.table,.slice kA x.key.length kC,.bool x.gone,.slice vA x.val.length vC]:=hG 7 (by decide) rfl;have g8:vs1 8=.int .i64 s:=hG 8 (by decide) rfl;have g9:vs1 9=.agg #[.int .i64 s,.bool x.gone,.slice vA x.val.length vC]:=hG 9 (by decide) rfl;have g16:vs1 16=.int .i64 (R.2:Nat):=hG 16 (by decide) rfl;simp only[zaj,g0,g1,g2,g3,g4,g5,g6,g7,g8,g9,g16,ec,em,ev,ee,ez];rw[ev]at hM;obtain⟨A1,B1,A3,B3,A5,B5,e3,_,_,_⟩:=id hM;injection e3 with e3;injection e3 with e3;injection e3 with e4 e3;injection e3 with e5 e3;injection e3 with e6 _;subst e4 e5 e6;clear hE hG ec em ev ee ez g0 g1 g2 g3 g4 g5 g6 g7 g8 g9 g16;have hs1:=hbE.size;go_simp;have q1:Below w.heap.size w W1:=(qw.trans (b7.mono (by omega))).trans (hbE.mono (by omega));have ht':x.table.toNat=tt:=by omega
                  by_cases hz:R.2=0
                  · have dz:((R.2:Int)!=0)=false:=by rw[hz];rfl
                    have hmM:=hQ.2 hz;have hst:=hIS.step hlt0 (hno.out _ (zL hlt0)) (by rw[<-hxe.out,ht',<-hRe.out];exact hz) (m:=nM) (by rw[<-hxe.out,ht',<-hRe.out];exact hmM);rw[<-hxe.out,ht',<-hRe.out]at hst;replace hst:=Lib.hid hst;have bx1:StB W1 W4.heap.size a2 m2 c2:=bx.below hbE bx.lt;have bw1:=bw.below hbE bw.lt;have y0:=hTM.cell0;have y1:=hTM.cell1;have y2:=hTM.cell2;have x0:=bw1.cell (i:=0) rfl;have hbl:=bx.lt;have hA1:∀j,j<4->RdN (λk=>w.heap.size+3<=k/\k<wr.heap.size/\k≠W4.heap.size) W1 (.agg #[.slice (a2 (3*j)) (m2 (3*j)) (c2 (3*j)),.slice (a2 (3*j+1)) (m2 (3*j+1)) (c2 (3*j+1)),.slice (a2 (3*j+2)) (m2 (3*j+2)) (c2 (3*j+2))]) (T' j):=λj hj=>(hA.out j hj).keep λk hk=>(hbE.block k (by omega)).trans (b7.block k hk.2.1)
                    replace hA1:=Lib.hid hA1;have hM1:=Lib.hid (hM.weak (S':=λk=>w.heap.size+3<=k/\k<W1.heap.size/\k≠W4.heap.size) λk hk=>by
                      have h1:=hk.1;have h2:=hk.2.1;exact⟨by omega,h2,by omega⟩)
                    replace hz:=Lib.hid hz;replace hmM:=Lib.hid hmM;clear hM hQ;go_wp2_with(first|(refine zer taP tt rfl rfl rfl rfl (by omega) (by omega) ?_)|(refine zb2 (us:=[.slice A1 nM.keys.length B1,.slice A3 nM.chains.length B3,.slice A5 nM.kids.length B5]) (by kernel_rfl) rfl rfl rfl rfl rfl rfl bx1 (by show 0+tt*3+3<=12;omega) (λW9 hg9 bx9=>?_))|fail);go_roundw;case rel=>
                      have hs9:=hg9.size;have hk9:∀k,k<W1.heap.size->k≠W4.heap.size->W9.heap[k]?=W1.heap[k]?:=λk h1 h2=>hg9.block k h1 (λe=>h2 (by injection e))
                      have hb9:Below W4.heap.size W1 W9:=⟨hg9.os,hg9.tape,hg9.output,hs9,λk hk=>hk9 k (by omega) (by omega)⟩;have bx9':StB W9 W4.heap.size (upd3 tt A1 A3 A5 a2) (upd3 tt nM.keys.length nM.chains.length nM.kids.length m2) (upd3 tt B1 B3 B5 c2):=by
                        unfold StB;rw[<-bxS_put htt];exact bx9
                      refine⟨i+1,_,_,_,_,_,by go_num,by omega,((hb.trans (b7.mono (by omega))).trans (hbE.mono (by omega))).trans hb9,bx9',hst.out,λj hj=>?_⟩;by_cases e:j=tt
                      · subst e
                        simp only[upd3_0,upd3_1,upd3_2,yl];exact(hM1.out.keep λk hk=>hk9 k hk.2.1 hk.2.2).weak λk hk=>⟨hk.1,by omega,hk.2.2⟩
                      · obtain⟨u1,u2,u3⟩:=And.intro (@zst _ tt j A1 A3 A5 a2 e) (And.intro (@zst _ tt j nM.keys.length nM.chains.length nM.kids.length m2 e) (@zst _ tt j B1 B3 B5 c2 e))
                        simp only[u1.1,u1.2.1,u1.2.2,u2.1,u2.2.1,u2.2.2,u3.1,u3.2.1,u3.2.2,zh e];exact((hA1.out j hj).keep λk hk=>hk9 k (by omega) hk.2.2).weak λk hk=>⟨hk.1,by omega,hk.2.2⟩
                    case measure=>simp[toN];omega
                  · have dz:((R.2:Int)!=0)=true:=by rw[xi];omega
                    have H2:=Lib.hid (show(zcr T s l).2=R.2 from by
                      have h:=hIS.err hlt0 (by rw[<-hxe.out,ht',<-hRe.out];exact hz);rw[<-hxe.out,ht',<-hRe.out]at h;rw[hII.out,h])
                    have H:=Lib.hid (InT.err (K:=K) (show(zcr T s l).2≠0 by rw[H2.out];exact hz));have hbB:Below W4.heap.size W5 W1:=(hb.trans (b7.mono (by omega))).trans (hbE.mono (by omega));have qE:=q1;have bnE:StB W1 w.heap.size a m c:=(hbB.block _ (by omega)).trans bn5;have bzE:BoxN W1 (w.heap.size+2) 49 [.slice none 0 0,.slice none 0 0,.slice none 0 0,.slice none 0 0,.slice none 0 0,.slice none 0 0,.slice none 0 0,.slice none 0 0,.slice none 0 0,.slice none 0 0,.slice none 0 0,.slice none 0 0]:=(hbB.block _ (by have:=bz5.lt;omega)).trans bz5;replace hz:=Lib.hid hz;go_upto_region 10 with(fail);have hcp:=zdd W1 (hr0.below qE) hf;obtain⟨d0,d1,d2,d3,d4,d5,d6,d7,d8,d9,d10,d11⟩:=bnE.c12;go_wp2_with fail;refine hcp.mono ?_;rintro e Wc ⟨vc,rfl,⟨ac,mc,cc,rfl,hcc⟩,hbc⟩;have bzc:=bzE.below hbc bzE.lt;clear d0 d1 d2 d3 d4 d5 d6 d7 d8 d9 d10 d11;go_wp2_with(first|(refine zab (us:=[.slice (ac 0) (mc 0) (cc 0),.slice (ac 1) (mc 1) (cc 1),.slice (ac 2) (mc 2) (cc 2),.slice (ac 3) (mc 3) (cc 3),.slice (ac 4) (mc 4) (cc 4),.slice (ac 5) (mc 5) (cc 5),.slice (ac 6) (mc 6) (cc 6),.slice (ac 7) (mc 7) (cc 7),.slice (ac 8) (mc 8) (cc 8),.slice (ac 9) (mc 9) (cc 9),.slice (ac 10) (mc 10) (cc 10),.slice (ac 11) (mc 11) (cc 11)]) (by kernel_rfl) rfl rfl rfl rfl rfl rfl bzc rfl (λW9 hg9 bx9=>?_))|fail);have bx9':StB W9 (w.heap.size+2) ac mc cc:=bx9;obtain⟨d0,d1,d2,d3,d4,d5,d6,d7,d8,d9,d10,d11⟩:=bx9'.c12;refine zD (v:=.tuple #[.agg #[.slice (ac 0) (mc 0) (cc 0),.slice (ac 1) (mc 1) (cc 1),.slice (ac 2) (mc 2) (cc 2),.slice (ac 3) (mc 3) (cc 3),.slice (ac 4) (mc 4) (cc 4),.slice (ac 5) (mc 5) (cc 5),.slice (ac 6) (mc 6) (cc 6),.slice (ac 7) (mc 7) (cc 7),.slice (ac 8) (mc 8) (cc 8),.slice (ac 9) (mc 9) (cc 9),.slice (ac 10) (mc 10) (cc 10),.slice (ac 11) (mc 11) (cc 11)],.int .i64 ((R.2:Nat):Int)]) (by simp[results,Tryz.results25,go_sem,loadVar,isAgg,zr Tryz.underlying49,zaa (show(Tryz.prog.info? 49).map (·.size)=some 12 by kernel_rfl),loadCellsFrom,Addr.add,d0,d1,d2,d3,d4,d5,d6,d7,d8,d9,d10,d11]) rfl ?_;have hs9:=hg9.size;have hsE:=qE.size;have hsc:=hbc.size;have hzl:=bzE.lt;have hne:∀k,k<Wc.heap.size->k≠w.heap.size+2->W9.heap[k]?=Wc.heap[k]?:=λk h1 h2=>hg9.block k h1 (λe=>h2 (by injection e))
                    refine⟨_,T,by rw[H2.out],⟨ac,mc,cc,rfl,λj hj=>((hcc j hj).keep λk hk=>hne k hk.2 (by omega)).weak λk hk=>⟨by omega,by omega⟩⟩,(qE.trans (hbc.mono hsE)).trans ⟨hg9.os,hg9.tape,hg9.output,hs9,λk hk=>hne k (by omega) (by omega)⟩,H.out⟩
            · obtain rfl:i=l.length:=by omega
              have dl:decide ((l.length:Int)<(l.length:Int))=false:=by simp
              have H2:=Lib.hid (show zcr T s l=(Lc,0)from by rw[hII.out,hIS.done]);have bzr:=bz5.below hb (by have:=bz5.lt;omega);have hzl:=bzr.lt;obtain⟨d0,d1,d2,d3,d4,d5,d6,d7,d8,d9,d10,d11⟩:=bx.c12;go_wp2_with(first|(refine zab (us:=[.slice (a2 0) (m2 0) (c2 0),.slice (a2 1) (m2 1) (c2 1),.slice (a2 2) (m2 2) (c2 2),.slice (a2 3) (m2 3) (c2 3),.slice (a2 4) (m2 4) (c2 4),.slice (a2 5) (m2 5) (c2 5),.slice (a2 6) (m2 6) (c2 6),.slice (a2 7) (m2 7) (c2 7),.slice (a2 8) (m2 8) (c2 8),.slice (a2 9) (m2 9) (c2 9),.slice (a2 10) (m2 10) (c2 10),.slice (a2 11) (m2 11) (c2 11)]) (by kernel_rfl) rfl rfl rfl rfl rfl rfl bzr rfl (λW9 hg9 bx9=>?_))|fail);clear d0 d1 d2 d3 d4 d5 d6 d7 d8 d9 d10 d11;have bx9':StB W9 (w.heap.size+2) a2 m2 c2:=bx9;obtain⟨d0,d1,d2,d3,d4,d5,d6,d7,d8,d9,d10,d11⟩:=bx9'.c12;refine zD (v:=.tuple #[.agg #[.slice (a2 0) (m2 0) (c2 0),.slice (a2 1) (m2 1) (c2 1),.slice (a2 2) (m2 2) (c2 2),.slice (a2 3) (m2 3) (c2 3),.slice (a2 4) (m2 4) (c2 4),.slice (a2 5) (m2 5) (c2 5),.slice (a2 6) (m2 6) (c2 6),.slice (a2 7) (m2 7) (c2 7),.slice (a2 8) (m2 8) (c2 8),.slice (a2 9) (m2 9) (c2 9),.slice (a2 10) (m2 10) (c2 10),.slice (a2 11) (m2 11) (c2 11)],.int .i64 0]) (by simp[results,Tryz.results25,go_sem,loadVar,isAgg,zr Tryz.underlying49,zaa (show(Tryz.prog.info? 49).map (·.size)=some 12 by kernel_rfl),loadCellsFrom,Addr.add,d0,d1,d2,d3,d4,d5,d6,d7,d8,d9,d10,d11]) rfl ?_;have hs9:=hg9.size;have hne:∀k,k<wr.heap.size->k≠w.heap.size+2->W9.heap[k]?=wr.heap[k]?:=λk h1 h2=>hg9.block k h1 (λe=>h2 (by injection e))
              refine⟨_,T',by rw[H2.out];rfl,⟨a2,m2,c2,rfl,λj hj=>((hA.out j hj).keep λk hk=>hne k hk.2.1 (by omega)).weak λk hk=>⟨by omega,by omega⟩⟩,qw.trans ⟨hg9.os,hg9.tape,hg9.output,hs9,λk hk=>hne k (by omega) (by omega)⟩,λh=>absurd (by rw[H2.out]) h,λ_=>⟨hok,λj hj=>?_⟩⟩;rw[H2.out];obtain⟨p1,p2⟩:=hIS.ok j hj;exact⟨p1,p2,by rw[p2];exact hIS.len j hj,by rw[p2];exact hIS.ch j hj⟩
      · have e2:decide (2147483647<s)=true:=by simp;omega
        have H2:=Lib.hid (show(zcr T s l).2=1 from by unfold zcr;rw[zh (λh=>h2 h.2.2.1)]);have H:=Lib.hid (InT.err (K:=K) (show(zcr T s l).2≠0 by rw[H2.out];simp));clear h1 h2 hok;go_upto_region 3 with(fail);clear ss;have qE:=q2;have bnE:=bn2;have bzE:=bz2;have hcp:=zdd W2 (hr0.below qE) hf;obtain⟨d0,d1,d2,d3,d4,d5,d6,d7,d8,d9,d10,d11⟩:=bnE.c12;go_wp2_with fail;refine hcp.mono ?_;rintro e Wc ⟨vc,rfl,⟨ac,mc,cc,rfl,hcc⟩,hbc⟩;have bzc:=bzE.below hbc bzE.lt;clear d0 d1 d2 d3 d4 d5 d6 d7 d8 d9 d10 d11;go_wp2_with(first|(refine zab (us:=[.slice (ac 0) (mc 0) (cc 0),.slice (ac 1) (mc 1) (cc 1),.slice (ac 2) (mc 2) (cc 2),.slice (ac 3) (mc 3) (cc 3),.slice (ac 4) (mc 4) (cc 4),.slice (ac 5) (mc 5) (cc 5),.slice (ac 6) (mc 6) (cc 6),.slice (ac 7) (mc 7) (cc 7),.slice (ac 8) (mc 8) (cc 8),.slice (ac 9) (mc 9) (cc 9),.slice (ac 10) (mc 10) (cc 10),.slice (ac 11) (mc 11) (cc 11)]) (by kernel_rfl) rfl rfl rfl rfl rfl rfl bzc rfl (λW9 hg9 bx9=>?_))|fail);have bx9':StB W9 (w.heap.size+2) ac mc cc:=bx9;obtain⟨d0,d1,d2,d3,d4,d5,d6,d7,d8,d9,d10,d11⟩:=bx9'.c12;refine zD (v:=.tuple #[.agg #[.slice (ac 0) (mc 0) (cc 0),.slice (ac 1) (mc 1) (cc 1),.slice (ac 2) (mc 2) (cc 2),.slice (ac 3) (mc 3) (cc 3),.slice (ac 4) (mc 4) (cc 4),.slice (ac 5) (mc 5) (cc 5),.slice (ac 6) (mc 6) (cc 6),.slice (ac 7) (mc 7) (cc 7),.slice (ac 8) (mc 8) (cc 8),.slice (ac 9) (mc 9) (cc 9),.slice (ac 10) (mc 10) (cc 10),.slice (ac 11) (mc 11) (cc 11)],.int .i64 1]) (by simp[results,Tryz.results25,go_sem,loadVar,isAgg,zr Tryz.underlying49,zaa (show(Tryz.prog.info? 49).map (·.size)=some 12 by kernel_rfl),loadCellsFrom,Addr.add,d0,d1,d2,d3,d4,d5,d6,d7,d8,d9,d10,d11]) rfl ?_;have hs9:=hg9.size;have hsE:=qE.size;have hsc:=hbc.size;have hzl:=bzE.lt;have hne:∀k,k<Wc.heap.size->k≠w.heap.size+2->W9.heap[k]?=Wc.heap[k]?:=λk h1 h2=>hg9.block k h1 (λe=>h2 (by injection e))
        refine⟨_,T,by rw[H2.out];rfl,⟨ac,mc,cc,rfl,λj hj=>((hcc j hj).keep λk hk=>hne k hk.2 (by omega)).weak λk hk=>⟨by omega,by omega⟩⟩,(qE.trans (hbc.mono hsE)).trans ⟨hg9.os,hg9.tape,hg9.output,hs9,λk hk=>hne k (by omega) (by omega)⟩,H.out⟩
    · have e1:decide (s<1)=true:=by simp;omega
      have H2:=Lib.hid (show(zcr T s l).2=1 from by unfold zcr;rw[zh (λh=>h1 h.2.1)]);have H:=Lib.hid (InT.err (K:=K) (show(zcr T s l).2≠0 by rw[H2.out];simp));clear h1 hok;go_upto_region 3 with(fail);clear ss;have qE:=q2;have bnE:=bn2;have bzE:=bz2;have hcp:=zdd W2 (hr0.below qE) hf;obtain⟨d0,d1,d2,d3,d4,d5,d6,d7,d8,d9,d10,d11⟩:=bnE.c12;go_wp2_with fail;refine hcp.mono ?_;rintro e Wc ⟨vc,rfl,⟨ac,mc,cc,rfl,hcc⟩,hbc⟩;have bzc:=bzE.below hbc bzE.lt;clear d0 d1 d2 d3 d4 d5 d6 d7 d8 d9 d10 d11;go_wp2_with(first|(refine zab (us:=[.slice (ac 0) (mc 0) (cc 0),.slice (ac 1) (mc 1) (cc 1),.slice (ac 2) (mc 2) (cc 2),.slice (ac 3) (mc 3) (cc 3),.slice (ac 4) (mc 4) (cc 4),.slice (ac 5) (mc 5) (cc 5),.slice (ac 6) (mc 6) (cc 6),.slice (ac 7) (mc 7) (cc 7),.slice (ac 8) (mc 8) (cc 8),.slice (ac 9) (mc 9) (cc 9),.slice (ac 10) (mc 10) (cc 10),.slice (ac 11) (mc 11) (cc 11)]) (by kernel_rfl) rfl rfl rfl rfl rfl rfl bzc rfl (λW9 hg9 bx9=>?_))|fail);have bx9':StB W9 (w.heap.size+2) ac mc cc:=bx9;obtain⟨d0,d1,d2,d3,d4,d5,d6,d7,d8,d9,d10,d11⟩:=bx9'.c12;refine zD (v:=.tuple #[.agg #[.slice (ac 0) (mc 0) (cc 0),.slice (ac 1) (mc 1) (cc 1),.slice (ac 2) (mc 2) (cc 2),.slice (ac 3) (mc 3) (cc 3),.slice (ac 4) (mc 4) (cc 4),.slice (ac 5) (mc 5) (cc 5),.slice (ac 6) (mc 6) (cc 6),.slice (ac 7) (mc 7) (cc 7),.slice (ac 8) (mc 8) (cc 8),.slice (ac 9) (mc 9) (cc 9),.slice (ac 10) (mc 10) (cc 10),.slice (ac 11) (mc 11) (cc 11)],.int .i64 1]) (by simp[results,Tryz.results25,go_sem,loadVar,isAgg,zr Tryz.underlying49,zaa (show(Tryz.prog.info? 49).map (·.size)=some 12 by kernel_rfl),loadCellsFrom,Addr.add,d0,d1,d2,d3,d4,d5,d6,d7,d8,d9,d10,d11]) rfl ?_;have hs9:=hg9.size;have hsE:=qE.size;have hsc:=hbc.size;have hzl:=bzE.lt;have hne:∀k,k<Wc.heap.size->k≠w.heap.size+2->W9.heap[k]?=Wc.heap[k]?:=λk h1 h2=>hg9.block k h1 (λe=>h2 (by injection e))
      refine⟨_,T,by rw[H2.out];rfl,⟨ac,mc,cc,rfl,λj hj=>((hcc j hj).keep λk hk=>hne k hk.2 (by omega)).weak λk hk=>⟨by omega,by omega⟩⟩,(qE.trans (hbc.mono hsE)).trans ⟨hg9.os,hg9.tape,hg9.output,hs9,λk hk=>hne k (by omega) (by omega)⟩,H.out⟩
  · rw[zj hok]at hch
    have H2:=Lib.hid (show(zcr T s l).2=1 from by unfold zcr;rw[zh (λh=>hok h.1)]);have H:=Lib.hid (InT.err (K:=K) (show(zcr T s l).2≠0 by rw[H2.out];simp));clear hok;go_upto_region 3 with(first|(refine hch.mono ?_;rintro e W2 ⟨rfl,hb2⟩;have qE:=q.trans (hb2.mono q.size);have bnE:StB W2 w.heap.size a m c:=bn.below hb2 bn.lt;have bzE:=bz.below hb2 bz.lt)|fail);clear ss d0 d1 d2 d3 d4 d5 d6 d7 d8 d9 d10 d11;have hcp:=zdd W2 (hr0.below qE) hf;obtain⟨d0,d1,d2,d3,d4,d5,d6,d7,d8,d9,d10,d11⟩:=bnE.c12;go_wp2_with fail;refine hcp.mono ?_;rintro e Wc ⟨vc,rfl,⟨ac,mc,cc,rfl,hcc⟩,hbc⟩;have bzc:=bzE.below hbc bzE.lt;clear d0 d1 d2 d3 d4 d5 d6 d7 d8 d9 d10 d11;go_wp2_with(first|(refine zab (us:=[.slice (ac 0) (mc 0) (cc 0),.slice (ac 1) (mc 1) (cc 1),.slice (ac 2) (mc 2) (cc 2),.slice (ac 3) (mc 3) (cc 3),.slice (ac 4) (mc 4) (cc 4),.slice (ac 5) (mc 5) (cc 5),.slice (ac 6) (mc 6) (cc 6),.slice (ac 7) (mc 7) (cc 7),.slice (ac 8) (mc 8) (cc 8),.slice (ac 9) (mc 9) (cc 9),.slice (ac 10) (mc 10) (cc 10),.slice (ac 11) (mc 11) (cc 11)]) (by kernel_rfl) rfl rfl rfl rfl rfl rfl bzc rfl (λW9 hg9 bx9=>?_))|fail);have bx9':StB W9 (w.heap.size+2) ac mc cc:=bx9;obtain⟨d0,d1,d2,d3,d4,d5,d6,d7,d8,d9,d10,d11⟩:=bx9'.c12;refine zD (v:=.tuple #[.agg #[.slice (ac 0) (mc 0) (cc 0),.slice (ac 1) (mc 1) (cc 1),.slice (ac 2) (mc 2) (cc 2),.slice (ac 3) (mc 3) (cc 3),.slice (ac 4) (mc 4) (cc 4),.slice (ac 5) (mc 5) (cc 5),.slice (ac 6) (mc 6) (cc 6),.slice (ac 7) (mc 7) (cc 7),.slice (ac 8) (mc 8) (cc 8),.slice (ac 9) (mc 9) (cc 9),.slice (ac 10) (mc 10) (cc 10),.slice (ac 11) (mc 11) (cc 11)],.int .i64 1]) (by simp[results,Tryz.results25,go_sem,loadVar,isAgg,zr Tryz.underlying49,zaa (show(Tryz.prog.info? 49).map (·.size)=some 12 by kernel_rfl),loadCellsFrom,Addr.add,d0,d1,d2,d3,d4,d5,d6,d7,d8,d9,d10,d11]) rfl ?_;have hs9:=hg9.size;have hsE:=qE.size;have hsc:=hbc.size;have hzl:=bzE.lt;have hne:∀k,k<Wc.heap.size->k≠w.heap.size+2->W9.heap[k]?=Wc.heap[k]?:=λk h1 h2=>hg9.block k h1 (λe=>h2 (by injection e))
    refine⟨_,T,by rw[H2.out];rfl,⟨ac,mc,cc,rfl,λj hj=>((hcc j hj).keep λk hk=>hne k hk.2 (by omega)).weak λk hk=>⟨by omega,by omega⟩⟩,(qE.trans (hbc.mono hsE)).trans ⟨hg9.os,hg9.tape,hg9.output,hs9,λk hk=>hne k (by omega) (by omega)⟩,H.out⟩
attribute [local go_sem] xe
theorem ver_only:znt Elt.ver:=λ_ _ _ _ h=>by
 obtain⟨v,e,h1,h2⟩:=h;exact⟨v,e,zee h1,h2⟩
theorem zti:znt Elt.pq:=λ_ _ _ _ h=>by
 obtain⟨k,v,e,h1,h2⟩:=h;exact⟨k,v,e,zee h1,zee h2⟩
theorem rdL_own{α:Type}{E:Elt α}(hE:znt E){S:Nat->Prop}{v:Value}{xs:List α}{X Y:World}{row:Option Nat}(h:RdL E S X v xs)(hg:X.grownBy Y row)(hr:∀r,row=some r->∃o:Obj,X.heap[r]?=some o/\o.isCells=false):RdL E S Y v xs:=
 ((zmo hE h).keep λk hk=>by
  obtain⟨o,ho,hc⟩:=hk.2;exact grownBy_keeps_cells hg hr ho hc).weak λ_ hk=>hk.1
theorem GdW.own{n₀ hi:Nat}{y:YEl}{X Y:World}{row:Option Nat}(h:GdW n₀ hi y X)(hg:X.grownBy Y row)(hr:∀r,row=some r->∃o:Obj,X.heap[r]?=some o/\o.isCells=false):GdW n₀ hi y Y:=by
 obtain⟨h1,h2,h3,h4,h5⟩:=h;have hs:=hg.size;exact⟨(zee (rdS_own h1 hg hr)).weak λk hk=>⟨hk.1.1,hk.1.2.1,hk.2⟩,(rdL_own ver_only h2 hg hr).weak λk hk=>⟨hk.1,by omega⟩,⟨h3.1,by have:=h3.2;omega⟩,h4,h5⟩
theorem kpB_put{n₀ b hi:Nat}{w:World}(hn:n₀<=w.heap.size)(W:World)(l:Nat)(o o':Obj)(hl:w.heap.size<=l)(h1:W.heap[l]?=some o)(h2:o.isCells=false)(h3:o.isWalk=false):KpB n₀ b hi W (W.putObj l o'):=
 ⟨belowK_b hn W l o o' hl h1 h2 h3,λj p _ _ e hc=>World.putObj_heap_other (λe2=>by subst e2;rw[h1]at e;cases e;rw[h2]at hc;cases hc)⟩
def sgNd(n₀:Nat)(n:Nd):SG:=⟨λw v=>∃p q r,v=.agg #[p,q,r]/\n₀<=w.heap.size/\RdN (·<n₀) w (.agg #[p,q,r]) n,λ_ _ _ ⟨p,q,r,e,h1,h2⟩hb=>⟨p,q,r,e,zv h1 hb.size,h2.keep λk hk=>hb.block k (zm hk h1)⟩⟩
def sgWi(n₀ B:Nat)(n:Nd)(us:List Value):SG:=⟨λw v=>∃nb xb p q r,v=.func (.func 161) #[] #[.pointer (some ⟨nb,0,none⟩),.pointer (some ⟨xb,0,none⟩)]/\B<=nb/\B<=xb/\TriV w nb 46 p q r/\BoxN w xb 67 us/\n₀<=w.heap.size/\RdN (·<n₀) w (.agg #[p,q,r]) n,λ_ _ _ ⟨nb,xb,p,q,r,e,h1,h2,h3,h4,h5,h6⟩hb=>⟨nb,xb,p,q,r,e,h1,h2,h3.below hb h3.lt,h4.below hb h4.lt,zv h5 hb.size,h6.keep λk hk=>hb.block k (zm hk h5)⟩⟩
theorem RdN.tri{S:Nat->Prop}{w:World}{v:Value}{n:Nd}(h:RdN S w v n):∃p q r,v=.agg #[p,q,r]:=by
 obtain⟨a1,c1,a2,c2,a3,c3,e,_⟩:=h;exact⟨_,_,_,e⟩
theorem zte (s:Int):zcd [] s=none:=by
 unfold zcd;split;·rw[dif_neg (by simp[cntV,zdx])]
 · rfl
theorem zlf(l:List Pr)(k:List UInt8)(s:Int):getP l k s=zcd ((zaw l k).getD []) s:=by
 unfold getP;cases zaw l k with
 |none=>exact(zte s).symm
 |some c=>rfl
theorem sGet_any(w:World){S S2:Nat->Prop}{v:Value}{T:Sto}{t s:Int}{A:Option Addr}{n C:Nat}{k:List UInt8}(hr:RdSt S w v T) (hf:fitS T) (hk:RdS S2 w (.slice A n C) k):Calls Tryz.prog 122 #[v,.int .i64 t,.slice A n C,.int .i64 s] w (NextEnd w (getP (zcp T t) k s)):=by
 have hr0:=hr;obtain⟨a,m,c,rfl,_⟩:=hr;obtain⟨W,hW⟩:∃W,W=w.alloc (.cells #[.slice (a 0) (m 0) (c 0),.slice (a 1) (m 1) (c 1),.slice (a 2) (m 2) (c 2),.slice (a 3) (m 3) (c 3),.slice (a 4) (m 4) (c 4),.slice (a 5) (m 5) (c 5),.slice (a 6) (m 6) (c 6),.slice (a 7) (m 7) (c 7),.slice (a 8) (m 8) (c 8),.slice (a 9) (m 9) (c 9),.slice (a 10) (m 10) (c 10),.slice (a 11) (m 11) (c 11)] 49):=⟨_,rfl⟩;have q:Below w.heap.size w W:=by rw[hW];exact(ze _ _).alloc (zf _) _
 have bn:StB W w.heap.size a m c:=by rw[hW];exact BoxN.new _ _ (bxS a m c)
 have hix:=zj2 W (t:=t) (hr0.below q) hf;rw[zlf,<-ztm];have hfit:=zk5 hf t;have hsm:zb9 ((zaw (prN (ze4 T t)) k).getD []):=by
  cases h:zaw (prN (ze4 T t)) k with
  |none=>exact⟨by simp,λx hx=>by simp at hx⟩
  |some l=>
   obtain⟨p,hp,_,rfl⟩:=zde h;exact zgs hfit p hp
 obtain⟨lo,hlo⟩:∃lo,lo=(zaw (prN (ze4 T t)) k).getD []:=⟨_,rfl⟩;rw[<-hlo]at hsm⊢;replace hlo:=Lib.hid hlo;cases hn:zcd lo s with
 |none=>
  replace hn:=Lib.hid hn;go_enter Tryz.func122,Tryz.ntmps122;go_upto_region 1 with(fail);rw[<-hW];clear hW;obtain⟨d0,d1,d2,d3,d4,d5,d6,d7,d8,d9,d10,d11⟩:=bn.c12;go_wp2_with fail;refine hix.mono ?_;rintro e W2⟨u,rfl,hu,hb2⟩;have hfd:=zgn W2 hu hfit ((hk.below q).below hb2);unfold zls at hfd;rw[<-hlo.out]at hfd;generalize (zaw (prN (ze4 T t)) k).isSome=fs at hfd;go_wp2_with fail;refine hfd.mono ?_;rintro e W3⟨fa,fc,rfl,hfr,hb3⟩;have hrd:=(zhj W3 (s:=s) hfr hsm).mono λe w' h=>zbc.none hn.out h
  have q3:=q.trans ((hb2.mono q.size).trans (hb3.mono (by have:=q.size;have:=hb2.size;omega)));have hs3:=q3.size;go_wp2_with fail;refine hrd.mono ?_;rintro e W4⟨ra,rc,rfl,hrr,hb4⟩;go_wp2_with fail;go_ret2;exact⟨ra,rc,rfl,hrr.weak λk hk=>⟨by omega,hk.2⟩,q3.trans (hb4.mono hs3)⟩
 |some vv=>
  replace hn:=Lib.hid hn;go_enter Tryz.func122,Tryz.ntmps122;go_upto_region 1 with(fail);rw[<-hW];clear hW;obtain⟨d0,d1,d2,d3,d4,d5,d6,d7,d8,d9,d10,d11⟩:=bn.c12;go_wp2_with fail;refine hix.mono ?_;rintro e W2⟨u,rfl,hu,hb2⟩;have hfd:=zgn W2 hu hfit ((hk.below q).below hb2);unfold zls at hfd;rw[<-hlo.out]at hfd;generalize(zaw (prN (ze4 T t)) k).isSome=fs at hfd;go_wp2_with fail;refine hfd.mono ?_;rintro e W3⟨fa,fc,rfl,hfr,hb3⟩;have hrd:=(zhj W3 (s:=s) hfr hsm).mono λe w' h=>zbc.some hn.out h
  have q3:=q.trans ((hb2.mono q.size).trans (hb3.mono (by have:=q.size;have:=hb2.size;omega)));have hs3:=q3.size;go_wp2_with fail;refine hrd.mono ?_;rintro e W4⟨ra,rc,rfl,hrr,hb4⟩;go_wp2_with fail;go_ret2;exact⟨ra,rc,rfl,hrr.weak λk hk=>⟨by omega,hk.2⟩,q3.trans (hb4.mono hs3)⟩
attribute [local go_sem] xe
section
variable {α : Type} {E : Elt α} {P : Program} {T Te : TypeId} {ops : Array Oper} {rest : List Oper} {o : Oper} {a : Act} {Q : Exit → Act → World → Prop} {w : World} {l n : Nat}
theorem zou (hP:LoP P T Te E.size){s x:Operand}(ho:o.op=.call {callee:=.builtin .append,args:=#[s,x],argTypes:=#[T,T]})(hgd:Region.wanted o (yielded ops a.tmps)=true){base lo:Nat}{vs:Value}{xs ys:List α}{ns:List Value}{p:Addr}{c:Nat}{S:Nat->Prop}(hs:a.eval s=vs)(hown:OwnL E Te base lo w vs xs)(hx:a.eval x=.slice (some p) ys.length c)
  (hcells:∀j u,ns[j]?=some u->w.cell? (p.add j)=some u)(hn:Flat E S w ys ns)(hS:∀k,S k->lo<=k/\k<w.heap.size/\some k≠vs.ownBlock)(hbase:base<=w.heap.size)
  (h:∀ad k cap w',OwnL E Te base lo w' (.slice ad k cap) (xs++ys)->w.grownBy w' vs.ownBlock->(Value.ownBlock (.slice ad k cap)=vs.ownBlock\/Value.ownBlock (.slice ad k cap)=some w.heap.size)->wpListIn (Fence.wide.inRound l) n P ops Q rest (a.put o.dst (.slice ad k cap)) w')(hlen:xs.length+ys.length<=1073741824):wpListIn (Fence.wide.inRound l) n P ops Q (o::rest) a w:=
 BigFrame.wpListIn_want hgd λK hK=>zg4 (K:=K) (by rw[ho];intro c h;cases h) (λ_ _ h=>h) (zd4 hP ho hs hown hx hcells hn hS hbase (λad k cap w' h1 h2 h3=>hK _ _ (h ad k cap w' h1 h2 h3)) hlen)
end
def zgq(ys:List YEl)(s:Int):List Pq:=ys.filterMap λy=>(zcd y.l s).map λv=>⟨y.t,v⟩
theorem zrm (ys:List YEl)(y:YEl)(s:Int):zgq (ys++[y]) s=zgq ys s++(match zcd y.l s with|some v=>[⟨y.t,v⟩]|none=>[]):=by
 unfold zgq;rw[List.filterMap_append];congr 1;cases h:zcd y.l s<;>simp[h]
theorem scanY_in (l:List Pr) (x:Sp) (s:Int){ys:List YEl}(h:ys.map (·.pr)=inPk l x):zgq ys s=zbr l x s:=by
 have h1:zgq ys s=(ys.map (·.pr)).filterMap λp=>(zcd p.chain s).map λv=>(⟨p.key,v⟩:Pq):=by
  unfold zgq;rw[List.filterMap_map];rfl
 rw[h1,h];clear h1 h;unfold inPk zbr;induction l with
 |nil=>rfl
 |cons p r ih=>
  rw[wE,List.filterMap_cons];unfold zfo;cases hi:inS x p.key with
  |true=>
   rw[zi rfl,zi rfl,List.filterMap_cons,ih];rfl
  |false=>
   rw[zh (by simp),zh (by simp),ih];rfl
def ScEnd(w:World)(l:List Pq)(e:Ending)(w':World):Prop:=∃a c,e=.returned (.slice a l.length c)/\RdL Elt.pq (λk=>w.heap.size<=k/\k<w'.heap.size) w' (.slice a l.length c) l/\Below w.heap.size w w'
theorem zs7(w:World){S S2:Nat->Prop}{v vx:Value}{T:Sto}{x:Sp}{s:Int}(hr:RdSt S w v T)(hf:fitS T)(hx:RdSp S2 w vx x):Calls Tryz.prog 96 #[v,vx,.int .i64 s] w (ScEnd w (zbr (zcp T x.table) x s)):=by
  have hr0:RdSt (·<w.heap.size) w v T:=hr.fit.weak λ_ h=>h.2
  have hx0:RdSp (·<w.heap.size) w vx x:=by
    obtain⟨p1,p2,p3,p4,e,q1,q2,q3⟩:=hx;exact⟨p1,p2,p3,p4,e,q1.fit.weak λ_ h=>h.2,q2.fit.weak λ_ h=>h.2,q3⟩
  obtain⟨a,m,c,rfl,_⟩:=hr;obtain⟨xa,xc,xa2,xc2,rfl,_,_,_⟩:=hx;obtain⟨W,hW⟩:∃W,W=(((w.alloc (.cells #[.slice (a 0) (m 0) (c 0),.slice (a 1) (m 1) (c 1),.slice (a 2) (m 2) (c 2),.slice (a 3) (m 3) (c 3),.slice (a 4) (m 4) (c 4),.slice (a 5) (m 5) (c 5),.slice (a 6) (m 6) (c 6),.slice (a 7) (m 7) (c 7),.slice (a 8) (m 8) (c 8),.slice (a 9) (m 9) (c 9),.slice (a 10) (m 10) (c 10),.slice (a 11) (m 11) (c 11)] 49)).alloc (.cells #[.int .i64 x.table,.slice xa x.lo.length xc,.slice xa2 x.hi.length xc2,.bool x.isOpen] 67)).alloc (.cells #[.int .i64 s] 3)).alloc (.cells #[.slice none 0 0] 52):=⟨_,rfl⟩;have q:Below w.heap.size w W:=by rw[hW];exact((((ze _ _).alloc (zf _) _).alloc (by simp) _).alloc (by simp;omega) _).alloc (by simp;omega) _
  have hsz:W.heap.size=w.heap.size+4:=by rw[hW];simp
  obtain⟨w1,hw1⟩:∃w1,w1=w.alloc (.cells #[.slice (a 0) (m 0) (c 0),.slice (a 1) (m 1) (c 1),.slice (a 2) (m 2) (c 2),.slice (a 3) (m 3) (c 3),.slice (a 4) (m 4) (c 4),.slice (a 5) (m 5) (c 5),.slice (a 6) (m 6) (c 6),.slice (a 7) (m 7) (c 7),.slice (a 8) (m 8) (c 8),.slice (a 9) (m 9) (c 9),.slice (a 10) (m 10) (c 10),.slice (a 11) (m 11) (c 11)] 49):=⟨_,rfl⟩;obtain⟨w2,hw2⟩:∃w2,w2=w1.alloc (.cells #[.int .i64 x.table,.slice xa x.lo.length xc,.slice xa2 x.hi.length xc2,.bool x.isOpen] 67):=⟨_,rfl⟩;obtain⟨w3,hw3⟩:∃w3,w3=w2.alloc (.cells #[.int .i64 s] 3):=⟨_,rfl⟩;have hs1:w1.heap.size=w.heap.size+1:=by rw[hw1];simp
  have hs2:w2.heap.size=w.heap.size+2:=by rw[hw2];simp[hs1]
  have hs3:w3.heap.size=w.heap.size+3:=by rw[hw3];simp[hs2]
  have hW':W=w3.alloc (.cells #[.slice none 0 0] 52):=by rw[hW,hw3,hw2,hw1]
  have k3:Below w3.heap.size w3 W:=by rw[hW'];exact(ze _ _).alloc (zf _) _
  have k2:Below w2.heap.size w2 W:=(show Below w2.heap.size w2 w3 by rw[hw3];exact(ze _ _).alloc (zf _) _).trans (k3.mono (by omega));have k1:Below w1.heap.size w1 W:=(show Below w1.heap.size w1 w2 by rw[hw2];exact(ze _ _).alloc (zf _) _).trans (k2.mono (by omega));have bn:StB W w.heap.size a m c:=by
    have h:=BoxN.new w 49 (bxS a m c);exact BoxN.below (show BoxN w1 w.heap.size 49 (bxS a m c)by rw[hw1];exact h) k1 (by omega)
  have bx:BoxN W (w.heap.size+1) 67 [.int .i64 x.table,.slice xa x.lo.length xc,.slice xa2 x.hi.length xc2,.bool x.isOpen]:=by
    have h:=BoxN.new w1 67 [.int .i64 x.table,.slice xa x.lo.length xc,.slice xa2 x.hi.length xc2,.bool x.isOpen];rw[hs1]at h;exact BoxN.below (show BoxN w2 (w.heap.size+1) 67 [.int .i64 x.table,.slice xa x.lo.length xc,.slice xa2 x.hi.length xc2,.bool x.isOpen]by rw[hw2];exact h) k2 (by omega)
  have bs:Boxed W (w.heap.size+2) 3 (.int .i64 s):=by
    have h:=Boxed.new w2 3 (.int .i64 s);rw[hs2]at h;exact(k3.block _ (by omega)).trans (show Boxed w3 (w.heap.size+2) 3 (.int .i64 s)by rw[hw3];exact h)
  have bz:Boxed W (w.heap.size+3) 52 (.slice none 0 0):=by
    have h:=Boxed.new w3 52 (.slice none 0 0);rw[hs3]at h;rw[hW'];exact h
  have hS:=hr0.below q;clear hW' k1 k2 k3 hs1 hs2 hs3 hw1 hw2 hw3 w1 w2 w3;refine zbz Tryz.func96 rfl ?_;simp only[Tryz.ntmps96,yj,zI,zM,Nat.reduceAdd,Nat.reduceSub,xz,xA,xB,xC,yw,ym];go_upto_region 2 with(fail);rw[<-hW];clear hW;refine zez (by kernel_rfl) (by kernel_rfl) [sgEq (.agg #[.slice (a 0) (m 0) (c 0),.slice (a 1) (m 1) (c 1),.slice (a 2) (m 2) (c 2),.slice (a 3) (m 3) (c 3),.slice (a 4) (m 4) (c 4),.slice (a 5) (m 5) (c 5),.slice (a 6) (m 6) (c 6),.slice (a 7) (m 7) (c 7),.slice (a 8) (m 8) (c 8),.slice (a 9) (m 9) (c 9),.slice (a 10) (m 10) (c 10),.slice (a 11) (m 11) (c 11)]),sgEq (.pointer (some ⟨w.heap.size+1,0,none⟩)),sgEq (.int .i64 x.table),sgNd w.heap.size (ze4 T x.table),sgEq (.agg #[.int .i64 x.table,.slice xa x.lo.length xc,.slice xa2 x.hi.length xc2,.bool x.isOpen]),sgWi w.heap.size W.heap.size (ze4 T x.table) [.int .i64 x.table,.slice xa x.lo.length xc,.slice xa2 x.hi.length xc2,.bool x.isOpen]]
    ⟨?o0,?o1,?o2,?o3,?o4,?o5,trivial⟩ ?fin
  case o0=>
    refine GdOp.plain rfl (λA vs w' hF hT hb hd=>?_);have e1:=hF 3 rfl;exact zkg (us:=[.slice (a 0) (m 0) (c 0),.slice (a 1) (m 1) (c 1),.slice (a 2) (m 2) (c 2),.slice (a 3) (m 3) (c 3),.slice (a 4) (m 4) (c 4),.slice (a 5) (m 5) (c 5),.slice (a 6) (m 6) (c 6),.slice (a 7) (m 7) (c 7),.slice (a 8) (m 8) (c 8),.slice (a 9) (m 9) (c 9),.slice (a 10) (m 10) (c 10),.slice (a 11) (m 11) (c 11)]) stS7 rfl e1 (λj u hj=>by rw[zR];exact(bn.below hb bn.lt).cell hj) ⟨_,rfl,rfl,ze _ _⟩
  case o1=>
    refine GdOp.plain rfl (λA vs w' hF hT hb hd=>?_);have e1:=hF 4 rfl;exact zaf spS7 rfl e1 (by omega) ⟨_,rfl,rfl,ze _ _⟩
  case o2=>
    refine GdOp.plain rfl (λA vs w' hF hT hb hd=>?_);have e1:=(hT 13 1 (by simp) rfl).trans (hd ⟨1,.data⟩ (by simp) rfl);exact zbv (k:=.i64) rfl e1 (by kernel_rfl) ((bx.below hb bx.lt).cell (i:=0) rfl) ⟨_,rfl,rfl,ze _ _⟩
  case o3=>
    refine GdOp.plain rfl (λA vs w' hF hT hb hd=>?_);have e1:=(hT 12 0 (by simp) rfl).trans (hd ⟨0,.data⟩ (by simp) rfl);have e2:=(hT 14 2 (by simp) rfl).trans (hd ⟨2,.data⟩ (by simp) rfl);refine zah rfl (enters_of Tryz.func131 (by kernel_rfl) rfl) (args:=#[.agg #[.slice (a 0) (m 0) (c 0),.slice (a 1) (m 1) (c 1),.slice (a 2) (m 2) (c 2),.slice (a 3) (m 3) (c 3),.slice (a 4) (m 4) (c 4),.slice (a 5) (m 5) (c 5),.slice (a 6) (m 6) (c 6),.slice (a 7) (m 7) (c 7),.slice (a 8) (m 8) (c 8),.slice (a 9) (m 9) (c 9),.slice (a 10) (m 10) (c 10),.slice (a 11) (m 11) (c 11)],.int .i64 x.table]) (by simp only[zE,zn,zo,e1,e2]) ((zj2 w' (hS.below hb) hf).mono ?_);rintro e w2⟨u,rfl,hu,hb2⟩;obtain⟨p,q',r,rfl⟩:=hu.tri;exact⟨_,rfl,_,rfl,⟨p,q',r,rfl,by have:=hb.size;have:=hb2.size;have:=q.size;omega,hu⟩,hb2⟩
  case o4=>
    refine GdOp.plain rfl (λA vs w' hF hT hb hd=>?_);have e1:=hF 4 rfl;exact zdj spS7 rfl e1 ((bx.below hb bx.lt).cell (i:=0) rfl) ((bx.below hb bx.lt).cell (i:=1) rfl) ((bx.below hb bx.lt).cell (i:=2) rfl) ((bx.below hb bx.lt).cell (i:=3) rfl) ⟨_,rfl,rfl,ze _ _⟩
  case o5=>
    refine GdOp.plain rfl (λA vs w' hF hT hb hd=>?_);obtain⟨p,q',r,e3,hn3,hr3⟩:=hd ⟨3,.data⟩ (by simp) rfl;have e1:A.eval (.tmp 15)=.agg #[p,q',r]:=(hT 15 3 (by simp) rfl).trans e3;have e2:=(hT 16 4 (by simp) rfl).trans (hd ⟨4,.data⟩ (by simp) rfl);refine zah rfl (enters_of Tryz.func130 (by kernel_rfl) rfl) (args:=#[.agg #[p,q',r],.agg #[.int .i64 x.table,.slice xa x.lo.length xc,.slice xa2 x.hi.length xc2,.bool x.isOpen]]) (by simp only[zE,zn,zo,e1,e2]) ((zq7 w' p q' r _ _ _ _).mono ?_);rintro e w2 ⟨rfl,rfl⟩;have hbA:Below w'.heap.size w' (w'.alloc (.cells #[p,q',r] 46)):=(ze _ _).alloc (zf _) _;have hbB:Below w'.heap.size w' ((w'.alloc (.cells #[p,q',r] 46)).alloc (.cells #[.int .i64 x.table,.slice xa x.lo.length xc,.slice xa2 x.hi.length xc2,.bool x.isOpen] 67)):=hbA.alloc (by simp) _;have hbC:Below (w'.alloc (.cells #[p,q',r] 46)).heap.size (w'.alloc (.cells #[p,q',r] 46)) ((w'.alloc (.cells #[p,q',r] 46)).alloc (.cells #[.int .i64 x.table,.slice xa x.lo.length xc,.slice xa2 x.hi.length xc2,.bool x.isOpen] 67)):=(ze _ _).alloc (zf _) _;have hxb:=BoxN.new (w'.alloc (.cells #[p,q',r] 46)) 67 [.int .i64 x.table,.slice xa x.lo.length xc,.slice xa2 x.hi.length xc2,.bool x.isOpen];rw[yG]at hxb;exact⟨_,rfl,_,rfl,⟨w'.heap.size,w'.heap.size+1,p,q',r,rfl,hb.size,by have:=hb.size;omega,(TriV.new w' 46 p q' r).below hbC (by simp),hxb,by simp;omega,hr3.keep λk hk=>hbB.block k (by omega)⟩,hbB⟩
  case fin=>
    intro vs w3 hb3 hG;have e0:vs 0=.agg #[.slice (a 0) (m 0) (c 0),.slice (a 1) (m 1) (c 1),.slice (a 2) (m 2) (c 2),.slice (a 3) (m 3) (c 3),.slice (a 4) (m 4) (c 4),.slice (a 5) (m 5) (c 5),.slice (a 6) (m 6) (c 6),.slice (a 7) (m 7) (c 7),.slice (a 8) (m 8) (c 8),.slice (a 9) (m 9) (c 9),.slice (a 10) (m 10) (c 10),.slice (a 11) (m 11) (c 11)]:=hG 0 (by decide);have e1:vs 1=.pointer (some ⟨w.heap.size+1,0,none⟩):=hG 1 (by decide);have e2:vs 2=.int .i64 x.table:=hG 2 (by decide);obtain⟨p3,q3,r3,e3,_,_⟩:=hG 3 (by decide);have e4:vs 4=.agg #[.int .i64 x.table,.slice xa x.lo.length xc,.slice xa2 x.hi.length xc2,.bool x.isOpen]:=hG 4 (by decide);obtain⟨nb,xb,pn,qn,rn,e5,hnb1,hxb1,hnb,hxb,_,hrn⟩:=hG 5 (by decide);simp only[zaj,e0,e1,e2,e3,e4,e5];clear hG e0 e1 e2 e3 e4 e5;go_simp;have hb03:=q.trans (hb3.mono q.size);have hst:=zl3 (w0:=w) (w:=w3) (n:=ze4 T x.table) (x:=x) (N:=100000) (b:=w.heap.size+3) (hrn.keep λk hk=>(hb03.block k hk).symm) (zk5 hf _) hx0 hb03 hnb rfl hxb (by have:=hb3.size;omega) (by omega) (by omega) (zv (wi _ _) (zk4 (zk5 hf _)));have hs3:=hb3.size;have bs3:Boxed w3 (w.heap.size+2) 3 (.int .i64 s):=(hb3.block _ bs.lt).trans bs;have bz3:Boxed w3 (w.heap.size+3) 52 (.slice none 0 0):=(hb3.block _ bz.lt).trans bz;clear bs bz bn bx hS hr0 hx0;go_wp2_with fail;refine zkf (gf:=161) (lb:=#[.pointer (some ⟨nb,0,none⟩),.pointer (some ⟨xb,0,none⟩)]) rfl (enters_of Tryz.func161 (by kernel_rfl) rfl)
      hst (λh k=>h.trans k) (λi=>kpB_put (by omega)) (ze _ _) (λ_=>rfl)
      (λhi(pre:List YEl) W=>Below w.heap.size w W/\Boxed W (w.heap.size+2) 3 (.int .i64 s)/\BoxL Elt.pq 52 72 (w.heap.size+3) (max hi w3.heap.size) w3.heap.size W (zgq pre s))
      (λhi c pre W=>False)
      (λi=>OwnFrom.and (zvg (zf _) (by omega)) (OwnFrom.and zno (BoxL.own zti _)))
      (λi c _ _ _ _ hs _ _=>hs)
      (λi=>⟨hb03,bs3,none,0,0,bz3,OwnL.nil _ _ _ _ _⟩)
      (λhi y a' W=>a'={tmps:=#[.agg #[.slice (a 0) (m 0) (c 0),.slice (a 1) (m 1) (c 1),.slice (a 2) (m 2) (c 2),.slice (a 3) (m 3) (c 3),.slice (a 4) (m 4) (c 4),.slice (a 5) (m 5) (c 5),.slice (a 6) (m 6) (c 6),.slice (a 7) (m 7) (c 7),.slice (a 8) (m 8) (c 8),.slice (a 9) (m 9) (c 9),.slice (a 10) (m 10) (c 10),.slice (a 11) (m 11) (c 11)],.agg #[.int .i64 x.table,.slice xa x.lo.length xc,.slice xa2 x.hi.length xc2,.bool x.isOpen],.int .i64 s,.pointer (some ⟨w.heap.size,0,none⟩),.pointer (some ⟨w.heap.size+1,0,none⟩),.pointer (some ⟨w.heap.size+1+1,0,none⟩),.slice none 0 0,.pointer (some ⟨w.heap.size+1+1+1,0,none⟩),.slice y.ad y.t.length y.c,.slice y.ad2 y.l.length y.c2,undef,undef,.agg #[.slice (a 0) (m 0) (c 0),.slice (a 1) (m 1) (c 1),.slice (a 2) (m 2) (c 2),.slice (a 3) (m 3) (c 3),.slice (a 4) (m 4) (c 4),.slice (a 5) (m 5) (c 5),.slice (a 6) (m 6) (c 6),.slice (a 7) (m 7) (c 7),.slice (a 8) (m 8) (c 8),.slice (a 9) (m 9) (c 9),.slice (a 10) (m 10) (c 10),.slice (a 11) (m 11) (c 11)],.pointer (some ⟨w.heap.size+1,0,none⟩),.int .i64 x.table,.agg #[p3,q3,r3],.agg #[.int .i64 x.table,.slice xa x.lo.length xc,.slice xa2 x.hi.length xc2,.bool x.isOpen],.func (.func 161) #[] #[.pointer (some ⟨nb,0,none⟩),.pointer (some ⟨xb,0,none⟩)],.slice y.ad y.t.length y.c,.slice y.ad2 y.l.length y.c2,undef,undef,undef,undef,undef,undef,undef,undef,undef,undef,undef,undef,undef,undef],defers:=[]}/\GdW w3.heap.size hi y W)
      (λi y a' _ _ _ _ hs hg hr=>⟨hs.1,hs.2.own hg λr e=>(hr r e).2⟩) ?assign ?body ?done ?stop
    case assign=>
      intro i l pre y W K hi hgd hK;gi_wp2;refine Eq.mp ?_ (hK _ _ (KeepsFrom.refl _ _) (KpB.refl _ _ _ _) hi ⟨rfl,hgd⟩);kernel_rfl
    case stop=>
      rintro hi D c pre W4 hD _ h _;exact h.elim
    case body=>
      rintro hi l pre y a' W4 ⟨hb4,bs4,ad4,k4,c4',bz4,hO4⟩⟨rfl,hgd⟩hlt;have c4:=bs4.cell;have hs4:=hb4.size;have hrd:=zhj W4 (s:=s) hgd.2.1 hgd.2.2.2.2;have hsn:=zrm pre y s;obtain rfl:=hO4.len;have hsl:(zgq pre s).length<=pre.length:=List.length_filterMap_le _ _;cases hn:zcd y.l s with
      |none=>
        rw[hn]at hsn;replace hsn:zgq (pre++[y]) s=zgq pre s:=by simpa using hsn
        have hcn:=CallsIn.inRound l ((xL (n:=0)).2 (hrd.mono λe w' h=>zbc.none hn h));gi_wp2;refine⟨trivial,hcn.mono ?_⟩;clear hcn hrd;rintro e W5⟨a5,c5,rfl,hr5,hb5⟩;gi_wp2;refine⟨(KeepsOthers.of_grownBy (zbm hb5) (λj o e=>by cases e)).from _,KpB.of hb5 (by omega),hb4.trans (hb5.mono hs4),(hb5.block _ bs4.lt).trans bs4,?_⟩;rw[hsn];exact⟨ad4,_,c4',(hb5.block _ bz4.lt).trans bz4,hO4.below hb5⟩
      |some vv=>
        rw[hn]at hsn;have hcn:=CallsIn.inRound l ((xL (n:=0)).2 (hrd.mono λe w' h=>zbc.some hn h));gi_wp2;refine⟨trivial,hcn.mono ?_⟩;clear hcn hrd;rintro e W5⟨a5,c5,rfl,hr5,hb5⟩;have bz5:Boxed W5 (w.heap.size+3) 52 (.slice ad4 (zgq pre s).length c4'):=(hb5.block _ bz4.lt).trans bz4;have hO5:=hO4.below hb5;have z5:=bz5.cell;have f5:=bz5.frozen;have hs5:=hb5.size;obtain⟨W6,hW6⟩:∃W6,W6=W5.alloc (.cells #[.slice y.ad y.t.length y.c,.slice a5 vv.length c5] 72):=⟨_,rfl⟩;have hb56:Below W5.heap.size W5 W6:=by rw[hW6];exact(ze _ _).alloc (zf _) _
        have hrow:BoxN W6 W5.heap.size 72 [.slice y.ad y.t.length y.c,.slice a5 vv.length c5]:=by rw[hW6];exact BoxN.new _ _ _
        have hO6:=hO5.below hb56;have hs6:=hb56.size;have hown:∀k,Value.ownBlock (.slice ad4 (zgq pre s).length c4')=some k->max hi w3.heap.size<=k/\k<W4.heap.size:=hO4.block_lt;have hfl:Flat Elt.pq (λk=>w3.heap.size<=k/\k<W6.heap.size/\some k≠Value.ownBlock (.slice ad4 (zgq pre s).length c4')) W6 [⟨y.t,vv⟩] [.slice y.ad y.t.length y.c,.slice a5 vv.length c5]:=by
          refine Flat.single ⟨_,_,rfl,((hgd.1.below hb5).below hb56).weak λk hk=>⟨hk.1,by have:=hgd.2.2.1.2;have:=hk.2.1;omega,λe=>by have:=(hown k e.symm).1;have:=hk.2.1;omega⟩,(hr5.below hb56).weak λk hk=>⟨by have:=hgd.2.2.1.1;have:=hgd.2.2.1.2;omega,by omega,λe=>by have:=(hown k e.symm).2;omega⟩⟩
        have hb3g:=hgd.2.2.1;replace hgd:=Lib.hid hgd;gi_wp2_with(gi_at_builtin;rw[<-hW6];refine zou (E:=Elt.pq) pqP rfl rfl (ys:=[⟨y.t,vv⟩]) (ns:=[.slice y.ad y.t.length y.c,.slice a5 vv.length c5]) (p:=⟨W5.heap.size,0,none⟩) (c:=1) rfl hO6 rfl (λj u hj=>by rw[zN,zR];exact hrow.cell hj) hfl (λk hk=>hk) (by omega) (λad k cap W7 hO7 hg7 hw7=>?_) (by simp;omega);have bz7:Boxed W7 (w.heap.size+3) 52 (.slice ad4 (zgq pre s).length c4'):=(hg7.block _ (by omega) (λe=>by have:=(hown _ e.symm).1;omega)).trans ((hb56.block _ bz5.lt).trans bz5);clear z5 f5;have z7:=bz7.cell;have f7:=bz7.frozen);have hb46:Below W4.heap.size W4 W6:=hb5.trans (hb56.mono hs5);have hk46:KeepsOthers W4 W6:=KeepsOthers.of_grownBy (zbm hb46) (λj o e=>by cases e);have hk67:KeepsOthers W6 W7:=KeepsOthers.of_grownBy hg7 (λj o e ho=>by
          obtain⟨cc,rr,h⟩:=zpx hO6 e;rw[h]at ho;cases ho;rfl)
        have hs7:=hg7.size;have hb67:Below w.heap.size W6 W7:=⟨hg7.os,hg7.tape,hg7.output,hs7,λj hj=>hg7.block j (by omega) (λe=>by have:=(hown _ e.symm).1;omega)⟩;have hb47:Below w.heap.size W4 W7:=(hb46.mono hs4).trans hb67;have hb78:Below w.heap.size W7 (W7.setCell ⟨w.heap.size+3,0,none⟩ (.slice ad k cap)):=(ze _ _).setCell (p:=⟨w.heap.size+3,0,none⟩) (by show w.heap.size<=w.heap.size+3;omega) _;refine⟨((hk46.trans hk67).trans (KeepsOthers.setCell W7 _ _)).from _,⟨hb47.trans hb78,λj o h1 h2 h3 h4=>?_⟩,(hb4.trans hb47).trans hb78,?_,?_⟩
        · have hj4:j<W4.heap.size:=(zJ.1 h3).1
          exact(xm W7 ⟨w.heap.size+3,0,none⟩ j _ h2).trans ((hg7.block j (by omega) (λe=>by have:=(hown _ e.symm).1;omega)).trans (hb46.block j hj4))
        · have hbs6:=hb46.size
          exact(xm W7 ⟨w.heap.size+3,0,none⟩ (w.heap.size+2) _ (by show w.heap.size+2≠w.heap.size+3;omega)).trans ((hg7.block _ (by have:=bs4.lt;omega) (λe=>by have:=(hown _ e.symm).1;omega)).trans ((hb46.block _ bs4.lt).trans bs4))
        · rw[hsn]
          exact⟨ad,k,cap,bz7.set _,hO7.other (grownBy_setCell' W7 (w.heap.size+3) (.slice ad k cap)) (by omega) (by omega)⟩
    case done=>
      rintro hi D ys W4 hD hys ⟨hb4,bs4,ad4,k4,c4',bz4,hO4⟩hK;obtain rfl:=hO4.len;have c4:=bz4.cell;rw[scanY_in _ _ _ hys,ztm]at hO4 c4;replace hys:=Lib.hid hys;clear bz4 bs4;go_wp2_with fail;refine⟨by simp,.inl ⟨_,_,rfl,run_takeDeferred hK,?_⟩⟩;have hb5:=hb4.trans (belowK_b (w:=w) (zf _) W4 D _ (Obj.deferred none) (by omega) hK rfl rfl);have hO5:=hO4.grown zti (grownBy_putObj' W4 D (Obj.deferred none)) (λr e=>by injection e with e;subst e;exact⟨_,hK,rfl⟩);exact⟨_,by simp[results,Tryz.results96,go_sem],_,_,rfl,hO5.rdS λk h1 h2=>⟨by omega,h2⟩,hb5⟩
def T07:Sto:=λ_=>.mk [] [] []
def pA7:List Pr:=[⟨[97],[⟨3,false,[118]⟩]⟩]
theorem ok_nil7:okN (.mk [] [] []):=by
  constructor
  ·simp[zb8]
  · rw[show zac (.mk [] [] [])=[]from rfl]
    exactλi h=>by simp at h
theorem okS_07:okS T07:=λi _=>⟨ok_nil7,by rw[show T07 i=.mk [] [] []from rfl,zoe];simp⟩
theorem tab_07(j:Nat):tabS T07 j=[]:=zoe
theorem inst7_1:(zcl [] [97] ⟨3,false,[118]⟩)=(pA7,0):=by decide
end Go.Proofs.YtkobhdllagbkhaaGreat
