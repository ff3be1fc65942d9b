/-
  TEXTS OF ONE PROOF, merged: TreQ, TreD, TreR, SlR, TraE.
-/
import Derived.Test.YtkobhdllagbkhaaGreatKn3
namespace Go.Proofs.YtkobhdllagbkhaaGreat
open Go.RowKit
set_option maxRecDepth 100000
set_option maxHeartbeats 32000000
theorem LnOp.sd{P:Program}{Q:Exit->Act->World->Prop}{ops:Array Oper}{a:Act}{ch:List Nat}{G:Nat->World->Value->Prop}{J:List Value->World->Prop}{K:World->World->Prop}{i:Nat}{o:Oper}(h:SideOp P Q ops a ch G J i o)(hg:o.guard=none:=by rfl)(hp:ch.contains i=false:=by kernel_rfl):LnOp P Q ops a ch G J K i o:=LnOp.side hg hp h
def zca:List (List Pr)->List Pr->List Pr
 |[],ks=>ks
 |p::_,[]=>p
 |p::ps,k::ks=>p++k::zca ps ks
def pre:List (List Pr)->List Pr->List Pr
 |p::ps,k::ks=>p++k::pre ps ks
 |_,_=>[]
def suf:List Pr->List (List Pr)->List Pr
 |[],_=>[]
 |k::ks,B=>k::zca B ks
theorem zcw(x:List Pr)(B:List (List Pr)):∀K:List Pr,zca (x::B) K=x++suf K B
 |[]=>by simp[zca,suf]
 |k::ks=>by simp[zca,suf]
theorem zew:∀{A:List (List Pr)}{K1:List Pr},A.length=K1.length->∀(x:List Pr)(B:List (List Pr))(K2:List Pr),zca (A++x::B) (K1++K2)=pre A K1++x++suf K2 B
 |[],[],_,x,B,K2=>by rw[yw,yw,zcw];simp[pre]
 |p::ps,k::ks,h,x,B,K2=>by
  have ih:=zew (A:=ps) (K1:=ks) (by simpa using h) x B K2;simp only[ym,zca,pre,ih,zG]
theorem zef:∀{P1:List (List Pr)}{k1:List Pr},P1.length=k1.length+1->∀(P2:List (List Pr))(s:Pr)(k2:List Pr),zca (P1++P2) (k1++s::k2)=zca P1 k1++s::zca P2 k2
 |[p],[],_,P2,s,k2=>by simp[zca]
 |_::_::_,[],h,_,_,_=>by simp at h
 |p::ps,k::ks,h,P2,s,k2=>by
  have ih:=zef (P1:=ps) (k1:=ks) (by simpa using h) P2 s k2;simp only[ym,zca,ih,zG]
def kpN(n:Nd):List Pr:=List.zipWith Pr.mk n.keys n.chains
def psN (n:Nd):List (List Pr):=n.kids.map zac
theorem zbt{n:Nd}(h:n.chains.length=n.keys.length):(kpN n).length=n.keys.length:=by
 unfold kpN;rw[wn,h,Nat.min_self]
theorem zfd{n:Nd}(h:n.chains.length=n.keys.length){i:Nat}(hi:i<n.keys.length):(kpN n)[i]?=some ⟨n.keys[i],n.chains[i]'(by omega)⟩:=by
 unfold kpN;rw[List.getElem?_zipWith,zB hi,zB (by omega:i<n.chains.length)]
theorem wv_inter{ks:List (List UInt8)}{cs:List (List Ver)}(hc:cs.length=ks.length):∀(ps:List (List Pr)),ps.length=ks.length+1->∀i,i<=ks.length->wv ps ks cs i=pre (ps.take i) ((List.zipWith Pr.mk ks cs).take i):=by
 intro ps hp i;induction i with
 |zero=>intro _;simp[wv,pre]
 |succ i ih=>
  intro hi;have hl1:i<ps.length:=by omega
  have hl2:i<(List.zipWith Pr.mk ks cs).length:=by rw[wn];omega
  have e1:ps.getD i []=ps[i]:=by rw[yu,zB hl1];rfl
  have e2:(⟨ks.getD i [],cs.getD i []⟩:Pr)=(List.zipWith Pr.mk ks cs)[i]:=by
   rw[List.getElem_zipWith,yu,yu,zB (by omega:i<ks.length),zB (by omega:i<cs.length)];rfl
  rw[wv,ih (by omega),e1,e2,yT,yT,zB hl1,zB hl2,xo,xo];have:∀{A:List (List Pr)}{K:List Pr},A.length=K.length->∀p k,pre (A++[p]) (K++[k])=pre A K++p++[k]:=by
   intro A;induction A with
   |nil=>intro K h p k;obtain rfl:K=[]:=yg (by simpa using h.symm);simp[pre]
   |cons a A ih2=>
    intro K h p k;cases K with
    |nil=>simp at h
    |cons b K=>simp only[ym,pre,ih2 (by simpa using h),zG]
  rw[this (by rw[zp,zp,wn];omega)]
theorem zar{n:Nd}(hc:n.chains.length=n.keys.length) (hk:n.kids=[]\/n.kids.length=n.keys.length+1):zac n=zca (psN n) (kpN n):=by
  rw[zf2];unfold psN;rcases hk with hk|hk
  · rw[hk]
    have:∀i,i<=n.keys.length->wv [] n.keys n.chains i=(kpN n).take i:=by
      intro i;induction i with
      |zero=>intro _;simp[wv]
      |succ i ih=>
        intro hi;rw[wv,ih (by omega),yT,zfd hc (by omega)];simp[List.getD_eq_getElem?_getD,zB (by omega:i<n.keys.length),zB (by omega:i<n.chains.length)]
    simp only[zo,zca,zM];rw[this _ (zf _),yq (by rw[zbt hc];exact zf _)];simp
  · have hp:(n.kids.map zac).length=n.keys.length+1:=by rw[zX,hk]
    rw[wv_inter hc _ hp _ (zf _),hk,xt];have hl:n.keys.length<(n.kids.map zac).length:=by omega
    have e:n.kids.map zac=(n.kids.map zac).take n.keys.length++(n.kids.map zac)[n.keys.length]::[]:=by
      have:=yQ hl;rw[xj (i:=n.keys.length+1) (by omega)]at this;rw[<-this,yz]
    have e2:kpN n=(kpN n)++[]:=by simp
    have e3:List.zipWith Pr.mk n.keys n.chains=kpN n:=rfl;rw[e3,yq (l:=kpN n) (by rw[zbt hc];exact zf _)];conv=>rhs;rw[e,e2]
    rw[zew (by rw[zp,zbt hc];omega)];simp[suf,List.getD_eq_getElem?_getD,zB hl]
def Wf:Nat->Nat->Nat->Nd->Prop
 |0,_,_,_=>False
 |d+1,lo,hi,n=>n.chains.length=n.keys.length/\lo<=n.keys.length/\n.keys.length<=hi/\((d=0/\n.kids=[])\/(0<d/\n.kids.length=n.keys.length+1/\∀m∈n.kids,Wf d 1 3 m))
theorem Wf.shape{d lo hi:Nat}{n:Nd}(h:Wf d lo hi n):n.chains.length=n.keys.length/\(n.kids=[]\/n.kids.length=n.keys.length+1):=by
 cases d with
 |zero=>exact h.elim
 |succ d=>exact⟨h.1,h.2.2.2.imp (λh=>h.2) λh=>h.2.1⟩
theorem Wf.pairs{d lo hi:Nat}{n:Nd}(h:Wf d lo hi n):zac n=zca (psN n) (kpN n):=zar h.shape.1 h.shape.2
theorem Wf.mono{d lo hi lo' hi':Nat}{n:Nd}(h:Wf d lo hi n)(h1:lo'<=n.keys.length)(h2:n.keys.length<=hi'):Wf d lo' hi' n:=by
 cases d with
 |zero=>exact h.elim
 |succ d=>exact⟨h.1,h1,h2,h.2.2.2⟩
theorem Wf.keys{d lo hi:Nat}{n:Nd}(h:Wf d lo hi n):lo<=n.keys.length/\n.keys.length<=hi:=by
 cases d with
 |zero=>exact h.elim
 |succ d=>exact⟨h.2.1,h.2.2.1⟩
theorem Wf.pos{d lo hi:Nat}{n:Nd}(h:Wf d lo hi n):0<d:=by
 cases d with
 |zero=>exact h.elim
 |succ d=>omega
theorem zc3{n:Nd}(hc:n.chains.length=n.keys.length)(hk:n.kids.length=n.keys.length+1){i:Nat}(hi:i<n.kids.length):zac n=pre ((psN n).take i) ((kpN n).take i)++zac n.kids[i]++suf ((kpN n).drop i) ((psN n).drop (i+1)):=by
 rw[zar hc (.inr hk)];have hl:i<(psN n).length:=by unfold psN;rw[zX];exact hi
 have e:psN n=(psN n).take i++(psN n)[i]::(psN n).drop (i+1):=by rw[<-yQ hl,yz]
 have e2:kpN n=(kpN n).take i++(kpN n).drop i:=(yz _ _).symm;have hx:(psN n)[i]=zac n.kids[i]:=wo (l:=n.kids) zac;conv=>lhs;rw[e,e2]
 rw[zew (by rw[zp,zp,zbt hc];omega),hx]
def zck(n:Nd)(i:Nat)(m:Nd):Nd:=.mk n.keys n.chains (n.kids.set i m)
theorem ztp{n:Nd}(hc:n.chains.length=n.keys.length)(hk:n.kids.length=n.keys.length+1){i:Nat}(hi:i<n.kids.length)(m:Nd):zac (zck n i m)=pre ((psN n).take i) ((kpN n).take i)++zac m++suf ((kpN n).drop i) ((psN n).drop (i+1)):=by
 rw[zc3 (n:=zck n i m) hc (by show(n.kids.set i m).length=_;rw[yR];exact hk) (i:=i) (by show i<(n.kids.set i m).length;rw[yR];exact hi)];have e1:(psN (zck n i m)).take i=(psN n).take i:=by
  show((n.kids.set i m).map zac).take i=(n.kids.map zac).take i;rw[<-List.map_take,<-List.map_take,List.take_set_of_le (zf _)]
 have e2:(psN (zck n i m)).drop (i+1)=(psN n).drop (i+1):=by
  show((n.kids.set i m).map zac).drop (i+1)=(n.kids.map zac).drop (i+1);rw[<-List.map_drop,<-List.map_drop,List.drop_set_of_lt (xX _)]
 have e3:(zck n i m).kids[i]'(by show i<(n.kids.set i m).length;rw[yR];exact hi)=m:=List.getElem_set_self _
 rw[e1,e2,e3];rfl
def noNd:Nd:=.mk [] [] []
def kidN (n:Nd)(i:Nat):Nd:=n.kids.getD i noNd
theorem zbl{n:Nd}{i:Nat}(hi:i<n.kids.length):kidN n i=n.kids[i]:=by
 unfold kidN;rw[yu,zB hi];rfl
def zbu (n:Nd)(f t:Nat):Nd:=
 .mk ((n.keys.take (min t n.keys.length)).drop (min f n.keys.length)) ((n.chains.take (min t n.chains.length)).drop (min f n.chains.length)) ((n.kids.take (min (t+1) n.kids.length)).drop (min f n.kids.length))
def zbk(n:Nd)(i:Nat):Nd:=
 .mk (n.keys.take i++[(kidN n i).keys.getD ((kidN n i).keys.length/2) []]++n.keys.drop i) (n.chains.take i++[(kidN n i).chains.getD ((kidN n i).keys.length/2) []]++n.chains.drop i)
  (n.kids.take i++[zbu (kidN n i) 0 ((kidN n i).keys.length/2),zbu (kidN n i) ((kidN n i).keys.length/2+1) (kidN n i).keys.length]++n.kids.drop (i+1))
def oneF (n:Nd)(i:Nat):Nd:=
 .mk ((kidN n i).keys++(n.keys.take (i+1)).drop i++(kidN n (i+1)).keys) ((kidN n i).chains++(n.chains.take (i+1)).drop i++(kidN n (i+1)).chains) ((kidN n i).kids++(kidN n (i+1)).kids)
def zbb (n:Nd)(i:Nat):Nd:=
 .mk (n.keys.take i++n.keys.drop (i+1)) (n.chains.take i++n.chains.drop (i+1)) (n.kids.take i++[oneF n i]++n.kids.drop (i+2))
def za5(n:Nd)(i:Nat):Nd:=
 let n1:=if(kidN n i).keys.length<1 then zbb n (i-1)else n;let i1:=if(kidN n i).keys.length<1 then i-1 else i;if 3<(kidN n1 i1).keys.length then zbk n1 i1 else n1
structure Wk (d:Nat)(n:Nd)(i lo hi:Nat):Prop where
 ch:n.chains.length=n.keys.length
 kd:n.kids.length=n.keys.length+1
 lt:i<n.kids.length
 at':Wf d lo hi (kidN n i)
 off:∀j (h:j<n.kids.length),j≠i->Wf d 1 3 n.kids[j]
theorem zi4{α:Type}{l:List α}{i:Nat}{x:α}(h:x∈l.take i):∃j,∃hj:j<l.length,j<i/\l[j]=x:=by
 obtain⟨j,hj,e⟩:=yy.1 h;rw[zp]at hj;rw[List.getElem_take]at e;exact⟨j,by omega,by omega,e⟩
theorem zi5{α:Type}{l:List α}{i:Nat}{x:α}(h:x∈l.drop i):∃j,∃hj:j<l.length,i<=j/\l[j]=x:=by
 obtain⟨j,hj,e⟩:=yy.1 h;rw[zF]at hj;rw[List.getElem_drop]at e;exact⟨i+j,by omega,by omega,e⟩
theorem zp8{n:Nd}(hc:n.chains.length=n.keys.length)(i:Nat)(k:List UInt8)(c:List Ver):List.zipWith Pr.mk (n.keys.take i++[k]++n.keys.drop i) (n.chains.take i++[c]++n.chains.drop i)=(kpN n).take i++⟨k,c⟩::(kpN n).drop i:=by
 unfold kpN;rw[zG,zG,List.zipWith_append (by rw[zp,zp,hc]),List.take_zipWith,List.drop_zipWith];rfl
theorem zto{n:Nd}(hc:n.chains.length=n.keys.length)(f t:Nat):kpN (zbu n f t)=((kpN n).take (min t n.keys.length)).drop (min f n.keys.length):=by
 unfold kpN zbu;simp only[Nd.keys,Nd.chains];rw[List.take_zipWith,List.drop_zipWith];have:n.chains.length=n.keys.length:=hc;simp only[Nd.keys,Nd.chains]at this⊢;rw[this]
theorem zgg{d i hi:Nat}{n:Nd}(h:Wk d n i 1 hi):zac (zbk n i)=zac n:=by
  have hk:=h.at'.pairs;have hs:=h.at'.shape;have hkl:=h.at'.keys.1;obtain⟨k,hk0⟩:∃k,k=kidN n i:=⟨_,rfl⟩;have hkid:n.kids[i]'h.lt=k:=by rw[hk0,zbl h.lt]
  rw[<-hk0]at hk hs hkl;obtain⟨m,hm⟩:∃m,m=k.keys.length/2:=⟨_,rfl⟩;have hmk:m<k.keys.length:=by omega
  have hcm:m<k.chains.length:=by omega
  have hch:=h.ch;have hkd:=h.kd;have hlt:=h.lt;have e0:zbk n i=.mk (n.keys.take i++[k.keys.getD m []]++n.keys.drop i) (n.chains.take i++[k.chains.getD m []]++n.chains.drop i) (n.kids.take i++[zbu k 0 m,zbu k (m+1) k.keys.length]++n.kids.drop (i+1)):=by
    unfold zbk;rw[<-hk0,<-hm]
  have hA:((psN n).take i).length=((kpN n).take i).length:=by
    unfold psN;rw[zp,zp,zX,zbt hch];omega
  have hkp:kpN k=(kpN k).take m++(⟨k.keys.getD m [],k.chains.getD m []⟩:Pr)::(kpN k).drop (m+1):=by
    have h1:=zfd hs.1 hmk;have h2:m<(kpN k).length:=by rw[zbt hs.1];exact hmk
    have h3:(kpN k)[m]=⟨k.keys.getD m [],k.chains.getD m []⟩:=by
      rw[zB h2]at h1;rw[yn h1,yu,yu,zB hmk,zB hcm];rfl
    rw[<-h3,<-yQ h2,yz]
  have hl:kpN (zbu k 0 m)=(kpN k).take m:=by
    rw[zto hs.1,Nat.zero_min,wq,yi (xY hmk)]
  have hr:kpN (zbu k (m+1) k.keys.length)=(kpN k).drop (m+1):=by
    rw[zto hs.1,Nat.min_self,yq (by rw[zbt hs.1];exact zf _),yi hmk]
  have lens:∀f t,(zbu k f t).chains.length=(zbu k f t).keys.length:=λf t=>by
    show((k.chains.take (min t k.chains.length)).drop (min f k.chains.length)).length=((k.keys.take (min t k.keys.length)).drop (min f k.keys.length)).length;rw[hs.1];simp only[zF,zp,hs.1]
  have hkid2:zac k=zac (zbu k 0 m)++(⟨k.keys.getD m [],k.chains.getD m []⟩:Pr)::zac (zbu k (m+1) k.keys.length):=by
    rcases hs.2 with h0|h0
    · have ep:∀f t,(zbu k f t).kids=[]:=λf t=>by
        show(k.kids.take _).drop _=[];rw[h0,List.take_nil,List.drop_nil]
      have e1:=ep 0 m;have e2:=ep (m+1) k.keys.length;rw[hk,zar (lens _ _) (.inl e1),zar (lens _ _) (.inl e2),hl,hr];unfold psN;rw[h0,e1,e2];simp only[zo,zca];exact hkp
    · have f1:(zbu k 0 m).kids=k.kids.take (m+1):=by
        show(k.kids.take (min (m+1) k.kids.length)).drop (min 0 k.kids.length)=_;rw[yi (show m+1<=k.kids.length by omega),Nat.zero_min,wq]
      have f2:(zbu k (m+1) k.keys.length).kids=k.kids.drop (m+1):=by
        show(k.kids.take (min (k.keys.length+1) k.kids.length)).drop (min (m+1) k.kids.length)=_;rw[h0,Nat.min_self,yq (by omega),yi (by omega)]
      have g1:(zbu k 0 m).kids.length=(zbu k 0 m).keys.length+1:=by
        rw[f1];show _=((k.keys.take (min m k.keys.length)).drop (min 0 k.keys.length)).length+1;simp only[zF,zp];omega
      have g2:(zbu k (m+1) k.keys.length).kids.length=(zbu k (m+1) k.keys.length).keys.length+1:=by
        rw[f2];show _=((k.keys.take (min k.keys.length k.keys.length)).drop (min (m+1) k.keys.length)).length+1;simp only[zF,zp];omega
      rw[hk,zar (lens _ _) (.inr g1),zar (lens _ _) (.inr g2),hl,hr];unfold psN;rw[f1,f2,List.map_take,List.map_drop];conv=>lhs;rw[<-yz (m+1) (k.kids.map zac),hkp]
      rw[zef];rw[zp,zX,zp,zbt hs.1];omega
  rw[zc3 hch hkd h.lt,hkid,hkid2];have e1:(zbk n i).chains.length=(zbk n i).keys.length:=by
    rw[e0];show(n.chains.take i++[k.chains.getD m []]++n.chains.drop i).length=(n.keys.take i++[k.keys.getD m []]++n.keys.drop i).length;simp only[zC,zp,zF,hch,zI,zM]
  have e2:(zbk n i).kids.length=(zbk n i).keys.length+1:=by
    rw[e0];show(n.kids.take i++[zbu k 0 m,zbu k (m+1) k.keys.length]++n.kids.drop (i+1)).length=(n.keys.take i++[k.keys.getD m []]++n.keys.drop i).length+1;simp only[zC,zp,zF,zI,zM];omega
  rw[zar e1 (.inr e2)];have e3:kpN (zbk n i)=(kpN n).take i++(⟨k.keys.getD m [],k.chains.getD m []⟩:Pr)::(kpN n).drop i:=by
    rw[e0];exact zp8 hch i _ _
  have e4:psN (zbk n i)=(psN n).take i++zac (zbu k 0 m)::(zac (zbu k (m+1) k.keys.length)::(psN n).drop (i+1)):=by
    rw[e0];show(n.kids.take i++[zbu k 0 m,zbu k (m+1) k.keys.length]++n.kids.drop (i+1)).map zac=_;unfold psN;simp only[yW,List.map_take,List.map_drop,zn,zG,ym,yw]
  rw[e3,e4,zew hA];simp only[suf,zcw,zG,ym]
theorem ztn{d lo hi f t:Nat}{k:Nd}(h:Wf d lo hi k) (hft:f<t) (ht:t<=k.keys.length) (h3:t-f<=3):Wf d 1 3 (zbu k f t):=by
  cases d with
  |zero=>exact h.elim
  |succ d=>
    obtain⟨hc,_,_,hs⟩:=h;have hkeys:(zbu k f t).keys.length=t-f:=by
      show((k.keys.take (min t k.keys.length)).drop (min f k.keys.length)).length=_;simp only[zF,zp];omega
    have hch:(zbu k f t).chains.length=t-f:=by
      show((k.chains.take (min t k.chains.length)).drop (min f k.chains.length)).length=_;simp only[zF,zp];omega
    refine⟨by rw[hkeys,hch],by omega,by omega,?_⟩;rcases hs with⟨h0,h1⟩|⟨h0,h1,h2⟩
    · refine .inl ⟨h0,?_⟩
      show(k.kids.take _).drop _=[];rw[h1,List.take_nil,List.drop_nil]
    · refine .inr ⟨h0,?_,λm hm=>h2 m ?_⟩
      · rw[hkeys]
        show((k.kids.take (min (t+1) k.kids.length)).drop (min f k.kids.length)).length=_;simp only[zF,zp];omega
      ·exact y7 (yM (show m∈(k.kids.take _).drop _ from hm))
theorem zg7{d i:Nat}{n:Nd}(h:Wk d n i 3 7):(zbk n i).chains.length=(zbk n i).keys.length/\(zbk n i).keys.length=n.keys.length+1/\(zbk n i).kids.length=(zbk n i).keys.length+1/\∀m∈(zbk n i).kids,Wf d 1 3 m:=by
  have hch:=h.ch;have hkd:=h.kd;have hlt:=h.lt;have hk:=h.at'.keys;have hkeys:(zbk n i).keys.length=n.keys.length+1:=by
    show(n.keys.take i++[_]++n.keys.drop i).length=_;simp only[zC,zp,zF,zI,zM];omega
  refine⟨?_,hkeys,?_,λm hm=>?_⟩
  · rw[hkeys]
    show(n.chains.take i++[_]++n.chains.drop i).length=_;simp only[zC,zp,zF,zI,zM];omega
  · rw[hkeys]
    show(n.kids.take i++[_,_]++n.kids.drop (i+1)).length=_;simp only[zC,zp,zF,zI,zM];omega
  · have hm':m∈n.kids.take i++[zbu (kidN n i) 0 ((kidN n i).keys.length/2),zbu (kidN n i) ((kidN n i).keys.length/2+1) (kidN n i).keys.length]++n.kids.drop (i+1):=hm
    simp only[zV,zU,yJ,yK]at hm';rcases hm' with(hm'|rfl|rfl)|hm'
    · obtain⟨j,hj,hji,rfl⟩:=zi4 hm'
      exact h.off j hj (by omega)
    ·exact ztn h.at' (by omega) (by omega) (by omega)
    ·exact ztn h.at' (by omega) (by omega) (by omega)
    · obtain⟨j,hj,hji,rfl⟩:=zi5 hm'
      exact h.off j hj (by omega)
theorem zmr {n:Nd}{i d:Nat}(hc:n.chains.length=n.keys.length)(hi:i<n.keys.length)(ha:Wf d 0 3 (kidN n i))(hb:Wf d 0 3 (kidN n (i+1))):Wf d 1 7 (oneF n i)/\(oneF n i).keys.length=(kidN n i).keys.length+1+(kidN n (i+1)).keys.length/\zac (oneF n i)=zac (kidN n i)++(⟨n.keys[i],n.chains[i]'(by omega)⟩:Pr)::zac (kidN n (i+1)):=by
  obtain⟨a,hae⟩:∃a,a=kidN n i:=⟨_,rfl⟩;obtain⟨b,hbe⟩:∃b,b=kidN n (i+1):=⟨_,rfl⟩;have e0:oneF n i=.mk (a.keys++(n.keys.take (i+1)).drop i++b.keys) (a.chains++(n.chains.take (i+1)).drop i++b.chains) (a.kids++b.kids):=by unfold oneF;rw[<-hae,<-hbe]
  rw[<-hae]at ha⊢;rw[<-hbe]at hb⊢;have hci:i<n.chains.length:=by omega
  have m1:(n.keys.take (i+1)).drop i=[n.keys[i]]:=by
    rw[yT,zB hi,wZ (by rw[zp];omega),xj (by rw[zp];omega)];rfl
  have m2:(n.chains.take (i+1)).drop i=[n.chains[i]]:=by
    rw[yT,zB hci,wZ (by rw[zp];omega),xj (by rw[zp];omega)];rfl
  rw[m1,m2]at e0;have sa:=ha.shape;have sb:=hb.shape;have ka:=ha.keys;have kb:=hb.keys;have hkeys:(oneF n i).keys.length=a.keys.length+1+b.keys.length:=by
    rw[e0];show(a.keys++[_]++b.keys).length=_;simp only[zC,zI,zM]
  have hchs:(oneF n i).chains.length=(oneF n i).keys.length:=by
    rw[hkeys,e0];show(a.chains++[_]++b.chains).length=_;simp only[zC,zI,zM];omega
  have hkids:(oneF n i).kids=a.kids++b.kids:=by rw[e0];rfl
  have hwf:Wf d 1 7 (oneF n i):=by
    cases d with
    |zero=>exact ha.elim
    |succ d=>
      refine⟨hchs,by omega,by omega,?_⟩;rcases ha.2.2.2 with⟨h0,h1⟩|⟨h0,h1,h2⟩
      · refine .inl ⟨h0,?_⟩
        rcases hb.2.2.2 with⟨_,h3⟩|⟨h3,_⟩
        ·rw[hkids,h1,h3];rfl
        ·omega
      · rcases hb.2.2.2 with⟨h3,_⟩|⟨_,h3,h4⟩
        ·omega
        · refine .inr ⟨h0,?_,λm hm=>?_⟩
          ·rw[hkids,zC,hkeys];omega
          · rw[hkids]at hm
            exact(zV.1 hm).elim (h2 m) (h4 m)
  refine⟨hwf,hkeys,?_⟩;rw[hwf.pairs,ha.pairs,hb.pairs];have hkp:kpN (oneF n i)=kpN a++(⟨n.keys[i],n.chains[i]⟩:Pr)::kpN b:=by
    rw[e0];show List.zipWith Pr.mk (a.keys++[_]++b.keys) (a.chains++[_]++b.chains)=_;unfold kpN;rw[zG,zG,List.zipWith_append sa.1.symm];rfl
  unfold psN;rw[hkp,hkids,yW];cases d with
  |zero=>exact ha.elim
  |succ d=>
    rcases ha.2.2.2 with⟨h0,h1⟩|⟨h0,h1,h2⟩
    · have h3:b.kids=[]:=by
        rcases hb.2.2.2 with⟨_,h3⟩|⟨h3,_⟩
        ·exact h3
        ·omega
      rw[h1,h3];simp[zca]
    · rw[zef (by rw[zX,zbt sa.1];exact h1)]
theorem zqo{α:Type}{l:List α}{i:Nat}(h:i+1<l.length):l.drop i=l[i]::l[i+1]::l.drop (i+2):=by
 rw[yQ (by omega),yQ h]
theorem zfr{d i:Nat}{n:Nd}(hc:n.chains.length=n.keys.length) (hk:n.kids.length=n.keys.length+1) (hi:i<n.keys.length) (ha:Wf d 0 3 (kidN n i))(hb:Wf d 0 3 (kidN n (i+1)))(ho:∀j (h:j<n.kids.length),j≠i->j≠i+1->Wf d 1 3 n.kids[j]):
    Wk d (zbb n i) i 1 7/\kidN (zbb n i) i=oneF n i/\(zbb n i).keys.length+1=n.keys.length/\zac (zbb n i)=zac n:=by
  obtain⟨h1,_,h2⟩:=zmr hc hi ha hb;have hci:i<n.chains.length:=by omega
  have hkeys:(zbb n i).keys.length+1=n.keys.length:=by
    show(n.keys.take i++n.keys.drop (i+1)).length+1=_;simp only[zC,zp,zF];omega
  have hchs:(zbb n i).chains.length=(zbb n i).keys.length:=by
    show(n.chains.take i++n.chains.drop (i+1)).length=(n.keys.take i++n.keys.drop (i+1)).length;simp only[zC,zp,zF];omega
  have hkids:(zbb n i).kids.length=(zbb n i).keys.length+1:=by
    show(n.kids.take i++[oneF n i]++n.kids.drop (i+2)).length=(n.keys.take i++n.keys.drop (i+1)).length+1;simp only[zC,zp,zF,zI,zM];omega
  have hlt:i<(zbb n i).kids.length:=by omega
  have htk:(n.kids.take i).length=i:=by rw[zp];omega
  have hget:∀j (h:j<(zbb n i).kids.length),(zbb n i).kids[j]=if h1:j<i then n.kids[j]'(by omega)else if h2:j=i then oneF n i else n.kids[j+1]'(by omega):=λj h=>by
    have e:(zbb n i).kids=n.kids.take i++[oneF n i]++n.kids.drop (i+2):=rfl;have h':j<(n.kids.take i++[oneF n i]++n.kids.drop (i+2)).length:=h;show(n.kids.take i++[oneF n i]++n.kids.drop (i+2))[j]=_;rcases Nat.lt_trichotomy j i with h3|h3|h3
    · rw[dif_pos h3,xQ (by simp only[zC,htk,zI,zM];omega),xQ (by omega),List.getElem_take]
    · rw[dif_neg (by omega),dif_pos h3]
      subst h3;rw[xQ (by simp only[zC,htk,zI,zM];omega),wC (by omega)];simp[htk]
    · rw[dif_neg (by omega),dif_neg (by omega),wC (by simp only[zC,htk,zI,zM];omega),List.getElem_drop]
      congr 1;simp only[zC,htk,zI,zM];omega
  have hkid:kidN (zbb n i) i=oneF n i:=by rw[zbl hlt,hget i hlt];simp
  refine⟨⟨hchs,hkids,hlt,by rw[hkid];exact h1,λj h hji=>?_⟩,hkid,hkeys,?_⟩
  · rw[hget j h]
    split
    ·exact ho j (by omega) (by omega) (by omega)
    ·exact ho (j+1) (by omega) (by omega) (by omega)
  · rw[zar hchs (.inr hkids),zar hc (.inr hk)]
    have e3:kpN (zbb n i)=(kpN n).take i++(kpN n).drop (i+1):=by
      show List.zipWith Pr.mk (n.keys.take i++n.keys.drop (i+1)) (n.chains.take i++n.chains.drop (i+1))=_;unfold kpN;rw[List.zipWith_append (by rw[zp,zp,hc]),List.take_zipWith,List.drop_zipWith]
    have e4:psN (zbb n i)=(psN n).take i++zac (oneF n i)::(psN n).drop (i+2):=by
      show(n.kids.take i++[oneF n i]++n.kids.drop (i+2)).map zac=_;unfold psN;simp only[yW,List.map_take,List.map_drop,zn,zG,ym,yw]
    have hA:((psN n).take i).length=((kpN n).take i).length:=by
      unfold psN;rw[zp,zp,zX,zbt hc];omega
    have hpl:i+1<(psN n).length:=by unfold psN;rw[zX];omega
    have hkl:i<(kpN n).length:=by rw[zbt hc];exact hi
    have e5:psN n=(psN n).take i++zac (kidN n i)::(zac (kidN n (i+1))::(psN n).drop (i+2)):=by
      have h5:=zqo hpl;have h6:(psN n)[i]'(by omega)=zac (kidN n i):=by
        rw[zbl (by omega)];exact wo (l:=n.kids) zac
      have h7:(psN n)[i+1]=zac (kidN n (i+1)):=by
        rw[zbl (by omega)];exact wo (l:=n.kids) zac
      rw[h6,h7]at h5;rw[<-h5,yz]
    have e6:kpN n=(kpN n).take i++(⟨n.keys[i],n.chains[i]⟩:Pr)::(kpN n).drop (i+1):=by
      have h5:=zfd hc hi;rw[zB hkl]at h5;rw[<-yn h5,<-yQ hkl,yz]
    rw[e3,e4];conv=>rhs;rw[e5,e6]
    rw[zew hA,zew hA,h2];simp only[suf,zcw,zG,ym]
theorem zmd{d i:Nat}{n:Nd}(h:Wk d n i 0 4)(h1:1<=n.keys.length):(za5 n i).chains.length=(za5 n i).keys.length/\(za5 n i).kids.length=(za5 n i).keys.length+1/\(∀m∈(za5 n i).kids,Wf d 1 3 m)/\zac (za5 n i)=zac n/\(1<=(kidN n i).keys.length->n.keys.length<=(za5 n i).keys.length)/\((kidN n i).keys.length<=3->(za5 n i).keys.length<=n.keys.length)/\n.keys.length<=(za5 n i).keys.length+1/\(za5 n i).keys.length<=n.keys.length+1:=by
  have hk:=h.at'.keys;rcases zA (kidN n i).keys.length 1 with h0|h0
  · have hkd:=h.kd
    have hlt:=h.lt;have hwf:∀j (hj:j<n.kids.length),Wf d 0 3 (kidN n j):=λj hj=>by
      rw[zbl hj];by_cases hji:j=i
      · subst hji
        have:=h.at';rw[zbl hj]at this;exact this.mono (zH _) (by rw[zbl hj]at h0;omega)
      · have:=h.off j hj hji
        exact this.mono (zH _) this.keys.2
    have hj1:i-1<n.keys.length:=by omega
    have hJ:=zfr h.ch h.kd hj1 (hwf _ (by omega)) (hwf _ (by omega)) (λj hj h2 h3=>h.off j hj (by omega));obtain⟨w1,w2,w3,w4⟩:=hJ;obtain⟨_,w5,_⟩:=zmr h.ch hj1 (hwf (i-1) (by omega)) (hwf (i-1+1) (by omega));have hk7:=w1.at'.keys;have e:za5 n i=if 3<(kidN (zbb n (i-1)) (i-1)).keys.length then zbk (zbb n (i-1)) (i-1)else zbb n (i-1):=by
      unfold za5;simp only[h0,yl]
    rw[e];split
    · rename_i h4
      have w1':Wk d (zbb n (i-1)) (i-1) 3 7:=⟨w1.ch,w1.kd,w1.lt,w1.at'.mono (by omega) (by omega),w1.off⟩;obtain⟨s1,s2,s3,s4⟩:=zg7 w1';exact⟨s1,s3,s4,(zgg w1).trans w4,by omega,by omega,by omega,by omega⟩
    · rename_i h4
      refine⟨w1.ch,w1.kd,λm hm=>?_,w4,by omega,by omega,by omega,by omega⟩;obtain⟨j,hj,rfl⟩:=yy.1 hm;by_cases hji:j=i-1
      · subst hji
        have:=w1.at';rw[zbl hj]at this h4;exact this.mono this.keys.1 (by omega)
      ·exact w1.off j hj hji
  · have e:za5 n i=if 3<(kidN n i).keys.length then zbk n i else n:=by
      unfold za5;have:¬(kidN n i).keys.length<1:=by omega
      simp only[this,zW]
    rw[e];split
    · rename_i h4
      have w1:Wk d n i 1 7:=⟨h.ch,h.kd,h.lt,h.at'.mono (by omega) (by omega),h.off⟩;have w1':Wk d n i 3 7:=⟨h.ch,h.kd,h.lt,h.at'.mono (by omega) (by omega),h.off⟩;obtain⟨s1,s2,s3,s4⟩:=zg7 w1';exact⟨s1,s3,s4,zgg w1,by omega,by omega,by omega,by omega⟩
    · rename_i h4
      refine⟨h.ch,h.kd,λm hm=>?_,rfl,by omega,by omega,by omega,by omega⟩;obtain⟨j,hj,rfl⟩:=yy.1 hm;by_cases hji:j=i
      · subst hji
        have:=h.at';rw[zbl hj]at this h4 h0;exact this.mono (by omega) (by omega)
      ·exact h.off j hj hji
theorem zqm:∀{l:List Pr}{k:List UInt8},(∀j (hj:j<l.length),¬l[j].key=k)->zaw l k=none
 |[],_,_=>rfl
 |p::l,k,hn=>by
  rw[zau,zh (by have:=hn 0 (by simp);simpa using this)];exact zqm λj hj=>by have:=hn (j+1) (by simpa using hj);simpa using this
theorem find_app{P Q:List Pr}{k:List UInt8}(hP:∀p∈P,p.key≠k):zaw (P++Q) k=zaw Q k:=by
 induction P with
 |nil=>rfl
 |cons p P ih=>
  rw[ym,zau,zh (hP p (by simp)),ih λq hq=>hP q (by simp[hq])]
theorem zut{P Q:List Pr}{k:List UInt8}(hQ:∀p∈Q,p.key≠k):zaw (P++Q) k=zaw P k:=by
 induction P with
 |nil=>exact zqm λj hj=>hQ _ (zL hj)
 |cons p P ih=>rw[ym,zau,zau,ih]
theorem zia{P Q R:List Pr}{k:List UInt8}(hP:∀p∈P,ltB p.key k=true)(hR:∀p∈R,ltB k p.key=true):zaw (P++Q++R) k=zaw Q k:=by
 rw[zG,find_app λp hp=>zj9 (hP p hp),zut λp hp=>(zj9 (hR p hp)).symm]
theorem zg6{P Q R:List Pr}(h:Srt (P++Q++R)):Srt P/\Srt Q/\Srt R/\(∀p∈P,∀q∈Q,ltB p.key q.key=true)/\(∀q∈Q,∀r∈R,ltB q.key r.key=true)/\∀p∈P,∀r∈R,ltB p.key r.key=true:=by
 unfold Srt at h⊢;rw[xy,xy]at h;obtain⟨⟨h1,h2,h3⟩,h4,h5⟩:=h;exact⟨h1,h2,h4,h3,λq hq r hr=>h5 q (wJ _ hq) r hr,λp hp r hr=>h5 p (xI _ hp) r hr⟩
theorem srt_mk{P Q R:List Pr}(h1:Srt P)(h2:Srt Q)(h3:Srt R)(h4:∀p∈P,∀q∈Q,ltB p.key q.key=true)(h5:∀q∈Q,∀r∈R,ltB q.key r.key=true)(h6:∀p∈P,∀r∈R,ltB p.key r.key=true):Srt (P++Q++R):=by
 unfold Srt at*;rw[xy,xy];refine⟨⟨h1,h2,h4⟩,h3,λa ha r hr=>?_⟩;rcases zV.1 ha with ha|ha
 ·exact h6 a ha r hr
 ·exact h5 a ha r hr
theorem zoc {P Q R:List Pr}{k:List UInt8}{c:List Ver}(hs:Srt (P++Q++R)) (hP:∀p∈P,ltB p.key k=true) (hR:∀p∈R,ltB k p.key=true):putP (P++Q++R) k c=P++putP Q k c++R:=by
  obtain⟨s1,s2,s3,s4,s5,s6⟩:=zg6 hs;have hm:∀q∈putP Q k c,q=⟨k,c⟩\/q∈Q:=λq hq=>by rw[zek s2]at hq;exact zhg hq
  have hs2:Srt (P++putP Q k c++R):=srt_mk s1 (zob s2) s3
    (λp hp q hq=>by rcases hm q hq with rfl|h;exact hP p hp;exact s4 p hp q h)
    (λq hq r hr=>by rcases hm q hq with rfl|h;exact hR r hr;exact s5 q h r hr) s6
  refine zs1 (zob hs) hs2 λk'=>?_
  rw[zgr hs];by_cases hk:k=k'
  · subst hk
    rw[zi rfl,zia hP hR,zgr s2,zi rfl]
  · rw[zh hk]
    have h1:∀A:List Pr,zaw (P++A++R) k'=(zaw P k').or ((zaw A k').or (zaw R k')):=by
      intro A;have h2:∀(X Y:List Pr),zaw (X++Y) k'=(zaw X k').or (zaw Y k'):=by
        intro X Y;unfold zaw;rw[List.find?_append];cases X.find? λp=>decide (p.key=k')<;>simp
      rw[h2,h2,Option.or_assoc]
    rw[h1,h1,zgr s2,zh hk]
theorem put_nil (k:List UInt8)(c:List Ver):putP [] k c=[⟨k,c⟩]:=rfl
theorem put_one(k:List UInt8)(c c0:List Ver):putP [⟨k,c0⟩] k c=[⟨k,c⟩]:=by simp[putP,zjv,zbx]
theorem zpq:∀{A:List (List Pr)}{K:List Pr},A.length=K.length->∀p k,pre (A++[p]) (K++[k])=pre A K++p++[k]
 |[],[],_,p,k=>by simp[pre]
 |a::A,b::K,h,p,k=>by
  simp only[ym,pre,zpq (A:=A) (K:=K) (by simpa using h),zG]
theorem zpc:∀{ps:List (List Pr)}{kp:List Pr},(ps=[]\/ps.length=kp.length+1)->Srt (zca ps kp)->Srt kp
  |[],kp,_,h=>h
  |[p],[],_,_=>List.Pairwise.nil
  |p::ps,k::kp,h,hs=>by
    have hl:ps.length=kp.length+1:=by
      rcases h with h|h
      ·cases h
      · simpa using h
    have h1:zca (p::ps) (k::kp)=p++[k]++zca ps kp:=by simp[zca]
    rw[h1]at hs;obtain⟨_,_,s3,_,s5,_⟩:=zg6 hs;have ih:=zpc (ps:=ps) (kp:=kp) (.inr hl) s3;refine List.Pairwise.cons (λq hq=>s5 k (by simp) q ?_) ih;have:∀{ps:List (List Pr)}{kp:List Pr},ps.length=kp.length+1->∀q∈kp,q∈zca ps kp:=by
      intro ps;induction ps with
      |nil=>intro kp h;simp at h
      |cons p ps ih2=>
        intro kp h q hq;cases kp with
        |nil=>cases hq
        |cons b kp=>
          rcases zU.1 hq with rfl|hq
          ·simp[zca]
          · have:=ih2 (kp:=kp) (by simpa using h) q hq
            simp[zca,this]
    exact this hl q hq
  |_::_::_,[],h,_=>by rcases h with h|h<;>simp at h
theorem ris_of:∀{ks:List (List UInt8)}{cs:List (List Ver)},cs.length=ks.length->Srt (List.zipWith Pr.mk ks cs)->risK ks
 |[],_,_,_=>trivial
 |k::ks,c::cs,h,hs=>by
  rw[List.zipWith_cons_cons]at hs;obtain⟨h1,h2⟩:=yh.1 hs;have hl:cs.length=ks.length:=by simpa using h
  refine⟨λy hy=>?_,ris_of hl h2⟩;obtain⟨j,hj,rfl⟩:=yy.1 hy;have:=h1 ((List.zipWith Pr.mk ks cs)[j]'(by rw[wn];omega)) (zL _)
  rwa [List.getElem_zipWith]at this
theorem wf_ris{d lo hi:Nat}{n:Nd}(h:Wf d lo hi n)(hs:Srt (zac n)):risK n.keys:=by
 rw[h.pairs]at hs;refine ris_of h.shape.1 (zpc (ps:=psN n) ?_ hs);rcases h.shape.2 with h1|h1
 · left;unfold psN;rw[h1];rfl
 · right;unfold psN;rw[zX];show _=(kpN n).length+1;rw[zbt h.shape.1];exact h1
theorem zix{n:Nd}{k:List UInt8}{i:Nat}(hc:n.chains.length=n.keys.length) (hk:n.kids.length=n.keys.length+1) (hs:Srt (zac n)) (hr:risK n.keys) (hi:i=plcF n.keys k):(∀p∈pre ((psN n).take i) ((kpN n).take i),ltB p.key k=true)/\(isF n.keys k=false->∀p∈suf ((kpN n).drop i) ((psN n).drop (i+1)),ltB k p.key=true):=by
  have hle:i<=n.keys.length:=hi▸zhu _ _;have hps:(psN n).length=n.keys.length+1:=by unfold psN;rw[zX,hk]
  have hlt:i<n.kids.length:=by omega
  rw[zc3 hc hk hlt]at hs;obtain⟨s1,s2,s3,s4,s5,s6⟩:=zg6 hs;constructor
  ·cases i with
    |zero=>intro p hp;simp[pre]at hp
    |succ i=>
      intro p hp;have h1:i<(psN n).length:=by omega
      have h2:i<(kpN n).length:=by rw[zbt hc];omega
      have e:pre ((psN n).take (i+1)) ((kpN n).take (i+1))=pre ((psN n).take i) ((kpN n).take i)++(psN n)[i]++[(kpN n)[i]]:=by
        rw[yT,yT,zB h1,zB h2,xo,xo,zpq];rw[zp,zp,zbt hc];omega
      have hkey:ltB ((kpN n)[i]).key k=true:=by
        have h3:=zfd hc (i:=i) (by omega);rw[zB h2]at h3;rw[yn h3];have:=zht (k:=k) hr i (by omega);rw[this,<-hi];simp
      rw[e]at hp s1;rw[zG]at hp s1;rcases zV.1 hp with h3|h3
      · have t:=(xy.1 s1).2.2
        exact zbe (t p h3 _ (by simp)) hkey
      · rcases zV.1 h3 with h4|h4
        · have t:=(xy.1 (xy.1 s1).2.1).2.2
          exact zbe (t p h4 _ (by simp)) hkey
        · rw[yL.1 h4];exact hkey
  · intro his p hp
    rcases zA i n.keys.length with h|h
    · have h2:i<(kpN n).length:=by rw[zbt hc];exact h
      have e:(kpN n).drop i=(kpN n)[i]::(kpN n).drop (i+1):=yQ h2;rw[e]at hp s3;have hkey:ltB k ((kpN n)[i]).key=true:=by
        have h3:=zfd hc (i:=i) h;rw[zB h2]at h3;rw[yn h3];have h5:=zht (k:=k) hr i h;rw[<-hi,zj (xg i)]at h5;refine zcq (λe2=>?_) h5;unfold isF at his;have e3:n.keys[i]=k:=e2;rw[<-hi,zB h,e3]at his;simp at his
      simp only[suf]at hp s3;rcases zU.1 hp with rfl|hp
      ·exact hkey
      ·exact zbe hkey ((yh.1 s3).1 p hp)
    · rw[xj (by rw[zbt hc];exact h)]at hp
      simp[suf]at hp
structure Pn(d:Nat)(n:Nd):Prop where
 wf:Wf d 0 3 n
 ne:d=1\/1<=n.keys.length
 srt:Srt (zac n)
theorem Pn.ris{d:Nat}{n:Nd}(h:Pn d n):risK n.keys:=wf_ris h.wf h.srt
theorem Pn.kid{d:Nat}{n:Nd}(h:Pn d n){i:Nat}(hi:i<n.kids.length):∃d',d=d'+1/\0<d'/\n.kids.length=n.keys.length+1/\Pn d' n.kids[i]/\Wf d' 1 3 n.kids[i]/\∀m∈n.kids,Wf d' 1 3 m:=by
  cases d with
  |zero=>exact h.wf.elim
  |succ d=>
    obtain⟨hc,_,_,hs⟩:=h.wf;rcases hs with⟨_,h1⟩|⟨h0,h1,h2⟩
    ·rw[h1]at hi;cases hi
    · have hw:=h2 _ (zL hi)
      have hsr:=h.srt;rw[zc3 hc h1 hi]at hsr;exact⟨d,rfl,h0,h1,⟨hw.mono (zH _) hw.keys.2,.inr hw.keys.1,(zg6 hsr).2.1⟩,hw,h2⟩
def PutN(d:Nat)(n:Nd)(k:List UInt8)(c:List Ver)(n':Nd):Prop:=Wf d 1 4 n'/\zac n'=putP (zac n) k c
theorem zqb{ks:List (List UInt8)}{k:List UInt8}(h:isF ks k=true):∃hi:plcF ks k<ks.length,ks[plcF ks k]=k:=by
 unfold isF at h;have h2:ks[plcF ks k]?=some k:=by simpa using h
 exact yI.1 h2
theorem ztq{n:Nd}{i:Nat}(hc:n.chains.length=n.keys.length) (hk:n.kids=[]\/n.kids.length=n.keys.length+1) (hi:i<n.keys.length):∃P R,zac n=P++[(⟨n.keys[i],n.chains[i]'(by omega)⟩:Pr)]++R/\∀k c,zac (.mk (n.keys.set i k) (n.chains.set i c) n.kids)=P++[(⟨k,c⟩:Pr)]++R:=by
  have hkl:i<(kpN n).length:=by rw[zbt hc];exact hi
  have e:kpN n=(kpN n).take i++(⟨n.keys[i],n.chains[i]'(by omega)⟩:Pr)::(kpN n).drop (i+1):=by
    have h5:=zfd hc hi;rw[zB hkl]at h5;rw[<-yn h5,<-yQ hkl,yz]
  have e2:∀k c,kpN (.mk (n.keys.set i k) (n.chains.set i c) n.kids)=(kpN n).take i++(⟨k,c⟩:Pr)::(kpN n).drop (i+1):=λk c=>by
    show List.zipWith Pr.mk (n.keys.set i k) (n.chains.set i c)=_;have h1:(List.zipWith Pr.mk (n.keys.set i k) (n.chains.set i c))=(kpN n).set i ⟨k,c⟩:=by
      apply List.ext_getElem?;intro j;unfold kpN;rw[List.getElem?_zipWith,List.getElem?_set,List.getElem?_set,List.getElem?_set,List.getElem?_zipWith,wn];by_cases hij:i=j
      · subst hij
        rw[zi rfl,zi rfl,zi rfl,zi hi,zi (by omega),zi (by omega)]
      · rw[zh hij,zh hij,zh hij]
    rw[h1,vg,zi hkl]
  have hc2:∀k c,(Nd.mk (n.keys.set i k) (n.chains.set i c) n.kids).chains.length=(Nd.mk (n.keys.set i k) (n.chains.set i c) n.kids).keys.length:=λk c=>by
    show(n.chains.set i c).length=(n.keys.set i k).length;rw[yR,yR,hc]
  have hk2:∀k c,(Nd.mk (n.keys.set i k) (n.chains.set i c) n.kids).kids=[]\/(Nd.mk (n.keys.set i k) (n.chains.set i c) n.kids).kids.length=(Nd.mk (n.keys.set i k) (n.chains.set i c) n.kids).keys.length+1:=λk c=>by
    show n.kids=[]\/n.kids.length=(n.keys.set i k).length+1;rw[yR];exact hk
  have e3:∀k c,psN (.mk (n.keys.set i k) (n.chains.set i c) n.kids)=psN n:=λ_ _=>rfl
  rcases hk with h0|h0
  · have hps:psN n=[]:=by unfold psN;rw[h0];rfl
    refine⟨(kpN n).take i,(kpN n).drop (i+1),?_,λk c=>?_⟩
    · rw[zar hc (.inl h0),hps]
      simp only[zca];rw[zG];exact e
    · rw[zar (hc2 k c) (hk2 k c),e3,hps,e2]
      simp[zca]
  · have hA:((psN n).take (i+1)).length=((kpN n).take i).length+1:=by
      unfold psN;rw[zp,zp,zX,zbt hc];omega
    refine⟨zca ((psN n).take (i+1)) ((kpN n).take i),zca ((psN n).drop (i+1)) ((kpN n).drop (i+1)),?_,λk c=>?_⟩
    · rw[zar hc (.inr h0)]
      conv=>lhs;rw[e,<-yz (i+1) (psN n)]
      rw[zef hA];simp
    · rw[zar (hc2 k c) (hk2 k c),e3,e2]
      conv=>lhs;rw[<-yz (i+1) (psN n)]
      rw[zef hA];simp
theorem put_is{d:Nat}{n:Nd}{k:List UInt8}{c:List Ver}(h:Pn d n)(hi:isF n.keys k=true):PutN d n k c (.mk n.keys (n.chains.set (plcF n.keys k) c) n.kids):=by
  obtain⟨hl,hk⟩:=zqb hi;obtain⟨hc,hsh⟩:=h.wf.shape;obtain⟨P,R,e1,e2⟩:=ztq hc hsh hl;have hkeys:n.keys.set (plcF n.keys k) k=n.keys:=by
    have:n.keys.set (plcF n.keys k) n.keys[plcF n.keys k]=n.keys:=List.set_getElem_self hl;rwa [hk]at this
  have e3:=e2 k c;rw[hkeys]at e3;constructor
  · have hw:=h.wf
    cases d with
    |zero=>exact hw.elim
    |succ d=>
      obtain⟨_,_,h3,h4⟩:=hw;exact⟨by show(n.chains.set _ c).length=n.keys.length;rw[yR];exact hc,by show 1<=n.keys.length;omega,by show n.keys.length<=4;omega,h4⟩
  · have hsr:=h.srt
    rw[e1]at hsr;have hs:=zg6 hsr;rw[e3,e1,zoc hsr (λp hp=>by have:=hs.2.2.2.1 p hp _ (yL.2 rfl);rwa [hk]at this) (λp hp=>by have:=hs.2.2.2.2.1 _ (yL.2 rfl) p hp;rwa [hk]at this),hk,put_one]
theorem zlc{n:Nd}{k:List UInt8}(hc:n.chains.length=n.keys.length) (hr:risK n.keys):(∀p∈(kpN n).take (plcF n.keys k),ltB p.key k=true)/\(isF n.keys k=false->∀p∈(kpN n).drop (plcF n.keys k),ltB k p.key=true):=by
  constructor
  · intro p hp
    obtain⟨j,hj,hji,rfl⟩:=zi4 hp;have hjk:j<n.keys.length:=by rw[zbt hc]at hj;exact hj
    have h3:=zfd hc hjk;rw[zB hj]at h3;rw[yn h3];have:=zht (k:=k) hr j hjk;rw[zk hji]at this;exact this
  · intro his p hp
    obtain⟨j,hj,hji,rfl⟩:=zi5 hp;have hjk:j<n.keys.length:=by rw[zbt hc]at hj;exact hj
    have h3:=zfd hc hjk;rw[zB hj]at h3;rw[yn h3];have h5:=zht (k:=k) hr j hjk;rw[zj (by omega)]at h5;refine zcq (λe2=>?_) h5;have e3:n.keys[j]=k:=e2;rcases zA (plcF n.keys k) j with h6|h6
    · have h7:=zht (k:=k) hr (plcF n.keys k) (by omega)
      rw[zj (xg _)]at h7;have:∀{ks:List (List UInt8)},risK ks->∀{a b:Nat}(hab:a<b) (hb:b<ks.length),ltB (ks[a]'(by omega)) ks[b]=true:=by
        intro ks;induction ks with
        |nil=>intro _ a b _ hb;cases hb
        |cons x r ih=>
          rintro⟨h1,h2⟩ a b hab hb;cases b with
          |zero=>omega
          |succ b=>
            cases a with
            |zero=>exact h1 _ (zL _)
            |succ a=>exact ih h2 (by omega) (by simpa using hb)
      have h8:=this hr h6 hjk;rw[e3,h7]at h8;cases h8
    · obtain rfl:plcF n.keys k=j:=by omega
      unfold isF at his;rw[zB hjk,e3]at his;simp at his
theorem put_leaf{d:Nat}{n:Nd}{k:List UInt8}{c:List Ver}(h:Pn d n) (hi:isF n.keys k=false) (h0:n.kids=[]):PutN d n k c (.mk (n.keys.take (plcF n.keys k)++[k]++n.keys.drop (plcF n.keys k)) (n.chains.take (plcF n.keys k)++[c]++n.chains.drop (plcF n.keys k)) n.kids):=by
  obtain⟨hc,hsh⟩:=h.wf.shape;obtain⟨m1,m2⟩:=zlc (k:=k) hc h.ris;have hps:psN n=[]:=by unfold psN;rw[h0];rfl
  have hp:zac n=(kpN n).take (plcF n.keys k)++[]++(kpN n).drop (plcF n.keys k):=by
    rw[zar hc (.inl h0),hps];simp[zca]
  have hsr:=h.srt;rw[hp]at hsr;have hlen:(n.keys.take (plcF n.keys k)++[k]++n.keys.drop (plcF n.keys k)).length=n.keys.length+1:=by
    have:=zhu n.keys k;simp only[zC,zp,zF,zI,zM];omega
  have hlen2:(n.chains.take (plcF n.keys k)++[c]++n.chains.drop (plcF n.keys k)).length=n.keys.length+1:=by
    have:=zhu n.keys k;simp only[zC,zp,zF,zI,zM];omega
  constructor
  · have hw:=h.wf
    cases d with
    |zero=>exact hw.elim
    |succ d=>
      obtain⟨_,_,h3,h4⟩:=hw;refine⟨hlen2.trans hlen.symm,by show 1<=(n.keys.take (plcF n.keys k)++[k]++n.keys.drop (plcF n.keys k)).length;rw[hlen];omega,by show(n.keys.take (plcF n.keys k)++[k]++n.keys.drop (plcF n.keys k)).length<=4;rw[hlen];omega,?_⟩;rcases h4 with h4|⟨h5,h6,_⟩
      ·exact .inl h4
      ·rw[h0]at h6;simp at h6
  · rw[hp,zoc hsr m1 (m2 hi),put_nil,zar (n:=.mk (n.keys.take (plcF n.keys k)++[k]++n.keys.drop (plcF n.keys k)) (n.chains.take (plcF n.keys k)++[c]++n.chains.drop (plcF n.keys k)) n.kids) (hlen2.trans hlen.symm) (.inl h0)]
    have e:psN (.mk (n.keys.take (plcF n.keys k)++[k]++n.keys.drop (plcF n.keys k)) (n.chains.take (plcF n.keys k)++[c]++n.chains.drop (plcF n.keys k)) n.kids)=[]:=hps;rw[e];simp only[zca];exact(zp8 hc (plcF n.keys k) k c).trans (by rw[zG];rfl)
theorem set_wk{d:Nat}{n:Nd}{i:Nat}{m:Nd}{lo up:Nat}(hc:n.chains.length=n.keys.length)(hk:n.kids.length=n.keys.length+1)(hw:∀m∈n.kids,Wf d 1 3 m)(hi:i<n.kids.length)(hm:Wf d lo up m):Wk d (zck n i m) i lo up:=by
 have hl:i<(zck n i m).kids.length:=by show i<(n.kids.set i m).length;rw[yR];exact hi
 have e:(zck n i m).kids[i]=m:=List.getElem_set_self _;refine⟨hc,by show(n.kids.set i m).length=_;rw[yR];exact hk,hl,by rw[zbl hl,e];exact hm,λj hj hji=>?_⟩;have e2:(zck n i m).kids[j]=n.kids[j]'(by have:j<(n.kids.set i m).length:=hj;rwa [yR]at this):=List.getElem_set_ne (λe=>hji e.symm) _
 rw[e2];exact hw _ (zL _)
theorem zrj{d:Nat}{n:Nd}{i:Nat}{m:Nd}(hc:n.chains.length=n.keys.length)(hk:n.kids.length=n.keys.length+1)(h1:1<=n.keys.length)(h3:n.keys.length<=3)(hd:0<d)(hw:∀m∈n.kids,Wf d 1 3 m)(hi:i<n.kids.length)(hm:Wf d 0 4 m):Wf (d+1) 0 4 (za5 (zck n i m) i)/\zac (za5 (zck n i m) i)=zac (zck n i m)/\(1<=m.keys.length->1<=(za5 (zck n i m) i).keys.length)/\(m.keys.length<=3->(za5 (zck n i m) i).keys.length<=3):=by
 have hW:=set_wk hc hk hw hi hm;have hkm:kidN (zck n i m) i=m:=by
  rw[zbl hW.lt];exact List.getElem_set_self _
 obtain⟨s1,s2,s3,s4,s5,s6,s7,s8⟩:=zmd hW h1;have hkeys:(zck n i m).keys.length=n.keys.length:=rfl;rw[hkm]at s5 s6;exact⟨⟨s1,zH _,by omega,.inr ⟨hd,s2,s3⟩⟩,s4,λh=>by have:=s5 h;omega,λh=>by have:=s6 h;omega⟩
theorem put_in{d:Nat}{n m:Nd}{k:List UInt8}{c:List Ver}(h:Pn (d+1) n)(hi:isF n.keys k=false)(hlt:plcF n.keys k<n.kids.length)(hm:PutN d n.kids[plcF n.keys k] k c m):PutN (d+1) n k c (za5 (zck n (plcF n.keys k) m) (plcF n.keys k)):=by
 obtain⟨d',e,hd,hk,hp,hw,hws⟩:=h.kid hlt;obtain rfl:d=d':=by omega
 have hc:=h.wf.shape.1;have h1:1<=n.keys.length:=by
  rcases h.ne with h1|h1
  ·omega
  ·exact h1
 obtain⟨s1,s2,s3,_⟩:=zrj hc hk h1 h.wf.keys.2 hd hws hlt (hm.1.mono (zH _) hm.1.keys.2);obtain⟨m1,m2⟩:=zix (k:=k) hc hk h.srt h.ris rfl;refine⟨s1.mono (s3 hm.1.keys.1) s1.keys.2,?_⟩;have hsr:=h.srt;rw[zc3 hc hk hlt]at hsr;rw[s2,ztp hc hk hlt,hm.2,zc3 hc hk hlt,zoc hsr m1 (m2 hi)]
theorem find_is{d:Nat}{n:Nd}{k:List UInt8}(h:Pn d n)(hi:isF n.keys k=true):zaw (zac n) k=n.chains[plcF n.keys k]?:=by
 obtain⟨hl,hk⟩:=zqb hi;obtain⟨hc,hsh⟩:=h.wf.shape;obtain⟨P,R,e1,_⟩:=ztq hc hsh hl;have hsr:=h.srt;rw[e1]at hsr;have hs:=zg6 hsr;rw[e1,zia (λp hp=>by have:=hs.2.2.2.1 p hp _ (yL.2 rfl);rwa [hk]at this) (λp hp=>by have:=hs.2.2.2.2.1 _ (yL.2 rfl) p hp;rwa [hk]at this),zau,zi hk,zB (by omega)]
theorem zus{d:Nat}{n:Nd}{k:List UInt8}(h:Pn d n)(hi:isF n.keys k=false)(h0:n.kids=[]):zaw (zac n) k=none:=by
 obtain⟨hc,hsh⟩:=h.wf.shape;obtain⟨m1,m2⟩:=zlc (k:=k) hc h.ris;have hps:psN n=[]:=by unfold psN;rw[h0];rfl
 have hp:zac n=(kpN n).take (plcF n.keys k)++[]++(kpN n).drop (plcF n.keys k):=by
  rw[zar hc (.inl h0),hps];simp[zca]
 rw[hp,zia m1 (m2 hi)];rfl
theorem find_in{d:Nat}{n:Nd}{k:List UInt8}(h:Pn d n)(hi:isF n.keys k=false)(hlt:plcF n.keys k<n.kids.length):zaw (zac n) k=zaw (zac n.kids[plcF n.keys k]) k:=by
 obtain⟨d',e,hd,hk,hp,hw,hws⟩:=h.kid hlt;have hc:=h.wf.shape.1;obtain⟨m1,m2⟩:=zix (k:=k) hc hk h.srt h.ris rfl;rw[zc3 hc hk hlt,zia m1 (m2 hi)]
theorem zi1 {P:Program}{T Te Tb:TypeId}{sz:Nat}(hP:LsP P T Te sz){f:FuncId}{fn:Func}(hf:P.funcs[f]?=some fn)(hname:(fn.name=="runtime.NumGoroutine")=false)(hb:fn.body.isNone=true)(hn:Extern.findNext fn=none)(he:Extern.find fn=some (Extern.SlicesOverlaps.overlaps #[T,T] #[Tb])){w:World}{b g off m k mc kc:Nat}{us:List Value}{cur:Array Value}(hbc:w.heap[b]?=some (.cells us.toArray Te (0,0)))(hg:w.heap[g]?=some (.cells cur Te (0,0)))(hne:b≠g)(hus:us.length≠0):
  (callFunc f #[.slice (some ⟨g,off,none⟩) k kc,.slice (some ⟨b,0,none⟩) m mc]).run P w=.ok (.value (.bool false)) w:=by
 obtain⟨i,hi,hsz⟩:=hP.info;rw[ve hf hname hb hn he,Lib.run_overlaps_apart w T Tb Te hP.hT sz (λw=>by simp[sizeOf,typeInfo,hi,hsz]) ⟨g,off,none⟩ ⟨b,0,none⟩ k kc m mc (λe=>hne e.symm) Te Te cur.size us.length (by simp[World.shape?,hg]) (by simp[World.shape?,hbc]) hus (by simp[World.frozen?,hg]) (by simp[World.frozen?,hg])];rfl
theorem zta{cur us ws Y:List Value}{p r:Nat}(h1:p<=cur.length)(h2:us.length=r):((cur.take p++us++cur.drop (p+us.length)).take (p+r)++ws++Y).take (p+r+ws.length)=cur.take p++us++ws:=by
 have e1:(cur.take p++us++cur.drop (p+us.length)).take (p+r)=cur.take p++us:=by
  rw[xp (by simp only[zC,zp,h2];omega),yq (by simp only[zC,zp,h2];omega)]
 rw[e1,xp (by simp only[zC,zp,h2];omega),yq (by simp only[zC,zp,h2];omega)]
theorem ztb{cur us ws Y:List Value}{p r:Nat}(h1:p+r<=cur.length)(h2:us.length=r):((cur.take (p+r)++ws++Y).take p++us++(cur.take (p+r)++ws++Y).drop (p+us.length)).take (p+r+ws.length)=cur.take p++us++ws:=by
 have e1:(cur.take (p+r)++ws++Y).take p=cur.take p:=by
  rw[zG,xp (by rw[zp];omega),xJ];congr 1;omega
 have e2:(cur.take (p+r)++ws++Y).drop (p+us.length)=ws++Y:=by
  rw[h2,zG,wZ (by rw[zp];omega),xj (by rw[zp];omega),yw]
 rw[e1,e2,<-zG];rw[xp (by simp only[zC,zp,h2];omega),yq (by simp only[zC,zp,h2];omega)]
theorem RowQ.first{Te:TypeId}{sz:Nat}{w:World}{n i g cap:Nat}{vs:List Value}(h:RowQ Te sz w (.slice (some ⟨g,0,none⟩) n cap) n vs)(hi:i<=n):RowQ Te sz w (.slice (some ⟨g,0,none⟩) i cap) i (vs.take (i*sz)):=by
  rcases h.cases with⟨h,_⟩|⟨g',cap',cur,h',h1,h2,h3,h4,h5⟩
  ·cases h
  · cases h'
    refine RowQ.of h1 (by omega) h3 h4 ?_ (λu hu=>h.2 u (y7 hu));rw[<-h5,xJ,yi (yN _ hi)]
section
variable {P : Program} {T Te : TypeId} {n : Nat} {ops : Array Oper} {rest : List Oper} {o : Oper} {a : Act} {Q : Exit → Act → World → Prop} {w : World} {K : Act → World → Prop}
theorem zkj (hP:LsP P T Te n){s x:Operand}(ho:o.op=.call {callee:=.builtin .append,args:=#[s,x],argTypes:=#[T,T]})(hgd:Region.wanted o (yielded ops a.tmps)=true){g k cap:Nat}{cur:Array Value}{t:TypeId}{sa:Addr}{m c:Nat}{cs:List Value}(hs:a.eval s=.slice (some ⟨g,0,none⟩) k cap)(hx:a.eval x=.slice (some sa) m c)(hg:w.heap[g]?=some (.cells cur t (0,0)))(hl:cs.length=m*n)(hc:∀j u,cs[j]?=some u->w.cell? (sa.add j)=some u)
  (h1:∀u∈cs,u.oneCell'=true)(hroom:k+m<=cap)(hfit:k*n+cs.length<=cur.size)
  (h:∀w',w'.heap[g]?=some (.cells (cur.toList.take (k*n)++cs++cur.toList.drop (k*n+cs.length)).toArray t (0,0))->w.grownBy w' (some g)->wpList P ops Q rest (a.put o.dst (.slice (some ⟨g,0,none⟩) (k+m) cap)) w'):wpList P ops Q (o::rest) a w:=
 zQ hgd λ_ hK=>zlz hP ho hs hx hg hl hc h1 hroom hfit λw' h2 h3=>hK _ _ (h w' h2 h3)
end
theorem zml (w:World){n i j b m g cap:Nat}{vs us:List Value}(hv:RowQ 46 3 w (.slice (some ⟨g,0,none⟩) n cap) n vs)(hij:i<j)(_hjn:j<=n)(hn:n+m<=1000000)(_hm:0<m)(hb:w.heap[b]?=some (.cells us.toArray 46 (0,0)))(hu:us.length=m*3)(hu1:∀u∈us,u.oneCell'=true)(_hbg:b≠g)(hend:j=n)(hlen:n<=i+m):Calls Tryz.prog 164 #[.slice (some ⟨g,0,none⟩) n cap,.int .i64 i,.int .i64 j,.slice (some ⟨b,0,none⟩) m m] w (zdo 46 3 w (.slice (some ⟨g,0,none⟩) n cap) (i+m+(n-j)) (vs.take (i*3)++us++vs.drop (j*3))):=by
  have hz0:((i:Int)==(j:Int))=false:=zt.2 (by omega);have hcs:=zbp hb;have hblt:=(zJ.1 hb).1;have hglt:=hv.lt (k:=g) rfl;obtain⟨cur,hg,hnc,hcm,hcs1,hct⟩:∃cur,w.heap[g]?=some (.cells cur 46 (0,0))/\n<=cap/\cap<=maxLen/\cur.size=cap*3/\cur.toList.take (n*3)=vs:=by
    rcases hv.cases with⟨h,_⟩|⟨g',cap',cur,h,h1,h2,h3,h4,h5⟩
    ·cases h
    · cases h
      exact⟨cur,h1,h2,h3,h4,h5⟩
  have hz1:((j:Int)==(n:Int))=true:=zK.2 (by omega);have d:decide ((i:Int)+(m:Int)<(n:Int))=false:=zj (by omega);have hl:vs.drop (j*3)=[]:=xj (by rw[hv.len,hend];exact zf _);have hl2:i+m+(n-j)=i+m:=by omega
  rw[hl,hl2,yr];clear hl hl2;go_enter Tryz.func164,Tryz.ntmps164;go_wp2_with(go_big_may;first
    |(refine zbd ndP.toLsP rfl rfl rfl (l:=i) (r:=j) (zbo _ (by omega) (by omega)) ?_;intro _)
    |(refine zbi ndP.toLsP rfl rfl rfl (r:=i) (zax _ (by omega)) ?_)
    |(refine zea ndP (by omega) rfl rfl (v:=.slice (some ⟨g,0,none⟩) i cap) rfl (hv.first (by omega)) rfl hu hcs hu1 (by omega) ?_;intro ad cap' w' hR)
    |fail)
  go_ret;exact⟨_,rfl,hR.1,hR.2⟩
theorem zkx(w:World){n i j b m g cap:Nat}{vs us:List Value}(hv:RowQ 46 3 w (.slice (some ⟨g,0,none⟩) n cap) n vs) (hij:i<j) (_hjn:j<=n) (_hn:n+m<=1000000)(_hm:0<m)(hb:w.heap[b]?=some (.cells us.toArray 46 (0,0)))(hu:us.length=m*3)(hu1:∀u∈us,u.oneCell'=true)(_hbg:b≠g)(hend:j=n)(hlen:i+m<n):Calls Tryz.prog 164 #[.slice (some ⟨g,0,none⟩) n cap,.int .i64 i,.int .i64 j,.slice (some ⟨b,0,none⟩) m m] w (zdo 46 3 w (.slice (some ⟨g,0,none⟩) n cap) (i+m+(n-j)) (vs.take (i*3)++us++vs.drop (j*3))):=by
  have hz0:((i:Int)==(j:Int))=false:=zt.2 (by omega);have hcs:=zbp hb;have hblt:=(zJ.1 hb).1;have hglt:=hv.lt (k:=g) rfl;obtain⟨cur,hg,hnc,hcm,hcs1,hct⟩:∃cur,w.heap[g]?=some (.cells cur 46 (0,0))/\n<=cap/\cap<=maxLen/\cur.size=cap*3/\cur.toList.take (n*3)=vs:=by
    rcases hv.cases with⟨h,_⟩|⟨g',cap',cur,h,h1,h2,h3,h4,h5⟩
    ·cases h
    · cases h
      exact⟨cur,h1,h2,h3,h4,h5⟩
  have hz1:((j:Int)==(n:Int))=true:=zK.2 (by omega);have d:decide ((i:Int)+(m:Int)<(n:Int))=true:=zk (by omega);have hl:vs.drop (j*3)=[]:=xj (by rw[hv.len,hend];exact zf _);have hl2:i+m+(n-j)=i+m:=by omega
  rw[hl,hl2,yr];clear hl hl2;go_enter Tryz.func164,Tryz.ntmps164;go_upto_region 6 with(go_big_may;first
    |(refine zbd ndP.toLsP rfl rfl rfl (l:=i) (r:=j) (zbo _ (by omega) (by omega)) ?_;intro _)
    |(refine zbi ndP.toLsP rfl rfl rfl (r:=i) (zax _ (by omega)) ?_)
    |(refine zkj ndP.toLsP rfl rfl rfl rfl hg hu hcs hu1 (by omega) (by rw[hu,hcs1];omega) ?_;intro w2 hg2 hgr2)
    |fail)
  obtain⟨C1,hC1⟩:∃C1:Array Value,C1=(cur.toList.take (i*3)++us++cur.toList.drop (i*3+us.length)).toArray:=⟨_,rfl⟩;replace hg2:w2.heap[g]?=some (.cells C1 46 (0,0)):=by rw[hC1];exact hg2
  have hC1s:C1.size=cap*3:=by
    rw[hC1];simp only[yj,zC,zp,zF,yo,hcs1,hu];omega
  go_wp2_with(go_big_may;first
    |(refine zam ndP.toLsP rfl rfl rfl (l:=i+m) (r:=n) (zas _ (by omega) (by omega)) (by omega) ?_)
    |(refine zdq ndP nd1 rfl rfl rfl rfl hg2 (.inr rfl) (.inr (by rw[hC1s];omega)) ?_;intro W4 C4 hg4 hs4 ht4 _ hgr4)
    |fail)
  go_ret;have q4:Trd (·=g) w W4:=(Trd.ofGrown (F:=(·=g)) hgr2 λk hk=>by injection hk with hk;exact hk.symm).trans (Trd.ofGrown (F:=(·=g)) hgr4 λk hk=>by injection hk with hk;exact hk.symm) (λ_ _ h=>h);refine⟨_,rfl,RowQ.of hg4 (by omega) hcm (by rw[hs4,hC1s]) ?_ ?_,⟨q4.os,q4.tape,q4.output,q4.size,λk hk hn=>q4.block k hk λh=>hn (by rw[h];rfl)⟩,.inl rfl⟩
  · have h5:=ht4 (by omega)
    rw[zR]at h5;rw[h5,hC1,<-hct,xJ,yi (by omega),zT];show List.take _ (List.take _ _++us++_)=_;rw[xp (by simp only[zC,zp,yo,hcs1,hu];omega),yq (by simp only[zC,zp,hu];omega)]
  · intro u hu
    rcases zV.1 hu with h|h
    ·exact hv.2 u (y7 h)
    ·exact hu1 u h
theorem zkw (w:World){n i j b m g cap:Nat}{vs us:List Value}(hv:RowQ 46 3 w (.slice (some ⟨g,0,none⟩) n cap) n vs) (hij:i<j) (hjn:j<=n) (hn:n+m<=1000000) (hm:0<m) (hb:w.heap[b]?=some (.cells us.toArray 46 (0,0)))(hu:us.length=m*3)(hu1:∀u∈us,u.oneCell'=true)(_hbg:b≠g)(hend:j<n)(hroom:cap<i+m+(n-j)):Calls Tryz.prog 164 #[.slice (some ⟨g,0,none⟩) n cap,.int .i64 i,.int .i64 j,.slice (some ⟨b,0,none⟩) m m] w (zdo 46 3 w (.slice (some ⟨g,0,none⟩) n cap) (i+m+(n-j)) (vs.take (i*3)++us++vs.drop (j*3))):=by
  have hz0:((i:Int)==(j:Int))=false:=zt.2 (by omega);have hcs:=zbp hb;have hblt:=(zJ.1 hb).1;have hglt:=hv.lt (k:=g) rfl;obtain⟨cur,hg,hnc,hcm,hcs1,hct⟩:∃cur,w.heap[g]?=some (.cells cur 46 (0,0))/\n<=cap/\cap<=maxLen/\cur.size=cap*3/\cur.toList.take (n*3)=vs:=by
    rcases hv.cases with⟨h,_⟩|⟨g',cap',cur,h,h1,h2,h3,h4,h5⟩
    ·cases h
    · cases h
      exact⟨cur,h1,h2,h3,h4,h5⟩
  have hz1:((j:Int)==(n:Int))=false:=zt.2 (by omega);obtain⟨t,ht⟩:∃t:Nat,t=i+m+(n-j):=⟨_,rfl⟩;have hti:((i:Int)+(m:Int))+((n-j:Nat):Int)=(t:Int):=by omega
  rw[<-ht]at hroom⊢;have d:decide ((cap:Int)<(t:Int))=true:=zk (by omega);have hl0:(vs.take (i*3)).length=i*3:=by rw[zp,hv.len];exact yi (yN _ (by omega))
  have htb1:i+m<=t:=by omega
  have htb2:t<=1000000:=by omega
  have htb3:i+m+n<=t+j:=by omega
  have htb4:t+j<=i+m+n:=by omega
  clear ht;go_enter Tryz.func164,Tryz.ntmps164;go_upto_region 9 with(go_big_may;first
    |(refine zbd ndP.toLsP rfl rfl rfl (l:=i) (r:=j) (zbo _ (by omega) (by omega)) ?_;intro _)
    |fail)
  refine zai (K:=λ_ _=>True) (by kernel_rfl) (by kernel_rfl) [] (by kernel_rfl) [lEq (.slice (some ⟨g,0,none⟩) n cap),lEq (.int .i64 (i:Int)),lEq (.slice (some ⟨g,0,none⟩) i cap),lEq (.int .i64 (i:Nat)),lEq (.slice (some ⟨b,0,none⟩) m m),lEq (.int .i64 (m:Nat)),lEq (.int .i64 ((i:Int)+(m:Int))),lEq (.slice (some ⟨g,0,none⟩) n cap),lEq (.int .i64 (j:Int)),lEq (.slice (some ⟨g,0+j*3,none⟩) (n-j) (cap-j)),lEq (.int .i64 ((n-j):Nat)),lEq (.int .i64 (t:Int)),lEq (.int .i64 (t:Int))] (λ_ W=>Below w.heap.size w W) (λl A B h hb=>h.trans (hb.mono h.size)) (ze _ _)
    ⟨?o0,?o1,?o2,?o3,?o4,?o5,?o6,?o7,?o8,?o9,?o10,?o11,?o12,trivial⟩ ?fin
  case o0=>
    refine LnOp.sd (λA vs w' k hF hT hk hJ hb hu hp hd=>?_);have e1:A.eval (.tmp 0)=.slice (some ⟨g,0,none⟩) n cap:=hF 0 rfl;exact zu _ rfl ⟨_,rfl,e1,ze _ _⟩
  case o1=>
    refine LnOp.sd (λA vs w' k hF hT hk hJ hb hu hp hd=>?_);have e1:A.eval (.tmp 1)=.int .i64 (i:Int):=hF 1 rfl;exact zu _ rfl ⟨_,rfl,e1,ze _ _⟩
  case o2=>
    refine LnOp.sd (λA vs w' k hF hT hk hJ hb hu hp hd=>?_);have e1:=(hT 45 0 (by simp) rfl).trans (hd ⟨0,.data⟩ (by simp) rfl rfl);have e2:=(hT 46 1 (by simp) rfl).trans (hd ⟨1,.data⟩ (by simp) rfl rfl);exact zep ndP.toLsP rfl (e1) (congrArg some e2) (zax _ (by omega)) ⟨_,rfl,rfl,ze _ _⟩
  case o3=>
    refine LnOp.sd (λA vs w' k hF hT hk hJ hb hu hp hd=>?_);have e1:=(hT 47 2 (by simp) rfl).trans (hd ⟨2,.data⟩ (by simp) rfl rfl);exact zdp (e:=46) rfl (by kernel_rfl) (e1) ⟨_,rfl,rfl,ze _ _⟩
  case o4=>
    refine LnOp.sd (λA vs w' k hF hT hk hJ hb hu hp hd=>?_);have e1:A.eval (.tmp 3)=.slice (some ⟨b,0,none⟩) m m:=hF 3 rfl;exact zu _ rfl ⟨_,rfl,e1,ze _ _⟩
  case o5=>
    refine LnOp.sd (λA vs w' k hF hT hk hJ hb hu hp hd=>?_);have e1:=(hT 49 4 (by simp) rfl).trans (hd ⟨4,.data⟩ (by simp) rfl rfl);exact zdp (e:=46) rfl (by kernel_rfl) (e1) ⟨_,rfl,rfl,ze _ _⟩
  case o6=>
    refine LnOp.sd (λA vs w' k hF hT hk hJ hb hu hp hd=>?_);have e1:=(hT 48 3 (by simp) rfl).trans (hd ⟨3,.data⟩ (by simp) rfl rfl);have e2:=(hT 50 5 (by simp) rfl).trans (hd ⟨5,.data⟩ (by simp) rfl rfl);exact zbq rfl (e1) (e2) (by omega) (by omega) ⟨_,rfl,rfl,ze _ _⟩
  case o7=>
    refine LnOp.sd (λA vs w' k hF hT hk hJ hb hu hp hd=>?_);have e1:A.eval (.tmp 0)=.slice (some ⟨g,0,none⟩) n cap:=hF 0 rfl;exact zu _ rfl ⟨_,rfl,e1,ze _ _⟩
  case o8=>
    refine LnOp.sd (λA vs w' k hF hT hk hJ hb hu hp hd=>?_);have e1:A.eval (.tmp 2)=.int .i64 (j:Int):=hF 2 rfl;exact zu _ rfl ⟨_,rfl,e1,ze _ _⟩
  case o9=>
    refine LnOp.sd (λA vs w' k hF hT hk hJ hb hu hp hd=>?_);have e1:=(hT 52 7 (by simp) rfl).trans (hd ⟨7,.data⟩ (by simp) rfl rfl);have e2:=(hT 53 8 (by simp) rfl).trans (hd ⟨8,.data⟩ (by simp) rfl rfl);exact zav ndP.toLsP rfl (e1) (congrArg some e2) rfl (za1 _ (by omega)) (by omega) ⟨_,rfl,rfl,ze _ _⟩
  case o10=>
    refine LnOp.sd (λA vs w' k hF hT hk hJ hb hu hp hd=>?_);have e1:=(hT 54 9 (by simp) rfl).trans (hd ⟨9,.data⟩ (by simp) rfl rfl);exact zdp (e:=46) rfl (by kernel_rfl) (e1) ⟨_,rfl,rfl,ze _ _⟩
  case o11=>
    refine LnOp.sd (λA vs w' k hF hT hk hJ hb hu hp hd=>?_);have e1:=(hT 51 6 (by simp) rfl).trans (hd ⟨6,.data⟩ (by simp) rfl rfl);have e2:=(hT 55 10 (by simp) rfl).trans (hd ⟨10,.data⟩ (by simp) rfl rfl);exact zbq rfl (e1) (e2) (by omega) (by omega) ⟨_,rfl,congrArg (Value.int .i64) hti,ze _ _⟩
  case o12=>
    refine LnOp.sd (λA vs w' k hF hT hk hJ hb hu hp hd=>?_);have e1:=(hT 56 11 (by simp) rfl).trans (hd ⟨11,.data⟩ (by simp) rfl rfl);exact yV _ rfl ⟨_,rfl,e1,ze _ _⟩
  case fin=>
  intro vs1 w9 q9 hG;have e0:vs1 0=.slice (some ⟨g,0,none⟩) n cap:=hG 0 (by decide) rfl;have e1:vs1 1=.int .i64 (i:Int):=hG 1 (by decide) rfl;have e2:vs1 2=.slice (some ⟨g,0,none⟩) i cap:=hG 2 (by decide) rfl;have e3:vs1 3=.int .i64 (i:Nat):=hG 3 (by decide) rfl;have e4:vs1 4=.slice (some ⟨b,0,none⟩) m m:=hG 4 (by decide) rfl;have e5:vs1 5=.int .i64 (m:Nat):=hG 5 (by decide) rfl;have e6:vs1 6=.int .i64 ((i:Int)+(m:Int)):=hG 6 (by decide) rfl;have e7:vs1 7=.slice (some ⟨g,0,none⟩) n cap:=hG 7 (by decide) rfl;have e8:vs1 8=.int .i64 (j:Int):=hG 8 (by decide) rfl;have e9:vs1 9=.slice (some ⟨g,0+j*3,none⟩) (n-j) (cap-j):=hG 9 (by decide) rfl;have e10:vs1 10=.int .i64 ((n-j):Nat):=hG 10 (by decide) rfl;have e11:vs1 11=.int .i64 (t:Int):=hG 11 (by decide) rfl;have e12:vs1 12=.int .i64 (t:Int):=hG 12 (by decide) rfl;simp only[zaj,e0,e1,e2,e3,e4,e5,e6,e7,e8,e9,e10,e11,e12];clear hG e0 e1 e2 e3 e4 e5 e6 e7 e8 e9 e10 e11 e12;replace hv:=hv.below q9;replace hb:=(q9.block b hblt).trans hb;replace hg:=(q9.block g hglt).trans hg;replace hcs:=zbp hb;replace hblt:=zm hblt q9.size;replace hglt:=zm hglt q9.size;go_simp;have hcs0:∀(q:Nat) (u:Value),(vs.take (i*3))[q]?=some u->w9.cell? (Addr.add ⟨g,0,none⟩ q)=some u:=λq u hj=>by
    rw[xG]at hj;split at hj;·rw[zN,zR];exact hv.cell rfl hj
    ·cases hj
  go_upto_region 12 with(go_big_may;first
    |(refine zbi ndP.toLsP rfl rfl rfl (r:=i) (zax _ (by omega)) ?_)
    |(refine zgf ndP (by omega) (by kernel_rfl) rfl rfl rfl (m:=t-i) rfl (by omega) hl0 (λq hq=>by cases hq;exact hcs0) (λh=>by cases h) (by omega) (by omega) (by omega) ?_;intro G cr hG1 hG2 hG3 hG4)
    |fail)
  have hL:i+(t-i)=t:=by omega
  rw[hL]at hG1⊢;clear hL;have hg1:((w9.alloc (.cells cr 46)).drew).heap[w9.heap.size]?=some (.cells cr 46 (0,0)):=by simp only[World.alloc,World.drew,yf]
  have q1:Below w9.heap.size w9 ((w9.alloc (.cells cr 46)).drew):=((ze _ _).alloc (zf _) _).drew;generalize (w9.alloc (.cells cr 46)).drew=W1 at*;have hcs1':∀(j:Nat) (u:Value),us[j]?=some u->W1.cell? (Addr.add ⟨b,0,none⟩ j)=some u:=λj u hj=>by
    have:=hcs j u hj;rw[zN]at this⊢;exact(zag (q1.block b hblt) _).trans this
  go_upto_region 13 with(go_big_may;first
    |(refine zam ndP.toLsP rfl rfl rfl (l:=i) (r:=t) (za1 _ (by omega)) (by omega) ?_)
    |(refine zco ndP.toLsP rfl rfl rfl rfl hg1 (cs:=us) (by rw[yi (by omega)];exact hu) hcs1' hu1 (by rw[hG3,hu];omega) ?_;intro W2 hg2 hgr2)
    |fail)
  have q2:Below w9.heap.size w9 W2:=q1.grown hgr2 q1.size (λk hk=>by injection hk with hk;omega);have hdl:(vs.drop (j*3)).length=(n-j)*3:=by rw[zF,hv.len,xK]
  have hgc:∀(W:World),Below w9.heap.size w9 W->∀(q:Nat)(u:Value),(vs.drop (j*3))[q]?=some u->W.cell? (Addr.add ⟨g,0+j*3,none⟩ q)=some u:=λW hW q u hj=>by
    rw[xR]at hj;rw[zN,zR];exact(zag (hW.block g hglt) _).trans (hv.cell rfl hj)
  obtain⟨C1,hC1⟩:∃C1:Array Value,C1=(cr.toList.take (i*3)++us++cr.toList.drop (i*3+us.length)).toArray:=⟨_,rfl⟩;replace hg2:W2.heap[w9.heap.size]?=some (.cells C1 46 (0,0)):=by rw[hC1];simpa using hg2
  have hC1s:C1.size=G*3:=by
    rw[hC1];simp only[yj,zC,zp,zF,yo,hG3,hu];omega
  refine zai (K:=λ_ _=>True) (by kernel_rfl) (by kernel_rfl) [9] (by kernel_rfl) [lEq (.slice (some ⟨w9.heap.size,0,none⟩) t G),lEq (.int .i64 (i:Int)),lEq (.slice (some ⟨b,0,none⟩) m m),lEq (.int .i64 (m:Nat)),lEq (.int .i64 ((i:Int)+(m:Int))),lEq (.slice (some ⟨w9.heap.size,0+(i+m)*3,none⟩) (t-(i+m)) (G-(i+m))),lEq (.slice (some ⟨g,0,none⟩) n cap),lEq (.int .i64 (j:Int)),lEq (.slice (some ⟨g,0+j*3,none⟩) (n-j) (cap-j)),lAny] (λl W=>Below w9.heap.size w9 W/\W.heap[w9.heap.size]?=some (.cells (match l with|[]=>C1|_::_=>(C1.toList.take (0+(i+m)*3)++vs.drop (j*3)++C1.toList.drop (0+(i+m)*3+(vs.drop (j*3)).length)).toArray) 46 (0,0))) (λl A B h hb=>⟨h.1.trans (hb.mono h.1.size),(hb.block _ (zJ.1 h.2).1).trans h.2⟩) ⟨q2,hg2⟩
    ⟨?o0,?o1,?o2,?o3,?o4,?o5,?o6,?o7,?o8,?o9,trivial⟩ ?fin2
  case o0=>
    refine LnOp.sd (λA vs w' k hF hT hk hJ hb hu hp hd=>?_);have e1:A.eval (.tmp 11)=.slice (some ⟨w9.heap.size,0,none⟩) t G:=hF 11 rfl;exact zu _ rfl ⟨_,rfl,e1,ze _ _⟩
  case o1=>
    refine LnOp.sd (λA vs w' k hF hT hk hJ hb hu hp hd=>?_);have e1:A.eval (.tmp 1)=.int .i64 (i:Int):=hF 1 rfl;exact zu _ rfl ⟨_,rfl,e1,ze _ _⟩
  case o2=>
    refine LnOp.sd (λA vs w' k hF hT hk hJ hb hu hp hd=>?_);have e1:A.eval (.tmp 3)=.slice (some ⟨b,0,none⟩) m m:=hF 3 rfl;exact zu _ rfl ⟨_,rfl,e1,ze _ _⟩
  case o3=>
    refine LnOp.sd (λA vs w' k hF hT hk hJ hb hu hp hd=>?_);have e1:A.eval (.tmp 75)=.slice (some ⟨b,0,none⟩) m m:=(hT 75 2 (by simp[zaz]) rfl).trans (hd ⟨2,.data⟩ (by simp) rfl rfl);exact zdp (e:=46) rfl (by kernel_rfl) (e1) ⟨_,rfl,rfl,ze _ _⟩
  case o4=>
    refine LnOp.sd (λA vs w' k hF hT hk hJ hb hu hp hd=>?_);have e1:A.eval (.tmp 74)=.int .i64 (i:Int):=(hT 74 1 (by simp[zaz]) rfl).trans (hd ⟨1,.data⟩ (by simp) rfl rfl);have e2:A.eval (.tmp 76)=.int .i64 (m:Nat):=(hT 76 3 (by simp[zaz]) rfl).trans (hd ⟨3,.data⟩ (by simp) rfl rfl);exact zbq rfl (e1) (e2) (by omega) (by omega) ⟨_,rfl,rfl,ze _ _⟩
  case o5=>
    refine LnOp.sd (λA vs w' k hF hT hk hJ hb hu hp hd=>?_);have e1:A.eval (.tmp 73)=.slice (some ⟨w9.heap.size,0,none⟩) t G:=(hT 73 0 (by simp[zaz]) rfl).trans (hd ⟨0,.data⟩ (by simp) rfl rfl);have e2:A.eval (.tmp 77)=.int .i64 ((i:Int)+(m:Int)):=(hT 77 4 (by simp[zaz]) rfl).trans (hd ⟨4,.data⟩ (by simp) rfl rfl);exact zav ndP.toLsP rfl (e1) (congrArg some e2) rfl (zas _ (by omega) (by omega)) (by omega) ⟨_,rfl,rfl,ze _ _⟩
  case o6=>
    refine LnOp.sd (λA vs w' k hF hT hk hJ hb hu hp hd=>?_);have e1:A.eval (.tmp 0)=.slice (some ⟨g,0,none⟩) n cap:=hF 0 rfl;exact zu _ rfl ⟨_,rfl,e1,ze _ _⟩
  case o7=>
    refine LnOp.sd (λA vs w' k hF hT hk hJ hb hu hp hd=>?_);have e1:A.eval (.tmp 2)=.int .i64 (j:Int):=hF 2 rfl;exact zu _ rfl ⟨_,rfl,e1,ze _ _⟩
  case o8=>
    refine LnOp.sd (λA vs w' k hF hT hk hJ hb hu hp hd=>?_);have e1:A.eval (.tmp 79)=.slice (some ⟨g,0,none⟩) n cap:=(hT 79 6 (by simp[zaz]) rfl).trans (hd ⟨6,.data⟩ (by simp) rfl rfl);have e2:A.eval (.tmp 80)=.int .i64 (j:Int):=(hT 80 7 (by simp[zaz]) rfl).trans (hd ⟨7,.data⟩ (by simp) rfl rfl);exact zav ndP.toLsP rfl (e1) (congrArg some e2) rfl (zas _ (by omega) (by omega)) (by omega) ⟨_,rfl,rfl,ze _ _⟩
  case o9=>
    refine LnOp.line 0 rfl rfl (λA va w' hF hT hJ hu hd=>?_);have e1:A.eval (.tmp 78)=.slice (some ⟨w9.heap.size,0+(i+m)*3,none⟩) (t-(i+m)) (G-(i+m)):=(hT 78 5 (by simp[zaz]) rfl).trans (hd ⟨5,.data⟩ (by simp) rfl rfl);have e2:A.eval (.tmp 81)=.slice (some ⟨g,0+j*3,none⟩) (n-j) (cap-j):=(hT 81 8 (by simp[zaz]) rfl).trans (hd ⟨8,.data⟩ (by simp) rfl rfl);refine zd3 ndP.toLsP rfl e1 e2 hJ.2 (cs:=vs.drop (j*3)) (by rw[hdl,yi (by omega)]) (hgc _ hJ.1) (λu hu=>hv.2 u (yM hu)) ?_ ?_
    · show 0+(i+m)*3+(vs.drop (j*3)).length<=C1.size
      rw[hC1s,hdl];omega
    · intro W3 hg3 hgr3
      exact⟨_,rfl,⟨hJ.1.grown hgr3 hJ.1.size (λk hk=>by injection hk with hk;omega),hg3⟩,trivial⟩
  case fin2=>
  intro vs1 W3 hJ hG;have e0:vs1 0=.slice (some ⟨w9.heap.size,0,none⟩) t G:=hG 0 (by decide) rfl;have e1:vs1 1=.int .i64 (i:Int):=hG 1 (by decide) rfl;have e2:vs1 2=.slice (some ⟨b,0,none⟩) m m:=hG 2 (by decide) rfl;have e3:vs1 3=.int .i64 (m:Nat):=hG 3 (by decide) rfl;have e4:vs1 4=.int .i64 ((i:Int)+(m:Int)):=hG 4 (by decide) rfl;have e5:vs1 5=.slice (some ⟨w9.heap.size,0+(i+m)*3,none⟩) (t-(i+m)) (G-(i+m)):=hG 5 (by decide) rfl;have e6:vs1 6=.slice (some ⟨g,0,none⟩) n cap:=hG 6 (by decide) rfl;have e7:vs1 7=.int .i64 (j:Int):=hG 7 (by decide) rfl;have e8:vs1 8=.slice (some ⟨g,0+j*3,none⟩) (n-j) (cap-j):=hG 8 (by decide) rfl;simp only[zaj,e0,e1,e2,e3,e4,e5,e6,e7,e8];clear hG e0 e1 e2 e3 e4 e5 e6 e7 e8;go_simp;go_wp2_with fail;go_ret;refine⟨_,rfl,RowQ.of hJ.2 hG1 hG2 ?_ ?_ ?_,?_,.inr ⟨_,rfl,q9.size⟩⟩
  · show(List.toArray _).size=_
    simp only[yj,zC,zp,zF,yo,hC1s,hv.len];omega
  · show List.take _ (C1.toList.take _++_++C1.toList.drop _)=_
    have:=zta (cur:=cr.toList) (us:=us) (ws:=vs.drop (j*3)) (Y:=(cr.toList.take (i*3)++us++cr.toList.drop (i*3+us.length)).drop ((i+m)*3+(vs.drop (j*3)).length)) (p:=i*3) (r:=m*3) (by rw[yo,hG3];omega) hu;rw[<-zT]at this;rw[zR,show t*3=(i+m)*3+(vs.drop (j*3)).length by rw[hdl,<-zT];congr 1;omega,hC1,<-hG4];exact this
  · intro u hu
    rcases zV.1 hu with h|h
    · rcases zV.1 h with h|h
      ·exact hv.2 u (y7 h)
      ·exact hu1 u h
    ·exact hv.2 u (yM h)
  · have q3:=q9.trans (hJ.1.mono q9.size)
    exact⟨q3.os,q3.tape,q3.output,q3.size,λk hk _=>q3.block k hk⟩
theorem zkv (w:World){n i j b m g cap:Nat}{vs us:List Value}(hv:RowQ 46 3 w (.slice (some ⟨g,0,none⟩) n cap) n vs) (hij:i<j) (hjn:j<=n) (hn:n+m<=1000000)(hm:0<m)(hb:w.heap[b]?=some (.cells us.toArray 46 (0,0)))(hu:us.length=m*3)(hu1:∀u∈us,u.oneCell'=true)(_hbg:b≠g)(hend:j<n)(hless:i+m<j):Calls Tryz.prog 164 #[.slice (some ⟨g,0,none⟩) n cap,.int .i64 i,.int .i64 j,.slice (some ⟨b,0,none⟩) m m] w (zdo 46 3 w (.slice (some ⟨g,0,none⟩) n cap) (i+m+(n-j)) (vs.take (i*3)++us++vs.drop (j*3))):=by
  have hz0:((i:Int)==(j:Int))=false:=zt.2 (by omega);have hcs:=zbp hb;have hblt:=(zJ.1 hb).1;have hglt:=hv.lt (k:=g) rfl;obtain⟨cur,hg,hnc,hcm,hcs1,hct⟩:∃cur,w.heap[g]?=some (.cells cur 46 (0,0))/\n<=cap/\cap<=maxLen/\cur.size=cap*3/\cur.toList.take (n*3)=vs:=by
    rcases hv.cases with⟨h,_⟩|⟨g',cap',cur,h,h1,h2,h3,h4,h5⟩
    ·cases h
    · cases h
      exact⟨cur,h1,h2,h3,h4,h5⟩
  have hz1:((j:Int)==(n:Int))=false:=zt.2 (by omega);obtain⟨t,ht⟩:∃t:Nat,t=i+m+(n-j):=⟨_,rfl⟩;have hti:((i:Int)+(m:Int))+((n-j:Nat):Int)=(t:Int):=by omega
  rw[<-ht];have d:decide ((cap:Int)<(t:Int))=false:=zj (by omega);have d2:decide ((i:Int)+(m:Int)<=(j:Int))=true:=zk (by omega);have hdl:(vs.drop (j*3)).length=(n-j)*3:=by rw[zF,hv.len,xK]
  have htn:t<n:=by omega
  have htb1:i+m<=t:=by omega
  have htb2:t<=1000000:=by omega
  have htb3:i+m+n<=t+j:=by omega
  have htb4:t+j<=i+m+n:=by omega
  clear ht;go_enter Tryz.func164,Tryz.ntmps164;go_upto_region 9 with(go_big_may;first
    |(refine zbd ndP.toLsP rfl rfl rfl (l:=i) (r:=j) (zbo _ (by omega) (by omega)) ?_;intro _)
    |fail)
  refine zai (K:=λ_ _=>True) (by kernel_rfl) (by kernel_rfl) [] (by kernel_rfl) [lEq (.slice (some ⟨g,0,none⟩) n cap),lEq (.int .i64 (i:Int)),lEq (.slice (some ⟨g,0,none⟩) i cap),lEq (.int .i64 (i:Nat)),lEq (.slice (some ⟨b,0,none⟩) m m),lEq (.int .i64 (m:Nat)),lEq (.int .i64 ((i:Int)+(m:Int))),lEq (.slice (some ⟨g,0,none⟩) n cap),lEq (.int .i64 (j:Int)),lEq (.slice (some ⟨g,0+j*3,none⟩) (n-j) (cap-j)),lEq (.int .i64 ((n-j):Nat)),lEq (.int .i64 (t:Int)),lEq (.int .i64 (t:Int))] (λ_ W=>Below w.heap.size w W) (λl A B h hb=>h.trans (hb.mono h.size)) (ze _ _)
    ⟨?o0,?o1,?o2,?o3,?o4,?o5,?o6,?o7,?o8,?o9,?o10,?o11,?o12,trivial⟩ ?fin
  case o0=>
    refine LnOp.sd (λA vs w' k hF hT hk hJ hb hu hp hd=>?_);have e1:A.eval (.tmp 0)=.slice (some ⟨g,0,none⟩) n cap:=hF 0 rfl;exact zu _ rfl ⟨_,rfl,e1,ze _ _⟩
  case o1=>
    refine LnOp.sd (λA vs w' k hF hT hk hJ hb hu hp hd=>?_);have e1:A.eval (.tmp 1)=.int .i64 (i:Int):=hF 1 rfl;exact zu _ rfl ⟨_,rfl,e1,ze _ _⟩
  case o2=>
    refine LnOp.sd (λA vs w' k hF hT hk hJ hb hu hp hd=>?_);have e1:=(hT 45 0 (by simp) rfl).trans (hd ⟨0,.data⟩ (by simp) rfl rfl);have e2:=(hT 46 1 (by simp) rfl).trans (hd ⟨1,.data⟩ (by simp) rfl rfl);exact zep ndP.toLsP rfl (e1) (congrArg some e2) (zax _ (by omega)) ⟨_,rfl,rfl,ze _ _⟩
  case o3=>
    refine LnOp.sd (λA vs w' k hF hT hk hJ hb hu hp hd=>?_);have e1:=(hT 47 2 (by simp) rfl).trans (hd ⟨2,.data⟩ (by simp) rfl rfl);exact zdp (e:=46) rfl (by kernel_rfl) (e1) ⟨_,rfl,rfl,ze _ _⟩
  case o4=>
    refine LnOp.sd (λA vs w' k hF hT hk hJ hb hu hp hd=>?_);have e1:A.eval (.tmp 3)=.slice (some ⟨b,0,none⟩) m m:=hF 3 rfl;exact zu _ rfl ⟨_,rfl,e1,ze _ _⟩
  case o5=>
    refine LnOp.sd (λA vs w' k hF hT hk hJ hb hu hp hd=>?_);have e1:=(hT 49 4 (by simp) rfl).trans (hd ⟨4,.data⟩ (by simp) rfl rfl);exact zdp (e:=46) rfl (by kernel_rfl) (e1) ⟨_,rfl,rfl,ze _ _⟩
  case o6=>
    refine LnOp.sd (λA vs w' k hF hT hk hJ hb hu hp hd=>?_);have e1:=(hT 48 3 (by simp) rfl).trans (hd ⟨3,.data⟩ (by simp) rfl rfl);have e2:=(hT 50 5 (by simp) rfl).trans (hd ⟨5,.data⟩ (by simp) rfl rfl);exact zbq rfl (e1) (e2) (by omega) (by omega) ⟨_,rfl,rfl,ze _ _⟩
  case o7=>
    refine LnOp.sd (λA vs w' k hF hT hk hJ hb hu hp hd=>?_);have e1:A.eval (.tmp 0)=.slice (some ⟨g,0,none⟩) n cap:=hF 0 rfl;exact zu _ rfl ⟨_,rfl,e1,ze _ _⟩
  case o8=>
    refine LnOp.sd (λA vs w' k hF hT hk hJ hb hu hp hd=>?_);have e1:A.eval (.tmp 2)=.int .i64 (j:Int):=hF 2 rfl;exact zu _ rfl ⟨_,rfl,e1,ze _ _⟩
  case o9=>
    refine LnOp.sd (λA vs w' k hF hT hk hJ hb hu hp hd=>?_);have e1:=(hT 52 7 (by simp) rfl).trans (hd ⟨7,.data⟩ (by simp) rfl rfl);have e2:=(hT 53 8 (by simp) rfl).trans (hd ⟨8,.data⟩ (by simp) rfl rfl);exact zav ndP.toLsP rfl (e1) (congrArg some e2) rfl (za1 _ (by omega)) (by omega) ⟨_,rfl,rfl,ze _ _⟩
  case o10=>
    refine LnOp.sd (λA vs w' k hF hT hk hJ hb hu hp hd=>?_);have e1:=(hT 54 9 (by simp) rfl).trans (hd ⟨9,.data⟩ (by simp) rfl rfl);exact zdp (e:=46) rfl (by kernel_rfl) (e1) ⟨_,rfl,rfl,ze _ _⟩
  case o11=>
    refine LnOp.sd (λA vs w' k hF hT hk hJ hb hu hp hd=>?_);have e1:=(hT 51 6 (by simp) rfl).trans (hd ⟨6,.data⟩ (by simp) rfl rfl);have e2:=(hT 55 10 (by simp) rfl).trans (hd ⟨10,.data⟩ (by simp) rfl rfl);exact zbq rfl (e1) (e2) (by omega) (by omega) ⟨_,rfl,congrArg (Value.int .i64) hti,ze _ _⟩
  case o12=>
    refine LnOp.sd (λA vs w' k hF hT hk hJ hb hu hp hd=>?_);have e1:=(hT 56 11 (by simp) rfl).trans (hd ⟨11,.data⟩ (by simp) rfl rfl);exact yV _ rfl ⟨_,rfl,e1,ze _ _⟩
  case fin=>
  intro vs1 w9 q9 hG;have e0:vs1 0=.slice (some ⟨g,0,none⟩) n cap:=hG 0 (by decide) rfl;have e1:vs1 1=.int .i64 (i:Int):=hG 1 (by decide) rfl;have e2:vs1 2=.slice (some ⟨g,0,none⟩) i cap:=hG 2 (by decide) rfl;have e3:vs1 3=.int .i64 (i:Nat):=hG 3 (by decide) rfl;have e4:vs1 4=.slice (some ⟨b,0,none⟩) m m:=hG 4 (by decide) rfl;have e5:vs1 5=.int .i64 (m:Nat):=hG 5 (by decide) rfl;have e6:vs1 6=.int .i64 ((i:Int)+(m:Int)):=hG 6 (by decide) rfl;have e7:vs1 7=.slice (some ⟨g,0,none⟩) n cap:=hG 7 (by decide) rfl;have e8:vs1 8=.int .i64 (j:Int):=hG 8 (by decide) rfl;have e9:vs1 9=.slice (some ⟨g,0+j*3,none⟩) (n-j) (cap-j):=hG 9 (by decide) rfl;have e10:vs1 10=.int .i64 ((n-j):Nat):=hG 10 (by decide) rfl;have e11:vs1 11=.int .i64 (t:Int):=hG 11 (by decide) rfl;have e12:vs1 12=.int .i64 (t:Int):=hG 12 (by decide) rfl;simp only[zaj,e0,e1,e2,e3,e4,e5,e6,e7,e8,e9,e10,e11,e12];clear hG e0 e1 e2 e3 e4 e5 e6 e7 e8 e9 e10 e11 e12;replace hv:=hv.below q9;replace hb:=(q9.block b hblt).trans hb;replace hg:=(q9.block g hglt).trans hg;replace hcs:=zbp hb;replace hblt:=zm hblt q9.size;replace hglt:=zm hglt q9.size;go_simp;go_upto_region 18 with(go_big_may;first
    |(refine zbi ndP.toLsP rfl rfl rfl (r:=t) (zax _ (by omega)) ?_)
    |(refine zam ndP.toLsP rfl rfl rfl (l:=i) (r:=t) (za1 _ (by omega)) (by omega) ?_)
    |(refine zco ndP.toLsP rfl rfl rfl rfl hg (cs:=us) (by rw[yi (by omega)];exact hu) hcs hu1 (by rw[hcs1,hu];omega) ?_;intro W2 hg2 hgr2)
    |fail)
  have q2:Trd (·=g) w9 W2:=Trd.ofGrown (F:=(·=g)) hgr2 λk hk=>by injection hk with hk;exact hk.symm
  obtain⟨C1,hC1⟩:∃C1:Array Value,C1=(cur.toList.take (i*3)++us++cur.toList.drop (i*3+us.length)).toArray:=⟨_,rfl⟩;replace hg2:W2.heap[g]?=some (.cells C1 46 (0,0)):=by rw[hC1];simpa using hg2
  have hC1s:C1.size=cap*3:=by
    rw[hC1];simp only[yj,zC,zp,zF,yo,hcs1,hu];omega
  have hC1d:∀(q:Nat)(u:Value),(vs.drop (j*3))[q]?=some u->C1.toList[j*3+q]?=some u:=λq u hj=>by
    rw[xR,<-hct,xG]at hj;split at hj
    · have e:(cur.toList.take (i*3)++us).length=i*3+m*3:=by
        simp only[zC,zp,yo,hcs1,hu];omega
      rw[hC1];show(_++us++_:List Value)[_]?=_;rw[xw (by omega),e,xR,hu];rw[show i*3+m*3+(j*3+q-(i*3+m*3))=j*3+q by omega];exact hj
    ·cases hj
  refine zai (K:=λ_ _=>True) (by kernel_rfl) (by kernel_rfl) [9] (by kernel_rfl) [lEq (.slice (some ⟨g,0,none⟩) t cap),lEq (.int .i64 (i:Int)),lEq (.slice (some ⟨b,0,none⟩) m m),lEq (.int .i64 (m:Nat)),lEq (.int .i64 ((i:Int)+(m:Int))),lEq (.slice (some ⟨g,0+(i+m)*3,none⟩) (t-(i+m)) (cap-(i+m))),lEq (.slice (some ⟨g,0,none⟩) n cap),lEq (.int .i64 (j:Int)),lEq (.slice (some ⟨g,0+j*3,none⟩) (n-j) (cap-j)),lAny] (λl W=>Trd (·=g) w9 W/\W.heap[g]?=some (.cells (match l with|[]=>C1|_::_=>(C1.toList.take (0+(i+m)*3)++vs.drop (j*3)++C1.toList.drop (0+(i+m)*3+(vs.drop (j*3)).length)).toArray) 46 (0,0))) (λl A B h hb=>⟨h.1.trans (Trd.of (F:=(·=g)) hb) (λ_ _ h=>h),(hb.block _ (zJ.1 h.2).1).trans h.2⟩) ⟨q2,hg2⟩
    ⟨?o0,?o1,?o2,?o3,?o4,?o5,?o6,?o7,?o8,?o9,trivial⟩ ?fin2
  case o0=>
    refine LnOp.sd (λA vs w' k hF hT hk hJ hb hu hp hd=>?_);have e1:A.eval (.tmp 12)=.slice (some ⟨g,0,none⟩) t cap:=hF 12 rfl;exact zu _ rfl ⟨_,rfl,e1,ze _ _⟩
  case o1=>
    refine LnOp.sd (λA vs w' k hF hT hk hJ hb hu hp hd=>?_);have e1:A.eval (.tmp 1)=.int .i64 (i:Int):=hF 1 rfl;exact zu _ rfl ⟨_,rfl,e1,ze _ _⟩
  case o2=>
    refine LnOp.sd (λA vs w' k hF hT hk hJ hb hu hp hd=>?_);have e1:A.eval (.tmp 3)=.slice (some ⟨b,0,none⟩) m m:=hF 3 rfl;exact zu _ rfl ⟨_,rfl,e1,ze _ _⟩
  case o3=>
    refine LnOp.sd (λA vs w' k hF hT hk hJ hb hu hp hd=>?_);have e1:A.eval (.tmp 100)=.slice (some ⟨b,0,none⟩) m m:=(hT 100 2 (by simp[zaz]) rfl).trans (hd ⟨2,.data⟩ (by simp) rfl rfl);exact zdp (e:=46) rfl (by kernel_rfl) (e1) ⟨_,rfl,rfl,ze _ _⟩
  case o4=>
    refine LnOp.sd (λA vs w' k hF hT hk hJ hb hu hp hd=>?_);have e1:A.eval (.tmp 99)=.int .i64 (i:Int):=(hT 99 1 (by simp[zaz]) rfl).trans (hd ⟨1,.data⟩ (by simp) rfl rfl);have e2:A.eval (.tmp 101)=.int .i64 (m:Nat):=(hT 101 3 (by simp[zaz]) rfl).trans (hd ⟨3,.data⟩ (by simp) rfl rfl);exact zbq rfl (e1) (e2) (by omega) (by omega) ⟨_,rfl,rfl,ze _ _⟩
  case o5=>
    refine LnOp.sd (λA vs w' k hF hT hk hJ hb hu hp hd=>?_);have e1:A.eval (.tmp 98)=.slice (some ⟨g,0,none⟩) t cap:=(hT 98 0 (by simp[zaz]) rfl).trans (hd ⟨0,.data⟩ (by simp) rfl rfl);have e2:A.eval (.tmp 102)=.int .i64 ((i:Int)+(m:Int)):=(hT 102 4 (by simp[zaz]) rfl).trans (hd ⟨4,.data⟩ (by simp) rfl rfl);exact zav ndP.toLsP rfl (e1) (congrArg some e2) rfl (zas _ (by omega) (by omega)) (by omega) ⟨_,rfl,rfl,ze _ _⟩
  case o6=>
    refine LnOp.sd (λA vs w' k hF hT hk hJ hb hu hp hd=>?_);have e1:A.eval (.tmp 0)=.slice (some ⟨g,0,none⟩) n cap:=hF 0 rfl;exact zu _ rfl ⟨_,rfl,e1,ze _ _⟩
  case o7=>
    refine LnOp.sd (λA vs w' k hF hT hk hJ hb hu hp hd=>?_);have e1:A.eval (.tmp 2)=.int .i64 (j:Int):=hF 2 rfl;exact zu _ rfl ⟨_,rfl,e1,ze _ _⟩
  case o8=>
    refine LnOp.sd (λA vs w' k hF hT hk hJ hb hu hp hd=>?_);have e1:A.eval (.tmp 104)=.slice (some ⟨g,0,none⟩) n cap:=(hT 104 6 (by simp[zaz]) rfl).trans (hd ⟨6,.data⟩ (by simp) rfl rfl);have e2:A.eval (.tmp 105)=.int .i64 (j:Int):=(hT 105 7 (by simp[zaz]) rfl).trans (hd ⟨7,.data⟩ (by simp) rfl rfl);exact zav ndP.toLsP rfl (e1) (congrArg some e2) rfl (zas _ (by omega) (by omega)) (by omega) ⟨_,rfl,rfl,ze _ _⟩
  case o9=>
    refine LnOp.line 0 rfl rfl (λA va w' hF hT hJ hu hd=>?_);have e1:A.eval (.tmp 103)=.slice (some ⟨g,0+(i+m)*3,none⟩) (t-(i+m)) (cap-(i+m)):=(hT 103 5 (by simp[zaz]) rfl).trans (hd ⟨5,.data⟩ (by simp) rfl rfl);have e2:A.eval (.tmp 106)=.slice (some ⟨g,0+j*3,none⟩) (n-j) (cap-j):=(hT 106 8 (by simp[zaz]) rfl).trans (hd ⟨8,.data⟩ (by simp) rfl rfl);refine zd3 ndP.toLsP rfl e1 e2 hJ.2 (cs:=vs.drop (j*3)) (by rw[hdl,yi (by omega)]) (λq u hj=>?_) (λu hu=>hv.2 u (yM hu)) ?_ ?_
    · rw[zN,zR]
      have h5:w'.heap[g]?=some (.cells C1 46 (0,0)):=hJ.2;simpa[World.cell?,h5,<-Array.getElem?_toList]using hC1d q u hj
    · show 0+(i+m)*3+(vs.drop (j*3)).length<=C1.size
      rw[hC1s,hdl];omega
    · intro W3 hg3 hgr3
      exact⟨_,rfl,⟨hJ.1.trans (Trd.ofGrown (F:=(·=g)) hgr3 λk hk=>by injection hk with hk;exact hk.symm) (λ_ _ h=>h),hg3⟩,trivial⟩
  case fin2=>
  intro vs1 W3 hJ hG;have e0:vs1 0=.slice (some ⟨g,0,none⟩) t cap:=hG 0 (by decide) rfl;have e1:vs1 1=.int .i64 (i:Int):=hG 1 (by decide) rfl;have e2:vs1 2=.slice (some ⟨b,0,none⟩) m m:=hG 2 (by decide) rfl;have e3:vs1 3=.int .i64 (m:Nat):=hG 3 (by decide) rfl;have e4:vs1 4=.int .i64 ((i:Int)+(m:Int)):=hG 4 (by decide) rfl;have e5:vs1 5=.slice (some ⟨g,0+(i+m)*3,none⟩) (t-(i+m)) (cap-(i+m)):=hG 5 (by decide) rfl;have e6:vs1 6=.slice (some ⟨g,0,none⟩) n cap:=hG 6 (by decide) rfl;have e7:vs1 7=.int .i64 (j:Int):=hG 7 (by decide) rfl;have e8:vs1 8=.slice (some ⟨g,0+j*3,none⟩) (n-j) (cap-j):=hG 8 (by decide) rfl;simp only[zaj,e0,e1,e2,e3,e4,e5,e6,e7,e8];clear hG e0 e1 e2 e3 e4 e5 e6 e7 e8;obtain⟨C2,hC2⟩:∃C2:Array Value,C2=(C1.toList.take (0+(i+m)*3)++vs.drop (j*3)++C1.toList.drop (0+(i+m)*3+(vs.drop (j*3)).length)).toArray:=⟨_,rfl⟩;have hg3:W3.heap[g]?=some (.cells C2 46 (0,0)):=by rw[hC2];exact hJ.2
  have hC2s:C2.size=cap*3:=by
    rw[hC2];simp only[yj,zC,zp,zF,yo,hC1s,hv.len];omega
  go_simp;go_wp2_with(go_big_may;first
    |(refine zam ndP.toLsP rfl rfl rfl (l:=t) (r:=n) (za1 _ (by omega)) (by omega) ?_)
    |(refine zdq ndP nd1 rfl rfl rfl rfl hg3 (.inr rfl) (.inr (by rw[hC2s];omega)) ?_;intro W4 C4 hg4 hs4 ht4 _ hgr4)
    |fail)
  go_ret;have q4:Trd (·=g) w9 W4:=hJ.1.trans (Trd.ofGrown (F:=(·=g)) hgr4 λk hk=>by injection hk with hk;exact hk.symm) (λ_ _ h=>h);refine⟨_,rfl,RowQ.of hg4 (by omega) hcm (by rw[hs4,hC2s]) ?_ ?_,?_,.inl rfl⟩
  · have h5:=ht4 (by omega)
    rw[zR]at h5;rw[h5,hC2];show List.take _ (C1.toList.take _++_++C1.toList.drop _)=_;have:=zta (cur:=cur.toList) (us:=us) (ws:=vs.drop (j*3)) (Y:=(cur.toList.take (i*3)++us++cur.toList.drop (i*3+us.length)).drop ((i+m)*3+(vs.drop (j*3)).length)) (p:=i*3) (r:=m*3) (by rw[yo,hcs1];omega) hu;rw[<-zT]at this;have e6:vs.take (i*3)=cur.toList.take (i*3):=by rw[<-hct,xJ,yi (by omega)]
    rw[zR,show t*3=(i+m)*3+(vs.drop (j*3)).length by rw[hdl,<-zT];congr 1;omega,hC1,e6];exact this
  · intro u hu
    rcases zV.1 hu with h|h
    · rcases zV.1 h with h|h
      ·exact hv.2 u (y7 h)
      ·exact hu1 u h
    ·exact hv.2 u (yM h)
  ·exact⟨q4.os.trans q9.os,q4.tape.trans q9.tape,q4.output.trans q9.output,zv q9.size q4.size,λk hk hn=>(q4.block k (zm hk q9.size) λh=>hn (by rw[h];rfl)).trans (q9.block k hk)⟩
theorem zku(w:World){n i j b m g cap:Nat}{vs us:List Value}(hv:RowQ 46 3 w (.slice (some ⟨g,0,none⟩) n cap) n vs) (hij:i<j) (hjn:j<=n) (hn:n+m<=1000000) (hm:0<m) (hb:w.heap[b]?=some (.cells us.toArray 46 (0,0)))(hu:us.length=m*3)(hu1:∀u∈us,u.oneCell'=true)(hbg:b≠g)(hend:j<n)(hmore:j<i+m)(hroom:i+m+(n-j)<=cap):Calls Tryz.prog 164 #[.slice (some ⟨g,0,none⟩) n cap,.int .i64 i,.int .i64 j,.slice (some ⟨b,0,none⟩) m m] w (zdo 46 3 w (.slice (some ⟨g,0,none⟩) n cap) (i+m+(n-j)) (vs.take (i*3)++us++vs.drop (j*3))):=by
  have hz0:((i:Int)==(j:Int))=false:=zt.2 (by omega);have hcs:=zbp hb;have hblt:=(zJ.1 hb).1;have hglt:=hv.lt (k:=g) rfl;obtain⟨cur,hg,hnc,hcm,hcs1,hct⟩:∃cur,w.heap[g]?=some (.cells cur 46 (0,0))/\n<=cap/\cap<=maxLen/\cur.size=cap*3/\cur.toList.take (n*3)=vs:=by
    rcases hv.cases with⟨h,_⟩|⟨g',cap',cur,h,h1,h2,h3,h4,h5⟩
    ·cases h
    · cases h
      exact⟨cur,h1,h2,h3,h4,h5⟩
  have hz1:((j:Int)==(n:Int))=false:=zt.2 (by omega);obtain⟨t,ht⟩:∃t:Nat,t=i+m+(n-j):=⟨_,rfl⟩;have hti:((i:Int)+(m:Int))+((n-j:Nat):Int)=(t:Int):=by omega
  rw[<-ht]at hroom⊢;have d:decide ((cap:Int)<(t:Int))=false:=zj (by omega);have d2:decide ((i:Int)+(m:Int)<=(j:Int))=false:=zj (by omega);have hdl:(vs.drop (j*3)).length=(n-j)*3:=by rw[zF,hv.len,xK]
  have htn:i+m<t:=by omega
  have htb1:i+m<=t:=by omega
  have htb2:t<=1000000:=by omega
  have htb3:i+m+n<=t+j:=by omega
  have htb4:t+j<=i+m+n:=by omega
  clear ht;go_enter Tryz.func164,Tryz.ntmps164;go_upto_region 9 with(go_big_may;first
    |(refine zbd ndP.toLsP rfl rfl rfl (l:=i) (r:=j) (zbo _ (by omega) (by omega)) ?_;intro _)
    |fail)
  refine zai (K:=λ_ _=>True) (by kernel_rfl) (by kernel_rfl) [] (by kernel_rfl) [lEq (.slice (some ⟨g,0,none⟩) n cap),lEq (.int .i64 (i:Int)),lEq (.slice (some ⟨g,0,none⟩) i cap),lEq (.int .i64 (i:Nat)),lEq (.slice (some ⟨b,0,none⟩) m m),lEq (.int .i64 (m:Nat)),lEq (.int .i64 ((i:Int)+(m:Int))),lEq (.slice (some ⟨g,0,none⟩) n cap),lEq (.int .i64 (j:Int)),lEq (.slice (some ⟨g,0+j*3,none⟩) (n-j) (cap-j)),lEq (.int .i64 ((n-j):Nat)),lEq (.int .i64 (t:Int)),lEq (.int .i64 (t:Int))] (λ_ W=>Below w.heap.size w W) (λl A B h hb=>h.trans (hb.mono h.size)) (ze _ _)
    ⟨?o0,?o1,?o2,?o3,?o4,?o5,?o6,?o7,?o8,?o9,?o10,?o11,?o12,trivial⟩ ?fin
  case o0=>
    refine LnOp.sd (λA vs w' k hF hT hk hJ hb hu hp hd=>?_);have e1:A.eval (.tmp 0)=.slice (some ⟨g,0,none⟩) n cap:=hF 0 rfl;exact zu _ rfl ⟨_,rfl,e1,ze _ _⟩
  case o1=>
    refine LnOp.sd (λA vs w' k hF hT hk hJ hb hu hp hd=>?_);have e1:A.eval (.tmp 1)=.int .i64 (i:Int):=hF 1 rfl;exact zu _ rfl ⟨_,rfl,e1,ze _ _⟩
  case o2=>
    refine LnOp.sd (λA vs w' k hF hT hk hJ hb hu hp hd=>?_);have e1:=(hT 45 0 (by simp) rfl).trans (hd ⟨0,.data⟩ (by simp) rfl rfl);have e2:=(hT 46 1 (by simp) rfl).trans (hd ⟨1,.data⟩ (by simp) rfl rfl);exact zep ndP.toLsP rfl (e1) (congrArg some e2) (zax _ (by omega)) ⟨_,rfl,rfl,ze _ _⟩
  case o3=>
    refine LnOp.sd (λA vs w' k hF hT hk hJ hb hu hp hd=>?_);have e1:=(hT 47 2 (by simp) rfl).trans (hd ⟨2,.data⟩ (by simp) rfl rfl);exact zdp (e:=46) rfl (by kernel_rfl) (e1) ⟨_,rfl,rfl,ze _ _⟩
  case o4=>
    refine LnOp.sd (λA vs w' k hF hT hk hJ hb hu hp hd=>?_);have e1:A.eval (.tmp 3)=.slice (some ⟨b,0,none⟩) m m:=hF 3 rfl;exact zu _ rfl ⟨_,rfl,e1,ze _ _⟩
  case o5=>
    refine LnOp.sd (λA vs w' k hF hT hk hJ hb hu hp hd=>?_);have e1:=(hT 49 4 (by simp) rfl).trans (hd ⟨4,.data⟩ (by simp) rfl rfl);exact zdp (e:=46) rfl (by kernel_rfl) (e1) ⟨_,rfl,rfl,ze _ _⟩
  case o6=>
    refine LnOp.sd (λA vs w' k hF hT hk hJ hb hu hp hd=>?_);have e1:=(hT 48 3 (by simp) rfl).trans (hd ⟨3,.data⟩ (by simp) rfl rfl);have e2:=(hT 50 5 (by simp) rfl).trans (hd ⟨5,.data⟩ (by simp) rfl rfl);exact zbq rfl (e1) (e2) (by omega) (by omega) ⟨_,rfl,rfl,ze _ _⟩
  case o7=>
    refine LnOp.sd (λA vs w' k hF hT hk hJ hb hu hp hd=>?_);have e1:A.eval (.tmp 0)=.slice (some ⟨g,0,none⟩) n cap:=hF 0 rfl;exact zu _ rfl ⟨_,rfl,e1,ze _ _⟩
  case o8=>
    refine LnOp.sd (λA vs w' k hF hT hk hJ hb hu hp hd=>?_);have e1:A.eval (.tmp 2)=.int .i64 (j:Int):=hF 2 rfl;exact zu _ rfl ⟨_,rfl,e1,ze _ _⟩
  case o9=>
    refine LnOp.sd (λA vs w' k hF hT hk hJ hb hu hp hd=>?_);have e1:=(hT 52 7 (by simp) rfl).trans (hd ⟨7,.data⟩ (by simp) rfl rfl);have e2:=(hT 53 8 (by simp) rfl).trans (hd ⟨8,.data⟩ (by simp) rfl rfl);exact zav ndP.toLsP rfl (e1) (congrArg some e2) rfl (za1 _ (by omega)) (by omega) ⟨_,rfl,rfl,ze _ _⟩
  case o10=>
    refine LnOp.sd (λA vs w' k hF hT hk hJ hb hu hp hd=>?_);have e1:=(hT 54 9 (by simp) rfl).trans (hd ⟨9,.data⟩ (by simp) rfl rfl);exact zdp (e:=46) rfl (by kernel_rfl) (e1) ⟨_,rfl,rfl,ze _ _⟩
  case o11=>
    refine LnOp.sd (λA vs w' k hF hT hk hJ hb hu hp hd=>?_);have e1:=(hT 51 6 (by simp) rfl).trans (hd ⟨6,.data⟩ (by simp) rfl rfl);have e2:=(hT 55 10 (by simp) rfl).trans (hd ⟨10,.data⟩ (by simp) rfl rfl);exact zbq rfl (e1) (e2) (by omega) (by omega) ⟨_,rfl,congrArg (Value.int .i64) hti,ze _ _⟩
  case o12=>
    refine LnOp.sd (λA vs w' k hF hT hk hJ hb hu hp hd=>?_);have e1:=(hT 56 11 (by simp) rfl).trans (hd ⟨11,.data⟩ (by simp) rfl rfl);exact yV _ rfl ⟨_,rfl,e1,ze _ _⟩
  case fin=>
  intro vs1 w9 q9 hG;have e0:vs1 0=.slice (some ⟨g,0,none⟩) n cap:=hG 0 (by decide) rfl;have e1:vs1 1=.int .i64 (i:Int):=hG 1 (by decide) rfl;have e2:vs1 2=.slice (some ⟨g,0,none⟩) i cap:=hG 2 (by decide) rfl;have e3:vs1 3=.int .i64 (i:Nat):=hG 3 (by decide) rfl;have e4:vs1 4=.slice (some ⟨b,0,none⟩) m m:=hG 4 (by decide) rfl;have e5:vs1 5=.int .i64 (m:Nat):=hG 5 (by decide) rfl;have e6:vs1 6=.int .i64 ((i:Int)+(m:Int)):=hG 6 (by decide) rfl;have e7:vs1 7=.slice (some ⟨g,0,none⟩) n cap:=hG 7 (by decide) rfl;have e8:vs1 8=.int .i64 (j:Int):=hG 8 (by decide) rfl;have e9:vs1 9=.slice (some ⟨g,0+j*3,none⟩) (n-j) (cap-j):=hG 9 (by decide) rfl;have e10:vs1 10=.int .i64 ((n-j):Nat):=hG 10 (by decide) rfl;have e11:vs1 11=.int .i64 (t:Int):=hG 11 (by decide) rfl;have e12:vs1 12=.int .i64 (t:Int):=hG 12 (by decide) rfl;simp only[zaj,e0,e1,e2,e3,e4,e5,e6,e7,e8,e9,e10,e11,e12];clear hG e0 e1 e2 e3 e4 e5 e6 e7 e8 e9 e10 e11 e12;replace hv:=hv.below q9;replace hb:=(q9.block b hblt).trans hb;replace hg:=(q9.block g hglt).trans hg;replace hcs:=zbp hb;replace hblt:=zm hblt q9.size;replace hglt:=zm hglt q9.size;go_simp;have hov:∀off k kc,(callFunc 182 #[.slice (some ⟨g,off,none⟩) k kc,.slice (some ⟨b,0,none⟩) m m]).run Tryz.prog w9=.ok (.value (.bool false)) w9:=λoff k kc=>
    zi1 (Tb:=4) ndP.toLsP Tryz.func182 (by kernel_rfl) rfl (by kernel_rfl) (by kernel_rfl) hb hg hbg (by rw[hu];omega)
  go_upto_region 22 with(go_big_may;first
    |(refine zbi ndP.toLsP rfl rfl rfl (r:=t) (zax _ (by omega)) ?_)
    |(refine zam ndP.toLsP rfl rfl rfl (l:=i+m) (r:=t) (zas _ (by omega) (by omega)) (by omega) ?_)
    |fail)
  refine zai (K:=λ_ _=>True) (by kernel_rfl) (by kernel_rfl) [9] (by kernel_rfl) [lEq (.slice (some ⟨g,0,none⟩) t cap),lEq (.int .i64 (i:Int)),lEq (.slice (some ⟨b,0,none⟩) m m),lEq (.int .i64 (m:Nat)),lEq (.int .i64 ((i:Int)+(m:Int))),lEq (.slice (some ⟨g,0+(i+m)*3,none⟩) (t-(i+m)) (cap-(i+m))),lEq (.slice (some ⟨g,0,none⟩) n cap),lEq (.int .i64 (j:Int)),lEq (.slice (some ⟨g,0+j*3,none⟩) (n-j) (cap-j)),lAny] (λl W=>Trd (·=g) w9 W/\W.heap[g]?=some (.cells (match l with|[]=>cur|_::_=>(cur.toList.take (0+(i+m)*3)++vs.drop (j*3)++cur.toList.drop (0+(i+m)*3+(vs.drop (j*3)).length)).toArray) 46 (0,0))) (λl A B h hb=>⟨h.1.trans (Trd.of (F:=(·=g)) hb) (λ_ _ h=>h),(hb.block _ (zJ.1 h.2).1).trans h.2⟩) ⟨Trd.refl _ _,hg⟩
    ⟨?o0,?o1,?o2,?o3,?o4,?o5,?o6,?o7,?o8,?o9,trivial⟩ ?fin2
  case o0=>
    refine LnOp.sd (λA vs w' k hF hT hk hJ hb hu hp hd=>?_);have e1:A.eval (.tmp 12)=.slice (some ⟨g,0,none⟩) t cap:=hF 12 rfl;exact zu _ rfl ⟨_,rfl,e1,ze _ _⟩
  case o1=>
    refine LnOp.sd (λA vs w' k hF hT hk hJ hb hu hp hd=>?_);have e1:A.eval (.tmp 1)=.int .i64 (i:Int):=hF 1 rfl;exact zu _ rfl ⟨_,rfl,e1,ze _ _⟩
  case o2=>
    refine LnOp.sd (λA vs w' k hF hT hk hJ hb hu hp hd=>?_);have e1:A.eval (.tmp 3)=.slice (some ⟨b,0,none⟩) m m:=hF 3 rfl;exact zu _ rfl ⟨_,rfl,e1,ze _ _⟩
  case o3=>
    refine LnOp.sd (λA vs w' k hF hT hk hJ hb hu hp hd=>?_);have e1:=(hT 123 2 (by simp) rfl).trans (hd ⟨2,.data⟩ (by simp) rfl rfl);exact zdp (e:=46) rfl (by kernel_rfl) (e1) ⟨_,rfl,rfl,ze _ _⟩
  case o4=>
    refine LnOp.sd (λA vs w' k hF hT hk hJ hb hu hp hd=>?_);have e1:=(hT 122 1 (by simp) rfl).trans (hd ⟨1,.data⟩ (by simp) rfl rfl);have e2:=(hT 124 3 (by simp) rfl).trans (hd ⟨3,.data⟩ (by simp) rfl rfl);exact zbq rfl (e1) (e2) (by omega) (by omega) ⟨_,rfl,rfl,ze _ _⟩
  case o5=>
    refine LnOp.sd (λA vs w' k hF hT hk hJ hb hu hp hd=>?_);have e1:=(hT 121 0 (by simp) rfl).trans (hd ⟨0,.data⟩ (by simp) rfl rfl);have e2:=(hT 125 4 (by simp) rfl).trans (hd ⟨4,.data⟩ (by simp) rfl rfl);exact zav ndP.toLsP rfl (e1) (congrArg some e2) rfl (zas _ (by omega) (by omega)) (by omega) ⟨_,rfl,rfl,ze _ _⟩
  case o6=>
    refine LnOp.sd (λA vs w' k hF hT hk hJ hb hu hp hd=>?_);have e1:A.eval (.tmp 0)=.slice (some ⟨g,0,none⟩) n cap:=hF 0 rfl;exact zu _ rfl ⟨_,rfl,e1,ze _ _⟩
  case o7=>
    refine LnOp.sd (λA vs w' k hF hT hk hJ hb hu hp hd=>?_);have e1:A.eval (.tmp 2)=.int .i64 (j:Int):=hF 2 rfl;exact zu _ rfl ⟨_,rfl,e1,ze _ _⟩
  case o8=>
    refine LnOp.sd (λA vs w' k hF hT hk hJ hb hu hp hd=>?_);have e1:=(hT 127 6 (by simp) rfl).trans (hd ⟨6,.data⟩ (by simp) rfl rfl);have e2:=(hT 128 7 (by simp) rfl).trans (hd ⟨7,.data⟩ (by simp) rfl rfl);exact zav ndP.toLsP rfl (e1) (congrArg some e2) rfl (zas _ (by omega) (by omega)) (by omega) ⟨_,rfl,rfl,ze _ _⟩
  case o9=>
    refine LnOp.line 0 rfl rfl (λA va w' hF hT hJ hu hd=>?_);have e1:=(hT 126 5 (by simp) rfl).trans (hd ⟨5,.data⟩ (by simp) rfl rfl);have e2:=(hT 129 8 (by simp) rfl).trans (hd ⟨8,.data⟩ (by simp) rfl rfl);refine zd3 ndP.toLsP rfl e1 e2 hJ.2 (cs:=vs.drop (j*3)) (by rw[hdl,yi (by omega)]) (λq u hj=>?_) (λu hu=>hv.2 u (yM hu)) ?_ ?_
    · rw[xR,<-hct,xG]at hj
      split at hj
      · rw[zN,zR]
        have h5:w'.heap[g]?=some (.cells cur 46 (0,0)):=hJ.2;simpa [World.cell?,h5,<-Array.getElem?_toList]using hj
      ·cases hj
    · show 0+(i+m)*3+(vs.drop (j*3)).length<=cur.size
      rw[hcs1,hdl];omega
    · intro W3 hg3 hgr3
      exact⟨_,rfl,⟨hJ.1.trans (Trd.ofGrown (F:=(·=g)) hgr3 λk hk=>by injection hk with hk;exact hk.symm) (λ_ _ h=>h),hg3⟩,trivial⟩
  case fin2=>
  intro vs1 W3 hJ hG;have e0:vs1 0=.slice (some ⟨g,0,none⟩) t cap:=hG 0 (by decide) rfl;have e1:vs1 1=.int .i64 (i:Int):=hG 1 (by decide) rfl;have e2:vs1 2=.slice (some ⟨b,0,none⟩) m m:=hG 2 (by decide) rfl;have e3:vs1 3=.int .i64 (m:Nat):=hG 3 (by decide) rfl;have e4:vs1 4=.int .i64 ((i:Int)+(m:Int)):=hG 4 (by decide) rfl;have e5:vs1 5=.slice (some ⟨g,0+(i+m)*3,none⟩) (t-(i+m)) (cap-(i+m)):=hG 5 (by decide) rfl;have e6:vs1 6=.slice (some ⟨g,0,none⟩) n cap:=hG 6 (by decide) rfl;have e7:vs1 7=.int .i64 (j:Int):=hG 7 (by decide) rfl;have e8:vs1 8=.slice (some ⟨g,0+j*3,none⟩) (n-j) (cap-j):=hG 8 (by decide) rfl;simp only[zaj,e0,e1,e2,e3,e4,e5,e6,e7,e8];clear hG e0 e1 e2 e3 e4 e5 e6 e7 e8;obtain⟨C1,hC1⟩:∃C1:Array Value,C1=(cur.toList.take (0+(i+m)*3)++vs.drop (j*3)++cur.toList.drop (0+(i+m)*3+(vs.drop (j*3)).length)).toArray:=⟨_,rfl⟩;have hg3:W3.heap[g]?=some (.cells C1 46 (0,0)):=by rw[hC1];exact hJ.2
  have hC1s:C1.size=cap*3:=by
    rw[hC1];simp only[yj,zC,zp,zF,yo,hcs1,hv.len];omega
  have hcs3:∀(q:Nat) (u:Value),us[q]?=some u->W3.cell? (Addr.add ⟨b,0,none⟩ q)=some u:=λq u hj=>by
    have:=hcs q u hj;rw[zN]at this⊢;exact(zag (hJ.1.block b hblt hbg) _).trans this
  go_simp;go_wp2_with(go_big_may;first
    |(refine zam ndP.toLsP rfl rfl rfl (l:=i) (r:=t) (za1 _ (by omega)) (by omega) ?_)
    |(refine zco ndP.toLsP rfl rfl rfl rfl hg3 (cs:=us) (by rw[yi (by omega)];exact hu) hcs3 hu1 (by rw[hC1s,hu];omega) ?_;intro W4 hg4 hgr4)
    |fail)
  go_ret;have q4:Trd (·=g) w9 W4:=hJ.1.trans (Trd.ofGrown (F:=(·=g)) hgr4 λk hk=>by injection hk with hk;exact hk.symm) (λ_ _ h=>h);refine⟨_,rfl,RowQ.of hg4 (by omega) hcm ?_ ?_ ?_,?_,.inl rfl⟩
  · simp only[yj,zC,zp,zF,yo,hC1s,hu]
    omega
  · have:=ztb (cur:=cur.toList) (us:=us) (ws:=vs.drop (j*3)) (Y:=cur.toList.drop ((i+m)*3+(vs.drop (j*3)).length)) (p:=i*3) (r:=m*3) (by rw[yo,hcs1];omega) hu
    rw[<-zT]at this;have e6:vs.take (i*3)=cur.toList.take (i*3):=by rw[<-hct,xJ,yi (by omega)]
    rw[show t*3=(i+m)*3+(vs.drop (j*3)).length by rw[hdl,<-zT];congr 1;omega,hC1,e6];simp only[zR]at this⊢;exact this
  · intro u hu
    rcases zV.1 hu with h|h
    · rcases zV.1 h with h|h
      ·exact hv.2 u (y7 h)
      ·exact hu1 u h
    ·exact hv.2 u (yM h)
  ·exact⟨q4.os.trans q9.os,q4.tape.trans q9.tape,q4.output.trans q9.output,zv q9.size q4.size,λk hk hn=>(q4.block k (zm hk q9.size) λh=>hn (by rw[h];rfl)).trans (q9.block k hk)⟩
theorem zmk (w:World){v:Value}{n i j b m:Nat}{jz:Int}{vs us:List Value}(hv:RowQ 46 3 w v n vs)(hj:jz=(j:Int))(hij:i<j)(hjn:j<=n)(hn:n+m<=1000000)(hm:0<m)(hb:w.heap[b]?=some (.cells us.toArray 46 (0,0)))(hu:us.length=m*3)(hu1:∀u∈us,u.oneCell'=true)(hbg:v.ownBlock≠some b)(hne:i+m≠j):Calls Tryz.prog 164 #[v,.int .i64 i,.int .i64 jz,.slice (some ⟨b,0,none⟩) m m] w (zdo 46 3 w v (i+m+(n-j)) (vs.take (i*3)++us++vs.drop (j*3))):=by
  subst hj;rcases hv.cases with⟨_,h2,_⟩|⟨g,cap,cur,rfl,_,h3,_⟩
  ·omega
  · have hbg':b≠g:=λe=>hbg (by rw[e];rfl)
    rcases zA j n with h|h
    · rcases zA (i+m) j with h4|h4
      ·exact zkv w hv hij hjn hn hm hb hu hu1 hbg' h h4
      · rcases zA cap (i+m+(n-j))with h5|h5
        ·exact zkw w hv hij hjn hn hm hb hu hu1 hbg' h h5
        ·exact zku w hv hij hjn hn hm hb hu hu1 hbg' h (by omega) h5
    · rcases zA (i+m) n with h4|h4
      ·exact zkx w hv hij hjn hn hm hb hu hu1 hbg' (by omega) h4
      ·exact zml w hv hij hjn hn hm hb hu hu1 hbg' (by omega) h4
def J3 (A B C:World->Value->World->Prop)(w1:World)(bx:Nat):List Value->World->Prop
 |[],W=>Below w1.heap.size w1 W
 |[a],W=>A w1 a W
 |[a,b],W=>∃Wa,A w1 a Wa/\B Wa b W
 |[a,b,c],W=>∃Wa Wb,A w1 a Wa/\B Wa b Wb/\C Wb c W
 |_,W=>∃x y z Wa Wb Wc,A w1 x Wa/\B Wa y Wb/\C Wb z Wc/\TriV W bx 46 x y z/\Trd (·=bx) Wc W
structure Mk(A:World->Value->World->Prop):Prop where
 base:∀{w v W},A w v W->Below w.heap.size w W
 more:∀{w v W W'},A w v W->Below W.heap.size W W'->A w v W'
 one:∀{w v W},A w v W->v.oneCell'=true/\v.cells=#[v]
section
variable {A B C : World → Value → World → Prop} (hA : Mk A) (hB : Mk B) (hC : Mk C) {w1 : World} {bx : Nat}
include hA hB hC
theorem J3.below3 {a b c : Value} {W : World} (h : J3 A B C w1 bx [a, b, c] W) : Below w1.heap.size w1 W := by
  obtain ⟨Wa, Wb, h1, h2, h3⟩ := h
  have q1 := hA.base h1
  have q2 := q1.trans ((hB.base h2).mono q1.size)
  exact q2.trans ((hC.base h3).mono q2.size)
omit hC in
theorem J3.below2{a b:Value}{W:World}(h:J3 A B C w1 bx [a,b] W):Below w1.heap.size w1 W:=by
 obtain⟨Wa,h1,h2⟩:=h;have q1:=hA.base h1;exact q1.trans ((hB.base h2).mono q1.size)
theorem J3.trd:∀{l:List Value}{W:World},J3 A B C w1 bx l W->Trd (·=bx) w1 W
 |[],_,h=>Trd.of h
 |[_],_,h=>Trd.of (hA.base h)
 |[_,_],_,h=>Trd.of (J3.below2 hA hB h)
 |[_,_,_],_,h=>Trd.of (J3.below3 hA hB hC h)
 |_::_::_::_::_,_,⟨x,y,z,Wa,Wb,_,h1,h2,h3,_,h⟩=>(Trd.of (J3.below3 hA hB hC (bx:=bx) (a:=x) (b:=y) (c:=z) ⟨Wa,Wb,h1,h2,h3⟩)).trans h λ_ _ h=>h
theorem J3.more:∀(l:List Value)(W W':World),J3 A B C w1 bx l W->Below W.heap.size W W'->J3 A B C w1 bx l W'
 |[],_,_,h,hb=>y8 h (hb.mono (y9 h))
 |[_],_,_,h,hb=>hA.more h hb
 |[_,_],_,_,⟨Wa,h1,h2⟩,hb=>⟨Wa,h1,hB.more h2 hb⟩
 |[_,_,_],_,_,⟨Wa,Wb,h1,h2,h3⟩,hb=>⟨Wa,Wb,h1,h2,hC.more h3 hb⟩
 |_::_::_::_::_,_,_,⟨x,y,z,Wa,Wb,Wc,h1,h2,h3,h4,h5⟩,hb=>⟨x,y,z,Wa,Wb,Wc,h1,h2,h3,h4.below hb h4.lt,h5.trans (Trd.of (F:=(·=bx)) hb) λ_ _ h=>h⟩
end
def g3 (A B C:World->Value->World->Prop)(w1:World)(bx:Nat):SGn (λX Y=>Trd (·=bx) X Y):=
 ⟨λW v=>∃x y z Wa Wb Wc,v=.agg #[x,y,z]/\A w1 x Wa/\B Wa y Wb/\C Wb z Wc/\Trd (·=bx) Wc W,λ_ _ _ ⟨x,y,z,Wa,Wb,Wc,e,h1,h2,h3,h4⟩hb=>⟨x,y,z,Wa,Wb,Wc,e,h1,h2,h3,h4.trans (Trd.of (F:=(·=bx)) hb) λ_ _ h=>h⟩,
  λ_ _ _ ⟨x,y,z,Wa,Wb,Wc,e,h1,h2,h3,h4⟩hk=>⟨x,y,z,Wa,Wb,Wc,e,h1,h2,h3,h4.trans hk λ_ _ h=>h⟩⟩
theorem ztz (Te:TypeId)(sz n:Nat)(cs:List Value):Mk λw v W=>za9 Te sz w v n cs W:=⟨λh=>h.2.2,λh hb=>h.below hb,λh=>by
 obtain⟨_,_,rfl,_⟩:=h.1.shape;exact⟨rfl,rfl⟩⟩
structure New3 (w:World)(x y z:Value)(n1:Nat)(cs1:List Value)(n2:Nat)(cs2:List Value)(n3:Nat)(cs3:List Value)(W:World):Prop where
 ky:za9 23 1 w x n1 cs1 W
 ch:za9 102 1 w y n2 cs2 W
 kd:za9 46 3 w z n3 cs3 W
 nd:(zak x++zak y++zak z).Nodup
theorem New3.of{w w1 Wa Wb Wc W:World}{bx:Nat}{x y z:Value}{n1 n2 n3:Nat}{cs1 cs2 cs3:List Value}(hw:Below w.heap.size w w1)(hbx:w.heap.size<=bx)(hbx1:bx<w1.heap.size)(h1:za9 23 1 w1 x n1 cs1 Wa)(h2:za9 102 1 Wa y n2 cs2 Wb)(h3:za9 46 3 Wb z n3 cs3 Wc)(hk:Trd (·=bx) Wc W):New3 w x y z n1 cs1 n2 cs2 n3 cs3 W:=by
  have s0:=hw.size;have s1:=h1.2.2.size;have s2:=h2.2.2.size;have s3:=h3.2.2.size;have lx:∀k,x.ownBlock=some k->w1.heap.size<=k/\k<Wa.heap.size:=λk hk=>⟨h1.2.1 k hk,h1.1.lt hk⟩
  have ly:∀k,y.ownBlock=some k->Wa.heap.size<=k/\k<Wb.heap.size:=λk hk=>⟨h2.2.1 k hk,h2.1.lt hk⟩
  have lz:∀k,z.ownBlock=some k->Wb.heap.size<=k/\k<Wc.heap.size:=λk hk=>⟨h3.2.1 k hk,h3.1.lt hk⟩
  have q:Below w.heap.size w W:=by
    have qc:Below w.heap.size w Wc:=hw.trans ((h1.2.2.trans ((h2.2.2.trans (h3.2.2.mono h2.2.2.size)).mono h1.2.2.size)).mono hw.size);exact qc.trans (hk.below qc.size λk hk=>by omega)
  refine⟨⟨?_,λk hk=>by have:=lx k hk;omega,q⟩,⟨?_,λk hk=>by have:=ly k hk;omega,q⟩,⟨?_,λk hk=>by have:=lz k hk;omega,q⟩,?_⟩
  ·exact((h1.1.below (h2.2.2)).below h3.2.2).trd hk λk hk=>by have:=lx k hk;omega
  ·exact(h2.1.below h3.2.2).trd hk λk hk=>by have:=ly k hk;omega
  ·exact h3.1.trd hk λk hk=>by have:=lz k hk;omega
  · simp only[List.nodup_append,zjk,zV,zch,true_and]
    refine⟨λa ha b hb e=>by have:=lx a ha;have:=ly b hb;omega,λa ha b hb e=>?_⟩;have:=lz b hb;rcases ha with ha|ha
    ·have:=lx a ha;omega
    ·have:=ly a ha;omega
theorem zpu(w:World){v1 v2 v3:Value}{n1 n2 n3 i j:Nat}{iz:Int}{us1 us2 us3:List Value}(h1:RowQ 23 1 w v1 n1 us1) (h2:RowQ 102 1 w v2 n2 us2) (h3:RowQ 46 3 w v3 n3 us3) (hiz:iz=(i:Int))(hij:i<=j)(hn1:n1<=1000000)(hn2:n2<=1000000)(hn3:n3<=1000000)(hj:j<=1000000):Calls Tryz.prog 165 #[.agg #[v1,v2,v3],.int .i64 iz,.int .i64 j] w λe W=>∃x y z,e=.returned (.agg #[x,y,z])/\New3 w x y z (min j n1-min i n1) ((us1.take (min j n1*1)).drop (min i n1*1)) (min j n2-min i n2) ((us2.take (min j n2*1)).drop (min i n2*1)) (min (j+1) n3-min i n3) ((us3.take (min (j+1) n3*3)).drop (min i n3*3)) W:=by
 subst hiz;obtain⟨a1,c1,rfl,_,_⟩:=h1.shape;obtain⟨a2,c2,rfl,_,_⟩:=h2.shape;obtain⟨a3,c3,rfl,_,_⟩:=h3.shape;obtain⟨W,hW,q,bn,bz,hsz⟩:=zdk w 46 (.slice a1 n1 c1) (.slice a2 n2 c2) (.slice a3 n3 c3) (.slice none 0 0) (.slice none 0 0) (.slice none 0 0);have ek:∀args w,(callFunc 185 args).run Tryz.prog w=.ok (.enter 185 args) w:=enters_of Tryz.func185 (by kernel_rfl) rfl;have ec:∀args w,(callFunc 186 args).run Tryz.prog w=.ok (.enter 186 args) w:=enters_of Tryz.func186 (by kernel_rfl) rfl;have en:∀args w,(callFunc 187 args).run Tryz.prog w=.ok (.enter 187 args) w:=enters_of Tryz.func187 (by kernel_rfl) rfl;obtain⟨m1,hm1⟩:∃m,m=min j n1-min i n1:=⟨_,rfl⟩;obtain⟨m2,hm2⟩:∃m,m=min j n2-min i n2:=⟨_,rfl⟩;obtain⟨m3,hm3⟩:∃m,m=min (j+1) n3-min i n3:=⟨_,rfl⟩;obtain⟨cs1,hcs1⟩:∃cs,cs=(us1.take (min j n1*1)).drop (min i n1*1):=⟨_,rfl⟩;obtain⟨cs2,hcs2⟩:∃cs,cs=(us2.take (min j n2*1)).drop (min i n2*1):=⟨_,rfl⟩;obtain⟨cs3,hcs3⟩:∃cs,cs=(us3.take (min (j+1) n3*3)).drop (min i n3*3):=⟨_,rfl⟩;rw[<-hm1,<-hm2,<-hm3,<-hcs1,<-hcs2,<-hcs3];have H1:∀W',Below w.heap.size w W'->Calls Tryz.prog 185 #[.slice a1 n1 c1,.int .i64 i,.int .i64 j] W' (zdy 23 1 W' m1 cs1):=λW' hb=>by rw[hm1,hcs1];exact cut_k W' (h1.below hb) rfl hij hn1
 have H2:∀W',Below w.heap.size w W'->Calls Tryz.prog 186 #[.slice a2 n2 c2,.int .i64 i,.int .i64 j] W' (zdy 102 1 W' m2 cs2):=λW' hb=>by rw[hm2,hcs2];exact cut_c W' (h2.below hb) rfl hij hn2
 have H3:∀W',Below w.heap.size w W'->Calls Tryz.prog 187 #[.slice a3 n3 c3,.int .i64 i,.int .i64 ((j:Int)+1)] W' (zdy 46 3 W' m3 cs3):=λW' hb=>by rw[hm3,hcs3];exact cut_n W' (h3.below hb) (j:=j+1) rfl (by omega) hn3
 clear hm1 hm2 hm3 hcs1 hcs2 hcs3;have A1:=ztz 23 1 m1 cs1;have A2:=ztz 102 1 m2 cs2;have A3:=ztz 46 3 m3 cs3;go_enter Tryz.func165,Tryz.ntmps165;go_upto_region 1 with(fail);rw[<-hW];clear hW;have hRD:∀l W',J3 (λw v W=>za9 23 1 w v m1 cs1 W) (λw v W=>za9 102 1 w v m2 cs2 W) (λw v W=>za9 46 3 w v m3 cs3 W) W (w.heap.size+1) l W'->TriV W' w.heap.size 46 (.slice a1 n1 c1) (.slice a2 n2 c2) (.slice a3 n3 c3):=λl W' h=>((J3.trd A1 A2 A3 h).block _ (by omega) (by omega)).trans bn
 refine zai (K:=λA B=>Trd (·=w.heap.size+1) A B) (by kernel_rfl) (by kernel_rfl) [4,9,15,17] (by kernel_rfl) [lEq (.pointer (some ⟨w.heap.size,0+0,none⟩)),lEq (.slice a1 n1 c1),lEq (.int .i64 (i:Int)),lEq (.int .i64 (j:Int)),lAny,lEq (.pointer (some ⟨w.heap.size,0+1,none⟩)),lEq (.slice a2 n2 c2),lEq (.int .i64 (i:Int)),lEq (.int .i64 (j:Int)),lAny,lEq (.pointer (some ⟨w.heap.size,0+2,none⟩)),lEq (.slice a3 n3 c3),lEq (.int .i64 (i:Int)),lEq (.int .i64 (j:Int)),lEq (.int .i64 ((j:Int)+1)),lAny,g3 (λw v W=>za9 23 1 w v m1 cs1 W) (λw v W=>za9 102 1 w v m2 cs2 W) (λw v W=>za9 46 3 w v m3 cs3 W) W (w.heap.size+1),lAny] (J3 (λw v W=>za9 23 1 w v m1 cs1 W) (λw v W=>za9 102 1 w v m2 cs2 W) (λw v W=>za9 46 3 w v m3 cs3 W) W (w.heap.size+1)) (J3.more A1 A2 A3) (show Below W.heap.size W W from ze _ _)
  ⟨?o0,?o1,?o2,?o3,?o4,?o5,?o6,?o7,?o8,?o9,?o10,?o11,?o12,?o13,?o14,?o15,?o16,?o17,trivial⟩ ?fin
 case o0=>
  refine LnOp.sd (λA va w' k hF hT hk hJ hb hu hp hd=>?_);have e1:A.eval (.tmp 3)=.pointer (some ⟨w.heap.size,0,none⟩):=hF 3 rfl;exact zaf ndS rfl (e1) (by omega) ⟨_,rfl,rfl,ze _ _⟩
 case o1=>
  refine LnOp.sd (λA va w' k hF hT hk hJ hb hu hp hd=>?_);have e1:=(hT 7 0 (by simp) rfl).trans (hd ⟨0,.data⟩ (by simp) rfl rfl);exact zae (e:=23) rfl (e1) (by kernel_rfl) ((hRD _ _ hJ).cell0) ⟨_,rfl,rfl,ze _ _⟩
 case o2=>
  refine LnOp.sd (λA va w' k hF hT hk hJ hb hu hp hd=>?_);have e1:A.eval (.tmp 1)=.int .i64 (i:Int):=hF 1 rfl;exact zu _ rfl ⟨_,rfl,e1,ze _ _⟩
 case o3=>
  refine LnOp.sd (λA va w' k hF hT hk hJ hb hu hp hd=>?_);have e1:A.eval (.tmp 2)=.int .i64 (j:Int):=hF 2 rfl;exact zu _ rfl ⟨_,rfl,e1,ze _ _⟩
 case o4=>
  refine LnOp.line 0 rfl rfl (λA va w' hF hT hJ hu hd=>?_);have e1:=(hT 8 1 (by simp) rfl).trans (hd ⟨1,.data⟩ (by simp) rfl rfl);have e2:=(hT 9 2 (by simp) rfl).trans (hd ⟨2,.data⟩ (by simp) rfl rfl);have e3:=(hT 10 3 (by simp) rfl).trans (hd ⟨3,.data⟩ (by simp) rfl rfl);have hJ':Below W.heap.size W w':=hJ;refine zah rfl ek (by simp only[zE,zn,zo,e1,e2,e3]) ((H1 w' (q.trans (hJ'.mono q.size))).mono ?_);rintro e W4⟨v,rfl,hc⟩;exact⟨_,rfl,_,rfl,⟨hc.1,λk hk=>zv hJ'.size (hc.2.1 k hk),hJ'.trans (hc.2.2.mono hJ'.size)⟩,Trd.of hc.2.2⟩
 case o5=>
  refine LnOp.sd (λA va w' k hF hT hk hJ hb hu hp hd=>?_);have e1:A.eval (.tmp 3)=.pointer (some ⟨w.heap.size,0,none⟩):=hF 3 rfl;exact zaf ndS rfl (e1) (by omega) ⟨_,rfl,rfl,ze _ _⟩
 case o6=>
  refine LnOp.sd (λA va w' k hF hT hk hJ hb hu hp hd=>?_);have e1:=(hT 12 5 (by simp) rfl).trans (hd ⟨5,.data⟩ (by simp) rfl rfl);exact zae (e:=102) rfl (e1) (by kernel_rfl) ((hRD _ _ hJ).cell1) ⟨_,rfl,rfl,ze _ _⟩
 case o7=>
  refine LnOp.sd (λA va w' k hF hT hk hJ hb hu hp hd=>?_);have e1:A.eval (.tmp 1)=.int .i64 (i:Int):=hF 1 rfl;exact zu _ rfl ⟨_,rfl,e1,ze _ _⟩
 case o8=>
  refine LnOp.sd (λA va w' k hF hT hk hJ hb hu hp hd=>?_);have e1:A.eval (.tmp 2)=.int .i64 (j:Int):=hF 2 rfl;exact zu _ rfl ⟨_,rfl,e1,ze _ _⟩
 case o9=>
  refine LnOp.line 1 rfl rfl (λA va w' hF hT hJ hu hd=>?_);have e1:=(hT 13 6 (by simp) rfl).trans (hd ⟨6,.data⟩ (by simp) rfl rfl);have e2:=(hT 14 7 (by simp) rfl).trans (hd ⟨7,.data⟩ (by simp) rfl rfl);have e3:=(hT 15 8 (by simp) rfl).trans (hd ⟨8,.data⟩ (by simp) rfl rfl);have hJ':Below W.heap.size W w':=A1.base hJ;refine zah rfl ec (by simp only[zE,zn,zo,e1,e2,e3]) ((H2 w' (q.trans (hJ'.mono q.size))).mono ?_);rintro e W4⟨v,rfl,hc⟩;exact⟨_,rfl,_,rfl,⟨w',hJ,hc⟩,Trd.of hc.2.2⟩
 case o10=>
  refine LnOp.sd (λA va w' k hF hT hk hJ hb hu hp hd=>?_);have e1:A.eval (.tmp 3)=.pointer (some ⟨w.heap.size,0,none⟩):=hF 3 rfl;exact zaf ndS rfl (e1) (by omega) ⟨_,rfl,rfl,ze _ _⟩
 case o11=>
  refine LnOp.sd (λA va w' k hF hT hk hJ hb hu hp hd=>?_);have e1:=(hT 17 10 (by simp) rfl).trans (hd ⟨10,.data⟩ (by simp) rfl rfl);exact zae (e:=46) rfl (e1) (by kernel_rfl) ((hRD _ _ hJ).cell2) ⟨_,rfl,rfl,ze _ _⟩
 case o12=>
  refine LnOp.sd (λA va w' k hF hT hk hJ hb hu hp hd=>?_);have e1:A.eval (.tmp 1)=.int .i64 (i:Int):=hF 1 rfl;exact zu _ rfl ⟨_,rfl,e1,ze _ _⟩
 case o13=>
  refine LnOp.sd (λA va w' k hF hT hk hJ hb hu hp hd=>?_);have e1:A.eval (.tmp 2)=.int .i64 (j:Int):=hF 2 rfl;exact zu _ rfl ⟨_,rfl,e1,ze _ _⟩
 case o14=>
  refine LnOp.sd (λA va w' k hF hT hk hJ hb hu hp hd=>?_);have e1:=(hT 20 13 (by simp) rfl).trans (hd ⟨13,.data⟩ (by simp) rfl rfl);exact zbq rfl (e1) (rfl) (by omega) (by omega) ⟨_,rfl,rfl,ze _ _⟩
 case o15=>
  refine LnOp.line 2 rfl rfl (λA va w' hF hT hJ hu hd=>?_);have e1:=(hT 18 11 (by simp) rfl).trans (hd ⟨11,.data⟩ (by simp) rfl rfl);have e2:=(hT 19 12 (by simp) rfl).trans (hd ⟨12,.data⟩ (by simp) rfl rfl);have e3:=(hT 21 14 (by simp) rfl).trans (hd ⟨14,.data⟩ (by simp) rfl rfl);have hJ':Below W.heap.size W w':=J3.below2 A1 A2 hJ;refine zah rfl en (by simp only[zE,zn,zo,e1,e2,e3]) ((H3 w' (q.trans (hJ'.mono q.size))).mono ?_);rintro e W4 ⟨v,rfl,hc⟩;obtain⟨Wa,hJ1,hJ2⟩:=hJ;exact⟨_,rfl,_,rfl,⟨Wa,w',hJ1,hJ2,hc⟩,Trd.of hc.2.2⟩
 case o16=>
  refine LnOp.sd (λA va w' k hF hT hk hJ hb hu hp hd=>?_);have x1:A.eval (.tmp 11)=va 4:=hT 11 4 (by simp) rfl;have x2:A.eval (.tmp 16)=va 9:=hT 16 9 (by simp) rfl;have x3:A.eval (.tmp 22)=va 15:=hT 22 15 (by simp) rfl;obtain rfl:k=3:=by
   have h1:=hp ⟨15,.data⟩ (by simp) rfl 2 rfl;have h2:=hb 3 17 rfl (by kernel_rfl);omega
  obtain⟨Wa,Wb,hJ1,hJ2,hJ3⟩:=hJ;exact zfh ndS rfl x1 x2 x3 (A1.one hJ1).2 (A2.one hJ2).2 (A3.one hJ3).2 ⟨_,rfl,⟨_,_,_,Wa,Wb,w',rfl,hJ1,hJ2,hJ3,Trd.refl _ _⟩,ze _ _⟩
 case o17=>
  refine LnOp.line 3 rfl rfl (λA va w' hF hT hJ hu hd=>?_);have e1:A.eval (.tmp 6)=.pointer (some ⟨w.heap.size+1,0,none⟩):=hF 6 rfl;have x2:A.eval (.tmp 23)=va 16:=hT 23 16 (by simp) rfl;have y2:=hd ⟨16,.data⟩ (by simp) rfl rfl;obtain⟨x,y,z,Wa,Wb,Wc,e,hJ1,hJ2,hJ3,hk⟩:=y2;have hq:=J3.below3 A1 A2 A3 hJ;refine zcm rfl e1 (x2.trans e) (A1.one hJ1).1 (A2.one hJ2).1 (A3.one hJ3).1 (bz.below hq (by omega)) (λw2 hg ht=>?_);have hk2:Trd (·=w.heap.size+1) w' w2:=Trd.ofGrown (F:=(·=w.heap.size+1)) hg λk hk=>by injection hk with hk;exact hk.symm
  exact⟨_,rfl,⟨x,y,z,Wa,Wb,Wc,hJ1,hJ2,hJ3,ht,hk.trans hk2 λ_ _ h=>h⟩,hk2⟩
 case fin=>
  intro vs1 W9 hJ hG;obtain⟨x,y,z,Wa,Wb,Wc,r1,r2,r3,ht,hk⟩:=hJ;have hN:=New3.of q (Nat.le_succ _) (by omega) r1 r2 r3 hk;clear hG;simp only[zaj];go_simp;go_wp2_with fail;obtain⟨fs,hu,_⟩:=ndS.hu;exact zD (v:=.agg #[x,y,z]) (by simp[results,Tryz.results165,go_sem,loadVar,isAgg,zr hu,zaa ndS.hs,loadCellsFrom,Addr.add,ht.cell0,ht.cell1,ht.cell2]) rfl ⟨x,y,z,rfl,hN⟩
end Go.Proofs.YtkobhdllagbkhaaGreat
