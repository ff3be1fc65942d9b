/-
  TEXTS OF ONE PROOF, merged: TreQ, TreR.
-/
import Derived.Test.YtlpfhgdnmjkngaaGreatKv6
namespace Go.Proofs.YtlpfhgdnmjkngaaGreat
set_option maxRecDepth 100000
set_option maxHeartbeats 32000000
def zbn:List (List Pr)→List Pr→List Pr
 | [],ks=>ks
 | p::_,[]=>p
 | p::ps,k::ks=>p++k::zbn ps ks
def pre:List (List Pr)→List Pr→List Pr
 | p::ps,k::ks=>p++k::pre ps ks
 | _,_=>[]
def suf:List Pr→List (List Pr)→List Pr
 | [],_=>[]
 | k::ks,B=>k::zbn B ks
theorem zca (x:List Pr) (B:List (List Pr)):∀ K:List Pr,zbn (x::B) K=x++suf K B
 | []=>by simp [zbn,suf]
 | k::ks=>by simp [zbn,suf]
theorem zeb:∀ {A:List (List Pr)} {K1:List Pr},A.length=K1.length→∀ (x:List Pr) (B:List (List Pr)) (K2:List Pr),zbn (A++x::B) (K1++K2)=pre A K1++x++suf K2 B
 | [],[],_,x,B,K2=>by rw [List.nil_append,List.nil_append,zca];simp [pre]
 | p::ps,k::ks,h,x,B,K2=>by
  have ih:=zeb (A:=ps) (K1:=ks) (by simpa using h) x B K2
  simp only [List.cons_append,zbn,pre,ih,List.append_assoc]
theorem zdq:∀ {P1:List (List Pr)} {k1:List Pr},P1.length=k1.length+1→∀ (P2:List (List Pr)) (s:Pr) (k2:List Pr),zbn (P1++P2) (k1++s::k2)=zbn P1 k1++s::zbn P2 k2
 | [p],[],_,P2,s,k2=>by simp [zbn]
 | _::_::_,[],h,_,_,_=>by simp at h
 | p::ps,k::ks,h,P2,s,k2=>by
  have ih:=zdq (P1:=ps) (k1:=ks) (by simpa using h) P2 s k2
  simp only [List.cons_append,zbn,ih,List.append_assoc]
def kpN(n:Nd):List Pr:=List.zipWith Pr.mk n.keys n.chains
def psN (n:Nd):List (List Pr):=n.kids.map zaa
theorem zbd {n:Nd}(h:n.chains.length=n.keys.length):(kpN n).length=n.keys.length:=by
 unfold kpN
 rw [List.length_zipWith,h,Nat.min_self]
theorem zdp {n : Nd} (h : n.chains.length = n.keys.length) {i : Nat} (hi : i < n.keys.length) : (kpN n)[i]? = some ⟨n.keys[i],n.chains[i]'(by omega)⟩ := by
 unfold kpN
 rw [List.getElem?_zipWith,List.getElem?_eq_getElem hi,List.getElem?_eq_getElem (by omega : i < n.chains.length)]
theorem wv_inter {ks:List (List UInt8)} {cs:List (List Ver)} (hc:cs.length=ks.length):∀ (ps:List (List Pr)),ps.length=ks.length+1→∀ i,i≤ks.length→wv ps ks cs i=pre (ps.take i) ((List.zipWith Pr.mk ks cs).take i):=by
 intro ps hp i
 induction i with
 | zero=>intro _;simp [wv,pre]
 | succ i ih =>
  intro hi
  have hl1:i<ps.length:=by omega
  have hl2:i<(List.zipWith Pr.mk ks cs).length:=by rw [List.length_zipWith];omega
  have e1:ps.getD i []=ps[i]:=by rw [List.getD_eq_getElem?_getD,List.getElem?_eq_getElem hl1];rfl
  have e2:(⟨ks.getD i [],cs.getD i []⟩:Pr)=(List.zipWith Pr.mk ks cs)[i]:=by
   rw [List.getElem_zipWith,List.getD_eq_getElem?_getD,List.getD_eq_getElem?_getD,List.getElem?_eq_getElem (by omega:i<ks.length),List.getElem?_eq_getElem (by omega:i<cs.length)]
   rfl
  rw [wv,ih (by omega),e1,e2,List.take_add_one,List.take_add_one,List.getElem?_eq_getElem hl1,List.getElem?_eq_getElem hl2,Option.toList_some,Option.toList_some]
  have:∀ {A:List (List Pr)} {K:List Pr},A.length=K.length→∀ p k,pre (A++[p]) (K++[k])=pre A K++p++[k]:=by
   intro A
   induction A with
   | nil=>intro K h p k;obtain rfl:K=[]:=List.eq_nil_of_length_eq_zero (by simpa using h.symm);simp [pre]
   | cons a A ih2 =>
    intro K h p k
    cases K with
    | nil=>simp at h
    | cons b K=>simp only [List.cons_append,pre,ih2 (by simpa using h),List.append_assoc]
  rw [this (by rw [List.length_take,List.length_take,List.length_zipWith];omega)]
theorem zaq {n:Nd} (hc:n.chains.length=n.keys.length) (hk:n.kids=[]∨n.kids.length=n.keys.length+1):zaa n=zbn (psN n) (kpN n):=by
 rw [zd8]
 unfold psN
 rcases hk with hk | hk
 ·rw [hk]
  have:∀ i,i≤n.keys.length→wv [] n.keys n.chains i=(kpN n).take i:=by
   intro i
   induction i with
   | zero=>intro _;simp [wv]
   | succ i ih =>
    intro hi
    rw [wv,ih (by omega),List.take_add_one,zdp hc (by omega)]
    simp [List.getD_eq_getElem?_getD,List.getElem?_eq_getElem (by omega:i<n.keys.length),List.getElem?_eq_getElem (by omega:i<n.chains.length)]
  simp only [List.map_nil,zbn,List.length_nil]
  rw [this _ (Nat.le_refl _),List.take_of_length_le (by rw [zbd hc];exact Nat.le_refl _)]
  simp
 ·have hp:(n.kids.map zaa).length=n.keys.length+1:=by rw [List.length_map,hk]
  rw [wv_inter hc _ hp _ (Nat.le_refl _),hk,Nat.add_sub_cancel]
  have hl:n.keys.length<(n.kids.map zaa).length:=by omega
  have e:n.kids.map zaa=(n.kids.map zaa).take n.keys.length++(n.kids.map zaa)[n.keys.length]::[]:=by
   have:=List.drop_eq_getElem_cons hl
   rw [List.drop_of_length_le (i:=n.keys.length+1) (by omega)] at this
   rw [← this,List.take_append_drop]
  have e2:kpN n=(kpN n)++[]:=by simp
  have e3:List.zipWith Pr.mk n.keys n.chains=kpN n:=rfl
  rw [e3,List.take_of_length_le (l:=kpN n) (by rw [zbd hc];exact Nat.le_refl _)]
  conv=>rhs;rw [e,e2]
  rw [zeb (by rw [List.length_take,zbd hc];omega)]
  simp [suf,List.getD_eq_getElem?_getD,List.getElem?_eq_getElem hl]
def Wf:Nat→Nat→Nat→Nd→Prop
 | 0,_,_,_=>False
 | d+1,lo,hi,n=>n.chains.length=n.keys.length∧lo≤n.keys.length∧n.keys.length≤hi∧((d=0∧n.kids=[])∨(0<d∧n.kids.length=n.keys.length+1∧∀ m∈n.kids,Wf d 1 3 m))
theorem Wf.shape {d lo hi:Nat} {n:Nd} (h:Wf d lo hi n):n.chains.length=n.keys.length∧(n.kids=[]∨n.kids.length=n.keys.length+1):=by
 cases d with
 | zero=>exact h.elim
 | succ d=>exact⟨h.1,h.2.2.2.imp (fun h=>h.2) fun h=>h.2.1⟩
theorem Wf.pairs {d lo hi:Nat} {n:Nd} (h:Wf d lo hi n):zaa n=zbn (psN n) (kpN n):=zaq h.shape.1 h.shape.2
theorem Wf.mono {d lo hi lo' hi':Nat} {n:Nd}(h:Wf d lo hi n)(h1:lo'≤n.keys.length)(h2:n.keys.length≤hi'):Wf d lo' hi' n:=by
 cases d with
 | zero=>exact h.elim
 | succ d=>exact⟨h.1,h1,h2,h.2.2.2⟩
theorem Wf.keys {d lo hi:Nat} {n:Nd}(h:Wf d lo hi n):lo≤n.keys.length∧n.keys.length≤hi:=by
 cases d with
 | zero=>exact h.elim
 | succ d=>exact⟨h.2.1,h.2.2.1⟩
theorem Wf.pos {d lo hi:Nat} {n:Nd}(h:Wf d lo hi n):0<d:=by
 cases d with
 | zero=>exact h.elim
 | succ d=>omega
theorem zbz {n:Nd} (hc:n.chains.length=n.keys.length) (hk:n.kids.length=n.keys.length+1) {i:Nat} (hi:i<n.kids.length) :
  zaa n=pre ((psN n).take i) ((kpN n).take i)++zaa n.kids[i]++suf ((kpN n).drop i) ((psN n).drop (i+1)):=by
 rw [zaq hc (.inr hk)]
 have hl:i<(psN n).length:=by unfold psN;rw [List.length_map];exact hi
 have e:psN n=(psN n).take i++(psN n)[i]::(psN n).drop (i+1):=by rw [← List.drop_eq_getElem_cons hl,List.take_append_drop]
 have e2:kpN n=(kpN n).take i++(kpN n).drop i:=(List.take_append_drop _ _).symm
 have hx:(psN n)[i]=zaa n.kids[i]:=List.getElem_map (l:=n.kids) zaa
 conv=>lhs;rw [e,e2]
 rw [zeb (by rw [List.length_take,List.length_take,zbd hc];omega),hx]
def zbl (n:Nd) (i:Nat) (m:Nd):Nd:=.mk n.keys n.chains (n.kids.set i m)
theorem zlh {n:Nd} (hc:n.chains.length=n.keys.length) (hk:n.kids.length=n.keys.length+1) {i:Nat} (hi:i<n.kids.length) (m:Nd) :
  zaa (zbl n i m)=pre ((psN n).take i) ((kpN n).take i)++zaa m++suf ((kpN n).drop i) ((psN n).drop (i+1)):=by
 rw [zbz (n:=zbl n i m) hc (by show (n.kids.set i m).length=_;rw [List.length_set];exact hk) (i:=i) (by show i<(n.kids.set i m).length;rw [List.length_set];exact hi)]
 have e1:(psN (zbl n i m)).take i=(psN n).take i:=by
  show ((n.kids.set i m).map zaa).take i=(n.kids.map zaa).take i
  rw [← List.map_take,← List.map_take,List.take_set_of_le (Nat.le_refl _)]
 have e2:(psN (zbl n i m)).drop (i+1)=(psN n).drop (i+1):=by
  show ((n.kids.set i m).map zaa).drop (i+1)=(n.kids.map zaa).drop (i+1)
  rw [← List.map_drop,← List.map_drop,List.drop_set_of_lt (Nat.lt_succ_self _)]
 have e3:(zbl n i m).kids[i]'(by show i<(n.kids.set i m).length;rw [List.length_set];exact hi)=m:=List.getElem_set_self _
 rw [e1,e2,e3]
 rfl
def noNd:Nd:=.mk [] [] []
def kidN(n:Nd)(i:Nat):Nd:=n.kids.getD i noNd
theorem za3 {n:Nd} {i:Nat}(hi:i<n.kids.length):kidN n i=n.kids[i]:=by
 unfold kidN
 rw [List.getD_eq_getElem?_getD,List.getElem?_eq_getElem hi];rfl
def zbp (n:Nd) (f t:Nat):Nd :=
 .mk ((n.keys.take (min t n.keys.length)).drop (min f n.keys.length)) ((n.chains.take (min t n.chains.length)).drop (min f n.chains.length)) ((n.kids.take (min (t+1) n.kids.length)).drop (min f n.kids.length))
def zbh (n:Nd) (i:Nat):Nd :=
 .mk (n.keys.take i++[(kidN n i).keys.getD ((kidN n i).keys.length / 2) []]++n.keys.drop i) (n.chains.take i++[(kidN n i).chains.getD ((kidN n i).keys.length / 2) []]++n.chains.drop i)
  (n.kids.take i++[zbp (kidN n i) 0 ((kidN n i).keys.length / 2),zbp (kidN n i) ((kidN n i).keys.length / 2+1) (kidN n i).keys.length]++n.kids.drop (i+1))
def oneF (n:Nd) (i:Nat):Nd :=
 .mk ((kidN n i).keys++(n.keys.take (i+1)).drop i++(kidN n (i+1)).keys) ((kidN n i).chains++(n.chains.take (i+1)).drop i++(kidN n (i+1)).chains) ((kidN n i).kids++(kidN n (i+1)).kids)
def za6 (n:Nd) (i:Nat):Nd :=
 .mk (n.keys.take i++n.keys.drop (i+1)) (n.chains.take i++n.chains.drop (i+1)) (n.kids.take i++[oneF n i]++n.kids.drop (i+2))
def zay (n:Nd) (i:Nat):Nd :=
 let n1:=if (kidN n i).keys.length<1 then za6 n (i - 1) else n
 let i1:=if (kidN n i).keys.length<1 then i - 1 else i
 if 3<(kidN n1 i1).keys.length then zbh n1 i1 else n1
structure Wk (d:Nat) (n:Nd) (i lo hi:Nat):Prop where
 ch:n.chains.length=n.keys.length
 kd:n.kids.length=n.keys.length+1
 lt:i<n.kids.length
 at':Wf d lo hi (kidN n i)
 off:∀ j (h:j<n.kids.length),j≠i→Wf d 1 3 n.kids[j]
theorem zhy {α:Type} {l:List α} {i:Nat} {x:α}(h:x∈l.take i):∃ j,∃ hj:j<l.length,j<i∧l[j]=x:=by
 obtain⟨j,hj,e⟩:=List.mem_iff_getElem.1 h
 rw [List.length_take] at hj
 rw [List.getElem_take] at e
 exact⟨j,by omega,by omega,e⟩
theorem zhz {α:Type} {l:List α} {i:Nat} {x:α}(h:x∈l.drop i):∃ j,∃ hj:j<l.length,i≤j∧l[j]=x:=by
 obtain⟨j,hj,e⟩:=List.mem_iff_getElem.1 h
 rw [List.length_drop] at hj
 rw [List.getElem_drop] at e
 exact⟨i+j,by omega,by omega,e⟩
theorem zn7 {n:Nd} (hc:n.chains.length=n.keys.length) (i:Nat) (k:List UInt8) (c:List Ver):List.zipWith Pr.mk (n.keys.take i++[k]++n.keys.drop i) (n.chains.take i++[c]++n.chains.drop i)=(kpN n).take i++⟨k,c⟩::(kpN n).drop i:=by
 unfold kpN
 rw [List.append_assoc,List.append_assoc,List.zipWith_append (by rw [List.length_take,List.length_take,hc]),List.take_zipWith,List.drop_zipWith]
 rfl
theorem zqv {n:Nd} (hc:n.chains.length=n.keys.length) (f t:Nat):kpN (zbp n f t)=((kpN n).take (min t n.keys.length)).drop (min f n.keys.length):=by
 unfold kpN zbp
 simp only [Nd.keys,Nd.chains]
 rw [List.take_zipWith,List.drop_zipWith]
 have:n.chains.length=n.keys.length:=hc
 simp only [Nd.keys,Nd.chains] at this ⊢
 rw [this]
theorem zff {d i hi:Nat} {n:Nd} (h:Wk d n i 1 hi):zaa (zbh n i)=zaa n:=by
 have hk:=h.at'.pairs
 have hs:=h.at'.shape
 have hkl:=h.at'.keys.1
 obtain⟨k,hk0⟩:∃ k,k=kidN n i:=⟨_,rfl⟩
 have hkid:n.kids[i]'h.lt=k:=by rw [hk0,za3 h.lt]
 rw [← hk0] at hk hs hkl
 obtain⟨m,hm⟩:∃ m,m=k.keys.length / 2:=⟨_,rfl⟩
 have hmk:m<k.keys.length:=by omega
 have hcm:m<k.chains.length:=by omega
 have hch:=h.ch
 have hkd:=h.kd
 have hlt:=h.lt
 have e0:zbh n i=.mk (n.keys.take i++[k.keys.getD m []]++n.keys.drop i) (n.chains.take i++[k.chains.getD m []]++n.chains.drop i) (n.kids.take i++[zbp k 0 m,zbp k (m+1) k.keys.length]++n.kids.drop (i+1)):=by
  unfold zbh;rw [← hk0,← hm]
 have hA:((psN n).take i).length=((kpN n).take i).length:=by
  unfold psN
  rw [List.length_take,List.length_take,List.length_map,zbd hch];omega
 have hkp:kpN k=(kpN k).take m++(⟨k.keys.getD m [],k.chains.getD m []⟩:Pr)::(kpN k).drop (m+1):=by
  have h1:=zdp hs.1 hmk
  have h2:m<(kpN k).length:=by rw [zbd hs.1];exact hmk
  have h3:(kpN k)[m]=⟨k.keys.getD m [],k.chains.getD m []⟩:=by
   rw [List.getElem?_eq_getElem h2] at h1
   rw [Option.some.inj h1,List.getD_eq_getElem?_getD,List.getD_eq_getElem?_getD,List.getElem?_eq_getElem hmk,List.getElem?_eq_getElem hcm]
   rfl
  rw [← h3,← List.drop_eq_getElem_cons h2,List.take_append_drop]
 have hl:kpN (zbp k 0 m)=(kpN k).take m:=by
  rw [zqv hs.1,Nat.zero_min,List.drop_zero,Nat.min_eq_left (Nat.le_of_lt hmk)]
 have hr:kpN (zbp k (m+1) k.keys.length)=(kpN k).drop (m+1):=by
  rw [zqv hs.1,Nat.min_self,List.take_of_length_le (by rw [zbd hs.1];exact Nat.le_refl _),Nat.min_eq_left hmk]
 have lens:∀ f t,(zbp k f t).chains.length=(zbp k f t).keys.length:=fun f t=>by
  show ((k.chains.take (min t k.chains.length)).drop (min f k.chains.length)).length=((k.keys.take (min t k.keys.length)).drop (min f k.keys.length)).length
  rw [hs.1]
  simp only [List.length_drop,List.length_take,hs.1]
 have hkid2:zaa k=zaa (zbp k 0 m)++(⟨k.keys.getD m [],k.chains.getD m []⟩:Pr)::zaa (zbp k (m+1) k.keys.length):=by
  rcases hs.2 with h0 | h0
  ·have ep:∀ f t,(zbp k f t).kids=[]:=fun f t=>by
    show (k.kids.take _).drop _=[]
    rw [h0,List.take_nil,List.drop_nil]
   have e1:=ep 0 m
   have e2:=ep (m+1) k.keys.length
   rw [hk,zaq (lens _ _) (.inl e1),zaq (lens _ _) (.inl e2),hl,hr]
   unfold psN
   rw [h0,e1,e2]
   simp only [List.map_nil,zbn]
   exact hkp
  ·have f1:(zbp k 0 m).kids=k.kids.take (m+1):=by
    show (k.kids.take (min (m+1) k.kids.length)).drop (min 0 k.kids.length)=_
    rw [Nat.min_eq_left (show m+1≤k.kids.length by omega),Nat.zero_min,List.drop_zero]
   have f2:(zbp k (m+1) k.keys.length).kids=k.kids.drop (m+1):=by
    show (k.kids.take (min (k.keys.length+1) k.kids.length)).drop (min (m+1) k.kids.length)=_
    rw [h0,Nat.min_self,List.take_of_length_le (by omega),Nat.min_eq_left (by omega)]
   have g1:(zbp k 0 m).kids.length=(zbp k 0 m).keys.length+1:=by
    rw [f1]
    show _=((k.keys.take (min m k.keys.length)).drop (min 0 k.keys.length)).length+1
    simp only [List.length_drop,List.length_take];omega
   have g2:(zbp k (m+1) k.keys.length).kids.length=(zbp k (m+1) k.keys.length).keys.length+1:=by
    rw [f2]
    show _=((k.keys.take (min k.keys.length k.keys.length)).drop (min (m+1) k.keys.length)).length+1
    simp only [List.length_drop,List.length_take];omega
   rw [hk,zaq (lens _ _) (.inr g1),zaq (lens _ _) (.inr g2),hl,hr]
   unfold psN
   rw [f1,f2,List.map_take,List.map_drop]
   conv=>lhs;rw [← List.take_append_drop (m+1) (k.kids.map zaa),hkp]
   rw [zdq]
   rw [List.length_take,List.length_map,List.length_take,zbd hs.1];omega
 rw [zbz hch hkd h.lt,hkid,hkid2]
 have e1:(zbh n i).chains.length=(zbh n i).keys.length:=by
  rw [e0]
  show (n.chains.take i++[k.chains.getD m []]++n.chains.drop i).length=(n.keys.take i++[k.keys.getD m []]++n.keys.drop i).length
  simp only [List.length_append,List.length_take,List.length_drop,hch,List.length_cons,List.length_nil]
 have e2:(zbh n i).kids.length=(zbh n i).keys.length+1:=by
  rw [e0]
  show (n.kids.take i++[zbp k 0 m,zbp k (m+1) k.keys.length]++n.kids.drop (i+1)).length=(n.keys.take i++[k.keys.getD m []]++n.keys.drop i).length+1
  simp only [List.length_append,List.length_take,List.length_drop,List.length_cons,List.length_nil]
  omega
 rw [zaq e1 (.inr e2)]
 have e3:kpN (zbh n i)=(kpN n).take i++(⟨k.keys.getD m [],k.chains.getD m []⟩:Pr)::(kpN n).drop i:=by
  rw [e0]
  exact zn7 hch i _ _
 have e4:psN (zbh n i)=(psN n).take i++zaa (zbp k 0 m)::(zaa (zbp k (m+1) k.keys.length)::(psN n).drop (i+1)):=by
  rw [e0]
  show (n.kids.take i++[zbp k 0 m,zbp k (m+1) k.keys.length]++n.kids.drop (i+1)).map zaa=_
  unfold psN
  simp only [List.map_append,List.map_take,List.map_drop,List.map_cons,List.append_assoc,List.cons_append,List.nil_append]
 rw [e3,e4,zeb hA]
 simp only [suf,zca,List.append_assoc,List.cons_append]
theorem zqu {d lo hi f t : Nat} {k : Nd} (h : Wf d lo hi k) (hft : f < t) (ht : t ≤ k.keys.length) (h3 : t - f ≤ 3) : Wf d 1 3 (zbp k f t) := by
 cases d with
 | zero => exact h.elim
 | succ d =>
  obtain ⟨hc,_,_,hs⟩ := h
  have hkeys : (zbp k f t).keys.length = t - f := by
   show ((k.keys.take (min t k.keys.length)).drop (min f k.keys.length)).length = _
   simp only [List.length_drop,List.length_take]; omega
  have hch : (zbp k f t).chains.length = t - f := by
   show ((k.chains.take (min t k.chains.length)).drop (min f k.chains.length)).length = _
   simp only [List.length_drop,List.length_take]; omega
  refine ⟨by rw [hkeys,hch],by omega,by omega,?_⟩
  rcases hs with ⟨h0,h1⟩ | ⟨h0,h1,h2⟩
  ·refine .inl ⟨h0,?_⟩
   show (k.kids.take _).drop _ = []
   rw [h1,List.take_nil,List.drop_nil]
  ·refine .inr ⟨h0,?_,fun m hm => h2 m ?_⟩
   ·rw [hkeys]
    show ((k.kids.take (min (t + 1) k.kids.length)).drop (min f k.kids.length)).length = _
    simp only [List.length_drop,List.length_take]; omega
   ·exact List.mem_of_mem_take (List.mem_of_mem_drop (show m ∈ (k.kids.take _).drop _ from hm))
theorem zgc {d i:Nat} {n:Nd} (h:Wk d n i 3 7) :
  (zbh n i).chains.length=(zbh n i).keys.length∧(zbh n i).keys.length=n.keys.length+1∧(zbh n i).kids.length=(zbh n i).keys.length+1∧∀ m∈(zbh n i).kids,Wf d 1 3 m:=by
 have hch:=h.ch
 have hkd:=h.kd
 have hlt:=h.lt
 have hk:=h.at'.keys
 have hkeys:(zbh n i).keys.length=n.keys.length+1:=by
  show (n.keys.take i++[_]++n.keys.drop i).length=_
  simp only [List.length_append,List.length_take,List.length_drop,List.length_cons,List.length_nil];omega
 refine⟨?_,hkeys,?_,fun m hm=>?_⟩
 ·rw [hkeys]
  show (n.chains.take i++[_]++n.chains.drop i).length=_
  simp only [List.length_append,List.length_take,List.length_drop,List.length_cons,List.length_nil];omega
 ·rw [hkeys]
  show (n.kids.take i++[_,_]++n.kids.drop (i+1)).length=_
  simp only [List.length_append,List.length_take,List.length_drop,List.length_cons,List.length_nil];omega
 ·have hm':m∈n.kids.take i++[zbp (kidN n i) 0 ((kidN n i).keys.length / 2),zbp (kidN n i) ((kidN n i).keys.length / 2+1) (kidN n i).keys.length]++n.kids.drop (i+1):=hm
  simp only [List.mem_append,List.mem_cons,List.not_mem_nil,or_false] at hm'
  rcases hm' with (hm' | rfl | rfl) | hm'
  ·obtain⟨j,hj,hji,rfl⟩:=zhy hm'
   exact h.off j hj (by omega)
  ·exact zqu h.at' (by omega) (by omega) (by omega)
  ·exact zqu h.at' (by omega) (by omega) (by omega)
  ·obtain⟨j,hj,hji,rfl⟩:=zhz hm'
   exact h.off j hj (by omega)
theorem zlj {n : Nd} {i d : Nat} (hc : n.chains.length = n.keys.length) (hi : i < n.keys.length) (ha : Wf d 0 3 (kidN n i)) (hb : Wf d 0 3 (kidN n (i + 1))) :
  Wf d 1 7 (oneF n i) ∧ (oneF n i).keys.length = (kidN n i).keys.length + 1 + (kidN n (i + 1)).keys.length ∧ zaa (oneF n i) = zaa (kidN n i) ++ (⟨n.keys[i],n.chains[i]'(by omega)⟩ : Pr) :: zaa (kidN n (i + 1)) := by
 obtain ⟨a,hae⟩ : ∃ a,a = kidN n i := ⟨_,rfl⟩
 obtain ⟨b,hbe⟩ : ∃ b,b = kidN n (i + 1) := ⟨_,rfl⟩
 have e0 : oneF n i = .mk (a.keys ++ (n.keys.take (i + 1)).drop i ++ b.keys) (a.chains ++ (n.chains.take (i + 1)).drop i ++ b.chains) (a.kids ++ b.kids) := by unfold oneF; rw [← hae,← hbe]
 rw [← hae] at ha ⊢
 rw [← hbe] at hb ⊢
 have hci : i < n.chains.length := by omega
 have m1 : (n.keys.take (i + 1)).drop i = [n.keys[i]] := by
  rw [List.take_add_one,List.getElem?_eq_getElem hi,List.drop_append_of_le_length (by rw [List.length_take]; omega),List.drop_of_length_le (by rw [List.length_take]; omega)]; rfl
 have m2 : (n.chains.take (i + 1)).drop i = [n.chains[i]] := by
  rw [List.take_add_one,List.getElem?_eq_getElem hci,List.drop_append_of_le_length (by rw [List.length_take]; omega),List.drop_of_length_le (by rw [List.length_take]; omega)]; rfl
 rw [m1,m2] at e0
 have sa := ha.shape
 have sb := hb.shape
 have ka := ha.keys
 have kb := hb.keys
 have hkeys : (oneF n i).keys.length = a.keys.length + 1 + b.keys.length := by
  rw [e0]
  show (a.keys ++ [_] ++ b.keys).length = _
  simp only [List.length_append,List.length_cons,List.length_nil]
 have hchs : (oneF n i).chains.length = (oneF n i).keys.length := by
  rw [hkeys,e0]
  show (a.chains ++ [_] ++ b.chains).length = _
  simp only [List.length_append,List.length_cons,List.length_nil]; omega
 have hkids : (oneF n i).kids = a.kids ++ b.kids := by rw [e0]; rfl
 have hwf : Wf d 1 7 (oneF n i) := by
  cases d with
  | zero => exact ha.elim
  | succ d =>
   refine ⟨hchs,by omega,by omega,?_⟩
   rcases ha.2.2.2 with ⟨h0,h1⟩ | ⟨h0,h1,h2⟩
   ·refine .inl ⟨h0,?_⟩
    rcases hb.2.2.2 with ⟨_,h3⟩ | ⟨h3,_⟩
    ·rw [hkids,h1,h3]; rfl
    ·omega
   ·rcases hb.2.2.2 with ⟨h3,_⟩ | ⟨_,h3,h4⟩
    ·omega
    ·refine .inr ⟨h0,?_,fun m hm => ?_⟩
     ·rw [hkids,List.length_append,hkeys]; omega
     ·rw [hkids] at hm
      exact (List.mem_append.1 hm).elim (h2 m) (h4 m)
 refine ⟨hwf,hkeys,?_⟩
 rw [hwf.pairs,ha.pairs,hb.pairs]
 have hkp : kpN (oneF n i) = kpN a ++ (⟨n.keys[i],n.chains[i]⟩ : Pr) :: kpN b := by
  rw [e0]
  show List.zipWith Pr.mk (a.keys ++ [_] ++ b.keys) (a.chains ++ [_] ++ b.chains) = _
  unfold kpN
  rw [List.append_assoc,List.append_assoc,List.zipWith_append sa.1.symm]
  rfl
 unfold psN
 rw [hkp,hkids,List.map_append]
 cases d with
 | zero => exact ha.elim
 | succ d =>
  rcases ha.2.2.2 with ⟨h0,h1⟩ | ⟨h0,h1,h2⟩
  ·have h3 : b.kids = [] := by
    rcases hb.2.2.2 with ⟨_,h3⟩ | ⟨h3,_⟩
    ·exact h3
    ·omega
   rw [h1,h3]
   simp [zbn]
  ·rw [zdq (by rw [List.length_map,zbd sa.1]; exact h1)]
theorem zoi {α:Type} {l:List α} {i:Nat} (h:i+1<l.length):l.drop i=l[i]::l[i+1]::l.drop (i+2):=by
 rw [List.drop_eq_getElem_cons (by omega),List.drop_eq_getElem_cons h]
theorem zh2 {d i:Nat} {n:Nd} (hc:n.chains.length=n.keys.length) (hk:n.kids.length=n.keys.length+1) (hi:i<n.keys.length) (ha:Wf d 0 3 (kidN n i)) (hb:Wf d 0 3 (kidN n (i+1)))
  (ho:∀ j (h:j<n.kids.length),j≠i→j≠i+1→Wf d 1 3 n.kids[j]) :
  Wk d (za6 n i) i 1 7∧kidN (za6 n i) i=oneF n i∧(za6 n i).keys.length+1=n.keys.length∧zaa (za6 n i)=zaa n:=by
 obtain⟨h1,_,h2⟩:=zlj hc hi ha hb
 have hci:i<n.chains.length:=by omega
 have hkeys:(za6 n i).keys.length+1=n.keys.length:=by
  show (n.keys.take i++n.keys.drop (i+1)).length+1=_
  simp only [List.length_append,List.length_take,List.length_drop];omega
 have hchs:(za6 n i).chains.length=(za6 n i).keys.length:=by
  show (n.chains.take i++n.chains.drop (i+1)).length=(n.keys.take i++n.keys.drop (i+1)).length
  simp only [List.length_append,List.length_take,List.length_drop];omega
 have hkids:(za6 n i).kids.length=(za6 n i).keys.length+1:=by
  show (n.kids.take i++[oneF n i]++n.kids.drop (i+2)).length=(n.keys.take i++n.keys.drop (i+1)).length+1
  simp only [List.length_append,List.length_take,List.length_drop,List.length_cons,List.length_nil];omega
 have hlt:i<(za6 n i).kids.length:=by omega
 have htk:(n.kids.take i).length=i:=by rw [List.length_take];omega
 have hget:∀ j (h:j<(za6 n i).kids.length),(za6 n i).kids[j]=if h1:j<i then n.kids[j]'(by omega) else if h2:j=i then oneF n i else n.kids[j+1]'(by omega):=fun j h=>by
  have e:(za6 n i).kids=n.kids.take i++[oneF n i]++n.kids.drop (i+2):=rfl
  have h':j<(n.kids.take i++[oneF n i]++n.kids.drop (i+2)).length:=h
  show (n.kids.take i++[oneF n i]++n.kids.drop (i+2))[j]=_
  rcases Nat.lt_trichotomy j i with h3 | h3 | h3
  ·rw [dif_pos h3,List.getElem_append_left (by simp only [List.length_append,htk,List.length_cons,List.length_nil];omega),List.getElem_append_left (by omega),List.getElem_take]
  ·rw [dif_neg (by omega),dif_pos h3]
   subst h3
   rw [List.getElem_append_left (by simp only [List.length_append,htk,List.length_cons,List.length_nil];omega),List.getElem_append_right (by omega)]
   simp [htk]
  ·rw [dif_neg (by omega),dif_neg (by omega),List.getElem_append_right (by simp only [List.length_append,htk,List.length_cons,List.length_nil];omega),List.getElem_drop]
   congr 1
   simp only [List.length_append,htk,List.length_cons,List.length_nil];omega
 have hkid:kidN (za6 n i) i=oneF n i:=by rw [za3 hlt,hget i hlt];simp
 refine⟨⟨hchs,hkids,hlt,by rw [hkid];exact h1,fun j h hji=>?_⟩,hkid,hkeys,?_⟩
 ·rw [hget j h]
  split
  ·exact ho j (by omega) (by omega) (by omega)
  ·exact ho (j+1) (by omega) (by omega) (by omega)
 ·rw [zaq hchs (.inr hkids),zaq hc (.inr hk)]
  have e3:kpN (za6 n i)=(kpN n).take i++(kpN n).drop (i+1):=by
   show List.zipWith Pr.mk (n.keys.take i++n.keys.drop (i+1)) (n.chains.take i++n.chains.drop (i+1))=_
   unfold kpN
   rw [List.zipWith_append (by rw [List.length_take,List.length_take,hc]),List.take_zipWith,List.drop_zipWith]
  have e4:psN (za6 n i)=(psN n).take i++zaa (oneF n i)::(psN n).drop (i+2):=by
   show (n.kids.take i++[oneF n i]++n.kids.drop (i+2)).map zaa=_
   unfold psN
   simp only [List.map_append,List.map_take,List.map_drop,List.map_cons,List.append_assoc,List.cons_append,List.nil_append]
  have hA:((psN n).take i).length=((kpN n).take i).length:=by
   unfold psN
   rw [List.length_take,List.length_take,List.length_map,zbd hc];omega
  have hpl:i+1<(psN n).length:=by unfold psN;rw [List.length_map];omega
  have hkl:i<(kpN n).length:=by rw [zbd hc];exact hi
  have e5:psN n=(psN n).take i++zaa (kidN n i)::(zaa (kidN n (i+1))::(psN n).drop (i+2)):=by
   have h5:=zoi hpl
   have h6:(psN n)[i]'(by omega)=zaa (kidN n i):=by
    rw [za3 (by omega)]
    exact List.getElem_map (l:=n.kids) zaa
   have h7:(psN n)[i+1]=zaa (kidN n (i+1)):=by
    rw [za3 (by omega)]
    exact List.getElem_map (l:=n.kids) zaa
   rw [h6,h7] at h5
   rw [← h5,List.take_append_drop]
  have e6:kpN n=(kpN n).take i++(⟨n.keys[i],n.chains[i]⟩:Pr)::(kpN n).drop (i+1):=by
   have h5:=zdp hc hi
   rw [List.getElem?_eq_getElem hkl] at h5
   rw [← Option.some.inj h5,← List.drop_eq_getElem_cons hkl,List.take_append_drop]
  rw [e3,e4]
  conv=>rhs;rw [e5,e6]
  rw [zeb hA,zeb hA,h2]
  simp only [suf,zca,List.append_assoc,List.cons_append]
theorem zkz {d i:Nat} {n:Nd} (h:Wk d n i 0 4) (h1:1≤n.keys.length) :
  (zay n i).chains.length=(zay n i).keys.length∧(zay n i).kids.length=(zay n i).keys.length+1∧(∀ m∈(zay n i).kids,Wf d 1 3 m)∧zaa (zay n i)=zaa n ∧
   (1≤(kidN n i).keys.length→n.keys.length≤(zay n i).keys.length)∧((kidN n i).keys.length≤3→(zay n i).keys.length≤n.keys.length)∧n.keys.length≤(zay n i).keys.length+1∧(zay n i).keys.length≤n.keys.length+1:=by
 have hk:=h.at'.keys
 rcases Nat.lt_or_ge (kidN n i).keys.length 1 with h0 | h0
 ·have hkd:=h.kd
  have hlt:=h.lt
  have hwf:∀ j (hj:j<n.kids.length),Wf d 0 3 (kidN n j):=fun j hj=>by
   rw [za3 hj]
   by_cases hji:j=i
   ·subst hji
    have:=h.at'
    rw [za3 hj] at this
    exact this.mono (Nat.zero_le _) (by rw [za3 hj] at h0;omega)
   ·have:=h.off j hj hji
    exact this.mono (Nat.zero_le _) this.keys.2
  have hj1:i - 1<n.keys.length:=by omega
  have hJ:=zh2 h.ch h.kd hj1 (hwf _ (by omega)) (hwf _ (by omega)) (fun j hj h2 h3=>h.off j hj (by omega))
  obtain⟨w1,w2,w3,w4⟩:=hJ
  obtain⟨_,w5,_⟩:=zlj h.ch hj1 (hwf (i - 1) (by omega)) (hwf (i - 1+1) (by omega))
  have hk7:=w1.at'.keys
  have e:zay n i=if 3<(kidN (za6 n (i - 1)) (i - 1)).keys.length then zbh (za6 n (i - 1)) (i - 1) else za6 n (i - 1):=by
   unfold zay
   simp only [h0,if_true]
  rw [e]
  split
  ·rename_i h4
   have w1':Wk d (za6 n (i - 1)) (i - 1) 3 7:=⟨w1.ch,w1.kd,w1.lt,w1.at'.mono (by omega) (by omega),w1.off⟩
   obtain⟨s1,s2,s3,s4⟩:=zgc w1'
   exact⟨s1,s3,s4,(zff w1).trans w4,by omega,by omega,by omega,by omega⟩
  ·rename_i h4
   refine⟨w1.ch,w1.kd,fun m hm=>?_,w4,by omega,by omega,by omega,by omega⟩
   obtain⟨j,hj,rfl⟩:=List.mem_iff_getElem.1 hm
   by_cases hji:j=i - 1
   ·subst hji
    have:=w1.at'
    rw [za3 hj] at this h4
    exact this.mono this.keys.1 (by omega)
   ·exact w1.off j hj hji
 ·have e:zay n i=if 3<(kidN n i).keys.length then zbh n i else n:=by
   unfold zay
   have:¬ (kidN n i).keys.length<1:=by omega
   simp only [this,if_false]
  rw [e]
  split
  ·rename_i h4
   have w1:Wk d n i 1 7:=⟨h.ch,h.kd,h.lt,h.at'.mono (by omega) (by omega),h.off⟩
   have w1':Wk d n i 3 7:=⟨h.ch,h.kd,h.lt,h.at'.mono (by omega) (by omega),h.off⟩
   obtain⟨s1,s2,s3,s4⟩:=zgc w1'
   exact⟨s1,s3,s4,zff w1,by omega,by omega,by omega,by omega⟩
  ·rename_i h4
   refine⟨h.ch,h.kd,fun m hm=>?_,rfl,by omega,by omega,by omega,by omega⟩
   obtain⟨j,hj,rfl⟩:=List.mem_iff_getElem.1 hm
   by_cases hji:j=i
   ·subst hji
    have:=h.at'
    rw [za3 hj] at this h4 h0
    exact this.mono (by omega) (by omega)
   ·exact h.off j hj hji
theorem find_app {P Q:List Pr} {k:List UInt8} (hP:∀ p∈P,p.key≠k):zaw (P++Q) k=zaw Q k:=by
 induction P with
 | nil=>rfl
 | cons p P ih =>
  rw [List.cons_append,zap,if_neg (hP p (by simp)),ih fun q hq=>hP q (by simp [hq])]
theorem zro {P Q:List Pr} {k:List UInt8} (hQ:∀ p∈Q,p.key≠k):zaw (P++Q) k=zaw P k:=by
 induction P with
 | nil=>exact zoh fun j hj=>hQ _ (List.getElem_mem hj)
 | cons p P ih=>rw [List.cons_append,zap,zap,ih]
theorem zg7 {P Q R:List Pr} {k:List UInt8} (hP:∀ p∈P,ltB p.key k=true) (hR:∀ p∈R,ltB k p.key=true):zaw (P++Q++R) k=zaw Q k:=by
 rw [List.append_assoc,find_app fun p hp=>zf2 (hP p hp),zro fun p hp=>(zf2 (hR p hp)).symm]
theorem zh8 {P Q R:List Pr} {k:List UInt8} (hP:∀ p∈P,ltB p.key k=true) (hR:∀ p∈R,ltB k p.key=true):delP (P++Q++R) k=P++delP Q k++R:=by
 have h1:P.filter (fun p=>!decide (p.key=k))=P:=List.filter_eq_self.2 fun p hp=>by simp [zf2 (hP p hp)]
 have h2:R.filter (fun p=>!decide (p.key=k))=R:=List.filter_eq_self.2 fun p hp=>by simp [(zf2 (hR p hp)).symm]
 unfold delP
 rw [List.filter_append,List.filter_append,h1,h2]
theorem zex {P Q R:List Pr} (h:Srt (P++Q++R)):Srt P∧Srt Q∧Srt R∧(∀ p∈P,∀ q∈Q,ltB p.key q.key=true)∧(∀ q∈Q,∀ r∈R,ltB q.key r.key=true)∧∀ p∈P,∀ r∈R,ltB p.key r.key=true:=by
 unfold Srt at h ⊢
 rw [List.pairwise_append,List.pairwise_append] at h
 obtain⟨⟨h1,h2,h3⟩,h4,h5⟩:=h
 exact⟨h1,h2,h4,h3,fun q hq r hr=>h5 q (List.mem_append_right _ hq) r hr,fun p hp r hr=>h5 p (List.mem_append_left _ hp) r hr⟩
theorem srt_mk {P Q R:List Pr} (h1:Srt P) (h2:Srt Q) (h3:Srt R) (h4:∀ p∈P,∀ q∈Q,ltB p.key q.key=true) (h5:∀ q∈Q,∀ r∈R,ltB q.key r.key=true) (h6:∀ p∈P,∀ r∈R,ltB p.key r.key=true):Srt (P++Q++R):=by
 unfold Srt at *
 rw [List.pairwise_append,List.pairwise_append]
 refine⟨⟨h1,h2,h4⟩,h3,fun a ha r hr=>?_⟩
 rcases List.mem_append.1 ha with ha | ha
 ·exact h6 a ha r hr
 ·exact h5 a ha r hr
theorem zmu {P Q R:List Pr} {k:List UInt8} {c:List Ver} (hs:Srt (P++Q++R)) (hP:∀ p∈P,ltB p.key k=true) (hR:∀ p∈R,ltB k p.key=true):putP (P++Q++R) k c=P++putP Q k c++R:=by
 obtain⟨s1,s2,s3,s4,s5,s6⟩:=zex hs
 have hm:∀ q∈putP Q k c,q=⟨k,c⟩∨q∈Q:=fun q hq=>by rw [zdw s2] at hq;exact zgm hq
 have hs2:Srt (P++putP Q k c++R):=srt_mk s1 (zjw s2) s3
  (fun p hp q hq=>by rcases hm q hq with rfl | h;exact hP p hp;exact s4 p hp q h)
  (fun q hq r hr=>by rcases hm q hq with rfl | h;exact hR r hr;exact s5 q h r hr) s6
 refine zmk (zjw hs) hs2 fun k'=>?_
 rw [zg5 hs]
 by_cases hk:k=k'
 ·subst hk
  rw [if_pos rfl,zg7 hP hR,zg5 s2,if_pos rfl]
 ·rw [if_neg hk]
  have h1:∀ A:List Pr,zaw (P++A++R) k'=(zaw P k').or ((zaw A k').or (zaw R k')):=by
   intro A
   have h2:∀ (X Y:List Pr),zaw (X++Y) k'=(zaw X k').or (zaw Y k'):=by
    intro X Y
    unfold zaw
    rw [List.find?_append]
    cases X.find? fun p=>decide (p.key=k')<;>simp
   rw [h2,h2,Option.or_assoc]
  rw [h1,h1,zg5 s2,if_neg hk]
theorem put_nil(k:List UInt8)(c:List Ver):putP [] k c=[⟨k,c⟩]:=rfl
theorem put_one(k:List UInt8)(c c0:List Ver):putP [⟨k,c0⟩] k c=[⟨k,c⟩]:=by simp [putP,zij,ze7]
theorem del_one(k:List UInt8)(c0:List Ver):delP [⟨k,c0⟩] k=[]:=by simp [delP]
theorem zjx:∀ {A:List (List Pr)} {K:List Pr},A.length=K.length→∀ p k,pre (A++[p]) (K++[k])=pre A K++p++[k]
 | [],[],_,p,k=>by simp [pre]
 | a::A,b::K,h,p,k=>by
  simp only [List.cons_append,pre,zjx (A:=A) (K:=K) (by simpa using h),List.append_assoc]
theorem zns:∀ {ps:List (List Pr)} {kp:List Pr},(ps=[]∨ps.length=kp.length+1)→Srt (zbn ps kp)→Srt kp
 | [],kp,_,h=>h
 | [p],[],_,_=>List.Pairwise.nil
 | p::ps,k::kp,h,hs=>by
  have hl:ps.length=kp.length+1:=by
   rcases h with h | h
   ·cases h
   ·simpa using h
  have h1:zbn (p::ps) (k::kp)=p++[k]++zbn ps kp:=by simp [zbn]
  rw [h1] at hs
  obtain⟨_,_,s3,_,s5,_⟩:=zex hs
  have ih:=zns (ps:=ps) (kp:=kp) (.inr hl) s3
  refine List.Pairwise.cons (fun q hq=>s5 k (by simp) q ?_) ih
  have:∀ {ps:List (List Pr)} {kp:List Pr},ps.length=kp.length+1→∀ q∈kp,q∈zbn ps kp:=by
   intro ps
   induction ps with
   | nil=>intro kp h;simp at h
   | cons p ps ih2 =>
    intro kp h q hq
    cases kp with
    | nil=>cases hq
    | cons b kp =>
     rcases List.mem_cons.1 hq with rfl | hq
     ·simp [zbn]
     ·have:=ih2 (kp:=kp) (by simpa using h) q hq
      simp [zbn,this]
  exact this hl q hq
 | _::_::_,[],h,_=>by rcases h with h | h<;>simp at h
theorem ris_of:∀ {ks:List (List UInt8)} {cs:List (List Ver)},cs.length=ks.length→Srt (List.zipWith Pr.mk ks cs)→risK ks
 | [],_,_,_=>trivial
 | k::ks,c::cs,h,hs=>by
  rw [List.zipWith_cons_cons] at hs
  obtain⟨h1,h2⟩:=List.pairwise_cons.1 hs
  have hl:cs.length=ks.length:=by simpa using h
  refine⟨fun y hy=>?_,ris_of hl h2⟩
  obtain⟨j,hj,rfl⟩:=List.mem_iff_getElem.1 hy
  have:=h1 ((List.zipWith Pr.mk ks cs)[j]'(by rw [List.length_zipWith];omega)) (List.getElem_mem _)
  rwa [List.getElem_zipWith] at this
theorem wf_ris {d lo hi:Nat} {n:Nd} (h:Wf d lo hi n) (hs:Srt (zaa n)):risK n.keys:=by
 rw [h.pairs] at hs
 refine ris_of h.shape.1 (zns (ps:=psN n) ?_ hs)
 rcases h.shape.2 with h1 | h1
 ·left;unfold psN;rw [h1];rfl
 ·right;unfold psN;rw [List.length_map];show _=(kpN n).length+1;rw [zbd h.shape.1];exact h1
theorem zfv {n:Nd} {k:List UInt8} {i:Nat} (hc:n.chains.length=n.keys.length) (hk:n.kids.length=n.keys.length+1) (hs:Srt (zaa n)) (hr:risK n.keys) (hi:i=plcF n.keys k) :
  (∀ p∈pre ((psN n).take i) ((kpN n).take i),ltB p.key k=true)∧(isF n.keys k=false→∀ p∈suf ((kpN n).drop i) ((psN n).drop (i+1)),ltB k p.key=true):=by
 have hle:i≤n.keys.length:=hi▸zfu _ _
 have hps:(psN n).length=n.keys.length+1:=by unfold psN;rw [List.length_map,hk]
 have hlt:i<n.kids.length:=by omega
 rw [zbz hc hk hlt] at hs
 obtain⟨s1,s2,s3,s4,s5,s6⟩:=zex hs
 constructor
 ·cases i with
  | zero=>intro p hp;simp [pre] at hp
  | succ i =>
   intro p hp
   have h1:i<(psN n).length:=by omega
   have h2:i<(kpN n).length:=by rw [zbd hc];omega
   have e:pre ((psN n).take (i+1)) ((kpN n).take (i+1))=pre ((psN n).take i) ((kpN n).take i)++(psN n)[i]++[(kpN n)[i]]:=by
    rw [List.take_add_one,List.take_add_one,List.getElem?_eq_getElem h1,List.getElem?_eq_getElem h2,Option.toList_some,Option.toList_some,zjx]
    rw [List.length_take,List.length_take,zbd hc];omega
   have hkey:ltB ((kpN n)[i]).key k=true:=by
    have h3:=zdp hc (i:=i) (by omega)
    rw [List.getElem?_eq_getElem h2] at h3
    rw [Option.some.inj h3]
    have:=zgw (k:=k) hr i (by omega)
    rw [this,← hi]
    simp
   rw [e] at hp s1
   rw [List.append_assoc] at hp s1
   rcases List.mem_append.1 hp with h3 | h3
   ·have t:=(List.pairwise_append.1 s1).2.2
    exact zb4 (t p h3 _ (by simp)) hkey
   ·rcases List.mem_append.1 h3 with h4 | h4
    ·have t:=(List.pairwise_append.1 (List.pairwise_append.1 s1).2.1).2.2
     exact zb4 (t p h4 _ (by simp)) hkey
    ·rw [List.mem_singleton.1 h4];exact hkey
 ·intro his p hp
  rcases Nat.lt_or_ge i n.keys.length with h | h
  ·have h2:i<(kpN n).length:=by rw [zbd hc];exact h
   have e:(kpN n).drop i=(kpN n)[i]::(kpN n).drop (i+1):=List.drop_eq_getElem_cons h2
   rw [e] at hp s3
   have hkey:ltB k ((kpN n)[i]).key=true:=by
    have h3:=zdp hc (i:=i) h
    rw [List.getElem?_eq_getElem h2] at h3
    rw [Option.some.inj h3]
    have h5:=zgw (k:=k) hr i h
    rw [← hi,decide_eq_false (Nat.lt_irrefl i)] at h5
    refine zf1 (fun e2=>?_) h5
    unfold isF at his
    have e3:n.keys[i]=k:=e2
    rw [← hi,List.getElem?_eq_getElem h,e3] at his
    simp at his
   simp only [suf] at hp s3
   rcases List.mem_cons.1 hp with rfl | hp
   ·exact hkey
   ·exact zb4 hkey ((List.pairwise_cons.1 s3).1 p hp)
  ·rw [List.drop_of_length_le (by rw [zbd hc];exact h)] at hp
   simp [suf] at hp
structure Pn (d:Nat) (n:Nd):Prop where
 wf:Wf d 0 3 n
 ne:d=1∨1≤n.keys.length
 srt:Srt (zaa n)
theorem Pn.ris {d:Nat} {n:Nd}(h:Pn d n):risK n.keys:=wf_ris h.wf h.srt
theorem Pn.kid {d:Nat} {n:Nd} (h:Pn d n) {i:Nat} (hi:i<n.kids.length):∃ d',d=d'+1∧0<d'∧n.kids.length=n.keys.length+1∧Pn d' n.kids[i]∧Wf d' 1 3 n.kids[i]∧∀ m∈n.kids,Wf d' 1 3 m:=by
 cases d with
 | zero=>exact h.wf.elim
 | succ d =>
  obtain⟨hc,_,_,hs⟩:=h.wf
  rcases hs with⟨_,h1⟩|⟨h0,h1,h2⟩
  ·rw [h1] at hi;cases hi
  ·have hw:=h2 _ (List.getElem_mem hi)
   have hsr:=h.srt
   rw [zbz hc h1 hi] at hsr
   exact⟨d,rfl,h0,h1,⟨hw.mono (Nat.zero_le _) hw.keys.2,.inr hw.keys.1,(zex hsr).2.1⟩,hw,h2⟩
def PutN (d:Nat) (n:Nd) (k:List UInt8) (c:List Ver) (n':Nd):Prop:=Wf d 1 4 n'∧zaa n'=putP (zaa n) k c
theorem zgx {ks:List (List UInt8)} {k:List UInt8} (h:isF ks k=true):∃ hi:plcF ks k<ks.length,ks[plcF ks k]=k:=by
 unfold isF at h
 have h2:ks[plcF ks k]?=some k:=by simpa using h
 exact List.getElem?_eq_some_iff.1 h2
theorem zqx {n : Nd} {i : Nat} (hc : n.chains.length = n.keys.length) (hk : n.kids = [] ∨ n.kids.length = n.keys.length + 1) (hi : i < n.keys.length) :
  ∃ P R,zaa n = P ++ [(⟨n.keys[i],n.chains[i]'(by omega)⟩ : Pr)] ++ R ∧ ∀ k c,zaa (.mk (n.keys.set i k) (n.chains.set i c) n.kids) = P ++ [(⟨k,c⟩ : Pr)] ++ R := by
 have hkl : i < (kpN n).length := by rw [zbd hc]; exact hi
 have e : kpN n = (kpN n).take i ++ (⟨n.keys[i],n.chains[i]'(by omega)⟩ : Pr) :: (kpN n).drop (i + 1) := by
  have h5 := zdp hc hi
  rw [List.getElem?_eq_getElem hkl] at h5
  rw [← Option.some.inj h5,← List.drop_eq_getElem_cons hkl,List.take_append_drop]
 have e2 : ∀ k c,kpN (.mk (n.keys.set i k) (n.chains.set i c) n.kids) = (kpN n).take i ++ (⟨k,c⟩ : Pr) :: (kpN n).drop (i + 1) := fun k c => by
  show List.zipWith Pr.mk (n.keys.set i k) (n.chains.set i c) = _
  have h1 : (List.zipWith Pr.mk (n.keys.set i k) (n.chains.set i c)) = (kpN n).set i ⟨k,c⟩ := by
   apply List.ext_getElem?
   intro j
   unfold kpN
   rw [List.getElem?_zipWith,List.getElem?_set,List.getElem?_set,List.getElem?_set,List.getElem?_zipWith,List.length_zipWith]
   by_cases hij : i = j
   ·subst hij
    rw [if_pos rfl,if_pos rfl,if_pos rfl,if_pos hi,if_pos (by omega),if_pos (by omega)]
   ·rw [if_neg hij,if_neg hij,if_neg hij]
  rw [h1,List.set_eq_take_append_cons_drop,if_pos hkl]
 have hc2 : ∀ k c,(Nd.mk (n.keys.set i k) (n.chains.set i c) n.kids).chains.length = (Nd.mk (n.keys.set i k) (n.chains.set i c) n.kids).keys.length := fun k c => by
  show (n.chains.set i c).length = (n.keys.set i k).length
  rw [List.length_set,List.length_set,hc]
 have hk2 : ∀ k c,(Nd.mk (n.keys.set i k) (n.chains.set i c) n.kids).kids = [] ∨ (Nd.mk (n.keys.set i k) (n.chains.set i c) n.kids).kids.length = (Nd.mk (n.keys.set i k) (n.chains.set i c) n.kids).keys.length + 1 := fun k c => by
  show n.kids = [] ∨ n.kids.length = (n.keys.set i k).length + 1
  rw [List.length_set]; exact hk
 have e3 : ∀ k c,psN (.mk (n.keys.set i k) (n.chains.set i c) n.kids) = psN n := fun _ _ => rfl
 rcases hk with h0 | h0
 ·have hps : psN n = [] := by unfold psN; rw [h0]; rfl
  refine ⟨(kpN n).take i,(kpN n).drop (i + 1),?_,fun k c => ?_⟩
  ·rw [zaq hc (.inl h0),hps]
   simp only [zbn]
   rw [List.append_assoc]
   exact e
  ·rw [zaq (hc2 k c) (hk2 k c),e3,hps,e2]
   simp [zbn]
 ·have hA : ((psN n).take (i + 1)).length = ((kpN n).take i).length + 1 := by
   unfold psN
   rw [List.length_take,List.length_take,List.length_map,zbd hc]; omega
  refine ⟨zbn ((psN n).take (i + 1)) ((kpN n).take i),zbn ((psN n).drop (i + 1)) ((kpN n).drop (i + 1)),?_,fun k c => ?_⟩
  ·rw [zaq hc (.inr h0)]
   conv => lhs; rw [e,← List.take_append_drop (i + 1) (psN n)]
   rw [zdq hA]
   simp
  ·rw [zaq (hc2 k c) (hk2 k c),e3,e2]
   conv => lhs; rw [← List.take_append_drop (i + 1) (psN n)]
   rw [zdq hA]
   simp
theorem put_is {d:Nat} {n:Nd} {k:List UInt8} {c:List Ver} (h:Pn d n) (hi:isF n.keys k=true):PutN d n k c (.mk n.keys (n.chains.set (plcF n.keys k) c) n.kids):=by
 obtain⟨hl,hk⟩:=zgx hi
 obtain⟨hc,hsh⟩:=h.wf.shape
 obtain⟨P,R,e1,e2⟩:=zqx hc hsh hl
 have hkeys:n.keys.set (plcF n.keys k) k=n.keys:=by
  have:n.keys.set (plcF n.keys k) n.keys[plcF n.keys k]=n.keys:=List.set_getElem_self hl
  rwa [hk] at this
 have e3:=e2 k c
 rw [hkeys] at e3
 constructor
 ·have hw:=h.wf
  cases d with
  | zero=>exact hw.elim
  | succ d =>
   obtain⟨_,_,h3,h4⟩:=hw
   exact⟨by show (n.chains.set _ c).length=n.keys.length;rw [List.length_set];exact hc,by show 1≤n.keys.length;omega,by show n.keys.length≤4;omega,h4⟩
 ·have hsr:=h.srt
  rw [e1] at hsr
  have hs:=zex hsr
  rw [e3,e1,zmu hsr (fun p hp=>by have:=hs.2.2.2.1 p hp _ (List.mem_singleton.2 rfl);rwa [hk] at this) (fun p hp=>by have:=hs.2.2.2.2.1 _ (List.mem_singleton.2 rfl) p hp;rwa [hk] at this),hk,put_one]
theorem zj6 {n:Nd} {k:List UInt8} (hc:n.chains.length=n.keys.length) (hr:risK n.keys) :
  (∀ p∈(kpN n).take (plcF n.keys k),ltB p.key k=true)∧(isF n.keys k=false→∀ p∈(kpN n).drop (plcF n.keys k),ltB k p.key=true):=by
 constructor
 ·intro p hp
  obtain⟨j,hj,hji,rfl⟩:=zhy hp
  have hjk:j<n.keys.length:=by rw [zbd hc] at hj;exact hj
  have h3:=zdp hc hjk
  rw [List.getElem?_eq_getElem hj] at h3
  rw [Option.some.inj h3]
  have:=zgw (k:=k) hr j hjk
  rw [decide_eq_true hji] at this
  exact this
 ·intro his p hp
  obtain⟨j,hj,hji,rfl⟩:=zhz hp
  have hjk:j<n.keys.length:=by rw [zbd hc] at hj;exact hj
  have h3:=zdp hc hjk
  rw [List.getElem?_eq_getElem hj] at h3
  rw [Option.some.inj h3]
  have h5:=zgw (k:=k) hr j hjk
  rw [decide_eq_false (by omega)] at h5
  refine zf1 (fun e2=>?_) h5
  have e3:n.keys[j]=k:=e2
  rcases Nat.lt_or_ge (plcF n.keys k) j with h6 | h6
  ·have h7:=zgw (k:=k) hr (plcF n.keys k) (by omega)
   rw [decide_eq_false (Nat.lt_irrefl _)] at h7
   have:∀ {ks:List (List UInt8)},risK ks→∀ {a b:Nat} (hab:a<b) (hb:b<ks.length),ltB (ks[a]'(by omega)) ks[b]=true:=by
    intro ks
    induction ks with
    | nil=>intro _ a b _ hb;cases hb
    | cons x r ih =>
     rintro⟨h1,h2⟩a b hab hb
     cases b with
     | zero=>omega
     | succ b =>
      cases a with
      | zero=>exact h1 _ (List.getElem_mem _)
      | succ a=>exact ih h2 (by omega) (by simpa using hb)
   have h8:=this hr h6 hjk
   rw [e3,h7] at h8
   cases h8
  ·obtain rfl:plcF n.keys k=j:=by omega
   unfold isF at his
   rw [List.getElem?_eq_getElem hjk,e3] at his
   simp at his
theorem put_leaf {d:Nat} {n:Nd} {k:List UInt8} {c:List Ver} (h:Pn d n) (hi:isF n.keys k=false) (h0:n.kids=[]) :
  PutN d n k c (.mk (n.keys.take (plcF n.keys k)++[k]++n.keys.drop (plcF n.keys k)) (n.chains.take (plcF n.keys k)++[c]++n.chains.drop (plcF n.keys k)) n.kids):=by
 obtain⟨hc,hsh⟩:=h.wf.shape
 obtain⟨m1,m2⟩:=zj6 (k:=k) hc h.ris
 have hps:psN n=[]:=by unfold psN;rw [h0];rfl
 have hp:zaa n=(kpN n).take (plcF n.keys k)++[]++(kpN n).drop (plcF n.keys k):=by
  rw [zaq hc (.inl h0),hps]
  simp [zbn]
 have hsr:=h.srt
 rw [hp] at hsr
 have hlen:(n.keys.take (plcF n.keys k)++[k]++n.keys.drop (plcF n.keys k)).length=n.keys.length+1:=by
  have:=zfu n.keys k
  simp only [List.length_append,List.length_take,List.length_drop,List.length_cons,List.length_nil];omega
 have hlen2:(n.chains.take (plcF n.keys k)++[c]++n.chains.drop (plcF n.keys k)).length=n.keys.length+1:=by
  have:=zfu n.keys k
  simp only [List.length_append,List.length_take,List.length_drop,List.length_cons,List.length_nil];omega
 constructor
 ·have hw:=h.wf
  cases d with
  | zero=>exact hw.elim
  | succ d =>
   obtain⟨_,_,h3,h4⟩:=hw
   refine⟨hlen2.trans hlen.symm,by show 1≤(n.keys.take (plcF n.keys k)++[k]++n.keys.drop (plcF n.keys k)).length;rw [hlen];omega,by show (n.keys.take (plcF n.keys k)++[k]++n.keys.drop (plcF n.keys k)).length≤4;rw [hlen];omega,?_⟩
   rcases h4 with h4 |⟨h5,h6,_⟩
   ·exact .inl h4
   ·rw [h0] at h6;simp at h6
 ·rw [hp,zmu hsr m1 (m2 hi),put_nil,zaq (n:=.mk (n.keys.take (plcF n.keys k)++[k]++n.keys.drop (plcF n.keys k)) (n.chains.take (plcF n.keys k)++[c]++n.chains.drop (plcF n.keys k)) n.kids) (hlen2.trans hlen.symm) (.inl h0)]
  have e:psN (.mk (n.keys.take (plcF n.keys k)++[k]++n.keys.drop (plcF n.keys k)) (n.chains.take (plcF n.keys k)++[c]++n.chains.drop (plcF n.keys k)) n.kids)=[]:=hps
  rw [e]
  simp only [zbn]
  exact (zn7 hc (plcF n.keys k) k c).trans (by rw [List.append_assoc];rfl)
theorem zqe {d:Nat} {n:Nd} {i:Nat} {m:Nd} {lo up:Nat} (hc:n.chains.length=n.keys.length) (hk:n.kids.length=n.keys.length+1) (hw:∀ m∈n.kids,Wf d 1 3 m) (hi:i<n.kids.length) (hm:Wf d lo up m):Wk d (zbl n i m) i lo up:=by
 have hl:i<(zbl n i m).kids.length:=by show i<(n.kids.set i m).length;rw [List.length_set];exact hi
 have e:(zbl n i m).kids[i]=m:=List.getElem_set_self _
 refine⟨hc,by show (n.kids.set i m).length=_;rw [List.length_set];exact hk,hl,by rw [za3 hl,e];exact hm,fun j hj hji=>?_⟩
 have e2:(zbl n i m).kids[j]=n.kids[j]'(by have:j<(n.kids.set i m).length:=hj;rwa [List.length_set] at this):=List.getElem_set_ne (fun e=>hji e.symm) _
 rw [e2]
 exact hw _ (List.getElem_mem _)
theorem ziq {d : Nat} {n : Nd} {i : Nat} {m : Nd} (hc : n.chains.length = n.keys.length) (hk : n.kids.length = n.keys.length + 1) (h1 : 1 ≤ n.keys.length) (h3 : n.keys.length ≤ 3) (hd : 0 < d) (hw : ∀ m ∈ n.kids,Wf d 1 3 m) (hi : i < n.kids.length) (hm : Wf d 0 4 m) :
  Wf (d + 1) 0 4 (zay (zbl n i m) i) ∧ zaa (zay (zbl n i m) i) = zaa (zbl n i m) ∧ (1 ≤ m.keys.length → 1 ≤ (zay (zbl n i m) i).keys.length) ∧ (m.keys.length ≤ 3 → (zay (zbl n i m) i).keys.length ≤ 3) := by
 have hW := zqe hc hk hw hi hm
 have hkm : kidN (zbl n i m) i = m := by
  rw [za3 hW.lt]
  exact List.getElem_set_self _
 obtain ⟨s1,s2,s3,s4,s5,s6,s7,s8⟩ := zkz hW h1
 have hkeys : (zbl n i m).keys.length = n.keys.length := rfl
 rw [hkm] at s5 s6
 exact ⟨⟨s1,Nat.zero_le _,by omega,.inr ⟨hd,s2,s3⟩⟩,s4,fun h => by have := s5 h; omega,fun h => by have := s6 h; omega⟩
theorem put_in {d:Nat} {n m:Nd} {k:List UInt8} {c:List Ver} (h:Pn (d+1) n) (hi:isF n.keys k=false) (hlt:plcF n.keys k<n.kids.length) (hm:PutN d n.kids[plcF n.keys k] k c m) :
  PutN (d+1) n k c (zay (zbl n (plcF n.keys k) m) (plcF n.keys k)):=by
 obtain⟨d',e,hd,hk,hp,hw,hws⟩:=h.kid hlt
 obtain rfl:d=d':=by omega
 have hc:=h.wf.shape.1
 have h1:1≤n.keys.length:=by
  rcases h.ne with h1 | h1
  ·omega
  ·exact h1
 obtain⟨s1,s2,s3,_⟩:=ziq hc hk h1 h.wf.keys.2 hd hws hlt (hm.1.mono (Nat.zero_le _) hm.1.keys.2)
 obtain⟨m1,m2⟩:=zfv (k:=k) hc hk h.srt h.ris rfl
 refine⟨s1.mono (s3 hm.1.keys.1) s1.keys.2,?_⟩
 have hsr:=h.srt
 rw [zbz hc hk hlt] at hsr
 rw [s2,zlh hc hk hlt,hm.2,zbz hc hk hlt,zmu hsr m1 (m2 hi)]
def DelN (d:Nat) (n:Nd) (k:List UInt8) (n':Nd):Prop:=Wf d 0 3 n'∧zaa n'=delP (zaa n) k
theorem find_is {d:Nat} {n:Nd} {k:List UInt8} (h:Pn d n) (hi:isF n.keys k=true):zaw (zaa n) k=n.chains[plcF n.keys k]?:=by
 obtain⟨hl,hk⟩:=zgx hi
 obtain⟨hc,hsh⟩:=h.wf.shape
 obtain⟨P,R,e1,_⟩:=zqx hc hsh hl
 have hsr:=h.srt
 rw [e1] at hsr
 have hs:=zex hsr
 rw [e1,zg7 (fun p hp=>by have:=hs.2.2.2.1 p hp _ (List.mem_singleton.2 rfl);rwa [hk] at this) (fun p hp=>by have:=hs.2.2.2.2.1 _ (List.mem_singleton.2 rfl) p hp;rwa [hk] at this),zap,if_pos hk,List.getElem?_eq_getElem (by omega)]
theorem zlz {d:Nat} {n:Nd} {k:List UInt8} (h:Pn d n) (hi:isF n.keys k=false) (h0:n.kids=[]):zaw (zaa n) k=none:=by
 obtain⟨hc,hsh⟩:=h.wf.shape
 obtain⟨m1,m2⟩:=zj6 (k:=k) hc h.ris
 have hps:psN n=[]:=by unfold psN;rw [h0];rfl
 have hp:zaa n=(kpN n).take (plcF n.keys k)++[]++(kpN n).drop (plcF n.keys k):=by
  rw [zaq hc (.inl h0),hps]
  simp [zbn]
 rw [hp,zg7 m1 (m2 hi)]
 rfl
theorem zrn {d:Nat} {n:Nd} {k:List UInt8} (h:Pn d n) (hi:isF n.keys k=false) (hlt:plcF n.keys k<n.kids.length):zaw (zaa n) k=zaw (zaa n.kids[plcF n.keys k]) k:=by
 obtain⟨d',e,hd,hk,hp,hw,hws⟩:=h.kid hlt
 have hc:=h.wf.shape.1
 obtain⟨m1,m2⟩:=zfv (k:=k) hc hk h.srt h.ris rfl
 rw [zbz hc hk hlt,zg7 m1 (m2 hi)]
theorem del_leaf {d:Nat} {n:Nd} {k:List UInt8} (h:Pn d n) (hi:isF n.keys k=true) (h0:n.kids=[]) :
  DelN d n k (.mk (n.keys.take (plcF n.keys k)++n.keys.drop (plcF n.keys k+1)) (n.chains.take (plcF n.keys k)++n.chains.drop (plcF n.keys k+1)) n.kids):=by
 obtain⟨hl,hk⟩:=zgx hi
 obtain⟨hc,hsh⟩:=h.wf.shape
 obtain⟨i,hii⟩:∃ i,i=plcF n.keys k:=⟨_,rfl⟩
 rw [← hii]
 have hl':i<n.keys.length:=hii▸hl
 have hki:n.keys[i]=k:=by subst hii;exact hk
 have hps:psN n=[]:=by unfold psN;rw [h0];rfl
 have hkl:i<(kpN n).length:=by rw [zbd hc];exact hl'
 have e:kpN n=(kpN n).take i++[(⟨n.keys[i],n.chains[i]'(by omega)⟩:Pr)]++(kpN n).drop (i+1):=by
  have h5:=zdp hc hl'
  rw [List.getElem?_eq_getElem hkl] at h5
  rw [← Option.some.inj h5,List.append_assoc,List.singleton_append,← List.drop_eq_getElem_cons hkl,List.take_append_drop]
 have hp:zaa n=kpN n:=by
  rw [zaq hc (.inl h0),hps]
  simp [zbn]
 have hsr:=h.srt
 rw [hp,e] at hsr
 have hs:=zex hsr
 have hlen:(n.keys.take i++n.keys.drop (i+1)).length+1=n.keys.length:=by
  simp only [List.length_append,List.length_take,List.length_drop];omega
 have hlen2:(n.chains.take i++n.chains.drop (i+1)).length+1=n.keys.length:=by
  simp only [List.length_append,List.length_take,List.length_drop];omega
 have hcl:(n.chains.take i++n.chains.drop (i+1)).length=(n.keys.take i++n.keys.drop (i+1)).length:=by omega
 have h33:=h.wf.keys.2
 constructor
 ·have hw:=h.wf
  cases d with
  | zero=>exact hw.elim
  | succ d =>
   obtain⟨_,_,h3,h4⟩:=hw
   refine⟨hcl,Nat.zero_le _,by show (n.keys.take i++n.keys.drop (i+1)).length≤3;omega,?_⟩
   rcases h4 with h4 |⟨h5,h6,_⟩
   ·exact .inl h4
   ·rw [h0] at h6;simp at h6
 ·rw [hp,e,zh8 (fun p hp=>by have:=hs.2.2.2.1 p hp _ (List.mem_singleton.2 rfl);rwa [hki] at this) (fun p hp=>by have:=hs.2.2.2.2.1 _ (List.mem_singleton.2 rfl) p hp;rwa [hki] at this),hki,del_one,zaq (n:=.mk (n.keys.take i++n.keys.drop (i+1)) (n.chains.take i++n.chains.drop (i+1)) n.kids) hcl (.inl h0)]
  have e2:psN (.mk (n.keys.take i++n.keys.drop (i+1)) (n.chains.take i++n.chains.drop (i+1)) n.kids)=[]:=hps
  rw [e2]
  simp only [zbn]
  show List.zipWith Pr.mk (n.keys.take i++n.keys.drop (i+1)) (n.chains.take i++n.chains.drop (i+1))=_
  rw [List.zipWith_append (by rw [List.length_take,List.length_take,hc]),List.append_nil]
  unfold kpN
  rw [List.take_zipWith,List.drop_zipWith]
theorem zgu {d:Nat} {n m:Nd} {i:Nat} {k:List UInt8} (hc:n.chains.length=n.keys.length) (hk:n.kids.length=n.keys.length+1) (h1:1≤n.keys.length) (h3:n.keys.length≤3) (hd:0<d) (hw:∀ m∈n.kids,Wf d 1 3 m) (hi:i<n.kids.length) (hm:DelN d n.kids[i] k m) :
  Wf (d+1) 0 3 (zay (zbl n i m) i)∧zaa (zay (zbl n i m) i)=pre ((psN n).take i) ((kpN n).take i)++delP (zaa n.kids[i]) k++suf ((kpN n).drop i) ((psN n).drop (i+1)):=by
 have hm3:=hm.1.keys.2
 obtain⟨s1,s2,s3,s4⟩:=ziq hc hk h1 h3 hd hw hi (hm.1.mono (Nat.zero_le _) (by omega))
 exact⟨s1.mono (Nat.zero_le _) (s4 hm3),by rw [s2,zlh hc hk hi,hm.2]⟩
theorem del_in {d:Nat} {n m:Nd} {k:List UInt8} (h:Pn (d+1) n) (hi:isF n.keys k=false) (hlt:plcF n.keys k<n.kids.length) (hm:DelN d n.kids[plcF n.keys k] k m) :
  DelN (d+1) n k (zay (zbl n (plcF n.keys k) m) (plcF n.keys k)):=by
 obtain⟨d',e,hd,hk,hp,hw,hws⟩:=h.kid hlt
 obtain rfl:d=d':=by omega
 have hc:=h.wf.shape.1
 have h1:1≤n.keys.length:=by
  rcases h.ne with h1 | h1
  ·omega
  ·exact h1
 obtain⟨s1,s2⟩:=zgu hc hk h1 h.wf.keys.2 hd hws hlt hm
 obtain⟨m1,m2⟩:=zfv (k:=k) hc hk h.srt h.ris rfl
 exact⟨s1,by rw [s2,zbz hc hk hlt,zh8 m1 (m2 hi)]⟩
def OutP(last:Bool)(n:Nd)(e:Pr):Prop:=if last then ∃ X,zaa n=X++[e] else ∃ X,zaa n=e::X
theorem out_leaf {n : Nd} {last : Bool} (hc : n.chains.length = n.keys.length) (h0 : n.kids = []) {j : Nat} (hj : j = if last then n.keys.length - 1 else 0) (h : j < n.keys.length) : OutP last n ⟨n.keys[j],n.chains[j]'(by omega)⟩ := by
 have hp : zaa n = kpN n := by
  rw [zaq hc (.inl h0)]
  have hps : psN n = [] := by unfold psN; rw [h0]; rfl
  rw [hps]; simp [zbn]
 have hkl : j < (kpN n).length := by rw [zbd hc]; exact h
 have h5 := zdp hc h
 rw [List.getElem?_eq_getElem hkl] at h5
 have e : kpN n = (kpN n).take j ++ (⟨n.keys[j],n.chains[j]'(by omega)⟩ : Pr) :: (kpN n).drop (j + 1) := by
  rw [← Option.some.inj h5,← List.drop_eq_getElem_cons hkl,List.take_append_drop]
 unfold OutP
 cases last with
 | true =>
  rw [if_pos rfl] at hj ⊢
  refine ⟨(kpN n).take j,?_⟩
  rw [hp]
  conv => lhs; rw [e]
  rw [List.drop_of_length_le (by rw [zbd hc]; omega)]
 | false =>
  rw [if_neg (by simp)] at hj ⊢
  refine ⟨(kpN n).drop (j + 1),?_⟩
  rw [hp]
  conv => lhs; rw [e]
  subst hj
  simp
theorem out_in {n:Nd} {last:Bool} (hc:n.chains.length=n.keys.length) (hk:n.kids.length=n.keys.length+1) {j:Nat} (hj:j=if last then n.kids.length - 1 else 0) (h:j<n.kids.length) {e:Pr} (ho:OutP last n.kids[j] e):OutP last n e:=by
 unfold OutP at ho ⊢
 rw [zbz hc hk h]
 cases last with
 | true =>
  rw [if_pos rfl] at hj ho ⊢
  obtain⟨X,hX⟩:=ho
  refine⟨pre ((psN n).take j) ((kpN n).take j)++X,?_⟩
  rw [hX,List.drop_of_length_le (l:=kpN n) (by rw [zbd hc];omega)]
  simp [suf]
 | false =>
  rw [if_neg (by simp)] at hj ho ⊢
  obtain⟨X,hX⟩:=ho
  refine⟨X++suf ((kpN n).drop j) ((psN n).drop (j+1)),?_⟩
  rw [hX,hj]
  simp [pre]
def zeo (n:Nd) (i:Nat) (e:Pr):Nd:=.mk (n.keys.set i e.key) (n.chains.set i e.chain) n.kids
theorem zqf {n:Nd} {i:Nat} {e:Pr} (hc:n.chains.length=n.keys.length):kpN (zeo n i e)=(kpN n).set i e:=by
 show List.zipWith Pr.mk (n.keys.set i e.key) (n.chains.set i e.chain)=_
 apply List.ext_getElem?
 intro j
 unfold kpN
 rw [List.getElem?_zipWith,List.getElem?_set,List.getElem?_set,List.getElem?_set,List.getElem?_zipWith,List.length_zipWith]
 by_cases hij:i=j
 ·subst hij
  rw [if_pos rfl,if_pos rfl,if_pos rfl]
  by_cases hl:i<n.keys.length
  ·rw [if_pos hl,if_pos (by omega),if_pos (by omega)]
  ·rw [if_neg hl,if_neg (by omega),if_neg (by omega)]
 ·rw [if_neg hij,if_neg hij,if_neg hij]
theorem del_is {d:Nat} {n m:Nd} {k:List UInt8} {e:Pr} {i q:Nat} {last:Bool} (h:Pn (d+1) n) (hi:isF n.keys k=true) (hii:i=plcF n.keys k) (hk0:0<n.kids.length) (hq:q=if last then i else i+1) (hql:q<n.kids.length) (ho:OutP last n.kids[q] e) (hm:DelN d n.kids[q] e.key m) :
  DelN (d+1) n k (zay (zbl (zeo n i e) q m) q):=by
 obtain⟨hl,hk'⟩:=zgx hi
 obtain⟨d',ed,hd,hk,hp,hw,hws⟩:=h.kid hk0
 obtain rfl:d=d':=by omega
 obtain⟨hc,_⟩:=h.wf.shape
 have hl':i<n.keys.length:=hii▸hl
 have hki:n.keys[i]=k:=by subst hii;exact hk'
 obtain⟨_,_,_,_,hpq,_,_⟩:=h.kid hql
 have hsq:Srt (zaa n.kids[q]):=hpq.srt
 have hkl:i<(kpN n).length:=by rw [zbd hc];exact hl'
 have hc1:(zeo n i e).chains.length=(zeo n i e).keys.length:=by
  show (n.chains.set i e.chain).length=(n.keys.set i e.key).length
  rw [List.length_set,List.length_set,hc]
 have hlen1:(zeo n i e).keys.length=n.keys.length:=by
  show (n.keys.set i e.key).length=_
  rw [List.length_set]
 have h1:1≤n.keys.length:=by omega
 obtain⟨s1,s2⟩:=zgu (n:=zeo n i e) (i:=q) hc1 (by rw [hlen1];exact hk) (by rw [hlen1];exact h1) (by rw [hlen1];exact h.wf.keys.2) hd hws hql hm
 refine⟨s1,?_⟩
 rw [s2]
 have eps:psN (zeo n i e)=psN n:=rfl
 have ekid:(zeo n i e).kids[q]'hql=n.kids[q]:=rfl
 rw [eps,ekid,zqf hc]
 have e5:(⟨n.keys[i],n.chains[i]'(by omega)⟩:Pr)=(kpN n)[i]:=by
  have h5:=zdp hc hl'
  rw [List.getElem?_eq_getElem hkl] at h5
  exact (Option.some.inj h5).symm
 have hkey:((kpN n)[i]).key=k:=by rw [← e5];exact hki
 have hps:(psN n).length=n.keys.length+1:=by unfold psN;rw [List.length_map,hk]
 have hsr:=h.srt
 have hil:i<n.kids.length:=by omega
 have hsplit:=zbz hc hk hil
 have esuf:suf ((kpN n).drop i) ((psN n).drop (i+1))=[(kpN n)[i]]++zbn ((psN n).drop (i+1)) ((kpN n).drop (i+1)):=by
  rw [List.drop_eq_getElem_cons hkl]
  simp [suf]
 rw [esuf,← List.append_assoc] at hsplit
 rw [hsplit] at hsr
 have hs:=zex hsr
 have hdel:delP (zaa n) k=pre ((psN n).take i) ((kpN n).take i)++zaa n.kids[i]++zbn ((psN n).drop (i+1)) ((kpN n).drop (i+1)):=by
  rw [hsplit,zh8 (fun p hp=>by have:=hs.2.2.2.1 p hp _ (List.mem_singleton.2 rfl);rwa [hkey] at this) (fun p hp=>by have:=hs.2.2.2.2.1 _ (List.mem_singleton.2 rfl) p hp;rwa [hkey] at this)]
  have:delP [(kpN n)[i]] k=[]:=by unfold delP;simp [hkey]
  rw [this,List.append_nil]
 rw [hdel]
 unfold OutP at ho
 cases last with
 | true =>
  rw [if_pos rfl] at hq ho
  obtain⟨X,hX⟩:=ho
  subst hq
  rw [hX] at hsq ⊢
  have hX2:delP (X++[e]) e.key=X:=by
   have:=zh8 (P:=X) (Q:=[e]) (R:=[]) (k:=e.key) (fun p hp=>(List.pairwise_append.1 hsq).2.2 p hp e (by simp)) (fun p hp=>by cases hp)
   rw [List.append_nil,List.append_nil] at this
   rw [this]
   have:delP [e] e.key=[]:=by unfold delP;simp
   rw [this,List.append_nil]
  rw [hX2,List.take_set_of_le (Nat.le_refl _)]
  have e6:((kpN n).set q e).drop q=e::(kpN n).drop (q+1):=by
   rw [List.set_eq_take_append_cons_drop,if_pos hkl,List.drop_append_of_le_length (by rw [List.length_take];omega),List.drop_of_length_le (by rw [List.length_take];omega)]
   rfl
  rw [e6]
  simp [suf]
 | false =>
  rw [if_neg (by simp)] at hq ho
  obtain⟨X,hX⟩:=ho
  subst hq
  rw [hX] at hsq ⊢
  have hX2:delP (e::X) e.key=X:=by
   have:=zh8 (P:=[]) (Q:=[e]) (R:=X) (k:=e.key) (fun p hp=>by cases hp) (fun p hp=>(List.pairwise_cons.1 hsq).1 p hp)
   simp only [List.nil_append,List.singleton_append] at this
   rw [this]
   have:delP [e] e.key=[]:=by unfold delP;simp
   rw [this,List.nil_append]
  have hpl:i<(psN n).length:=by omega
  have hki2:i<((kpN n).set i e).length:=by rw [List.length_set];exact hkl
  have e6:((kpN n).set i e).take (i+1)=(kpN n).take i++[e]:=by
   rw [List.take_add_one,List.getElem?_eq_getElem hki2,List.getElem_set_self,List.take_set_of_le (Nat.le_refl _)]
   rfl
  have e7:(psN n).take (i+1)=(psN n).take i++[zaa n.kids[i]]:=by
   rw [List.take_add_one,List.getElem?_eq_getElem hpl]
   have:(psN n)[i]=zaa n.kids[i]:=List.getElem_map (l:=n.kids) zaa
   rw [this]
   rfl
  have e8:((kpN n).set i e).drop (i+1)=(kpN n).drop (i+1):=List.drop_set_of_lt (Nat.lt_succ_self _)
  have e9:zbn ((psN n).drop (i+1)) ((kpN n).drop (i+1))=(e::X)++suf ((kpN n).drop (i+1)) ((psN n).drop (i+1+1)):=by
   have hpl1:i+1<(psN n).length:=by unfold psN;rw [List.length_map];exact hql
   rw [List.drop_eq_getElem_cons hpl1,zca]
   have:(psN n)[i+1]=zaa n.kids[i+1]:=List.getElem_map (l:=n.kids) zaa
   rw [this,hX]
  rw [hX2,e6,e7,e8,e9,zjx (by rw [List.length_take,List.length_take,zbd hc];omega)]
  simp
end Go.Proofs.YtlpfhgdnmjkngaaGreat
