/-
  TEXTS OF ONE PROOF, merged: Setr, Cbs, Tri, Ver, VerM, VerD, VerC, VerE, VerN, VerX, Ltb, TreM, TreN, TreO, Tre, TreF, TreP, TreX, TreZ, OctB, VerP, VerQ, VerK, VerY, Cut.
-/
import Derived.BigQuiet
import Derived.Deep.Cut
import Derived.Deep.QuietTactic
import Derived.Shelf.Abstract
import Derived.Test.YtkobhdllagbkhaaGreatKn1
namespace Go.Proofs.YtkobhdllagbkhaaGreat
open Go.RowKit Go.Shelf
set_option maxRecDepth 100000
set_option maxHeartbeats 32000000
section
variable {P : Program} {Q : Exit → Act → World → Prop}
def don (D:Nat->Bool)(i:Nat):Nat->Bool:=λj=>if j=i then true else D j
def told (S:List Nat)(D:Nat->Bool)(vs:Nat->Value):List (Option Value):=S.map λj=>if D j then some (vs j)else none
def SetOp(P:Program)(Q:Exit->Act->World->Prop)(ops:Array Oper)(a:Act)(S:List Nat)(G:Nat->World->Value->Prop)(E:List (Option Value)->World->Prop)(K:World->World->Prop)(i:Nat)(o:Oper):Prop:=
 ∀(A:Act)(va:Nat->Value)(D:Nat->Bool)(w':World),(∀t,zcj ops.toList 0 t=none->A.eval (.tmp t)=a.eval (.tmp t))->(∀t j,t<a.tmps.size->zcj ops.toList 0 t=some j->A.eval (.tmp t)=va j)->D i=false->E (told S D va) w'->(∀e∈o.after,Region.binds .any e=true->D e.on=true)->(∀j d,D j=false->(ops[j]?).bind (·.dst)=some d->va j=a.eval (.tmp d))->(∀e∈o.after,Region.binds .any e=true->S.contains e.on=false->G e.on w' (va e.on))->
  o.wp P A w' (λa2 w2=>∃v,a2=A.put o.dst v/\E (told S (don D i) (upd va i v)) w2/\K w' w2) Q
def FreeOp (P:Program)(Q:Exit->Act->World->Prop)(ops:Array Oper)(a:Act)(S:List Nat)(G:Nat->World->Value->Prop)(E:List (Option Value)->World->Prop)(i:Nat)(o:Oper):Prop:=
 ∀(A:Act)(va:Nat->Value)(D:Nat->Bool)(w':World),(∀t,zcj ops.toList 0 t=none->A.eval (.tmp t)=a.eval (.tmp t))->(∀t j,t<a.tmps.size->zcj ops.toList 0 t=some j->A.eval (.tmp t)=va j)->D i=false->E (told S D va) w'->(∀e∈o.after,Region.binds .any e=true->D e.on=true)->(∀j d,D j=false->(ops[j]?).bind (·.dst)=some d->va j=a.eval (.tmp d))->(∀e∈o.after,Region.binds .any e=true->S.contains e.on=false->G e.on w' (va e.on))->
  o.wp P A w' (λa2 w2=>∃v,a2=A.put o.dst v/\G i w2 v/\Below w'.heap.size w' w2) Q
def StOp (P:Program)(Q:Exit->Act->World->Prop)(ops:Array Oper)(a:Act)(S:List Nat)(G:Nat->World->Value->Prop)(E:List (Option Value)->World->Prop)(K:World->World->Prop)(i:Nat)(o:Oper):Prop:=
 o.guard=none/\((S.contains i=true/\SetOp P Q ops a S G E K i o)\/(S.contains i=false/\FreeOp P Q ops a S G E i o))
theorem StOp.set{ops:Array Oper}{a:Act}{S:List Nat}{G:Nat->World->Value->Prop}{E:List (Option Value)->World->Prop}{K:World->World->Prop}{i:Nat}{o:Oper}(hg:o.guard=none)(hp:S.contains i=true)(h:SetOp P Q ops a S G E K i o):StOp P Q ops a S G E K i o:=⟨hg,.inl ⟨hp,h⟩⟩
theorem StOp.free{ops:Array Oper}{a:Act}{S:List Nat}{G:Nat->World->Value->Prop}{E:List (Option Value)->World->Prop}{K:World->World->Prop}{i:Nat}{o:Oper}(hg:o.guard=none)(hp:S.contains i=false)(h:FreeOp P Q ops a S G E i o):StOp P Q ops a S G E K i o:=⟨hg,.inr ⟨hp,h⟩⟩
def zjy(P:Program)(Q:Exit->Act->World->Prop)(ops:Array Oper)(a:Act)(S:List Nat)(G:Nat->World->Value->Prop)(E:List (Option Value)->World->Prop)(K:World->World->Prop):Nat->List Oper->Prop
 |_,[]=>True
 |i,o::rest=>StOp P Q ops a S G E K i o/\zjy P Q ops a S G E K (i+1) rest
theorem zjy.get{ops:Array Oper}{a:Act}{S:List Nat}{G:Nat->World->Value->Prop}{E:List (Option Value)->World->Prop}{K:World->World->Prop}:∀(l:List Oper)(k j:Nat)(o:Oper),zjy P Q ops a S G E K k l->l[j]?=some o->StOp P Q ops a S G E K (k+j) o
  |[],_,_,_,_,h=>by simp at h
  | o' :: rest, k, 0, o, h, hj => by obtain rfl:o'=o:=by simpa using hj
                                     exact h.1
  |o'::rest,k,j+1,o,h,hj=>by rw[show k+(j+1)=k+1+j by omega];exact zjy.get rest (k+1) j o h.2 (by simpa using hj)
theorem told_out{S:List Nat}{D:Nat->Bool}{vs:Nat->Value}{i:Nat}{v:Value}(h:i∉S):told S (don D i) (upd vs i v)=told S D vs:=by
 refine wB λj hj=>?_
 have:j≠i:=λe=>h (by rw[<-e];exact hj)
 simp[upd,don,this]
theorem zqu{ops:Array Oper}{a:Act}{w:World}(hs:gdB ops=true)(S:List Nat)(hS:(S.all λc=>decide (c<ops.size))=true)(G:Nat->World->Value->Prop)(E:List (Option Value)->World->Prop)(K:World->World->Prop)(hG:∀i w v w',G i w v->Below w.heap.size w w'->G i w' v)(hK:∀i w v w',G i w v->K w w'->G i w' v)(hE:∀l w w',E l w->Below w.heap.size w w'->E l w')(h0:E (S.map λ_=>none) w)
    (hop:zjy P Q ops a S G E K 0 ops.toList)
    (hend:∀(vs:Nat->Value)(w':World),E (S.map λj=>some (vs j)) w'->(∀i,i<ops.size->S.contains i=false->G i w' (vs i))->Q .normal (zaj a ops.toList vs 0) w'):zhp P ops Q ops.size (Array.replicate ops.size false) a {w with drawn:=w.drawn+1}:=by
  have hnd:(ops.toList.filterMap (·.dst)).Nodup:=by simp only[gdB,zpf,yk,yP]at hs;exact hs.2
  have hSl:∀c∈S,c<ops.size:=λc hc=>by simpa using xr.1 hS c hc
  have main:∀(fuel:Nat)(listed:Array Bool)(vs:Nat->Value)(w':World),listed.size=ops.size->(zc2 ops.size listed).length<=fuel->E (told S (λj=>listed.getD j true) vs) w'->(∀i,i<ops.size->listed.getD i true=true->S.contains i=false->G i w' (vs i))->(∀j,j<ops.size->listed.getD j true=false->∀d,(ops[j]?).bind (·.dst)=some d->vs j=a.eval (.tmp d))->zhp P ops Q fuel listed (zaj a ops.toList vs 0) w':=by
    intro fuel;have fin:∀(listed:Array Bool)(vs:Nat->Value)(w':World),E (told S (λj=>listed.getD j true) vs) w'->(∀i,i<ops.size->listed.getD i true=true->S.contains i=false->G i w' (vs i))->(∀i,i<ops.size->listed.getD i true=true)->Q .normal (zaj a ops.toList vs 0) w':=by
      intro listed vs w' hE' hG' hall;refine hend vs w' ?_ λi hi hc=>hG' i hi (hall i hi) hc
      have:told S (λj=>listed.getD j true) vs=S.map λj=>some (vs j):=wB λj hj=>by simp[hall j (hSl j hj)]
      rw[<-this];exact hE'
    induction fuel with
    |zero=>
      intro listed vs w' hsz hu hE' hG' hun;have hall:∀i,i<ops.size->listed.getD i true=true:=by
        intro i hi;cases hl:listed.getD i true with
        |true=>rfl
        |false=>
          have:i∈zc2 ops.size listed:=xT.2 ⟨yY.2 hi,by simp[hl]⟩;rw[yg (Nat.le_zero.1 hu)]at this;cases this
      refine⟨?_,fin listed vs w' hE' hG' hall⟩;unfold Region.ready;rw[wU];intro i hi;simp[hall i (List.mem_range.1 hi)]
    |succ fuel ih=>
      intro listed vs w' hsz hu hE' hG' hun;refine⟨λhr=>fin listed vs w' hE' hG' (λi hi=>zfa hs hr i hi),λi hi=>?_⟩;unfold Region.ready at hi;obtain⟨hi1,hi2⟩:=xT.1 hi;have hlt:=yY.1 hi1;rw[yk]at hi2;obtain⟨hl,hdep⟩:=hi2;have hl':listed.getD i true=false:=by simpa using hl
      obtain⟨o,ho⟩:∃o,ops[i]?=some o:=⟨_,xU hlt⟩;rw[ho]at hdep;simp only[xF,xk]at hdep;rw[ww]at hdep;have hgop:=zjy.get ops.toList 0 i o hop (by rw[yF];exact ho);rw[zR]at hgop;have hdepG:∀e∈o.after,Region.binds .any e=true->e.on<ops.size/\listed.getD e.on true=true:=by
        intro e he hbn;have h:=hdep e he;rw[hbn]at h;simp only[Bool.not_true,Bool.false_or]at h;have hin:e.on<listed.size:=by
          rcases zA e.on listed.size with h'|h'
          ·exact h'
          ·simp[Array.getD_eq_getD_getElem?,wz.2 h']at h
        have hl2:listed.getD e.on true=true:=by
          simp only[yt,xU hin,xk]at h⊢;exact h
        exact⟨by omega,hl2⟩
      have hdepS:∀e∈o.after,Region.binds .any e=true->S.contains e.on=false->G e.on w' (vs e.on):=λe he hbn hc=>hG' e.on (hdepG e he hbn).1 (hdepG e he hbn).2 hc
      have hdepD:∀e∈o.after,Region.binds .any e=true->(λj=>listed.getD j true) e.on=true:=λe he hbn=>(hdepG e he hbn).2
      have hlate:∀j d,(λj=>listed.getD j true) j=false->(ops[j]?).bind (·.dst)=some d->vs j=a.eval (.tmp d):=by
        intro j d hj hd;refine hun j ?_ hj d hd;rcases zA j ops.size with h|h
        ·exact h
        · rw[Array.getElem?_eq_none h]at hd;simp at hd
      have hset:∀j,(listed.setIfInBounds i true).getD j true=don (λj=>listed.getD j true) i j:=λj=>by
        by_cases hji:j=i
        · subst hji
          simp[don,Array.getD_eq_getD_getElem?,Array.getElem?_setIfInBounds_self_of_lt (by omega:j<listed.size)]
        ·simp[don,hji,Array.getD_eq_getD_getElem?,Array.getElem?_setIfInBounds_ne (Ne.symm hji)]
      have step:∀(v:Value)(w2:World),E (told S (don (λj=>listed.getD j true) i) (upd vs i v)) w2->(S.contains i=false->G i w2 v)->(∀j u,S.contains j=false->G j w' u->G j w2 u)->zhp P ops Q fuel (listed.setIfInBounds i true) ((zaj a ops.toList vs 0).put o.dst v) w2:=by
        intro v w2 hE2 hGi hGs;rw[zf0 ops.toList a vs 0 i o v hnd (by rw[yF];exact ho),zR];refine ih _ _ _ (by simp[hsz]) (by have:=zfl hsz hlt hl';omega) ?_ (λj hj hlj hc=>?_) (λj hj hlj d hd=>?_)
        · rw[show(λj=>(listed.setIfInBounds i true).getD j true)=don (λj=>listed.getD j true) i from funext hset]
          exact hE2
        · by_cases hji:j=i
          · subst hji
            simpa[upd]using hGi hc
          · have hlj':listed.getD j true=true:=by rw[hset]at hlj;simpa[don,hji]using hlj
            have hv:upd vs i v j=vs j:=by simp[upd,hji]
            rw[hv];exact hGs j _ hc (hG' j hj hlj' hc)
        · have hji:j≠i:=λe=>by
            rw[hset,e]at hlj;simp[don]at hlj
          have hv:upd vs i v j=vs j:=by simp[upd,hji]
          rw[hv];rw[hset]at hlj;exact hun j hj (by simpa[don,hji]using hlj) d hd
      unfold wpOpS;simp only[ho,Region.wanted,hgop.1,yl];rcases hgop.2 with⟨hc,hln⟩|⟨hc,hsd⟩
      · have hwp:=hln (zaj a ops.toList vs 0) vs (λj=>listed.getD j true) w' (λt h=>zbn _ _ _ _ _ h) (λt j ht h=>zbs _ _ _ _ _ _ hnd ht h) hl' hE' hdepD hlate hdepS
        refine xO ?_ hwp;rintro a2 w2 ⟨v,rfl,hE2,hK2⟩;exact step v w2 hE2 (λh=>by rw[hc]at h;cases h) (λj u _ hg=>hK j w' u w2 hg hK2)
      · have hci:i∉S:=λh=>by rw[List.contains_iff_mem.2 h]at hc;cases hc
        have hwp:=hsd (zaj a ops.toList vs 0) vs (λj=>listed.getD j true) w' (λt h=>zbn _ _ _ _ _ h) (λt j ht h=>zbs _ _ _ _ _ _ hnd ht h) hl' hE' hdepD hlate hdepS;refine xO ?_ hwp;rintro a2 w2 ⟨v,rfl,hg,hb2⟩;refine step v w2 ?_ (λ_=>hg) (λj u _ hgj=>hG j w' u w2 hgj hb2);rw[told_out hci];exact hE _ _ _ hE' hb2
  have hbz:Below w.heap.size w {w with drawn:=w.drawn+1}:=⟨rfl,rfl,rfl,zf _,λ_ _=>rfl⟩;have hno:∀j,j<ops.size->(Array.replicate ops.size false).getD j true=false:=λj hj=>by simp[Array.getD_eq_getD_getElem?,hj]
  have h1:=main ops.size (Array.replicate ops.size false) (λi=>((ops[i]?).bind (·.dst)).elim undef (λd=>a.tmps.getD d undef)) {w with drawn:=w.drawn+1} (by simp)
    (by have:=wi (λi=>!(Array.replicate ops.size false).getD i true) (List.range ops.size);simpa[zc2]using this)
    (by
      have:told S (λj=>(Array.replicate ops.size false).getD j true) (λi=>((ops[i]?).bind (·.dst)).elim undef (λd=>a.tmps.getD d undef))=S.map λ_=>none:=wB λj hj=>by simp[hno j (hSl j hj)]
      rw[this];exact hE _ _ _ h0 hbz)
    (λi hi h=>by rw[hno i hi]at h;cases h)
    (λj hj _ d hd=>by simp only[hd,Option.elim];rfl)
  rw[ze3 ops.toList a _ 0 (λj o d hj hd=>by
    rw[yF]at hj;simp[hj,hd])]at h1
  exact h1
theorem zke{id:Nat}{ops:Array Oper}{a:Act}{w:World}(hm:P.follows .mixedOrders=true)(hs:gdB ops=true)(S:List Nat)(hS:(S.all λc=>decide (c<ops.size))=true)(G:Nat->World->Value->Prop)(E:List (Option Value)->World->Prop)(K:World->World->Prop)(hG:∀i w v w',G i w v->Below w.heap.size w w'->G i w' v)(hK:∀i w v w',G i w v->K w w'->G i w' v)(hE:∀l w w',E l w->Below w.heap.size w w'->E l w')(h0:E (S.map λ_=>none) w)
  (hop:zjy P Q ops a S G E K 0 ops.toList)
  (hend:∀(vs:Nat->Value)(w':World),E (S.map λj=>some (vs j)) w'->(∀i,i<ops.size->S.contains i=false->G i w' (vs i))->Q .normal (zaj a ops.toList vs 0) w'):(Code.region id ops true).wp P Q a w:=znv hm (zqu hs S hS G E K hG hK hE h0 hop hend)
theorem zii{l n:Nat}{id:Nat}{ops:Array Oper}{a:Act}{w:World}(hm:P.follows .mixedOrders=true)(hd:zla ops=true)(hs:gdB ops=true)(S:List Nat)(hS:(S.all λc=>decide (c<ops.size))=true)(G:Nat->World->Value->Prop)(E:List (Option Value)->World->Prop)(K:World->World->Prop)(hG:∀i w v w',G i w v->Below w.heap.size w w'->G i w' v)(hK:∀i w v w',G i w v->K w w'->G i w' v)(hE:∀l w w',E l w->Below w.heap.size w w'->E l w')(h0:E (S.map λ_=>none) w)
  (hop:zjy P Q ops a S G E K 0 ops.toList)
  (hend:∀(vs:Nat->Value)(w':World),E (S.map λj=>some (vs j)) w'->(∀i,i<ops.size->S.contains i=false->G i w' (vs i))->Q .normal (zaj a ops.toList vs 0) w'):(Code.region id ops true).wpIn (Fence.wide.inRound l) n P Q a w:=zkk hm hd (zqu hs S hS G E K hG hK hE h0 hop hend)
end
section
variable {P : Program} {Q : Exit → Act → World → Prop} {K : World → World → Prop}
theorem zcn{id:Nat}{ops:Array Oper}{a:Act}{w:World}(hm:P.follows .mixedOrders=true)(hs:gdB ops=true)(S:List Nat)(hS:(S.all λc=>decide (c<ops.size))=true)(Gs:List (SGn K))(E:List (Option Value)->World->Prop)(hE:∀l w w',E l w->Below w.heap.size w w'->E l w')(h0:E (S.map λ_=>none) w)
  (hop:zjy P Q ops a S (λi=>(Gs.getD i lAny).1) E K 0 ops.toList)
  (hend:∀(vs:Nat->Value)(w':World),E (S.map λj=>some (vs j)) w'->(∀i,i<ops.size->S.contains i=false->(Gs.getD i lAny).1 w' (vs i))->Q .normal (zaj a ops.toList vs 0) w'):(Code.region id ops true).wp P Q a w:=
 zke hm hs S hS (λi=>(Gs.getD i lAny).1) E K (λi=>(Gs.getD i lAny).2.1) (λi=>(Gs.getD i lAny).2.2) hE h0 hop hend
theorem zh0{l n:Nat}{id:Nat}{ops:Array Oper}{a:Act}{w:World}(hm:P.follows .mixedOrders=true)(hd:zla ops=true)(hs:gdB ops=true)(S:List Nat)(hS:(S.all λc=>decide (c<ops.size))=true)(Gs:List (SGn K))(E:List (Option Value)->World->Prop)(hE:∀l w w',E l w->Below w.heap.size w w'->E l w')(h0:E (S.map λ_=>none) w)
  (hop:zjy P Q ops a S (λi=>(Gs.getD i lAny).1) E K 0 ops.toList)
  (hend:∀(vs:Nat->Value)(w':World),E (S.map λj=>some (vs j)) w'->(∀i,i<ops.size->S.contains i=false->(Gs.getD i lAny).1 w' (vs i))->Q .normal (zaj a ops.toList vs 0) w'):(Code.region id ops true).wpIn (Fence.wide.inRound l) n P Q a w:=
 zii hm hd hs S hS (λi=>(Gs.getD i lAny).1) E K (λi=>(Gs.getD i lAny).2.1) (λi=>(Gs.getD i lAny).2.2) hE h0 hop hend
end
def newB (W:World)(z:Option Value)(w:World)(g:Nat):Prop:=W.heap.size<=g/\g<w.heap.size/\∀b,z=some (.pointer (some ⟨b,0,none⟩))->g≠b
def newC(W:World)(o0 z:Option Value)(w:World)(g:Nat):Prop:=newB W z w g/\∀b n m,o0=some (.slice (some ⟨b,0,none⟩) n m)->g≠b
structure RdP (R:(Nat->Prop)->World->Value->Value->Prop):Prop where
 keep:∀{S w w' v e},R S w v e->(∀k,S k->w'.heap[k]?=w.heap[k]?)->R S w' v e
 weak:∀{S S' w v e},R S w v e->(∀k,S k->S' k)->R S' w v e
structure CbS (hk:Bool)(C0:Array Value)(E0:TypeId)(R:(Nat->Prop)->World->Value->Value->Prop)(Z:Obj)(Bx:World->Nat->Value->Prop)(K1 K2:(Nat->Prop)->World->Value->Prop)(W:World)(o0 o1 o2 c m x y z s:Option Value)(w:World):Prop where
 be:Below W.heap.size W w
 k0:∀u,o0=some u->∃g,u=.slice (some ⟨g,0,none⟩) C0.size C0.size/\newB W z w g/\(o1=none->w.heap[g]?=some (.cells C0 E0 (0,0)))
 k1:∀u,o1=some u->K1 (newB W z w) w u
 k2:∀u,o2=some u->K2 (newC W o0 z w) w u
 rr:∀u,c=some u->∃v e,u=.tuple #[v,e]/\R (newC W o0 z w) w v e
 mv:∀u,m=some u->c=some u
 mx:∀u,x=some u->∃e,m=some (.tuple #[u,e])
 my:∀u,y=some u->∃v,m=some (.tuple #[v,u])
 zz:∀u,z=some u->∃b,u=.pointer (some ⟨b,0,none⟩)/\W.heap.size<=b/\b<w.heap.size/\(s=none->w.heap[b]?=some Z)
 sc:s≠none->c≠none
 dk:hk=true->c≠none->o0≠none/\o1≠none
 d1:hk=true->o1≠none->o0≠none
 ss:∀u,s=some u->∃b v,z=some (.pointer (some ⟨b,0,none⟩))/\x=some v/\Bx w b v
section
variable {hk : Bool} {C0 : Array Value} {E0 : TypeId} {R : (Nat → Prop) → World → Value → Value → Prop} {Z : Obj} {Bx : World → Nat → Value → Prop} {K1 K2 : (Nat → Prop) → World → Value → Prop} {W w w' : World} {o0 o1 o2 c m x y z s : Option Value}
theorem CbS.start(W:World):CbS hk C0 E0 R Z Bx K1 K2 W none none none none none none none none none W where
 be:=ze _ _;k0 _ h:=by cases h
 k1 _ h:=by cases h
 k2 _ h:=by cases h
 rr _ h:=by cases h
 mv _ h:=by cases h
 mx _ h:=by cases h
 my _ h:=by cases h
 zz _ h:=by cases h
 sc h:=absurd rfl h;dk _ h:=absurd rfl h;d1 _ h:=absurd rfl h;ss _ h:=by cases h
structure zo3(R:(Nat->Prop)->World->Value->Value->Prop)(Bx:World->Nat->Value->Prop)(K1 K2:(Nat->Prop)->World->Value->Prop):Prop extends RdP R where
 bx:∀{w w' b v},Bx w b v->Below w.heap.size w w'->Bx w' b v
 s1:∀{S w w' u},K1 S w u->(∀k,S k->w'.heap[k]?=w.heap[k]?)->K1 S w' u
 w1:∀{S S' w u},K1 S w u->(∀k,S k->S' k)->K1 S' w u
 s2:∀{S w w' u},K2 S w u->(∀k,S k->w'.heap[k]?=w.heap[k]?)->K2 S w' u
 w2:∀{S S' w u},K2 S w u->(∀k,S k->S' k)->K2 S' w u
theorem CbS.more (hS:zo3 R Bx K1 K2)(h:CbS hk C0 E0 R Z Bx K1 K2 W o0 o1 o2 c m x y z s w)(hb:Below w.heap.size w w'):CbS hk C0 E0 R Z Bx K1 K2 W o0 o1 o2 c m x y z s w' where
 be:=h.be.trans (hb.mono h.be.size);k0 u hu:=by
  obtain⟨g,e,h1,h2⟩:=h.k0 u hu;exact⟨g,e,⟨h1.1,zm h1.2.1 hb.size,h1.2.2⟩,λh3=>(hb.block g h1.2.1).trans (h2 h3)⟩
 k1 u hu:=hS.w1 (hS.s1 (h.k1 u hu) λk hk=>hb.block k hk.2.1) λk hk=>⟨hk.1,zm hk.2.1 hb.size,hk.2.2⟩
 k2 u hu:=hS.w2 (hS.s2 (h.k2 u hu) λk hk=>hb.block k hk.1.2.1) λk hk=>⟨⟨hk.1.1,zm hk.1.2.1 hb.size,hk.1.2.2⟩,hk.2⟩
 rr u hu:=by
  obtain⟨v,e,e1,h1⟩:=h.rr u hu;exact⟨v,e,e1,hS.weak (hS.keep h1 λk hk=>hb.block k hk.1.2.1) λk hk=>⟨⟨hk.1.1,zm hk.1.2.1 hb.size,hk.1.2.2⟩,hk.2⟩⟩
 mv:=h.mv;mx:=h.mx;my:=h.my;zz u hu:=by
  obtain⟨b,e,h1,h2,h3⟩:=h.zz u hu;exact⟨b,e,h1,zm h2 hb.size,λhs=>(hb.block b h2).trans (h3 hs)⟩
 sc:=h.sc;dk:=h.dk;d1:=h.d1;ss u hu:=by
  obtain⟨b,v,e1,e2,h1⟩:=h.ss u hu;exact⟨b,v,e1,e2,hS.bx h1 hb⟩
theorem CbS.new(h:CbS hk C0 E0 R Z Bx K1 K2 W o0 o1 o2 c m x y z s w){w':World}{g:Nat}(hg:w.heap.size<=g/\g<w'.heap.size):newB W z w' g:=
 ⟨zv h.be.size hg.1,hg.2,λb hz=>by
  obtain⟨b',e',_,h4,_⟩:=h.zz _ hz;injection e' with e';injection e' with e';injection e' with e';omega⟩
theorem CbS.newOwn (h:CbS hk C0 E0 R Z Bx K1 K2 W o0 o1 o2 c m x y z s w){w':World}{g:Nat}(hg:w.heap.size<=g/\g<w'.heap.size):newC W o0 z w' g:=
 ⟨h.new hg,λb n' m' e=>by
  obtain⟨g',e',h1,_⟩:=h.k0 _ e;injection e' with e';injection e' with e';injection e' with e';have:=h1.2.1;omega⟩
theorem CbS.call (hS:zo3 R Bx K1 K2)(h:CbS hk C0 E0 R Z Bx K1 K2 W o0 o1 o2 none m x y z s w)(hd:hk=true->o1≠none){v e:Value}(hb:Below w.heap.size w w')(hr:R (λg=>w.heap.size<=g/\g<w'.heap.size) w' v e):CbS hk C0 E0 R Z Bx K1 K2 W o0 o1 o2 (some (.tuple #[v,e])) m x y z s w':=by
 have h2:=h.more hS hb;have hm:m=none:=by
  cases hm:m with
  |none=>rfl
  |some u=>have:=h.mv u hm;cases this
 exact{h2 with
  rr:=λu hu=>by
   injection hu with hu;exact⟨v,e,hu.symm,hS.weak hr λg hg=>h.newOwn hg⟩
  mv:=λu hu=>by rw[hm]at hu;cases hu
  sc:=λ_=>by simp
  dk:=λh1 _=>⟨h.d1 h1 (hd h1),hd h1⟩}
theorem CbS.move{u:Value}(h:CbS hk C0 E0 R Z Bx K1 K2 W o0 o1 o2 (some u) none x y z s w):CbS hk C0 E0 R Z Bx K1 K2 W o0 o1 o2 (some u) (some u) x y z s w:=
 {h with
  mv:=λ_ e=>e
  mx:=λu' hu=>by obtain⟨e,h2⟩:=h.mx u' hu;cases h2
  my:=λu' hu=>by obtain⟨e,h2⟩:=h.my u' hu;cases h2}
theorem CbS.tup{u:Value}(h:CbS hk C0 E0 R Z Bx K1 K2 W o0 o1 o2 c (some u) x y z s w):∃v e,u=.tuple #[v,e]:=by
 obtain⟨v,e,h1,_⟩:=h.rr u (h.mv u rfl);exact⟨v,e,h1⟩
theorem CbS.ex0{v e:Value}(h:CbS hk C0 E0 R Z Bx K1 K2 W o0 o1 o2 c (some (.tuple #[v,e])) none y z s w):CbS hk C0 E0 R Z Bx K1 K2 W o0 o1 o2 c (some (.tuple #[v,e])) (some v) y z s w:=
 {h with
  mx:=λu hu=>by injection hu with hu;exact⟨e,by rw[hu]⟩
  ss:=λu hu=>by obtain⟨b,v',_,e2,_⟩:=h.ss u hu;cases e2}
theorem CbS.ex1{v e:Value}(h:CbS hk C0 E0 R Z Bx K1 K2 W o0 o1 o2 c (some (.tuple #[v,e])) x none z s w):CbS hk C0 E0 R Z Bx K1 K2 W o0 o1 o2 c (some (.tuple #[v,e])) x (some e) z s w:=
 {h with my:=λu hu=>by injection hu with hu;exact⟨v,by rw[hu]⟩}
theorem CbS.alloc (hS:zo3 R Bx K1 K2)(h:CbS hk C0 E0 R Z Bx K1 K2 W o0 o1 o2 c m x y none s w)(hb:Below w.heap.size w w')(hz:w'.heap[w.heap.size]?=some Z):CbS hk C0 E0 R Z Bx K1 K2 W o0 o1 o2 c m x y (some (.pointer (some ⟨w.heap.size,0,none⟩))) s w':=by
 have h2:=h.more hS hb;have hn:∀k,newB W none w k->newB W (some (.pointer (some ⟨w.heap.size,0,none⟩))) w' k:=λk hk=>⟨hk.1,zm hk.2.1 hb.size,λb e2=>by
  injection e2 with e2;injection e2 with e2;injection e2 with e2;injection e2 with e2;have:=hk.2.1;omega⟩
 have hn2:∀k,newC W o0 none w k->newC W o0 (some (.pointer (some ⟨w.heap.size,0,none⟩))) w' k:=λk hk=>⟨hn k hk.1,hk.2⟩
 exact{h2 with
  k0:=λu hu=>by
   obtain⟨g,e,h1,h3⟩:=h.k0 u hu;exact⟨g,e,hn g h1,λh4=>(hb.block g h1.2.1).trans (h3 h4)⟩
  k1:=λu hu=>hS.w1 (hS.s1 (h.k1 u hu) λk hk=>hb.block k hk.2.1) hn
  k2:=λu hu=>hS.w2 (hS.s2 (h.k2 u hu) λk hk=>hb.block k hk.1.2.1) hn2
  rr:=λu hu=>by
   obtain⟨v,e,e1,h1⟩:=h.rr u hu;exact⟨v,e,e1,hS.weak (hS.keep h1 λk hk=>hb.block k hk.1.2.1) hn2⟩
  zz:=λu hu=>by
   injection hu with hu;exact⟨_,hu.symm,h.be.size,(zJ.1 hz).1,λ_=>hz⟩
  ss:=λu hu=>by obtain⟨b,v',e1,_,_⟩:=h.ss u hu;cases e1}
theorem CbS.box{p:Value}(h:CbS hk C0 E0 R Z Bx K1 K2 W o0 o1 o2 c m x y (some p) none w):∃b,p=.pointer (some ⟨b,0,none⟩)/\w.heap[b]?=some Z:=by
 obtain⟨b,e,_,_,h3⟩:=h.zz p rfl;exact⟨b,e,h3 rfl⟩
theorem CbS.sto(hS:zo3 R Bx K1 K2){v u:Value}{b:Nat}(h:CbS hk C0 E0 R Z Bx K1 K2 W o0 o1 o2 c m (some v) y (some (.pointer (some ⟨b,0,none⟩))) none w)(hg:w.grownBy w' (some b))(hx:Bx w' b v):CbS hk C0 E0 R Z Bx K1 K2 W o0 o1 o2 c m (some v) y (some (.pointer (some ⟨b,0,none⟩))) (some u) w':=by
 obtain⟨b',e,hb1,hb2,_⟩:=h.zz _ rfl;injection e with e;injection e with e;injection e with e;subst e;obtain⟨e0,hm⟩:=h.mx v rfl;have hc:=h.mv _ hm;have hne:c≠none:=by rw[hc];simp
 have hbe:Below W.heap.size W w':=h.be.grown hg h.be.size λk e=>by injection e with e;omega
 have hkb:∀k,newB W (some (.pointer (some ⟨b,0,none⟩))) w k->w'.heap[k]?=w.heap[k]?:=λk hk=>hg.block k hk.2.1 λe2=>by injection e2 with e2;exact hk.2.2 _ rfl e2
 have hsz:∀k,newB W (some (.pointer (some ⟨b,0,none⟩))) w k->newB W (some (.pointer (some ⟨b,0,none⟩))) w' k:=λk hk=>⟨hk.1,zm hk.2.1 hg.size,hk.2.2⟩
 exact{h with
  be:=hbe
  k0:=λu hu=>by
   obtain⟨g,e,h1,h3⟩:=h.k0 u hu;exact⟨g,e,hsz g h1,λh4=>(hkb g h1).trans (h3 h4)⟩
  k1:=λu hu=>hS.w1 (hS.s1 (h.k1 u hu) hkb) hsz
  k2:=λu hu=>hS.w2 (hS.s2 (h.k2 u hu) λk hk=>hkb k hk.1) λk hk=>⟨hsz k hk.1,hk.2⟩
  rr:=λu hu=>by
   obtain⟨v,e,e1,h1⟩:=h.rr u hu;exact⟨v,e,e1,hS.weak (hS.keep h1 λk hk=>hkb k hk.1) λk hk=>⟨hsz k hk.1,hk.2⟩⟩
  zz:=λu hu=>by
   injection hu with hu;exact⟨b,hu.symm,hb1,zm hb2 hg.size,λe=>by cases e⟩
  sc:=λ_=>hne
  ss:=λ_ _=>⟨b,v,rfl,rfl,hx⟩}
theorem CbS.done(hR:RdP R){u1 u2 u3 u4 u5:Value}(h:CbS hk C0 E0 R Z Bx K1 K2 W o0 o1 o2 (some u1) (some u2) (some u3) (some u4) (some u5) s w) (hs:s≠none):∃b,u5=.pointer (some ⟨b,0,none⟩)/\u2=.tuple #[u3,u4]/\u1=.tuple #[u3,u4]/\W.heap.size<=b/\Bx w b u3/\R (λg=>W.heap.size<=g/\g<w.heap.size/\g≠b) w u3 u4/\Below W.heap.size W w:=by
 obtain⟨u,rfl⟩:=Option.ne_none_iff_exists'.1 hs;obtain⟨b,v,e1,e2,h1⟩:=h.ss u rfl;obtain⟨e,h2⟩:=h.mx u3 rfl;obtain⟨e',h3⟩:=h.my u4 rfl;have h4:=h.mv _ h2;injection e1 with e1;injection e2 with e2;injection h2 with h2;injection h3 with h3;subst e1 e2;rw[h2]at h3;injection h3 with h3;injection h3 with h3;injection h3 with e5 h3;injection h3 with e6 _;subst e5 e6 h2;injection h4 with h4;subst h4;obtain⟨v',e',e7,h5⟩:=h.rr _ rfl;injection e7 with e7;injection e7 with e7;injection e7 with e8 e7;injection e7 with e9 _;subst e8 e9;obtain⟨b',e,hb1,_,_⟩:=h.zz _ rfl;injection e with e;injection e with e;injection e with e;subst e;exact⟨b,rfl,rfl,rfl,hb1,h1,hR.weak h5 λk hk=>⟨hk.1.1,hk.1.2.1,hk.1.2.2 _ rfl⟩,h.be⟩
def CbL(C0:Array Value)(E0:TypeId)(R:(Nat->Prop)->World->Value->Value->Prop)(Z:Obj)(Bx:World->Nat->Value->Prop)(K1 K2:(Nat->Prop)->World->Value->Prop)(W:World):List (Option Value)->World->Prop
 |[c,m,x,y,z,s],w=>CbS false C0 E0 R Z Bx K1 K2 W none none none c m x y z s w
 |[o0,o1,o2,c,m,x,y,z,s],w=>CbS true C0 E0 R Z Bx K1 K2 W o0 o1 o2 c m x y z s w
 |_,_=>False
theorem CbL.below:∀{l:List (Option Value)}{w:World},CbL C0 E0 R Z Bx K1 K2 W l w->Below W.heap.size W w
 |[_,_,_,_,_,_],_,h=>CbS.be h
 |[_,_,_,_,_,_,_,_,_],_,h=>CbS.be h
theorem CbL.more (hS:zo3 R Bx K1 K2):∀(l:List (Option Value))(w w':World),CbL C0 E0 R Z Bx K1 K2 W l w->Below w.heap.size w w'->CbL C0 E0 R Z Bx K1 K2 W l w'
 |[_,_,_,_,_,_],_,_,h,hb=>CbS.more hS h hb
 |[_,_,_,_,_,_,_,_,_],_,_,h,hb=>CbS.more hS h hb
end
def stB(P:Program)(t:TypeId)(n:Nat):Bool:=match P.underlying t with
 |some (.struct fs)=>fs.size==n&&((List.range n).all λi=>match fs[i]? with
  |some f=>f.offset==i&&(P.info? f.type).map (·.size)==some 1
  |none=>false)&&((P.info? t).map (·.size)==some n)&&(match(P.info? t).bind (·.zero)with
  |some (.agg zs)=>zs.size==n
  |_=>false)
 |_=>false
structure StP(P:Program)(t:TypeId)(n:Nat):Prop where
 hu:∃fs:Array Field,P.underlying t=some (.struct fs)/\fs.size=n/\∀i,i<n->∃f,fs[i]?=some f/\f.offset=i/\(P.info? f.type).map (·.size)=some 1
 hs:(P.info? t).map (·.size)=some n
 hz:∃zs,(P.info? t).bind (·.zero)=some (.agg zs)/\zs.size=n
theorem StP.of{P:Program}{t:TypeId}{n:Nat}(h:stB P t n=true):StP P t n:=by
  unfold stB at h;split at h
  · rename_i fs hu
    simp only[yk,zK,xr,yY]at h;obtain⟨⟨⟨h1,h2⟩,h3⟩,h4⟩:=h;refine⟨⟨fs,hu,h1,λi hi=>?_⟩,h3,?_⟩
    · have:=h2 i hi
      split at this
      · rename_i f hf
        simp only[yk,zK]at this;exact⟨f,hf,this.1,this.2⟩
      ·cases this
    · split at h4
      · rename_i zs hz
        exact⟨zs,hz,by simpa using h4⟩
      ·cases h4
  ·cases h
theorem zaa{P:Program}{ty:TypeId}{n:Nat}(h:(P.info? ty).map (·.size)=some n)(w:World):(sizeOf ty).run P w=.ok n w:=by
 cases hi:P.info? ty with
 |none=>simp[hi]at h
 |some i=>simp[hi]at h;simp[sizeOf,typeInfo,hi,h]
theorem StP.zero{P:Program}{t:TypeId}{n:Nat}(hP:StP P t n):∃zs:Array Value,zs.size=n/\∀w,(zeroValue t).run P w=.ok (.agg zs) w:=by
 obtain⟨zs,h,hs⟩:=hP.hz;cases hi:P.info? t with
 |none=>simp[hi]at h
 |some i=>simp[hi]at h;exact⟨zs,hs,λw=>by simp[zeroValue,typeInfo,hi,h]⟩
section
variable {P : Program} {t : TypeId} {n : Nat} {o : Oper} {a : Act} {K : Act → World → Prop} {Q : Exit → Act → World → Prop} {w : World}
theorem zcb{v:Value}(hrun:(execOp a.eval o).run P w=.ok (.value v) w)(h:K (a.put o.dst v) w):o.wp P a w K Q:=by
 unfold Oper.wp;rw[hrun];exact h
theorem zaf (hP:StP P t n){x:Operand}{b off i:Nat}(ho:o.op=.fieldAddr t x i)(hx:a.eval x=.pointer (some ⟨b,off,none⟩))(hi:i<n)(h:K (a.put o.dst (.pointer (some ⟨b,off+i,none⟩))) w):o.wp P a w K Q:=by
 obtain⟨fs,hu,_,hf⟩:=hP.hu;obtain⟨f,hf,ho2,hs⟩:=hf i hi;refine zcb ?_ h;simp only[execOp,ho,hx];simp[Instr.fieldAt,zr hu,fieldPlace,hf,ho2,zaa hs,go_sem,Addr.add]
theorem zfh (hP:StP P t 3){x y z:Operand}{u v r:Value}(ho:o.op=.build t #[(0,x),(1,y),(2,z)])(hx:a.eval x=u)(hy:a.eval y=v)(hz:a.eval z=r)(hu1:u.cells=#[u])(hv1:v.cells=#[v])(hr1:r.cells=#[r])(h:K (a.put o.dst (.agg #[u,v,r])) w):o.wp P a w K Q:=by
 obtain⟨fs,hu,hfs,hf⟩:=hP.hu;obtain⟨f0,g0,o0,s0⟩:=hf 0 (by omega);obtain⟨f1,g1,o1,s1⟩:=hf 1 (by omega);obtain⟨f2,g2,o2,s2⟩:=hf 2 (by omega);obtain⟨zs,hzs,hz0⟩:=hP.zero;obtain⟨l⟩:=fs;obtain⟨zl⟩:=zs;match l,hfs with
 |[k0,k1,k2],_=>
  match zl,hzs with
  |[z0,z1,z2],_=>
   simp at g0 g1 g2;subst g0;subst g1;subst g2;refine zcb ?_ h;simp only[execOp,ho,zE,zn,zo,hx,hy,hz];simp[Instr.build,zr hu,hz0,zaa s0,zaa s1,zaa s2,Instr.fill,hu1,hv1,hr1,o0,o1,o2,show(Value.agg #[z0,z1,z2]).cells=#[z0,z1,z2]from rfl]
theorem zej(hP:StP P t 3){x:Operand}{b off:Nat}{u v r:Value}(ho:o.op=.load t x)(hx:a.eval x=.pointer (some ⟨b,off,none⟩))(h0:w.cell? ⟨b,off,none⟩=some u)(h1:w.cell? ⟨b,off+1,none⟩=some v)(h2:w.cell? ⟨b,off+2,none⟩=some r)(h:K (a.put o.dst (.agg #[u,v,r])) w):o.wp P a w K Q:=by
 obtain⟨fs,hu,hfs,hf⟩:=hP.hu;refine zcb ?_ h;simp only[execOp,ho,hx];simp[Instr.loadAt,loadVar,isAgg,zr hu,zaa hP.hs,loadCellsFrom,Addr.add,h0,h1,h2,go_sem]
theorem zq0{x:Operand}{p:Addr}{v:Value}(ho:o.op=.load t x)(hx:a.eval x=.pointer (some p))(hu:P.underlying t=some .bool)(hc:w.cell? p=some v)(h:K (a.put o.dst v) w):o.wp P a w K Q:=by
 refine zcb ?_ h;simp only[execOp,ho,hx];simp[isAgg,zr hu,hc,go_sem]
theorem zhn{e:TypeId}{x i:Operand}{b off m c k:Nat}{kk:IntKind}{j:Int}(ho:o.op=.indexAddr t x i)(hu:P.underlying t=some (.slice e))(hi:(P.info? e).map (·.size)=some n)(hx:a.eval x=.slice (some ⟨b,off,none⟩) m c)(hy:a.eval i=.int kk j)(hj:j=(k:Int))(hk:k<m)(h:K (a.put o.dst (.pointer (some ⟨b,off+k*n,none⟩))) w):o.wp P a w K Q:=by
 subst hj;refine zcb ?_ h;obtain⟨inf,hinf,hsz⟩:∃inf,P.info? e=some inf/\inf.size=n:=by
  cases h:P.info? e with
  |none=>simp[h]at hi
  |some i=>simp[h]at hi;exact⟨i,rfl,hi⟩
 simp only[execOp,ho,hx,hy];simp[Instr.indexAt,zr hu,asIntOf,hinf,hsz,sizeOf,typeInfo,go_sem,Addr.add];rw[zi hk];by_cases h0:k=0
 ·subst h0;simp
 · simp
end
def TriV (W:World)(b:Nat)(t:TypeId)(u v r:Value):Prop:=W.heap[b]?=some (.cells #[u,v,r] t (0,0))
section
variable {W W' : World} {b : Nat} {t : TypeId} {u v r : Value}
theorem TriV.new (W:World)(t:TypeId)(u v r:Value):TriV (W.alloc (.cells #[u,v,r] t)) W.heap.size t u v r:=by unfold TriV;simp only[World.alloc,yf]
theorem TriV.lt(h:TriV W b t u v r):b<W.heap.size:=(zJ.1 h).1
theorem TriV.cell0 (h:TriV W b t u v r):W.cell? ⟨b,0,none⟩=some u:=by simp[World.cell?,show W.heap[b]?=_ from h]
theorem TriV.cell1(h:TriV W b t u v r):W.cell? ⟨b,1,none⟩=some v:=by simp[World.cell?,show W.heap[b]?=_ from h]
theorem TriV.cell2(h:TriV W b t u v r):W.cell? ⟨b,2,none⟩=some r:=by simp[World.cell?,show W.heap[b]?=_ from h]
theorem TriV.below{n:Nat}(h:TriV W b t u v r)(hb:Below n W W')(hn:b<n):TriV W' b t u v r:=(hb.block b hn).trans h
end
structure Ver where
 stamp:Int
 gone:Bool
 value:List UInt8
deriving DecidableEq
def I64'(s:Int):Prop:=-9223372036854775808<=s/\s<=9223372036854775807
def verC (x:Ver)(v:Value):List Value:=[.int .i64 x.stamp,.bool x.gone,v]
def Elt.ver:Elt Ver where
 size:=3;pos:=by omega
 R S w x vs:=∃v,vs=verC x v/\RdS S w v x.value/\I64' x.stamp;len:=by rintro _ _ _ _ ⟨_,rfl,_⟩;rfl
 keep:=by rintro _ _ _ _ _ ⟨v,rfl,h,h2⟩ hk;exact⟨v,rfl,h.keep hk,h2⟩
 weak:=by rintro _ _ _ _ _ ⟨v,rfl,h,h2⟩ hk;exact⟨v,rfl,h.weak hk,h2⟩
 fit:=by rintro _ _ _ _ ⟨v,rfl,h,h2⟩;exact⟨v,rfl,h.fit,h2⟩
 one:=by
  rintro _ _ _ _ ⟨v,rfl,h,_⟩ u hu;have h1:=h.one;simp only[verC,zU,yJ,yK]at hu;rcases hu with rfl|rfl|rfl
  · rfl
  · rfl
  ·exact h1
theorem verP:LoP Tryz.prog 102 100 3:=⟨⟨by kernel_rfl,by kernel_rfl⟩,.agg #[.int .i64 0,.bool false,.slice none 0 0],40,by kernel_rfl,rfl,by omega⟩
theorem verS:StP Tryz.prog 100 3:=StP.of (by kernel_rfl)
theorem RdL.ver{S:Nat->Prop}{w:World}{a:Option Addr}{n c:Nat}{l:List Ver}(h:RdL Elt.ver S w (.slice a n c) l)(r:Nat)(hr:r<l.length):∃b off A C,a=some ⟨b,off,none⟩/\S b/\w.cell? ⟨b,off+r*3,none⟩=some (.int .i64 l[r].stamp)/\w.cell? ⟨b,off+r*3+1,none⟩=some (.bool l[r].gone)/\w.cell? ⟨b,off+r*3+2,none⟩=some (.slice A l[r].value.length C)/\RdS S w (.slice A l[r].value.length C) l[r].value/\I64' l[r].stamp/\l[r].value.length<=C/\C<=maxLen:=by
 obtain⟨b,off,vs,rfl,hb,⟨v,rfl,hv,hi⟩,hc⟩:=h.at r hr;obtain⟨A,C,rfl,h1,h2⟩:=hv.shape;exact⟨b,off,A,C,rfl,hb,hc 0 _ rfl,hc 1 _ rfl,hc 2 _ rfl,hv,hi,h1,h2⟩
def mayV(x:Ver):Prop:=1<=x.stamp/\x.stamp<2147483648/\x.value.length<=32/\(x.gone=true->x.value.length=0)
instance (x:Ver):Decidable (mayV x):=by unfold mayV;infer_instance
def okV (l:List Ver):Prop:=∀i (h:i<l.length),mayV l[i]/\(0<i->l[i-1].stamp<l[i].stamp)
instance (l:List Ver):Decidable (okV l):=by unfold okV;infer_instance
def zdx (l:List Ver)(s:Int):Nat->Nat
 |0=>0
 |k+1=>if h:k<l.length then if l[k].stamp<=s then k+1 else zdx l s k else zdx l s k
theorem zr4{l:List Ver}{s:Int}{k:Nat}(h:k<l.length)(hs:l[k].stamp<=s):zdx l s (k+1)=k+1:=by simp[zdx,h,hs]
theorem zmy{l:List Ver}{s:Int}{k:Nat}(h:k<l.length)(hs:¬l[k].stamp<=s):zdx l s (k+1)=zdx l s k:=by simp[zdx,h,hs]
theorem zmz(l:List Ver)(s:Int):∀k,zdx l s k<=k
 |0=>zf _
 |k+1=>by
  have:=zmz l s k;unfold zdx;split
  · split<;>omega
  ·omega
def cntV(l:List Ver)(s:Int):Nat:=zdx l s l.length
theorem zdv(l:List Ver)(s:Int):cntV l s<=l.length:=zmz l s _
def zcd (l:List Ver)(s:Int):Option (List UInt8):=
 if okV l then if h:0<cntV l s then if(l[cntV l s-1]'(by have:=zdv l s;omega)).gone then none else some (l[cntV l s-1]'(by have:=zdv l s;omega)).value else none else none
def newerV (l:List Ver)(s:Int):Bool:=decide (okV l)&&(match l.getLast? with|some x=>decide (s<x.stamp)|none=>false)
def zcz (l:List Ver)(x:Ver):List Ver×Nat:=
 if okV l/\mayV x then(match l.getLast? with|some y=>if x.stamp<=y.stamp then(l,50)else(l++[x],0)|none=>(l++[x],0))else(l,1)
def vacV(l:List Ver)(s:Int):List Ver:=
 if okV l then if h:0<cntV l s then if(l[cntV l s-1]'(by have:=zdv l s;omega)).gone then l.drop (cntV l s)else l.drop (cntV l s-1)else l else l
def zbc (w:World)(l:List Ver)(s:Int)(e:Ending)(w':World):Prop:=
 ∃a c,e=.returned (.tuple #[.slice a ((zcd l s).getD []).length c,.bool (zcd l s).isSome])/\RdS (λk=>w.heap.size<=k/\k<w'.heap.size) w' (.slice a ((zcd l s).getD []).length c) ((zcd l s).getD [])/\Below w.heap.size w w'
theorem zbc.no{w w':World}{l:List Ver}{s:Int}(h:zcd l s=none)(hb:Below w.heap.size w w'):zbc w l s (.returned (.tuple #[.slice none 0 0,.bool false])) w':=by
 unfold zbc;rw[h];exact⟨none,0,rfl,RdS.nil _ _,hb⟩
theorem zbc.yes{w w':World}{l:List Ver}{s:Int}{xs:List UInt8}{a:Option Addr}{c:Nat}(h:zcd l s=some xs)(hr:RdS (λk=>w.heap.size<=k/\k<w'.heap.size) w' (.slice a xs.length c) xs)(hb:Below w.heap.size w w'):zbc w l s (.returned (.tuple #[.slice a xs.length c,.bool true])) w':=by
 unfold zbc;rw[h];exact⟨a,c,rfl,hr,hb⟩
theorem zj3{l:List Ver}{s:Int}(h:cntV l s=0):zcd l s=none:=by unfold zcd;split<;>simp[h]
theorem zha{l:List Ver}{s:Int}{m:Nat}(h:cntV l s=m+1)(hm:m<l.length)(hg:l[m].gone=true):zcd l s=none:=by
  unfold zcd;split
  · rw[dif_pos (by omega)]
    simp only[h,xt,hg,yl]
  · rfl
theorem zg9{l:List Ver}{s:Int}{m:Nat}(hk:okV l)(h:cntV l s=m+1)(hm:m<l.length)(hg:l[m].gone=false):zcd l s=some l[m].value:=by
 unfold zcd;rw[zi hk,dif_pos (by omega)];simp only[h,xt,hg,zY,zW]
theorem cells_at{w:World}{b:Nat}{t:TypeId}{us:List Value}(h:w.heap[b]?=some (.cells us.toArray t (0,0)))(j:Nat)(u:Value)(hj:us[j]?=some u):w.cell? (Addr.add ⟨b,0,none⟩ j)=some u:=by
 rw[zN,World.cell?,h];simpa using hj
theorem zl4{l:List Ver}{s:Int}(h:cntV l s=0):vacV l s=l:=by unfold vacV;split<;>simp[h]
theorem zsr{l:List Ver}{s:Int}{m:Nat}(hk:okV l)(h:cntV l s=m+1)(hm:m<l.length)(hg:l[m].gone=true):vacV l s=l.drop (m+1):=by
 unfold vacV;rw[zi hk,dif_pos (by omega)];simp only[h,xt,hg,yl]
theorem zsq{l:List Ver}{s:Int}{m:Nat}(hk:okV l)(h:cntV l s=m+1)(hm:m<l.length)(hg:l[m].gone=false):vacV l s=l.drop m:=by
 unfold vacV;rw[zi hk,dif_pos (by omega)];simp only[h,xt,hg,zY,zW]
theorem zjb{l:List Ver}{x:Ver}(h:¬(okV l/\mayV x)):zcz l x=(l,1):=by unfold zcz;rw[zh h]
theorem zi9{l:List Ver}{x:Ver}(h0:l.length=0)(h:mayV x):zcz l x=(l++[x],0):=by
 obtain rfl:l=[]:=yg h0;unfold zcz;rw[zi ⟨λi h=>absurd h (yH _),h⟩];rfl
theorem zm1{l:List Ver}{x:Ver}{m:Nat}(hk:okV l)(h:mayV x)(hm:l.length=m+1)(hs:x.stamp<=(l[m]'(by omega)).stamp):zcz l x=(l,50):=by
 unfold zcz;rw[zi ⟨hk,h⟩,vj,show l.length-1=m by omega,zB (by omega)];simp only[zi hs]
theorem zja{l:List Ver}{x:Ver}{m:Nat}(hk:okV l)(h:mayV x)(hm:l.length=m+1)(hs:¬x.stamp<=(l[m]'(by omega)).stamp):zcz l x=(l++[x],0):=by
 unfold zcz;rw[zi ⟨hk,h⟩,vj,show l.length-1=m by omega,zB (by omega)];simp only[zh hs]
theorem zi8 (l:List Ver)(s:Int):∀k,k≤l.length→(∀i (h:i<l.length),zdx l s k≤i→i<k→¬l[i].stamp≤s)∧(∀m (h:m<l.length),zdx l s k=m+1→l[m].stamp≤s)
  |0,_=>⟨fun i _ _ h=>absurd h (yH _),fun m _ h=>by simp[zdx]at h⟩
  |k+1,hk=>by
    obtain⟨h1,h2⟩:=zi8 l s k (by omega);by_cases hs:l[k].stamp≤s
    · rw[zr4 (by omega) hs]
      exact ⟨fun i _ h3 h4 => by omega, fun m hm e => by obtain rfl:m=k:=by omega
                                                         exact hs⟩
    · rw[zmy (by omega) hs]
      refine⟨fun i hi h3 h4=>?_,h2⟩;rcases zA i k with h5|h5
      ·exact h1 i hi h3 h5
      · obtain rfl:i=k:=by omega
        exact hs
theorem okV_lt{l:List Ver}(hk:okV l):∀d i(h:i+d<l.length),0<d->l[i].stamp<l[i+d].stamp
  |0,_,_,h=>absurd h (xg _)
  |d+1,i,h,_=>by
    have h1:=(hk (i+d+1) h).2 (by omega);simp only[xt]at h1;rcases yx d with rfl|h2
    ·exact h1
    · have:=okV_lt hk d i (by omega) h2
      exact Int.lt_trans this h1
theorem zp2{l:List Ver}(hk:okV l){i j:Nat}(hij:i<j)(hj:j<l.length):(l[i]'(by omega)).stamp<l[j].stamp:=by
 have:=okV_lt hk (j-i) i (by omega) (by omega);simpa [show i+(j-i)=j by omega]using this
theorem zhi{l:List Ver}(hk:okV l)(s:Int){i:Nat}(h:i<l.length):l[i].stamp<=s↔i<cntV l s:=by
  obtain⟨h1,h2⟩:=zi8 l s l.length (zf _);constructor
  · intro hs
    rcases zA i (cntV l s)with h3|h3
    ·exact h3
    ·exact absurd hs (h1 i h h3 h)
  · intro hi
    have hle:=zdv l s;obtain⟨m,hm⟩:∃m,cntV l s=m+1:=⟨cntV l s-1,by omega⟩;have hms:=h2 m (by omega) hm;rcases zA i m with h3|h3
    · have:=zp2 hk h3 (by omega)
      omega
    · obtain rfl:i=m:=by omega
      exact hms
theorem zh8{l:List Ver}(hk:okV l){x:Ver}(hx:mayV x)(hs:∀y∈l,y.stamp<x.stamp):okV (l++[x]):=λi h=>by
  rw[zC]at h;simp only[zI,zM]at h;rcases zA i l.length with h1|h1
  · rw[xQ h1]
    refine⟨(hk i h1).1,λh0=>?_⟩;rw[xQ (by omega)];exact(hk i h1).2 h0
  · obtain rfl:i=l.length:=by omega
    rw[wC (zf _)];simp only[wk,List.getElem_cons_zero];refine⟨hx,λh0=>?_⟩;rw[xQ (by omega)];exact hs _ (zL _)
theorem instV_yes{l:List Ver}{x:Ver}(hk:okV l)(hm:mayV x)(hs:∀y∈l,y.stamp<x.stamp):zcz l x=(l++[x],0):=by
  rcases yx l.length with h0|h0
  ·exact zi9 h0 hm
  · obtain⟨m,hml⟩:∃m,l.length=m+1:=⟨l.length-1,by omega⟩
    have:=hs (l[m]'(by omega)) (zL _)
    exact zja hk hm hml (by omega)
theorem ze6 (l:List Ver) (x:Ver):(∃er,er≠0/\zcz l x=(l,er))\/(zcz l x=(l++[x],0)/\okV l/\mayV x/\∀y∈l,y.stamp<x.stamp):=by
  by_cases h:okV l/\mayV x
  · obtain⟨hk,hm⟩:=h
    rcases yx l.length with h0|h0
    · refine .inr ⟨zi9 h0 hm,hk,hm,?_⟩
      obtain rfl:l=[]:=yg h0;simp
    · obtain⟨m,hml⟩:∃m,l.length=m+1:=⟨l.length-1,by omega⟩
      by_cases hs:x.stamp<=(l[m]'(by omega)).stamp
      ·exact .inl ⟨50,by omega,zm1 hk hm hml hs⟩
      · refine .inr ⟨zja hk hm hml hs,hk,hm,λy hy=>?_⟩
        obtain⟨r,hr,rfl⟩:=yy.1 hy;rcases zA r m with h3|h3
        · have:=zp2 hk h3 (by omega);omega
        · obtain rfl:r=m:=by omega
          omega
  ·exact .inl ⟨1,by omega,zjb h⟩
def zb9 (l:List Ver):Prop:=l.length<=1000/\∀x∈l,x.value.length<=1000
def zc7 (w:World)(l:List Ver)(e:Ending)(w':World):Prop:=
 ∃a c,e=.returned (.slice a l.length c)/\RdL Elt.ver (λk=>w.heap.size<=k/\k<w'.heap.size) w' (.slice a l.length c) l/\Below w.heap.size w w'
def zeh (w:World)(l:List Ver)(x:Ver)(e:Ending)(w':World):Prop:=
 ∃a c,e=.returned (.tuple #[.slice a (zcz l x).1.length c,.int .i64 ((zcz l x).2:Nat)])/\RdL Elt.ver (λk=>w.heap.size<=k/\k<w'.heap.size) w' (.slice a (zcz l x).1.length c) (zcz l x).1/\Below w.heap.size w w'
theorem zbc.none{w w':World}{l:List Ver}{s:Int}{e:Ending}(h:zcd l s=none)(h2:zbc w l s e w'):∃a c,e=.returned (.tuple #[.slice a 0 c,.bool false])/\RdS (λk=>w.heap.size<=k/\k<w'.heap.size) w' (.slice a 0 c) []/\Below w.heap.size w w':=by
 unfold zbc at h2;rw[h]at h2;exact h2
theorem zbc.some{w w':World}{l:List Ver}{s:Int}{e:Ending}{xs:List UInt8}(h:zcd l s=some xs)(h2:zbc w l s e w'):∃a c,e=.returned (.tuple #[.slice a xs.length c,.bool true])/\RdS (λk=>w.heap.size<=k/\k<w'.heap.size) w' (.slice a xs.length c) xs/\Below w.heap.size w w':=by
 unfold zbc at h2;rw[h]at h2;exact h2
theorem zmt{l:List Ver}(hk:okV l)(hn:l.length<=1000):zb9 l:=⟨hn,λx hx=>by
 obtain⟨r,hr,rfl⟩:=yy.1 hx;have:=(hk r hr).1.2.2.1;omega⟩
theorem zlb{x:Ver}(h:mayV x):I64' x.stamp:=⟨by have:=h.1;omega,by have:=h.2.1;omega⟩
def ltB(a b:List UInt8):Bool:=Op.bytesLess a b
theorem zbx:∀a,ltB a a=false
 |[]=>rfl
 |x::a=>by
  have h:=zbx a;unfold ltB at h⊢;simp[Op.bytesLess,h]
theorem zbe:∀{a b c},ltB a b=true->ltB b c=true->ltB a c=true
  |_,[],_,h,_=>by cases‹List UInt8›<;>simp[ltB,Op.bytesLess]at h
  |_,_::_,[],_,h=>by simp[ltB,Op.bytesLess]at h
  |[],_::_,_::_,_,_=>rfl
  |x::a,y::b,z::c,h,k=>by
    simp only[ltB,Op.bytesLess,wj,yP,yk,zK]at h k⊢;rcases h with h|⟨rfl,h⟩
    · rcases k with k|⟨rfl,k⟩
      ·exact .inl (UInt8.lt_trans h k)
      ·exact .inl h
    · rcases k with k|⟨rfl,k⟩
      ·exact .inl k
      ·exact .inr ⟨rfl,zbe (a:=a) (b:=b) (c:=c) h k⟩
theorem zcq:∀{a b},a≠b->ltB a b=false->ltB b a=true
  |[],[],h,_=>absurd rfl h
  |[],_::_,_,h=>by simp[ltB,Op.bytesLess]at h
  |_::_,[],_,_=>rfl
  |x::a,y::b,hne,h=>by
    simp only[ltB,Op.bytesLess,Bool.or_eq_false_iff,wW,wD,zt,wj,yP,yk,zK]at h⊢;obtain⟨h1,h2⟩:=h;by_cases hxy:x=y
    · subst hxy
      rcases h2 with h2|h2
      ·exact absurd rfl h2
      ·exact .inr ⟨rfl,zcq (a:=a) (b:=b) (λe=>hne (by rw[e])) h2⟩
    · refine .inl ?_
      rcases UInt8.lt_or_lt_of_ne (a:=x) (b:=y) hxy with h3|h3
      ·exact absurd h3 h1
      ·exact h3
theorem zi7{a b:List UInt8}(h:ltB a b=true):ltB b a=false:=by
 cases hb:ltB b a with
 |false=>rfl
 |true=>rw[<-zbx a];exact(zbe h hb).symm
theorem zj9{a b:List UInt8}(h:ltB a b=true):a≠b:=λe=>by subst e;rw[zbx]at h;cases h
structure Pr where
 key:List UInt8
 chain:List Ver
deriving DecidableEq
inductive Nd where
 |mk:List (List UInt8)->List (List Ver)->List Nd->Nd
def Nd.keys:Nd->List (List UInt8)|.mk a _ _=>a
def Nd.chains:Nd->List (List Ver)|.mk _ b _=>b
def Nd.kids:Nd->List Nd|.mk _ _ c=>c
def allD:List Int->Int
 |[]=>-1
 |d::r=>if(∀x∈r,x=d)/\0<=d then d+1 else-1
mutual
def zb8:Nd->Bool->Int
 |.mk ks cs ns,root=>if cs.length≠ks.length\/3<ks.length\/(root=false/\ks.length<1)then-1 else if ns.length=0 then 1 else if ns.length≠ks.length+1\/ks.length<1 then-1 else allD (zup ns)
def zup:List Nd->List Int
 |[]=>[]
 |n::ns=>zb8 n false::zup ns
end
def wv (ps:List (List Pr))(ks:List (List UInt8))(cs:List (List Ver)):Nat->List Pr
 |0=>[]
 |i+1=>wv ps ks cs i++ps.getD i []++[⟨ks.getD i [],cs.getD i []⟩]
mutual
def zac:Nd->List Pr
 |.mk ks cs ns=>wv (zi0 ns) ks cs ks.length++(zi0 ns).getD (ns.length-1) []
def zi0:List Nd->List (List Pr)
 |[]=>[]
 |n::ns=>zac n::zi0 ns
end
theorem zna:∀ns,zup ns=ns.map (zb8 · false)
 |[]=>by simp[zup]
 |n::ns=>by simp[zup,zna ns]
theorem zhd:∀ns,zi0 ns=ns.map zac
 |[]=>by simp[zi0]
 |n::ns=>by simp[zi0,zhd ns]
def okP (l:List Pr):Prop:=∀i (h:i<l.length),okV l[i].chain/\l[i].chain≠[]/\l[i].key.length<=16/\(0<i->ltB l[i-1].key l[i].key=true)
instance (l:List Pr):Decidable (okP l):=by unfold okP;infer_instance
def okN(n:Nd):Prop:=0<=zb8 n true/\okP (zac n)
instance(n:Nd):Decidable (okN n):=by unfold okN;infer_instance
def prN (n:Nd):List Pr:=if okN n then zac n else[]
def depN (n:Nd):Int:=if okN n then zb8 n true else 0
def zjv(k:List UInt8)(c:List Ver):Bool->List Pr->List Pr
 |true,[]=>[]
 |false,[]=>[⟨k,c⟩]
 |true,p::l=>(if k=p.key then[]else[p])++zjv k c true l
 |false,p::l=>if ltB k p.key||decide (k=p.key)then⟨k,c⟩::((if k=p.key then[]else[p])++zjv k c true l)else p::zjv k c false l
def putP (l:List Pr)(k:List UInt8)(c:List Ver):List Pr:=zjv k c false l
def zaw(l:List Pr)(k:List UInt8):Option (List Ver):=(l.find? λp=>decide (p.key=k)).map (·.chain)
def Srt(l:List Pr):Prop:=l.Pairwise λa b=>ltB a.key b.key=true
def zjw(p:Pr):Prop:=okV p.chain/\p.chain≠[]/\p.key.length<=16
theorem srt_get{l:List Pr}(h:Srt l){i j:Nat}(hij:i<j)(hj:j<l.length):ltB (l[i]'(by omega)).key l[j].key=true:=wX.1 h i j (by omega) hj hij
theorem zdu(l:List Pr):okP l↔(∀p∈l,zjw p)/\Srt l:=by
  constructor
  · intro h
    refine⟨λp hp=>?_,wX.2 ?_⟩
    · obtain⟨i,hi,rfl⟩:=yy.1 hp
      have:=h i hi;exact⟨this.1,this.2.1,this.2.2.1⟩
    · have key:∀d i(h2:i+d+1<l.length),ltB (l[i]'(by omega)).key l[i+d+1].key=true:=by
        intro d;induction d with
        |zero=>intro i h2;exact(h (i+1) h2).2.2.2 (by omega)
        |succ d ih=>intro i h2;exact zbe (ih i (by omega)) ((h (i+(d+1)+1) h2).2.2.2 (by omega))
      intro i j hi hj hij;have:=key (j-i-1) i (by omega);simpa[show i+(j-i-1)+1=j by omega]using this
  · rintro⟨h1,h2⟩ i hi
    have:=h1 _ (zL hi);exact⟨this.1,this.2.1,this.2.2,λh0=>srt_get h2 (by omega) hi⟩
theorem zje (k:List UInt8):zaw [] k=none:=rfl
theorem zau (p:Pr)(l:List Pr)(k:List UInt8):zaw (p::l) k=if p.key=k then some p.chain else zaw l k:=by
 unfold zaw;by_cases h:p.key=k<;>simp[h]
theorem zlj{l:List Pr}{k:List UInt8}(h:∀p∈l,ltB k p.key=true):zaw l k=none:=by
 induction l with
 |nil=>rfl
 |cons p l ih=>
  rw[zau,zh (λe=>zj9 (h p (by simp)) e.symm)];exact ih λq hq=>h q (by simp[hq])
theorem zde{l:List Pr}{k:List UInt8}{c:List Ver}(h:zaw l k=some c):∃p∈l,p.key=k/\p.chain=c:=by
  induction l with
  |nil=>cases h
  |cons p l ih=>
    rw[zau]at h;by_cases e:p.key=k
    · rw[zi e]at h;injection h with h;exact⟨p,by simp,e,h⟩
    · rw[zh e]at h
      obtain⟨q,hq,h2⟩:=ih h;exact⟨q,by simp[hq],h2⟩
theorem znc{l:List Pr}(hs:Srt l){p:Pr}(hp:p∈l):zaw l p.key=some p.chain:=by
 induction l with
 |nil=>cases hp
 |cons q l ih=>
  have hs':=yh.1 hs;rw[zau];rcases zU.1 hp with rfl|h
  ·rw[zi rfl]
  ·rw[zh (zj9 (hs'.1 p h)),ih hs'.2 h]
def insP (k:List UInt8)(c:List Ver):List Pr->List Pr
 |[]=>[⟨k,c⟩]
 |p::l=>if k=p.key then⟨k,c⟩::l else if ltB k p.key then⟨k,c⟩::p::l else p::insP k c l
theorem zhb{k:List UInt8}{c:List Ver}:∀{l:List Pr},(∀p∈l,k≠p.key)->zjv k c true l=l
 |[],_=>by simp[zjv]
 |p::l,h=>by
  rw[zjv,zh (h p (by simp)),zhb λq hq=>h q (by simp[hq])];rfl
theorem zek{k:List UInt8}{c:List Ver}:∀{l:List Pr},Srt l->putP l k c=insP k c l
  |[],_=>by simp[putP,zjv,insP]
  |p::l,hs=>by
    have hs':=yh.1 hs;have ih:=zek (k:=k) (c:=c) hs'.2;unfold putP at ih⊢;rw[zjv,insP];by_cases h:k=p.key
    · subst h
      rw[zi (by simp),zi rfl,zi rfl,zhb λq hq=>zj9 (hs'.1 q hq)];rfl
    · rw[zh h,zh h]
      by_cases h2:ltB k p.key=true
      · rw[zi (by simp[h2]),zi h2,zhb λq hq=>zj9 (zbe h2 (hs'.1 q hq))]
        rfl
      · rw[zh (by simp[h2,h]),zh h2,ih]
theorem zqf{k k':List UInt8}{c:List Ver}:∀(l:List Pr),zaw (insP k c l) k'=if k=k' then some c else zaw l k'
  |[]=>by rw[insP,zau]
  |p::l=>by
    have ih:=zqf (k:=k) (k':=k') (c:=c) l;rw[insP];by_cases h:k=p.key
    · rw[zi h,zau,zau]
      by_cases h2:k=k';·simp[h2]
      · rw[zh h2,zh h2,zh (by rw[<-h];exact h2)]
    · rw[zh h]
      by_cases h2:ltB k p.key=true;· rw[zi h2,zau]
      · rw[zh h2,zau,ih,zau]
        by_cases h3:p.key=k';· rw[zi h3,zi h3,zh (λe=>h (by rw[e,h3]))]
        · rw[zh h3,zh h3]
theorem zhg{k:List UInt8}{c:List Ver}:∀{l:List Pr}{q:Pr},q∈insP k c l->q=⟨k,c⟩\/q∈l
  |[],q,h=>by simp[insP]at h;exact .inl h
  |p::l,q,h=>by
    rw[insP]at h;by_cases h1:k=p.key
    · rw[zi h1]at h
      rcases zU.1 h with h|h
      ·exact .inl h
      ·exact .inr (by simp[h])
    · rw[zh h1]at h
      by_cases h2:ltB k p.key=true
      · rw[zi h2]at h
        rcases zU.1 h with h|h
        ·exact .inl h
        ·exact .inr h
      · rw[zh h2]at h
        rcases zU.1 h with h|h
        ·exact .inr (by simp[h])
        · rcases zhg h with h|h
          ·exact .inl h
          ·exact .inr (by simp[h])
theorem zos{k:List UInt8}{c:List Ver}:∀{l:List Pr},Srt l->Srt (insP k c l)
  |[],_=>by simp[insP,Srt]
  |p::l,hs=>by
    have hs':=yh.1 hs;rw[insP];by_cases h:k=p.key
    · rw[zi h]
      exact yh.2 ⟨λq hq=>by rw[show(Pr.mk k c).key=p.key from h];exact hs'.1 q hq,hs'.2⟩
    · rw[zh h]
      by_cases h2:ltB k p.key=true
      · rw[zi h2]
        refine yh.2 ⟨λq hq=>?_,hs⟩;rcases zU.1 hq with rfl|hq
        ·exact h2
        ·exact zbe h2 (hs'.1 q hq)
      · rw[zh h2]
        refine yh.2 ⟨λq hq=>?_,zos hs'.2⟩;rcases zhg hq with rfl|hq
        ·exact zcq h (by simpa using h2)
        ·exact hs'.1 q hq
theorem zue{k:List UInt8}{c:List Ver}:∀{l:List Pr},Srt l->(insP k c l).length=if(zaw l k).isSome then l.length else l.length+1
  |[],_=>by simp[insP,zje]
  |p::l,hs=>by
    have hs':=yh.1 hs;have ih:=zue (k:=k) (c:=c) hs'.2;rw[insP,zau];by_cases h:k=p.key
    · rw[zi h,zi h.symm];simp
    · have h':¬p.key=k:=λe=>h e.symm
      rw[zh h,zh h'];by_cases h2:ltB k p.key=true;· rw[zi h2,zlj λq hq=>zbe h2 (hs'.1 q hq)];simp
      ·rw[zh h2,zI,ih,zI];split<;>omega
theorem zs1:∀{a b:List Pr},Srt a->Srt b->(∀k,zaw a k=zaw b k)->a=b
  |[],[],_,_,_=>rfl
  |[],q::b,_,_,h=>by have:=h q.key;rw[zje,zau,zi rfl]at this;cases this
  |p::a,[],_,_,h=>by have:=h p.key;rw[zje,zau,zi rfl]at this;cases this
  |p::a,q::b,ha,hb,h=>by
    have ha':=yh.1 ha;have hb':=yh.1 hb;have hk:p.key=q.key:=by
      have h1:=h p.key;have h2:=h q.key;rw[zau,zi rfl]at h1;rw[zau q b q.key,zi rfl]at h2;obtain⟨x,hx,hx2,_⟩:=zde h1.symm;obtain⟨y,hy,hy2,_⟩:=zde h2;rcases zU.1 hx with rfl|hx
      ·exact hx2.symm
      · rcases zU.1 hy with rfl|hy
        ·exact hy2
        · have e1:=hb'.1 x hx
          have e2:=ha'.1 y hy;rw[hx2]at e1;rw[hy2]at e2;rw[zi7 e1]at e2;cases e2
    have hc:p.chain=q.chain:=by
      have:=h p.key;rw[zau,zi rfl,zau,zi hk.symm]at this;injection this
    have ht:a=b:=zs1 ha'.2 hb'.2 λk=>by
      by_cases e:p.key=k
      · rw[zlj λx hx=>by rw[<-e];exact ha'.1 x hx,zlj λx hx=>by rw[<-e,hk];exact hb'.1 x hx]
      · have:=h k
        rw[zau,zh e,zau,zh (by rw[<-hk];exact e)]at this;exact this
    subst ht;cases p;cases q;simp only at hk hc;subst hk;subst hc;rfl
theorem put_okP{l:List Pr}(h:okP l){k:List UInt8}{c:List Ver}(hk:k.length<=16)(hc:okV c)(hc0:c≠[]):okP (putP l k c):=by
 obtain⟨h1,h2⟩:=(zdu l).1 h;rw[zek h2];refine(zdu _).2 ⟨λp hp=>?_,zos h2⟩;rcases zhg hp with rfl|hp
 ·exact⟨hc,hc0,hk⟩
 ·exact h1 p hp
theorem zgr{l:List Pr}(h:Srt l){k k':List UInt8}{c:List Ver}:zaw (putP l k c) k'=if k=k' then some c else zaw l k':=by rw[zek h,zqf]
theorem put_len{l:List Pr}(h:Srt l){k:List UInt8}{c:List Ver}:(putP l k c).length=if(zaw l k).isSome then l.length else l.length+1:=by rw[zek h,zue h]
theorem zob{l:List Pr}(h:Srt l){k:List UInt8}{c:List Ver}:Srt (putP l k c):=by rw[zek h];exact zos h
theorem zt5 (a:List UInt8):ltB a []=false:=by cases a<;>rfl
theorem zp5:∀(a k:List UInt8),ltB a (k++[0])=(ltB a k||decide (a=k))
  |[],[]=>by simp[ltB,Op.bytesLess]
  |[],_::_=>by simp[ltB,Op.bytesLess]
  |x::a,[]=>by
    have h:=zt5 a;unfold ltB at h;simp[ltB,Op.bytesLess,h]
  |x::a,y::k=>by
    have ih:=zp5 a k;unfold ltB at ih;simp only[ltB,ym,Op.bytesLess,ih,List.cons.injEq];by_cases h1:x<y;· simp[h1]
    · by_cases h2:x=y
      · subst h2;simp
      · have h3:(x==y)=false:=zt.2 h2
        simp[h1,h2,h3]
theorem ztx{n:Nd}(h:okN n):Srt (zac n):=((zdu _).1 h.2).2
theorem zod(n:Nd):Srt (prN n):=by
 unfold prN;split;·exact ztx ‹_›
 ·exact List.Pairwise.nil
mutual
def wN:Nd->Nat
 |.mk ks cs ns=>1+ks.length+cs.length+ns.length+wL ns
def wL:List Nd->Nat
 |[]=>0
 |n::ns=>wN n+wL ns
end
theorem wL_get:∀{ns:List Nd}{n:Nd},n∈ns->wN n<=wL ns
 |m::ns,n,h=>by
  rw[wL];rcases zU.1 h with rfl|h
  ·omega
  · have:=wL_get h;omega
theorem zim{n m:Nd}(h:m∈n.kids):wN m<wN n:=by
 cases n with
 |mk ks cs ns=>
  have:=wL_get (show m∈ns from h);rw[wN];omega
theorem zil(n:Nd):0<wN n:=by cases n;rw[wN];omega
theorem zh5(n:Nd):n.keys.length<=wN n/\n.chains.length<=wN n/\n.kids.length<=wN n:=by
 cases n with
 |mk ks cs ns=>simp only[wN,Nd.keys,Nd.chains,Nd.kids];omega
theorem zcs (n:Nd)(root:Bool):zb8 n root=if n.chains.length≠n.keys.length\/3<n.keys.length\/(root=false/\n.keys.length<1)then-1 else if n.kids.length=0 then 1 else if n.kids.length≠n.keys.length+1\/n.keys.length<1 then-1 else allD (n.kids.map (zb8 · false)):=by
 cases n with
 |mk ks cs ns=>rw[zb8,zna];rfl
theorem zf2 (n:Nd):zac n=wv (n.kids.map zac) n.keys n.chains n.keys.length++(n.kids.map zac).getD (n.kids.length-1) []:=by
 cases n with
 |mk ks cs ns=>rw[zac,zhd];rfl
theorem znr{l:List Int}{d:Int}(h:allD l=d) (hd:0<=d):l≠[]/\1<=d/\∀x∈l,x=d-1:=by
  cases l with
  |nil=>simp[allD]at h;omega
  |cons y r=>
    simp only[allD]at h;by_cases hc:(∀x∈r,x=y)/\0<=y
    · rw[zi hc]at h
      refine⟨by simp,by omega,λx hx=>?_⟩;rcases zU.1 hx with rfl|hx
      ·omega
      · have:=hc.1 x hx;omega
    · rw[zh hc]at h;omega
theorem zd1{n:Nd}{root:Bool}{d:Int}(h:zb8 n root=d) (hd:0<=d):n.chains.length=n.keys.length/\n.keys.length<=3/\(root=false->1<=n.keys.length)/\((n.kids=[]/\d=1)\/(n.kids.length=n.keys.length+1/\1<=n.keys.length/\2<=d/\∀m∈n.kids,zb8 m false=d-1)):=by
  rw[zcs]at h;by_cases h1:n.chains.length≠n.keys.length\/3<n.keys.length\/(root=false/\n.keys.length<1);· rw[zi h1]at h;omega
  · rw[zh h1]at h
    have h1':n.chains.length=n.keys.length/\n.keys.length<=3/\(root=false->1<=n.keys.length):=by
      refine⟨?_,?_,λhr=>?_⟩;·exact wH λh=>h1 (.inl h)
      ·exact wH λh=>h1 (.inr (.inl (by omega)))
      ·exact wH λh=>h1 (.inr (.inr ⟨hr,by omega⟩))
    refine⟨h1'.1,h1'.2.1,h1'.2.2,?_⟩;by_cases h2:n.kids.length=0
    · rw[zi h2]at h
      exact .inl ⟨yg h2,h.symm⟩
    · rw[zh h2]at h
      by_cases h3:n.kids.length≠n.keys.length+1\/n.keys.length<1
      ·rw[zi h3]at h;omega
      · rw[zh h3]at h
        obtain⟨_,h4,h5⟩:=znr h hd;have h6:∀m∈n.kids,zb8 m false=d-1:=λm hm=>h5 _ (xD.2 ⟨m,hm,rfl⟩)
        have h7:2<=d:=by
          cases hk:n.kids with
          |nil=>rw[hk]at h2;exact absurd rfl h2
          |cons m r=>
            have h8:=h6 m (by rw[hk];simp);rcases Int.lt_or_le d 2 with h9|h9
            · exfalso
              have e:d-1=0:=by omega
              rw[e]at h8;rw[zcs]at h8;split at h8
              ·omega
              · split at h8
                ·omega
                · split at h8
                  ·omega
                  · obtain⟨_,h10,_⟩:=znr h8 (Int.le_refl _)
                    omega
            ·exact h9
        exact .inr ⟨by omega,by omega,h7,h6⟩
theorem zsj (ps:List (List Pr))(ks:List (List UInt8))(cs:List (List Ver)):∀i,(wv ps ks cs i).length=i+((List.range i).map λj=>(ps.getD j []).length).sum
 |0=>rfl
 |i+1=>by
  rw[wv,zC,zC,zsj ps ks cs i,List.range_succ,yW,wI];simp;omega
theorem zmq(n:Nd)(h:n.kids.length=n.keys.length+1):(zac n).length=n.keys.length+(n.kids.map λm=>(zac m).length).sum:=by
  rw[zf2,zC,zsj,h,xt];have e:((n.kids.map λm=>(zac m).length))=(List.range (n.keys.length+1)).map λj=>((n.kids.map zac).getD j []).length:=by
    apply List.ext_getElem
    ·simp[h]
    · intro i h1 h2
      simp at h1;simp[zB h1]
  rw[e,List.range_succ,yW,wI];simp;omega
theorem zhc(n:Nd)(h:n.kids=[]):(zac n).length=n.keys.length:=by
 rw[zf2,h,zC,zsj];have:∀i,((List.range i).map λj=>((([]:List Nd).map zac).getD j []).length).sum=0:=by
  intro i;induction i with
  |zero=>rfl
  |succ i ih=>rw[List.range_succ,yW,wI,ih];simp
 rw[this];simp
theorem zhq:∀(N:Nat){n:Nd}{root:Bool},wN n<=N->0<=zb8 n root->wN n<=5*(zac n).length+1/\(root=false->wN n+2<=5*(zac n).length)
  |0,n,_,h,_=>by have:=zil n;omega
  |N+1,n,root,hN,hd=>by
    obtain⟨hc,hk,hr,h1|h1⟩:=zd1 rfl hd
    · rw[zhc n h1.1]
      have hw:wN n=1+n.keys.length+n.chains.length:=by
        cases n with
        |mk ks cs ns=>
          have:ns=[]:=h1.1;subst this;simp[wN,wL,Nd.keys,Nd.chains]
      rw[hw,hc];refine⟨by omega,λh=>?_⟩;have:=hr h;omega
    · obtain⟨h2,h3,h4,h5⟩:=h1
      rw[zmq n h2];have hw:wN n=1+n.keys.length+n.chains.length+n.kids.length+wL n.kids:=by cases n;rw[wN];rfl
      have hs:∀ns:List Nd,(∀m∈ns,m∈n.kids)->wL ns+2*ns.length<=5*(ns.map λm=>(zac m).length).sum:=by
        intro ns;induction ns with
        |nil=>intro _;simp[wL]
        |cons m r ih=>
          intro hm;have h6:=ih λx hx=>hm x (by simp[hx])
          have h7:=hm m (by simp);have h8:=zim h7;have h9:=(zhq N (n:=m) (root:=false) (by omega) (by rw[h5 m h7];omega)).2 rfl;rw[wL,zn,wm,zI];omega
      have h6:=hs n.kids λ_ h=>h
      rw[hw,hc];refine⟨by omega,λ_=>by omega⟩
def zce:Nat->Nd->Bool
 |0,_=>false
 |t+1,n=>decide (n.keys.length<=6)&&decide (n.chains.length<=6)&&decide (n.kids.length<=6)&&n.keys.all (λk=>decide (k.length<=100))&&n.chains.all (λc=>decide (c.length<=20)&&c.all λx=>decide (x.value.length<=100))&&n.kids.all (zce t)
theorem RdL.imp{α:Type}{E F:Elt α}{S:Nat->Prop}{w:World}{v:Value}{xs:List α}(h:RdL E S w v xs)(hs:F.size=E.size)(hi:∀x∈xs,∀vs,E.R S w x vs->F.R S w x vs):RdL F S w v xs:=by
 obtain⟨a,cap,h1,h2,h3,h4⟩:=h;refine⟨a,cap,h1,h2,h3,h4.imp id λ⟨b,off,e,hb,hr⟩=>⟨b,off,e,hb,λr h=>?_⟩⟩;obtain⟨vs,hR,hc⟩:=hr r h;exact⟨vs,hi _ (zL h) vs hR,by rw[hs];exact hc⟩
def Elt.pair:Elt Pr where
 size:=2;pos:=by omega
 R S w x vs:=∃u v,vs=[u,v]/\RdS S w u x.key/\RdL Elt.ver S w v x.chain;len:=by rintro _ _ _ _⟨_,_,rfl,_⟩;rfl
 keep:=by rintro _ _ _ _ _⟨u,v,rfl,h,h2⟩hk;exact⟨u,v,rfl,h.keep hk,h2.keep hk⟩
 weak:=by rintro _ _ _ _ _⟨u,v,rfl,h,h2⟩hk;exact⟨u,v,rfl,h.weak hk,h2.weak hk⟩
 fit:=by rintro _ _ _ _⟨u,v,rfl,h,h2⟩;exact⟨u,v,rfl,h.fit,h2.fit⟩
 one:=by
  rintro _ _ _ _⟨u,v,rfl,h,h2⟩x hx;have h1:=h.one;obtain⟨_,_,rfl,_⟩:=h2.shape;simp only[zU,yJ,yK]at hx;rcases hx with rfl|rfl
  ·exact h1
  · rfl
def Elt.node(E:Elt Nd):Elt Nd where
 size:=3;pos:=by omega
 R S w n vs:=∃v1 v2 v3,vs=[v1,v2,v3]/\RdL Elt.bytes S w v1 n.keys/\RdL (Elt.list Elt.ver) S w v2 n.chains/\RdL E S w v3 n.kids;len:=by rintro _ _ _ _⟨_,_,_,rfl,_⟩;rfl
 keep:=by rintro _ _ _ _ _⟨v1,v2,v3,rfl,h1,h2,h3⟩ hk;exact⟨v1,v2,v3,rfl,h1.keep hk,h2.keep hk,h3.keep hk⟩
 weak:=by rintro _ _ _ _ _⟨v1,v2,v3,rfl,h1,h2,h3⟩hk;exact⟨v1,v2,v3,rfl,h1.weak hk,h2.weak hk,h3.weak hk⟩
 fit:=by rintro _ _ _ _⟨v1,v2,v3,rfl,h1,h2,h3⟩;exact⟨v1,v2,v3,rfl,h1.fit,h2.fit,h3.fit⟩
 one:=by
  rintro _ _ _ _⟨v1,v2,v3,rfl,h1,h2,h3⟩u hu;obtain⟨_,_,rfl,_⟩:=h1.shape;obtain⟨_,_,rfl,_⟩:=h2.shape;obtain⟨_,_,rfl,_⟩:=h3.shape;simp only[zU,yJ,yK]at hu;rcases hu with rfl|rfl|rfl<;>rfl
def eltN:Nat->Elt Nd
 |0=>{size:=3,pos:=by omega,R:=λ_ _ _ _=>False,len:=λh=>h.elim,keep:=λh _=>h,weak:=λh _=>h,fit:=λh=>h,one:=λh=>h.elim}
 |d+1=>Elt.node (eltN d)
theorem zfu:∀d,(eltN d).size=3
 |0=>rfl
 |_+1=>rfl
theorem zne{S:Nat->Prop}{w:World}:∀{d:Nat}{n:Nd}{vs:List Value},(eltN d).R S w n vs->(eltN (d+1)).R S w n vs
 |0,_,_,h=>h.elim
 |d+1,n,vs,⟨v1,v2,v3,e,h1,h2,h3⟩=>⟨v1,v2,v3,e,h1,h2,h3.imp (by rw[zfu,zfu]) λ_ _ _ h=>zne h⟩
theorem zuy{S:Nat->Prop}{w:World}{d d':Nat}(hd:d<=d'){n:Nd}{vs:List Value}(h:(eltN d).R S w n vs):(eltN d').R S w n vs:=by
 induction hd with
 |refl=>exact h
 |step _ ih=>exact zne ih
def Elt.nd:Elt Nd where
 size:=3;pos:=by omega
 R S w n vs:=∃d,(eltN d).R S w n vs;len:=by rintro _ _ _ _ ⟨d,h⟩;exact((eltN d).len h).trans (zfu d)
 keep:=by rintro _ _ _ _ _ ⟨d,h⟩ hk;exact⟨d,(eltN d).keep h hk⟩
 weak:=by rintro _ _ _ _ _ ⟨d,h⟩ hk;exact⟨d,(eltN d).weak h hk⟩
 fit:=by rintro _ _ _ _ ⟨d,h⟩;exact⟨d,(eltN d).fit h⟩
 one:=by rintro _ _ _ _ ⟨d,h⟩;exact(eltN d).one h
section
variable {S S' : Nat → Prop} {w w' : World} {n : Nd}
theorem nd_out{vs:List Value}(h:Elt.nd.R S w n vs):∃v1 v2 v3,vs=[v1,v2,v3]/\RdL Elt.bytes S w v1 n.keys/\RdL (Elt.list Elt.ver) S w v2 n.chains/\RdL Elt.nd S w v3 n.kids:=by
 obtain⟨d,h⟩:=h;cases d with
 |zero=>exact h.elim
 |succ d=>
  obtain⟨v1,v2,v3,e,h1,h2,h3⟩:=h;exact⟨v1,v2,v3,e,h1,h2,h3.imp (by rw[zfu];rfl) λ_ _ _ h=>⟨d,h⟩⟩
theorem zt9{v:Value}{xs:List Nd}(h:RdL Elt.nd S w v xs):∃d,RdL (eltN d) S w v xs:=by
  obtain⟨a,cap,h1,h2,h3,h4⟩:=h;rcases h4 with rfl|⟨b,off,e,hb,hr⟩
  ·exact⟨0,a,cap,h1,h2,h3,.inl rfl⟩
  · have:∀m,m<=xs.length->∃d,∀r (h:r<xs.length),r<m->∃vs,(eltN d).R S w xs[r] vs/\∀j u,vs[j]?=some u->w.cell? ⟨b,off+r*3+j,none⟩=some u:=by
      intro m;induction m with
      |zero=>exactλ_=>⟨0,λr _ h=>absurd h (yH _)⟩
      |succ m ih=>
        intro hm;obtain⟨d,hd⟩:=ih (by omega);obtain⟨vs,⟨d2,hR⟩,hc⟩:=hr m (by omega);refine⟨max d d2,λr hr1 hr2=>?_⟩;rcases zA r m with h5|h5
        · obtain⟨vs',hR',hc'⟩:=hd r hr1 h5
          exact⟨vs',zuy (Nat.le_max_left _ _) hR',hc'⟩
        · obtain rfl:r=m:=by omega
          exact⟨vs,zuy (Nat.le_max_right _ _) hR,hc⟩
    obtain⟨d,hd⟩:=this xs.length (zf _);refine⟨d,a,cap,h1,h2,h3,.inr ⟨b,off,e,hb,λr hr=>?_⟩⟩;obtain⟨vs,hR,hc⟩:=hd r hr hr;exact⟨vs,hR,by rw[zfu];exact hc⟩
theorem nd_in{v1 v2 v3:Value}(h1:RdL Elt.bytes S w v1 n.keys)(h2:RdL (Elt.list Elt.ver) S w v2 n.chains)(h3:RdL Elt.nd S w v3 n.kids):Elt.nd.R S w n [v1,v2,v3]:=by
 obtain⟨d,h3⟩:=zt9 h3;exact⟨d+1,v1,v2,v3,rfl,h1,h2,h3⟩
end
def RdN (S:Nat->Prop)(w:World)(v:Value)(n:Nd):Prop:=
 ∃a1 c1 a2 c2 a3 c3,v=.agg #[.slice a1 n.keys.length c1,.slice a2 n.chains.length c2,.slice a3 n.kids.length c3]/\RdL Elt.bytes S w (.slice a1 n.keys.length c1) n.keys/\RdL (Elt.list Elt.ver) S w (.slice a2 n.chains.length c2) n.chains/\RdL Elt.nd S w (.slice a3 n.kids.length c3) n.kids
section
variable {S S' : Nat → Prop} {w w' : World} {n : Nd} {v : Value}
theorem RdN.below (h:RdN S w v n)(hb:Below w.heap.size w w'):RdN S w' v n:=by
 obtain⟨a1,c1,a2,c2,a3,c3,e,h1,h2,h3⟩:=h;exact⟨a1,c1,a2,c2,a3,c3,e,h1.below hb,h2.below hb,h3.below hb⟩
theorem RdN.keep(h:RdN S w v n)(hk:∀k,S k->w'.heap[k]?=w.heap[k]?):RdN S w' v n:=by
 obtain⟨a1,c1,a2,c2,a3,c3,e,h1,h2,h3⟩:=h;exact⟨a1,c1,a2,c2,a3,c3,e,h1.keep hk,h2.keep hk,h3.keep hk⟩
theorem RdN.weak (h:RdN S w v n)(hk:∀k,S k->S' k):RdN S' w v n:=by
 obtain⟨a1,c1,a2,c2,a3,c3,e,h1,h2,h3⟩:=h;exact⟨a1,c1,a2,c2,a3,c3,e,h1.weak hk,h2.weak hk,h3.weak hk⟩
theorem RdN.fit (h:RdN S w v n):RdN (λk=>S k/\k<w.heap.size) w v n:=by
 obtain⟨a1,c1,a2,c2,a3,c3,e,h1,h2,h3⟩:=h;exact⟨a1,c1,a2,c2,a3,c3,e,h1.fit,h2.fit,h3.fit⟩
theorem RdN.of{vs:List Value}(h:Elt.nd.R S w n vs):RdN S w (.agg vs.toArray) n:=by
 obtain⟨v1,v2,v3,rfl,h1,h2,h3⟩:=nd_out h;obtain⟨a1,c1,rfl,_,_⟩:=h1.shape;obtain⟨a2,c2,rfl,_,_⟩:=h2.shape;obtain⟨a3,c3,rfl,_,_⟩:=h3.shape;exact⟨a1,c1,a2,c2,a3,c3,rfl,h1,h2,h3⟩
theorem RdL.kid {a:Option Addr}{m c:Nat}{ns:List Nd}(h:RdL Elt.nd S w (.slice a m c) ns)(r:Nat)(hr:r<ns.length):∃b off a1 c1 a2 c2 a3 c3,a=some ⟨b,off,none⟩/\w.cell? ⟨b,off+r*3,none⟩=some (.slice a1 ns[r].keys.length c1)/\w.cell? ⟨b,off+r*3+1,none⟩=some (.slice a2 ns[r].chains.length c2)/\w.cell? ⟨b,off+r*3+2,none⟩=some (.slice a3 ns[r].kids.length c3)/\RdN S w (.agg #[.slice a1 ns[r].keys.length c1,.slice a2 ns[r].chains.length c2,.slice a3 ns[r].kids.length c3]) ns[r]:=by
 obtain⟨b,off,vs,rfl,hb,hR,hc⟩:=h.at r hr;obtain⟨v1,v2,v3,rfl,h1,h2,h3⟩:=nd_out hR;obtain⟨a1,c1,rfl,_,_⟩:=h1.shape;obtain⟨a2,c2,rfl,_,_⟩:=h2.shape;obtain⟨a3,c3,rfl,_,_⟩:=h3.shape;exact⟨b,off,a1,c1,a2,c2,a3,c3,rfl,hc 0 _ rfl,hc 1 _ rfl,hc 2 _ rfl,a1,c1,a2,c2,a3,c3,rfl,h1,h2,h3⟩
theorem RdL.byt{a:Option Addr}{m c:Nat}{ks:List (List UInt8)}(h:RdL Elt.bytes S w (.slice a m c) ks)(r:Nat)(hr:r<ks.length):∃b off A C,a=some ⟨b,off,none⟩/\w.cell? ⟨b,off+r,none⟩=some (.slice A ks[r].length C)/\RdS S w (.slice A ks[r].length C) ks[r]:=by
 obtain⟨b,off,vs,rfl,hb,⟨v,rfl,hv⟩,hc⟩:=h.at r hr;obtain⟨A,C,rfl,_,_⟩:=hv.shape;have:=hc 0 _ rfl;simp only[show Elt.bytes.size=1 from rfl,Nat.mul_one,yO]at this;exact⟨b,off,A,C,rfl,this,hv⟩
theorem RdL.lst{α:Type}{E:Elt α}{a:Option Addr}{m c:Nat}{ks:List (List α)}(h:RdL (Elt.list E) S w (.slice a m c) ks)(r:Nat)(hr:r<ks.length):∃b off A C,a=some ⟨b,off,none⟩/\w.cell? ⟨b,off+r,none⟩=some (.slice A ks[r].length C)/\RdL E S w (.slice A ks[r].length C) ks[r]:=by
 obtain⟨b,off,vs,rfl,hb,⟨v,rfl,hv⟩,hc⟩:=h.at r hr;obtain⟨A,C,rfl,_,_⟩:=hv.shape;have:=hc 0 _ rfl;simp only[show(Elt.list E).size=1 from rfl,Nat.mul_one,yO]at this;exact⟨b,off,A,C,rfl,this,hv⟩
end
theorem ndP:LoP Tryz.prog 44 46 3:=⟨⟨by kernel_rfl,by kernel_rfl⟩,.agg #[.slice none 0 0,.slice none 0 0,.slice none 0 0],72,by kernel_rfl,rfl,by omega⟩
theorem ndS:StP Tryz.prog 46 3:=StP.of (by kernel_rfl)
theorem chsP:LoP Tryz.prog 43 102 1:=⟨⟨by kernel_rfl,by kernel_rfl⟩,.slice none 0 0,24,by kernel_rfl,rfl,by omega⟩
theorem kysP:LoP Tryz.prog 42 23 1:=⟨⟨by kernel_rfl,by kernel_rfl⟩,.slice none 0 0,24,by kernel_rfl,rfl,by omega⟩
theorem RdN.lens{S:Nat->Prop}{w:World}{v:Value}{n:Nd}(h:RdN S w v n):n.keys.length<=9223372036854775807/\n.chains.length<=9223372036854775807/\n.kids.length<=9223372036854775807:=by
 obtain⟨a1,c1,a2,c2,a3,c3,e,h1,h2,h3⟩:=h;have e1:=h1.len;have e2:=h2.len;have e3:=h3.len;unfold maxLen at e1 e2 e3;omega
theorem lenEq{a b:Nat}(h:a=b):((a:Int)!=(b:Int))=false:=by simp[h]
theorem lenNe{a b:Nat}(h:¬a=b):((a:Int)!=(b:Int))=true:=by rw[xi];omega
theorem allD_yes{d:Int}{r:List Int}(h:∀x∈r,x=d)(hd:0<=d):allD (d::r)=d+1:=by
 simp only[allD];exact zi ⟨h,hd⟩
theorem zkd:∀(N:Nat){n:Nd}{root:Bool},wN n<=N->-1<=zb8 n root/\zb8 n root<=(wN n:Int)
  |0,n,_,h=>by have:=zil n;omega
  |N+1,n,root,h=>by
    rcases Int.lt_or_le (zb8 n root) 0 with h0|h0
    · refine⟨?_,by omega⟩
      rw[zcs]at h0⊢;split
      ·omega
      · split
        ·omega
        · split
          ·omega
          ·cases hm:n.kids.map (zb8 · false)with
            |nil=>simp[allD]
            |cons d r=>
              simp only[allD];split<;>omega
    · obtain⟨_,_,_,h1|h1⟩:=zd1 rfl h0
      · have:=zil n;omega
      · obtain⟨h2,h3,h4,h5⟩:=h1
        cases hk:n.kids with
        |nil=>rw[hk]at h2;simp at h2
        |cons m r=>
          have hm:m∈n.kids:=by rw[hk];simp
          have h6:=h5 m hm;have h7:=zim hm;have h8:=(zkd N (n:=m) (root:=false) (by omega)).2;omega
theorem zpv:∀(N:Nat){n:Nd}{root:Bool},wN n<=N->0<=zb8 n root->(zac n).length<=wN n
  |0,n,_,h,_=>by have:=zil n;omega
  |N+1,n,root,hN,hd=>by
    obtain⟨hc,hk,hr,h1|h1⟩:=zd1 rfl hd
    · rw[zhc n h1.1];exact(zh5 n).1
    · obtain⟨h2,h3,h4,h5⟩:=h1
      rw[zmq n h2];have hw:wN n=1+n.keys.length+n.chains.length+n.kids.length+wL n.kids:=by cases n;rw[wN];rfl
      have hs:∀ns:List Nd,(∀m∈ns,m∈n.kids)->(ns.map λm=>(zac m).length).sum<=wL ns:=by
        intro ns;induction ns with
        |nil=>intro _;simp
        |cons m r ih=>
          intro hm;have h6:=ih λx hx=>hm x (by simp[hx])
          have h7:=hm m (by simp);have h8:=zim h7;have h9:=zpv N (n:=m) (root:=false) (by omega) (by rw[h5 m h7];omega);rw[wL,zn,wm];omega
      have h6:=hs n.kids λ_ h=>h
      omega
theorem zt4{ns:List Nd}{i:Nat}(h:i<ns.length):(ns.map zac).getD i []=zac ns[i]:=by
 rw[yu,List.getElem?_map,zB h];rfl
mutual
def bndN:Nd->Prop
 |.mk ks cs ns=>(∀k∈ks,k.length<=1000)/\(∀c∈cs,zb9 c)/\bndL ns
def bndL:List Nd->Prop
 |[]=>True
 |n::ns=>bndN n/\bndL ns
end
theorem zqt:∀(ns:List Nd),bndL ns↔∀m∈ns,bndN m
 |[]=>by simp[bndL]
 |n::ns=>by simp[bndL,zqt ns]
theorem zf7 (n:Nd):bndN n↔(∀k∈n.keys,k.length<=1000)/\(∀c∈n.chains,zb9 c)/\∀m∈n.kids,bndN m:=by
 cases n with
 |mk ks cs ns=>rw[bndN,zqt];rfl
def fitN (n:Nd):Prop:=wN n<=100000/\bndN n
theorem zt0{ps:List (List Pr)}{ks:List (List UInt8)}{cs:List (List Ver)}:∀{i j:Nat},j<i->(⟨ks.getD j [],cs.getD j []⟩:Pr)∈wv ps ks cs i/\∀p∈ps.getD j [],p∈wv ps ks cs i
  |0,_,h=>absurd h (yH _)
  |i+1,j,h=>by
    rw[wv];rcases zA j i with h1|h1
    · obtain⟨h2,h3⟩:=zt0 (ps:=ps) (ks:=ks) (cs:=cs) h1
      exact⟨xI _ (xI _ h2),λp hp=>xI _ (xI _ (h3 p hp))⟩
    · obtain rfl:j=i:=by omega
      exact⟨wJ _ (yL.2 rfl),λp hp=>xI _ (wJ _ hp)⟩
theorem znp:∀(N:Nat){n:Nd}{root:Bool},wN n<=N->0<=zb8 n root->(∀p∈zac n,p.key.length<=1000/\zb9 p.chain)->bndN n
  |0,n,_,h,_,_=>by have:=zil n;omega
  |N+1,n,root,hN,hd,hp=>by
    obtain⟨hc,_,_,hsh⟩:=zd1 rfl hd;have hpd:=zf2 n;have hin:∀j,j<n.keys.length->(⟨n.keys.getD j [],n.chains.getD j []⟩:Pr)∈zac n:=λj hj=>by
      rw[hpd];exact xI _ (zt0 hj).1
    refine(zf7 n).2 ⟨λk hk=>?_,λc hc2=>?_,λm hm=>?_⟩
    · obtain⟨j,hj,rfl⟩:=yy.1 hk
      have:=(hp _ (hin j hj)).1;rw[yu,zB hj]at this;exact this
    · obtain⟨j,hj,rfl⟩:=yy.1 hc2
      have:=(hp _ (hin j (by omega))).2;simp only[yu,zB hj]at this;exact this
    · rcases hsh with⟨h1,_⟩|⟨h1,h2,h3,h4⟩
      · rw[h1]at hm;cases hm
      · have h5:=zim hm
        have h6:=h4 m hm;refine znp N (n:=m) (root:=false) (by omega) (by omega) λp hpm=>hp p ?_
        obtain⟨j,hj,rfl⟩:=yy.1 hm;rw[hpd];rcases zA j n.keys.length with h7|h7
        ·exact xI _ ((zt0 h7).2 p (by rw[zt4 hj];exact hpm))
        · obtain rfl:j=n.kids.length-1:=by omega
          exact wJ _ (by rw[zt4 hj];exact hpm)
def fewP(l:List Pr):Prop:=l.length<=2000/\∀p∈l,zb9 p.chain
theorem zms{n:Nd}(h:okN n)(hf:fewP (zac n)):fitN n:=by
 have h1:=(zhq (wN n) (zf _) h.1).1;have h2:=hf.1;refine⟨by omega,znp (wN n) (zf _) h.1 λp hp=>⟨?_,hf.2 p hp⟩⟩;have:=((zdu _).1 h.2).1 p hp;have:=this.2.2;omega
theorem zuw{l:List Pr}(hs:Srt l)(hf:∀p∈l,zb9 p.chain){k:List UInt8}{c:List Ver}(hc:zb9 c):∀p∈putP l k c,zb9 p.chain:=λp hp=>by
 rw[zek hs]at hp;rcases zhg hp with rfl|hp
 ·exact hc
 ·exact hf p hp
def KeysEnd (w:World)(l:List (List UInt8))(e:Ending)(w':World):Prop:=
 ∃a c,e=.returned (.slice a l.length c)/\RdL Elt.bytes (λk=>w.heap.size<=k/\k<w'.heap.size) w' (.slice a l.length c) l/\Below w.heap.size w w'
def zls (w:World)(r:Option (List Ver))(e:Ending)(w':World):Prop:=
 ∃a c,e=.returned (.tuple #[.slice a (r.getD []).length c,.bool r.isSome])/\RdL Elt.ver (λk=>w.heap.size<=k/\k<w'.heap.size) w' (.slice a (r.getD []).length c) (r.getD [])/\Below w.heap.size w w'
def NextEnd (w:World)(r:Option (List UInt8))(e:Ending)(w':World):Prop:=
 ∃a c,e=.returned (.tuple #[.slice a (r.getD []).length c,.bool r.isSome])/\RdS (λk=>w.heap.size<=k/\k<w'.heap.size) w' (.slice a (r.getD []).length c) (r.getD [])/\Below w.heap.size w w'
def NodeEnd (w:World)(Q:Nd->Nat->Prop)(e:Ending)(w':World):Prop:=
 ∃v n er,e=.returned (.tuple #[v,.int .i64 (er:Nat)])/\Q n er/\RdN (λk=>w.heap.size<=k/\k<w'.heap.size) w' v n/\Below w.heap.size w w'
def zg3:Obj:=.cells #[.slice none 0 0,.slice none 0 0,.slice none 0 0] 46 (0,0)
def zjm(n:Nd)(k:List UInt8)(c:List Ver)(m:Nd)(er:Nat):Prop:=
 if okN n/\k.length<=16/\okV c/\c≠[]then er=0/\okN m/\zac m=putP (zac n) k c else er=1/\m=n
theorem zfi{o:Oper}{a:Act}{K:Act->World->Prop}{Q:Exit->Act->World->Prop}{w:World}(ho:o.op=.alloc 46)(h:∀w',Below w.heap.size w w'->w'.heap[w.heap.size]?=some zg3->K (a.put o.dst (.pointer (some ⟨w.heap.size,0,none⟩))) w'):o.wp Tryz.prog a w K Q:=by
 obtain⟨i,z,hi,hz,hsz,_,_⟩:=ndP.all;have hz2:z=.agg #[.slice none 0 0,.slice none 0 0,.slice none 0 0]:=by
  have h1:(Tryz.prog.info? 46).bind (·.zero)=some (.agg #[.slice none 0 0,.slice none 0 0,.slice none 0 0]):=by kernel_rfl
  rw[hi]at h1;simp only[Option.bind_some,hz]at h1;injection h1
 subst hz2;have hrun:(execOp a.eval o).run Tryz.prog w=.ok (.value (.pointer (some ⟨w.heap.size,0,none⟩))) (w.alloc zg3):=by
  simp[execOp,ho,newVar,zeroValue,typeInfo,hi,hz,zg3,Value.cells,go_sem]
 unfold Oper.wp;rw[hrun];exact h _ ((ze _ _).alloc (zf _) _) (by simp only[World.alloc,yf])
theorem zby(w:World){B:Nat}{ad:Option Addr}{n c:Nat}{xs:List UInt8}(hr:Rd B w (.slice ad n c) xs)(hB:B<=w.heap.size)(hx:xs.length<=1000000):Calls Tryz.prog 60 #[.slice ad n c] w λe w'=>∃ad' k c',e=.returned (.slice ad' k c')/\zjn 5 w w' (.slice ad' k c') xs:=by
  have he:=λ(w:World)(ad:Option Addr)(n c:Nat)=>Lib.run_eql_slice_nil (P:=Tryz.prog) w 23 5 ad n c 0 0 byP.hT
  obtain⟨rfl,_,_⟩:=hr.len;cases ad with
  |none=>
    have hr':=hr;rcases hr with⟨_,_,h,_,rfl⟩|⟨_,_,_,h,_⟩
    · go_enter Tryz.func60,Tryz.ntmps60
      go_wp2;go_ret;exact⟨_,_,_,rfl,zjn.nil _ _⟩
    ·cases h
  |some p=>
    go_enter Tryz.func60,Tryz.ntmps60;go_wp2_with(first
      |(refine zho byP rfl rfl [] (by kernel_rfl) rfl (by simp) ?_;intro g k1 w1 hF)
      |(at_builtin;refine zgm byP rfl rfl rfl hF.2 rfl (hr.below (hF.1.mono hB)) hF.1.size ?_ ?hlen;intro ad' k' c' w2 hO hg hb))
    case hlen=>simp;omega
    go_ret;exact⟨_,_,_,rfl,hF.1.trans hb,hO⟩
theorem znq (w:World){S:Nat->Prop}{A:Option Addr}{n c:Nat}{s:Int}{g:Bool}{vs:List UInt8}(hv:RdS S w (.slice A n c) vs):Calls Tryz.prog 83 #[.agg #[.int .i64 s,.bool g,.slice A n c]] w λe w'=>e=.returned (.bool (decide (mayV ⟨s,g,vs⟩)))/\Below w.heap.size w w':=by
  obtain⟨rfl,hnc,hcm⟩:=hv.len;have hlm:vs.length<=9223372036854775807:=by unfold maxLen at hcm;omega
  cases g
  ·
    by_cases h1:1<=s
    · have d1:decide ((1:Int)<=s)=true:=zk h1
      by_cases h2:s<2147483648
      · have d2:decide (s<=(2147483647:Int))=true:=zk (by omega)
        by_cases h3:vs.length<=32
        · have d3:decide ((vs.length:Int)<=32)=true:=zk (by omega)
          have hk:=Lib.hid (show decide (mayV ⟨s,false,vs⟩)=true from zk ⟨h1,h2,h3,by simp⟩);clear h1 h2 h3;go_enter Tryz.func83,Tryz.ntmps83;go_wp2;go_ret;exact⟨by rw[hk.out];rfl,(ze _ _).alloc (zf _) _⟩
        · have d3:decide ((vs.length:Int)<=32)=false:=zj (by omega)
          have hk:=Lib.hid (show decide (mayV ⟨s,false,vs⟩)=false from zj (λh=>h3 h.2.2.1));clear h1 h2 h3;go_enter Tryz.func83,Tryz.ntmps83;go_wp2;go_ret;exact⟨by rw[hk.out];rfl,(ze _ _).alloc (zf _) _⟩
      · have d2:decide (s<=(2147483647:Int))=false:=zj (by omega)
        have hk:=Lib.hid (show decide (mayV ⟨s,false,vs⟩)=false from zj (λh=>h2 h.2.1));clear h1 h2;go_enter Tryz.func83,Tryz.ntmps83;go_wp2;go_ret;exact⟨by rw[hk.out];rfl,(ze _ _).alloc (zf _) _⟩
    · have d1:decide ((1:Int)<=s)=false:=zj h1
      have hk:=Lib.hid (show decide (mayV ⟨s,false,vs⟩)=false from zj (λh=>h1 h.1));clear h1;go_enter Tryz.func83,Tryz.ntmps83;go_wp2;go_ret;exact⟨by rw[hk.out];rfl,(ze _ _).alloc (zf _) _⟩
  · by_cases h4:0<vs.length
    · have hk:=Lib.hid (show decide (mayV ⟨s,true,vs⟩)=false from zj (λh=>by have:vs.length=0:=h.2.2.2 rfl;omega))
      go_enter Tryz.func83,Tryz.ntmps83;go_wp2;go_ret;exact⟨by rw[hk.out];rfl,(ze _ _).alloc (zf _) _⟩
    ·
      by_cases h1:1<=s
      · have d1:decide ((1:Int)<=s)=true:=zk h1
        by_cases h2:s<2147483648
        · have d2:decide (s<=(2147483647:Int))=true:=zk (by omega)
          by_cases h3:vs.length<=32
          · have d3:decide ((vs.length:Int)<=32)=true:=zk (by omega)
            have hk:=Lib.hid (show decide (mayV ⟨s,true,vs⟩)=true from zk ⟨h1,h2,h3,λ_=>by show vs.length=0;omega⟩);clear h1 h2 h3;go_enter Tryz.func83,Tryz.ntmps83;go_wp2;go_ret;exact⟨by rw[hk.out];rfl,(ze _ _).alloc (zf _) _⟩
          · have d3:decide ((vs.length:Int)<=32)=false:=zj (by omega)
            have hk:=Lib.hid (show decide (mayV ⟨s,true,vs⟩)=false from zj (λh=>h3 h.2.2.1));clear h1 h2 h3;go_enter Tryz.func83,Tryz.ntmps83;go_wp2;go_ret;exact⟨by rw[hk.out];rfl,(ze _ _).alloc (zf _) _⟩
        · have d2:decide (s<=(2147483647:Int))=false:=zj (by omega)
          have hk:=Lib.hid (show decide (mayV ⟨s,true,vs⟩)=false from zj (λh=>h2 h.2.1));clear h1 h2;go_enter Tryz.func83,Tryz.ntmps83;go_wp2;go_ret;exact⟨by rw[hk.out];rfl,(ze _ _).alloc (zf _) _⟩
      · have d1:decide ((1:Int)<=s)=false:=zj h1
        have hk:=Lib.hid (show decide (mayV ⟨s,true,vs⟩)=false from zj (λh=>h1 h.1));clear h1;go_enter Tryz.func83,Tryz.ntmps83;go_wp2;go_ret;exact⟨by rw[hk.out];rfl,(ze _ _).alloc (zf _) _⟩
theorem zeg (w:World){S:Nat->Prop}{a:Option Addr}{n c:Nat}{l:List Ver}(hl:RdL Elt.ver S w (.slice a n c) l):Calls Tryz.prog 51 #[.slice a n c] w λe w'=>e=.returned (.bool (decide (okV l)))/\Below w.heap.size w w':=by
  obtain⟨rfl,hnc,hcm⟩:=hl.len;have hlm:l.length<=9223372036854775807:=by unfold maxLen at hcm;omega
  have q:=ze w.heap.size w;go_enter Tryz.func51,Tryz.ntmps51;go_upto_region 3 with(fail);go_loopw [3,8] (λlv iv wr=>∃(k:Nat) (z:Int),iv=.int .i64 k/\lv=.int .i64 z/\k<=l.length/\(k=0->z=0)/\(∀h:k-1<l.length,0<k->z=l[k-1].stamp)/\(∀i (h:i<l.length),i<k->mayV l[i]/\(0<i->l[i-1].stamp<l[i].stamp))/\Below w.heap.size w wr)(λ_ i _=>l.length-(intOf i).toNat)
  case atStart=>exact⟨0,0,rfl,rfl,zH _,λ_=>rfl,λ_ h=>absurd h (xg _),λi _ h=>by omega,q⟩
  case round=>
    clear q;obtain⟨k,z,rfl,rfl,hkl,hz0,hz1,hok,q⟩:=hrel;rcases zA k l.length with hlt|hge
    · have hl2:=hl.below q
      obtain⟨b,off,A,C,rfl,hb,c0,c1,c2,hv,hi,hn1,hn2⟩:=hl2.ver k hlt;by_cases hs:l[k].stamp<=z
      · have hno:decide (okV l)=false:=zj λh=>by
          rcases yx k with h0|h0
          · have:=(h k hlt).1.1
            have:=hz0 h0;omega
          · have h1:=(h k hlt).2 h0
            have h2:=hz1 (by omega) h0;omega
        have HK:=Lib.hid hno;have dS:decide (l[k].stamp<=z)=true:=zk hs;clear hno hok hz0 hz1 hs;go_wp2_with fail;go_ret;exact⟨by rw[HK.out];rfl,q.alloc q.size _⟩
      · have dS:decide (l[k].stamp<=z)=false:=zj hs
        go_wp2_with fail;have hT:=TriV.new wr 100 (.int .i64 l[k].stamp) (.bool l[k].gone) (.slice A l[k].value.length C);have hq0:Below wr.heap.size wr (wr.alloc (.cells #[.int .i64 l[k].stamp,.bool l[k].gone,.slice A l[k].value.length C] 100)):=(ze _ _).alloc (zf _) _;generalize hW:wr.alloc (.cells #[.int .i64 l[k].stamp,.bool l[k].gone,.slice A l[k].value.length C] 100)=W at hT hq0⊢;clear hW;refine(znq _ (hv.below hq0)).mono ?_;rintro e w1⟨rfl,hb1⟩;have q1:=q.trans (hq0.mono q.size);replace q1:=q1.trans (hb1.mono q1.size);replace hT:=hT.below hb1 hT.lt;have t0:=hT.cell0;clear c0 c1 c2 hv hb1 hq0 hT;by_cases hm:mayV l[k]
        · rw[show decide (mayV ⟨l[k].stamp,l[k].gone,l[k].value⟩)=true from zk hm]
          have hok':∀i (h:i<l.length),i<k+1->mayV l[i]/\(0<i->l[i-1].stamp<l[i].stamp):=λi h h1=>by
            rcases zA i k with h2|h2
            ·exact hok i h h2
            · obtain rfl:i=k:=by omega
              refine⟨hm,λh0=>?_⟩;have h3:=hz1 (by omega) h0;omega
          have HK:=Lib.hid hok';clear hok hok' hm hz0 hz1 hs;go_wp2_with fail;go_roundw;case rel=>exact⟨k+1,l[k].stamp,by go_num,rfl,by omega,λh=>by omega,λh _=>by simp,HK.out,q1⟩
          case measure=>simp[intOf];omega
        · have hk:=Lib.hid (show decide (okV l)=false from zj (λh=>hm (h k hlt).1))
          rw[show decide (mayV ⟨l[k].stamp,l[k].gone,l[k].value⟩)=false from zj hm];clear hok hm hz0 hz1 hs;go_wp2_with fail;go_ret;exact⟨by rw[hk.out];rfl,q1⟩
    · obtain rfl:k=l.length:=by omega
      have hk:=Lib.hid (show decide (okV l)=true from zk (λi h=>hok i h h));clear hok hz0 hz1;go_wp2_with fail;go_ret;exact⟨by rw[hk.out];rfl,q⟩
theorem zrk (w:World){n:Nat}(F:FuncId)(caps:Array Value)(hE:Enters Tryz.prog F)(hn:n<=1000000)(m:Nat)(hm:m<=n)(hF:∀(W:World)(i:Nat),i<n->Below w.heap.size w W->Calls Tryz.prog F (#[.int .i64 i]++caps) W λe W'=>e=.returned (.bool (decide (m<=i)))/\Below w.heap.size W W'):
    Calls Tryz.prog 147 #[.int .i64 n,.func (.func F) #[] caps] w λe w'=>e=.returned (.int .i64 m)/\Below w.heap.size w w':=by
  have q:=ze w.heap.size w;have hEE:=hE;unfold Enters at hEE;go_enter Tryz.func147,Tryz.ntmps147;go_upto_region 2 with(fail);go_loopw [5,6] (λiv jv wr=>∃(i j:Nat),iv=.int .i64 i/\jv=.int .i64 j/\i<=m/\m<=j/\j<=n/\Below w.heap.size w wr)(λi j _=>(intOf j).toNat-(intOf i).toNat)
  case atStart=>exact⟨0,n,rfl,rfl,zH _,hm,zf _,q⟩
  case round=>
    clear q;obtain⟨i,j,rfl,rfl,him,hmj,hjn,q⟩:=hrel;rcases zA i j with hlt|hge
    · obtain⟨h,hh⟩:∃h:Nat,h=(i+j)/2:=⟨_,rfl⟩
      have e:((i:Int)+(j:Int))/2=(h:Int):=by omega
      have hih:i<=h:=by omega
      have hhj:h<j:=by omega
      clear hh;go_wp2_with fail;clear e;refine(hF wr h (by omega) q).mono ?_;rintro e w1 ⟨rfl,hb1⟩;have q1:=q.trans hb1;clear q hb1;rcases zA h m with h1|h1
      · rw[show decide (m<=h)=false from zj (by omega)]
        go_wp2_with fail;go_roundw;case rel=>exact⟨h+1,j,by go_num,rfl,by omega,hmj,hjn,q1⟩
        case measure=>simp[intOf];omega
      · rw[show decide (m<=h)=true from zk h1]
        go_wp2_with fail;go_roundw;case rel=>exact⟨i,h,rfl,rfl,him,by omega,by omega,q1⟩
        case measure=>simp[intOf];omega
    · obtain rfl:i=m:=by omega
      go_wp2_with fail;go_ret;exact⟨rfl,q⟩
theorem zsu(w:World){S:Nat->Prop}{a:Option Addr}{n c:Nat}{l:List Ver}{s:Int}(hl:RdL Elt.ver S w (.slice a n c) l)(b1 b2 i:Nat)(hi:i<l.length)(h1:w.cell? ⟨b1,0,none⟩=some (.slice a n c))(h2:w.cell? ⟨b2,0,none⟩=some (.int .i64 s)):
  Calls Tryz.prog 148 #[.int .i64 i,.pointer (some ⟨b1,0,none⟩),.pointer (some ⟨b2,0,none⟩)] w λe w'=>e=.returned (.bool (decide (s<l[i].stamp)))/\Below w.heap.size w w':=by
 obtain⟨rfl,hnc,hcm⟩:=hl.len;have hlm:l.length<=9223372036854775807:=by unfold maxLen at hcm;omega
 obtain⟨b,off,A,C,rfl,hb,c0,c1,c2,hv,hi2,hn1,hn2⟩:=hl.ver i hi;go_enter Tryz.func148,Tryz.ntmps148;go_upto_region 1 with(fail);go_quiet (fail);go_wp2_with fail;go_ret;exact⟨rfl,Below.drewN (ze _ _) _⟩
theorem znm (w:World)(t:TypeId)(v:Value):(w.alloc (.cells #[v] t)).cell? ⟨w.heap.size,0,none⟩=some v:=by
 have h:(w.alloc (.cells #[v] t)).heap[w.heap.size]?=some (.cells #[v] t (0,0)):=by simp only[World.alloc,yf]
 generalize w.alloc (.cells #[v] t)=W at h⊢;simp[World.cell?,h]
theorem upBoxes(w:World)(t u:TypeId)(x y:Value):Below w.heap.size w ((w.alloc (.cells #[x] t)).alloc (.cells #[y] u))/\((w.alloc (.cells #[x] t)).alloc (.cells #[y] u)).cell? ⟨w.heap.size,0,none⟩=some x/\((w.alloc (.cells #[x] t)).alloc (.cells #[y] u)).cell? ⟨w.heap.size+1,0,none⟩=some y:=by
 have h1:Below w.heap.size w (w.alloc (.cells #[x] t)):=(ze _ _).alloc (zf _) _;have hs:(w.alloc (.cells #[x] t)).heap.size=w.heap.size+1:=yG _ _;have h2:Below (w.alloc (.cells #[x] t)).heap.size (w.alloc (.cells #[x] t)) ((w.alloc (.cells #[x] t)).alloc (.cells #[y] u)):=(ze _ _).alloc (zf _) _;refine⟨h1.trans (h2.mono h1.size),(zag (h2.block _ (by omega)) _).trans (znm w t x),?_⟩;have:=znm (w.alloc (.cells #[x] t)) u y;rw[hs]at this;exact this
theorem zkm(w:World){S:Nat->Prop}{a:Option Addr}{n c:Nat}{l:List Ver}{s:Int}(hl:RdL Elt.ver S w (.slice a n c) l)(hk:okV l)(hx:l.length<=1000):Calls Tryz.prog 117 #[.slice a n c,.int .i64 s] w λe w'=>e=.returned (.int .i64 (cntV l s:Nat))/\Below w.heap.size w w':=by
  obtain⟨rfl,hnc,hcm⟩:=hl.len;have hb2:=upBoxes w 102 3 (.slice a l.length c) (.int .i64 s);go_enter Tryz.func117,Tryz.ntmps117;go_wp2_with fail;obtain⟨q0,hc0,hc1⟩:=hb2;generalize (w.alloc (.cells #[.slice a l.length c] 102)).alloc (.cells #[.int .i64 s] 3)=W at*;refine(zrk W 148 _ (enters_of Tryz.func148 (by kernel_rfl) rfl) (by omega) (cntV l s) (zdv l s) (λW2 i hi hb=>?_)).mono ?_
  · refine(zsu (s:=s) W2 (hl.below (q0.trans (hb.mono q0.size))) (w.heap.size) (w.heap.size+1) i hi ?_ ?_).mono ?_
    ·exact(zag (hb.block _ (zad hc0)) _).trans hc0
    ·exact(zag (hb.block _ (zad hc1)) _).trans hc1
    · rintro e w2 ⟨rfl,hb2⟩
      refine⟨?_,hb2.mono hb.size⟩;have:=zhi hk s hi;rw[show decide (s<l[i].stamp)=decide (cntV l s<=i)from by rw[decide_eq_decide];omega]
  · rintro e w2 ⟨rfl,hb2⟩
    go_wp2_with fail;go_ret;exact⟨rfl,q0.trans (hb2.mono q0.size)⟩
def zh4(w:World)(g:Nat)(xs:List Ver)(k:Nat)(W:World):Prop:=
 ∃vs us,W.heap[g]?=some (.cells (vs++us).toArray 100 (0,0))/\Flat Elt.ver (λj=>w.heap.size<=j/\j<W.heap.size/\j≠g) W (xs.take k) vs/\Flat Elt.ver (λj=>j<w.heap.size) W (xs.drop k) us/\w.heap.size<=g/\Below w.heap.size w W
theorem zh4.lt{w W:World}{g k:Nat}{xs:List Ver}(h:zh4 w g xs k W):g<W.heap.size:=by
 obtain⟨vs,us,hg,_⟩:=h;exact(zJ.1 hg).1
theorem zh4.at {w W:World}{g k:Nat}{xs:List Ver}(h:zh4 w g xs k W)(hk:k<xs.length):∃A C,W.cell? ⟨g,k*3+2,none⟩=some (.slice A xs[k].value.length C)/\RdS (λj=>j<w.heap.size) W (.slice A xs[k].value.length C) xs[k].value/\∀W2 v2,Below W.heap.size W W2->RdS (λj=>W.heap.size<=j/\j<W2.heap.size) W2 v2 xs[k].value->W2.cell? ⟨g,k*3+2,none⟩=some (.slice A xs[k].value.length C)/\W2.frozen? ⟨g,k*3+2,none⟩=false/\zh4 w g xs (k+1) (W2.setCell ⟨g,k*3+2,none⟩ v2):=by
  have hlt:=h.lt;obtain⟨vs,us,hg,hv,hu,hwg,hb⟩:=h;have hvl:=hv.len;rw[zp,yi (xY hk)]at hvl;rw[yQ hk]at hu;obtain⟨cs,us',rfl,⟨v,rfl,hrv,hi⟩,hu'⟩:=hu;obtain⟨A,C,rfl,_,_⟩:=hrv.shape;have hvl':vs.length=k*3:=hvl;have hget:(vs++(verC xs[k] (.slice A xs[k].value.length C)++us'))[k*3+2]?=some (.slice A xs[k].value.length C):=by
    rw[xw (by omega),show k*3+2-vs.length=2 by omega];rfl
  have hcell:∀X:World,X.heap[g]?=some (.cells (vs++(verC xs[k] (.slice A xs[k].value.length C)++us')).toArray 100 (0,0))->X.cell? ⟨g,k*3+2,none⟩=some (.slice A xs[k].value.length C):=λX hX=>by
    simp only[World.cell?,hX,List.getElem?_toArray];exact hget
  refine⟨A,C,hcell W hg,hrv,λW2 v2 hb2 hr2=>?_⟩;have hg2:=(hb2.block g hlt).trans hg;refine⟨hcell W2 hg2,by simp[World.frozen?,hg2],vs++verC xs[k] v2,us',?_,?_,?_,hwg,?_⟩
  · rw[show(W2.setCell ⟨g,k*3+2,none⟩ v2).heap[g]?=some (.cells ((vs++(verC xs[k] (.slice A xs[k].value.length C)++us')).toArray.setIfInBounds (k*3+2) v2) 100 (0,0))by simp[World.setCell,yU,hg2]]
    congr 2;apply Array.ext';simp only[wR];rw[vf _ _ (by omega),show k*3+2-vs.length=2 by omega];simp[verC,List.append_assoc]
  · rw[yT,zB hk]
    have hkeep:∀j,j≠g->j<W.heap.size->(W2.setCell ⟨g,k*3+2,none⟩ v2).heap[j]?=W.heap[j]?:=λj hj h1=>(xm W2 ⟨g,k*3+2,none⟩ j v2 hj).trans (hb2.block j h1)
    refine Flat.append ?_ ?_
    · refine(hv.keep (w':=W2.setCell ⟨g,k*3+2,none⟩ v2) λj hj=>hkeep j hj.2.2 hj.2.1).weak λj hj=>⟨hj.1,?_,hj.2.2⟩
      have:=hb2.size;rw[zpg];omega
    · refine⟨verC xs[k] v2,[],by simp,⟨v2,rfl,?_,hi⟩,rfl⟩
      refine(hr2.keep (w':=W2.setCell ⟨g,k*3+2,none⟩ v2) λj hj=>xm W2 ⟨g,k*3+2,none⟩ j v2 (by have h1:W.heap.size<=j:=hj.1;show j≠g;omega)).weak λj hj=>⟨zv hb.size hj.1,?_,by have h1:W.heap.size<=j:=hj.1;omega⟩
      rw[zpg];exact hj.2
  ·exact hu'.keep λj hj=>(xm W2 ⟨g,k*3+2,none⟩ j v2 (by have h1:j<w.heap.size:=hj;show j≠g;omega)).trans (hb2.block j (zm hj hb.size))
  ·exact(hb.trans (hb2.mono hb.size)).setCell (p:=⟨g,k*3+2,none⟩) hwg _
theorem zh4.done{w W:World}{g:Nat}{xs:List Ver}(h:zh4 w g xs xs.length W)(hm:xs.length<=maxLen):RdL Elt.ver (λk=>w.heap.size<=k/\k<W.heap.size) W (.slice (some ⟨g,0,none⟩) xs.length xs.length) xs:=by
 have hlt:=h.lt;obtain⟨vs,us,hg,hv,hu,hwg,hb⟩:=h;rw[yv]at hv;refine⟨some ⟨g,0,none⟩,xs.length,rfl,zf _,hm,.inr ⟨g,0,rfl,⟨hwg,hlt⟩,λr hr=>?_⟩⟩;obtain⟨cs,h1,h2⟩:=hv.at r hr;refine⟨cs,Elt.ver.weak h1 λj hj=>⟨hj.1,hj.2.1⟩,λj u hj=>?_⟩;have h3:=h2 j u hj;rw[zR];simp only[World.cell?,hg,List.getElem?_toArray];rw[xu (yI.1 h3).1];exact h3
theorem zn8{cur:Array Value}{cs cs2:List Value}{off2 p q:Nat}(hcur:cur.size=p+q)(h1:cs.length=p)(h2:cs2.length=q)(ho:(q=0/\off2=0)\/off2=p):(cur.toList.take 0++cs++cur.toList.drop (0+cs.length)).toArray.toList.take off2++cs2++(cur.toList.take 0++cs++cur.toList.drop (0+cs.length)).toArray.toList.drop (off2+cs2.length)=cs++cs2:=by
  simp only[List.take_zero,yw,zR];rcases ho with⟨rfl,rfl⟩|rfl
  · obtain rfl:cs2=[]:=yg h2
    have:cur.toList.drop cs.length=[]:=List.drop_eq_nil_of_le (by simp;omega);simp[this]
  · have e1:(cs++cur.toList.drop cs.length).take off2=cs:=by rw[<-h1];simp
    have e2:(cs++cur.toList.drop cs.length).drop (off2+cs2.length)=[]:=List.drop_eq_nil_of_le (by simp;omega);rw[e1,e2];simp
theorem off_of(G n m:Nat):∃off,(if n+m=n then some (⟨G,0,none⟩:Addr)else(some (⟨G,0,none⟩:Addr)).map (·.add (n*3)))=some ⟨G,off,none⟩/\((m*3=0/\off=0)\/off=n*3):=by
  by_cases h:n+m=n;·exact⟨0,by rw[zi h],.inl ⟨by omega,rfl⟩⟩
  · refine⟨n*3,?_,.inr rfl⟩
    rw[zh h];simp[zN]
theorem zh4.start{w W:World}{G:Nat}{cs cs2:List Value}{l m:List Ver}(hg:W.heap[G]?=some (.cells (cs++cs2).toArray 100 (0,0)))(hb:Below w.heap.size w W)(hG:w.heap.size<=G)(h1:Flat Elt.ver (·<w.heap.size) W l cs)(h2:Flat Elt.ver (·<w.heap.size) W m cs2):zh4 w G (l++m) 0 W:=
 ⟨[],cs++cs2,hg,rfl,h1.append h2,hG,hb⟩
theorem zcx (w:World){S S2:Nat->Prop}{a a2:Option Addr}{n c n2 c2:Nat}{l m:List Ver}(hl:RdL Elt.ver S w (.slice a n c) l) (hm:RdL Elt.ver S2 w (.slice a2 n2 c2) m) (hln:l.length<=1000000) (hmn:m.length<=1000000) (hx:∀x∈l++m,x.value.length<=1000000):Calls Tryz.prog 116 #[.slice a n c,.slice a2 n2 c2] w (zc7 w (l++m)):=by
  obtain⟨rfl,hnc,hcm⟩:=hl.len;obtain⟨rfl,hnc2,hcm2⟩:=hm.len;obtain⟨off,hoff,ho⟩:=off_of w.heap.size l.length m.length;have hl0:=hl.fit.weak (S':=λk=>k<w.heap.size) (λ_ h=>h.2);have hm0:=hm.fit.weak (S':=λk=>k<w.heap.size) (λ_ h=>h.2);clear hl hm;go_enter Tryz.func116,Tryz.ntmps116;go_upto_region 2 with(first
    |(refine zl1 (E:=Elt.ver) verP rfl rfl (k:=l.length+m.length) rfl rfl ?_ (by omega) (by omega);intro cur hcur)
    |fail)
  have hg1:(w.alloc (.cells cur 100)).heap[w.heap.size]?=some (.cells cur 100 (0,0)):=by simp only[World.alloc,yf]
  have q1:Below w.heap.size w (w.alloc (.cells cur 100)):=(ze _ _).alloc (zf _) _;generalize w.alloc (.cells cur 100)=W at*;have hl1:=hl0.below q1;have hfit1:0+l.length*Elt.ver.size<=cur.size:=by rw[hcur,zT];omega
  clear hl0;go_wp2_with(first
    |(refine zfc (E:=Elt.ver) verP.toLsP rfl rfl rfl rfl hl1 hg1 ?_ (by omega) hfit1;intro cs W2 hcs hg2 hgr2;have q2:=q1.grown hgr2 q1.size (λk hk=>by injection hk with hk;omega);have hm2:=hm0.below q2;have hcl:=hcs.len;clear hl1 hm0)
    |(refine zfc (E:=Elt.ver) verP.toLsP rfl rfl rfl rfl hm2 hg2 ?_ (by omega) ?hfit2;intro cs2 W3 hcs2 hg3 hgr3;have q3:=q2.grown hgr3 q2.size (λk hk=>by injection hk with hk;omega);clear hm2)
    |(refine zd8 verP.toLsP rfl rfl rfl (l:=l.length) (r:=l.length+m.length) (za1 _ (by omega)) ?_;rw[hoff])
    |fail)
  case hfit2=>
    have e3:Elt.ver.size=3:=rfl;simp only[e3]at hcl hcur⊢;simp;rcases ho with⟨h1,h2⟩|h1<;>omega
  have e:=zn8 (cur:=cur) (cs:=cs) (cs2:=cs2) (off2:=off) (p:=l.length*3) (q:=m.length*3) (by rw[hcur,zT];rfl) hcl hcs2.len ho;rw[e]at hg3;have H0:zh4 w w.heap.size (l++m) 0 W3:=zh4.start hg3 q3 (zf _)
    (hcs.keep λk hk=>(hgr3.block k (zm hk q2.size) (λe=>by injection e with e;exact xg _ (e▸hk))).trans (hgr2.block k (zm hk q1.size) (λe=>by injection e with e;exact xg _ (e▸hk))))
    (hcs2.keep λk hk=>hgr3.block k (zm hk q2.size) (λe=>by injection e with e;exact xg _ (e▸hk)))
  clear e hcs hcs2 hg2 hg3 hgr2 hgr3 q1 q2 q3 hcl hg1 hfit1 hoff ho hcur;have hN:l.length+m.length=(l++m).length:=by simp
  have hNs:(l++m).length<=2000000:=by omega
  have hNI:(l.length:Int)+(m.length:Int)=((l++m).length:Int):=by omega
  rw[hN,hNI];clear hN hNI;generalize l++m=xs at*;go_upto_region 4 with(fail);go_loopw [22] (λiv wr=>∃k:Nat,iv=.int .i64 k/\k<=xs.length/\zh4 w w.heap.size xs k wr) (λi _=>xs.length-(intOf i).toNat);case atStart=>exact⟨0,rfl,zH _,H0⟩
  case round=>
    clear H0;obtain⟨k,rfl,hkl,H⟩:=hrel;rcases zA k xs.length with hlt|hge
    · obtain⟨A,C,c0,hr,hnext⟩:=H.at hlt
      have hv:=hx _ (zL hlt);go_wp2_with fail;refine(zby wr hr.rd (zf _) hv).mono ?_;rintro e w2 ⟨A2,k2,C2,rfl,hF⟩;obtain⟨c2',f2,H2⟩:=hnext w2 _ hF.1 (Own.rdS hF.2);clear hnext hr c0 hv;go_wp2_with fail;go_roundw;case rel=>exact⟨k+1,by go_num,by omega,H2⟩
      case measure=>simp[intOf];omega
    · obtain rfl:k=xs.length:=by omega
      go_wp2_with fail;go_ret;have h1:=H.done (by unfold maxLen;omega);obtain⟨_,_,_,_,_,_,hb⟩:=H;exact⟨_,_,rfl,h1,hb⟩
theorem ztd{l:List Ver}{s:Int}(h:¬okV l):zcd l s=none:=by unfold zcd;rw[zh h]
theorem vacV_not{l:List Ver}{s:Int}(h:¬okV l):vacV l s=l:=by unfold vacV;rw[zh h]
theorem zs3{l:List Ver}(h:zb9 l){m:Nat}(hm:m<l.length):l[m].value.length<=1000000:=by
 have:=h.2 _ (zL hm);omega
theorem zhj(w:World){S:Nat->Prop}{a:Option Addr}{n c:Nat}{l:List Ver}{s:Int}(hl:RdL Elt.ver S w (.slice a n c) l) (hsm:zb9 l):Calls Tryz.prog 132 #[.slice a n c,.int .i64 s] w (zbc w l s):=by
  obtain⟨rfl,hnc,hcm⟩:=hl.len;have hln:l.length<=1000:=hsm.1;have q:=ze w.heap.size w;go_enter Tryz.func132,Tryz.ntmps132;go_wp2_with fail;refine(zeg _ hl).mono ?_;rintro e w1 ⟨rfl,hb⟩;replace q:=q.trans (hb.mono q.size);clear hb;by_cases hk:okV l
  · rw[zk hk]
    go_wp2_with fail;refine(zkm (s:=s) _ (hl.below q) hk hln).mono ?_;rintro e w2 ⟨rfl,hb⟩;replace q:=q.trans (hb.mono q.size);clear hb;have hle:=zdv l s;cases hc:cntV l s with
    |zero=>
      have hz:=Lib.hid (zj3 hc);clear hc hle;go_wp2_with fail;go_ret2;exact zbc.no hz.out q
    |succ m=>
      have hm:m<l.length:=by omega
      have d0:(((m+1:Nat):Int)==0)=false:=by rw[zt];omega
      have e1:((m+1:Nat):Int)-1=(m:Int):=by omega
      obtain⟨b,off,A,C,rfl,hb,c0,c1,c2,hv,hi,hn1,hn2⟩:=(hl.below q).ver m hm;cases hg:l[m].gone with
      |true=>
        rw[hg]at c1;have hz:=Lib.hid (zha hc hm hg);clear hc hle hg;go_wp2_with fail;go_ret2;exact zbc.no hz.out q
      |false=>
        rw[hg]at c1;have hz:=Lib.hid (zg9 hk hc hm hg);have hvl:=zs3 hsm hm;clear hc hle hg;go_wp2_with fail;refine(zby _ hv.rd (zf _) hvl).mono ?_;rintro e w3 ⟨A2,k2,C2,rfl,hF⟩;obtain⟨rfl,_,_⟩:=(Own.rdS hF.2).len;go_wp2_with fail;go_ret2;exact zbc.yes hz.out ((Own.rdS hF.2).weak λk hk=>⟨zv q.size hk.1,hk.2⟩) (q.trans (hF.1.mono q.size))
  · rw[zj hk]
    have hz:=Lib.hid (ztd (s:=s) hk);clear hk;go_wp2_with fail;go_ret2;exact zbc.no hz.out q
theorem zc7.from{w w1 w2:World}{l:List Ver}{e:Ending}(q:Below w.heap.size w w1)(h:zc7 w1 l e w2):zc7 w l e w2:=by
 obtain⟨a,c,rfl,hr,hb⟩:=h;exact⟨a,c,rfl,hr.weak λk hk=>⟨zv q.size hk.1,hk.2⟩,q.trans (hb.mono q.size)⟩
theorem zec{l:List Ver}(h:zb9 l):∀x∈l++([]:List Ver),x.value.length<=1000000:=λx hx=>by
 rw[yr]at hx;have:=h.2 x hx;omega
theorem znl(w:World){S:Nat->Prop}{a:Option Addr}{n c:Nat}{l:List Ver}{s:Int}(hl:RdL Elt.ver S w (.slice a n c) l) (hsm:zb9 l):Calls Tryz.prog 146 #[.slice a n c,.int .i64 s] w (zc7 w (vacV l s)):=by
  obtain⟨rfl,hnc,hcm⟩:=hl.len;have hln:l.length<=1000:=hsm.1;have q:=ze w.heap.size w;go_enter Tryz.func146,Tryz.ntmps146;go_wp2_with fail;refine(zeg _ hl).mono ?_;rintro e w1⟨rfl,hb⟩;replace q:=q.trans (hb.mono q.size);clear hb;by_cases hk:okV l
  · rw[zk hk]
    go_wp2_with fail;refine(zkm (s:=s) _ (hl.below q) hk hln).mono ?_;rintro e w2⟨rfl,hb⟩;replace q:=q.trans (hb.mono q.size);clear hb;have hle:=zdv l s;have hl2:=hl.below q;cases hc:cntV l s with
    |zero=>
      have hz:=Lib.hid (show l.drop 0=vacV l s from(zl4 hc).symm);clear hc hle;have hlo:l.drop (0)=(l.drop (0)).take (l.length-(0)):=(yq (by rw[zF];omega)).symm;have hnk:0<=l.length:=by omega
      go_wp2_with(first|(refine ze1 verP.toLsP rfl rfl rfl hl2 (zas _ (l:=0) (by omega) hnk) ?_ hnk (zf _);intro ad2 cc2 hrd;rw[<-hlo]at hrd)|fail);refine(zcx _ hrd (RdL.nil Elt.ver (λ_=>False) _) (by rw[zF];omega) (by simp) (zec ⟨by rw[zF];omega,λy hy=>hsm.2 y (yM hy)⟩)).mono ?_;rintro e w3 hE;rw[yr]at hE;rw[hz.out]at hE;obtain⟨a3,c3,rfl,hr,hb3⟩:=zc7.from q hE;go_wp2_with fail;go_ret;exact⟨_,_,rfl,hr,hb3⟩
    |succ m=>
      have hm:m<l.length:=by omega
      have d0:decide ((0:Int)<((m+1:Nat):Int))=true:=zk (by omega);have e1:((m+1:Nat):Int)-1=(m:Int):=by omega
      obtain⟨b,off,A,C,rfl,hb,c0,c1,c2,hv,hi,hn1,hn2⟩:=hl2.ver m hm;cases hg:l[m].gone with
      |true=>
        rw[hg]at c1;have hz:=Lib.hid (zsr hk hc hm hg).symm;clear hg;clear hc hle;have hlo:l.drop (m+1)=(l.drop (m+1)).take (l.length-(m+1)):=(yq (by rw[zF];omega)).symm;have hnk:m+1<=l.length:=by omega
        go_wp2_with(first|(refine ze1 verP.toLsP rfl rfl rfl hl2 (zas _ (l:=m+1) (by omega) hnk) ?_ hnk (zf _);intro ad2 cc2 hrd;rw[<-hlo]at hrd)|fail);refine(zcx _ hrd (RdL.nil Elt.ver (λ_=>False) _) (by rw[zF];omega) (by simp) (zec ⟨by rw[zF];omega,λy hy=>hsm.2 y (yM hy)⟩)).mono ?_;rintro e w3 hE;rw[yr]at hE;rw[hz.out]at hE;obtain⟨a3,c3,rfl,hr,hb3⟩:=zc7.from q hE;go_wp2_with fail;go_ret;exact⟨_,_,rfl,hr,hb3⟩
      |false=>
        rw[hg]at c1;have hz:=Lib.hid (zsq hk hc hm hg).symm;clear hg;clear hc hle;have hlo:l.drop (m)=(l.drop (m)).take (l.length-(m)):=(yq (by rw[zF];omega)).symm;have hnk:m<=l.length:=by omega
        go_wp2_with(first|(refine ze1 verP.toLsP rfl rfl rfl hl2 (zas _ (l:=m) (by omega) hnk) ?_ hnk (zf _);intro ad2 cc2 hrd;rw[<-hlo]at hrd)|fail);refine(zcx _ hrd (RdL.nil Elt.ver (λ_=>False) _) (by rw[zF];omega) (by simp) (zec ⟨by rw[zF];omega,λy hy=>hsm.2 y (yM hy)⟩)).mono ?_;rintro e w3 hE;rw[yr]at hE;rw[hz.out]at hE;obtain⟨a3,c3,rfl,hr,hb3⟩:=zc7.from q hE;go_wp2_with fail;go_ret;exact⟨_,_,rfl,hr,hb3⟩
  · rw[zj hk]
    have hz:=Lib.hid (vacV_not (s:=s) hk);clear hk;go_wp2_with fail;refine(zcx _ (hl.below q) (RdL.nil Elt.ver (λ_=>False) _) (by omega) (by simp) (zec hsm)).mono ?_;rintro e w3 hE;rw[yr]at hE;obtain⟨a3,c3,rfl,hr,hb⟩:=zc7.from q hE;go_wp2_with fail;go_ret;rw[hz.out];exact⟨_,_,rfl,hr,hb⟩
theorem ver_one (w1:World){S:Nat->Prop}{x:Ver}{v:Value}(h1:RdS S w1 v x.value)(hi:I64' x.stamp):RdL Elt.ver (λ_=>True) (w1.alloc (.cells #[.int .i64 x.stamp,.bool x.gone,v] 100)) (.slice (some ⟨w1.heap.size,0,none⟩) 1 1) [x]:=by
 have hb:=(ze w1.heap.size w1).alloc (zf _) (.cells #[.int .i64 x.stamp,.bool x.gone,v] 100);have hc:=zji w1 [.int .i64 x.stamp,.bool x.gone,v] 100;have g1:=h1.below hb;simp only[zN]at hc;have c0:=hc 0 _ rfl;have c1:=hc 1 _ rfl;have c2:=hc 2 _ rfl;clear hc hb;generalize w1.alloc (.cells #[.int .i64 x.stamp,.bool x.gone,v] 100)=w2 at*;refine⟨_,1,rfl,zf _,by unfold maxLen;omega,.inr ⟨w1.heap.size,0,rfl,trivial,λr hr=>?_⟩⟩;obtain rfl:r=0:=by simp at hr;omega
 refine⟨verC x v,⟨v,rfl,g1.weak λ_ _=>trivial,hi⟩,λj u hu=>?_⟩;rcases j with _|_|_|j
 ·cases hu;exact c0
 ·cases hu;exact c1
 ·cases hu;exact c2
 ·simp[verC]at hu
theorem inst_cnt{l:List Ver}{x:Ver}(hk:okV l)(hm:mayV x):(cntV l (x.stamp-1)<l.length/\zcz l x=(l,50))\/(¬cntV l (x.stamp-1)<l.length/\zcz l x=(l++[x],0)):=by
  have hle:=zdv l (x.stamp-1);rcases yx l.length with h0|h0
  ·exact .inr ⟨by omega,zi9 h0 hm⟩
  · obtain⟨m,hml⟩:∃m,l.length=m+1:=⟨l.length-1,by omega⟩
    have h1:=zhi hk (x.stamp-1) (i:=m) (by omega);by_cases hs:x.stamp<=(l[m]'(by omega)).stamp
    · refine .inl ⟨?_,zm1 hk hm hml hs⟩
      have:=mt h1.2 (by omega);omega
    · refine .inr ⟨?_,zja hk hm hml hs⟩
      have:=h1.1 (by omega);omega
theorem zeh.of{w w':World}{l l2:List Ver}{x:Ver}{er:Nat}{a:Option Addr}{c:Nat}(h:zcz l x=(l2,er))(hr:RdL Elt.ver (λk=>w.heap.size<=k/\k<w'.heap.size) w' (.slice a l2.length c) l2)(hb:Below w.heap.size w w'):zeh w l x (.returned (.tuple #[.slice a l2.length c,.int .i64 er])) w':=by
 unfold zeh;rw[h];exact⟨a,c,rfl,hr,hb⟩
theorem ze8 (w:World){S:Nat->Prop}{a:Option Addr}{n c:Nat}{l:List Ver}{x:Ver}{Ax:Option Addr}{nx Cx:Nat}(hl:RdL Elt.ver S w (.slice a n c) l)(hsm:zb9 l)(hx:RdS S w (.slice Ax nx Cx) x.value)(hxl:x.value.length<=1000)(hxi:I64' x.stamp):Calls Tryz.prog 87 #[.slice a n c,.agg #[.int .i64 x.stamp,.bool x.gone,.slice Ax nx Cx]] w (zeh w l x):=by
  obtain⟨rfl,hnc,hcm⟩:=hl.len;obtain⟨rfl,_,_⟩:=hx.len;have hln:l.length<=1000:=hsm.1;have hT:=TriV.new w 100 (.int .i64 x.stamp) (.bool x.gone) (.slice Ax x.value.length Cx);have q:Below w.heap.size w (w.alloc (.cells #[.int .i64 x.stamp,.bool x.gone,.slice Ax x.value.length Cx] 100)):=(ze _ _).alloc (zf _) _;go_enter Tryz.func87,Tryz.ntmps87;go_upto_region 1 with(fail);generalize w.alloc (.cells #[.int .i64 x.stamp,.bool x.gone,.slice Ax x.value.length Cx] 100)=W at*;go_wp2_with fail;refine(zeg _ (hl.below q)).mono ?_;rintro e w1 ⟨rfl,hb⟩;replace q:=q.trans (hb.mono q.size);replace hT:=hT.below hb hT.lt;clear hb;by_cases hk:okV l
  · rw[zk hk]
    have t0:=hT.cell0;have t1:=hT.cell1;have t2:=hT.cell2;go_wp2_with fail;refine(znq _ (hx.below q)).mono ?_;rintro e w2 ⟨rfl,hb⟩;replace q:=q.trans (hb.mono q.size);replace hT:=hT.below hb hT.lt;clear hb t0 t1 t2;have t0:=hT.cell0;by_cases hm:mayV x
    · rw[show decide (mayV ⟨x.stamp,x.gone,x.value⟩)=true from zk hm]
      have hi:=hm.1;have hi2:=hm.2.1;go_wp2_with fail;refine(zkm (s:=x.stamp-1) _ (hl.below q) hk hln).mono ?_;rintro e w3⟨rfl,hb⟩;replace q:=q.trans (hb.mono q.size);replace hT:=hT.below hb hT.lt;clear hb t0;rcases inst_cnt hk hm with⟨hc,hz⟩|⟨hc,hz⟩
      · have HZ:=Lib.hid hz
        clear hz;go_wp2_with fail;refine(zcx _ (hl.below q) (RdL.nil Elt.ver (λ_=>False) _) (by omega) (by simp) (zec hsm)).mono ?_;rintro e w4 hE;rw[yr]at hE;obtain⟨a3,c3,rfl,hr,hb⟩:=zc7.from q hE;go_wp2_with fail;go_ret2;exact zeh.of HZ.out hr hb
      · have HZ:=Lib.hid hz
        clear hz;have t0:=hT.cell0;have t1:=hT.cell1;have t2:=hT.cell2;have hone:=ver_one w3 (hx.below q) hxi;have q':Below w.heap.size w (w3.alloc (.cells #[.int .i64 x.stamp,.bool x.gone,.slice Ax x.value.length Cx] 100)):=q.alloc q.size _;have hxs:∀y∈l++[x],y.value.length<=1000000:=λy hy=>by
          rcases zV.1 hy with h|h
          · have:=hsm.2 y h;omega
          · obtain rfl:y=x:=by simpa using h
            omega
        have hl':=Lib.hid (show(l++[x]).length=l.length+1 by simp);generalize hlx:l++[x]=lx at*;go_wp2_with fail;refine(zcx _ (hl.below q') hone (by omega) (by simp) (by rw[hlx];exact hxs)).mono ?_;rintro e w4 hE;rw[hlx]at hE;obtain⟨a3,c3,rfl,hr,hb⟩:=zc7.from q' hE;go_wp2_with fail;go_ret2;exact zeh.of HZ.out hr hb
    · rw[show decide (mayV ⟨x.stamp,x.gone,x.value⟩)=false from zj hm]
      have HZ:=Lib.hid (zjb (l:=l) (x:=x) (λh=>hm h.2));clear hm t0;go_wp2_with fail;refine(zcx _ (hl.below q) (RdL.nil Elt.ver (λ_=>False) _) (by omega) (by simp) (zec hsm)).mono ?_;rintro e w4 hE;rw[yr]at hE;obtain⟨a3,c3,rfl,hr,hb⟩:=zc7.from q hE;go_wp2_with fail;go_ret2;exact zeh.of HZ.out hr hb
  · rw[zj hk]
    have HZ:=Lib.hid (zjb (l:=l) (x:=x) (λh=>hk h.1));clear hk;go_wp2_with fail;refine(zcx _ (hl.below q) (RdL.nil Elt.ver (λ_=>False) _) (by omega) (by simp) (zec hsm)).mono ?_;rintro e w4 hE;rw[yr]at hE;obtain⟨a3,c3,rfl,hr,hb⟩:=zc7.from q hE;go_wp2_with fail;go_ret2;exact zeh.of HZ.out hr hb
section
variable {P : Program} {T E S : TypeId} {ops : Array Oper} {rest : List Oper} {o : Oper} {a : Act} {Q : Exit → Act → World → Prop} {w : World}
theorem zn7 (w:World){n c l h m:Nat}{i j k:Int}(hi:i=(l:Int))(hj:j=(h:Int))(hk:k=(m:Int))(hl:l<=h)(hh:h<=m)(hm:m<=c):(Instr.sliceBounds true n c (some (.int .i64 i)) (some (.int .i64 j)) (some (.int .i64 k))).run P w=.ok (l,h,m) w:=by
 subst hi;subst hj;subst hk;simp[Instr.sliceBounds,Instr.sliceBound,asIntOf,hl,hh,hm]
theorem zj0{x y:Operand}{ts:Array TypeId}(ho:o.op=.call {callee:=.builtin .min,args:=#[x,y],argTypes:=ts})(hgd:Region.wanted o (yielded ops a.tmps)=true){m n k:Int}(hx:a.eval x=.int .i64 m)(hy:a.eval y=.int .i64 n)(h:wpList P ops Q rest (a.put o.dst (.int .i64 k)) w)(hk:k=min m n):wpList P ops Q (o::rest) a w:=by
 refine zQ hgd λK hK=>?_
 have hrun:(Builtin.min_ ts o.type #[.int .i64 m,.int .i64 n]).run P w=.ok (.int .i64 k) w:=by
  subst hk;simp[Builtin.min_,Builtin.min2];omega
 unfold Oper.wp execOp;simp only[ho,resolve,invoke,builtin,zZ,yb,ye,zE,zn,zo,hx,hy,hrun];exact hK _ _ h
end
end Go.Proofs.YtkobhdllagbkhaaGreat
