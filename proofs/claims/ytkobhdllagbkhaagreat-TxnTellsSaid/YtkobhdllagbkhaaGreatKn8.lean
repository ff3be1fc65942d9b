/-
  TEXTS OF ONE PROOF, merged.
-/
import Derived.BigFrame
import Derived.BigFrameIn
import Derived.ChangeSame
import Derived.ChangeSlices
import Derived.Deep.Slices
import Derived.Deep.Strs
import Derived.Laws.Cells
import Derived.Laws.Tables
import Derived.Lib.SmallJoins
import Derived.LoopN
import Derived.ProofKit
import Derived.RangeFuncFrom
import Derived.Test.YtkobhdllagbkhaaGreatKn7
namespace Go.Proofs.YtkobhdllagbkhaaGreat
open Go.RowKit Go.Shelf Go.ChangeShapes Go.WideShapes Go.ChangeAt Go.Deep Go.Joins
set_option maxRecDepth 100000
set_option maxHeartbeats 32000000
def ze9(w:World)(k:Nat):Prop:=∃o:Obj,w.heap[k]?=some o/\o.isCells=true
def znt{α:Type}(E:Elt α):Prop:=∀(S:Nat->Prop)(w:World)(x:α)(vs:List Value),E.R S w x vs->E.R (λk=>S k/\ze9 w k) w x vs
theorem zee{S:Nat->Prop}{w:World}{v:Value}{xs:List UInt8}(h:RdS S w v xs):RdS (λk=>S k/\ze9 w k) w v xs:=by
 rcases h with h|⟨b,off,cap,hv,hb,h1,h2,hc⟩
 ·exact .inl h
 ·cases xs with
  |nil=>exact .inl ⟨_,_,hv,h2,rfl⟩
  |cons x r=>exact .inr ⟨b,off,cap,hv,⟨hb,cells_of_cell (hc 0 _ rfl)⟩,h1,h2,hc⟩
theorem zhk:znt Elt.bytes:=λ_ _ _ _ ⟨v,e,h⟩=>⟨v,e,zee h⟩
section
variable {α : Type} {E : Elt α} {T Te : TypeId} {base lo : Nat} {w w' : World} {v : Value} {xs : List α}
theorem Flat.cells(hE:znt E){S:Nat->Prop}:∀{xs:List α}{vs:List Value},Flat E S w xs vs->Flat E (λk=>S k/\ze9 w k) w xs vs
 |[],_,h=>h
 |_::_,_,⟨us,ws,e,h1,h2⟩=>⟨us,ws,e,hE _ _ _ _ h1,Flat.cells hE h2⟩
theorem OwnL.grown(hE:znt E)(h:OwnL E Te base lo w v xs){row:Option Nat}(hg:w.grownBy w' row)(hr:∀r,row=some r->∃o:Obj,w.heap[r]?=some o/\o.isCells=false):OwnL E Te base lo w' v xs:=by
  obtain⟨vs,h1,h2⟩:=h;refine⟨vs,⟨h1.1,?_⟩,((h2.cells hE).keep λk hk=>?_).weak λk hk=>⟨hk.1.1,zm hk.1.2.1 hg.size,hk.1.2.2⟩⟩
  · rcases h1.2 with h|⟨g,cap,cur,hv,hb,hg2,r⟩
    ·exact .inl h
    ·exact .inr ⟨g,cap,cur,hv,hb,(grownBy_keeps_cells hg hr hg2 rfl).trans hg2,r⟩
  · obtain⟨o,ho,hc⟩:=hk.2
    exact grownBy_keeps_cells hg hr ho hc
theorem zpx{k:Nat}(h:OwnL E Te base lo w v xs)(hk:v.ownBlock=some k):∃c r,w.heap[k]?=some (.cells c Te r):=by
  obtain⟨vs,h1,_⟩:=h;rcases h1.2 with⟨rfl,_⟩|⟨g,cap,cur,rfl,_,hg,_⟩
  ·cases hk
  · injection hk with hk
    subst hk;exact⟨_,_,hg⟩
def BoxL (E:Elt α)(T Te:TypeId)(B base lo:Nat)(w:World)(xs:List α):Prop:=∃a k c,Boxed w B T (.slice a k c)/\OwnL E Te base lo w (.slice a k c) xs
theorem BoxL.own{β:Type}{N:Nat}{B:Nat}(hE:znt E)(f:β->List α):OwnFrom N (λs W=>BoxL E T Te B base lo W (f s)):=λ_ _ _ _⟨a,k,c,h1,h2⟩hg hr=>
 ⟨a,k,c,h1.kept hg (λe=>by obtain⟨_,o,ho,hc⟩:=hr _ e.symm;rw[h1]at ho;cases ho;cases hc),h2.grown hE hg λr e=>(hr r e).2⟩
theorem KpW.own{β:Type}{n₀ N:Nat}{w₀:World}(h1:n₀<=w₀.heap.size)(h2:n₀<=N):OwnFrom N (λ(_:β) W=>KpW n₀ w₀ W):=λ_ _ _ _ hs hg hr=>
 hs.trans ⟨⟨hg.os,hg.tape,hg.output,hg.size,λk hk=>hg.block k (by have:=hs.1.size;omega) λe=>by have:=(hr k e.symm).1;omega⟩,λj _ _ e=>grownBy_keeps_cells hg (λr h=>(hr r h).2) e rfl⟩
end
structure ColE{α:Type}(E:Elt α)(T Te:TypeId)(B base lo:Nat)(W:World)(v:Value)(xs:List α)(x:α)(C:World->Value->Prop)(o0 o2 o3 o4 o5:Option Value)(w':World):Prop where
 ld:∀u,o0=some u->u=v
 el:∀u,o2=some u->C w' u
 rw:∀u,o3=some u->o4=none->∃b us,u=.slice (some ⟨b,0,none⟩) 1 1/\W.heap.size<=b/\w'.heap[b]?=some (.cells us.toArray Te (0,0))/\E.R (λg=>lo<=g/\g<w'.heap.size/\some g≠v.ownBlock) w' x us
 tr:Trd (λk=>(o4≠none/\some k=v.ownBlock)\/(o5≠none/\k=B)) W w'
 ap:∀u,o4=some u->∃a k c,u=.slice a k c/\OwnL E Te base lo w' u (xs++[x])
 no:o4=none->o5=none
 dn:o4≠none->o0≠none/\o3≠none
 st:∀u,o5=some u->∃a,o4=some a/\Boxed w' B T a
def ColL{α:Type}(E:Elt α)(T Te:TypeId)(B base lo:Nat)(W:World)(v:Value)(xs:List α)(x:α)(C:World->Value->Prop):List (Option Value)->World->Prop
 |[o0,o2,o3,o4,o5],w'=>ColE E T Te B base lo W v xs x C o0 o2 o3 o4 o5 w'
 |_,_=>False
section
variable {α : Type} {E : Elt α} {T Te : TypeId} {B base lo : Nat} {W w' w2 : World} {v : Value} {xs : List α} {x : α} {C : World → Value → Prop} {o0 o2 o3 o4 o5 : Option Value}
theorem ColE.start(W:World):ColE E T Te B base lo W v xs x C none none none none none W:=
 ⟨λ_ h=>(by cases h),λ_ h=>(by cases h),λ_ h=>(by cases h),Trd.refl _ _,λ_ h=>(by cases h),λ_=>rfl,λh=>absurd rfl h,λ_ h=>(by cases h)⟩
theorem ColE.more(hC:∀w u w',C w u->Below w.heap.size w w'->C w' u)(h:ColE E T Te B base lo W v xs x C o0 o2 o3 o4 o5 w')(hb:Below w'.heap.size w' w2):ColE E T Te B base lo W v xs x C o0 o2 o3 o4 o5 w2 where
 ld:=h.ld;el u hu:=hC _ _ _ (h.el u hu) hb;rw u hu h4:=by
  obtain⟨b,us,e,h1,h2,h3⟩:=h.rw u hu h4;exact⟨b,us,e,h1,(hb.block b (zJ.1 h2).1).trans h2,E.weak (E.keep h3 λg hg=>hb.block g hg.2.1) λg hg=>⟨hg.1,zm hg.2.1 hb.size,hg.2.2⟩⟩
 tr:=h.tr.trans (Trd.of (F:=λ_=>False) hb) λ_ _ h=>h.elim
 ap u hu:=by
  obtain⟨a,k,c,e,h1⟩:=h.ap u hu;exact⟨a,k,c,e,h1.below hb⟩
 no:=h.no;dn:=h.dn;st u hu:=by
  obtain⟨a,e,h1⟩:=h.st u hu;exact⟨a,e,(hb.block B h1.lt).trans h1⟩
theorem ColL.more(hC:∀w u w',C w u->Below w.heap.size w w'->C w' u):∀(l:List (Option Value))(w w':World),ColL E T Te B base lo W v xs x C l w->Below w.heap.size w w'->ColL E T Te B base lo W v xs x C l w'
 |[_,_,_,_,_],_,_,h,hb=>ColE.more hC h hb
theorem ColE.done{n₀:Nat}{u a:Value}(h:ColE E T Te B base lo W v xs x C o0 o2 o3 (some a) (some u) w') (hb:Boxed W B T v) (hO:OwnL E Te base lo W v xs) (hn:n₀<=base) (hB:n₀<=B) (hT:T≠46) (hTe:Te≠46) (N:Nat):KeepsFrom N W w'/\KpW n₀ W w'/\BoxL E T Te B base lo w' (xs++[x]):=by
  have hF:∀k,((some a≠none/\some k=v.ownBlock)\/(some u≠none/\k=B))->(base<=k\/k=B)/\∃c T' r,W.heap[k]?=some (.cells c T' r)/\T'≠46:=by
    rintro k(⟨_,e⟩|⟨_,rfl⟩)
    · obtain⟨c,r,e2⟩:=zpx hO e.symm
      exact⟨.inl (hO.block_lt k e.symm).1,c,Te,r,e2,hTe⟩
    ·exact⟨.inr rfl,_,_,_,hb,hT⟩
  refine⟨⟨h.tr.size,λk o _ hk ho=>(h.tr.block k (zJ.1 hk).1 λe=>?_).trans hk⟩,⟨h.tr.below (n:=n₀) ?_ λk hk e=>?_,λj c r e=>h.tr.block j (zJ.1 e).1 λe2=>?_⟩,?_⟩
  · obtain⟨_,c,T',r,e2,_⟩:=hF k e
    rw[hk]at e2;cases e2;cases ho
  · have:=hb.lt;omega
  · have:=(hF k e).1;omega
  · obtain⟨_,c',T',r',e3,hne⟩:=hF j e2
    rw[e]at e3;injection e3 with e3;injection e3 with _ e4;exact hne e4.symm
  · obtain⟨a',k,c,e,h1⟩:=h.ap a rfl
    obtain⟨a2,e2,h2⟩:=h.st u rfl;injection e2 with e2;subst e2 e;exact⟨a',k,c,h2,h1⟩
end
section
variable {α : Type} {E : Elt α} {P : Program} {T Te : TypeId} {B base lo : Nat} {W w' : World} {v : Value} {xs : List α} {x : α} {C : World → Value → Prop} {o0 o2 o3 o4 o5 : Option Value} {o : Oper} {a : Act} {K : Act → World → Prop} {Q : Exit → Act → World → Prop}
theorem ColE.load(h:ColE E T Te B base lo W v xs x C none o2 o3 o4 o5 w')(hb:Boxed W B T v):Boxed w' B T v/\ColE E T Te B base lo W v xs x C (some v) o2 o3 o4 o5 w':=by
 have h4:o4=none:=by
  cases o4 with
  |none=>rfl
  |some u=>exact absurd rfl (h.dn (by simp)).1
 have h5:=h.no h4;subst h4 h5;exact⟨(h.tr.block B hb.lt λe=>e.elim (λe=>e.1 rfl) λe=>e.1 rfl).trans hb,⟨λu hu=>by injection hu with hu;exact hu.symm,h.el,h.rw,h.tr,h.ap,h.no,λe=>absurd rfl e,h.st⟩⟩
theorem ColE.elem(hC:∀w u w',C w u->Below w.heap.size w w'->C w' u)(h:ColE E T Te B base lo W v xs x C o0 none o3 o4 o5 w'){w2:World}{u:Value}(hb:Below w'.heap.size w' w2)(hu:C w2 u):ColE E T Te B base lo W v xs x C o0 (some u) o3 o4 o5 w2:=by
 have h2:=h.more hC hb;exact⟨h2.ld,λu' h'=>by injection h' with h';exact h'▸hu,h2.rw,h2.tr,h2.ap,h2.no,h2.dn,h2.st⟩
theorem ColE.build (hP:LoP P T Te E.size)(h:ColE E T Te B base lo W v xs x C o0 o2 none none none w'){y:Operand}{u:Value}{us:List Value}(ho:o.op=.buildSlice T 1 #[(0,y)])(hy:a.eval y=u)(hu:u.cells=us.toArray)(hx:E.R (λg=>lo<=g/\g<w'.heap.size/\some g≠v.ownBlock) w' x us)(hn:E.size<=4096)(hC:∀w u w',C w u->Below w.heap.size w w'->C w' u)
  (hk:∀r w2,ColE E T Te B base lo W v xs x C o0 o2 (some r) none none w2->K (a.put o.dst r) w2):o.wp P a w' K Q:=by
 have hb:Below w'.heap.size w' (w'.alloc (.cells us.toArray Te)):=(ze _ _).alloc (zf _) _;refine zba hP ho hy hu (E.len hx) E.pos hn (hk _ _ ?_);have h2:=h.more hC hb;exact⟨h2.ld,h2.el,λu' hu' _=>by
  injection hu' with hu';exact⟨_,us,hu'.symm,h.tr.size,by simp only[World.alloc,yf],E.weak (E.keep hx λg hg=>hb.block g hg.2.1) λg hg=>⟨hg.1,zm hg.2.1 hb.size,hg.2.2⟩⟩,h2.tr,h2.ap,h2.no,λe=>absurd rfl e,h2.st⟩
theorem ColE.app (hP:LoP P T Te E.size){r:Value}(h:ColE E T Te B base lo W v xs x C o0 o2 (some r) none none w')(h0:o0≠none){s y:Operand}(ho:o.op=.call {callee:=.builtin .append,args:=#[s,y],argTypes:=#[T,T]})(hs:a.eval s=v)(hy:a.eval y=r)(hO:OwnL E Te base lo W v xs)(hbW:base<=W.heap.size)(hlen:xs.length+1<=1073741824)(hC:∀w u w',C w u->w.grownBy w' v.ownBlock->C w' u)
    (hk:∀r2 w2,ColE E T Te B base lo W v xs x C o0 o2 (some r) (some r2) none w2->K (a.put o.dst r2) w2):o.wp P a w' K Q:=by
  obtain⟨b,us,rfl,h1,h2,h3⟩:=h.rw _ rfl rfl;have hbl:Below W.heap.size W w':=h.tr.below (zf _) λk _ e=>by rcases e with⟨e,_⟩|⟨e,_⟩<;>exact e rfl
  refine zd4 (ys:=[x]) hP ho hs (hO.below hbl) hy (cells_at h2) (Flat.single h3) (λk hk=>hk) (zv hbW hbl.size) (λad k cap w2 g1 g2 _=>hk _ _ ?_) (by simpa using hlen);have htr:Trd (λk=>(some (Value.slice ad k cap)≠none/\some k=v.ownBlock)\/(@none Value≠none/\k=B)) W w2:=
    (Trd.of (F:=λk=>(some (Value.slice ad k cap)≠none/\some k=v.ownBlock)\/(@none Value≠none/\k=B)) hbl).trans (Trd.ofGrown g2 (F:=λk=>some k=v.ownBlock) λk e=>e.symm) λk _ e=>.inl ⟨by simp,e⟩
  exact
    { ld:=h.ld
      el:=λu hu=>hC _ _ _ (h.el u hu) g2
      rw:=λ_ _ e=>by cases e
      tr:=htr.mono λk _ e=>e.imp (λe=>⟨by simp,e.2⟩) λe=>⟨e.1,e.2⟩
      ap:=λu hu=>by
        injection hu with hu;exact⟨ad,k,cap,hu.symm,hu▸g1⟩
      no:=λe=>by cases e
      dn:=λ_=>⟨h0,by simp⟩
      st:=λ_ e=>by cases e}
theorem ColE.sto{r2:Value}(h:ColE E T Te B base lo W v xs x C o0 o2 o3 (some r2) none w'){p y:Operand}(ho:o.op=.store T p y)(hT:(P.info? T).map (·.size)=some 1)(hp:a.eval p=.pointer (some ⟨B,0,none⟩))(hy:a.eval y=r2)(hb:Boxed W B T v)(hO:OwnL E Te base lo W v xs)(hBb:B<base)(hBl:B<lo)(hC:∀w u w',C w u->w.grownBy w' (some B)->C w' u)
    (hk:∀w2,ColE E T Te B base lo W v xs x C o0 o2 o3 (some r2) (some undef) w2->K (a.put o.dst undef) w2):o.wp P a w' K Q:=by
  obtain⟨ad,k,c,rfl,h1⟩:=h.ap _ rfl;have hB:Boxed w' B T v:=(h.tr.block B hb.lt λe=>e.elim (λe=>by have:=(hO.block_lt B e.2.symm).1;omega) λe=>e.1 rfl).trans hb;refine zqy ho hT hp hy hB.cell hB.frozen (hk _ ?_);have hg:=grownBy_setCell' w' B (.slice ad k c);exact
    { ld:=h.ld
      el:=λu hu=>hC _ _ _ (h.el u hu) hg
      rw:=λ_ _ e=>by cases e
      tr:=by
        have h5:=h.tr.mono (F':=λi=>(some (Value.slice ad k c)≠none/\some i=v.ownBlock)\/(some undef≠none/\i=B)) λi _ e=>e.imp id λe=>⟨by simp,e.2⟩
        exact h5.trans (Trd.ofGrown hg (F:=λi=>i=B) λi e=>by injection e with e;exact e.symm) λi _ e=>.inr ⟨by simp,e⟩
      ap:=λu hu=>by
        injection hu with hu;exact⟨ad,k,c,hu.symm,hu▸h1.other hg hBl hBb⟩
      no:=λe=>by cases e
      dn:=λ_=>h.dn (by simp)
      st:=λu _=>⟨_,rfl,hB.set _⟩}
end
attribute [local go_sem] xe
theorem zk4{n:Nd}(hf:fitN n):(prN n).length<=100000:=by
  unfold prN;split
  · rename_i h
    exact zv (zpv (wN n) (zf _) h.1) hf.1
  ·exact zH _
theorem kpW_b{n₀:Nat}{w:World}(hn:n₀<=w.heap.size)(W:World)(l:Nat)(o o':Obj)(hl:w.heap.size<=l)(h1:W.heap[l]?=some o)(h2:o.isCells=false)(h3:o.isWalk=false):KpW n₀ W (W.putObj l o'):=
 ⟨belowK_b hn W l o o' hl h1 h2 h3,λj _ _ e=>World.putObj_heap_other (λe2=>by subst e2;rw[h1]at e;cases e;cases h2)⟩
theorem zth (n:Nd):∀p∈prN n,p.key.length<=16:=by
  unfold prN;split
  · rename_i h
    exactλp hp=>(((zdu _).1 h.2).1 p hp).2.2
  ·exactλp hp=>by cases hp
def NewK(W:World)(t:List UInt8)(w':World)(u:Value):Prop:=∃a k c,u=.slice a k c/\RdS (λg=>W.heap.size<=g/\g<w'.heap.size) w' (.slice a k c) t
theorem NewK.below{W:World}{t:List UInt8}(w:World)(u:Value)(w':World)(h:NewK W t w u)(hb:Below w.heap.size w w'):NewK W t w' u:=by
 obtain⟨a,k,c,e,h⟩:=h;exact⟨a,k,c,e,(h.below hb).weak λg hg=>⟨hg.1,zm hg.2 hb.size⟩⟩
theorem NewK.grown{W:World}{t:List UInt8}{r:Option Nat}(hr:∀k,r=some k->k<W.heap.size)(w:World)(u:Value)(w':World)(h:NewK W t w u)(hg:w.grownBy w' r):NewK W t w' u:=by
 obtain⟨a,k,c,e,h⟩:=h;exact⟨a,k,c,e,(h.keep λg hg2=>hg.block g hg2.2 λe=>by have:=hr g e.symm;omega).weak λg hg2=>⟨hg2.1,zm hg2.2 hg.size⟩⟩
theorem zsy (w:World){S:Nat->Prop}{v:Value}{n:Nd}(hr:RdN S w v n) (hf:fitN n):Calls Tryz.prog 162 #[v] w (KeysEnd w ((prN n).map (·.key))):=by
 have hr0:RdN (·<w.heap.size) w v n:=hr.fit.weak λ_ h=>h.2
 obtain⟨a1,c1,a2,c2,a3,c3,rfl,_,_,_⟩:=hr;obtain⟨X,eX⟩:∃X,X=Obj.cells #[.slice a1 n.keys.length c1,.slice a2 n.chains.length c2,.slice a3 n.kids.length c3] 46:=⟨_,rfl⟩;obtain⟨w4,hw4⟩:∃w4,w4=(((w.alloc X).alloc (.cells #[.slice none 0 0] 42)).alloc X).alloc (.cells #[.slice none 0 0] 23):=⟨_,rfl⟩;have hs4:w4.heap.size=w.heap.size+4:=by rw[hw4];simp
 have hb4:Below w.heap.size w w4:=by
  rw[hw4];exact((((ze _ w).alloc (zf _) _).alloc (by simp) _).alloc (by simp;omega) _).alloc (by simp;omega) _
 have bK:Boxed w4 (w.heap.size+1) 42 (.slice none 0 0):=by
  rw[hw4];have:=Boxed.new (w.alloc X) 42 (.slice none 0 0);rw[yG]at this;exact(this.alloc _).alloc _
 have bN:TriV w4 (w.heap.size+2) 46 (.slice a1 n.keys.length c1) (.slice a2 n.chains.length c2) (.slice a3 n.kids.length c3):=by
  rw[hw4];show _=_;rw[Below.heap_alloc _ _ _ (by simp)];have:=World.alloc_heap_new ((w.alloc X).alloc (.cells #[.slice none 0 0] 42)) X;simp only[yG]at this;rw[this,eX]
 have bE:w4.cell? ⟨w.heap.size+3,0,none⟩=some (.slice none 0 0):=by
  rw[hw4];have:=(Boxed.new (((w.alloc X).alloc (.cells #[.slice none 0 0] 42)).alloc X) 23 (.slice none 0 0)).cell;simpa using this
 have hN:(prN n).length<=100000:=zk4 hf;have hgl:(geK (prN n) []).length<=(prN n).length:=zul _ _;have hst:=zkc (N:=(prN n).length) hr0 hf (RdS.nil _ w) hb4 bN bE hgl;refine zbz Tryz.func162 rfl ?_;simp only[Tryz.ntmps162,yj,zI,zM,Nat.reduceAdd,Nat.reduceSub,xz,xA,xB,xC,yw,ym];go_wp2_with fail;refine(zqj _ _ _ _ _ _ _).mono ?_;rintro e wS⟨rfl,hw'⟩;obtain rfl:wS=w4:=by rw[hw',hw4,eX]
 clear hw' hw4;go_wp2_with fail;have hT:42≠46:=by decide
 have hTe:23≠46:=by decide
 refine zhm (gf:=119) (lb:=#[.pointer (some ⟨w.heap.size+2,0,none⟩),.pointer (some ⟨w.heap.size+3,0,none⟩)]) rfl (enters_of Tryz.func119 (by kernel_rfl) rfl)
  hst (λh k=>h.trans k) (kpW_b (by omega)) (ze _ _) (λ_=>rfl)
  (λpre W=>BoxL Elt.bytes 42 23 (w.heap.size+1) (w.heap.size+4) (w.heap.size+4) W (pre.map (·.t))/\KpW w.heap.size wS W)
  (λ_ _ _=>False)
  (OwnFrom.and (BoxL.own zhk _) (KpW.own (by omega) (by omega)))
  (λ_ _ _ _ _ hs _ _=>hs)
  ⟨⟨none,0,0,bK,OwnL.nil _ _ _ _ _⟩,KpW.refl _ _⟩
  (λx=>{tmps:=#[.agg #[.slice a1 n.keys.length c1,.slice a2 n.chains.length c2,.slice a3 n.kids.length c3],.pointer (some ⟨w.heap.size,0,none⟩),.slice none 0 0,.pointer (some ⟨w.heap.size+1,0,none⟩),.slice x.ad x.t.length x.c,.agg #[.slice a1 n.keys.length c1,.slice a2 n.chains.length c2,.slice a3 n.kids.length c3],.func (.func 119) #[] #[.pointer (some ⟨w.heap.size+2,0,none⟩),.pointer (some ⟨w.heap.size+3,0,none⟩)],.slice x.ad x.t.length x.c,undef,undef,undef,undef,undef,undef],defers:=[]}) ?assign ?body ?done ?stop
 case assign=>
  intro l x W K hK;gi_wp2;refine Eq.mp ?_ hK;kernel_rfl
 case stop=>
  rintro D c pre W _ _ h _;exact h.elim
 case body=>
  rintro l pre x W⟨⟨ad,k,c,hbx,hO⟩,hKp⟩hlt;have hWs:w.heap.size+4<=W.heap.size:=by have:=hKp.1.size;omega
  have hxr:RdS (·<w.heap.size) W (.slice x.ad x.t.length x.c) x.t:=zpn x.rd (hb4.trans (hKp.1.mono (zf _)));have hob:∀i,Value.ownBlock (.slice ad k c)=some i->w.heap.size+4<=i/\i<W.heap.size:=hO.block_lt;have hlen:(pre.map (·.t)).length+1<=1073741824:=by rw[zX];omega
  have eC:∀args w,(callFunc 60 args).run Tryz.prog w=.ok (.enter 60 args) w:=enters_of Tryz.func60 (by kernel_rfl) rfl;have hxl:x.t.length<=1000000:=x.le;refine wpIn_block ?_;refine zh0 (K:=λ_ _=>True) (by kernel_rfl) (by kernel_rfl) (by kernel_rfl) [0,2,3,4,5] (by kernel_rfl) [lAny,lEq (.slice x.ad x.t.length x.c),lAny,lAny,lAny,lAny]
   (ColL Elt.bytes 42 23 (w.heap.size+1) (w.heap.size+4) (w.heap.size+4) W (.slice ad k c) (pre.map (·.t)) x.t (NewK W x.t)) (ColL.more NewK.below) (ColE.start W)
   ⟨?o0,?o1,?o2,?o3,?o4,?o5,trivial⟩ ?fin
  case o0=>
   refine StOp.set rfl (by kernel_rfl) (λA va D w' hF hT hN' hE hd hu hg=>?_);have e1:=hF 3 rfl;have hE2:=hE;simp only[told,zn,zo,hN',zY,zW]at hE2;obtain⟨h5,h6⟩:=ColE.load hE2 hbx;refine zae (e:=23) rfl e1 (by kernel_rfl) h5.cell ⟨_,rfl,?_,trivial⟩;simpa[ColL,told,don,upd]using h6
  case o1=>
   refine StOp.free rfl (by kernel_rfl) (λA va D w' hF hT hN' hE hd hu hg=>?_);have e1:=hF 4 rfl;exact zu _ rfl ⟨_,rfl,e1,ze _ _⟩
  case o2=>
   refine StOp.set rfl (by kernel_rfl) (λA va D w' hF hT hN' hE hd hu hg=>?_);have e1:=(hT 9 1 (by simp) rfl).trans (hg ⟨1,.data⟩ (by simp) rfl rfl);have hE2:=hE;simp only[told,zn,zo,hN',zY,zW]at hE2;have hxw:RdS (·<w.heap.size) w' (.slice x.ad x.t.length x.c) x.t:=hxr.keep λg hg=>hE2.tr.block g (by omega) λe=>by
    rcases e with⟨_,e⟩|⟨_,e⟩
    ·have:=hob g e.symm;omega
    ·omega
   refine zah rfl eC (args:=#[.slice x.ad x.t.length x.c]) (by simp only[zE,zn,zo,e1]) ((zby w' hxw.rd (zf _) hxl).mono ?_);rintro e w2 ⟨ad',k2,c',rfl,hf'⟩;obtain rfl:=hf'.2.rdS.len.1;have h5:=ColE.elem NewK.below hE2 hf'.1 (u:=.slice ad' x.t.length c') ⟨_,_,_,rfl,hf'.2.rdS.weak λg hg=>⟨zv hE2.tr.size hg.1,hg.2⟩⟩;exact⟨_,rfl,_,rfl,by simpa[ColL,told,don,upd]using h5,trivial⟩
  case o3=>
   refine StOp.set rfl (by kernel_rfl) (λA va D w' hF hT hN' hE hd hu hg=>?_);have x1:A.eval (.tmp 10)=va 2:=hT 10 2 (by simp) rfl;have d2:D 2=true:=hd ⟨2,.data⟩ (by simp) rfl;have hE2:=hE;simp only[told,zn,zo,hN',d2,zY,zW,yl]at hE2;have d4:D 4=false:=by
    cases h:D 4 with
    |false=>rfl
    |true=>rw[h]at hE2;exact absurd rfl (ColE.dn hE2 (by simp)).2
   rw[d4]at hE2;simp only[zY,zW]at hE2;have d5:D 5=false:=by
    cases h:D 5 with
    |false=>rfl
    |true=>rw[h]at hE2;have:=ColE.no hE2 rfl;simp at this
   rw[d5]at hE2;simp only[zY,zW]at hE2;obtain⟨a5,k5,c5,ec,hc5⟩:=hE2.el _ rfl;refine ColE.build kysP hE2 rfl (x1.trans ec) rfl ⟨_,rfl,hc5.weak λg hg=>⟨by omega,hg.2,λe=>by have:=hob g e.symm;omega⟩⟩ (by decide) NewK.below λr w2 h6=>⟨_,rfl,?_,trivial⟩
   simpa[ColL,told,don,upd,d2,d4,d5]using h6
  case o4=>
   refine StOp.set rfl (by kernel_rfl) (λA va D w' hF hT hN' hE hd hu hg=>?_);have x1:A.eval (.tmp 8)=va 0:=hT 8 0 (by simp) rfl;have x2:A.eval (.tmp 11)=va 3:=hT 11 3 (by simp) rfl;have d0:D 0=true:=hd ⟨0,.data⟩ (by simp) rfl;have d3:D 3=true:=hd ⟨3,.data⟩ (by simp) rfl;have hE2:=hE;simp only[told,zn,zo,hN',d0,d3,zY,zW,yl]at hE2;have d5:D 5=false:=by
    cases h:D 5 with
    |false=>rfl
    |true=>rw[h]at hE2;have:=ColE.no hE2 rfl;simp at this
   rw[d5]at hE2;simp only[zY,zW]at hE2;refine ColE.app kysP hE2 (by simp) rfl (x1.trans (hE2.ld _ rfl)) x2 hO (by omega) hlen (NewK.grown λi hi=>(hob i hi).2) λr2 w2 h6=>⟨_,rfl,?_,trivial⟩
   simpa[ColL,told,don,upd,d0,d3,d5]using h6
  case o5=>
   refine StOp.set rfl (by kernel_rfl) (λA va D w' hF hT hN' hE hd hu hg=>?_);have e1:=hF 3 rfl;have x2:A.eval (.tmp 12)=va 4:=hT 12 4 (by simp) rfl;have d4:D 4=true:=hd ⟨4,.data⟩ (by simp) rfl;have hE2:=hE;simp only[told,zn,zo,hN',d4,zY,zW,yl]at hE2;refine ColE.sto hE2 rfl (by kernel_rfl) e1 x2 hbx hO (by omega) (by omega) (NewK.grown λi hi=>by injection hi with hi;omega) λw2 h6=>⟨_,rfl,?_,trivial⟩
   simpa[ColL,told,don,upd,d4]using h6
  case fin=>
   intro vs1 W1 hE hG;obtain⟨h1,h2,h3⟩:=ColE.done (n₀:=w.heap.size) hE hbx hO (by omega) (by omega) hT hTe wS.heap.size;exact⟨h1,h2,by rw[yW];exact h3,hKp.trans h2⟩
 case done=>
  rintro D ys W hD hys ⟨⟨ad,k,c,hbx,hO⟩,hKp⟩hK;have hc:=hbx.cell;obtain⟨rfl,_,_⟩:=hO.rdL.len;rw[hys,zum]at hO hc;clear hbx;replace hys:=Lib.hid hys;go_wp2_with fail;refine⟨by simp,.inl ⟨_,_,rfl,run_takeDeferred hK,?_⟩⟩;have hb:Below w.heap.size w (W.putObj D (Obj.deferred none)):=(hb4.trans hKp.1).trans (belowK_b (w:=w) (zf _) W D _ _ (by omega) hK rfl rfl);have hrd:RdL Elt.bytes (λg=>w.heap.size<=g/\g<(W.putObj D (Obj.deferred none)).heap.size) (W.putObj D (Obj.deferred none)) (.slice ad (prN n).length c) ((prN n).map (·.key)):=by
   have h1:=(hO.grown zhk (grownBy_putObj' W D (Obj.deferred none)) (λr e=>by injection e with e;subst e;exact⟨_,hK,rfl⟩)).rdL;rw[zX]at h1;exact h1.weak λg hg=>⟨by omega,hg.2⟩
  refine⟨.slice ad (prN n).length c,by simp[results,Tryz.results162,go_sem],ad,c,by rw[zX],?_,hb⟩;rw[zX];exact hrd
attribute [local go_sem] xe
theorem zno{β:Type}{N b:Nat}{t:TypeId}{v:β->Value}:OwnFrom N (λ(s:β) W=>Boxed W b t (v s)):=λs X Y row hs hg hr=>
 hs.kept hg (λe=>by obtain⟨_,o,ho,hc⟩:=hr _ e.symm;rw[show X.heap[b]?=_ from hs]at ho;cases ho;cases hc)
theorem zvg{β:Type}{n₀ N:Nat}{w₀:World}(h1:n₀<=w₀.heap.size)(h2:n₀<=N):OwnFrom N (λ(_:β) W=>Below n₀ w₀ W):=λ_ _ _ _ hs hg hr=>
 hs.grown hg (zv h1 hs.size) λk e=>zv h2 (hr k e).1
theorem rdS_own{S:Nat->Prop}{v:Value}{t:List UInt8}{X Y:World}{row:Option Nat}(h:RdS S X v t) (hg:X.grownBy Y row) (hr:∀r,row=some r->∃o:Obj,X.heap[r]?=some o/\o.isCells=false):RdS S Y v t:=
 ((zee h).keep λk hk=>by
  obtain⟨o,ho,hc⟩:=hk.2;exact grownBy_keeps_cells hg hr ho hc).weak λk hk=>hk.1
theorem zes(w:World){S:Nat->Prop}{v:Value}{n:Nd}(hr:RdN S w v n)(hf:fitN n):Calls Tryz.prog 63 #[v] w λe w'=>e=.returned (.int .i64 ((prN n).length:Nat))/\Below w.heap.size w w':=by
 have hr0:RdN (·<w.heap.size) w v n:=hr.fit.weak λ_ h=>h.2
 obtain⟨a1,c1,a2,c2,a3,c3,rfl,_,_,_⟩:=hr;obtain⟨X,eX⟩:∃X,X=Obj.cells #[.slice a1 n.keys.length c1,.slice a2 n.chains.length c2,.slice a3 n.kids.length c3] 46:=⟨_,rfl⟩;obtain⟨w2,hw2⟩:∃w2,w2=(w.alloc X).alloc (.cells #[.int .i64 0] 3):=⟨_,rfl⟩;obtain⟨w4,hw4⟩:∃w4,w4=(w2.alloc X).alloc (.cells #[.slice none 0 0] 23):=⟨_,rfl⟩;have bI0:Boxed ((w.alloc X).alloc (.cells #[.int .i64 0] 3)) (w.heap.size+1) 3 (.int .i64 0):=by
  have:=Boxed.new (w.alloc X) 3 (.int .i64 0);rwa [yG]at this
 have bI2:Boxed w2 (w.heap.size+1) 3 (.int .i64 0):=by rw[hw2];exact bI0
 have hb2:Below w.heap.size w w2:=by
  rw[hw2];exact((ze _ w).alloc (zf _) _).alloc (by simp) _
 have hs2:w2.heap.size=w.heap.size+2:=by rw[hw2];simp
 have hb4:Below w.heap.size w w4:=by
  rw[hw4];exact(hb2.alloc (by omega) _).alloc (by simp;omega) _
 have hs4:w4.heap.size=w.heap.size+4:=by rw[hw4];simp[hs2]
 have bK:Boxed w4 (w.heap.size+1) 3 (.int .i64 0):=by
  rw[hw4];exact(bI2.alloc _).alloc _
 have bN:TriV w4 (w.heap.size+2) 46 (.slice a1 n.keys.length c1) (.slice a2 n.chains.length c2) (.slice a3 n.kids.length c3):=by
  rw[hw4];show _=_;rw[Below.heap_alloc _ _ _ (by simp[hs2])];have:=World.alloc_heap_new w2 X;rw[hs2]at this;rw[this,eX]
 have bE:w4.cell? ⟨w.heap.size+3,0,none⟩=some (.slice none 0 0):=by
  rw[hw4];have:=(Boxed.new (w2.alloc X) 23 (.slice none 0 0)).cell;rw[yG,hs2]at this;exact this
 have hN:(prN n).length<=100000:=zk4 hf;have hgl:(geK (prN n) []).length<=(prN n).length:=zul _ _;have hst:=zkc (N:=(prN n).length) hr0 hf (RdS.nil _ w) hb4 bN bE hgl;have hcI:=bI0.cell;have hfI:=bI0.frozen;have bX:TriV ((w.alloc X).alloc (.cells #[.int .i64 0] 3)) w.heap.size 46 (.slice a1 n.keys.length c1) (.slice a2 n.chains.length c2) (.slice a3 n.kids.length c3):=by
  rw[eX];exact(TriV.new w _ _ _ _).below ((ze _ _).alloc (zf _) _) (by simp)
 have bX2:TriV w2 w.heap.size 46 (.slice a1 n.keys.length c1) (.slice a2 n.chains.length c2) (.slice a3 n.kids.length c3):=by
  rw[hw2];exact bX
 have tn0:=bX2.cell0;have tn1:=bX2.cell1;have tn2:=bX2.cell2;refine zbz Tryz.func63 rfl ?_;simp only[Tryz.ntmps63,yj,zI,zM,Nat.reduceAdd,Nat.reduceSub,xz,xA,xB,xC,yw,ym];go_upto_region 2 with(fail);rw[<-eX,<-hw2];replace hw2:=Lib.hid hw2;replace hw4:=Lib.hid hw4;replace eX:=Lib.hid eX;go_wp2_with fail;refine(zqj _ _ _ _ _ _ _).mono ?_;rintro e wS ⟨rfl,hw'⟩;obtain rfl:wS=w4:=by rw[hw',hw4.out,eX.out]
 clear hw' hw4 tn0 tn1 tn2 hcI hfI bX bX2 bI0;clear hw2;go_wp2_with fail;refine zhm (gf:=119) (lb:=#[.pointer (some ⟨w.heap.size+2,0,none⟩),.pointer (some ⟨w.heap.size+3,0,none⟩)]) rfl (enters_of Tryz.func119 (by kernel_rfl) rfl)
  hst (λh k=>h.trans k) (kpW_b (by omega)) (ze _ _) (λ_=>rfl)
  (λ(pre:List (zex w)) W=>Boxed W (w.heap.size+1) 3 (.int .i64 (pre.length:Nat))/\KpW w.heap.size wS W)
  (λ_ _ _=>False)
  (OwnFrom.and zno (KpW.own (by omega) (by omega)))
  (λ_ _ _ _ _ hs _ _=>hs)
  ⟨bK,KpW.refl _ _⟩
  (λ(x:zex w)=>{tmps:=#[.agg #[.slice a1 n.keys.length c1,.slice a2 n.chains.length c2,.slice a3 n.kids.length c3],.pointer (some ⟨w.heap.size,0,none⟩),.int .i64 0,.pointer (some ⟨w.heap.size+1,0,none⟩),.agg #[.slice a1 n.keys.length c1,.slice a2 n.chains.length c2,.slice a3 n.kids.length c3],.func (.func 119) #[] #[.pointer (some ⟨w.heap.size+2,0,none⟩),.pointer (some ⟨w.heap.size+3,0,none⟩)],.slice x.ad x.t.length x.c,undef,undef,undef],defers:=[]}) ?assign ?body ?done ?stop
 case assign=>
  intro l x W K hK;gi_wp2;refine Eq.mp ?_ hK;kernel_rfl
 case stop=>
  rintro D c pre W _ _ h _;exact h.elim
 case body=>
  rintro l pre x W⟨hbx,hKp⟩hlt;have hc:=hbx.cell;have hf:=hbx.frozen;gi_wp2;have hk':KpW w.heap.size W (W.setCell ⟨w.heap.size+1,0,none⟩ (.int .i64 ((pre.length:Int)+1))):=
   ⟨(ze _ _).setCell (p:=⟨w.heap.size+1,0,none⟩) (by show w.heap.size<=w.heap.size+1;omega) _,λj c r e=>xm W ⟨w.heap.size+1,0,none⟩ j _ (λe2=>by
    have e3:j=w.heap.size+1:=e2;rw[e3,show W.heap[w.heap.size+1]?=_ from hbx]at e;injection e with e;injection e with _ e4;exact absurd e4 (by decide))⟩
  refine⟨(KeepsOthers.setCell _ _ _).from _,hk',?_,hKp.trans hk'⟩;have:=hbx.set (.int .i64 ((pre.length:Int)+1));simpa using this
 case done=>
  rintro D ys W hD hys ⟨hbx,hKp⟩hK;have hc:=hbx.cell;have hl:ys.length=(prN n).length:=by
   have:=congrArg List.length hys;rwa[zum,zX,zX]at this
  rw[hl]at hc;clear hbx;replace hys:=Lib.hid hys;replace hl:=Lib.hid hl;go_wp2_with fail;refine⟨by simp,.inl ⟨_,_,rfl,run_takeDeferred hK,?_⟩⟩;exact⟨.int .i64 ((prN n).length:Nat),by simp[results,Tryz.results63,go_sem],rfl,(hb4.trans hKp.1).trans (belowK_b (w:=w) (zf _) W D _ _ (by omega) hK rfl rfl)⟩
section
variable {P : Program} {t e : TypeId} {n : Nat} {o : Oper} {a : Act} {K : Act → World → Prop} {Q : Exit → Act → World → Prop} {w : World} {ops : Array Oper} {rest : List Oper}
theorem zsk(hs:(P.info? t).map (·.size)=some 3){x y:Operand}{b:Nat}{u v r p q s:Value}(ho:o.op=.store t x y)(hx:a.eval x=.pointer (some ⟨b,0,none⟩))(hy:a.eval y=.agg #[u,v,r])(hu1:u.oneCell'=true)(hv1:v.oneCell'=true)(hr1:r.oneCell'=true)(hb:TriV w b t p q s)(h:∀w',w.grownBy w' (some b)->TriV w' b t u v r->K (a.put o.dst undef) w'):o.wp P a w K Q:=by
  refine wp_store_row t x y ho b #[u,v,r] hx hy t #[p,q,s] hb hs rfl (by simp[hu1,hv1,hr1]) (h _ ⟨rfl,rfl,rfl,by simp[World.setRow],λk _ hk=>?_⟩ ?_)
  · have hkb:k≠b:=λe=>hk (by rw[e])
    simp[World.setRow,yU,Ne.symm hkb]
  · unfold TriV at hb⊢
    simp[World.setRow,yU,hb]
theorem za7 (hs:(P.info? t).map (·.size)=some 3){x y:Operand}{b:Nat}{u v r p q s:Value}(ho:o.op=.store t x y)(hd:o.dst=none)(hgd:Region.wanted o (yielded ops a.tmps)=true)(hx:a.eval x=.pointer (some ⟨b,0,none⟩))(hy:a.eval y=.agg #[u,v,r])(hu1:u.oneCell'=true)(hv1:v.oneCell'=true)(hr1:r.oneCell'=true)(hb:TriV w b t p q s)(h:∀w',w.grownBy w' (some b)->TriV w' b t u v r->wpList P ops Q rest a w'):wpList P ops Q (o::rest) a w:=
 zQ hgd λ_ hK=>zsk hs ho hx hy hu1 hv1 hr1 hb λw' h3 h4=>hK _ _ (by rw[hd];exact h w' h3 h4)
end
def BoxN(W:World)(b:Nat)(t:TypeId)(vs:List Value):Prop:=W.heap[b]?=some (.cells vs.toArray t (0,0))
section
variable {W W' : World} {b : Nat} {t : TypeId} {vs : List Value}
theorem BoxN.new(W:World)(t:TypeId)(vs:List Value):BoxN (W.alloc (.cells vs.toArray t)) W.heap.size t vs:=by unfold BoxN;simp only[World.alloc,yf]
theorem BoxN.lt(h:BoxN W b t vs):b<W.heap.size:=(zJ.1 h).1
theorem BoxN.cell(h:BoxN W b t vs){i:Nat}{u:Value}(hi:vs[i]?=some u):W.cell? ⟨b,i,none⟩=some u:=by simp[World.cell?,show W.heap[b]?=_ from h,hi]
theorem BoxN.frozen (h:BoxN W b t vs)(i:Nat):W.frozen? ⟨b,i,none⟩=false:=by simp[World.frozen?,show W.heap[b]?=_ from h]
theorem BoxN.below{n:Nat}(h:BoxN W b t vs)(hb:Below n W W')(hn:b<n):BoxN W' b t vs:=(hb.block b hn).trans h
theorem BoxN.other{c:Option Nat}(h:BoxN W b t vs)(hg:W.grownBy W' c)(hn:c≠some b):BoxN W' b t vs:=(hg.block b h.lt λe=>hn e.symm).trans h
end
section
variable {P : Program} {t : TypeId} {n : Nat} {ops : Array Oper} {rest : List Oper} {o : Oper} {a : Act} {K : Act → World → Prop} {Q : Exit → Act → World → Prop} {w : World}
theorem zgl{vs:List Value}(hz:(P.info? t).bind (·.zero)=some (.agg vs.toArray))(ho:o.op=.alloc t)(h:∀w',Below w.heap.size w w'->BoxN w' w.heap.size t vs->K (a.put o.dst (.pointer (some ⟨w.heap.size,0,none⟩))) w'):o.wp P a w K Q:=by
 have hzz:(zeroValue t).run P w=.ok (.agg vs.toArray) w:=by
  cases hi:P.info? t with
  |none=>simp[hi]at hz
  |some i=>simp[hi]at hz;simp[zeroValue,typeInfo,hi,hz]
 have hrun:(execOp a.eval o).run P w=.ok (.value (.pointer (some ⟨w.heap.size,0,none⟩))) (w.alloc (.cells vs.toArray t)):=by
  simp[execOp,ho,newVar,hzz,Value.cells,go_sem]
 unfold Oper.wp;rw[hrun];exact h _ ((ze _ _).alloc (zf _) _) (BoxN.new w t vs)
theorem za2{vs:List Value}(hz:(P.info? t).bind (·.zero)=some (.agg vs.toArray))(ho:o.op=.alloc t)(hgd:Region.wanted o (yielded ops a.tmps)=true)(h:∀w',Below w.heap.size w w'->BoxN w' w.heap.size t vs->wpList P ops Q rest (a.put o.dst (.pointer (some ⟨w.heap.size,0,none⟩))) w'):wpList P ops Q (o::rest) a w:=
 zQ hgd λ_ hK=>zgl hz ho λw' h1 h2=>hK _ _ (h w' h1 h2)
theorem za3{vs us:List Value}{x y:Operand}{b:Nat}(hs:(P.info? t).map (·.size)=some us.length)(ho:o.op=.store t x y)(hx:a.eval x=.pointer (some ⟨b,0,none⟩))(hy:a.eval y=.agg us.toArray)(h1:us.all (·.oneCell')=true)(hb:BoxN w b t vs)(hl:vs.length=us.length)(h:∀w',w.grownBy w' (some b)->BoxN w' b t us->K (a.put o.dst undef) w'):o.wp P a w K Q:=by
  refine wp_store_row t x y ho b us.toArray hx hy t vs.toArray hb (by simpa using hs) (by simp[hl]) (by simpa using h1) (h _ ⟨rfl,rfl,rfl,by simp[World.setRow],λk _ hk=>?_⟩ ?_)
  · have hkb:k≠b:=λe=>hk (by rw[e])
    simp[World.setRow,yU,Ne.symm hkb]
  · unfold BoxN at hb⊢
    simp[World.setRow,yU,hb]
theorem zab{vs us:List Value}{x y:Operand}{b:Nat}(hs:(P.info? t).map (·.size)=some us.length) (ho:o.op=.store t x y) (hd:o.dst=none) (hgd:Region.wanted o (yielded ops a.tmps)=true) (hx:a.eval x=.pointer (some ⟨b,0,none⟩))(hy:a.eval y=.agg us.toArray)(h1:us.all (·.oneCell')=true)(hb:BoxN w b t vs)(hl:vs.length=us.length)(h:∀w',w.grownBy w' (some b)->BoxN w' b t us->wpList P ops Q rest a w'):wpList P ops Q (o::rest) a w:=
 zQ hgd λ_ hK=>za3 hs ho hx hy h1 hb hl λw' h3 h4=>hK _ _ (by rw[hd];exact h w' h3 h4)
theorem zeq {t2:TypeId}{vs:List Value}{x y:Operand}{b j:Nat}{u:Value}(ho:o.op=.store t2 x y)(hs:(P.info? t2).map (·.size)=some 1)(hx:a.eval x=.pointer (some ⟨b,j,none⟩))(hy:a.eval y=u)(hu:u.cells=#[u])(h1:u.oneCell'=true)(hb:BoxN w b t vs)(hj:j<vs.length)
    (h:∀w',w.grownBy w' (some b)->BoxN w' b t (vs.set j u)->K (a.put o.dst undef) w'):o.wp P a w K Q:=by
  have hc:=hb.cell (i:=j) (zB hj);have hf:=hb.frozen j;refine zfg ?_ (h (w.setCell ⟨b,j,none⟩ u) ⟨rfl,rfl,rfl,by simp[World.setCell],λk _ hk=>xm _ ⟨b,j,none⟩ k _ λe=>hk (by rw[e])⟩ ?_)
  · simp only[execOp,ho,hx,hy]
    have hu':=hu;unfold Value.cells at hu';simp[Instr.storeAt,storeVar,zaa hs,storeCells,hu',xn _ _ _ _ _ h1,hc,hf,Addr.add,go_sem]
  · unfold BoxN at hb⊢
    simp only[World.setCell,yU,hb];simp
theorem zc1{t2:TypeId}{vs:List Value}{x y:Operand}{b j:Nat}{u:Value}(ho:o.op=.store t2 x y)(hd:o.dst=none)(hgd:Region.wanted o (yielded ops a.tmps)=true)(hs:(P.info? t2).map (·.size)=some 1)(hx:a.eval x=.pointer (some ⟨b,j,none⟩))(hy:a.eval y=u)(hu:u.cells=#[u])(h1:u.oneCell'=true)(hb:BoxN w b t vs)(hj:j<vs.length)(h:∀w',w.grownBy w' (some b)->BoxN w' b t (vs.set j u)->wpList P ops Q rest a w'):wpList P ops Q (o::rest) a w:=
 zQ hgd λ_ hK=>zeq ho hs hx hy hu h1 hb hj λw' h3 h4=>hK _ _ (by rw[hd];exact h w' h3 h4)
theorem ze0 (hP:StP P t 2){x:Operand}{b off:Nat}{u v:Value}(ho:o.op=.load t x)(hx:a.eval x=.pointer (some ⟨b,off,none⟩))(h0:w.cell? ⟨b,off,none⟩=some u)(h1:w.cell? ⟨b,off+1,none⟩=some v)(h:K (a.put o.dst (.agg #[u,v])) w):o.wp P a w K Q:=by
 obtain⟨fs,hu,hfs,hf⟩:=hP.hu;refine zcb ?_ h;simp only[execOp,ho,hx];simp[Instr.loadAt,loadVar,isAgg,zr hu,zaa hP.hs,loadCellsFrom,Addr.add,h0,h1,go_sem]
theorem zdj (hP:StP P t 4){x:Operand}{b off:Nat}{u v r s:Value}(ho:o.op=.load t x) (hx:a.eval x=.pointer (some ⟨b,off,none⟩)) (h0:w.cell? ⟨b,off,none⟩=some u) (h1:w.cell? ⟨b,off+1,none⟩=some v) (h2:w.cell? ⟨b,off+2,none⟩=some r) (h3:w.cell? ⟨b,off+3,none⟩=some s) (h:K (a.put o.dst (.agg #[u,v,r,s])) w):o.wp P a w K Q:=by
 obtain⟨fs,hu,hfs,hf⟩:=hP.hu;refine zcb ?_ h;simp only[execOp,ho,hx];simp[Instr.loadAt,loadVar,isAgg,zr hu,zaa hP.hs,loadCellsFrom,Addr.add,h0,h1,h2,h3,go_sem]
theorem zly (hP:StP P t 2){x y:Operand}{u v:Value}(ho:o.op=.build t #[(0,x),(1,y)])(hx:a.eval x=u)(hy:a.eval y=v)(hu1:u.cells=#[u])(hv1:v.cells=#[v])(h:K (a.put o.dst (.agg #[u,v])) w):o.wp P a w K Q:=by
 obtain⟨fs,hu,hfs,hf⟩:=hP.hu;obtain⟨f0,g0,o0,s0⟩:=hf 0 (by omega);obtain⟨f1,g1,o1,s1⟩:=hf 1 (by omega);obtain⟨zs,hzs,hz0⟩:=hP.zero;obtain⟨l⟩:=fs;obtain⟨zl⟩:=zs;match l,hfs with
 |[k0,k1],_=>
  match zl,hzs with
  |[z0,z1],_=>
   simp at g0 g1;subst g0;subst g1;refine zcb ?_ h;simp only[execOp,ho,zE,zn,zo,hx,hy];simp[Instr.build,zr hu,hz0,zaa s0,zaa s1,Instr.fill,hu1,hv1,o0,o1,show(Value.agg #[z0,z1]).cells=#[z0,z1]from rfl]
end
structure Tot{K:Type}(lt:K->K->Bool):Prop where
 irr:∀a,lt a a=false
 tr:∀{a b c},lt a b=true->lt b c=true->lt a c=true
 tot:∀{a b},a≠b->lt a b=false->lt b a=true
theorem totB:Tot ltB:=⟨zbx,zbe,zcq⟩
theorem Tot.ne{K:Type}{lt:K->K->Bool}(h:Tot lt){a b:K}(h2:lt a b=true):a≠b:=λe=>by subst e;rw[h.irr]at h2;cases h2
theorem Tot.asy{K:Type}{lt:K->K->Bool}(h:Tot lt){a b:K}(h2:lt a b=true):lt b a=false:=by
 cases hb:lt b a with
 |false=>rfl
 |true=>rw[<-h.irr a];exact(h.tr h2 hb).symm
section
variable {K α : Type} [DecidableEq K] (lt : K → K → Bool) (key : α → K)
def SrtE(l:List α):Prop:=l.Pairwise λa b=>lt (key a) (key b)=true
def insE(x:α):List α->List α
 |[]=>[x]
 |y::l=>if key x=key y then x::l else if lt (key x) (key y)then x::y::l else y::insE x l
def delE (k:K)(l:List α):List α:=l.filter λy=>decide (key y≠k)
def zcf(k:K)(l:List α):Option α:=l.find? λy=>decide (key y=k)
variable {lt key}
theorem zat(k:K)(y:α)(l:List α):zcf key k (y::l)=if key y=k then some y else zcf key k l:=by
 unfold zcf;by_cases h:key y=k<;>simp[h]
theorem zdf{k:K}{l:List α}{x:α}(h:zcf key k l=some x):x∈l/\key x=k:=by
 unfold zcf at h;exact⟨List.mem_of_find?_eq_some h,by simpa using List.find?_some h⟩
theorem zdg{k:K}{l:List α}:zcf key k l=none↔∀y∈l,key y≠k:=by
 unfold zcf;simp
theorem zft (ht:Tot lt){l:List α}(hs:SrtE lt key l){x:α}(hx:x∈l):zcf key (key x) l=some x:=by
 induction l with
 |nil=>cases hx
 |cons y l ih=>
  have h2:=yh.1 hs;rw[zat];rcases zU.1 hx with rfl|h
  ·rw[zi rfl]
  ·rw[zh (ht.ne (h2.1 x h)),ih h2.2 h]
theorem zqg{x y:α}:∀{l:List α},y∈insE lt key x l->y=x\/y∈l
  |[],h=>by simpa [insE]using h
  |z::l,h=>by
    unfold insE at h;split at h
    · rcases zU.1 h with h|h
      ·exact .inl h
      ·exact .inr (List.mem_cons_of_mem _ h)
    · split at h
      · rcases zU.1 h with h|h
        ·exact .inl h
        ·exact .inr h
      · rcases zU.1 h with h|h
        ·exact .inr (by simp[h])
        · rcases zqg h with h|h
          ·exact .inl h
          ·exact .inr (List.mem_cons_of_mem _ h)
theorem zle (ht:Tot lt){x:α}:∀{l:List α},SrtE lt key l->SrtE lt key (insE lt key x l)
  |[],_=>by unfold insE SrtE;simp
  |z::l,h=>by
    have h2:=yh.1 h;unfold insE;split
    · rename_i e
      exact yh.2 ⟨λy hy=>by rw[e];exact h2.1 y hy,h2.2⟩
    · rename_i e
      split
      · rename_i e2
        refine yh.2 ⟨λy hy=>?_,h⟩;rcases zU.1 hy with rfl|hy
        ·exact e2
        ·exact ht.tr e2 (h2.1 y hy)
      · rename_i e2
        refine yh.2 ⟨λy hy=>?_,zle ht h2.2⟩;rcases zqg hy with rfl|hy
        ·exact ht.tot e (by simpa using e2)
        ·exact h2.1 y hy
theorem zlk (ht:Tot lt){k:K}{l:List α}(h:∀y∈l,lt k (key y)=true):zcf key k l=none:=
 zdg.2 λy hy=>(ht.ne (h y hy)).symm
theorem zg0 (ht:Tot lt){x:α}{k:K}:∀{l:List α},SrtE lt key l->zcf key k (insE lt key x l)=if key x=k then some x else zcf key k l
  |[],_=>by unfold insE;rw[zat]
  |z::l,h=>by
    have h2:=yh.1 h;unfold insE;split
    · rename_i e
      rw[zat,zat,<-e];split<;>rfl
    · rename_i e
      split;·rw[zat]
      · rw[zat,zg0 ht h2.2,zat]
        by_cases e3:key x=k;· rw[zi e3,zi e3,zh (by rw[<-e3];exactλe4=>e e4.symm)]
        · rw[zh e3,zh e3]
theorem delE_srt{k:K}{l:List α}(h:SrtE lt key l):SrtE lt key (delE key k l):=h.filter _
theorem zko (ht:Tot lt):∀{l r:List α},SrtE lt key l->SrtE lt key r->(∀k,zcf key k l=zcf key k r)->l=r
  |[],[],_,_,_=>rfl
  |[],y::r,_,_,h=>by have:=h (key y);rw[zat,zi rfl]at this;cases this
  |x::l,[],_,_,h=>by have:=h (key x);rw[zat,zi rfl]at this;cases this
  |x::l,y::r,hl,hr,h=>by
    have hl2:=yh.1 hl;have hr2:=yh.1 hr;have hxy:x=y:=by
      have h1:=h (key x);have h2:=h (key y);rw[zat,zi rfl,zat]at h1;rw[zat,zat,zi rfl]at h2;by_cases e:key y=key x
      · rw[zi e]at h1;injection h1
      · rw[zh e]at h1
        rw[zh (λe2=>e e2.symm)]at h2;have h3:=hr2.1 x (zdf h1.symm).1;have h4:=hl2.1 y (zdf h2).1;have:=ht.asy h3;rw[h4]at this;cases this
    subst hxy;rw[zko ht hl2.2 hr2.2 λk=>?_];have h1:=h k;rw[zat,zat]at h1;by_cases e:key x=k
    · rw[zlk ht (l:=l) (k:=k) (by rw[<-e];exact hl2.1),zlk ht (l:=r) (k:=k) (by rw[<-e];exact hr2.1)]
    · rwa [zh e,zh e]at h1
end
theorem srtE_get{K α:Type}{lt:K->K->Bool}{key:α->K}{l:List α}(h:SrtE lt key l){i j:Nat}(hij:i<j)(hj:j<l.length):lt (key (l[i]'(by omega))) (key l[j])=true:=wX.1 h i j (by omega) hj hij
structure Wr where
 table:Int
 key:List UInt8
 gone:Bool
 val:List UInt8
deriving DecidableEq
structure Pq where
 key:List UInt8
 val:List UInt8
deriving DecidableEq
structure Dl where
 writes:List Wr
 marks:List Int
deriving DecidableEq
structure Sp where
 table:Int
 lo:List UInt8
 hi:List UInt8
 isOpen:Bool
deriving DecidableEq
structure Plc where
 table:Int
 key:List UInt8
deriving DecidableEq
def Wr.plc(w:Wr):Plc:=⟨w.table,w.key⟩
def ltP(a b:Plc):Bool:=decide (a.table<b.table)||(decide (a.table=b.table)&&ltB a.key b.key)
theorem totP:Tot ltP where
  irr a:=by simp[ltP,zbx]
  tr:=by
    intro a b c h k;simp only[ltP,wj,yP,yk]at h k⊢;rcases h with h|⟨h,h2⟩<;>rcases k with k|⟨k,k2⟩
    ·exact .inl (by omega)
    ·exact .inl (by omega)
    ·exact .inl (by omega)
    ·exact .inr ⟨by omega,zbe h2 k2⟩
  tot:=by
    intro a b hne h;simp only[ltP,Bool.or_eq_false_iff,wD,wW,wj,yP,yk]at h⊢;obtain⟨h1,h2⟩:=h;by_cases e:a.table=b.table
    · refine .inr ⟨e.symm,zcq (λe2=>hne ?_) ?_⟩
      ·cases a;cases b;simp_all
      · rcases h2 with h2|h2
        ·exact absurd e h2
        ·exact h2
    ·exact .inl (by omega)
def mayW (w:Wr):Prop:=0<=w.table/\w.table<=3/\w.key.length<=16/\w.val.length<=32/\(w.gone=true->w.val=[])
instance (w:Wr):Decidable (mayW w):=by unfold mayW;exact inferInstance
def okM(n:Int):Int->List Int->Prop
 |_,[]=>True
 |l,m::ms=>l<=m/\m<=n/\okM n m ms
instance decM (n:Int):∀l ms,Decidable (okM n l ms)
 |_,[]=>isTrue trivial
 |l,m::ms=>by unfold okM;have:=decM n m ms;exact inferInstance
def okD (d:Dl):Prop:=d.writes.length<=20/\d.marks.length<=4/\(∀w∈d.writes,mayW w)/\okM d.writes.length 0 d.marks
instance(d:Dl):Decidable (okD d):=by unfold okD;exact inferInstance
def putD(d:Dl)(w:Wr):Dl×Nat:=if okD d/\mayW w then if d.writes.length=20 then(d,80)else(⟨d.writes++[w],d.marks⟩,0)else(d,1)
def zc8 (d:Dl):Dl×Nat:=if okD d then if d.marks.length=4 then(d,80)else(⟨d.writes,d.marks++[(d.writes.length:Int)]⟩,0)else(d,1)
def zc0 (d:Dl)(n:Int):Dl×Nat:=if okD d/\0<=n/\n<d.marks.length then(⟨d.writes.take (d.marks.getD n.toNat 0).toNat,d.marks.take (n.toNat+1)⟩,0)else(d,1)
def zjx(ws:List Wr)(p:Plc):Option Wr:=zcf Wr.plc p ws.reverse
def zf8(d:Dl)(p:Plc):Option Wr:=if okD d then zjx d.writes p else none
def zcy (ws:List Wr):List Wr:=ws.foldl (λacc w=>insE ltP Wr.plc w acc) []
def ze5(d:Dl):List Wr:=if okD d then zcy d.writes else[]
def inS (x:Sp)(k:List UInt8):Bool:=!ltB k x.lo&&(x.isOpen||ltB k x.hi)
def zei (w:Wr)(l:List Pq):List Pq:=if w.gone then delE Pq.key w.key l else insE ltB Pq.key ⟨w.key,w.val⟩ l
def zfq(x:Sp)(ws:List Wr)(l:List Pq):List Pq:=ws.foldl (λacc w=>if w.table=x.table/\inS x w.key=true then zei w acc else acc) l
abbrev SrtQ (l:List Pq):Prop:=SrtE ltB Pq.key l
instance(l:List Pq):Decidable (SrtQ l):=by unfold SrtQ SrtE;exact inferInstance
def zi3 (d:Dl)(x:Sp)(l:List Pq):List Pq:=if SrtQ l then zfq x (ze5 d) l else l
theorem zhf (ws:List Wr)(w:Wr):zcy (ws++[w])=insE ltP Wr.plc w (zcy ws):=by unfold zcy;simp
theorem zhh (ws:List Wr)(w:Wr)(p:Plc):zjx (ws++[w]) p=if w.plc=p then some w else zjx ws p:=by
 unfold zjx;rw[List.reverse_append,List.reverse_singleton,wF,zat]
theorem zkp{α:Type}{p:List α->Prop}(h0:p [])(h1:∀l x,p l->p (l++[x]))(l:List α):p l:=by
 have:∀n (l:List α),l.length=n->p l:=by
  intro n;induction n with
  |zero=>intro l h;rw[yg h];exact h0
  |succ n ih=>
   intro l h;have hne:l≠[]:=λe=>by subst e;cases h
   rw[<-List.dropLast_concat_getLast hne];exact h1 _ _ (ih _ (by simp[h]))
 exact this _ l rfl
theorem zgv(ws:List Wr):SrtE ltP Wr.plc (zcy ws):=by
 induction ws using zkp with
 |h0=>exact List.Pairwise.nil
 |h1 ws w ih=>rw[zhf];exact zle totP ih
theorem zgw (ws:List Wr)(p:Plc):zcf Wr.plc p (zcy ws)=zjx ws p:=by
 induction ws using zkp with
 |h0=>rfl
 |h1 ws w ih=>rw[zhf,zg0 totP (zgv ws),zhh,ih]
theorem zp6{ws:List Wr}{w:Wr}(h:w∈zcy ws):w∈ws:=by
 have h2:=zft totP (zgv ws) h;rw[zgw]at h2;exact List.mem_reverse.1 (zdf h2).1
theorem zp7(ws:List Wr):(zcy ws).length<=ws.length:=by
  have hi:∀(w:Wr)(l:List Wr),(insE ltP Wr.plc w l).length<=l.length+1:=by
    intro w l;induction l with
    |nil=>simp[insE]
    |cons y l ih=>
      unfold insE;split
      ·simp
      · split
        ·simp
        ·simp;exact ih
  induction ws using zkp with
  |h0=>simp[zcy]
  |h1 ws w ih=>rw[zhf,zC];have:=hi w (zcy ws);simp;omega
theorem zqp{w:Wr}{l:List Pq}(h:SrtQ l):SrtQ (zei w l):=by
 unfold zei;split
 ·exact delE_srt h
 ·exact zle totB h
def zh1 (x:Sp)(acc:List Pq)(w:Wr):List Pq:=if w.table=x.table/\inS x w.key=true then zei w acc else acc
theorem zj7(x:Sp)(w:Wr)(ws:List Wr)(l:List Pq):zfq x (ws++[w]) l=zh1 x (zfq x ws l) w:=by unfold zfq;simp;rfl
theorem zk9{n:Int}:∀{l:Int}{ms:List Int}{m:Int},okM n l (ms++[m])↔okM n l ms/\ms.getLastD l<=m/\m<=n
 |l,[],m=>by simp[okM]
 |l,a::ms,m=>by
  show l<=a/\a<=n/\okM n a (ms++[m])↔_;rw[zk9];show _↔(l<=a/\a<=n/\okM n a ms)/\(a::ms).getLastD l<=m/\m<=n;have e:(a::ms).getLastD l=ms.getLastD a:=by cases ms<;>rfl
  rw[e];constructor;·rintro⟨h1,h2,h3,h4,h5⟩;exact⟨⟨h1,h2,h3⟩,h4,h5⟩
  ·rintro⟨⟨h1,h2,h3⟩,h4,h5⟩;exact⟨h1,h2,h3,h4,h5⟩
theorem zok{n l:Int}{ms:List Int}(h:okM n l ms){i:Nat}(hi:i<ms.length):l<=ms[i]/\ms[i]<=n:=by
 induction ms generalizing l i with
 |nil=>cases hi
 |cons a ms ih=>
  cases i with
  |zero=>exact⟨h.1,h.2.1⟩
  |succ i=>
   have:=ih h.2.2 (i:=i) (by simpa using hi);exact⟨Int.le_trans h.1 this.1,this.2⟩
theorem zp3{n l:Int}{ms:List Int}(h:okM n l ms)(k:Nat):okM n l (ms.take k):=by
 induction ms generalizing l k with
 |nil=>simpa using h
 |cons a ms ih=>
  cases k with
  |zero=>exact trivial
  |succ k=>exact⟨h.1,h.2.1,ih h.2.2 k⟩
theorem zk8{n l:Int}{ms:List Int}{k:Nat}(hk:k<ms.length):okM n l (ms.take (k+1))↔okM n l (ms.take k)/\(if k=0 then l else ms[k-1]'(by omega))<=ms[k]/\ms[k]<=n:=by
  rw[yZ hk,zk9];have e:(ms.take k).getLastD l=if k=0 then l else ms[k-1]'(by omega):=by
    by_cases h0:k=0;· subst h0;rfl
    · rw[zh h0,List.getLastD_eq_getLast?,vj,zp,yi (by omega),wY (by omega),zB (by omega)]
      rfl
  rw[e]
def W64(s:Int):Prop:=-9223372036854775808<=s/\s<=9223372036854775807
def wrC(x:Wr)(k v:Value):List Value:=[.int .i64 x.table,k,.bool x.gone,v]
def Elt.wr:Elt Wr where
 size:=4;pos:=by omega
 R S w x vs:=∃k v,vs=wrC x k v/\RdS S w k x.key/\RdS S w v x.val/\W64 x.table;len:=by rintro _ _ _ _⟨_,_,rfl,_⟩;rfl
 keep:=by rintro _ _ _ _ _⟨k,v,rfl,h,h1,h2⟩ hk;exact⟨k,v,rfl,h.keep hk,h1.keep hk,h2⟩
 weak:=by rintro _ _ _ _ _⟨k,v,rfl,h,h1,h2⟩ hk;exact⟨k,v,rfl,h.weak hk,h1.weak hk,h2⟩
 fit:=by rintro _ _ _ _⟨k,v,rfl,h,h1,h2⟩;exact⟨k,v,rfl,h.fit,h1.fit,h2⟩
 one:=by
  rintro _ _ _ _⟨k,v,rfl,h,h1,_⟩ u hu;have h3:=h.one;have h4:=h1.one;simp only[wrC,zU,yJ,yK]at hu;rcases hu with rfl|rfl|rfl|rfl
  · rfl
  ·exact h3
  · rfl
  ·exact h4
def Elt.pq:Elt Pq where
 size:=2;pos:=by omega
 R S w x vs:=∃k v,vs=[k,v]/\RdS S w k x.key/\RdS S w v x.val;len:=by rintro _ _ _ _ ⟨_,_,rfl,_⟩;rfl
 keep:=by rintro _ _ _ _ _ ⟨k,v,rfl,h,h1⟩ hk;exact⟨k,v,rfl,h.keep hk,h1.keep hk⟩
 weak:=by rintro _ _ _ _ _ ⟨k,v,rfl,h,h1⟩ hk;exact⟨k,v,rfl,h.weak hk,h1.weak hk⟩
 fit:=by rintro _ _ _ _ ⟨k,v,rfl,h,h1⟩;exact⟨k,v,rfl,h.fit,h1.fit⟩
 one:=by
  rintro _ _ _ _ ⟨k,v,rfl,h,h1⟩ u hu;have h3:=h.one;have h4:=h1.one;simp only[zU,yJ,yK]at hu;rcases hu with rfl|rfl
  ·exact h3
  ·exact h4
def Elt.int:Elt Int where
 size:=1;pos:=by omega
 R _ _ x vs:=vs=[.int .i64 x]/\W64 x;len:=by rintro _ _ _ _ ⟨rfl,_⟩;rfl
 keep:=by rintro _ _ _ _ _ h _;exact h
 weak:=by rintro _ _ _ _ _ h _;exact h
 fit:=by rintro _ _ _ _ h;exact h
 one:=by
  rintro _ _ _ _ ⟨rfl,_⟩u hu;simp only[zU,yJ,yK]at hu;subst hu;rfl
theorem wrP:LoP Tryz.prog 38 62 4:=⟨⟨by kernel_rfl,by kernel_rfl⟩,.agg #[.int .i64 0,.slice none 0 0,.bool false,.slice none 0 0],64,by kernel_rfl,rfl,by omega⟩
theorem wrS:StP Tryz.prog 62 4:=StP.of (by kernel_rfl)
theorem pqP:LoP Tryz.prog 52 72 2:=⟨⟨by kernel_rfl,by kernel_rfl⟩,.agg #[.slice none 0 0,.slice none 0 0],48,by kernel_rfl,rfl,by omega⟩
theorem pqS:StP Tryz.prog 72 2:=StP.of (by kernel_rfl)
theorem inP:LoP Tryz.prog 39 3 1:=⟨⟨by kernel_rfl,by kernel_rfl⟩,.int .i64 0,8,by kernel_rfl,rfl,by omega⟩
theorem dlS:StP Tryz.prog 41 2:=StP.of (by kernel_rfl)
section
variable {S S' : Nat → Prop} {w w' : World} {v : Value}
theorem RdL.wr{a:Option Addr}{n c:Nat}{l:List Wr}(h:RdL Elt.wr S w (.slice a n c) l) (r:Nat) (hr:r<l.length):∃b off A C A2 C2,a=some ⟨b,off,none⟩/\S b/\w.cell? ⟨b,off+r*4,none⟩=some (.int .i64 l[r].table)/\w.cell? ⟨b,off+r*4+1,none⟩=some (.slice A l[r].key.length C)/\w.cell? ⟨b,off+r*4+2,none⟩=some (.bool l[r].gone)/\w.cell? ⟨b,off+r*4+3,none⟩=some (.slice A2 l[r].val.length C2)/\RdS S w (.slice A l[r].key.length C) l[r].key/\RdS S w (.slice A2 l[r].val.length C2) l[r].val/\W64 l[r].table:=by
 obtain⟨b,off,vs,rfl,hb,⟨k,u,rfl,hk,hu,hi⟩,hc⟩:=h.at r hr;obtain⟨A,C,rfl,_,_⟩:=hk.shape;obtain⟨A2,C2,rfl,_,_⟩:=hu.shape;exact⟨b,off,A,C,A2,C2,rfl,hb,hc 0 _ rfl,hc 1 _ rfl,hc 2 _ rfl,hc 3 _ rfl,hk,hu,hi⟩
theorem RdL.pq{a:Option Addr}{n c:Nat}{l:List Pq}(h:RdL Elt.pq S w (.slice a n c) l)(r:Nat)(hr:r<l.length):∃b off A C A2 C2,a=some ⟨b,off,none⟩/\S b/\w.cell? ⟨b,off+r*2,none⟩=some (.slice A l[r].key.length C)/\w.cell? ⟨b,off+r*2+1,none⟩=some (.slice A2 l[r].val.length C2)/\RdS S w (.slice A l[r].key.length C) l[r].key/\RdS S w (.slice A2 l[r].val.length C2) l[r].val:=by
 obtain⟨b,off,vs,rfl,hb,⟨k,u,rfl,hk,hu⟩,hc⟩:=h.at r hr;obtain⟨A,C,rfl,_,_⟩:=hk.shape;obtain⟨A2,C2,rfl,_,_⟩:=hu.shape;exact⟨b,off,A,C,A2,C2,rfl,hb,hc 0 _ rfl,hc 1 _ rfl,hk,hu⟩
theorem RdL.num{a:Option Addr}{n c:Nat}{l:List Int}(h:RdL Elt.int S w (.slice a n c) l)(r:Nat)(hr:r<l.length):∃b off,a=some ⟨b,off,none⟩/\S b/\w.cell? ⟨b,off+r,none⟩=some (.int .i64 l[r])/\W64 l[r]:=by
 obtain⟨b,off,vs,rfl,hb,⟨rfl,hi⟩,hc⟩:=h.at r hr;have:=hc 0 _ rfl;exact⟨b,off,rfl,hb,by simpa [Elt.int]using this,hi⟩
def RdWr(S:Nat->Prop)(w:World)(v:Value)(x:Wr):Prop:=∃a c a2 c2,v=.agg #[.int .i64 x.table,.slice a x.key.length c,.bool x.gone,.slice a2 x.val.length c2]/\RdS S w (.slice a x.key.length c) x.key/\RdS S w (.slice a2 x.val.length c2) x.val/\W64 x.table
def RdDl (S:Nat->Prop)(w:World)(v:Value)(d:Dl):Prop:=∃a c a2 c2,v=.agg #[.slice a d.writes.length c,.slice a2 d.marks.length c2]/\RdL Elt.wr S w (.slice a d.writes.length c) d.writes/\RdL Elt.int S w (.slice a2 d.marks.length c2) d.marks
def RdSp (S:Nat->Prop)(w:World)(v:Value)(x:Sp):Prop:=∃a c a2 c2,v=.agg #[.int .i64 x.table,.slice a x.lo.length c,.slice a2 x.hi.length c2,.bool x.isOpen]/\RdS S w (.slice a x.lo.length c) x.lo/\RdS S w (.slice a2 x.hi.length c2) x.hi/\W64 x.table
theorem RdWr.below{x:Wr}(h:RdWr S w v x)(hb:Below w.heap.size w w'):RdWr S w' v x:=by
 obtain⟨a,c,a2,c2,e,h1,h2,h3⟩:=h;exact⟨a,c,a2,c2,e,h1.below hb,h2.below hb,h3⟩
theorem RdWr.weak{x:Wr}(h:RdWr S w v x)(hs:∀k,S k->S' k):RdWr S' w v x:=by
 obtain⟨a,c,a2,c2,e,h1,h2,h3⟩:=h;exact⟨a,c,a2,c2,e,h1.weak hs,h2.weak hs,h3⟩
theorem RdDl.below{x:Dl}(h:RdDl S w v x)(hb:Below w.heap.size w w'):RdDl S w' v x:=by
 obtain⟨a,c,a2,c2,e,h1,h2⟩:=h;exact⟨a,c,a2,c2,e,h1.below hb,h2.below hb⟩
theorem RdDl.weak{x:Dl}(h:RdDl S w v x)(hs:∀k,S k->S' k):RdDl S' w v x:=by
 obtain⟨a,c,a2,c2,e,h1,h2⟩:=h;exact⟨a,c,a2,c2,e,h1.weak hs,h2.weak hs⟩
theorem RdSp.below{x:Sp}(h:RdSp S w v x)(hb:Below w.heap.size w w'):RdSp S w' v x:=by
 obtain⟨a,c,a2,c2,e,h1,h2,h3⟩:=h;exact⟨a,c,a2,c2,e,h1.below hb,h2.below hb,h3⟩
end
abbrev Tb:=Nat->List Pr
abbrev Sto:=Nat->Nd
def okT (L:Tb):Prop:=∀i,i<4->okP (L i)/\(L i).length<=60
instance (L:Tb):Decidable (okT L):=by unfold okT;infer_instance
def okS(T:Sto):Prop:=∀i,i<4->okN (T i)/\(prN (T i)).length<=60
instance(T:Sto):Decidable (okS T):=by unfold okS;infer_instance
def tabS(T:Sto):Tb:=λi=>prN (T i)
def zcp(T:Sto)(t:Int):List Pr:=if 0<=t/\t<4/\okS T then prN (T t.toNat)else[]
def zrx (L:Tb)(t:Int):List Pr:=if 0<=t/\t<4 then L t.toNat else[]
def getP(l:List Pr)(k:List UInt8)(s:Int):Option (List UInt8):=(zaw l k).bind λc=>zcd c s
def zfo (x:Sp)(s:Int)(p:Pr):Option Pq:=if inS x p.key then(zcd p.chain s).map λv=>⟨p.key,v⟩else none
def zbr(l:List Pr)(x:Sp)(s:Int):List Pq:=l.filterMap (zfo x s)
def verW (w:Wr)(s:Int):Ver:=⟨s,w.gone,w.val⟩
def mayW7(w:Wr):Prop:=0<=w.table/\w.table<4/\w.key.length<=16/\w.val.length<=32/\(w.gone=true->w.val.length=0)
instance (w:Wr):Decidable (mayW7 w):=by unfold mayW7;infer_instance
def zcl (l:List Pr)(k:List UInt8)(v:Ver):List Pr×Nat:=
 let c:=(zaw l k).getD [];if(zcz c v).2≠0 then([],(zcz c v).2)else if 60<(putP l k (zcz c v).1).length then([],40)else(putP l k (zcz c v).1,0)
def setT (L:Tb)(t:Int)(l:List Pr):Tb:=λi=>if(i:Int)=t then l else L i
def goI (L0:Tb):Tb->Int->List Wr->Tb×Nat
 |L,_,[]=>(L,0)
 |L,s,w::r=>if(zcl (L w.table.toNat) w.key (verW w s)).2≠0 then(L0,(zcl (L w.table.toNat) w.key (verW w s)).2)else goI L0 (setT L w.table (zcl (L w.table.toNat) w.key (verW w s)).1) s r
def RdSt(S:Nat->Prop)(w:World)(v:Value)(T:Sto):Prop:=∃(a:Nat->Option Addr)(m c:Nat->Nat),v=.agg #[.slice (a 0) (m 0) (c 0),.slice (a 1) (m 1) (c 1),.slice (a 2) (m 2) (c 2),.slice (a 3) (m 3) (c 3),.slice (a 4) (m 4) (c 4),.slice (a 5) (m 5) (c 5),.slice (a 6) (m 6) (c 6),.slice (a 7) (m 7) (c 7),.slice (a 8) (m 8) (c 8),.slice (a 9) (m 9) (c 9),.slice (a 10) (m 10) (c 10),.slice (a 11) (m 11) (c 11)]/\∀i,i<4->RdN S w (.agg #[.slice (a (3*i)) (m (3*i)) (c (3*i)),.slice (a (3*i+1)) (m (3*i+1)) (c (3*i+1)),.slice (a (3*i+2)) (m (3*i+2)) (c (3*i+2))]) (T i)
section
variable {S S' : Nat → Prop} {w w' : World} {v : Value} {T : Sto}
theorem RdSt.keep(h:RdSt S w v T)(hk:∀k,S k->w'.heap[k]?=w.heap[k]?):RdSt S w' v T:=by
 obtain⟨a,m,c,e,h⟩:=h;exact⟨a,m,c,e,λi hi=>(h i hi).keep hk⟩
theorem RdSt.weak(h:RdSt S w v T)(hs:∀k,S k->S' k):RdSt S' w v T:=by
 obtain⟨a,m,c,e,h⟩:=h;exact⟨a,m,c,e,λi hi=>(h i hi).weak hs⟩
theorem RdSt.fit (h:RdSt S w v T):RdSt (λk=>S k/\k<w.heap.size) w v T:=by
 obtain⟨a,m,c,e,h⟩:=h;exact⟨a,m,c,e,λi hi=>(h i hi).fit⟩
theorem RdSt.below (h:RdSt S w v T)(hb:Below w.heap.size w w'):RdSt S w' v T:=(h.fit.keep λk hk=>hb.block k hk.2).weak λ_ h=>h.1
end
def fitS (T:Sto):Prop:=∀i,i<4->fitN (T i)
theorem BoxN.c12{W:World}{b:Nat}{t:TypeId}{v0 v1 v2 v3 v4 v5 v6 v7 v8 v9 v10 v11:Value}(h:BoxN W b t [v0,v1,v2,v3,v4,v5,v6,v7,v8,v9,v10,v11]):W.cell? ⟨b,0,none⟩=some v0/\W.cell? ⟨b,1,none⟩=some v1/\W.cell? ⟨b,2,none⟩=some v2/\W.cell? ⟨b,3,none⟩=some v3/\W.cell? ⟨b,4,none⟩=some v4/\W.cell? ⟨b,5,none⟩=some v5/\W.cell? ⟨b,6,none⟩=some v6/\W.cell? ⟨b,7,none⟩=some v7/\W.cell? ⟨b,8,none⟩=some v8/\W.cell? ⟨b,9,none⟩=some v9/\W.cell? ⟨b,10,none⟩=some v10/\W.cell? ⟨b,11,none⟩=some v11:=
 ⟨h.cell rfl,h.cell rfl,h.cell rfl,h.cell rfl,h.cell rfl,h.cell rfl,h.cell rfl,h.cell rfl,h.cell rfl,h.cell rfl,h.cell rfl,h.cell rfl⟩
def bxS (a:Nat->Option Addr)(m c:Nat->Nat):List Value:=[.slice (a 0) (m 0) (c 0),.slice (a 1) (m 1) (c 1),.slice (a 2) (m 2) (c 2),.slice (a 3) (m 3) (c 3),.slice (a 4) (m 4) (c 4),.slice (a 5) (m 5) (c 5),.slice (a 6) (m 6) (c 6),.slice (a 7) (m 7) (c 7),.slice (a 8) (m 8) (c 8),.slice (a 9) (m 9) (c 9),.slice (a 10) (m 10) (c 10),.slice (a 11) (m 11) (c 11)]
def StB (W:World)(b:Nat)(a:Nat->Option Addr)(m c:Nat->Nat):Prop:=BoxN W b 49 (bxS a m c)
theorem StB.at3{W:World}{b:Nat}{a:Nat->Option Addr}{m c:Nat->Nat}(h:StB W b a m c){t:Nat}(ht:t<4):W.cell? ⟨b,0+t*3,none⟩=some (.slice (a (3*t)) (m (3*t)) (c (3*t)))/\W.cell? ⟨b,0+t*3+1,none⟩=some (.slice (a (3*t+1)) (m (3*t+1)) (c (3*t+1)))/\W.cell? ⟨b,0+t*3+2,none⟩=some (.slice (a (3*t+2)) (m (3*t+2)) (c (3*t+2))):=
 match t,ht with
 |0,_=>⟨BoxN.cell h rfl,BoxN.cell h rfl,BoxN.cell h rfl⟩
 |1,_=>⟨BoxN.cell h rfl,BoxN.cell h rfl,BoxN.cell h rfl⟩
 |2,_=>⟨BoxN.cell h rfl,BoxN.cell h rfl,BoxN.cell h rfl⟩
 |3,_=>⟨BoxN.cell h rfl,BoxN.cell h rfl,BoxN.cell h rfl⟩
def upd3{α:Type}(t:Nat)(x y z:α)(f:Nat->α):Nat->α:=λj=>if j=3*t then x else if j=3*t+1 then y else if j=3*t+2 then z else f j
section
variable {α : Type} {t j : Nat} {x y z : α} {f : Nat → α}
theorem upd3_0:upd3 t x y z f (3*t)=x:=zi rfl
theorem upd3_1:upd3 t x y z f (3*t+1)=y:=by unfold upd3;rw[zh (by omega),zi rfl]
theorem upd3_2:upd3 t x y z f (3*t+2)=z:=by unfold upd3;rw[zh (by omega),zh (by omega),zi rfl]
theorem zst (h:j≠t):upd3 t x y z f (3*j)=f (3*j)/\upd3 t x y z f (3*j+1)=f (3*j+1)/\upd3 t x y z f (3*j+2)=f (3*j+2):=by
 unfold upd3;refine⟨?_,?_,?_⟩<;>rw[zh (by omega),zh (by omega),zh (by omega)]
end
theorem bxS_put{a:Nat->Option Addr}{m c:Nat->Nat}{t:Nat}(ht:t<4){x y z:Option Addr}{n0 n1 n2 c0 c1 c2:Nat}:(bxS a m c).take (0+t*3)++([.slice x n0 c0,.slice y n1 c1,.slice z n2 c2]++(bxS a m c).drop (0+t*3+3))=bxS (upd3 t x y z a) (upd3 t n0 n1 n2 m) (upd3 t c0 c1 c2 c):=
 match t,ht with
 |0,_=>rfl
 |1,_=>rfl
 |2,_=>rfl
 |3,_=>rfl
section
variable {P : Program} {t e : TypeId} {n sz : Nat} {fs : Array Field} {ops : Array Oper} {rest : List Oper} {o : Oper} {A : Act} {K : Act → World → Prop} {Q : Exit → Act → World → Prop} {w : World}
structure AsP(P:Program)(t e:TypeId)(n sz:Nat):Prop where
 hT:P.underlying t=some (.array n e)
 hS:∃fs,P.underlying e=some (.struct fs)
 hs:(P.info? e).map (·.size)=some sz
 pos:0<sz
 big:1<n
def SgQ(P:Program)(t:TypeId)(n:Nat):Prop:=(∃fs,P.underlying t=some (.struct fs))/\(P.info? t).map (·.size)=some n
def FdQ (P:Program)(t:TypeId)(i off:Nat):Prop:=∃fs f m,P.underlying t=some (.struct fs)/\fs[i]?=some f/\f.offset=off/\(P.info? f.type).map (·.size)=some (m+1)
theorem zsl{i o2:Nat}(hP:FdQ P t i o2){x:Operand}{b off:Nat}(ho:o.op=.fieldAddr t x i)(hx:A.eval x=.pointer (some ⟨b,off,none⟩))(h:K (A.put o.dst (.pointer (some ⟨b,off+o2,none⟩))) w):o.wp P A w K Q:=by
 obtain⟨fs,f,m,hu,hf,ho2,hs⟩:=hP;subst ho2;refine zcb ?_ h;simp only[execOp,ho,hx];simp[Instr.fieldAt,zr hu,fieldPlace,hf,zaa hs,go_sem,Addr.add]
theorem zkg{us:List Value}(hP:SgQ P t us.length){x:Operand}{b off:Nat}(ho:o.op=.load t x)(hx:A.eval x=.pointer (some ⟨b,off,none⟩))(hc:∀j u,us[j]?=some u->w.cell? ⟨b,off+j,none⟩=some u)(h:K (A.put o.dst (.agg us.toArray)) w):o.wp P A w K Q:=by
 obtain⟨⟨fs,hu⟩,hs⟩:=hP;have hr:=wM (P:=P) (w:=w) ⟨b,off,none⟩ us (λj v hj=>by rw[zN];exact hc j v hj);have hr':(loadCellsFrom ⟨b,off,none⟩ 0 us.length #[]).run P w=.ok us.toArray w:=hr;clear hr;refine zcb ?_ h;simp only[execOp,ho,hx];simp[Instr.loadAt,loadVar,isAgg,zr hu,zaa hs,hr',go_sem]
theorem wp_ixS (hP:AsP P t e n sz){x i:Operand}{cs us:Array Value}{kk:IntKind}{j:Int}{k:Nat}(ho:o.op=.index t x i)(hx:A.eval x=.agg cs)(hi:A.eval i=.int kk j)(hj:j=(k:Int))(hk:k<n)(hu:cs.extract (k*sz) (k*sz+sz)=us)(h:K (A.put o.dst (.agg us)) w):o.wp P A w K Q:=by
 subst hj;obtain⟨fs,hS⟩:=hP.hS;refine zcb ?_ h;simp only[execOp,ho,hx,hi];simp[Instr.index,zr hP.hT,asIntOf,zaa hP.hs,part,isAgg,zr hS,go_sem,hk,hu]
theorem zcv (hP:AsP P t e n sz){x i:Operand}{cs us:Array Value}{kk:IntKind}{j:Int}(k:Nat)(ho:o.op=.index t x i)(hgd:Region.wanted o (yielded ops A.tmps)=true)(hx:A.eval x=.agg cs)(hi:A.eval i=.int kk j)(hj:j=(k:Int))(hk:k<n)(hu:cs.extract (k*sz) (k*sz+sz)=us)(h:wpList P ops Q rest (A.put o.dst (.agg us)) w):wpList P ops Q (o::rest) A w:=
 zQ hgd λ_ hK=>wp_ixS hP ho hx hi hj hk hu (hK _ _ h)
theorem zsn{tb:TypeId}{vs us:List Value}{x y:Operand}{b f:Nat}(hs:(P.info? t).map (·.size)=some us.length) (ho:o.op=.store t x y) (hx:A.eval x=.pointer (some ⟨b,f,none⟩)) (hy:A.eval y=.agg us.toArray) (h1:us.all (·.oneCell')=true) (hb:BoxN w b tb vs) (hf:f+us.length<=vs.length)
    (h:∀w',w.grownBy w' (some b)->BoxN w' b tb (vs.take f++(us++vs.drop (f+us.length)))->K (A.put o.dst undef) w'):o.wp P A w K Q:=by
  have h1':∀v∈us,v.oneCell'=true:=λv hv=>xr.1 h1 v hv
  have hst:=wK (P:=P) b f tb us 0 vs.toArray w hb (by simpa using hf) h1';rw[yO]at hst;obtain⟨w',hw'⟩:∃w',w'=w.setRow b (vs.toArray.toList.take f++us++vs.toArray.toList.drop (f+us.length)).toArray:=⟨_,rfl⟩;rw[<-hw']at hst;refine zfg ?_ (h w' ⟨by rw[hw'];rfl,by rw[hw'];rfl,by rw[hw'];rfl,by rw[hw'];simp[World.setRow],λk _ hk=>?_⟩ ?_)
  · simp only[execOp,ho,hx,hy]
    simp[Instr.storeAt,storeVar,zaa hs,Value.cells,hst,go_sem]
  · have hkb:k≠b:=λe=>hk (by rw[e])
    rw[hw'];simp[World.setRow,yU,Ne.symm hkb]
  · unfold BoxN at hb⊢
    rw[hw'];simp[World.setRow,yU,hb]
theorem zb2{tb:TypeId}{vs us:List Value}{x y:Operand}{b f:Nat}(hs:(P.info? t).map (·.size)=some us.length)(ho:o.op=.store t x y)(hd:o.dst=none)(hgd:Region.wanted o (yielded ops A.tmps)=true)(hx:A.eval x=.pointer (some ⟨b,f,none⟩))(hy:A.eval y=.agg us.toArray)(h1:us.all (·.oneCell')=true)(hb:BoxN w b tb vs)(hf:f+us.length<=vs.length)(h:∀w',w.grownBy w' (some b)->BoxN w' b tb (vs.take f++(us++vs.drop (f+us.length)))->wpList P ops Q rest A w'):wpList P ops Q (o::rest) A w:=
 zQ hgd λ_ hK=>zsn hs ho hx hy h1 hb hf λw' h2 h3=>hK _ _ (by rw[hd];exact h w' h2 h3)
theorem wp_ixP (hP:AsP P t e n sz){x i:Operand}{b off k:Nat}{kk:IntKind}{j:Int}(ho:o.op=.indexAddr t x i)(hx:A.eval x=.pointer (some ⟨b,off,none⟩))(hi:A.eval i=.int kk j)(hj:j=(k:Int))(hk:k<n)(h:K (A.put o.dst (.pointer (some ⟨b,off+k*sz,none⟩))) w):o.wp P A w K Q:=by
 subst hj;refine zcb ?_ h;have hb:=hP.big;simp only[execOp,ho,hx,hi];simp[Instr.indexAt,zr hP.hT,asIntOf,Instr.sureAddr,zaa hP.hs,go_sem,Addr.add,hk];try omega
theorem zer (hP:AsP P t e n sz){x i:Operand}{b off:Nat}(k:Nat){kk:IntKind}{j:Int}(ho:o.op=.indexAddr t x i)(hgd:Region.wanted o (yielded ops A.tmps)=true)(hx:A.eval x=.pointer (some ⟨b,off,none⟩))(hi:A.eval i=.int kk j)(hj:j=(k:Int))(hk:k<n)(h:wpList P ops Q rest (A.put o.dst (.pointer (some ⟨b,off+k*sz,none⟩))) w):wpList P ops Q (o::rest) A w:=
 zQ hgd λ_ hK=>wp_ixP hP ho hx hi hj hk (hK _ _ h)
end
theorem stS7:SgQ Tryz.prog 49 12:=⟨⟨_,Tryz.underlying49⟩,by kernel_rfl⟩
theorem stF7:FdQ Tryz.prog 49 0 0:=⟨_,_,11,Tryz.underlying49,rfl,rfl,by kernel_rfl⟩
theorem spS7:StP Tryz.prog 67 4:=StP.of (by kernel_rfl)
theorem taP:AsP Tryz.prog 47 46 4 3:=⟨by kernel_rfl,⟨_,Tryz.underlying46⟩,by kernel_rfl,by omega,by omega⟩
theorem zm0(w:World)(t:Int):Calls Tryz.prog 50 #[.int .i64 t] w λe w'=>e=.returned (.bool (decide (0<=t)&&decide (t<4)))/\w'=w:=by
 go_enter Tryz.func50,Tryz.ntmps50;cases h1:decide (0<=t)with
 |false=>
  go_wp2_with fail;go_ret;exact⟨rfl,rfl⟩
 |true=>
  cases h2:decide (t<4)with
  |false=>
   go_wp2_with fail;go_ret;exact⟨rfl,rfl⟩
  |true=>
   go_wp2_with fail;go_ret;exact⟨rfl,rfl⟩
theorem zin(w:World)(w0:Wr)(a a2:Option Addr)(c c2:Nat)(s:Int):Calls Tryz.prog 52 #[.agg #[.int .i64 w0.table,.slice a w0.key.length c,.bool w0.gone,.slice a2 w0.val.length c2],.int .i64 s] w λe w'=>e=.returned (.agg #[.int .i64 s,.bool w0.gone,.slice a2 w0.val.length c2])/\Below w.heap.size w w':=by
 go_enter Tryz.func52,Tryz.ntmps52;obtain⟨W,hW⟩:∃W,W=(w.alloc (.cells #[.int .i64 w0.table,.slice a w0.key.length c,.bool w0.gone,.slice a2 w0.val.length c2] 62)).alloc (.cells #[.int .i64 s,.bool w0.gone,.slice a2 w0.val.length c2] 100):=⟨_,rfl⟩;have q:Below w.heap.size w W:=by rw[hW];exact((ze _ _).alloc (zf _) _).alloc (by simp) _
 have bn:TriV W (w.heap.size+1) 100 (.int .i64 s) (.bool w0.gone) (.slice a2 w0.val.length c2):=by
  rw[hW];have:=TriV.new (w.alloc (.cells #[.int .i64 w0.table,.slice a w0.key.length c,.bool w0.gone,.slice a2 w0.val.length c2] 62)) 100 (.int .i64 s) (.bool w0.gone) (.slice a2 w0.val.length c2);rwa[yG]at this
 have d0:=bn.cell0;have d1:=bn.cell1;have d2:=bn.cell2;obtain⟨fs,hu,_,_⟩:=verS.hu;go_wp2;rw[<-hW];clear hW;refine zD (v:=.agg #[.int .i64 s,.bool w0.gone,.slice a2 w0.val.length c2]) (by simp[results,Tryz.results52,go_sem,loadVar,isAgg,zr hu,zaa verS.hs,loadCellsFrom,Addr.add,d0,d1,d2]) rfl ?_;exact⟨rfl,q⟩
theorem zg8(w:World){S:Nat->Prop}{v:Value}{T:Sto}(hr:RdSt S w v T)(hf:fitS T):Calls Tryz.prog 39 #[v] w λe w'=>e=.returned (.bool (decide (okS T)))/\Below w.heap.size w w':=by
  obtain⟨a,m,c,rfl,hx⟩:=hr;obtain⟨W,hW⟩:∃W,W=w.alloc (.cells #[.slice (a 0) (m 0) (c 0),.slice (a 1) (m 1) (c 1),.slice (a 2) (m 2) (c 2),.slice (a 3) (m 3) (c 3),.slice (a 4) (m 4) (c 4),.slice (a 5) (m 5) (c 5),.slice (a 6) (m 6) (c 6),.slice (a 7) (m 7) (c 7),.slice (a 8) (m 8) (c 8),.slice (a 9) (m 9) (c 9),.slice (a 10) (m 10) (c 10),.slice (a 11) (m 11) (c 11)] 49):=⟨_,rfl⟩;have q:Below w.heap.size w W:=by rw[hW];exact(ze _ _).alloc (zf _) _
  have bn:StB W w.heap.size a m c:=by rw[hW];exact BoxN.new _ _ _
  go_enter Tryz.func39,Tryz.ntmps39;go_upto_region 1 with(fail);rw[<-hW];clear hW;obtain⟨d0,d1,d2,d3,d4,d5,d6,d7,d8,d9,d10,d11⟩:=bn.c12;go_wp2;go_loopw [7](λv wr=>∃i:Nat,v=.int .i64 (i:Int)/\i<=4/\Below w.heap.size w wr/\∀j,j<i->okN (T j)/\(prN (T j)).length<=60) (λv _=>4-toN v);case atStart=>exact⟨0,rfl,by omega,q,λj hj=>by omega⟩
  case round=>
    obtain⟨i,rfl,hi,hb,hA⟩:=hrel;replace hA:=Lib.hid hA;rcases zA i 4 with hl|hl
    · have dl:decide ((i:Int)<4)=true:=by simp;omega
      have hf':=hf i hl;clear d0 d1 d2 d3 d4 d5 d6 d7 d8 d9 d10 d11;rcases(show i=0\/i=1\/i=2\/i=3 by omega)with rfl|rfl|rfl|rfl
      · have rN:RdN S w (.agg #[.slice (a 0) (m 0) (c 0),.slice (a 1) (m 1) (c 1),.slice (a 2) (m 2) (c 2)]) (T 0):=hx 0 (by omega)
        obtain⟨W3,hW3⟩:∃W3,W3=wr.alloc (.cells #[.slice (a 0) (m 0) (c 0),.slice (a 1) (m 1) (c 1),.slice (a 2) (m 2) (c 2)] 46):=⟨_,rfl⟩;have b3:Below wr.heap.size wr W3:=by rw[hW3];exact(ze _ _).alloc (zf _) _
        have bn3:TriV W3 wr.heap.size 46 (.slice (a 0) (m 0) (c 0)) (.slice (a 1) (m 1) (c 1)) (.slice (a 2) (m 2) (c 2)):=by rw[hW3];exact TriV.new _ _ _ _ _
        have hb3:=hb.trans (b3.mono hb.size);have hch:=zdb W3 (rN.below hb3) (by have:=hf'.1;omega);go_upto_region 4 with(first|(refine zcv taP 0 rfl rfl rfl rfl rfl (by omega) rfl ?_)|fail);rw[<-hW3];have e0:=bn3.cell0;have e1:=bn3.cell1;have e2:=bn3.cell2;clear hW3;by_cases hok:okN (T 0)
        · rw[zk hok]at hch
          have hO:=Lib.hid hok;clear hok;go_wp2_with fail;refine hch.mono ?_;rintro e W4 ⟨rfl,hb4⟩;have bn4:=bn3.below hb4 bn3.lt;have e0:=bn4.cell0;have e1:=bn4.cell1;have e2:=bn4.cell2;have hbb:=hb3.trans (hb4.mono hb3.size);have hmn:=zes W4 (rN.below hbb) hf';by_cases hle:(prN (T 0)).length<=60
          · have d2:decide (60<((prN (T 0)).length:Int))=false:=by simp;omega
            have hL:=Lib.hid hle;clear hle;go_wp2_with fail;refine hmn.mono ?_;rintro e W5 ⟨rfl,hb5⟩;go_wp2_with fail;go_roundw;case rel=>
              refine⟨1,by go_num,by omega,hbb.trans (hb5.mono hbb.size),λj hj=>?_⟩;rcases xS.1 hj with h|rfl
              ·exact hA.out j h
              ·exact⟨hO.out,hL.out⟩
            case measure=>simp[toN]
          · have d2:decide (60<((prN (T 0)).length:Int))=true:=by simp;omega
            have H:=Lib.hid (show decide (okS T)=false from zj λh=>hle (h 0 (by omega)).2);clear hle;go_wp2_with fail;refine hmn.mono ?_;rintro e W5 ⟨rfl,hb5⟩;go_wp2_with fail;go_ret;exact⟨by rw[H.out];rfl,hbb.trans (hb5.mono hbb.size)⟩
        · rw[zj hok]at hch
          have H:=Lib.hid (show decide (okS T)=false from zj λh=>hok (h 0 (by omega)).1);clear hok;go_wp2_with fail;refine hch.mono ?_;rintro e W4 ⟨rfl,hb4⟩;go_wp2_with fail;go_ret;exact⟨by rw[H.out];rfl,hb3.trans (hb4.mono hb3.size)⟩
      · have rN:RdN S w (.agg #[.slice (a 3) (m 3) (c 3),.slice (a 4) (m 4) (c 4),.slice (a 5) (m 5) (c 5)]) (T 1):=hx 1 (by omega)
        obtain⟨W3,hW3⟩:∃W3,W3=wr.alloc (.cells #[.slice (a 3) (m 3) (c 3),.slice (a 4) (m 4) (c 4),.slice (a 5) (m 5) (c 5)] 46):=⟨_,rfl⟩;have b3:Below wr.heap.size wr W3:=by rw[hW3];exact(ze _ _).alloc (zf _) _
        have bn3:TriV W3 wr.heap.size 46 (.slice (a 3) (m 3) (c 3)) (.slice (a 4) (m 4) (c 4)) (.slice (a 5) (m 5) (c 5)):=by rw[hW3];exact TriV.new _ _ _ _ _
        have hb3:=hb.trans (b3.mono hb.size);have hch:=zdb W3 (rN.below hb3) (by have:=hf'.1;omega);go_upto_region 4 with(first|(refine zcv taP 1 rfl rfl rfl rfl rfl (by omega) rfl ?_)|fail);rw[<-hW3];have e0:=bn3.cell0;have e1:=bn3.cell1;have e2:=bn3.cell2;clear hW3;by_cases hok:okN (T 1)
        · rw[zk hok]at hch
          have hO:=Lib.hid hok;clear hok;go_wp2_with fail;refine hch.mono ?_;rintro e W4⟨rfl,hb4⟩;have bn4:=bn3.below hb4 bn3.lt;have e0:=bn4.cell0;have e1:=bn4.cell1;have e2:=bn4.cell2;have hbb:=hb3.trans (hb4.mono hb3.size);have hmn:=zes W4 (rN.below hbb) hf';by_cases hle:(prN (T 1)).length<=60
          · have d2:decide (60<((prN (T 1)).length:Int))=false:=by simp;omega
            have hL:=Lib.hid hle;clear hle;go_wp2_with fail;refine hmn.mono ?_;rintro e W5⟨rfl,hb5⟩;go_wp2_with fail;go_roundw;case rel=>
              refine⟨2,by go_num,by omega,hbb.trans (hb5.mono hbb.size),λj hj=>?_⟩;rcases xS.1 hj with h|rfl
              ·exact hA.out j h
              ·exact⟨hO.out,hL.out⟩
            case measure=>simp[toN]
          · have d2:decide (60<((prN (T 1)).length:Int))=true:=by simp;omega
            have H:=Lib.hid (show decide (okS T)=false from zj λh=>hle (h 1 (by omega)).2);clear hle;go_wp2_with fail;refine hmn.mono ?_;rintro e W5⟨rfl,hb5⟩;go_wp2_with fail;go_ret;exact⟨by rw[H.out];rfl,hbb.trans (hb5.mono hbb.size)⟩
        · rw[zj hok]at hch
          have H:=Lib.hid (show decide (okS T)=false from zj λh=>hok (h 1 (by omega)).1);clear hok;go_wp2_with fail;refine hch.mono ?_;rintro e W4⟨rfl,hb4⟩;go_wp2_with fail;go_ret;exact⟨by rw[H.out];rfl,hb3.trans (hb4.mono hb3.size)⟩
      · have rN:RdN S w (.agg #[.slice (a 6) (m 6) (c 6),.slice (a 7) (m 7) (c 7),.slice (a 8) (m 8) (c 8)]) (T 2):=hx 2 (by omega)
        obtain⟨W3,hW3⟩:∃W3,W3=wr.alloc (.cells #[.slice (a 6) (m 6) (c 6),.slice (a 7) (m 7) (c 7),.slice (a 8) (m 8) (c 8)] 46):=⟨_,rfl⟩;have b3:Below wr.heap.size wr W3:=by rw[hW3];exact(ze _ _).alloc (zf _) _
        have bn3:TriV W3 wr.heap.size 46 (.slice (a 6) (m 6) (c 6)) (.slice (a 7) (m 7) (c 7)) (.slice (a 8) (m 8) (c 8)):=by rw[hW3];exact TriV.new _ _ _ _ _
        have hb3:=hb.trans (b3.mono hb.size);have hch:=zdb W3 (rN.below hb3) (by have:=hf'.1;omega);go_upto_region 4 with(first|(refine zcv taP 2 rfl rfl rfl rfl rfl (by omega) rfl ?_)|fail);rw[<-hW3];have e0:=bn3.cell0;have e1:=bn3.cell1;have e2:=bn3.cell2;clear hW3;by_cases hok:okN (T 2)
        · rw[zk hok]at hch
          have hO:=Lib.hid hok;clear hok;go_wp2_with fail;refine hch.mono ?_;rintro e W4⟨rfl,hb4⟩;have bn4:=bn3.below hb4 bn3.lt;have e0:=bn4.cell0;have e1:=bn4.cell1;have e2:=bn4.cell2;have hbb:=hb3.trans (hb4.mono hb3.size);have hmn:=zes W4 (rN.below hbb) hf';by_cases hle:(prN (T 2)).length<=60
          · have d2:decide (60<((prN (T 2)).length:Int))=false:=by simp;omega
            have hL:=Lib.hid hle;clear hle;go_wp2_with fail;refine hmn.mono ?_;rintro e W5⟨rfl,hb5⟩;go_wp2_with fail;go_roundw;case rel=>
              refine⟨3,by go_num,by omega,hbb.trans (hb5.mono hbb.size),λj hj=>?_⟩;rcases xS.1 hj with h|rfl
              ·exact hA.out j h
              ·exact⟨hO.out,hL.out⟩
            case measure=>simp[toN]
          · have d2:decide (60<((prN (T 2)).length:Int))=true:=by simp;omega
            have H:=Lib.hid (show decide (okS T)=false from zj λh=>hle (h 2 (by omega)).2);clear hle;go_wp2_with fail;refine hmn.mono ?_;rintro e W5⟨rfl,hb5⟩;go_wp2_with fail;go_ret;exact⟨by rw[H.out];rfl,hbb.trans (hb5.mono hbb.size)⟩
        · rw[zj hok]at hch
          have H:=Lib.hid (show decide (okS T)=false from zj λh=>hok (h 2 (by omega)).1);clear hok;go_wp2_with fail;refine hch.mono ?_;rintro e W4⟨rfl,hb4⟩;go_wp2_with fail;go_ret;exact⟨by rw[H.out];rfl,hb3.trans (hb4.mono hb3.size)⟩
      · have rN:RdN S w (.agg #[.slice (a 9) (m 9) (c 9),.slice (a 10) (m 10) (c 10),.slice (a 11) (m 11) (c 11)]) (T 3):=hx 3 (by omega)
        obtain⟨W3,hW3⟩:∃W3,W3=wr.alloc (.cells #[.slice (a 9) (m 9) (c 9),.slice (a 10) (m 10) (c 10),.slice (a 11) (m 11) (c 11)] 46):=⟨_,rfl⟩;have b3:Below wr.heap.size wr W3:=by rw[hW3];exact(ze _ _).alloc (zf _) _
        have bn3:TriV W3 wr.heap.size 46 (.slice (a 9) (m 9) (c 9)) (.slice (a 10) (m 10) (c 10)) (.slice (a 11) (m 11) (c 11)):=by rw[hW3];exact TriV.new _ _ _ _ _
        have hb3:=hb.trans (b3.mono hb.size);have hch:=zdb W3 (rN.below hb3) (by have:=hf'.1;omega);go_upto_region 4 with(first|(refine zcv taP 3 rfl rfl rfl rfl rfl (by omega) rfl ?_)|fail);rw[<-hW3];have e0:=bn3.cell0;have e1:=bn3.cell1;have e2:=bn3.cell2;clear hW3;by_cases hok:okN (T 3)
        · rw[zk hok]at hch
          have hO:=Lib.hid hok;clear hok;go_wp2_with fail;refine hch.mono ?_;rintro e W4⟨rfl,hb4⟩;have bn4:=bn3.below hb4 bn3.lt;have e0:=bn4.cell0;have e1:=bn4.cell1;have e2:=bn4.cell2;have hbb:=hb3.trans (hb4.mono hb3.size);have hmn:=zes W4 (rN.below hbb) hf';by_cases hle:(prN (T 3)).length<=60
          · have d2:decide (60<((prN (T 3)).length:Int))=false:=by simp;omega
            have hL:=Lib.hid hle;clear hle;go_wp2_with fail;refine hmn.mono ?_;rintro e W5⟨rfl,hb5⟩;go_wp2_with fail;go_roundw;case rel=>
              refine⟨4,by go_num,by omega,hbb.trans (hb5.mono hbb.size),λj hj=>?_⟩;rcases xS.1 hj with h|rfl
              ·exact hA.out j h
              ·exact⟨hO.out,hL.out⟩
            case measure=>simp[toN]
          · have d2:decide (60<((prN (T 3)).length:Int))=true:=by simp;omega
            have H:=Lib.hid (show decide (okS T)=false from zj λh=>hle (h 3 (by omega)).2);clear hle;go_wp2_with fail;refine hmn.mono ?_;rintro e W5⟨rfl,hb5⟩;go_wp2_with fail;go_ret;exact⟨by rw[H.out];rfl,hbb.trans (hb5.mono hbb.size)⟩
        · rw[zj hok]at hch
          have H:=Lib.hid (show decide (okS T)=false from zj λh=>hok (h 3 (by omega)).1);clear hok;go_wp2_with fail;refine hch.mono ?_;rintro e W4⟨rfl,hb4⟩;go_wp2_with fail;go_ret;exact⟨by rw[H.out];rfl,hb3.trans (hb4.mono hb3.size)⟩
    · obtain rfl:i=4:=by omega
      have H:=Lib.hid (show decide (okS T)=true from zk λj hj=>hA.out j hj);go_wp2_with fail;go_ret;exact⟨by rw[H.out];rfl,hb⟩
def StEnd (w:World)(T:Sto)(e:Ending)(w':World):Prop:=∃v,e=.returned v/\RdSt (λk=>w.heap.size<=k/\k<w'.heap.size) w' v T/\Below w.heap.size w w'
theorem zdd(w:World){S:Nat->Prop}{v:Value}{T:Sto}(hr:RdSt S w v T) (hf:fitS T):Calls Tryz.prog 54 #[v] w (StEnd w T):=by
  obtain⟨a,m,c,rfl,hx⟩:=hr;obtain⟨W,hW⟩:∃W,W=(w.alloc (.cells #[.slice (a 0) (m 0) (c 0),.slice (a 1) (m 1) (c 1),.slice (a 2) (m 2) (c 2),.slice (a 3) (m 3) (c 3),.slice (a 4) (m 4) (c 4),.slice (a 5) (m 5) (c 5),.slice (a 6) (m 6) (c 6),.slice (a 7) (m 7) (c 7),.slice (a 8) (m 8) (c 8),.slice (a 9) (m 9) (c 9),.slice (a 10) (m 10) (c 10),.slice (a 11) (m 11) (c 11)] 49)).alloc (.cells #[.slice none 0 0,.slice none 0 0,.slice none 0 0,.slice none 0 0,.slice none 0 0,.slice none 0 0,.slice none 0 0,.slice none 0 0,.slice none 0 0,.slice none 0 0,.slice none 0 0,.slice none 0 0] 49):=⟨_,rfl⟩;have q:Below w.heap.size w W:=by rw[hW];exact((ze _ _).alloc (zf _) _).alloc (by simp) _
  have bn:StB W w.heap.size a m c:=by rw[hW];exact(BoxN.new _ _ (bxS a m c)).below ((ze _ _).alloc (zf _) _) (by simp)
  have bz:BoxN W (w.heap.size+1) 49 [.slice none 0 0,.slice none 0 0,.slice none 0 0,.slice none 0 0,.slice none 0 0,.slice none 0 0,.slice none 0 0,.slice none 0 0,.slice none 0 0,.slice none 0 0,.slice none 0 0,.slice none 0 0]:=by
    rw[hW];have:=BoxN.new (w.alloc (.cells #[.slice (a 0) (m 0) (c 0),.slice (a 1) (m 1) (c 1),.slice (a 2) (m 2) (c 2),.slice (a 3) (m 3) (c 3),.slice (a 4) (m 4) (c 4),.slice (a 5) (m 5) (c 5),.slice (a 6) (m 6) (c 6),.slice (a 7) (m 7) (c 7),.slice (a 8) (m 8) (c 8),.slice (a 9) (m 9) (c 9),.slice (a 10) (m 10) (c 10),.slice (a 11) (m 11) (c 11)] 49)) 49 [.slice none 0 0,.slice none 0 0,.slice none 0 0,.slice none 0 0,.slice none 0 0,.slice none 0 0,.slice none 0 0,.slice none 0 0,.slice none 0 0,.slice none 0 0,.slice none 0 0,.slice none 0 0];rwa[yG]at this
  go_enter Tryz.func54,Tryz.ntmps54;go_upto_region 1 with(fail);rw[<-hW];clear hW;obtain⟨d0,d1,d2,d3,d4,d5,d6,d7,d8,d9,d10,d11⟩:=bn.c12;go_wp2;go_loopw[7](λv wr=>∃(i:Nat) (a1:Nat->Option Addr) (m1 c1:Nat->Nat),v=.int .i64 (i:Int)/\i<=4/\Below w.heap.size w wr/\StB wr w.heap.size a1 m1 c1/\BoxN wr (w.heap.size+1) 49 [.slice none 0 0,.slice none 0 0,.slice none 0 0,.slice none 0 0,.slice none 0 0,.slice none 0 0,.slice none 0 0,.slice none 0 0,.slice none 0 0,.slice none 0 0,.slice none 0 0,.slice none 0 0]/\∀j,j<i->RdN (λk=>w.heap.size<=k/\k<wr.heap.size/\w.heap.size+2<=k) wr (.agg #[.slice (a1 (3*j)) (m1 (3*j)) (c1 (3*j)),.slice (a1 (3*j+1)) (m1 (3*j+1)) (c1 (3*j+1)),.slice (a1 (3*j+2)) (m1 (3*j+2)) (c1 (3*j+2))]) (T j)) (λv _=>4-toN v)
  case atStart=>exact⟨0,a,m,c,rfl,by omega,q,bn,bz,λj hj=>by omega⟩
  case round=>
    obtain⟨i,a1,m1,c1,rfl,hi,hb,bx,bz,hA⟩:=hrel;replace hA:=Lib.hid hA;clear d0 d1 d2 d3 d4 d5 d6 d7 d8 d9 d10 d11;rcases zA i 4 with hl|hl
    · have dl:decide ((i:Int)<4)=true:=by simp;omega
      have hf':=hf i hl;rcases(show i=0\/i=1\/i=2\/i=3 by omega)with rfl|rfl|rfl|rfl
      · have rN:RdN S w (.agg #[.slice (a 0) (m 0) (c 0),.slice (a 1) (m 1) (c 1),.slice (a 2) (m 2) (c 2)]) (T 0):=hx 0 (by omega)
        obtain⟨W3,hW3⟩:∃W3,W3=wr.alloc (.cells #[.slice (a 0) (m 0) (c 0),.slice (a 1) (m 1) (c 1),.slice (a 2) (m 2) (c 2)] 46):=⟨_,rfl⟩;have b3:Below wr.heap.size wr W3:=by rw[hW3];exact(ze _ _).alloc (zf _) _
        have bn3:TriV W3 wr.heap.size 46 (.slice (a 0) (m 0) (c 0)) (.slice (a 1) (m 1) (c 1)) (.slice (a 2) (m 2) (c 2)):=by rw[hW3];exact TriV.new _ _ _ _ _
        have bx3:StB W3 w.heap.size a1 m1 c1:=bx.below b3 bx.lt;have hb3:=hb.trans (b3.mono hb.size);have hpt:=zfw W3 (rN.below hb3) hf' (RdS.nil (λ_=>False) W3) (by simp) (RdL.nil Elt.ver (λ_=>False) W3) ⟨by simp,λx hx=>by simp at hx⟩;go_upto_region 4 with(first|(refine zcv taP 0 rfl rfl rfl rfl rfl (by omega) rfl ?_)|fail);rw[<-hW3];have e0:=bn3.cell0;have e1:=bn3.cell1;have e2:=bn3.cell2;clear hW3;go_wp2_with fail;refine hpt.mono ?_;rintro e W4 ⟨v4,n4,er,rfl,hp4,hr4,hb4⟩;obtain⟨rfl,rfl⟩:er=1/\n4=T 0:=by
          unfold zjm at hp4;rw[zh (by simp)]at hp4;exact hp4
        clear hp4;have bx4:=bx3.below hb4 bx3.lt;have bz4:=(bz.below b3 bz.lt).below hb4 (bz.below b3 bz.lt).lt;have hs3:=b3.size;have hs4:=hb4.size;have hxl:=bx.lt;have hzl:=bz.lt;have hA4:∀j,j<0->RdN (λk=>w.heap.size<=k/\k<wr.heap.size/\w.heap.size+2<=k) W4 (.agg #[.slice (a1 (3*j)) (m1 (3*j)) (c1 (3*j)),.slice (a1 (3*j+1)) (m1 (3*j+1)) (c1 (3*j+1)),.slice (a1 (3*j+2)) (m1 (3*j+2)) (c1 (3*j+2))]) (T j):=λj hj=>(hA.out j hj).keep λk hk=>(hb4.block k (by omega)).trans (b3.block k hk.2.1)
        have hW4:W3.heap.size<=W4.heap.size:=hb4.size;replace hA4:=Lib.hid hA4;obtain⟨f0,g0,f1,g1,f2,g2,rfl,_,_,_⟩:=id hr4;have hr4':=Lib.hid hr4;clear hr4 e0 e1 e2;have hbb:=hb3.trans (hb4.mono hb3.size);go_wp2_with(first|(refine zer taP 0 rfl rfl rfl rfl rfl (by omega) ?_)|(refine zb2 (us:=[.slice f0 (T 0).keys.length g0,.slice f1 (T 0).chains.length g1,.slice f2 (T 0).kids.length g2]) (by kernel_rfl) rfl rfl rfl rfl rfl rfl bx4 (by show _<=12;simp) (λW5 hg5 bx5=>?_))|fail);go_roundw;case rel=>
          have hb5:Below w.heap.size W4 W5:=⟨hg5.os,hg5.tape,hg5.output,hg5.size,λk hk=>hg5.block k (by omega) (λe=>by injection e with e;omega)⟩;have hk5:∀k,k<W4.heap.size->k≠w.heap.size->W5.heap[k]?=W4.heap[k]?:=λk h1 h2=>hg5.block k h1 (λe=>h2 (by injection e))
          have hs5:=hg5.size;refine⟨1,λj=>if j=0 then f0 else if j=1 then f1 else if j=2 then f2 else a1 j,λj=>if j=0 then(T 0).keys.length else if j=1 then(T 0).chains.length else if j=2 then(T 0).kids.length else m1 j,λj=>if j=0 then g0 else if j=1 then g1 else if j=2 then g2 else c1 j,by go_num,by omega,hbb.trans hb5,bx5,bz4.other hg5 (λe=>by injection e with e;omega),λj hj=>?_⟩;match j,hj with
          |0,_=>exact(hr4'.out.keep λk hk=>hk5 k hk.2 (by omega)).weak λk hk=>⟨by omega,by omega,by omega⟩
          |j+1,hj=>omega
        case measure=>simp[toN]
      · have rN:RdN S w (.agg #[.slice (a 3) (m 3) (c 3),.slice (a 4) (m 4) (c 4),.slice (a 5) (m 5) (c 5)]) (T 1):=hx 1 (by omega)
        obtain⟨W3,hW3⟩:∃W3,W3=wr.alloc (.cells #[.slice (a 3) (m 3) (c 3),.slice (a 4) (m 4) (c 4),.slice (a 5) (m 5) (c 5)] 46):=⟨_,rfl⟩;have b3:Below wr.heap.size wr W3:=by rw[hW3];exact(ze _ _).alloc (zf _) _
        have bn3:TriV W3 wr.heap.size 46 (.slice (a 3) (m 3) (c 3)) (.slice (a 4) (m 4) (c 4)) (.slice (a 5) (m 5) (c 5)):=by rw[hW3];exact TriV.new _ _ _ _ _
        have bx3:StB W3 w.heap.size a1 m1 c1:=bx.below b3 bx.lt;have hb3:=hb.trans (b3.mono hb.size);have hpt:=zfw W3 (rN.below hb3) hf' (RdS.nil (λ_=>False) W3) (by simp) (RdL.nil Elt.ver (λ_=>False) W3) ⟨by simp,λx hx=>by simp at hx⟩;go_upto_region 4 with(first|(refine zcv taP 1 rfl rfl rfl rfl rfl (by omega) rfl ?_)|fail);rw[<-hW3];have e0:=bn3.cell0;have e1:=bn3.cell1;have e2:=bn3.cell2;clear hW3;go_wp2_with fail;refine hpt.mono ?_;rintro e W4 ⟨v4,n4,er,rfl,hp4,hr4,hb4⟩;obtain⟨rfl,rfl⟩:er=1/\n4=T 1:=by
          unfold zjm at hp4;rw[zh (by simp)]at hp4;exact hp4
        clear hp4;have bx4:=bx3.below hb4 bx3.lt;have bz4:=(bz.below b3 bz.lt).below hb4 (bz.below b3 bz.lt).lt;have hs3:=b3.size;have hs4:=hb4.size;have hxl:=bx.lt;have hzl:=bz.lt;have hA4:∀j,j<1->RdN (λk=>w.heap.size<=k/\k<wr.heap.size/\w.heap.size+2<=k) W4 (.agg #[.slice (a1 (3*j)) (m1 (3*j)) (c1 (3*j)),.slice (a1 (3*j+1)) (m1 (3*j+1)) (c1 (3*j+1)),.slice (a1 (3*j+2)) (m1 (3*j+2)) (c1 (3*j+2))]) (T j):=λj hj=>(hA.out j hj).keep λk hk=>(hb4.block k (by omega)).trans (b3.block k hk.2.1)
        have hW4:W3.heap.size<=W4.heap.size:=hb4.size;replace hA4:=Lib.hid hA4;obtain⟨f0,g0,f1,g1,f2,g2,rfl,_,_,_⟩:=id hr4;have hr4':=Lib.hid hr4;clear hr4 e0 e1 e2;have hbb:=hb3.trans (hb4.mono hb3.size);go_wp2_with(first|(refine zer taP 1 rfl rfl rfl rfl rfl (by omega) ?_)|(refine zb2 (us:=[.slice f0 (T 1).keys.length g0,.slice f1 (T 1).chains.length g1,.slice f2 (T 1).kids.length g2]) (by kernel_rfl) rfl rfl rfl rfl rfl rfl bx4 (by show _<=12;simp) (λW5 hg5 bx5=>?_))|fail);go_roundw;case rel=>
          have hb5:Below w.heap.size W4 W5:=⟨hg5.os,hg5.tape,hg5.output,hg5.size,λk hk=>hg5.block k (by omega) (λe=>by injection e with e;omega)⟩;have hk5:∀k,k<W4.heap.size->k≠w.heap.size->W5.heap[k]?=W4.heap[k]?:=λk h1 h2=>hg5.block k h1 (λe=>h2 (by injection e))
          have hs5:=hg5.size;refine⟨2,λj=>if j=3 then f0 else if j=4 then f1 else if j=5 then f2 else a1 j,λj=>if j=3 then(T 1).keys.length else if j=4 then(T 1).chains.length else if j=5 then(T 1).kids.length else m1 j,λj=>if j=3 then g0 else if j=4 then g1 else if j=5 then g2 else c1 j,by go_num,by omega,hbb.trans hb5,bx5,bz4.other hg5 (λe=>by injection e with e;omega),λj hj=>?_⟩;match j,hj with
          |0,_=>exact((hA4.out 0 (by omega)).keep λk hk=>hk5 k (by omega) (by omega)).weak λk hk=>⟨hk.1,by omega,hk.2.2⟩
          |1,_=>exact(hr4'.out.keep λk hk=>hk5 k hk.2 (by omega)).weak λk hk=>⟨by omega,by omega,by omega⟩
          |j+2,hj=>omega
        case measure=>simp[toN]
      · have rN:RdN S w (.agg #[.slice (a 6) (m 6) (c 6),.slice (a 7) (m 7) (c 7),.slice (a 8) (m 8) (c 8)]) (T 2):=hx 2 (by omega)
        obtain⟨W3,hW3⟩:∃W3,W3=wr.alloc (.cells #[.slice (a 6) (m 6) (c 6),.slice (a 7) (m 7) (c 7),.slice (a 8) (m 8) (c 8)] 46):=⟨_,rfl⟩;have b3:Below wr.heap.size wr W3:=by rw[hW3];exact(ze _ _).alloc (zf _) _
        have bn3:TriV W3 wr.heap.size 46 (.slice (a 6) (m 6) (c 6)) (.slice (a 7) (m 7) (c 7)) (.slice (a 8) (m 8) (c 8)):=by rw[hW3];exact TriV.new _ _ _ _ _
        have bx3:StB W3 w.heap.size a1 m1 c1:=bx.below b3 bx.lt;have hb3:=hb.trans (b3.mono hb.size);have hpt:=zfw W3 (rN.below hb3) hf' (RdS.nil (λ_=>False) W3) (by simp) (RdL.nil Elt.ver (λ_=>False) W3) ⟨by simp,λx hx=>by simp at hx⟩;go_upto_region 4 with(first|(refine zcv taP 2 rfl rfl rfl rfl rfl (by omega) rfl ?_)|fail);rw[<-hW3];have e0:=bn3.cell0;have e1:=bn3.cell1;have e2:=bn3.cell2;clear hW3;go_wp2_with fail;refine hpt.mono ?_;rintro e W4⟨v4,n4,er,rfl,hp4,hr4,hb4⟩;obtain⟨rfl,rfl⟩:er=1/\n4=T 2:=by
          unfold zjm at hp4;rw[zh (by simp)]at hp4;exact hp4
        clear hp4;have bx4:=bx3.below hb4 bx3.lt;have bz4:=(bz.below b3 bz.lt).below hb4 (bz.below b3 bz.lt).lt;have hs3:=b3.size;have hs4:=hb4.size;have hxl:=bx.lt;have hzl:=bz.lt;have hA4:∀j,j<2->RdN (λk=>w.heap.size<=k/\k<wr.heap.size/\w.heap.size+2<=k) W4 (.agg #[.slice (a1 (3*j)) (m1 (3*j)) (c1 (3*j)),.slice (a1 (3*j+1)) (m1 (3*j+1)) (c1 (3*j+1)),.slice (a1 (3*j+2)) (m1 (3*j+2)) (c1 (3*j+2))]) (T j):=λj hj=>(hA.out j hj).keep λk hk=>(hb4.block k (by omega)).trans (b3.block k hk.2.1)
        have hW4:W3.heap.size<=W4.heap.size:=hb4.size;replace hA4:=Lib.hid hA4;obtain⟨f0,g0,f1,g1,f2,g2,rfl,_,_,_⟩:=id hr4;have hr4':=Lib.hid hr4;clear hr4 e0 e1 e2;have hbb:=hb3.trans (hb4.mono hb3.size);go_wp2_with(first|(refine zer taP 2 rfl rfl rfl rfl rfl (by omega) ?_)|(refine zb2 (us:=[.slice f0 (T 2).keys.length g0,.slice f1 (T 2).chains.length g1,.slice f2 (T 2).kids.length g2]) (by kernel_rfl) rfl rfl rfl rfl rfl rfl bx4 (by show _<=12;simp) (λW5 hg5 bx5=>?_))|fail);go_roundw;case rel=>
          have hb5:Below w.heap.size W4 W5:=⟨hg5.os,hg5.tape,hg5.output,hg5.size,λk hk=>hg5.block k (by omega) (λe=>by injection e with e;omega)⟩;have hk5:∀k,k<W4.heap.size->k≠w.heap.size->W5.heap[k]?=W4.heap[k]?:=λk h1 h2=>hg5.block k h1 (λe=>h2 (by injection e))
          have hs5:=hg5.size;refine⟨3,λj=>if j=6 then f0 else if j=7 then f1 else if j=8 then f2 else a1 j,λj=>if j=6 then(T 2).keys.length else if j=7 then(T 2).chains.length else if j=8 then(T 2).kids.length else m1 j,λj=>if j=6 then g0 else if j=7 then g1 else if j=8 then g2 else c1 j,by go_num,by omega,hbb.trans hb5,bx5,bz4.other hg5 (λe=>by injection e with e;omega),λj hj=>?_⟩;match j,hj with
          |0,_=>exact((hA4.out 0 (by omega)).keep λk hk=>hk5 k (by omega) (by omega)).weak λk hk=>⟨hk.1,by omega,hk.2.2⟩
          |1,_=>exact((hA4.out 1 (by omega)).keep λk hk=>hk5 k (by omega) (by omega)).weak λk hk=>⟨hk.1,by omega,hk.2.2⟩
          |2,_=>exact(hr4'.out.keep λk hk=>hk5 k hk.2 (by omega)).weak λk hk=>⟨by omega,by omega,by omega⟩
          |j+3,hj=>omega
        case measure=>simp[toN]
      · have rN:RdN S w (.agg #[.slice (a 9) (m 9) (c 9),.slice (a 10) (m 10) (c 10),.slice (a 11) (m 11) (c 11)]) (T 3):=hx 3 (by omega)
        obtain⟨W3,hW3⟩:∃W3,W3=wr.alloc (.cells #[.slice (a 9) (m 9) (c 9),.slice (a 10) (m 10) (c 10),.slice (a 11) (m 11) (c 11)] 46):=⟨_,rfl⟩;have b3:Below wr.heap.size wr W3:=by rw[hW3];exact(ze _ _).alloc (zf _) _
        have bn3:TriV W3 wr.heap.size 46 (.slice (a 9) (m 9) (c 9)) (.slice (a 10) (m 10) (c 10)) (.slice (a 11) (m 11) (c 11)):=by rw[hW3];exact TriV.new _ _ _ _ _
        have bx3:StB W3 w.heap.size a1 m1 c1:=bx.below b3 bx.lt;have hb3:=hb.trans (b3.mono hb.size);have hpt:=zfw W3 (rN.below hb3) hf' (RdS.nil (λ_=>False) W3) (by simp) (RdL.nil Elt.ver (λ_=>False) W3) ⟨by simp,λx hx=>by simp at hx⟩;go_upto_region 4 with(first|(refine zcv taP 3 rfl rfl rfl rfl rfl (by omega) rfl ?_)|fail);rw[<-hW3];have e0:=bn3.cell0;have e1:=bn3.cell1;have e2:=bn3.cell2;clear hW3;go_wp2_with fail;refine hpt.mono ?_;rintro e W4⟨v4,n4,er,rfl,hp4,hr4,hb4⟩;obtain⟨rfl,rfl⟩:er=1/\n4=T 3:=by
          unfold zjm at hp4;rw[zh (by simp)]at hp4;exact hp4
        clear hp4;have bx4:=bx3.below hb4 bx3.lt;have bz4:=(bz.below b3 bz.lt).below hb4 (bz.below b3 bz.lt).lt;have hs3:=b3.size;have hs4:=hb4.size;have hxl:=bx.lt;have hzl:=bz.lt;have hA4:∀j,j<3->RdN (λk=>w.heap.size<=k/\k<wr.heap.size/\w.heap.size+2<=k) W4 (.agg #[.slice (a1 (3*j)) (m1 (3*j)) (c1 (3*j)),.slice (a1 (3*j+1)) (m1 (3*j+1)) (c1 (3*j+1)),.slice (a1 (3*j+2)) (m1 (3*j+2)) (c1 (3*j+2))]) (T j):=λj hj=>(hA.out j hj).keep λk hk=>(hb4.block k (by omega)).trans (b3.block k hk.2.1)
        have hW4:W3.heap.size<=W4.heap.size:=hb4.size;replace hA4:=Lib.hid hA4;obtain⟨f0,g0,f1,g1,f2,g2,rfl,_,_,_⟩:=id hr4;have hr4':=Lib.hid hr4;clear hr4 e0 e1 e2;have hbb:=hb3.trans (hb4.mono hb3.size);go_wp2_with(first|(refine zer taP 3 rfl rfl rfl rfl rfl (by omega) ?_)|(refine zb2 (us:=[.slice f0 (T 3).keys.length g0,.slice f1 (T 3).chains.length g1,.slice f2 (T 3).kids.length g2]) (by kernel_rfl) rfl rfl rfl rfl rfl rfl bx4 (by show _<=12;simp) (λW5 hg5 bx5=>?_))|fail);go_roundw;case rel=>
          have hb5:Below w.heap.size W4 W5:=⟨hg5.os,hg5.tape,hg5.output,hg5.size,λk hk=>hg5.block k (by omega) (λe=>by injection e with e;omega)⟩;have hk5:∀k,k<W4.heap.size->k≠w.heap.size->W5.heap[k]?=W4.heap[k]?:=λk h1 h2=>hg5.block k h1 (λe=>h2 (by injection e))
          have hs5:=hg5.size;refine⟨4,λj=>if j=9 then f0 else if j=10 then f1 else if j=11 then f2 else a1 j,λj=>if j=9 then(T 3).keys.length else if j=10 then(T 3).chains.length else if j=11 then(T 3).kids.length else m1 j,λj=>if j=9 then g0 else if j=10 then g1 else if j=11 then g2 else c1 j,by go_num,by omega,hbb.trans hb5,bx5,bz4.other hg5 (λe=>by injection e with e;omega),λj hj=>?_⟩;match j,hj with
          |0,_=>exact((hA4.out 0 (by omega)).keep λk hk=>hk5 k (by omega) (by omega)).weak λk hk=>⟨hk.1,by omega,hk.2.2⟩
          |1,_=>exact((hA4.out 1 (by omega)).keep λk hk=>hk5 k (by omega) (by omega)).weak λk hk=>⟨hk.1,by omega,hk.2.2⟩
          |2,_=>exact((hA4.out 2 (by omega)).keep λk hk=>hk5 k (by omega) (by omega)).weak λk hk=>⟨hk.1,by omega,hk.2.2⟩
          |3,_=>exact(hr4'.out.keep λk hk=>hk5 k hk.2 (by omega)).weak λk hk=>⟨by omega,by omega,by omega⟩
          |j+4,hj=>omega
        case measure=>simp[toN]
    · obtain rfl:i=4:=by omega
      have hs:=hb.size;obtain⟨d0,d1,d2,d3,d4,d5,d6,d7,d8,d9,d10,d11⟩:=bx.c12;go_wp2_with(first|(refine zb2 (us:=[.slice (a1 0) (m1 0) (c1 0),.slice (a1 1) (m1 1) (c1 1),.slice (a1 2) (m1 2) (c1 2),.slice (a1 3) (m1 3) (c1 3),.slice (a1 4) (m1 4) (c1 4),.slice (a1 5) (m1 5) (c1 5),.slice (a1 6) (m1 6) (c1 6),.slice (a1 7) (m1 7) (c1 7),.slice (a1 8) (m1 8) (c1 8),.slice (a1 9) (m1 9) (c1 9),.slice (a1 10) (m1 10) (c1 10),.slice (a1 11) (m1 11) (c1 11)]) (by kernel_rfl) rfl rfl rfl rfl rfl rfl bz (by show _<=12;simp) (λW5 hg5 bx5=>?_))|fail);have hb5:Below w.heap.size wr W5:=⟨hg5.os,hg5.tape,hg5.output,hg5.size,λk hk=>hg5.block k (by omega) (λe=>by injection e with e;omega)⟩;have bx6:StB W5 (w.heap.size+1) a1 m1 c1:=bx5;have hb6:=hb.trans hb5;clear bx5 bx bn;clear d0;clear d1;clear d2;clear d3;clear d4;clear d5;clear d6;clear d7;clear d8;clear d9;clear d10;clear d11;obtain⟨d0,d1,d2,d3,d4,d5,d6,d7,d8,d9,d10,d11⟩:=bx6.c12;refine zD (v:=.agg #[.slice (a1 0) (m1 0) (c1 0),.slice (a1 1) (m1 1) (c1 1),.slice (a1 2) (m1 2) (c1 2),.slice (a1 3) (m1 3) (c1 3),.slice (a1 4) (m1 4) (c1 4),.slice (a1 5) (m1 5) (c1 5),.slice (a1 6) (m1 6) (c1 6),.slice (a1 7) (m1 7) (c1 7),.slice (a1 8) (m1 8) (c1 8),.slice (a1 9) (m1 9) (c1 9),.slice (a1 10) (m1 10) (c1 10),.slice (a1 11) (m1 11) (c1 11)]) (by simp[results,Tryz.results54,go_sem,loadVar,isAgg,zr Tryz.underlying49,zaa (show(Tryz.prog.info? 49).map (·.size)=some 12 by kernel_rfl),loadCellsFrom,Addr.add,d0,d1,d2,d3,d4,d5,d6,d7,d8,d9,d10,d11]) rfl ?_;refine⟨_,rfl,⟨a1,m1,c1,rfl,λj hj=>?_⟩,hb6⟩;exact((hA.out j hj).keep λk hk=>hg5.block k hk.2.1 (λe=>by injection e with e;have:=hk.2.2;omega)).weak λk hk=>⟨hk.1,zm hk.2.1 hg5.size⟩
def ze4(T:Sto)(t:Int):Nd:=if 0<=t/\t<4/\okS T then T t.toNat else .mk [] [] []
theorem zc4:StP Tryz.prog 46 3:=StP.of (by kernel_rfl)
theorem ziv (S:Nat->Prop)(w:World):RdN S w (.agg #[.slice none 0 0,.slice none 0 0,.slice none 0 0]) (.mk [] [] []):=⟨none,0,none,0,none,0,rfl,RdL.nil _ _ _,RdL.nil _ _ _,RdL.nil _ _ _⟩
theorem zoe:prN (.mk [] [] [])=[]:=by
 unfold prN;split<;>rfl
theorem zur:fitN (.mk [] [] []):=⟨by decide,(zf7 _).2 ⟨λ_ h=>(by cases h),λ_ h=>(by cases h),λ_ h=>(by cases h)⟩⟩
theorem ztm (T:Sto)(t:Int):prN (ze4 T t)=zcp T t:=by
 unfold ze4 zcp;split;·rfl
 ·exact zoe
theorem zk5{T:Sto}(hf:fitS T)(t:Int):fitN (ze4 T t):=by
 unfold ze4;split
 ·exact hf _ (by omega)
 ·exact zur
def NdIs(S:Nat->Prop)(w:World)(n:Nd)(e:Ending)(w':World):Prop:=∃u,e=.returned u/\RdN S w' u n/\Below w.heap.size w w'
theorem zj2(w:World){S:Nat->Prop}{v:Value}{T:Sto}{t:Int}(hr:RdSt S w v T) (hf:fitS T):Calls Tryz.prog 131 #[v,.int .i64 t] w (NdIs S w (ze4 T t)):=by
  have hr0:=hr;obtain⟨a,m,c,rfl,hx⟩:=hr;obtain⟨W,hW⟩:∃W,W=(w.alloc (.cells #[.slice (a 0) (m 0) (c 0),.slice (a 1) (m 1) (c 1),.slice (a 2) (m 2) (c 2),.slice (a 3) (m 3) (c 3),.slice (a 4) (m 4) (c 4),.slice (a 5) (m 5) (c 5),.slice (a 6) (m 6) (c 6),.slice (a 7) (m 7) (c 7),.slice (a 8) (m 8) (c 8),.slice (a 9) (m 9) (c 9),.slice (a 10) (m 10) (c 10),.slice (a 11) (m 11) (c 11)] 49)).alloc (.cells #[.slice none 0 0,.slice none 0 0,.slice none 0 0] 46):=⟨_,rfl⟩;have q:Below w.heap.size w W:=by rw[hW];exact((ze _ _).alloc (zf _) _).alloc (by simp) _
  have bn:StB W w.heap.size a m c:=by rw[hW];exact(BoxN.new _ _ (bxS a m c)).below ((ze _ _).alloc (zf _) _) (by simp)
  have bz:TriV W (w.heap.size+1) 46 (.slice none 0 0) (.slice none 0 0) (.slice none 0 0):=by
    rw[hW];have:=TriV.new (w.alloc (.cells #[.slice (a 0) (m 0) (c 0),.slice (a 1) (m 1) (c 1),.slice (a 2) (m 2) (c 2),.slice (a 3) (m 3) (c 3),.slice (a 4) (m 4) (c 4),.slice (a 5) (m 5) (c 5),.slice (a 6) (m 6) (c 6),.slice (a 7) (m 7) (c 7),.slice (a 8) (m 8) (c 8),.slice (a 9) (m 9) (c 9),.slice (a 10) (m 10) (c 10),.slice (a 11) (m 11) (c 11)] 49)) 46 (.slice none 0 0) (.slice none 0 0) (.slice none 0 0);rwa[yG]at this
  go_enter Tryz.func131,Tryz.ntmps131;go_upto_region 1 with(fail);rw[<-hW];clear hW;have hkn:=zm0 W t;by_cases hk:0<=t/\t<4
  · rw[zk hk.1,zk hk.2]at hkn
    have hch:=zg8 W (hr0.below q) hf;obtain⟨d0,d1,d2,d3,d4,d5,d6,d7,d8,d9,d10,d11⟩:=bn.c12;go_wp2_with fail;refine hkn.mono ?_;rintro e _⟨rfl,rfl⟩;by_cases hok:okS T
    · rw[zk hok]at hch
      have H:=Lib.hid (show ze4 T t=T t.toNat from by unfold ze4;rw[zi ⟨hk.1,hk.2,hok⟩]);clear hok;go_wp2_with fail;refine hch.mono ?_;rintro e W4 ⟨rfl,hc4⟩;have bn4:StB W4 w.heap.size a m c:=bn.below hc4 bn.lt;have bz4:=bz.below hc4 bz.lt;have hb4:=q.trans (hc4.mono q.size);clear d0 d1 d2 d3 d4 d5 d6 d7 d8 d9 d10 d11;obtain⟨d0,d1,d2,d3,d4,d5,d6,d7,d8,d9,d10,d11⟩:=bn4.c12;obtain⟨h1,h2⟩:=hk;rcases(show t=0\/t=1\/t=2\/t=3 by omega)with rfl|rfl|rfl|rfl
      · have rN:RdN S w (.agg #[.slice (a 0) (m 0) (c 0),.slice (a 1) (m 1) (c 1),.slice (a 2) (m 2) (c 2)]) (T 0):=hx 0 (by omega)
        go_wp2_with(first|(refine za7 (by kernel_rfl) rfl rfl rfl rfl rfl rfl rfl rfl bz4 (λW5 hg5 bz5=>?_))|fail);have hb5:Below w.heap.size w W5:=hb4.trans ⟨hg5.os,hg5.tape,hg5.output,hg5.size,λk hk=>hg5.block k (by have:=hb4.size;omega) (λe=>by injection e with e;omega)⟩;have g0:=bz5.cell0;have g1:=bz5.cell1;have g2:=bz5.cell2;obtain⟨fs,hu,_,_⟩:=zc4.hu;refine zD (v:=.agg #[.slice (a 0) (m 0) (c 0),.slice (a 1) (m 1) (c 1),.slice (a 2) (m 2) (c 2)]) (by simp[results,Tryz.results131,go_sem,loadVar,isAgg,zr hu,zaa zc4.hs,loadCellsFrom,Addr.add,g0,g1,g2]) rfl ?_;refine⟨_,rfl,?_,hb5⟩;rw[H.out];exact rN.below hb5
      · have rN:RdN S w (.agg #[.slice (a 3) (m 3) (c 3),.slice (a 4) (m 4) (c 4),.slice (a 5) (m 5) (c 5)]) (T 1):=hx 1 (by omega)
        go_wp2_with(first|(refine za7 (by kernel_rfl) rfl rfl rfl rfl rfl rfl rfl rfl bz4 (λW5 hg5 bz5=>?_))|fail);have hb5:Below w.heap.size w W5:=hb4.trans ⟨hg5.os,hg5.tape,hg5.output,hg5.size,λk hk=>hg5.block k (by have:=hb4.size;omega) (λe=>by injection e with e;omega)⟩;have g0:=bz5.cell0;have g1:=bz5.cell1;have g2:=bz5.cell2;obtain⟨fs,hu,_,_⟩:=zc4.hu;refine zD (v:=.agg #[.slice (a 3) (m 3) (c 3),.slice (a 4) (m 4) (c 4),.slice (a 5) (m 5) (c 5)]) (by simp[results,Tryz.results131,go_sem,loadVar,isAgg,zr hu,zaa zc4.hs,loadCellsFrom,Addr.add,g0,g1,g2]) rfl ?_;refine⟨_,rfl,?_,hb5⟩;rw[H.out];exact rN.below hb5
      · have rN:RdN S w (.agg #[.slice (a 6) (m 6) (c 6),.slice (a 7) (m 7) (c 7),.slice (a 8) (m 8) (c 8)]) (T 2):=hx 2 (by omega)
        go_wp2_with(first|(refine za7 (by kernel_rfl) rfl rfl rfl rfl rfl rfl rfl rfl bz4 (λW5 hg5 bz5=>?_))|fail);have hb5:Below w.heap.size w W5:=hb4.trans ⟨hg5.os,hg5.tape,hg5.output,hg5.size,λk hk=>hg5.block k (by have:=hb4.size;omega) (λe=>by injection e with e;omega)⟩;have g0:=bz5.cell0;have g1:=bz5.cell1;have g2:=bz5.cell2;obtain⟨fs,hu,_,_⟩:=zc4.hu;refine zD (v:=.agg #[.slice (a 6) (m 6) (c 6),.slice (a 7) (m 7) (c 7),.slice (a 8) (m 8) (c 8)]) (by simp[results,Tryz.results131,go_sem,loadVar,isAgg,zr hu,zaa zc4.hs,loadCellsFrom,Addr.add,g0,g1,g2]) rfl ?_;refine⟨_,rfl,?_,hb5⟩;rw[H.out];exact rN.below hb5
      · have rN:RdN S w (.agg #[.slice (a 9) (m 9) (c 9),.slice (a 10) (m 10) (c 10),.slice (a 11) (m 11) (c 11)]) (T 3):=hx 3 (by omega)
        go_wp2_with(first|(refine za7 (by kernel_rfl) rfl rfl rfl rfl rfl rfl rfl rfl bz4 (λW5 hg5 bz5=>?_))|fail);have hb5:Below w.heap.size w W5:=hb4.trans ⟨hg5.os,hg5.tape,hg5.output,hg5.size,λk hk=>hg5.block k (by have:=hb4.size;omega) (λe=>by injection e with e;omega)⟩;have g0:=bz5.cell0;have g1:=bz5.cell1;have g2:=bz5.cell2;obtain⟨fs,hu,_,_⟩:=zc4.hu;refine zD (v:=.agg #[.slice (a 9) (m 9) (c 9),.slice (a 10) (m 10) (c 10),.slice (a 11) (m 11) (c 11)]) (by simp[results,Tryz.results131,go_sem,loadVar,isAgg,zr hu,zaa zc4.hs,loadCellsFrom,Addr.add,g0,g1,g2]) rfl ?_;refine⟨_,rfl,?_,hb5⟩;rw[H.out];exact rN.below hb5
    · rw[zj hok]at hch
      have H:=Lib.hid (show ze4 T t=.mk [] [] []from by unfold ze4;rw[zh (λh=>hok h.2.2)]);clear hok;go_wp2_with fail;refine hch.mono ?_;rintro e W4 ⟨rfl,hc4⟩;have bz4:=bz.below hc4 bz.lt;have hb4:=q.trans (hc4.mono q.size);go_wp2_with(first|(refine za7 (by kernel_rfl) rfl rfl rfl rfl rfl rfl rfl rfl bz4 (λW5 hg5 bz5=>?_))|fail);have hb5:Below w.heap.size w W5:=hb4.trans ⟨hg5.os,hg5.tape,hg5.output,hg5.size,λk hk=>hg5.block k (by have:=hb4.size;omega) (λe=>by injection e with e;omega)⟩;have g0:=bz5.cell0;have g1:=bz5.cell1;have g2:=bz5.cell2;obtain⟨fs,hu,_,_⟩:=zc4.hu;refine zD (v:=.agg #[.slice none 0 0,.slice none 0 0,.slice none 0 0]) (by simp[results,Tryz.results131,go_sem,loadVar,isAgg,zr hu,zaa zc4.hs,loadCellsFrom,Addr.add,g0,g1,g2]) rfl ?_;refine⟨_,rfl,?_,hb5⟩;rw[H.out];exact ziv _ _
  · have hn:(decide (0<=t)&&decide (t<4))=false:=by
      rcases Classical.em (0<=t)with h|h
      · rw[zk h,zj (λh2=>hk ⟨h,h2⟩)];rfl
      · rw[zj h];rfl
    rw[hn]at hkn;have H:=Lib.hid (show ze4 T t=.mk [] [] []from by unfold ze4;rw[zh (λh=>hk ⟨h.1,h.2.1⟩)]);clear hk hn;go_wp2_with fail;refine hkn.mono ?_;rintro e _ ⟨rfl,rfl⟩;go_wp2_with(first|(refine za7 (by kernel_rfl) rfl rfl rfl rfl rfl rfl rfl rfl bz (λW5 hg5 bz5=>?_))|fail);have hb5:Below w.heap.size w W5:=q.trans ⟨hg5.os,hg5.tape,hg5.output,hg5.size,λk hk=>hg5.block k (by have:=q.size;omega) (λe=>by injection e with e;omega)⟩;have g0:=bz5.cell0;have g1:=bz5.cell1;have g2:=bz5.cell2;obtain⟨fs,hu,_,_⟩:=zc4.hu;refine zD (v:=.agg #[.slice none 0 0,.slice none 0 0,.slice none 0 0]) (by simp[results,Tryz.results131,go_sem,loadVar,isAgg,zr hu,zaa zc4.hs,loadCellsFrom,Addr.add,g0,g1,g2]) rfl ?_;refine⟨_,rfl,?_,hb5⟩;rw[H.out];exact ziv _ _
theorem zjj:∀(d:Nat){n:Nd}{lo hi:Nat},Wf d lo hi n->bndN n->∀p∈zac n,zb9 p.chain
  |0,_,_,_,h,_=>h.elim
  |d+1,n,_,_,h,hb=>by
    obtain⟨_,h2,h3⟩:=(zf7 n).1 hb;have hs:=h.shape;obtain⟨hc,_,_,hk⟩:=h;refine(zfp hc hs.2).2 ⟨λp hp=>?_,λm hm=>?_⟩
    · obtain⟨i,hi,rfl⟩:=yy.1 hp
      have hi':i<n.keys.length:=by rw[zbt hc]at hi;exact hi
      have e:=zfd hc hi';rw[zB hi]at e;rw[yn e];exact h2 _ (zL _)
    · rcases hk with⟨_,h0⟩|⟨_,_,h4⟩
      · rw[h0]at hm;cases hm
      ·exact zjj d (h4 m hm) (h3 m hm)
theorem zgn (w:World){S S2:Nat->Prop}{v:Value}{n:Nd}{a:Option Addr}{m c:Nat}{k:List UInt8}(hr:RdN S w v n)(hf:fitN n)(hk:RdS S2 w (.slice a m c) k):Calls Tryz.prog 86 #[v,.slice a m c] w (zls w (zaw (prN n) k)):=by
  have hr0:=hr;obtain⟨a1,c1,a2,c2,a3,c3,rfl,_,_,_⟩:=hr;have q:Below w.heap.size w (w.alloc (.cells #[.slice a1 n.keys.length c1,.slice a2 n.chains.length c2,.slice a3 n.kids.length c3] 46)):=(ze _ _).alloc (zf _) _;have bn:=TriV.new w 46 (.slice a1 n.keys.length c1) (.slice a2 n.chains.length c2) (.slice a3 n.kids.length c3);obtain⟨W,hW⟩:∃W,W=w.alloc (.cells #[.slice a1 n.keys.length c1,.slice a2 n.chains.length c2,.slice a3 n.kids.length c3] 46):=⟨_,rfl⟩;rw[<-hW]at q bn;have hwn:wN n<=1000000:=by have:=hf.1;omega
  have hch:=zdb W (hr0.below q) hwn;have tn0:=bn.cell0;have tn1:=bn.cell1;have tn2:=bn.cell2;by_cases hok:okN n
  · obtain⟨d,hpn⟩:=ok_pn hok
    rw[zk hok]at hch;have hfd:=λ(W':World) (hb:Below W.heap.size W W')=>find_any W' ((hr0.below q).below hb) hpn ((hk.below q).below hb)
    have hsm:zb9 ((zaw (zac n) k).getD []):=by
      cases hfp:zaw (zac n) k with
      |none=>exact⟨by simp,λx hx=>by simp at hx⟩
      |some l=>
        obtain⟨p,hp,_,rfl⟩:=zde hfp;exact zjj d hpn.wf hf.2 p hp
    have hpr:prN n=zac n:=by unfold prN;rw[zi hok]
    rw[hpr];generalize zaw (zac n) k=fo at hfd hsm⊢;replace hpr:=Lib.hid hpr;clear hr0;go_enter Tryz.func86,Tryz.ntmps86;go_upto_region 1 with(fail);rw[<-hW];clear hW;go_wp2_with fail;refine hch.mono ?_;rintro e W1⟨rfl,hb1⟩;have bn1:=bn.below hb1 bn.lt;have hf1:=hfd W1 hb1;clear tn0 tn1 tn2 hch hfd;have tn0:=bn1.cell0;have tn1:=bn1.cell1;have tn2:=bn1.cell2;go_wp2_with fail;refine hf1.mono ?_;rintro e W2⟨⟨ga,gc,rfl,hrl⟩,hb2⟩;have hve:=zfk W2 (hrl.below hb2) hsm;clear tn0 tn1 tn2 hf1 bn1;go_wp2_with fail;refine hve.mono ?_;rintro e W3⟨va,vc,rfl,hnew,hb3⟩;have q2:=(q.trans (hb1.mono q.size)).trans (hb2.mono (q.trans (hb1.mono q.size)).size);go_wp2_with fail;go_ret2;exact⟨va,vc,rfl,hnew.weak λg hg=>⟨zv q2.size hg.1,hg.2⟩,q2.trans (hb3.mono q2.size)⟩
  · rw[zj hok]at hch
    have hpr:zaw (prN n) k=none:=by unfold prN;rw[zh hok];rfl
    rw[hpr];replace hpr:=Lib.hid hpr;go_enter Tryz.func86,Tryz.ntmps86;go_upto_region 1 with(fail);rw[<-hW];clear hW;go_wp2_with fail;refine hch.mono ?_;rintro e W1⟨rfl,hb1⟩;go_wp2_with fail;go_ret2;exact⟨none,0,rfl,RdL.nil _ _ _,q.trans (hb1.mono q.size)⟩
theorem zgk{P:Program}{α:Type}{g:Operand}{ps:Array Tmp}{assign body:Code}{Q:Exit->Act->World->Prop}{a:Act}{w:World}{gf:Nat}{lb:Array Value}(hg:a.eval g=.func (.func gf) #[] lb) (eg:∀args w,(callFunc gf args).run P w=.ok (.enter gf args) w)
  {encs:α->Array Value}{Kp:World->World->Prop}{S Sp:List α->Prop}{N:Nat}{w0:World}(hseq:SeqStopsK Fence.wide 2 P gf lb encs Kp S Sp N w0)
  (hKt:∀{A B C:World},Kp A B->Kp B C->Kp A C) (hKb:∀(W:World) (l:Nat) (o o':Obj),w.heap.size<=l->W.heap[l]?=some o->o.isCells=false->o.isWalk=false->Kp W (W.putObj l o'))(hb0:Below w0.heap.size w0 w)(hps:∀x,(encs x).size=ps.size)
  (I:List α->World->Prop)(Ix:Code->List α->World->Prop)(hI:OwnFrom w.heap.size I)(hIx:∀c,OwnFrom w.heap.size (Ix c))(h0:I [] w)(Ax:α->Act->World->Prop)(hAx:∀x a',OwnFrom w.heap.size (λ(_:Unit) W=>Ax x a' W))
  (hassign:∀(l:Nat)(pre:List α)(x:α)(W:World)(K:Act->World->Prop),I pre W->(∀a' W',KeepsFrom w.heap.size W W'->Kp W W'->I pre W'->Ax x a' W'->K a' W')->assign.wpIn (Fence.wide.inRound l) 1 P (Exit.then K (λ_ _ _=>False)) {tmps:=(ps.zip (encs x)).foldl (λt (p,v)=>t.setIfInBounds p v) a.tmps,defers:=[]} W)
  (hbody:∀(l:Nat)(pre:List α)(x:α)(a':Act)(W:World),I pre W->Ax x a' W->pre.length<N->body.wpIn (Fence.wide.inRound l) 1 P (ownPostG w.heap.size Kp I Ix (pre++[x]) W) a' W)
  (hdone:∀(D:Nat)(xs:List α)(W:World),w.heap.size<=D->S xs->I xs W->W.heap[D]?=some (.deferred (some []))->Q .normal {a with defers:={target:=.collected D,args:=#[]}::a.defers} W)
  (hstop:∀(D:Nat)(c:Code)(pre:List α)(W:World),w.heap.size<=D->Sp pre->Ix c pre W->W.heap[D]?=some (.deferred (some []))->c.wp P Q {a with defers:={target:=.collected D,args:=#[]}::a.defers} W):
  (Code.rangeFunc g ps assign body).wp P Q a w:=
 (yS (n:=3)).1 (wpIn_rangeFunc_ownH rfl (by omega) hg trivial eg hseq hKt hKb hb0 hps I Ix hI hIx h0 Ax hAx hassign (λl pre x a' W _ _ h1 h2 h3=>hbody l pre x a' W h1 h2 h3) hdone λD c pre W h1 h2 h3 h4=>yS.2 (hstop D c pre W h1 h2 h3 h4))
theorem zen{β:Type}{N b:Nat}{t:TypeId}{vs:List Value}:OwnFrom N (λ(_:β) W=>BoxN W b t vs):=λ_ X _ _ hs hg hr=>
 hs.other hg λe=>by
  obtain⟨_,o,ho,hc⟩:=hr _ e;rw[show X.heap[b]?=_ from hs]at ho;cases ho;cases hc
theorem zhl{β:Type}{n₀ N:Nat}{w₀:World}(h1:n₀<=w₀.heap.size)(h2:n₀<=N):OwnFrom N (λ(_:β)W=>Below n₀ w₀ W):=λ_ _ _ _ hs hg hr=>
 hs.grown hg (zv h1 hs.size) λk e=>zv h2 (hr k e).1
section
variable {P : Program} {t : TypeId} {ops : Array Oper} {rest : List Oper} {o : Oper} {a : Act} {Q : Exit → Act → World → Prop} {w : World} {l n : Nat}
theorem zka{vs:List Value}(hz:(P.info? t).bind (·.zero)=some (.agg vs.toArray))(ho:o.op=.alloc t)(hgd:Region.wanted o (yielded ops a.tmps)=true)(h:∀w',Below w.heap.size w w'->BoxN w' w.heap.size t vs->wpListIn (Fence.wide.inRound l) n P ops Q rest (a.put o.dst (.pointer (some ⟨w.heap.size,0,none⟩))) w'):wpListIn (Fence.wide.inRound l) n P ops Q (o::rest) a w:=
 BigFrame.wpListIn_want hgd λK hK=>zg4 (K:=K) (by rw[ho];intro c h;cases h) (λ_ _ h=>h) (zgl hz ho λw' h1 h2=>hK _ _ (h w' h1 h2))
theorem zfs{vs us:List Value}{x y:Operand}{b:Nat}(hs:(P.info? t).map (·.size)=some us.length)(ho:o.op=.store t x y)(hd:o.dst=none)(hgd:Region.wanted o (yielded ops a.tmps)=true)(hx:a.eval x=.pointer (some ⟨b,0,none⟩))(hy:a.eval y=.agg us.toArray)(h1:us.all (·.oneCell')=true)(hb:BoxN w b t vs)(hl:vs.length=us.length)(h:∀w',w.grownBy w' (some b)->BoxN w' b t us->wpListIn (Fence.wide.inRound l) n P ops Q rest a w'):wpListIn (Fence.wide.inRound l) n P ops Q (o::rest) a w:=
 BigFrame.wpListIn_want hgd λK hK=>zg4 (K:=K) (by rw[ho];intro c h;cases h) (λ_ _ h=>h) (za3 hs ho hx hy h1 hb hl λw' h3 h4=>hK _ _ (by rw[hd];exact h w' h3 h4))
theorem zr7 {t2:TypeId}{vs:List Value}{x y:Operand}{b j:Nat}{u:Value}(ho:o.op=.store t2 x y)(hd:o.dst=none)(hgd:Region.wanted o (yielded ops a.tmps)=true)(hs:(P.info? t2).map (·.size)=some 1)(hx:a.eval x=.pointer (some ⟨b,j,none⟩))(hy:a.eval y=u)(hu:u.cells=#[u])(h1:u.oneCell'=true)(hb:BoxN w b t vs)(hj:j<vs.length)(h:∀w',w.grownBy w' (some b)->BoxN w' b t (vs.set j u)->wpListIn (Fence.wide.inRound l) n P ops Q rest a w'):wpListIn (Fence.wide.inRound l) n P ops Q (o::rest) a w:=
 BigFrame.wpListIn_want hgd λK hK=>zg4 (K:=K) (by rw[ho];intro c h;cases h) (λ_ _ h=>h) (zeq ho hs hx hy hu h1 hb hj λw' h3 h4=>hK _ _ (by rw[hd];exact h w' h3 h4))
end
end Go.Proofs.YtkobhdllagbkhaaGreat
