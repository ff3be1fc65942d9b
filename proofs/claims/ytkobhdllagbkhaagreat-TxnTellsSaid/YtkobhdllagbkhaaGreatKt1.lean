/-
  TEXTS OF ONE PROOF, merged: Byte, Soft, Guard, Ops, Row, Ope, Fld, Dlt, DltU, Spn.
-/
import Derived.Below
import Derived.BigFrame
import Derived.ChangeAlike
import Derived.ChangeSame
import Derived.ChangeSlices
import Derived.Deep.AppendSrc
import Derived.Deep.Cut
import Derived.Deep.Draws
import Derived.Deep.Matrix
import Derived.Deep.Slices
import Derived.Deep.Strs
import Derived.Deep.Upon
import Derived.IntWalk
import Derived.Laws.AppendOwnNone
import Derived.Laws.Cells
import Derived.Laws.CopyRow
import Derived.Laws.Externs
import Derived.Laws.MakeOwn
import Derived.Laws.OwnMore
import Derived.Laws.Tables
import Derived.Lib.AppendZerosOnto
import Derived.Lib.Bytealg
import Derived.Lib.BytesEntry
import Derived.Lib.Hide
import Derived.Lib.Overlaps
import Derived.Lib.SlBytesConst
import Derived.Lib.SmallJoins
import Derived.Maps.AppendAt
import Derived.OpenShut
import Derived.Orders
import Derived.ProofKit
import Derived.RangeFuncBox
import Derived.RegionTactic
import Derived.Shelf.Abstract
import Derived.Test.YtkobhdllagbkhaaGreatProg
import Derived.WalkKit
import Derived.WalkLawsBesides
import Derived.WalkSpells
import Derived.Test.YtkobhdllagbkhaaGreatKn1
import Derived.Test.YtkobhdllagbkhaaGreatKn2
import Derived.Test.YtkobhdllagbkhaaGreatKn3
import Derived.Test.YtkobhdllagbkhaaGreatKn4
import Derived.Test.YtkobhdllagbkhaaGreatKn5
import Derived.Test.YtkobhdllagbkhaaGreatKn6
import Derived.Test.YtkobhdllagbkhaaGreatKn7
import Derived.Test.YtkobhdllagbkhaaGreatKn8
import Derived.Test.YtkobhdllagbkhaaGreatKn9
import Derived.Test.YtkobhdllagbkhaaGreatKn10
import Derived.Test.YtkobhdllagbkhaaGreatKn11
import Derived.Test.YtkobhdllagbkhaaGreatKn12
import Derived.Test.YtkobhdllagbkhaaGreatKn13
import Derived.Test.YtkobhdllagbkhaaGreatKn14
namespace Go.Proofs.YtkobhdllagbkhaaGreat
open Go.RowKit Go.ChangeShapes Go.WideShapes Go.ChangeAt Go.Deep Go.Joins Go.Shelf
set_option maxRecDepth 100000
set_option maxHeartbeats 32000000
theorem Rd.nil (B:Nat)(w:World):Rd B w (.slice none 0 0) []:=.inl ⟨none,0,rfl,by unfold maxLen;omega,rfl⟩
section
variable {E : TypeId} {base : Nat} {w w' : World} {v : Value} {xs : List UInt8}
theorem Own.to{base':Nat}(h:Own E base w v xs)(hb:base'<=base):Own E base' w v xs:=by
 obtain⟨n,h⟩:=h;refine⟨n,h.1,?_⟩;rcases h.2 with h|⟨g,cap,cur,hv,h1,r⟩
 ·exact .inl h
 ·exact .inr ⟨g,cap,cur,hv,by omega,r⟩
end
section
variable {P : Program} {T E S : TypeId} {o : Oper} {a : Act} {K : Act → World → Prop} {Q : Exit → Act → World → Prop} {w : World}
theorem run_append_zero (hP:ByP P T E S) (w:World){base B:Nat}(ty:TypeId){g:Addr}{x:Value}{xs:List UInt8}(hown:Own E base w (.slice (some g) 0 0) []) (hx:Rd B w x xs)(hbase:base<=w.heap.size) (hlen:xs.length<=1073741824):
    ∃v' w',(Builtin.append_ #[T,T] ty #[.slice (some g) 0 0,x]).run P w=.ok v' w'/\Own E base w' v' xs/\Below w.heap.size w w':=by
  obtain⟨i,hi,hz,hsz,hby⟩:=hP.info;rcases hx with⟨ax,cx,rfl,_,rfl⟩|⟨b,off,cap,rfl,_,_,_,hc⟩
  · have hsrc:Src P i.size T (.slice ax 0 cx) 0 [] w:=by
      cases ax with
      |none=>exact Src.ofNil w hP.hT cx
      |some p=>exact Src.ofSlice w hP.hT p 0 cx [] (by simp) (λj u h=>by simp at h) (λu h=>by cases h)
    exact⟨_,w,run_append_nothing w T T ty E i hP.hT hi (some g) 0 0 (zf _) _ hsrc,hown,ze _ _⟩
  · have hsrc:Src P i.size T (.slice (some ⟨b,off,none⟩) xs.length cap) xs.length (bv xs) w:=
      Src.ofSlice w hP.hT _ _ _ _ (by rw[zcg,hsz,Nat.mul_one]) (λj u hj=>by simpa[zN]using hc j u hj) bv_one
    by_cases h0:xs=[]
    · subst h0
      exact⟨_,w,run_append_nothing w T T ty E i hP.hT hi (some g) 0 0 (zf _) _ hsrc,hown,ze _ _⟩
    · have hpos:0<xs.length:=xV.2 h0
      have hr:=run_append_grow_src (P:=P) w T T ty E i (.int .u8 0) hP.hT hi hz (some g) 0 0 [] (run_firstCells_some w.drew i.size 0 g 0 0 [] (by simp) (λj u h=>by simp at h)) _ _ _ hsrc (by omega) (by omega)
        (by rw[hby];exact growslice_fits (by omega) (by omega))
      refine⟨_,_,hr,⟨xs.length,by rw[zcg,Nat.mul_one],.inr ⟨w.heap.size,grownCap w (0+xs.length) 0 E,_,by rw[zR],hbase,heap_alloc_new w.drew _,?_,grownCap_le_maxLen w _ _ _ (by unfold maxLen;omega),?_,?_⟩⟩,?_⟩
      ·have:=grownCap_ge w (0+xs.length) 0 E;omega
      · have:=grownCap_ge w (0+xs.length) 0 E
        rw[zR]at this⊢;simp[size_zeroCells,Value.cells,zcg];omega
      · simp only[yw,Array.toList_append,Nat.mul_one]
        rw[xp (by simp[zcg]),yq (by simp[zcg])]
      ·exact((ze _ w).drew).alloc (zf _) _
theorem wp_append_zero(hP:ByP P T E S){s x:Operand}(ho:o.op=.call {callee:=.builtin .append,args:=#[s,x],argTypes:=#[T,T]}){base B:Nat}{g:Addr}{vx:Value}{xs:List UInt8}(hs:a.eval s=.slice (some g) 0 0) (hown:Own E base w (.slice (some g) 0 0) []) (hx:a.eval x=vx) (hr:Rd B w vx xs)
  (hbase:base<=w.heap.size)
  (h:∀ad k cap w',Own E base w' (.slice ad k cap) xs->Below w.heap.size w w'->K (a.put o.dst (.slice ad k cap)) w') (hlen:xs.length<=1073741824):o.wp P a w K Q:=by
 obtain⟨v',w',hrun,h2,h3⟩:=run_append_zero hP w o.type hown hr hbase hlen;obtain⟨ad,k,cap,rfl⟩:=Own.shape h2;unfold Oper.wp execOp;simp only[ho,resolve,invoke,builtin,zZ,yb,ye,zE,zn,zo,hs,hx,hrun];exact h _ _ _ _ h2 h3
end
section
variable {P : Program} {Q : Exit → Act → World → Prop}
theorem GdOp.taken{ops:Array Oper}{a:Act}{w:World}{G:Nat->World->Value->Prop}{i:Nat}{o:Oper}{j:Nat}{b:Bool}(h:o.guard=some (j,b))(h1:∃oj d,ops[j]?=some oj/\oj.dst=some d/\d<a.tmps.size)(h2:(o.after.any λe=>e.on==j&&Region.binds .any e)=true)(h3:∀w v,G j w v->v=.bool b)(h4:zqv P Q ops a w G i o):GdOp P Q ops a w G i o:=by
 unfold GdOp;rw[h];exact⟨h1,h2,.inl ⟨h3,h4⟩⟩
theorem putAll_size:∀(l:List Oper)(a:Act)(vs:Nat->Value)(k:Nat),(zaj a l vs k).tmps.size=a.tmps.size
 |[],_,_,_=>rfl
 |o::rest,a,vs,k=>by simp only[zaj];rw[putAll_size rest,zaz]
theorem defers_put(a:Act)(d:Option Tmp)(v:Value):(a.put d v).defers=a.defers:=by cases d<;>rfl
theorem putAll_defers:∀(l:List Oper)(a:Act)(vs:Nat->Value)(k:Nat),(zaj a l vs k).defers=a.defers
 |[],_,_,_=>rfl
 |o::rest,a,vs,k=>by simp only[zaj];rw[putAll_defers rest,defers_put]
def Behind (ops:List Oper)(a:Act)(vs:Nat->Value)(A:Act):Prop:=
 A.defers=a.defers/\A.tmps.size=a.tmps.size/\(∀t,zcj ops 0 t=none->A.eval (.tmp t)=a.eval (.tmp t))/\(∀t j,t<a.tmps.size->zcj ops 0 t=some j->A.eval (.tmp t)=vs j)
theorem wp_region_gsa{id:Nat}{ops:Array Oper}{a:Act}{w:World}(hm:P.follows .mixedOrders=true) (hs:gdB ops=true) (Gs:List SG)(hop:zo7 P Q ops a w (λi=>(Gs.getD i sgAny).1) 0 ops.toList)
  (hend:∀(A:Act) (vs:Nat->Value) (w':World),Behind ops.toList a vs A->Below w.heap.size w w'->(∀i,i<ops.size->(Gs.getD i sgAny).1 w' (vs i))->Q .normal A w'):(Code.region id ops true).wp P Q a w:=by
 have hnd:(ops.toList.filterMap (·.dst)).Nodup:=by simp only[gdB,zpf,yk,yP]at hs;exact hs.2
 exact zez hm hs Gs hop λvs w' hb hG=>hend _ vs w' ⟨putAll_defers _ _ _ _,putAll_size _ _ _ _,λt h=>zbn _ _ _ _ _ h,λt j ht h=>zbs _ _ _ _ _ _ hnd ht h⟩ hb hG
end
section
variable {P : Program} {T E S : TypeId} {o : Oper} {a : Act} {K : Act → World → Prop} {Q : Exit → Act → World → Prop} {w : World}
theorem wp_eqlI{t t2:TypeId}{x y:Operand}{k:IntKind}{m n:Int}(ho:o.op=.binOp .eql t x y t2)(hx:a.eval x=.int k m)(hy:a.eval y=.int k n)(h:K (a.put o.dst (.bool (decide (m=n)))) w):o.wp P a w K Q:=by
 refine zid (v:=.bool (decide (m=n))) ?_ h;simp only[execOp,ho,hx,hy];simp[eqGuard,binOp,Op.intCmp,go_sem];by_cases e:m=n<;>simp[e]
theorem wp_pk{x y z:Operand}{b:Bool}{u:Value}(ho:o.op=.pick x y z)(hx:a.eval x=.bool b)(hy:b=true->a.eval y=u)(hz:b=false->a.eval z=u)(h:K (a.put o.dst u) w):o.wp P a w K Q:=by
 refine zid (v:=u) ?_ h;cases b
 ·simp[execOp,ho,asBool,hx,hz rfl]
 ·simp[execOp,ho,asBool,hx,hy rfl]
end
theorem Rd.of_row{w:World}{a:Option Addr}{len cap:Nat}{zs:List Int}(h:(a=none/\len=0/\cap=0/\zs=[])\/∃x,a=some x/\len<=cap/\cap<=maxLen/\zs.length=cap/\(∀i,i<zs.length->w.cell? (x.add i)=some (.int .u8 (zs.getD i 0)))/\∀n∈zs,(Lit.int .u8 n).wf=true):
    Rd w.heap.size w (.slice a len cap) ((zs.take len).map λn=>UInt8.ofNat n.toNat):=by
  rcases h with⟨rfl,rfl,rfl,rfl⟩|⟨x,rfl,hl,hm,hz,hc,hw⟩
  ·exact Rd.nil _ _
  · by_cases h0:len=0
    · subst h0
      exact .inl ⟨_,cap,rfl,hm,by simp⟩
    · have hlen:((zs.take len).map λn=>UInt8.ofNat n.toNat).length=len:=by simp;omega
      obtain⟨b,off,spot⟩:=x;have h1:=hc 0 (by omega);have hspot:spot=none:=by simpa [Addr.add]using World.cell?_spot h1
      subst hspot;have hb:=wA w _ h1;refine .inr ⟨b,off,cap,by rw[hlen],by simpa [Addr.add]using hb,by rw[hlen];exact hl,hm,λj u hj=>?_⟩;have hjl:j<len:=by
        rcases zA j len with h|h
        ·exact h
        · rw[wV (by rw[zcg,hlen];exact h)]at hj;cases hj
      have hcj:=hc j (by omega);rw[zN]at hcj;rw[hcj];have hjz:j<zs.length:=by omega
      have hwf:=hw zs[j] (zL hjz);have hr:0<=zs[j]/\zs[j]<=255:=by
        simp[Lit.wf,IntKind.min,IntKind.max,IntKind.signed,IntKind.bits]at hwf;omega
      simp[bv,hjl,hjz]at hj;rw[<-hj];simp[List.getD,hjz];omega
def Opens{α:Type}(P:Program)(t:TypeId)(E:Elt α):Prop:=
 ∀{H:Type}{enc:TypeId×Value->H}{w:World}{base:Nat}{held:Bool}{fuel:Nat}{cs:List Value}{x:DataW H×List MemPlace},DataW.trod enc P w base (λ_=>true) held fuel t cs=some x->∃d,E.R (·<w.heap.size) w d cs
section
variable {P : Program} {t e : TypeId}
theorem Opens.bytes(ht:P.underlying t=some (.slice e))(he:P.underlying e=some (.int .u8))(hc:P.cellsOf e=1):Opens P t Elt.bytes:=by
 intro H enc w base held fuel cs x h;rcases open_ints ht he hc h with⟨hcs,_⟩|⟨x,l,c,zs,hcs,_,hl,hm,hz,_,hcell,hwz⟩
 ·exact⟨_,_,hcs,(Rd.of_row (.inl ⟨rfl,rfl,rfl,rfl⟩)).s⟩
 ·exact⟨_,_,hcs,(Rd.of_row (.inr ⟨_,rfl,hl,hm,by simpa using hz,hcell,hwz⟩)).s⟩
end
section
variable {P : Program} {t : TypeId} {n : Nat} {ops : Array Oper} {rest : List Oper} {o : Oper} {a : Act} {K : Act → World → Prop} {Q : Exit → Act → World → Prop} {w : World}
theorem wp_loadU{us:List Value}(hP:SgP P t us.length){x:Operand}{b off:Nat}(ho:o.op=.load t x)(hx:a.eval x=.pointer (some ⟨b,off,none⟩))(hc:∀j u,us[j]?=some u->w.cell? ⟨b,off+j,none⟩=some u)(h:K (a.put o.dst (.agg us.toArray)) w):o.wp P a w K Q:=by
 obtain⟨⟨fs,hu⟩,hs⟩:=hP;have hr:=wM (P:=P) (w:=w) ⟨b,off,none⟩ us (λj v hj=>by rw[zN];exact hc j v hj);have hr':(loadCellsFrom ⟨b,off,none⟩ 0 us.length #[]).run P w=.ok us.toArray w:=hr;clear hr;refine zcb ?_ h;simp only[execOp,ho,hx];simp[Instr.loadAt,loadVar,isAgg,zr hu,zaa hs,hr',go_sem]
end
theorem w64w{n:Int}(h:(Lit.int .i64 n).wf=true):W64 n:=by
 simp[Lit.wf,IntKind.min,IntKind.max,IntKind.signed,IntKind.bits]at h;exact⟨by omega,by omega⟩
section
variable {α : Type} {P : Program} {T E S t : TypeId} {ops : Array Oper} {rest : List Oper} {o : Oper} {a : Act} {Q : Exit → Act → World → Prop} {w : World} {K : Act → World → Prop}
theorem wp_buildZ (hP:ByP P T E S)(ho:o.op=.buildSlice T 0 #[])(h:∀w',zjn E w w' (.slice (some ⟨w.heap.size,0,none⟩) 0 0) []->K (a.put o.dst (.slice (some ⟨w.heap.size,0,none⟩) 0 0)) w'):o.wp P a w K Q:=by
 have hrun:=zmh hP w [] (by simp);have hf:=zov E w [] (by simp);simp only[bv,zo,List.zipIdx_nil,zM]at hrun hf;unfold Oper.wp execOp;simp only[ho,zZ,yb,ye,zE,zo,hrun];exact h _ hf
end
def pZb(W:World)(bz:Nat)(hbz:bz<W.heap.size):SGn (λA B=>A.grownBy B (some bz)):=
 ⟨λV v=>∃g,v=.slice (some g) 0 0/\Own 5 W.heap.size V v [],λ_ _ _ ⟨g,e,h⟩hb=>⟨g,e,h.below hb⟩,λ_ _ _ ⟨g,e,n,h⟩hk=>⟨g,e,n,h.1,h.2.imp id λ⟨g,cap,cur,hv,h1,hg,r⟩=>⟨g,cap,cur,hv,h1,(hk.block g (zJ.1 hg).1 (λe=>by injection e with e;omega)).trans hg,r⟩⟩⟩
theorem NewS.own{W V:World}{a:Option Addr}{k c:Nat}{xs:List UInt8}(h:Own 5 W.heap.size V (.slice a k c) xs):NewS W V (.slice a k c) xs:=by
 obtain rfl:k=xs.length:=h.len;exact⟨a,c,rfl,h.rdS⟩
section
variable {S S' : Nat → Prop} {w w' : World} {v : Value}
theorem RdL.sp{a:Option Addr}{n c:Nat}{l:List Sp}(h:RdL Elt.sp S w (.slice a n c) l)(r:Nat)(hr:r<l.length):∃b off A C A2 C2,a=some ⟨b,off,none⟩/\S b/\w.cell? ⟨b,off+r*4,none⟩=some (.int .i64 l[r].table)/\w.cell? ⟨b,off+r*4+1,none⟩=some (.slice A l[r].lo.length C)/\w.cell? ⟨b,off+r*4+2,none⟩=some (.slice A2 l[r].hi.length C2)/\w.cell? ⟨b,off+r*4+3,none⟩=some (.bool l[r].isOpen)/\RdS S w (.slice A l[r].lo.length C) l[r].lo/\RdS S w (.slice A2 l[r].hi.length C2) l[r].hi/\W64 l[r].table:=by
 obtain⟨b,off,vs,rfl,hb,⟨k,u,rfl,hk,hu,hi⟩,hc⟩:=h.at r hr;obtain⟨A,C,rfl,_,_⟩:=hk.shape;obtain⟨A2,C2,rfl,_,_⟩:=hu.shape;exact⟨b,off,A,C,A2,C2,rfl,hb,hc 0 _ rfl,hc 1 _ rfl,hc 2 _ rfl,hc 3 _ rfl,hk,hu,hi⟩
end
end Go.Proofs.YtkobhdllagbkhaaGreat
