/-
  TEXTS OF ONE PROOF, merged.
-/
import Derived.Below
import Derived.BigFrame
import Derived.BigQuiet
import Derived.ChangeAlike
import Derived.ChangeSame
import Derived.ChangeSlices
import Derived.Deep.AppendSrc
import Derived.Deep.Cut
import Derived.Deep.Draws
import Derived.Deep.Matrix
import Derived.Deep.Slices
import Derived.Deep.Strs
import Derived.Deep.Upon
import Derived.IntWalk
import Derived.Laws.AppendOwnNone
import Derived.Laws.MakeOwn
import Derived.Laws.OwnMore
import Derived.Laws.Tables
import Derived.Lib.Bytealg
import Derived.Lib.BytesEntry
import Derived.Lib.Hide
import Derived.Lib.SlBytesConst
import Derived.Lib.SmallJoins
import Derived.Maps.AppendAt
import Derived.OpenShut
import Derived.Orders
import Derived.ProofKit
import Derived.RangeFuncBox
import Derived.RegionTactic
import Derived.Shelf.Abstract
import Derived.Test.YtkobhdllagbkhaaGreatProg
import Derived.WalkKit
import Derived.WalkLawsBesides
import Derived.WalkSpells
import Derived.Test.YtkobhdllagbkhaaGreatKn1
import Derived.Test.YtkobhdllagbkhaaGreatKn2
import Derived.Test.YtkobhdllagbkhaaGreatKn3
import Derived.Test.YtkobhdllagbkhaaGreatKn4
import Derived.Test.YtkobhdllagbkhaaGreatKn5
import Derived.Test.YtkobhdllagbkhaaGreatKn6
import Derived.Test.YtkobhdllagbkhaaGreatKn7
import Derived.Test.YtkobhdllagbkhaaGreatKn8
import Derived.Test.YtkobhdllagbkhaaGreatKn9
import Derived.Test.YtkobhdllagbkhaaGreatKn10
import Derived.Test.YtkobhdllagbkhaaGreatKn11
import Derived.Test.YtkobhdllagbkhaaGreatKn12
import Derived.Test.YtkobhdllagbkhaaGreatKn13
import Derived.Test.YtkobhdllagbkhaaGreatKn14
namespace Go.Proofs.YtkobhdllagbkhaaGreat
open Go.RowKit Go.ChangeShapes Go.WideShapes Go.ChangeAt Go.Deep Go.Joins Go.Shelf
set_option maxRecDepth 100000
set_option maxHeartbeats 32000000
theorem Rd.nil (B:Nat)(w:World):Rd B w (.slice none 0 0) []:=.inl ⟨none,0,rfl,by unfold maxLen;omega,rfl⟩
theorem Rd.of_row{w:World}{a:Option Addr}{len cap:Nat}{zs:List Int}(h:(a=none/\len=0/\cap=0/\zs=[])\/∃x,a=some x/\len<=cap/\cap<=maxLen/\zs.length=cap/\(∀i,i<zs.length->w.cell? (x.add i)=some (.int .u8 (zs.getD i 0)))/\∀n∈zs,(Lit.int .u8 n).wf=true):
    Rd w.heap.size w (.slice a len cap) ((zs.take len).map λn=>UInt8.ofNat n.toNat):=by
  rcases h with⟨rfl,rfl,rfl,rfl⟩|⟨x,rfl,hl,hm,hz,hc,hw⟩
  ·exact Rd.nil _ _
  · by_cases h0:len=0
    · subst h0
      exact .inl ⟨_,cap,rfl,hm,by simp⟩
    · have hlen:((zs.take len).map λn=>UInt8.ofNat n.toNat).length=len:=by simp;omega
      obtain⟨b,off,spot⟩:=x;have h1:=hc 0 (by omega);have hspot:spot=none:=by simpa [Addr.add]using World.cell?_spot h1
      subst hspot;have hb:=wA w _ h1;refine .inr ⟨b,off,cap,by rw[hlen],by simpa [Addr.add]using hb,by rw[hlen];exact hl,hm,λj u hj=>?_⟩;have hjl:j<len:=by
        rcases zA j len with h|h
        ·exact h
        · rw[wV (by rw[zcg,hlen];exact h)]at hj;cases hj
      have hcj:=hc j (by omega);rw[zN]at hcj;rw[hcj];have hjz:j<zs.length:=by omega
      have hwf:=hw zs[j] (zL hjz);have hr:0<=zs[j]/\zs[j]<=255:=by
        simp[Lit.wf,IntKind.min,IntKind.max,IntKind.signed,IntKind.bits]at hwf;omega
      simp[bv,hjl,hjz]at hj;rw[<-hj];simp[List.getD,hjz];omega
def Opens{α:Type}(P:Program)(t:TypeId)(E:Elt α):Prop:=
 ∀{H:Type}{enc:TypeId×Value->H}{w:World}{base:Nat}{held:Bool}{fuel:Nat}{cs:List Value}{x:DataW H×List MemPlace},DataW.trod enc P w base (λ_=>true) held fuel t cs=some x->∃d,E.R (·<w.heap.size) w d cs
theorem zgi{α:Type}{p:Nat->α->Prop}:∀n,(∀i,i<n->∃d,p i d)->∃l:List α,l.length=n/\∀i (h:i<l.length),p i l[i]
  |0,_=>⟨[],rfl,λi h=>absurd h (yH _)⟩
  |n+1,h=>by
    obtain⟨l,hl,hp⟩:=zgi n (λi hi=>h i (by omega));obtain⟨d,hd⟩:=h n (xX n);refine⟨l++[d],by simp[hl],λi hi=>?_⟩;rcases zA i l.length with h1|h1
    ·rw[xQ h1];exact hp i h1
    · rw[zC]at hi
      simp only[zI,zM]at hi;obtain rfl:i=l.length:=by omega
      rw[wC (zf _)];simp only[wk,List.getElem_cons_zero];rw[hl];exact hd
section
variable {P : Program} {t e : TypeId}
theorem Opens.bytes(ht:P.underlying t=some (.slice e))(he:P.underlying e=some (.int .u8))(hc:P.cellsOf e=1):Opens P t Elt.bytes:=by
 intro H enc w base held fuel cs x h;rcases open_ints ht he hc h with⟨hcs,_⟩|⟨x,l,c,zs,hcs,_,hl,hm,hz,_,hcell,hwz⟩
 ·exact⟨_,_,hcs,(Rd.of_row (.inl ⟨rfl,rfl,rfl,rfl⟩)).s⟩
 ·exact⟨_,_,hcs,(Rd.of_row (.inr ⟨_,rfl,hl,hm,by simpa using hz,hcell,hwz⟩)).s⟩
theorem Opens.list{α:Type}{E:Elt α}(ht:P.underlying t=some (.slice e))(hc:P.cellsOf e=E.size)(hE:Opens P e E):Opens P t (Elt.list E):=by
  intro H enc w base held fuel cs x h;rcases open_slice ht h with⟨rfl,_⟩|⟨a,len,cap,m,n,D,Pl,rfl,hb,hl,hm,hmm,_,hi⟩
  ·exact⟨[],_,rfl,RdL.nil _ _ _⟩
  · have hlm:len<=m:=by rw[hmm];split<;>omega
    obtain⟨l,hll,hp⟩:=zgi (p:=λi d=>∃cs',E.R (·<w.heap.size) w d cs'/\∀j,j<cs'.length->w.cell? (a.add (i*E.size+j))=cs'[j]?) len (λi hil=>by
      obtain⟨cs',h1,h2⟩:=hi i (by omega);obtain⟨d,hd⟩:=hE h2;obtain⟨_,hcl,hat⟩:=World.cells?_some h1;refine⟨d,cs',hd,λj hj=>?_⟩;have:=hat j (by omega);rw[add_add,hc]at this;exact this)
    refine⟨l,_,rfl,?_⟩;rw[<-hll]at hl⊢;refine⟨some a,cap,rfl,hl,hm,?_⟩;rcases yx l.length with h0|h0
    ·exact .inl (yg h0)
    · obtain⟨cs0,hR0,hc0⟩:=hp 0 h0
      have hl0:=E.len hR0;have hpos:=E.pos;have hcell:=hc0 0 (by omega);rw[zB (by omega)]at hcell;obtain⟨b,off,spot⟩:=a;have hspot:spot=none:=by simpa[Addr.add]using World.cell?_spot hcell
      subst hspot;have hblt:=wA w _ hcell;refine .inr ⟨b,off,rfl,by simpa[zN]using hblt,λr hr=>?_⟩;obtain⟨cs',hR,hcs⟩:=hp r hr;refine⟨cs',hR,λj u hj=>?_⟩;have:=hcs j (yI.1 hj).1;rw[hj,zN,<-Nat.add_assoc]at this;exact this
end
theorem w64w{n:Int}(h:(Lit.int .i64 n).wf=true):W64 n:=by
 simp[Lit.wf,IntKind.min,IntKind.max,IntKind.signed,IntKind.bits]at h;exact⟨by omega,by omega⟩
theorem zp0:Opens Tryz.prog 62 Elt.wr:=by
 intro H enc w base held fuel cs x h;obtain⟨y0,y1,y2,y3,n,_,hl,h0,h1,h2,h3⟩:=trod_struct4 Tryz.underlying62 h;have hc:cs.length=4:=hl.trans (by kernel_rfl);match cs,hc with
 |[u,v,r,s],_=>
  obtain⟨m,hm,_,hw⟩:=wl (by kernel_rfl:Tryz.prog.underlying 3=some (.int .i64)) (h0:DataW.trod enc Tryz.prog w base (λ_=>true) held n 3 [u]=some y0);obtain⟨xs,v',hv,hR⟩:=Opens.bytes (P:=Tryz.prog) (t:=23) (e:=5) (by kernel_rfl) (by kernel_rfl) (by kernel_rfl) (h1:DataW.trod enc Tryz.prog w base (λ_=>true) held n 23 [v]=some y1);obtain⟨g,hg,_⟩:=DataW.trod_bool (by kernel_rfl:Tryz.prog.underlying 4=some .bool) (h2:DataW.trod enc Tryz.prog w base (λ_=>true) held n 4 [r]=some y2);obtain⟨xs2,v2,hv2,hR2⟩:=Opens.bytes (P:=Tryz.prog) (t:=23) (e:=5) (by kernel_rfl) (by kernel_rfl) (by kernel_rfl) (h3:DataW.trod enc Tryz.prog w base (λ_=>true) held n 23 [s]=some y3);cases hm;cases hg;cases hv;cases hv2;exact⟨⟨m,xs,g,xs2⟩,v,s,rfl,hR,hR2,w64w hw⟩
theorem ztt:Opens Tryz.prog 38 (Elt.list Elt.wr):=Opens.list (by kernel_rfl) (by kernel_rfl) zp0
theorem ztv:Opens Tryz.prog 3 Elt.int:=by
 intro H enc w base held fuel cs x h;obtain⟨m,rfl,_,hw⟩:=wl (by kernel_rfl:Tryz.prog.underlying 3=some (.int .i64)) h;exact⟨m,rfl,w64w hw⟩
theorem zr0:Opens Tryz.prog 39 (Elt.list Elt.int):=Opens.list (by kernel_rfl) (by kernel_rfl) ztv
theorem open_wr{H:Type}{enc:TypeId×Value->H}{w:World}{base:Nat}{held:Bool}{fuel:Nat}{cs:Array Value}{x:DataW H×List MemPlace}(h:DataW.trod enc Tryz.prog w base (λ_=>true) held fuel 62 (Value.agg cs).cells.toList=some x):∃d,RdWr (·<w.heap.size) w (.agg cs) d:=by
 obtain⟨d,k,v,e,h1,h2,h3⟩:=zp0 h;obtain⟨a,c,rfl,_⟩:=h1.shape;obtain⟨a2,c2,rfl,_⟩:=h2.shape;have:cs=#[.int .i64 d.table,.slice a d.key.length c,.bool d.gone,.slice a2 d.val.length c2]:=Array.ext' (by simpa [Value.cells,wrC]using e);exact⟨d,a,c,a2,c2,by rw[this],h1,h2,h3⟩
theorem open_dl{H:Type}{enc:TypeId×Value->H}{w:World}{base:Nat}{held:Bool}{fuel:Nat}{cs:Array Value}{x:DataW H×List MemPlace}(h:DataW.trod enc Tryz.prog w base (λ_=>true) held fuel 41 (Value.agg cs).cells.toList=some x):∃d,RdDl (·<w.heap.size) w (.agg cs) d:=by
 have e0:(Value.agg cs).cells.toList=cs.toList:=by simp[Value.cells]
 rw[e0]at h;obtain⟨y0,y1,n,_,hl,h0,h1⟩:=trod_struct2 Tryz.underlying41 h;have hc:cs.toList.length=2:=hl.trans (by kernel_rfl);obtain⟨l⟩:=cs;match l,hc with
 |[u,v],_=>
  obtain⟨ws,k,hk,hR⟩:=ztt (h0:DataW.trod enc Tryz.prog w base (λ_=>true) held n 38 [u]=some y0);obtain⟨ms,k2,hk2,hR2⟩:=zr0 (h1:DataW.trod enc Tryz.prog w base (λ_=>true) held n 39 [v]=some y1);cases hk;cases hk2;obtain⟨a,c,rfl,_⟩:=hR.shape;obtain⟨a2,c2,rfl,_⟩:=hR2.shape;exact⟨⟨ws,ms⟩,a,c,a2,c2,rfl,hR,hR2⟩
theorem zpr:∀(k o:List UInt8),(!ltB o k&&ltB o (k++[0]))=decide (k=o)
  |[],[]=>by decide
  |[],c::l=>by
    have h:ltB (c::l) [0]=false:=by
      have h1:¬c<0:=by simp
      unfold ltB;cases l<;>simp[Op.bytesLess,h1]
    simp[h]
  |c::k,[]=>by
    have h:ltB [] (c::k)=true:=by unfold ltB;simp[Op.bytesLess]
    simp[h]
  |c::k,d::o=>by
    have ih:=zpr k o;unfold ltB at ih⊢;simp only[ym,Op.bytesLess];rcases zsv c d with h|h|h
    · have h1:¬d<c:=λh2=>by
        have:=xZ.1 h;have:=xZ.1 h2;omega
      have h2:d≠c:=λe=>by subst e;have:=xZ.1 h;omega
      have h3:c≠d:=λe=>h2 e.symm
      simp[h1,h2,h3]
    · subst h
      have h1:¬c<c:=λh2=>by have:=xZ.1 h2;omega
      simpa [h1]using ih
    · have h2:c≠d:=λe=>by subst e;have:=xZ.1 h;omega
      simp[h,h2]
theorem zps(t:Int)(k o:List UInt8):inT (za8 t k) t o=decide (k=o):=by
 rw[<-zpr];unfold inT inS za8;simp
theorem sIn_anySpA(w:World){S S2:Nat->Prop}{v:Value}{x:Sp}{t:Int}{A:Option Addr}{n C:Nat}{k:List UInt8}(hx:RdSp S w v x) (hk:RdS S2 w (.slice A n C) k):Calls Tryz.prog 26 #[v,.int .i64 t,.slice A n C] w λe w'=>e=.returned (.bool (inT x t k))/\Below w.heap.size w w':=by
  obtain⟨a1,a2,a3,a4,rfl,hlx,hhx,htx⟩:=hx;have m1x:x.lo.length<=9223372036854775807:=by have:=hlx.len;unfold maxLen at this;omega
  have m2x:x.hi.length<=9223372036854775807:=by have:=hhx.len;unfold maxLen at this;omega
  obtain⟨W,hW,q,Bx,hsz⟩:=zeb w 67 [.int .i64 x.table,.slice a1 x.lo.length a2,.slice a3 x.hi.length a4,.bool x.isOpen];clear hsz;go_enter Tryz.func26,Tryz.ntmps26;go_upto_region 1 with(fail);rw[show w.alloc (.cells #[.int .i64 x.table,.slice a1 x.lo.length a2,.slice a3 x.hi.length a4,.bool x.isOpen] 67)=W from hW.symm];clear hW;have cx0:=Bx.cell (i:=0) rfl;have cx1:=Bx.cell (i:=1) rfl;have cx2:=Bx.cell (i:=2) rfl;have cx3:=Bx.cell (i:=3) rfl;have rlx:=hlx.below q;have rhx:=hhx.below q;have rk:=hk.below q;by_cases h_tb:x.table=t
  · have datb:(x.table==t)=true:=zK.2 h_tb
    have dbtb:decide (x.table=t)=true:=zk h_tb;have dctb:(x.table=t)=True:=eq_true h_tb;have ddtb:(x.table !=t)=false:=by rw[xf];exact h_tb
    cases h_kl:ltB k x.lo with
    |true=>
      have dkl:decide (0<=Lib.compareBytes k x.lo)=false:=by rw[znk,h_kl];rfl
      have H:=Lib.hid (show inT x t k=false from by unfold inT inS;simp[h_tb,h_kl]);clear h_tb h_kl;go_wp2_with fail;refine(zao _ rk rlx).mono ?_;rintro e _ ⟨rfl,rfl⟩;go_wp2_with fail;go_ret;exact⟨by first|(rw[H.out];done)|(rw[H.out];rfl),q⟩
    |false=>
      have dkl:decide (0<=Lib.compareBytes k x.lo)=true:=by rw[znk,h_kl];rfl
      cases h_op:x.isOpen with
      |true=>
        rw[h_op]at cx3;have H:=Lib.hid (show inT x t k=true from by unfold inT inS;simp[h_tb,h_kl,h_op]);clear h_tb h_kl h_op;go_wp2_with fail;refine(zao _ rk rlx).mono ?_;rintro e _ ⟨rfl,rfl⟩;go_wp2_with fail;go_ret;exact⟨by first|(rw[H.out];done)|(rw[H.out];rfl),q⟩
      |false=>
        rw[h_op]at cx3;cases h_kh:ltB k x.hi with
        |true=>
          have dkh:decide (Lib.compareBytes k x.hi<0)=true:=(zfe _ _).trans h_kh;have H:=Lib.hid (show inT x t k=true from by unfold inT inS;simp[h_tb,h_kl,h_op,h_kh]);clear h_tb h_kl h_op h_kh;go_wp2_with fail;refine(zao _ rk rlx).mono ?_;rintro e _⟨rfl,rfl⟩;go_wp2_with fail;refine(zao _ rk rhx).mono ?_;rintro e _⟨rfl,rfl⟩;go_wp2_with fail;go_ret;exact⟨by first|(rw[H.out];done)|(rw[H.out];rfl),q⟩
        |false=>
          have dkh:decide (Lib.compareBytes k x.hi<0)=false:=(zfe _ _).trans h_kh;have H:=Lib.hid (show inT x t k=false from by unfold inT inS;simp[h_tb,h_kl,h_op,h_kh]);clear h_tb h_kl h_op h_kh;go_wp2_with fail;refine(zao _ rk rlx).mono ?_;rintro e _⟨rfl,rfl⟩;go_wp2_with fail;refine(zao _ rk rhx).mono ?_;rintro e _⟨rfl,rfl⟩;go_wp2_with fail;go_ret;exact⟨by first|(rw[H.out];done)|(rw[H.out];rfl),q⟩
  · have datb:(x.table==t)=false:=zt.2 h_tb
    have dbtb:decide (x.table=t)=false:=zj h_tb;have dctb:(x.table=t)=False:=eq_false h_tb;have ddtb:(x.table !=t)=true:=xi.2 h_tb;have H:=Lib.hid (show inT x t k=false from by unfold inT inS;simp[h_tb]);clear h_tb;go_wp2_with fail;go_ret;exact⟨by first|(rw[H.out];done)|(rw[H.out];rfl),q⟩
theorem all_succ{α:Type}{P:α->Prop}{l:List α}{k:Nat}(hlt:k<l.length)(h:∀x∈l.take k,P x)(hk:P l[k]):∀x∈l.take (k+1),P x:=λx hx=>by
 rw[yZ hlt]at hx;rcases zV.1 hx with hx|hx
 ·exact h x hx
 · simp at hx;rw[hx];exact hk
theorem few_any(w:World){S:Nat->Prop}{v:Value}{d:Dl}(h:RdDl S w v d):Calls Tryz.prog 20 #[v] w λe w'=>e=.returned (.bool (decide (fewD d)))/\Below w.heap.size w w':=by
  obtain⟨a,c,a2,c2,rfl,hw,hm⟩:=h;obtain⟨_,hc1,hm1⟩:=hw.len;obtain⟨_,hc2,hm2⟩:=hm.len;have hl1:d.writes.length<=9223372036854775807:=by unfold maxLen at hm1;omega
  have hl2:d.marks.length<=9223372036854775807:=by unfold maxLen at hm2;omega
  obtain⟨W,hW⟩:∃W,W=w.alloc (.cells #[.slice a d.writes.length c,.slice a2 d.marks.length c2] 41):=⟨_,rfl⟩;have q:Below w.heap.size w W:=by rw[hW];exact(ze _ _).alloc (zf _) _
  have hB:DuoV W w.heap.size 41 (.slice a d.writes.length c) (.slice a2 d.marks.length c2):=by rw[hW];exact DuoV.new _ _ _ _
  go_enter Tryz.func20,Tryz.ntmps20;go_upto_region 1 with(fail);rw[<-hW];clear hW;have b0:=hB.cell0;have b1:=hB.cell1;rcases zA 30 d.writes.length with h1|h1
  · have d1:(30<d.writes.length)=True:=eq_true h1
    have HK:=Lib.hid (show decide (fewD d)=false from zj λh=>by have:=h.1;omega);go_wp2_with fail;go_ret;exact⟨by rw[HK.out];rfl,q⟩
  have d1:(30<d.writes.length)=False:=eq_false (by omega);rcases zA 30 d.marks.length with h2|h2
  · have d2:(30<d.marks.length)=True:=eq_true h2
    have HK:=Lib.hid (show decide (fewD d)=false from zj λh=>by have:=h.2.1;omega);go_wp2_with fail;go_ret;exact⟨by rw[HK.out];rfl,q⟩
  have d2:(30<d.marks.length)=False:=eq_false (by omega);go_upto_region 4 with(fail);go_loopw[3] (λiv wr=>∃(k:Nat),iv=.int .i64 k/\k<=d.writes.length/\(∀x∈d.writes.take k,x.key.length<=100/\x.val.length<=100)/\Below w.heap.size w wr/\DuoV wr w.heap.size 41 (.slice a d.writes.length c) (.slice a2 d.marks.length c2))(λi _=>d.writes.length-(intOf i).toNat)
  case atStart=>exact⟨0,rfl,zH _,by simp,q,hB⟩
  case round=>
    clear q hB b0 b1;obtain⟨k,rfl,hkl,hall,q,hB⟩:=hrel;have b0:=hB.cell0;have b1:=hB.cell1;rcases zA k d.writes.length with hlt|hge
    · obtain⟨b,off,A,C,A2,C2,rfl,hb,c0,c1,c2,c3,hk1,hk2,hw64⟩:=(hw.below q).wr k hlt
      by_cases h3:100<d.writes[k].key.length
      · have d3:(100<d.writes[k].key.length)=True:=eq_true h3
        have hno:=Lib.hid (show decide (fewD d)=false from zj λh=>by have:=(h.2.2 _ (zL hlt)).1;omega);clear hall;go_wp2_with fail;go_ret;exact⟨by rw[hno.out];rfl,q⟩
      · have d3:(100<d.writes[k].key.length)=False:=eq_false h3
        by_cases h4:100<d.writes[k].val.length
        · have d4:(100<d.writes[k].val.length)=True:=eq_true h4
          have hno:=Lib.hid (show decide (fewD d)=false from zj λh=>by have:=(h.2.2 _ (zL hlt)).2;omega);clear hall;go_wp2_with fail;go_ret;exact⟨by rw[hno.out];rfl,q⟩
        · have d4:(100<d.writes[k].val.length)=False:=eq_false h4
          have hall2:=Lib.hid (all_succ hlt hall ⟨by omega,by omega⟩);clear hall;go_wp2_with fail;go_roundw;case rel=>exact⟨k+1,by go_num,by omega,hall2.out,q,hB⟩
          case measure=>simp[intOf];omega
    · obtain rfl:k=d.writes.length:=by omega
      rw[yv]at hall;have hno:=Lib.hid (show decide (fewD d)=true from zk ⟨h1,h2,hall⟩);clear hall;go_wp2_with fail;go_ret;exact⟨by rw[hno.out];rfl,q⟩
section
variable {P : Program} {T E S : TypeId} {o : Oper} {a : Act} {K : Act → Prop} {w : World}
theorem zal (hP:ByP P T E S){x:Operand}(ho:o.op=.convert T S x){B:Nat}{v:Value}{xs:List UInt8}(hx:a.eval x=v)(hr:Rd B w v xs)(h:K (a.put o.dst (.string (zap xs)))):o.quiet P a (λw''=>∃n,w''=w.drewN n) K:=by
 refine⟨_,λw2 h2=>?_,h⟩;obtain⟨n,rfl⟩:=h2;have hr2:Rd B (w.drewN n) v xs:=hr;unfold Oper.quietAt execOp;simp only[ho,hx,zZ,yb,ye,zpk hP hr2];exact⟨rfl,rfl⟩
end
theorem zdc{a b:List UInt8}:((zap a).toList==(zap b).toList)=decide (a=b):=by
 rw[zis,zis];by_cases e:a=b<;>simp[e]
theorem zir{α:Type}{l m:List α}{i:Nat}(h1:i<l.length)(h2:i<m.length)(h:l.take i=m.take i)(e:l[i]=m[i]):l.take (i+1)=m.take (i+1):=by
 rw[yZ h1,yZ h2,h,e]
theorem zmm (w:World){S S2:Nat->Prop}{a a2:Option Addr}{n cx n2 cy:Nat}{l m:List Pq}(hl:RdL Elt.pq S w (.slice a n cx) l)(hm:RdL Elt.pq S2 w (.slice a2 n2 cy) m):Calls Tryz.prog 48 #[.slice a n cx,.slice a2 n2 cy] w λe w'=>e=.returned (.bool (decide (l=m)))/\Below w.heap.size w w':=by
  obtain⟨rfl,hnc,hcm⟩:=hl.len;obtain⟨rfl,hnc2,hcm2⟩:=hm.len;have hlm:l.length<=9223372036854775807:=by unfold maxLen at hcm;omega
  have q:=ze w.heap.size w;by_cases hlen:l.length=m.length;case neg=>
    have d:((l.length:Int)==(m.length:Int))=false:=zt.2 (by omega);have d2:(l.length==m.length)=false:=zt.2 hlen;have d3:((l.length:Int)!=(m.length:Int))=true:=xi.2 (by omega);have H:=Lib.hid (show decide (l=m)=false from zj λh=>hlen (by rw[h]));clear hlen;go_enter Tryz.func48,Tryz.ntmps48;go_wp2_with fail;go_ret;exact⟨by rw[H.out];rfl,q⟩
  case pos=>
  have d:((l.length:Int)==(m.length:Int))=true:=zK.2 (by omega);have d2:(l.length==m.length)=true:=zK.2 hlen;have d3:((l.length:Int)!=(m.length:Int))=false:=xf.2 (by omega);have hle:l.length<=m.length:=by omega
  replace hlen:=Lib.hid hlen;go_enter Tryz.func48,Tryz.ntmps48;go_upto_region 4 with(fail);go_loopw [5] (λiv wr=>∃i:Nat,iv=.int .i64 i/\i<=l.length/\l.take i=m.take i/\Below w.heap.size w wr)(λi _=>l.length-(intOf i).toNat);case atStart=>exact⟨0,rfl,zH _,by simp,q⟩
  case round=>
    clear q;obtain⟨i,rfl,hil,hno,q⟩:=hrel;rcases zA i l.length with hlt|hge
    · have hlt2:i<m.length:=zm hlt hle
      obtain⟨b,off,A,C,A2,C2,rfl,hb,g0,g1,hk1,hk2⟩:=(hl.below q).pq i hlt;obtain⟨b',off',A',C',A2',C2',rfl,hb',f0,f1,hk3,hk4⟩:=(hm.below q).pq i hlt2;have r1:=hk1.rd;have r2:=hk2.rd;have r3:=hk3.rd;have r4:=hk4.rd;clear hb hb';by_cases e0:l[i].key=m[i].key
      · by_cases e1:l[i].val=m[i].val
        · have H:=Lib.hid (zir hlt hlt2 hno (by cases h1:l[i];cases h2:m[i];rw[h1,h2]at e0 e1;simp_all))
          have d0:((zap l[i].key).toList==(zap m[i].key).toList)=true:=zdc.trans (zk e0);have d1:((zap l[i].val).toList==(zap m[i].val).toList)=true:=zdc.trans (zk e1);clear hno e0 e1;go_upto_region 6 with(fail);refine wp_region_quiet_lit (by kernel_rfl) (by kernel_rfl) ?_;repeat (first|go_big_quiet_step (fail)|(go_big_quiet_want;refine zal byP rfl rfl r1 ?_;go_big_quiet_on;go_simp)|(go_big_quiet_want;refine zal byP rfl rfl r2 ?_;go_big_quiet_on;go_simp)|(go_big_quiet_want;refine zal byP rfl rfl r3 ?_;go_big_quiet_on;go_simp)|(go_big_quiet_want;refine zal byP rfl rfl r4 ?_;go_big_quiet_on;go_simp))
          first|(refine wpQuiet_nil ?_;intro _ hw';obtain⟨nq,hw''⟩:=hw';subst hw'')|intro nq
          go_wp2_with fail;go_roundw;case rel=>exact⟨i+1,by go_num,by omega,H.out,Below.drewN q _⟩
          case measure=>simp[intOf];omega
        · have H:=Lib.hid (show decide (l=m)=false from zj λh=>e1 (by subst h;rfl))
          have d0:((zap l[i].key).toList==(zap m[i].key).toList)=true:=zdc.trans (zk e0);have d1:((zap l[i].val).toList==(zap m[i].val).toList)=false:=zdc.trans (zj e1);clear hno e0 e1;go_upto_region 6 with(fail);refine wp_region_quiet_lit (by kernel_rfl) (by kernel_rfl) ?_;repeat (first|go_big_quiet_step (fail)|(go_big_quiet_want;refine zal byP rfl rfl r1 ?_;go_big_quiet_on;go_simp)|(go_big_quiet_want;refine zal byP rfl rfl r2 ?_;go_big_quiet_on;go_simp)|(go_big_quiet_want;refine zal byP rfl rfl r3 ?_;go_big_quiet_on;go_simp)|(go_big_quiet_want;refine zal byP rfl rfl r4 ?_;go_big_quiet_on;go_simp))
          first|(refine wpQuiet_nil ?_;intro _ hw';obtain⟨nq,hw''⟩:=hw';subst hw'')|intro nq
          go_wp2_with fail;go_ret;exact⟨by rw[H.out];rfl,Below.drewN q _⟩
      · have H:=Lib.hid (show decide (l=m)=false from zj λh=>e0 (by subst h;rfl))
        have d0:((zap l[i].key).toList==(zap m[i].key).toList)=false:=zdc.trans (zj e0);clear hno e0;go_upto_region 6 with(fail);refine wp_region_quiet_lit (by kernel_rfl) (by kernel_rfl) ?_;repeat(first|go_big_quiet_step(fail)|(go_big_quiet_want;refine zal byP rfl rfl r1 ?_;go_big_quiet_on;go_simp)|(go_big_quiet_want;refine zal byP rfl rfl r2 ?_;go_big_quiet_on;go_simp)|(go_big_quiet_want;refine zal byP rfl rfl r3 ?_;go_big_quiet_on;go_simp)|(go_big_quiet_want;refine zal byP rfl rfl r4 ?_;go_big_quiet_on;go_simp))
        first|(refine wpQuiet_nil ?_;intro _ hw';obtain⟨nq,hw''⟩:=hw';subst hw'')|intro nq
        go_wp2_with fail;go_ret;exact⟨by rw[H.out];rfl,Below.drewN q _⟩
    · obtain rfl:i=l.length:=by omega
      have H:=Lib.hid (show decide (l=m)=true from zk (by rw[yv,hlen.out,yv]at hno;exact hno));clear hno;go_wp2_with fail;go_ret;exact⟨by rw[H.out];rfl,q⟩
theorem zk0(w:World){S S2:Nat->Prop}{a a2:Option Addr}{n cx n2 cy:Nat}{l m:List Wr}(hl:RdL Elt.wr S w (.slice a n cx) l) (hm:RdL Elt.wr S2 w (.slice a2 n2 cy) m):Calls Tryz.prog 47 #[.slice a n cx,.slice a2 n2 cy] w λe w'=>e=.returned (.bool (decide (l=m)))/\Below w.heap.size w w':=by
  obtain⟨rfl,hnc,hcm⟩:=hl.len;obtain⟨rfl,hnc2,hcm2⟩:=hm.len;have hlm:l.length<=9223372036854775807:=by unfold maxLen at hcm;omega
  have q:=ze w.heap.size w;by_cases hlen:l.length=m.length;case neg=>
    have d:((l.length:Int)==(m.length:Int))=false:=zt.2 (by omega);have d2:(l.length==m.length)=false:=zt.2 hlen;have d3:((l.length:Int)!=(m.length:Int))=true:=xi.2 (by omega);have H:=Lib.hid (show decide (l=m)=false from zj λh=>hlen (by rw[h]));clear hlen;go_enter Tryz.func47,Tryz.ntmps47;go_wp2_with fail;go_ret;exact⟨by rw[H.out];rfl,q⟩
  case pos=>
  have d:((l.length:Int)==(m.length:Int))=true:=zK.2 (by omega);have d2:(l.length==m.length)=true:=zK.2 hlen;have d3:((l.length:Int)!=(m.length:Int))=false:=xf.2 (by omega);have hle:l.length<=m.length:=by omega
  replace hlen:=Lib.hid hlen;go_enter Tryz.func47,Tryz.ntmps47;go_upto_region 4 with(fail);go_loopw [5] (λiv wr=>∃i:Nat,iv=.int .i64 i/\i<=l.length/\l.take i=m.take i/\Below w.heap.size w wr) (λi _=>l.length-(intOf i).toNat);case atStart=>exact⟨0,rfl,zH _,by simp,q⟩
  case round=>
    clear q;obtain⟨i,rfl,hil,hno,q⟩:=hrel;rcases zA i l.length with hlt|hge
    · have hlt2:i<m.length:=zm hlt hle
      obtain⟨b,off,A,C,A2,C2,rfl,hb,g0,g1,g2,g3,hk1,hk2,hw64⟩:=(hl.below q).wr i hlt;obtain⟨b',off',A',C',A2',C2',rfl,hb',f0,f1,f2,f3,hk3,hk4,hw64'⟩:=(hm.below q).wr i hlt2;have r1:=hk1.rd;have r2:=hk2.rd;have r3:=hk3.rd;have r4:=hk4.rd;clear hw64 hw64' hb hb';by_cases e0:l[i].table=m[i].table
      · by_cases e1:l[i].key=m[i].key
        · by_cases e2:l[i].gone=m[i].gone
          · by_cases e3:l[i].val=m[i].val
            · have H:=Lib.hid (zir hlt hlt2 hno (by cases h1:l[i];cases h2:m[i];rw[h1,h2]at e0 e1 e2 e3;simp_all))
              have dn0:(l[i].table !=m[i].table)=false:=xf.2 e0;have d0:(l[i].table==m[i].table)=true:=zK.2 e0;have dd0:decide (l[i].table=m[i].table)=true:=zk e0;have d1:((zap l[i].key).toList==(zap m[i].key).toList)=true:=zdc.trans (zk e1);have dn2:(l[i].gone !=m[i].gone)=false:=xf.2 e2;have d2:(l[i].gone==m[i].gone)=true:=zK.2 e2;have d3:((zap l[i].val).toList==(zap m[i].val).toList)=true:=zdc.trans (zk e3);clear hno e0 e1 e2 e3;go_upto_region 6 with(fail);refine wp_region_quiet_lit (by kernel_rfl) (by kernel_rfl) ?_;repeat (first|go_big_quiet_step (fail)|(go_big_quiet_want;refine zal byP rfl rfl r1 ?_;go_big_quiet_on;go_simp)|(go_big_quiet_want;refine zal byP rfl rfl r2 ?_;go_big_quiet_on;go_simp)|(go_big_quiet_want;refine zal byP rfl rfl r3 ?_;go_big_quiet_on;go_simp)|(go_big_quiet_want;refine zal byP rfl rfl r4 ?_;go_big_quiet_on;go_simp))
              first|(refine wpQuiet_nil ?_;intro _ hw';obtain⟨nq,hw''⟩:=hw';subst hw'')|intro nq
              go_wp2_with fail;go_roundw;case rel=>exact⟨i+1,by go_num,by omega,H.out,Below.drewN q _⟩
              case measure=>simp[intOf];omega
            · have H:=Lib.hid (show decide (l=m)=false from zj λh=>e3 (by subst h;rfl))
              have dn0:(l[i].table !=m[i].table)=false:=xf.2 e0;have d0:(l[i].table==m[i].table)=true:=zK.2 e0;have dd0:decide (l[i].table=m[i].table)=true:=zk e0;have d1:((zap l[i].key).toList==(zap m[i].key).toList)=true:=zdc.trans (zk e1);have dn2:(l[i].gone !=m[i].gone)=false:=xf.2 e2;have d2:(l[i].gone==m[i].gone)=true:=zK.2 e2;have d3:((zap l[i].val).toList==(zap m[i].val).toList)=false:=zdc.trans (zj e3);clear hno e0 e1 e2 e3;go_upto_region 6 with(fail);refine wp_region_quiet_lit (by kernel_rfl) (by kernel_rfl) ?_;repeat (first|go_big_quiet_step (fail)|(go_big_quiet_want;refine zal byP rfl rfl r1 ?_;go_big_quiet_on;go_simp)|(go_big_quiet_want;refine zal byP rfl rfl r2 ?_;go_big_quiet_on;go_simp)|(go_big_quiet_want;refine zal byP rfl rfl r3 ?_;go_big_quiet_on;go_simp)|(go_big_quiet_want;refine zal byP rfl rfl r4 ?_;go_big_quiet_on;go_simp))
              first|(refine wpQuiet_nil ?_;intro _ hw';obtain⟨nq,hw''⟩:=hw';subst hw'')|intro nq
              go_wp2_with fail;go_ret;exact⟨by rw[H.out];rfl,Below.drewN q _⟩
          · have H:=Lib.hid (show decide (l=m)=false from zj λh=>e2 (by subst h;rfl))
            have dn0:(l[i].table !=m[i].table)=false:=xf.2 e0;have d0:(l[i].table==m[i].table)=true:=zK.2 e0;have dd0:decide (l[i].table=m[i].table)=true:=zk e0;have d1:((zap l[i].key).toList==(zap m[i].key).toList)=true:=zdc.trans (zk e1);have dn2:(l[i].gone !=m[i].gone)=true:=xi.2 e2;have d2:(l[i].gone==m[i].gone)=false:=zt.2 e2;clear hno e0 e1 e2;go_upto_region 6 with(fail);refine wp_region_quiet_lit (by kernel_rfl) (by kernel_rfl) ?_;repeat (first|go_big_quiet_step (fail)|(go_big_quiet_want;refine zal byP rfl rfl r1 ?_;go_big_quiet_on;go_simp)|(go_big_quiet_want;refine zal byP rfl rfl r2 ?_;go_big_quiet_on;go_simp)|(go_big_quiet_want;refine zal byP rfl rfl r3 ?_;go_big_quiet_on;go_simp)|(go_big_quiet_want;refine zal byP rfl rfl r4 ?_;go_big_quiet_on;go_simp))
            first|(refine wpQuiet_nil ?_;intro _ hw';obtain⟨nq,hw''⟩:=hw';subst hw'')|intro nq
            go_wp2_with fail;go_ret;exact⟨by rw[H.out];rfl,Below.drewN q _⟩
        · have H:=Lib.hid (show decide (l=m)=false from zj λh=>e1 (by subst h;rfl))
          have dn0:(l[i].table !=m[i].table)=false:=xf.2 e0;have d0:(l[i].table==m[i].table)=true:=zK.2 e0;have dd0:decide (l[i].table=m[i].table)=true:=zk e0;have d1:((zap l[i].key).toList==(zap m[i].key).toList)=false:=zdc.trans (zj e1);clear hno e0 e1;go_upto_region 6 with(fail);refine wp_region_quiet_lit (by kernel_rfl) (by kernel_rfl) ?_;repeat (first|go_big_quiet_step (fail)|(go_big_quiet_want;refine zal byP rfl rfl r1 ?_;go_big_quiet_on;go_simp)|(go_big_quiet_want;refine zal byP rfl rfl r2 ?_;go_big_quiet_on;go_simp)|(go_big_quiet_want;refine zal byP rfl rfl r3 ?_;go_big_quiet_on;go_simp)|(go_big_quiet_want;refine zal byP rfl rfl r4 ?_;go_big_quiet_on;go_simp))
          first|(refine wpQuiet_nil ?_;intro _ hw';obtain⟨nq,hw''⟩:=hw';subst hw'')|intro nq
          go_wp2_with fail;go_ret;exact⟨by rw[H.out];rfl,Below.drewN q _⟩
      · have H:=Lib.hid (show decide (l=m)=false from zj λh=>e0 (by subst h;rfl))
        have dn0:(l[i].table !=m[i].table)=true:=xi.2 e0;have d0:(l[i].table==m[i].table)=false:=zt.2 e0;have dd0:decide (l[i].table=m[i].table)=false:=zj e0;clear hno e0;go_upto_region 6 with(fail);refine wp_region_quiet_lit (by kernel_rfl) (by kernel_rfl) ?_;repeat(first|go_big_quiet_step(fail)|(go_big_quiet_want;refine zal byP rfl rfl r1 ?_;go_big_quiet_on;go_simp)|(go_big_quiet_want;refine zal byP rfl rfl r2 ?_;go_big_quiet_on;go_simp)|(go_big_quiet_want;refine zal byP rfl rfl r3 ?_;go_big_quiet_on;go_simp)|(go_big_quiet_want;refine zal byP rfl rfl r4 ?_;go_big_quiet_on;go_simp))
        first|(refine wpQuiet_nil ?_;intro _ hw';obtain⟨nq,hw''⟩:=hw';subst hw'')|intro nq
        go_wp2_with fail;go_ret;exact⟨by rw[H.out];rfl,Below.drewN q _⟩
    · obtain rfl:i=l.length:=by omega
      have H:=Lib.hid (show decide (l=m)=true from zk (by rw[yv,hlen.out,yv]at hno;exact hno));clear hno;go_wp2_with fail;go_ret;exact⟨by rw[H.out];rfl,q⟩
theorem refSame_any (w:World){S S2:Nat->Prop}{u v:Value}{x y:Dl}(hx:RdDl S w u x) (hy:RdDl S2 w v y):Calls Tryz.prog 23 #[u,v] w λe w'=>e=.returned (.bool (decide (x=y)))/\Below w.heap.size w w':=by
  obtain⟨a,c,a2,c2,rfl,hw,hm⟩:=hx;obtain⟨a',c',a2',c2',rfl,hw',hm'⟩:=hy;obtain⟨_,_,hcm⟩:=hm.len;obtain⟨_,_,hcm'⟩:=hm'.len;have hlm:x.marks.length<=9223372036854775807:=by unfold maxLen at hcm;omega
  obtain⟨W,hW,q,bn,bm,hsz⟩:=zg2 w 41 41 [.slice a x.writes.length c,.slice a2 x.marks.length c2] [.slice a' y.writes.length c',.slice a2' y.marks.length c2'];clear hsz;go_enter Tryz.func23,Tryz.ntmps23;go_upto_region 1 with(fail);rw[show(w.alloc (.cells #[.slice a x.writes.length c,.slice a2 x.marks.length c2] 41)).alloc (.cells #[.slice a' y.writes.length c',.slice a2' y.marks.length c2'] 41)=W from hW.symm];clear hW;have b0:=bn.cell (i:=0) rfl;have f0:=bm.cell (i:=0) rfl;go_wp2_with fail;refine(zk0 W (hw.below q) (hw'.below q)).mono ?_;rintro e w1 ⟨rfl,hb1⟩;replace q:=q.trans (hb1.mono q.size);replace bn:=bn.below hb1 bn.lt;replace bm:=bm.below hb1 bm.lt;clear b0 f0 hb1;have b1:=bn.cell (i:=1) rfl;have f1:=bm.cell (i:=1) rfl;by_cases h1:x.writes=y.writes;case neg=>
    have d1:decide (x.writes=y.writes)=false:=zj h1;have H:=Lib.hid (show decide (x=y)=false from zj λh=>h1 (by rw[h]));clear h1;go_wp2_with fail;go_ret;exact⟨by rw[H.out];rfl,q⟩
  case pos=>
  have d1:decide (x.writes=y.writes)=true:=zk h1;replace h1:=Lib.hid h1;by_cases hlen:x.marks.length=y.marks.length;case neg=>
    have d2:((x.marks.length:Int)==(y.marks.length:Int))=false:=zt.2 (by omega);have d3:((x.marks.length:Int)!=(y.marks.length:Int))=true:=xi.2 (by omega);have H:=Lib.hid (show decide (x=y)=false from zj λh=>hlen (by rw[h]));clear hlen;go_wp2_with fail;go_ret;exact⟨by rw[H.out];rfl,q⟩
  case pos=>
  have d2:((x.marks.length:Int)==(y.marks.length:Int))=true:=zK.2 (by omega);have d3:((x.marks.length:Int)!=(y.marks.length:Int))=false:=xf.2 (by omega);have hle:x.marks.length<=y.marks.length:=by omega
  replace hlen:=Lib.hid hlen;go_upto_region 5 with(fail);go_loopw[6] (λiv wr=>∃i:Nat,iv=.int .i64 i/\i<=x.marks.length/\x.marks.take i=y.marks.take i/\Below w.heap.size w wr/\BoxN wr w.heap.size 41 [.slice a x.writes.length c,.slice a2 x.marks.length c2]/\BoxN wr (w.heap.size+1) 41 [.slice a' y.writes.length c',.slice a2' y.marks.length c2']) (λi _=>x.marks.length-(intOf i).toNat);case atStart=>exact⟨0,rfl,zH _,by simp,q,bn,bm⟩
  case round=>
    clear q bn bm b1 f1;obtain⟨i,rfl,hil,hno,q,bn,bm⟩:=hrel;have b1:=bn.cell (i:=1) rfl;have f1:=bm.cell (i:=1) rfl;rcases zA i x.marks.length with hlt|hge
    · have hlt2:i<y.marks.length:=zm hlt hle
      obtain⟨b,off,rfl,hb,c0,hi⟩:=(hm.below q).num i hlt;obtain⟨b',off',rfl,hb',c0',hi'⟩:=(hm'.below q).num i hlt2;clear hb hb' hi hi';by_cases e:x.marks[i]=y.marks[i]
      · have H:=Lib.hid (zir hlt hlt2 hno e)
        have d4:(x.marks[i]==y.marks[i])=true:=zK.2 e;have d5:(x.marks[i]!=y.marks[i])=false:=xf.2 e;have d6:decide (x.marks[i]=y.marks[i])=true:=zk e;clear e hno;go_upto_region 7 with(fail);go_quiet (fail);go_wp2_with fail;go_roundw;case rel=>exact⟨i+1,by go_num,by omega,H.out,Below.drewN q _,bn,bm⟩
        case measure=>simp[intOf];omega
      · have H:=Lib.hid (show decide (x=y)=false from zj λh=>e (by subst h;rfl))
        have d4:(x.marks[i]==y.marks[i])=false:=zt.2 e;have d5:(x.marks[i]!=y.marks[i])=true:=xi.2 e;have d6:decide (x.marks[i]=y.marks[i])=false:=zj e;clear e hno;go_upto_region 7 with(fail);go_quiet (fail);go_wp2_with fail;go_ret;exact⟨by rw[H.out];rfl,Below.drewN q _⟩
    · obtain rfl:i=x.marks.length:=by omega
      have H:=Lib.hid (show decide (x=y)=true from zk (by
        rw[yv,hlen.out,yv]at hno;cases x;cases y;have h2:=h1.out;simp_all))
      clear hno;go_wp2_with fail;go_ret;exact⟨by rw[H.out];rfl,q⟩
end Go.Proofs.YtkobhdllagbkhaaGreat
