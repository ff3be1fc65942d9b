/-
  TEXTS OF ONE PROOF, merged.
-/
import Derived.Laws.StructEq
import Derived.Test.YtkobhdllagbkhaaGreatKn9
namespace Go.Proofs.YtkobhdllagbkhaaGreat
open Go.RowKit Go.Shelf
set_option maxRecDepth 100000
set_option maxHeartbeats 32000000
section
variable {ops : Array Oper} {rest : List Oper} {o : Oper} {a : Act} {Q : Exit → Act → World → Prop} {w : World}
theorem wpList_byte7(hP:ByP Tryz.prog 23 5 9){o':Oper}{k:Int}{d:Tmp}(ho:o.op=.buildSlice 23 1 #[(0,.const (.int .u8 k))])(hgd':∀u,Region.wanted o' (yielded ops (a.put o.dst u).tmps)=true)(hgd:Region.wanted o (yielded ops a.tmps)=true)(hd:o.dst=some d)(hlt:d<a.tmps.size)(ho':o'.op=.convert 23 23 (.tmp d))(hk:0<=k/\k<256)
  (h:∀u g n w',Below w.heap.size w w'->Rd w'.heap.size w' (.slice (some ⟨g,0,none⟩) n n) [UInt8.ofNat k.toNat]->wpList Tryz.prog ops Q rest ((a.put (some d) u).put o'.dst (.slice (some ⟨g,0,none⟩) n n)) w'):wpList Tryz.prog ops Q (o::o'::rest) a w:=
 zl2 hP ho hgd' hgd hd hlt ho' [UInt8.ofNat k.toNat] (by
  simp[bv,Act.eval];omega) rfl (by simp) h
end
theorem one_w{w:World}{g:Nat}{x:Wr}{k v:Value}(hb:BoxN w g 62 [.int .i64 x.table,k,.bool x.gone,v])(h1:RdS (λ_=>True) w k x.key)(h2:RdS (λ_=>True) w v x.val)(h3:W64 x.table):RdL Elt.wr (λ_=>True) w (.slice (some ⟨g,0,none⟩) 1 1) [x]:=
 ⟨some ⟨g,0,none⟩,1,rfl,zf _,by unfold maxLen;omega,.inr ⟨g,0,rfl,trivial,λr hr=>by
  obtain rfl:r=0:=by simp at hr;omega
  exact⟨_,⟨k,v,rfl,h1,h2,h3⟩,λj u hj=>by simpa using hb.cell hj⟩⟩⟩
theorem rdSt_nil (S:Nat->Prop)(w:World):RdSt S w (.agg #[.slice none 0 0,.slice none 0 0,.slice none 0 0,.slice none 0 0,.slice none 0 0,.slice none 0 0,.slice none 0 0,.slice none 0 0,.slice none 0 0,.slice none 0 0,.slice none 0 0,.slice none 0 0]) T07:=⟨λ_=>none,λ_=>0,λ_=>0,rfl,λ_ _=>ziv _ _⟩
theorem fit_07:fitS T07:=λ_ _=>zur
theorem InT.facts{T T':Sto}{s:Int}{l:List Wr}{K:Nat}(h:InT T s l K T')(h0:(zcr T s l).2=0)(hK:K+l.length<=900):okS T'/\(∀j,j<4->tabS T' j=(zcr T s l).1 j)/\(∀j,j<4->∀p∈prN (T' j),p.chain.length<=K+l.length)/\fitS T':=by
 obtain⟨_,h2⟩:=h;obtain⟨_,h3⟩:=h2 h0;have hp:∀j,j<4->prN (T' j)=zac (T' j):=λj hj=>by unfold prN;rw[zi (h3 j hj).1]
 refine⟨λj hj=>⟨(h3 j hj).1,by rw[hp j hj];exact(h3 j hj).2.2.1⟩,λj hj=>by show prN (T' j)=_;rw[hp j hj];exact(h3 j hj).2.1,λj hj=>by rw[hp j hj];exact(h3 j hj).2.2.2,λj hj=>?_⟩;obtain⟨k1,k2,k3,k4⟩:=h3 j hj;refine zms k1 ⟨by omega,λp hp2=>zmt (((zdu _).1 k1.2).1 p hp2).1 ?_⟩;have:=k4 p hp2;omega
structure Twb (w A:World)(r:Option Nat)(b:Nat):Prop where
 os:A.os=w.os
 tape:A.tape=w.tape
 output:A.output=w.output
 size:w.heap.size<=A.heap.size
 block:∀k,k<w.heap.size->some k≠r->k≠b->A.heap[k]?=w.heap[k]?
section
variable {w0 w A B : World} {r : Option Nat} {b : Nat}
theorem Twb.of_below(h:Below w.heap.size w A):Twb w A r b:=⟨h.os,h.tape,h.output,h.size,λk hk _ _=>h.block k hk⟩
theorem Twb.below (h:Twb w A r b)(k:Below A.heap.size A B):Twb w B r b:=
 ⟨k.os.trans h.os,k.tape.trans h.tape,k.output.trans h.output,zv h.size k.size,λj h1 h2 h3=>(k.block j (zm h1 h.size)).trans (h.block j h1 h2 h3)⟩
theorem Twb.row(h:Twb w A r b)(k:A.grownBy B r):Twb w B r b:=
 ⟨k.os.trans h.os,k.tape.trans h.tape,k.output.trans h.output,zv h.size k.size,λj h1 h2 h3=>(k.block j (zm h1 h.size) h2).trans (h.block j h1 h2 h3)⟩
theorem Twb.box(h:Twb w A r b)(k:A.grownBy B (some b)):Twb w B r b:=
 ⟨k.os.trans h.os,k.tape.trans h.tape,k.output.trans h.output,zv h.size k.size,λj h1 h2 h3=>(k.block j (zm h1 h.size) (λe=>h3 (by injection e))).trans (h.block j h1 h2 h3)⟩
theorem Twb.refl:Twb w w r b:=⟨rfl,rfl,rfl,zf _,λ_ _ _ _=>rfl⟩
theorem Twb.belowB (h:Twb w A r b)(q:Below w0.heap.size w0 w)(hr:∀k,r=some k->w0.heap.size<=k)(hb:w0.heap.size<=b):Below w0.heap.size w0 A:=
 ⟨h.os.trans q.os,h.tape.trans q.tape,h.output.trans q.output,zv q.size h.size,λk hk=>(h.block k (zm hk q.size) (λe=>by have:=hr k e.symm;omega) (by omega)).trans (q.block k hk)⟩
theorem Twb.boxN{g:Nat}{t:TypeId}{vs:List Value}(h:Twb w A r b)(hT:BoxN w g t vs)(hr:some g≠r)(hb:g≠b):BoxN A g t vs:=(h.block g hT.lt hr hb).trans hT
end
def Elt.but{α:Type}(E:Elt α)(b:Nat):Elt α where
 size:=E.size;pos:=E.pos;R S w x vs:=E.R (λk=>S k/\k≠b) w x vs;len h:=E.len h;keep h hk:=E.keep h λk h2=>hk k h2.1
 weak h hs:=E.weak h λk h2=>⟨hs k h2.1,h2.2⟩
 fit h:=E.weak (E.fit h) λ_ h2=>⟨⟨h2.1.1,h2.2⟩,h2.1.2⟩
 one h:=E.one h
section
variable {α : Type} {E : Elt α} {Te : TypeId} {base lo : Nat} {b : Nat} {w w' : World} {v : Value} {xs : List α}
theorem Flat.but{S:Nat->Prop}(h:∀k,S k->k≠b):∀{xs:List α}{vs:List Value},Flat E S w xs vs->Flat (Elt.but E b) S w xs vs
 |[],_,hf=>hf
 |_::_,_,⟨us,ws,e,h1,h2⟩=>⟨us,ws,e,E.weak h1 λk hk=>⟨hk,h k hk⟩,Flat.but h h2⟩
theorem Flat.unbut{S:Nat->Prop}:∀{xs:List α}{vs:List Value},Flat (Elt.but E b) S w xs vs->Flat E S w xs vs
 |[],_,hf=>hf
 |_::_,_,⟨us,ws,e,h1,h2⟩=>⟨us,ws,e,E.weak h1 λ_ hk=>hk.1,Flat.unbut h2⟩
theorem OwnL.but (h:OwnL E Te base lo w v xs)(hb:∀k,lo<=k->k<w.heap.size->k≠b):OwnL (Elt.but E b) Te base lo w v xs:=by
 obtain⟨vs,h1,h2⟩:=h;exact⟨vs,h1,Flat.but (λk hk=>hb k hk.1 hk.2.1) h2⟩
theorem OwnL.unbut (h:OwnL (Elt.but E b) Te base lo w v xs):OwnL E Te base lo w v xs:=by
 obtain⟨vs,h1,h2⟩:=h;exact⟨vs,h1,Flat.unbut h2⟩
theorem Flat.butKeep{S:Nat->Prop}(hk:∀k,S k->k≠b->w'.heap[k]?=w.heap[k]?):∀{xs:List α}{vs:List Value},Flat (Elt.but E b) S w xs vs->Flat (Elt.but E b) S w' xs vs
 |[],_,hf=>hf
 |_::_,_,⟨us,ws,e,h1,h2⟩=>⟨us,ws,e,E.keep h1 λk h3=>hk k h3.1 h3.2,Flat.butKeep hk h2⟩
theorem OwnL.butOther (h:OwnL (Elt.but E b) Te base lo w v xs)(hg:w.grownBy w' (some b))(hv:v.ownBlock≠some b):OwnL (Elt.but E b) Te base lo w' v xs:=by
 obtain⟨vs,h1,h2⟩:=h;refine⟨vs,h1.kept hg (.inr λe=>hv e),?_⟩;exact(Flat.butKeep (λk hk hb=>hg.block k hk.2.1 λe=>by injection e with e;exact hb e) h2).weak λk hk=>⟨hk.1,zm hk.2.1 hg.size,hk.2.2⟩
end
def PshJ{α:Type}(E:Elt α)(Te:TypeId)(base lo:Nat)(r:Option Nat)(b:Nat)(t:TypeId)(vs:List Value)(f:Nat)(W:World)(xs:List α)(x:α):List Value->World->Prop
 |[],V=>Below W.heap.size W V
 |[v],V=>Below W.heap.size W V/\∃us:List Value,v.cells=us.toArray/\E.R (λk=>W.heap.size<=k/\k<V.heap.size) V x us
 |[_,s],V=>Twb W V r b/\∃ad c,s=.slice ad (xs++[x]).length c/\OwnL (Elt.but E b) Te base lo V (.slice ad (xs++[x]).length c) (xs++[x])/\BoxN V b t vs/\Value.ownBlock (.slice ad (xs++[x]).length c)≠some b
 |_,V=>Twb W V r b/\∃ad c,OwnL (Elt.but E b) Te base lo V (.slice ad (xs++[x]).length c) (xs++[x])/\BoxN V b t (vs.set f (.slice ad (xs++[x]).length c))/\Value.ownBlock (.slice ad (xs++[x]).length c)≠some b
section
variable {α : Type} {E : Elt α} {Te : TypeId} {base lo : Nat} {r : Option Nat} {b : Nat} {t : TypeId} {vs : List Value} {f : Nat} {W : World} {xs : List α} {x : α}
theorem PshJ.below:∀(l:List Value)(V V':World),PshJ E Te base lo r b t vs f W xs x l V->Below V.heap.size V V'->PshJ E Te base lo r b t vs f W xs x l V'
 |[],_,_,h,hb=>y8 h (hb.mono (y9 h))
 |[_],_,_,⟨h,us,e,h1⟩,hb=>⟨h.trans (hb.mono h.size),us,e,E.weak (Elt.below h1 hb) λ_ hk=>⟨hk.1,zm hk.2 hb.size⟩⟩
 |[_,_],_,_,⟨h,ad,c,e,h1,h2,h3⟩,hb=>⟨h.below hb,ad,c,e,h1.below hb,h2.below hb h2.lt,h3⟩
 |_::_::_::_,_,_,⟨h,ad,c,h1,h2,h3⟩,hb=>⟨h.below hb,ad,c,h1.below hb,h2.below hb h2.lt,h3⟩
theorem PshJ.two:∀{l:List Value}{V:World},PshJ E Te base lo r b t vs f W xs x l V->Twb W V r b
 |[],_,h=>Twb.of_below h
 |[_],_,⟨h,_⟩=>Twb.of_below h
 |[_,_],_,⟨h,_⟩=>h
 |_::_::_::_,_,⟨h,_⟩=>h
theorem PshJ.early{V:World}{vl:List Value}(h:PshJ E Te base lo r b t vs f W xs x vl V)(hk:vl.length<=1):Below W.heap.size W V:=by
 match vl,h with
 |[],h=>exact h
 |[_],h=>exact h.1
 |_::_::_,_=>simp at hk
def pRow{α:Type}(E:Elt α)(Te:TypeId)(W:World)(r:Option Nat)(b:Nat)(x:α)(hr:∀k,r=some k->k<W.heap.size)(hb:b<W.heap.size):SGn (λA B=>Twb A B r b):=
 ⟨λw v=>∃g,∃us:List Value,v=.slice (some ⟨g,0,none⟩) 1 1/\W.heap.size<=g/\w.heap[g]?=some (.cells us.toArray Te (0,0))/\E.R (λk=>W.heap.size<=k/\k<w.heap.size) w x us,
 λ_ _ _⟨g,us,h,h0,hc,hR⟩hb=>⟨g,us,h,h0,(hb.block g (zJ.1 hc).1).trans hc,E.weak (Elt.below hR hb) λ_ hk=>⟨hk.1,zm hk.2 hb.size⟩⟩,
 λ_ _ _⟨g,us,h,h0,hc,hR⟩hk=>⟨g,us,h,h0,(hk.block g (zJ.1 hc).1 (λe=>by have:=hr g e.symm;omega) (λe=>by omega)).trans hc,E.weak (E.keep hR λk hh=>hk.block k hh.2 (λe=>by have:=hr k e.symm;omega) (λe=>by omega)) λ_ hh=>⟨hh.1,zm hh.2 hk.size⟩⟩⟩
theorem PshJ.app{V V':World}{v:Value}{v0:Value}{ad:Option Addr}{c:Nat}(h:PshJ E Te base lo r b t vs f W xs x [v] V)(hB:BoxN W b t vs)(hO:OwnL (Elt.but E b) Te base lo V' (.slice ad (xs++[x]).length c) (xs++[x]))(hg:V.grownBy V' r)(hbr:r≠some b)(ho:Value.ownBlock (.slice ad (xs++[x]).length c)=r\/Value.ownBlock (.slice ad (xs++[x]).length c)=some V.heap.size):PshJ E Te base lo r b t vs f W xs x [v0,.slice ad (xs++[x]).length c] V':=
 ⟨(Twb.of_below h.1).row hg,ad,c,rfl,hO,(hB.below h.1 hB.lt).other hg hbr,by
  rcases ho with e|e
  ·rw[e];exact hbr
  ·rw[e];intro e2;injection e2 with e2;have:=hB.lt;have:=h.1.size;omega⟩
theorem PshJ.sto{V V':World}{v s u v0 s0:Value}{ad:Option Addr}{c:Nat}(h:PshJ E Te base lo r b t vs f W xs x [v,s] V)(hO:OwnL (Elt.but E b) Te base lo V (.slice ad (xs++[x]).length c) (xs++[x]))(hn:Value.ownBlock (.slice ad (xs++[x]).length c)≠some b)(hg:V.grownBy V' (some b))(hB:BoxN V' b t (vs.set f (.slice ad (xs++[x]).length c))):PshJ E Te base lo r b t vs f W xs x [v0,s0,u] V':=
 ⟨h.1.box hg,ad,c,hO.butOther hg hn,hB,hn⟩
end
theorem zrt{E1 E2:TypeId}(hne:E1≠E2){w:World}{b1 b2 s1 s2 n1 n2:Nat}{v1 v2:Value}{xs1 xs2:List Value}(h1:w.ownsRow b1 E1 s1 v1 n1 xs1)(h2:w.ownsRow b2 E2 s2 v2 n2 xs2):v1.ownBlock=none\/v1.ownBlock≠v2.ownBlock:=by
  rcases h1.2 with⟨rfl,_⟩|⟨g,cap,cur,rfl,_,hg,_⟩
  ·exact .inl rfl
  · right
    intro e;rcases h2.2 with⟨rfl,_⟩|⟨g2,cap2,cur2,rfl,_,hg2,_⟩
    · simp[Value.ownBlock]at e
    · obtain rfl:g=g2:=by simpa[Value.ownBlock]using e
      rw[hg]at hg2;injection hg2 with h;injection h with _ h;exact hne h
theorem zt1(x:Wr)(hg:x.gone=true->x.val.length=0):(decide (x.table<(0:Int))||decide ((4:Int)<=x.table)||decide ((16:Int)<(x.key.length:Int))||decide ((32:Int)<(x.val.length:Int)))=(!decide (mayW x)):=by
 have h2:mayW x↔(¬x.table<(0:Int)/\¬(4:Int)<=x.table/\¬(16:Int)<(x.key.length:Int)/\¬(32:Int)<(x.val.length:Int)):=by
  unfold mayW;constructor
  · intro h;omega
  · intro h;exact⟨by omega,by omega,by omega,by omega,λh2=>yg (hg h2)⟩
 rw[Bool.eq_iff_iff];simp only[wj,yP,Bool.not_eq_true',wD,h2];omega
theorem zlu(w:World){S:Nat->Prop}{v:Value}{x:Wr}(hx:RdWr S w v x):Calls Tryz.prog 64 #[v] w λe w'=>e=.returned (.bool (!decide (mayW x)))/\Below w.heap.size w w':=by
  obtain⟨a,c,a2,c2,rfl,hk1,hk2,ht⟩:=hx;obtain⟨_,hc1,hm1⟩:=hk1.len;obtain⟨_,hc2,hm2⟩:=hk2.len;unfold maxLen at hm1 hm2;unfold W64 at ht;cases hg:x.gone with
  |true=>
    by_cases hv:0<x.val.length
    · skip
      have hk:=Lib.hid (show(!decide (mayW x))=true from by rw[zj (λh=>by have:=h.2.2.2.2 hg;rw[this]at hv;simp at hv)];rfl);go_enter Tryz.func64,Tryz.ntmps64;go_wp2;go_ret;exact⟨by rw[hk.out];rfl,(ze _ _).alloc (zf _) _⟩
    · have hv0:=Lib.hid (show x.val=[]from yg (by omega))
      by_cases h1:0<=x.table
      · skip
        by_cases h2:x.table<4
        · skip
          by_cases h3:(x.key.length:Int)<=16
          · skip
            by_cases h4:(x.val.length:Int)<=32
            · skip
              have hk:=Lib.hid (zt1 x (λ_=>by rw[hv0.out];rfl));go_enter Tryz.func64,Tryz.ntmps64;go_wp2;go_ret;exact⟨by rw[<-hk.out];rfl,(ze _ _).alloc (zf _) _⟩
            · skip
              omega
          · skip
            have hk:=Lib.hid (show(!decide (mayW x))=true from by rw[zj (λh=>h3 (by have:=h.2.2.1;omega))];rfl);go_enter Tryz.func64,Tryz.ntmps64;go_wp2;go_ret;exact⟨by rw[hk.out];rfl,(ze _ _).alloc (zf _) _⟩
        · skip
          have hk:=Lib.hid (show(!decide (mayW x))=true from by rw[zj (λh=>h2 (by have:=h.2.1;omega))];rfl);go_enter Tryz.func64,Tryz.ntmps64;go_wp2;go_ret;exact⟨by rw[hk.out];rfl,(ze _ _).alloc (zf _) _⟩
      · skip
        have hk:=Lib.hid (show(!decide (mayW x))=true from by rw[zj (λh=>h1 (h.1))];rfl);go_enter Tryz.func64,Tryz.ntmps64;go_wp2;go_ret;exact⟨by rw[hk.out];rfl,(ze _ _).alloc (zf _) _⟩
  |false=>
    by_cases h1:0<=x.table
    · skip
      by_cases h2:x.table<4
      · skip
        by_cases h3:(x.key.length:Int)<=16
        · skip
          by_cases h4:(x.val.length:Int)<=32
          · skip
            have hk:=Lib.hid (zt1 x (λh=>by rw[hg]at h;cases h));go_enter Tryz.func64,Tryz.ntmps64;go_wp2;go_ret;exact⟨by rw[<-hk.out];rfl,(ze _ _).alloc (zf _) _⟩
          · skip
            have hm:=Lib.hid (zt1 x (λh=>by rw[hg]at h;cases h));have hk:=Lib.hid (show(!decide (mayW x))=true from by rw[zj (λh=>h4 (by have:=h.2.2.2.1;omega))];rfl);go_enter Tryz.func64,Tryz.ntmps64;go_wp2;go_ret;exact⟨by first|(rw[hk.out];rfl)|(rw[<-hm.out];rfl),(ze _ _).alloc (zf _) _⟩
        · skip
          have hk:=Lib.hid (show(!decide (mayW x))=true from by rw[zj (λh=>h3 (by have:=h.2.2.1;omega))];rfl);go_enter Tryz.func64,Tryz.ntmps64;go_wp2;go_ret;exact⟨by rw[hk.out];rfl,(ze _ _).alloc (zf _) _⟩
      · skip
        have hk:=Lib.hid (show(!decide (mayW x))=true from by rw[zj (λh=>h2 (by have:=h.2.1;omega))];rfl);go_enter Tryz.func64,Tryz.ntmps64;go_wp2;go_ret;exact⟨by rw[hk.out];rfl,(ze _ _).alloc (zf _) _⟩
    · skip
      have hk:=Lib.hid (show(!decide (mayW x))=true from by rw[zj (λh=>h1 (h.1))];rfl);go_enter Tryz.func64,Tryz.ntmps64;go_wp2;go_ret;exact⟨by rw[hk.out];rfl,(ze _ _).alloc (zf _) _⟩
theorem zot (w:World){S:Nat->Prop}{a:Option Addr}{n c:Nat}{l:List Wr}(hl:RdL Elt.wr S w (.slice a n c) l):Calls Tryz.prog 84 #[.slice a n c,.func (.func 64) #[] #[]] w λe w'=>∃i:Int,e=.returned (.int .i64 i)/\decide (0<=i)=(!decide (∀x∈l,mayW x))/\Below w.heap.size w w':=by
  obtain⟨rfl,hnc,hcm⟩:=hl.len;have hlm:l.length<=9223372036854775807:=by unfold maxLen at hcm;omega
  have hEE:=enters_of Tryz.func64 (by kernel_rfl) rfl;have q:=ze w.heap.size w;go_enter Tryz.func84,Tryz.ntmps84;go_upto_region 2 with(fail);go_loopw[5,8] (λ_ iv wr=>∃(k:Nat),iv=.int .i64 k/\k<=l.length/\(∀x∈l.take k,mayW x)/\Below w.heap.size w wr)(λ_ i _=>l.length-(intOf i).toNat)
  case atStart=>exact⟨0,rfl,zH _,by simp,q⟩
  case round=>
    clear q;obtain⟨k,rfl,hkl,hall,q⟩:=hrel;rcases zA k l.length with hlt|hge
    · obtain⟨b,off,A,C,A2,C2,rfl,hb,c0,c1,c2,c3,hk1,hk2,hw64⟩:=(hl.below q).wr k hlt
      have hw:RdWr S wr (.agg #[.int .i64 l[k].table,.slice A l[k].key.length C,.bool l[k].gone,.slice A2 l[k].val.length C2]) l[k]:=⟨A,C,A2,C2,rfl,hk1,hk2,hw64⟩;go_upto_region 4 with(fail);go_wp2_with fail;refine(zlu wr hw).mono ?_;rintro e w1 ⟨rfl,hb1⟩;replace q:=q.trans (hb1.mono q.size);clear c0 c1 c2 c3 hk1 hk2 hw;by_cases hm:mayW l[k]
      · have hall2:∀x∈l.take (k+1),mayW x:=λx hx=>by
          rw[yZ hlt]at hx;rcases zV.1 hx with h|h
          ·exact hall x h
          ·simp at h;rw[h];exact hm
        have d1:decide (mayW l[k])=true:=zk hm;clear hall hm;go_wp2_with fail;go_roundw;case rel=>exact⟨k+1,by go_num,by omega,hall2,q⟩
        case measure=>simp[intOf];omega
      · have d1:decide (mayW l[k])=false:=zj hm
        have hno:=Lib.hid (show decide (∀x∈l,mayW x)=false from zj λh=>hm (h _ (zL hlt)));clear hall hm;go_wp2_with fail;go_ret;exact⟨_,rfl,by rw[hno.out];simp,q⟩
    · obtain rfl:k=l.length:=by omega
      rw[yv]at hall;have hno:=Lib.hid (show decide (∀x∈l,mayW x)=true from zk hall);clear hall;go_wp2_with fail;go_ret;exact⟨_,rfl,by rw[hno.out];simp,q⟩
theorem znh (w:World){S:Nat->Prop}{a:Option Addr}{n c:Nat}{l:List Wr}(hl:RdL Elt.wr S w (.slice a n c) l):Calls Tryz.prog 53 #[.slice a n c,.func (.func 64) #[] #[]] w λe w'=>e=.returned (.bool (!decide (∀x∈l,mayW x)))/\Below w.heap.size w w':=by
 go_enter Tryz.func53,Tryz.ntmps53;go_wp2_with fail;refine(zot w hl).mono ?_;rintro e w1⟨i,rfl,hi,hb⟩;replace hi:=Lib.hid hi;go_wp2_with fail;go_ret;exact⟨by rw[<-hi.out];rfl,hb⟩
def DuoV(W:World)(b:Nat)(t:TypeId)(u v:Value):Prop:=W.heap[b]?=some (.cells #[u,v] t (0,0))
section
variable {W W' : World} {b : Nat} {t : TypeId} {u v : Value}
theorem DuoV.new(W:World)(t:TypeId)(u v:Value):DuoV (W.alloc (.cells #[u,v] t)) W.heap.size t u v:=by unfold DuoV;simp only[World.alloc,yf]
theorem DuoV.lt(h:DuoV W b t u v):b<W.heap.size:=(zJ.1 h).1
theorem DuoV.cell0(h:DuoV W b t u v):W.cell? ⟨b,0,none⟩=some u:=by simp[World.cell?,show W.heap[b]?=_ from h]
theorem DuoV.cell1(h:DuoV W b t u v):W.cell? ⟨b,1,none⟩=some v:=by simp[World.cell?,show W.heap[b]?=_ from h]
theorem DuoV.below{n:Nat}(h:DuoV W b t u v)(hb:Below n W W')(hn:b<n):DuoV W' b t u v:=(hb.block b hn).trans h
end
theorem zd7 (w:World){S:Nat->Prop}{v:Value}{d:Dl}(h:RdDl S w v d):Calls Tryz.prog 40 #[v] w λe w'=>e=.returned (.bool (decide (okD d)))/\Below w.heap.size w w':=by
  obtain⟨a,c,a2,c2,rfl,hw,hm⟩:=h;obtain⟨_,hc1,hm1⟩:=hw.len;obtain⟨_,hc2,hm2⟩:=hm.len;have hl1:d.writes.length<=9223372036854775807:=by unfold maxLen at hm1;omega
  have hl2:d.marks.length<=9223372036854775807:=by unfold maxLen at hm2;omega
  obtain⟨W,hW⟩:∃W,W=w.alloc (.cells #[.slice a d.writes.length c,.slice a2 d.marks.length c2] 41):=⟨_,rfl⟩;have q:Below w.heap.size w W:=by rw[hW];exact(ze _ _).alloc (zf _) _
  have hB:DuoV W w.heap.size 41 (.slice a d.writes.length c) (.slice a2 d.marks.length c2):=by rw[hW];exact DuoV.new _ _ _ _
  go_enter Tryz.func40,Tryz.ntmps40;go_upto_region 1 with(fail);rw[<-hW];clear hW;have b0:=hB.cell0;have b1:=hB.cell1;rcases zA 20 d.writes.length with h1|h1
  · have d1:(20<d.writes.length)=True:=eq_true h1
    have HK:=Lib.hid (show decide (okD d)=false from zj λh=>by have:=h.1;omega);go_wp2_with fail;go_ret;exact⟨by rw[HK.out];rfl,q⟩
  · have d1:(20<d.writes.length)=False:=eq_false (by omega)
    rcases zA 4 d.marks.length with h2|h2
    · have d2:(4<d.marks.length)=True:=eq_true h2
      have HK:=Lib.hid (show decide (okD d)=false from zj λh=>by have:=h.2.1;omega);go_wp2_with fail;go_ret;exact⟨by rw[HK.out];rfl,q⟩
    · have d2:(4<d.marks.length)=False:=eq_false (by omega)
      go_wp2_with fail;refine(znh W (hw.below q)).mono ?_;rintro e w1 ⟨rfl,hb1⟩;replace q:=q.trans (hb1.mono q.size);replace hB:=hB.below hb1 hB.lt;clear b0 b1 hb1;have b0:=hB.cell0;have b1:=hB.cell1;by_cases h3:∀x∈d.writes,mayW x
      · have d3:decide (∀x∈d.writes,mayW x)=true:=zk h3
        go_upto_region 5 with(fail);go_loopw[3,24] (λlv iv wr=>∃(k:Nat) (z:Int),iv=.int .i64 k/\lv=.int .i64 z/\k<=d.marks.length/\(k=0->z=0)/\(∀h:k-1<d.marks.length,0<k->z=d.marks[k-1])/\okM d.writes.length 0 (d.marks.take k)/\W64 z/\Below w.heap.size w wr/\DuoV wr w.heap.size 41 (.slice a d.writes.length c) (.slice a2 d.marks.length c2))(λ_ i _=>d.marks.length-(intOf i).toNat)
        case atStart=>exact⟨0,0,rfl,rfl,zH _,λ_=>rfl,λ_ h=>absurd h (xg _),trivial,⟨by omega,by omega⟩,q,hB⟩
        case round=>
          clear q hB b0 b1;obtain⟨k,z,rfl,rfl,hkl,hz0,hz1,hok,hzw,q,hB⟩:=hrel;have b0:=hB.cell0;have b1:=hB.cell1;rcases zA k d.marks.length with hlt|hge
          · obtain⟨b,off,rfl,hb,c0,hi⟩:=(hm.below q).num k hlt
            have hcur:(if k=0 then(0:Int)else d.marks[k-1]'(by omega))=z:=by
              by_cases h0:k=0
              · rw[zi h0,hz0 h0]
              · rw[zh h0,hz1 (by omega) (by omega)]
            obtain⟨m,hm0⟩:∃m,m=d.marks[k]:=⟨_,rfl⟩;have hts:=Lib.hid (zk8 (n:=d.writes.length) (l:=0) hlt);rw[<-hm0]at c0 hi;unfold W64 at hi hzw;by_cases h4:m<z
            · have d4:decide (m<z)=true:=zk h4
              have HK:=Lib.hid (show decide (okD d)=false from zj λh=>by
                have h5:=(hts.out.1 (zp3 h.2.2.2 _)).2.1;rw[hcur,<-hm0]at h5;omega)
              clear hz0 hz1 hok hts hcur hm0 h4;go_wp2_with fail;go_ret;exact⟨by rw[HK.out];rfl,q⟩
            · have d4:decide (m<z)=false:=zj h4
              by_cases h5:(d.writes.length:Int)<m
              · have d5:decide ((d.writes.length:Int)<m)=true:=zk h5
                have HK:=Lib.hid (show decide (okD d)=false from zj λh=>by
                  have h5:=(hts.out.1 (zp3 h.2.2.2 _)).2.2;rw[<-hm0]at h5;omega)
                clear hz0 hz1 hok hts hcur hm0 h4;go_wp2_with fail;go_ret;exact⟨by rw[HK.out];rfl,q⟩
              · have d5:decide ((d.writes.length:Int)<m)=false:=zj h5
                have hok2:okM d.writes.length 0 (d.marks.take (k+1)):=hts.out.2 ⟨hok,by rw[hcur,<-hm0];omega,by rw[<-hm0];omega⟩;have hmh:=Lib.hid hm0;clear hz0 hz1 hok hts hcur h4 h5 hm0;go_wp2_with fail;go_roundw;case rel=>exact⟨k+1,m,by go_num,rfl,by omega,λh=>by omega,λ_ _=>hmh.out,hok2,⟨hi.1,hi.2⟩,q,hB⟩
                case measure=>simp[intOf];omega
          · obtain rfl:k=d.marks.length:=by omega
            rw[yv]at hok;have HK:=Lib.hid (show decide (okD d)=true from zk ⟨h1,h2,h3,hok⟩);clear hz0 hz1 hok;go_wp2_with fail;go_ret;exact⟨by rw[HK.out];rfl,q⟩
      · have d3:decide (∀x∈d.writes,mayW x)=false:=zj h3
        have HK:=Lib.hid (show decide (okD d)=false from zj λh=>h3 h.2.2.1);go_wp2_with fail;go_ret;exact⟨by rw[HK.out];rfl,q⟩
section
variable {α : Type} {E : Elt α} {P : Program} {T Te : TypeId} {ops : Array Oper} {rest : List Oper} {o : Oper} {a : Act} {Q : Exit → Act → World → Prop} {w : World} {K : Act → World → Prop}
theorem zkr (hP:LoP P T Te E.size)(w:World):(Instr.buildSlice T 0 #[]).run P w=.ok (.slice (some ⟨w.heap.size,0,none⟩) 0 0) (w.alloc (.cells #[] Te)):=by
 obtain⟨i,z,hi,hz,hsz,hby,hzs⟩:=hP.all;have e0:Array.range 0=#[]:=by decide
 simp[Instr.buildSlice,zr hP.hT,sizeOf,typeInfo,hi,newRow,Instr.fill,e0]
theorem ztr (E:Elt α)(Te:TypeId)(w:World):OwnL E Te w.heap.size w.heap.size (w.alloc (.cells #[] Te)) (.slice (some ⟨w.heap.size,0,none⟩) 0 0) []:=by
 refine⟨[],⟨by simp,.inr ⟨w.heap.size,0,#[],rfl,zf _,?_,by simp,by unfold maxLen;omega,by simp,by simp⟩⟩,rfl⟩;simp only[World.alloc,yf]
theorem zlx (hP:LoP P T Te E.size)(ho:o.op=.buildSlice T 0 #[])(h:∀w',Below w.heap.size w w'->OwnL E Te w.heap.size w.heap.size w' (.slice (some ⟨w.heap.size,0,none⟩) 0 0) []->K (a.put o.dst (.slice (some ⟨w.heap.size,0,none⟩) 0 0)) w'):o.wp P a w K Q:=by
 have hrun:=zkr (E:=E) hP w;unfold Oper.wp execOp;simp only[ho,zZ,yb,ye,zE,zo,hrun];exact h _ ((ze _ _).alloc (zf _) _) (ztr E Te w)
theorem zhz (hP:LoP P T Te E.size)(ho:o.op=.buildSlice T 0 #[])(hgd:Region.wanted o (yielded ops a.tmps)=true)(h:∀w',Below w.heap.size w w'->OwnL E Te w.heap.size w.heap.size w' (.slice (some ⟨w.heap.size,0,none⟩) 0 0) []->wpList P ops Q rest (a.put o.dst (.slice (some ⟨w.heap.size,0,none⟩) 0 0)) w'):wpList P ops Q (o::rest) a w:=
 zQ hgd λ_ hK=>zlx hP ho λw' h1 h2=>hK _ _ (h w' h1 h2)
theorem zge(hP:LoP P T Te E.size){s x:Operand}(ho:o.op=.call {callee:=.builtin .append,args:=#[s,x],argTypes:=#[T,T]})(hgd:Region.wanted o (yielded ops a.tmps)=true){base lo:Nat}{g:Addr}{ax:Option Addr}{cx nx:Nat}{ys:List α}{S:Nat->Prop}(hs:a.eval s=.slice (some g) 0 0)(hown:OwnL E Te base lo w (.slice (some g) 0 0) [])(hx:a.eval x=.slice ax nx cx)(hr:RdL E S w (.slice ax nx cx) ys)
  (hS:∀k,S k->lo<=k/\k<w.heap.size)(hbase:base<=w.heap.size)
  (h:∀ad k cap w',OwnL E Te base lo w' (.slice ad k cap) ys->Below w.heap.size w w'->wpList P ops Q rest (a.put o.dst (.slice ad k cap)) w')(hlen:ys.length<=1073741824):wpList P ops Q (o::rest) a w:=
 zQ hgd λ_ hK=>zie hP ho hs hown hx hr hS hbase (λad k cap w' h1 h2=>hK _ _ (h ad k cap w' h1 h2)) hlen
end
theorem zg2(w:World) (t t2:TypeId) (us vs:List Value):∃W,W=(w.alloc (.cells us.toArray t)).alloc (.cells vs.toArray t2)/\Below w.heap.size w W/\BoxN W w.heap.size t us/\BoxN W (w.heap.size+1) t2 vs/\W.heap.size=w.heap.size+1+1:=by
 have h1:Below w.heap.size w (w.alloc (.cells us.toArray t)):=(ze _ _).alloc (zf _) _;have s1:(w.alloc (.cells us.toArray t)).heap.size=w.heap.size+1:=yG _ _;have b1:=BoxN.new w t us;generalize w.alloc (.cells us.toArray t)=w1 at*;have h2:Below w1.heap.size w1 (w1.alloc (.cells vs.toArray t2)):=(ze _ _).alloc (zf _) _;have s2:(w1.alloc (.cells vs.toArray t2)).heap.size=w1.heap.size+1:=yG _ _;have b2:=BoxN.new w1 t2 vs;rw[s1]at b2 s2;exact⟨_,rfl,h1.trans (h2.mono h1.size),b1.below h2 b1.lt,b2,s2⟩
def NewS(W V:World)(k:Value)(xs:List UInt8):Prop:=∃a c,k=.slice a xs.length c/\RdS (λg=>W.heap.size<=g/\g<V.heap.size) V (.slice a xs.length c) xs
theorem NewS.below{W V V':World}{k:Value}{xs:List UInt8}(h:NewS W V k xs)(hb:Below V.heap.size V V'):NewS W V' k xs:=by
 obtain⟨a,c,e,hr⟩:=h;exact⟨a,c,e,(hr.below hb).weak λg hg=>⟨hg.1,zm hg.2 hb.size⟩⟩
theorem NewS.grown{W V V':World}{k:Value}{xs:List UInt8}{b:Nat}(h:NewS W V k xs)(hg:V.grownBy V' (some b))(hb:b<W.heap.size):NewS W V' k xs:=by
 obtain⟨a,c,e,hr⟩:=h;exact⟨a,c,e,(hr.keep λk hk=>hg.block k hk.2 λe=>by injection e with e;have:=hk.1;omega).weak λg h=>⟨h.1,zm h.2 hg.size⟩⟩
theorem NewS.of{W V V':World}{E:TypeId}{a:Option Addr}{k c:Nat}{xs:List UInt8}(h:Below W.heap.size W V)(hf:zjn E V V' (.slice a k c) xs):NewS W V' (.slice a k c) xs:=by
 obtain rfl:k=xs.length:=hf.len;exact⟨a,c,rfl,hf.2.rdS.weak λg hg=>⟨zv h.size hg.1,hg.2⟩⟩
def AlnJ(W:World)(b:Nat)(x:Wr):List Value->World->Prop
 |[],V=>Below W.heap.size W V
 |[k],V=>Below W.heap.size W V/\NewS W V k x.key
 |[k,v],V=>Below W.heap.size W V/\NewS W V k x.key/\NewS W V v x.val
 |[k,v,_],V=>W.grownBy V (some b)/\(∃v0,BoxN V b 62 [.int .i64 x.table,k,.bool x.gone,v0])/\NewS W V k x.key/\NewS W V v x.val
 |_,V=>W.grownBy V (some b)/\∃k v,BoxN V b 62 [.int .i64 x.table,k,.bool x.gone,v]/\NewS W V k x.key/\NewS W V v x.val
theorem AlnJ.below{W:World}{b:Nat}{x:Wr}:∀(l:List Value)(V V':World),AlnJ W b x l V->Below V.heap.size V V'->AlnJ W b x l V'
 |[],_,_,h,hb=>y8 h (hb.mono (y9 h))
 |[_],_,_,⟨h,h1⟩,hb=>⟨h.trans (hb.mono h.size),h1.below hb⟩
 |[_,_],_,_,⟨h,h1,h2⟩,hb=>⟨h.trans (hb.mono h.size),h1.below hb,h2.below hb⟩
 |[_,_,_],_,_,⟨h,⟨v0,h0⟩,h1,h2⟩,hb=>⟨zbg h (za4 hb _),⟨v0,h0.below hb h0.lt⟩,h1.below hb,h2.below hb⟩
 |_::_::_::_::_,_,_,⟨h,k,v,h0,h1,h2⟩,hb=>⟨zbg h (za4 hb _),k,v,h0.below hb h0.lt,h1.below hb,h2.below hb⟩
def WrEnd(w:World)(x:Wr)(e:Ending)(w':World):Prop:=∃v,e=.returned v/\RdWr (λk=>w.heap.size<=k/\k<w'.heap.size) w' v x/\Below w.heap.size w w'
theorem zf6 (w:World){S:Nat->Prop}{v:Value}{x:Wr}(h:RdWr S w v x) (h1:x.key.length<=1000000) (h2:x.val.length<=1000000):Calls Tryz.prog 90 #[v] w (WrEnd w x):=by
 obtain⟨a,c,a2,c2,rfl,hk,hv,ht⟩:=h;obtain⟨W,hW,q,bn,bz,hsz⟩:=zg2 w 62 62 [.int .i64 x.table,.slice a x.key.length c,.bool x.gone,.slice a2 x.val.length c2] [.int .i64 0,.slice none 0 0,.bool false,.slice none 0 0];have eK:∀args w,(callFunc 60 args).run Tryz.prog w=.ok (.enter 60 args) w:=enters_of Tryz.func60 (by kernel_rfl) rfl;go_enter Tryz.func90,Tryz.ntmps90;go_upto_region 1 with(fail);rw[show(w.alloc (.cells #[.int .i64 x.table,.slice a x.key.length c,.bool x.gone,.slice a2 x.val.length c2] 62)).alloc (.cells #[.int .i64 0,.slice none 0 0,.bool false,.slice none 0 0] 62)=W from hW.symm];clear hW;have hk':=hk.below q;have hv':=hv.below q;refine zai (K:=λA B=>A.grownBy B (some w.heap.size)) (by kernel_rfl) (by kernel_rfl) [2,5,7,9] (by kernel_rfl) [lEq (.pointer (some ⟨w.heap.size,0+1,none⟩)),lEq (.slice a x.key.length c),lAny,lEq (.pointer (some ⟨w.heap.size,0+3,none⟩)),lEq (.slice a2 x.val.length c2),lAny,lEq (.pointer (some ⟨w.heap.size,0+1,none⟩)),lAny,lEq (.pointer (some ⟨w.heap.size,0+3,none⟩)),lAny] (AlnJ W w.heap.size x) AlnJ.below (show Below W.heap.size W W from ze _ _)
  ⟨?o0,?o1,?o2,?o3,?o4,?o5,?o6,?o7,?o8,?o9,trivial⟩ ?fin
 case o0=>
  refine LnOp.sd (λA va w' k hF hT hk hJ hb hu hp hd=>?_);have e1:=hF 1 rfl;exact zaf wrS rfl (e1) (by omega) ⟨_,rfl,rfl,ze _ _⟩
 case o1=>
  refine LnOp.sd (λA va w' k hF hT hk hJ hb hu hp hd=>?_);have e1:=(hT 3 0 (by simp) rfl).trans (hd ⟨0,.data⟩ (by simp) rfl rfl);obtain rfl:k=0:=by have:=hb 0 2 rfl (by kernel_rfl);omega
  have hJ0:Below W.heap.size W w':=hJ;exact zae (e:=5) rfl e1 (by kernel_rfl) ((bn.below (hJ0.mono (by omega)) bn.lt).cell (i:=1) rfl) ⟨_,rfl,rfl,ze _ _⟩
 case o2=>
  refine LnOp.line 0 rfl rfl (λA va w' hF hT hJ hu hd=>?_);have e1:=(hT 4 1 (by simp) rfl).trans (hd ⟨1,.data⟩ (by simp) rfl rfl);have hJ0:Below W.heap.size W w':=hJ;have hB:Below w.heap.size w w':=q.trans (hJ0.mono q.size);refine zah rfl eK (by simp only[zE,zn,zo,e1]) ((zby w' (hk.below hB).rd (zf _) h1).mono ?_);rintro e w2 ⟨ad,k',c',rfl,hf⟩;exact⟨_,rfl,_,rfl,⟨hJ0.trans (hf.1.mono hJ0.size),NewS.of hJ0 hf⟩,za4 hf.1 _⟩
 case o3=>
  refine LnOp.sd (λA va w' k hF hT hk hJ hb hu hp hd=>?_);have e1:=hF 1 rfl;exact zaf wrS rfl (e1) (by omega) ⟨_,rfl,rfl,ze _ _⟩
 case o4=>
  refine LnOp.sd (λA va w' k hF hT hk hJ hb hu hp hd=>?_);have e1:=(hT 6 3 (by simp) rfl).trans (hd ⟨3,.data⟩ (by simp) rfl rfl);have hJ0:Below W.heap.size W w':=by
   have h5:=hb 1 5 rfl (by kernel_rfl);rcases k with _|_|k
   ·exact hJ
   ·exact hJ.1
   ·omega
  exact zae (e:=5) rfl e1 (by kernel_rfl) ((bn.below (hJ0.mono (by omega)) bn.lt).cell (i:=3) rfl) ⟨_,rfl,rfl,ze _ _⟩
 case o5=>
  refine LnOp.line 1 rfl rfl (λA va w' hF hT hJ hu hd=>?_);have e1:=(hT 7 4 (by simp) rfl).trans (hd ⟨4,.data⟩ (by simp) rfl rfl);obtain⟨hJ0,hJ1⟩:=hJ;have hB:Below w.heap.size w w':=q.trans (hJ0.mono q.size);refine zah rfl eK (by simp only[zE,zn,zo,e1]) ((zby w' (hv.below hB).rd (zf _) h2).mono ?_);rintro e w2 ⟨ad,k',c',rfl,hf⟩;exact⟨_,rfl,_,rfl,⟨hJ0.trans (hf.1.mono hJ0.size),hJ1.below hf.1,NewS.of hJ0 hf⟩,za4 hf.1 _⟩
 case o6=>
  refine LnOp.sd (λA va w' k hF hT hk hJ hb hu hp hd=>?_);have e1:=hF 1 rfl;exact zaf wrS rfl (e1) (by omega) ⟨_,rfl,rfl,ze _ _⟩
 case o7=>
  refine LnOp.line 2 rfl rfl (λA va w' hF hT hJ hu hd=>?_);have e1:=(hT 9 6 (by simp) rfl).trans (hd ⟨6,.data⟩ (by simp) rfl rfl);have x2:A.eval (.tmp 5)=va 2:=hT 5 2 (by simp) rfl;obtain⟨hJ0,⟨ka,kc,ek,hkr⟩,hv1⟩:=hJ;refine zeq (j:=1) rfl (by kernel_rfl) e1 (x2.trans ek) rfl rfl (bn.below hJ0 (by omega)) (by simp) (λw2 hg hB2=>?_);have hbW:w.heap.size<W.heap.size:=by omega
  exact⟨_,rfl,⟨zbg (zb0 hJ0 rfl _) hg,⟨_,by rw[ek];exact hB2⟩,NewS.grown ⟨ka,kc,ek,hkr⟩ hg hbW,hv1.grown hg hbW⟩,hg⟩
 case o8=>
  refine LnOp.sd (λA va w' k hF hT hk hJ hb hu hp hd=>?_);have e1:=hF 1 rfl;exact zaf wrS rfl (e1) (by omega) ⟨_,rfl,rfl,ze _ _⟩
 case o9=>
  refine LnOp.line 3 rfl rfl (λA va w' hF hT hJ hu hd=>?_);have e1:=(hT 10 8 (by simp) rfl).trans (hd ⟨8,.data⟩ (by simp) rfl rfl);have x2:A.eval (.tmp 8)=va 5:=hT 8 5 (by simp) rfl;obtain⟨hg0,⟨v0,hB0⟩,hk1,⟨va2,vc,ev,hvr⟩⟩:=hJ;refine zeq (j:=3) rfl (by kernel_rfl) e1 (x2.trans ev) rfl rfl hB0 (by simp) (λw2 hg hB2=>?_);have hbW:w.heap.size<W.heap.size:=by omega
  exact⟨_,rfl,⟨zbg hg0 hg,_,_,by rw[ev];exact hB2,hk1.grown hg hbW,NewS.grown ⟨va2,vc,ev,hvr⟩ hg hbW⟩,hg⟩
 case fin=>
  intro vs1 W9 hJ hG;obtain⟨hg9,k9,v9,hb9,⟨ka,kc,rfl,hk9⟩,⟨va,vc,rfl,hv9⟩⟩:=hJ;have q9:Below w.heap.size w W9:=q.grown hg9 q.size λk e=>by injection e with e;omega
  have bz9:=bz.other hg9 (by simp);clear hG;simp only[zaj];go_simp;have c0:=hb9.cell (i:=0) rfl;have c1:=hb9.cell (i:=1) rfl;have c2:=hb9.cell (i:=2) rfl;have c3:=hb9.cell (i:=3) rfl;go_wp2_with(first|(refine zab (us:=[.int .i64 x.table,.slice ka x.key.length kc,.bool x.gone,.slice va x.val.length vc]) (by kernel_rfl) rfl rfl rfl rfl rfl rfl bz9 rfl ?_;intro wd hgd hBd)|fail);have d0:=hBd.cell (i:=0) rfl;have d1:=hBd.cell (i:=1) rfl;have d2:=hBd.cell (i:=2) rfl;have d3:=hBd.cell (i:=3) rfl;obtain⟨fs,hu,_⟩:=wrS.hu;refine zD (v:=.agg #[.int .i64 x.table,.slice ka x.key.length kc,.bool x.gone,.slice va x.val.length vc]) (by simp[results,Tryz.results90,go_sem,loadVar,isAgg,zr hu,zaa wrS.hs,loadCellsFrom,Addr.add,d0,d1,d2,d3]) rfl ?_;have hk0:∀k,W.heap.size<=k/\k<W9.heap.size->wd.heap[k]?=W9.heap[k]?:=λk hk=>hgd.block k hk.2 λe=>by injection e with e;omega
  exact⟨_,rfl,⟨ka,kc,va,vc,rfl,(hk9.keep hk0).weak λk hk=>⟨by omega,zm hk.2 hgd.size⟩,(hv9.keep hk0).weak λk hk=>⟨by omega,zm hk.2 hgd.size⟩,ht⟩,q9.grown hgd q9.size λk e=>by injection e with e;omega⟩
theorem OwnL.num{Te:TypeId}{base lo lo':Nat}{w:World}{v:Value}{xs:List Int}(h:OwnL Elt.int Te base lo w v xs):OwnL Elt.int Te base lo' w v xs:=by
 obtain⟨vs,h1,h2⟩:=h;have hf:∀{S S':Nat->Prop}{l:List Int}{us:List Value},Flat Elt.int S w l us->Flat Elt.int S' w l us:=by
  intro S S' l;induction l with
  |nil=>intro us h;exact h
  |cons x l ih=>rintro us ⟨a,b,e,h3,h4⟩;exact⟨a,b,e,h3,ih h4⟩
 exact⟨vs,h1,hf h2⟩
theorem OwnL.num2{Te:TypeId}{base lo:Nat}{w w':World}{v:Value}{xs:List Int}(h:OwnL Elt.int Te base lo w v xs)(hk:∀g,v.ownBlock=some g->w'.heap[g]?=w.heap[g]?):OwnL Elt.int Te base lo w' v xs:=by
 obtain⟨vs,h1,h2⟩:=h;have hf:∀{S S':Nat->Prop}{l:List Int}{us:List Value},Flat Elt.int S w l us->Flat Elt.int S' w' l us:=by
  intro S S' l;induction l with
  |nil=>intro us h;exact h
  |cons x l ih=>rintro us ⟨a,b,e,h3,h4⟩;exact⟨a,b,e,h3,ih h4⟩
 refine⟨vs,⟨h1.1,h1.2.imp id λ⟨g,cap,cur,hv,hb,hg,r⟩=>⟨g,cap,cur,hv,hb,(hk g (by rw[hv];rfl)).trans hg,r⟩⟩,hf h2⟩
theorem zsg(w:World){S:Nat->Prop}{a:Option Addr}{n c:Nat}{l:List Int}(hl:RdL Elt.int S w (.slice a n c) l)(hn:l.length<=1000000):Calls Tryz.prog 89 #[.slice a n c] w λe w'=>∃a' c',e=.returned (.slice a' l.length c')/\OwnL Elt.int 3 w.heap.size w.heap.size w' (.slice a' l.length c') l/\Below w.heap.size w w':=by
 have he:=λ(w:World)(ad:Option Addr)(n c:Nat)=>Lib.run_eql_slice_nil (P:=Tryz.prog) w 39 3 ad n c 0 0 inP.hT
 obtain⟨rfl,_,_⟩:=hl.len;cases a with
 |none=>
  obtain rfl:l=[]:=by
   obtain⟨_,_,e,_,_,h⟩:=hl;injection e with e1 e2 _;rcases h with h|⟨b,off,h,_⟩
   ·exact h
   · rw[h]at e1;cases e1
  go_enter Tryz.func89,Tryz.ntmps89;go_wp2;go_ret;exact⟨_,_,rfl,OwnL.nil _ _ _ _ _,ze _ _⟩
 |some p=>
  go_enter Tryz.func89,Tryz.ntmps89;go_wp2_with(go_big_may;first
   |(refine zhz (E:=Elt.int) inP rfl rfl ?_;intro w1 hb1 hO1)
   |(refine zge (E:=Elt.int) inP rfl rfl rfl (hO1.to (zf _) (zH _)) rfl ((hl.below hb1).fit.weak λk hk=>hk.2) (λk hk=>⟨zH _,hk⟩) hb1.size ?_ (by omega);intro ad' k' cap' w2 hO2 hb2)
   |fail)
  go_ret;obtain rfl:=hO2.len;exact⟨_,_,rfl,hO2.num,hb1.trans (hb2.mono hb1.size)⟩
def smD (d:Dl):Prop:=d.writes.length<=1000000/\d.marks.length<=1000000/\∀x∈d.writes,x.key.length<=1000000/\x.val.length<=1000000
def OwnD (B:Nat)(w:World)(v:Value)(d:Dl):Prop:=∃a c a2 c2 M,B<=M/\M<=w.heap.size/\v=.agg #[.slice a d.writes.length c,.slice a2 d.marks.length c2]/\OwnL Elt.wr 62 M M w (.slice a d.writes.length c) d.writes/\OwnL Elt.int 3 B B w (.slice a2 d.marks.length c2) d.marks/\∀g,Value.ownBlock (.slice a2 d.marks.length c2)=some g->g<M
theorem OwnD.rd{B:Nat}{w:World}{v:Value}{d:Dl}(h:OwnD B w v d):RdDl (λk=>B<=k/\k<w.heap.size) w v d:=by
 obtain⟨a,c,a2,c2,M,h1,_,rfl,h2,h3,_⟩:=h;exact⟨a,c,a2,c2,rfl,h2.rdS λk hk hl=>⟨by omega,hl⟩,h3.rdS λk hk hl=>⟨by omega,hl⟩⟩
theorem zdh(w:World){S:Nat->Prop}{v:Value}{d:Dl}(h:RdDl S w v d)(hs:smD d):Calls Tryz.prog 61 #[v] w λe w'=>∃v',e=.returned v'/\OwnD w.heap.size w' v' d/\Below w.heap.size w w':=by
  obtain⟨a,c,a2,c2,rfl,hw,hm⟩:=h;obtain⟨hs1,hs2,hs3⟩:=hs;obtain⟨W0,hW,q,bn,bz,hsz⟩:=zg2 w 41 41 [.slice a d.writes.length c,.slice a2 d.marks.length c2] [.slice none 0 0,.slice none 0 0];have eA:∀args w,(callFunc 90 args).run Tryz.prog w=.ok (.enter 90 args) w:=enters_of Tryz.func90 (by kernel_rfl) rfl;go_enter Tryz.func61,Tryz.ntmps61;go_upto_region 1 with(fail);rw[show(w.alloc (.cells #[.slice a d.writes.length c,.slice a2 d.marks.length c2] 41)).alloc (.cells #[.slice none 0 0,.slice none 0 0] 41)=W0 from hW.symm];clear hW;have b0:=bn.cell (i:=0) rfl;have b1:=bn.cell (i:=1) rfl;go_wp2_with fail;refine(zsg W0 (hm.below q) hs2).mono ?_;rintro e w1 ⟨m1,mc,rfl,hM,hb1⟩;have q1:=q.trans (hb1.mono q.size);have bn1:=bn.below hb1 bn.lt;have bz1:=bz.below hb1 bz.lt;clear b0 b1 bn bz;have b0:=bn1.cell (i:=0) rfl;go_upto_region 2 with(first|(refine za2 (vs:=[.slice none 0 0,.slice none 0 0]) (by kernel_rfl) rfl rfl ?_;intro w2 hb2 hB2)|(refine zab (us:=[.slice none 0 0,.slice m1 d.marks.length mc]) (by kernel_rfl) rfl rfl rfl rfl rfl rfl hB2 rfl ?_;intro w3 hg3 hB3)|fail);have qb3:Below w1.heap.size w1 w3:=hb2.grown hg3 hb2.size λk hk=>by injection hk with hk;omega
  have q3:=q1.trans (qb3.mono q1.size);have hs3x:=hB3.lt;clear b0;have b0:=(bn1.below qb3 bn1.lt).cell (i:=0) rfl;go_upto_region 3 with(fail);clear b0 hb2 hB2 hg3;go_loopw [13] (λiv wr=>∃(k:Nat) (ad:Option Addr) (ko:Nat),iv=.int .i64 k/\k<=d.writes.length/\OwnL Elt.wr 62 (w1.heap.size+1) (w1.heap.size+1) wr (.slice ad (d.writes.take k).length ko) (d.writes.take k)/\BoxN wr w1.heap.size 41 [.slice ad (d.writes.take k).length ko,.slice m1 d.marks.length mc]/\Below w1.heap.size w1 wr)(λi _=>d.writes.length-(intOf i).toNat)
  case atStart=>exact⟨0,none,0,rfl,zH _,OwnL.nil _ _ _ _ _,hB3,qb3⟩
  case round=>
    clear hB3 qb3 q3;obtain⟨k,ad,ko,rfl,hkl,hO,hB,qr⟩:=hrel;have q:=q1.trans (qr.mono q1.size);rcases zA k d.writes.length with hlt|hge
    · obtain⟨b,off,KA,KC,VA,VC,rfl,hb,c0,c1,c2,c3,hk1,hk2,hw64⟩:=(hw.below q).wr k hlt
      obtain⟨hx1,hx2⟩:=hs3 _ (zL hlt);have hsn:=Lib.hid (show d.writes.take (k+1)=d.writes.take k++[d.writes[k]]from yZ hlt);obtain⟨x,ex⟩:∃x,x=d.writes[k]:=⟨_,rfl⟩;obtain⟨xs,exs⟩:∃xs,xs=d.writes.take k:=⟨_,rfl⟩;have hxl:xs.length<=1000000:=by rw[exs,zp];omega
      rw[<-ex]at c0 c1 c2 c3 hk1 hk2 hw64 hx1 hx2 hsn;rw[<-exs]at hO hB hsn;clear ex exs;have hx:RdWr S wr (.agg #[.int .i64 x.table,.slice KA x.key.length KC,.bool x.gone,.slice VA x.val.length VC]) x:=⟨KA,KC,VA,VC,rfl,hk1,hk2,hw64⟩;go_upto_region 5 with(first|(refine za2 (vs:=[.int .i64 0,.slice none 0 0,.bool false,.slice none 0 0]) (by kernel_rfl) rfl rfl ?_;intro wa hba hBa)|(refine zab (us:=[.int .i64 x.table,.slice KA x.key.length KC,.bool x.gone,.slice VA x.val.length VC]) (by kernel_rfl) rfl rfl rfl rfl rfl rfl hBa rfl ?_;intro W hgw hXW)|fail);go_simp;have hbw:Below wr.heap.size wr W:=hba.grown hgw hba.size λk hk=>by injection hk with hk;omega
      have qW:=qr.trans (hbw.mono qr.size);have hsW:=hXW.lt;have hBlt:=hB.lt;have hBW:=hB.below hbw hB.lt;have hrr:∀k,Value.ownBlock (.slice ad xs.length ko)=some k->w1.heap.size+1<=k/\k<wr.heap.size:=λk hk=>hO.block_lt k hk
      have hrW:∀k,Value.ownBlock (.slice ad xs.length ko)=some k->k<W.heap.size:=λk hk=>by have:=hrr k hk;omega
      replace hO:=(hO.below hbw).but (b:=w1.heap.size) (λk hk _=>by omega);replace hx:=hx.below hbw;have hlo:w1.heap.size+1<=W.heap.size:=by omega
      have hxr:some wr.heap.size≠Value.ownBlock (.slice ad xs.length ko):=λe=>by have:=hrr _ e.symm;omega
      have hxb:wr.heap.size≠w1.heap.size:=by omega
      have hbr:Value.ownBlock (.slice ad xs.length ko)≠some w1.heap.size:=λe=>by have:=hrr _ e;omega
      have hb1:w1.heap.size<w1.heap.size+1:=by omega
      have hb2:w1.heap.size<w1.heap.size+1:=by omega
      clear c0 c1 c2 c3 hk1 hk2 hba hBa hgw hbw hB q;refine zai (K:=λA B=>Twb A B (Value.ownBlock (.slice ad xs.length ko)) (w1.heap.size)) (by kernel_rfl) (by kernel_rfl) [3,5,7] (by kernel_rfl) [lEq (.pointer (some ⟨w1.heap.size,0+0,none⟩)),lEq (.slice ad xs.length ko),lEq (.agg #[.int .i64 x.table,.slice KA x.key.length KC,.bool x.gone,.slice VA x.val.length VC]),lAny,pRow Elt.wr 62 (W) (Value.ownBlock (.slice ad xs.length ko)) (w1.heap.size) x hrW hBW.lt,lAny,lEq (.pointer (some ⟨w1.heap.size,0+0,none⟩)),lAny] (PshJ Elt.wr 62 ((w1.heap.size+1)) ((w1.heap.size+1)) (Value.ownBlock (.slice ad xs.length ko)) (w1.heap.size) 41 [.slice ad xs.length ko,.slice m1 d.marks.length mc] 0 (W) (xs) x) PshJ.below (show Below (W).heap.size (W) (W)from ze _ _)
        ⟨?o0,?o1,?o2,?o3,?o4,?o5,?o6,?o7,trivial⟩ ?fin
      case o0=>
        refine LnOp.sd (λA va w' k hF hT hk hJ hb hu hp hd=>?_);have e1:=hF 3 rfl;exact zaf dlS rfl (e1) (by omega) ⟨_,rfl,rfl,ze _ _⟩
      case o1=>
        refine LnOp.sd (λA va w' k hF hT hk hJ hb hu hp hd=>?_);have e1:=(hT 17 0 (by simp) rfl).trans (hd ⟨0,.data⟩ (by simp) rfl rfl);have hk1:k<=1:=hb 1 5 rfl (by kernel_rfl);have hJ0:=PshJ.early hJ (by simp only[zX,zp];omega);exact zae (e:=62) rfl e1 (by kernel_rfl) ((hBW.below hJ0 hBW.lt).cell (i:=0) rfl) ⟨_,rfl,rfl,ze _ _⟩
      case o2=>
        refine LnOp.sd (λA va w' k hF hT hk hJ hb hu hp hd=>?_);have e1:=hF 5 rfl;have hX2:=(PshJ.two hJ).boxN hXW hxr hxb;exact zdj wrS rfl e1 (hX2.cell (i:=0) rfl) (hX2.cell (i:=1) rfl) (hX2.cell (i:=2) rfl) (hX2.cell (i:=3) rfl) ⟨_,rfl,rfl,ze _ _⟩
      case o3=>
        refine LnOp.line 0 rfl rfl (λA va w' hF hT hJ hu hd=>?_);have e1:=(hT 19 2 (by simp) rfl).trans (hd ⟨2,.data⟩ (by simp) rfl rfl);have hJ0:Below (W).heap.size (W) w':=hJ;refine zah rfl eA (by simp only[zE,zn,zo,e1]) ((zf6 w' (hx.below hJ0) hx1 hx2).mono ?_);rintro e w2 ⟨v2,rfl,⟨ka,kc,va2,vc,rfl,hk2,hv2,ht2⟩,hb2⟩;have hR:Elt.wr.R (λk=>W.heap.size<=k/\k<w2.heap.size) w2 x (wrC x (.slice ka x.key.length kc) (.slice va2 x.val.length vc)):=⟨_,_,rfl,hk2.weak λk hk=>⟨zv hJ0.size hk.1,hk.2⟩,hv2.weak λk hk=>⟨zv hJ0.size hk.1,hk.2⟩,ht2⟩;exact⟨_,rfl,_,rfl,⟨hJ0.trans (hb2.mono hJ0.size),_,rfl,hR⟩,(Twb.refl (r:=Value.ownBlock (.slice ad xs.length ko)) (b:=w1.heap.size)).below hb2⟩
      case o4=>
        refine LnOp.sd (λA va w' k hF hT hk hJ hb hu hp hd=>?_);have x1:A.eval (.tmp 20)=va 3:=hT 20 3 (by simp) rfl;obtain rfl:k=1:=by
          have h1:=hp ⟨3,.data⟩ (by simp) rfl 0 rfl;have h2:=hb 1 5 rfl (by kernel_rfl);omega
        obtain⟨hJ0,us,eus,hR⟩:=hJ;have hb1:Below w'.heap.size w' (w'.alloc (.cells us.toArray 62)):=(ze _ _).alloc (zf _) _;exact zba wrP rfl x1 eus (Elt.len _ hR) (by decide) (by decide) ⟨_,rfl,⟨_,us,rfl,hJ0.size,by simp only[World.alloc,yf],Elt.weak _ (Elt.below hR hb1) λk hk=>⟨hk.1,zm hk.2 hb1.size⟩⟩,hb1⟩
      case o5=>
        refine LnOp.line 1 rfl rfl (λA va w' hF hT hJ hu hd=>?_);have e1:=(hT 18 1 (by simp) rfl).trans (hd ⟨1,.data⟩ (by simp) rfl rfl);have x2:A.eval (.tmp 21)=va 4:=hT 21 4 (by simp) rfl;have y2:=hd ⟨4,.data⟩ (by simp) rfl rfl;have hJ':=hJ;obtain⟨hJ0,_⟩:=hJ;obtain⟨g,us,eg,hg0,hgc,hgR⟩:∃g,∃us:List Value,va 4=.slice (some ⟨g,0,none⟩) 1 1/\(W).heap.size<=g/\w'.heap[g]?=some (.cells us.toArray 62 (0,0))/\Elt.R Elt.wr (λk=>(W).heap.size<=k/\k<w'.heap.size) w' x us:=y2;refine zd4 (E:=Elt.but Elt.wr (w1.heap.size)) (ys:=[x]) wrP rfl e1 (hO.below hJ0) (x2.trans eg) (λj u hj=>by rw[zN,World.cell?,hgc];simpa using hj) (Flat.single (Elt.weak Elt.wr hgR λk hk=>⟨hk,λe=>by have:=hk.1;have:=hBW.lt;omega⟩)) (λk hk=>⟨zv hlo hk.1,hk.2,λe=>by have:=hrW k e.symm;omega⟩) (zv hlo hJ0.size) (λad7 k7 cap7 w2 h2 hg h3=>?_) (by simp;omega);obtain rfl:k7=(xs++[x]).length:=h2.len;exact⟨_,rfl,PshJ.app hJ' hBW h2 hg hbr h3,(Twb.refl (b:=w1.heap.size)).row hg⟩
      case o6=>
        refine LnOp.sd (λA va w' k hF hT hk hJ hb hu hp hd=>?_);have e1:=hF 3 rfl;exact zaf dlS rfl (e1) (by omega) ⟨_,rfl,rfl,ze _ _⟩
      case o7=>
        refine LnOp.line 2 rfl rfl (λA va w' hF hT hJ hu hd=>?_);have e1:=(hT 23 6 (by simp) rfl).trans (hd ⟨6,.data⟩ (by simp) rfl rfl);have x2:A.eval (.tmp 22)=va 5:=hT 22 5 (by simp) rfl;have hJ':=hJ;obtain⟨hJ0,ad7,c7,es,hOs,hBs,hn7⟩:=hJ;refine zeq (j:=0) rfl (by kernel_rfl) e1 (x2.trans es) rfl rfl hBs (by simp) (λw2 hg hB2=>?_);exact⟨_,rfl,PshJ.sto hJ' hOs hn7 hg hB2,(Twb.refl (r:=Value.ownBlock (.slice ad xs.length ko))).box hg⟩
      case fin=>
        intro vs1 W9 hJ hG;obtain⟨htw,ad9,c9,hO9,hB9,hn9⟩:=hJ;have g0:vs1 0=.pointer (some ⟨w1.heap.size,0+0,none⟩):=hG 0 (by decide) rfl;have g1:vs1 1=.slice ad xs.length ko:=hG 1 (by decide) rfl;have g2:vs1 2=.agg #[.int .i64 x.table,.slice KA x.key.length KC,.bool x.gone,.slice VA x.val.length VC]:=hG 2 (by decide) rfl;have g6:vs1 6=.pointer (some ⟨w1.heap.size,0+0,none⟩):=hG 6 (by decide) rfl;clear hG;simp only[zaj,g0,g1,g2,g6];clear g0 g1 g2 g6;go_simp;have q9:=htw.belowB (w0:=w1) qW (λk hk=>by have:=hrr k hk;omega) (zf _);replace hO9:=hO9.unbut;rw[<-hsn.out]at hO9 hB9;clear hBW hXW hO hx hsn htw hn9;go_wp2_with fail;go_roundw;case rel=>exact⟨k+1,ad9,c9,by go_num,by omega,hO9,hB9,q9⟩
        case measure=>simp[intOf];omega
    · obtain rfl:k=d.writes.length:=by omega
      rw[yv]at hO hB;have b0:=hB.cell (i:=0) rfl;have b1:=hB.cell (i:=1) rfl;have bz2:=bz1.below qr bz1.lt;have hM2:=hM.below qr;go_wp2_with(first|(refine zab (us:=[.slice ad d.writes.length ko,.slice m1 d.marks.length mc]) (by kernel_rfl) rfl rfl rfl rfl rfl rfl bz2 rfl ?_;intro wd hgd hBd)|fail);have d0:=hBd.cell (i:=0) rfl;have d1:=hBd.cell (i:=1) rfl;obtain⟨fs,hu,_⟩:=dlS.hu;refine zD (v:=.agg #[.slice ad d.writes.length ko,.slice m1 d.marks.length mc]) (by simp[results,Tryz.results61,go_sem,loadVar,isAgg,zr hu,zaa dlS.hs,loadCellsFrom,Addr.add,d0,d1]) rfl ?_;have hz1:=hb1.size;have hzd:=hgd.size;have hB2:=hB.lt;exact⟨_,rfl,⟨ad,ko,m1,mc,w1.heap.size+1,by omega,by omega,rfl,hO.other hgd (by omega) (by omega),(hM2.other hgd (by omega) (by omega)).to (by omega) (by omega),λg hg=>by have:=(hM.block_lt g hg).2;omega⟩,q.grown hgd q.size λk e=>by injection e with e;omega⟩
theorem zvf (w:World)(t t2 t3:TypeId)(us vs ys:List Value):∃W,W=((w.alloc (.cells us.toArray t)).alloc (.cells vs.toArray t2)).alloc (.cells ys.toArray t3)/\Below w.heap.size w W/\BoxN W w.heap.size t us/\BoxN W (w.heap.size+1) t2 vs/\BoxN W (w.heap.size+1+1) t3 ys/\W.heap.size=w.heap.size+1+1+1:=by
 obtain⟨w1,h1,q1,b1,b2,s1⟩:=zg2 w t t2 us vs;rw[<-h1];have h3:Below w1.heap.size w1 (w1.alloc (.cells ys.toArray t3)):=(ze _ _).alloc (zf _) _;have s3:(w1.alloc (.cells ys.toArray t3)).heap.size=w1.heap.size+1:=yG _ _;have b3:=BoxN.new w1 t3 ys;rw[s1]at b3 s3;exact⟨_,rfl,q1.trans (h3.mono q1.size),b1.below h3 (by omega),b2.below h3 (by omega),b3,s3⟩
theorem OwnL.apart2{α β:Type}{E:Elt α}{F:Elt β}{Te Tf:TypeId}(hne:Te≠Tf){b1 l1 b2 l2:Nat}{w:World}{v1 v2:Value}{xs:List α}{ys:List β}(h1:OwnL E Te b1 l1 w v1 xs)(h2:OwnL F Tf b2 l2 w v2 ys):v1.ownBlock=none\/v1.ownBlock≠v2.ownBlock:=by
 obtain⟨_,h1,_⟩:=h1;obtain⟨_,h2,_⟩:=h2;exact zrt hne h1 h2
def zff(w:World)(r:Dl×Nat)(e:Ending)(w':World):Prop:=∃v',e=.returned (.tuple #[v',.int .i64 (r.2:Nat)])/\RdDl (λk=>w.heap.size<=k/\k<w'.heap.size) w' v' r.1/\Below w.heap.size w w'
theorem dPut_any(w:World){S S2:Nat->Prop}{v u:Value}{d:Dl}{x:Wr}(h:RdDl S w v d) (hs:smD d) (hx:RdWr S2 w u x) (hx1:x.key.length<=1000000)(hx2:x.val.length<=1000000):Calls Tryz.prog 124 #[v,u] w (zff w (putD d x)):=by
  have hd:=h;obtain⟨a,c,a2,c2,rfl,hw,hm⟩:=h;have hx0:=hx;obtain⟨KA,KC,VA,VC,rfl,hk,hv,ht⟩:=hx;obtain⟨W0,hW,q,bn,bx,bz,hsz⟩:=zvf w 41 62 41 [.slice a d.writes.length c,.slice a2 d.marks.length c2] [.int .i64 x.table,.slice KA x.key.length KC,.bool x.gone,.slice VA x.val.length VC] [.slice none 0 0,.slice none 0 0];have eA:∀args w,(callFunc 90 args).run Tryz.prog w=.ok (.enter 90 args) w:=enters_of Tryz.func90 (by kernel_rfl) rfl;have hs1:=hs.1;go_enter Tryz.func124,Tryz.ntmps124;go_upto_region 1 with(fail);rw[show((w.alloc (.cells #[.slice a d.writes.length c,.slice a2 d.marks.length c2] 41)).alloc (.cells #[.int .i64 x.table,.slice KA x.key.length KC,.bool x.gone,.slice VA x.val.length VC] 62)).alloc (.cells #[.slice none 0 0,.slice none 0 0] 41)=W0 from hW.symm];clear hW;have b0:=bn.cell (i:=0) rfl;have b1:=bn.cell (i:=1) rfl;go_wp2_with fail;refine(zdh W0 (hd.below q) hs).mono ?_;rintro e w1⟨_,rfl,⟨wa,wc,ma,mc,M,hM0,hM1,rfl,hOw,hOm,hMm⟩,hb1⟩;have q1:=q.trans (hb1.mono q.size);have z1:=hb1.size;have hOw0:=hOw.block_lt;have hOm0:=hOm.block_lt;replace hOw:=hOw.but (b:=w1.heap.size) (λk _ hk=>by omega);replace bn:=bn.below hb1 bn.lt;replace bx:=bx.below hb1 bx.lt;replace bz:=bz.below hb1 bz.lt;clear b0 b1;go_upto_region 2 with(first|(refine za2 (vs:=[.slice none 0 0,.slice none 0 0]) (by kernel_rfl) rfl rfl ?_;intro w2 hb2 hB2)|(refine zab (us:=[.slice wa d.writes.length wc,.slice ma d.marks.length mc]) (by kernel_rfl) rfl rfl rfl rfl rfl rfl hB2 rfl ?_;intro w3 hg3 hBO)|fail);go_simp;have qb3:Below w1.heap.size w1 w3:=hb2.grown hg3 hb2.size λk hk=>by injection hk with hk;omega
  have zO:=hBO.lt;replace q:=q1.trans (qb3.mono q1.size);replace bn:=bn.below qb3 bn.lt;replace bx:=bx.below qb3 bx.lt;have hBZ:=bz.below qb3 bz.lt;replace hOw:=hOw.below qb3;replace hOm:=hOm.below qb3;obtain⟨BO,eBO⟩:∃BO,BO=w1.heap.size:=⟨_,rfl⟩;rw[<-eBO]at hBO zO hOw0 hOm0 hOw hM1;rw[<-eBO];have zBO:W0.heap.size<=BO:=by omega
  clear hb2 hB2 hg3 qb3 q1 eBO bz hb1 z1;have b0:=bn.cell (i:=0) rfl;have b1:=bn.cell (i:=1) rfl;go_wp2_with fail;refine(zd7 w3 (hd.below q)).mono ?_;rintro e w4⟨rfl,hb4⟩;replace q:=q.trans (hb4.mono q.size);replace bn:=bn.below hb4 bn.lt;replace bx:=bx.below hb4 bx.lt;replace hBO:=hBO.below hb4 hBO.lt;replace hBZ:=hBZ.below hb4 hBZ.lt;replace hOw:=hOw.below hb4;replace hOm:=hOm.below hb4;clear b0 b1;by_cases hok:okD d
  · have dok:decide (okD d)=true:=zk hok
    have b0:=bx.cell (i:=0) rfl;have b1:=bx.cell (i:=1) rfl;have b2:=bx.cell (i:=2) rfl;have b3:=bx.cell (i:=3) rfl;have z4:=hb4.size;clear hb4;go_wp2_with fail;refine(zlu w4 (hx0.below q)).mono ?_;rintro e w5⟨rfl,hb5⟩;replace q:=q.trans (hb5.mono q.size);replace bn:=bn.below hb5 bn.lt;replace bx:=bx.below hb5 bx.lt;replace hBO:=hBO.below hb5 hBO.lt;replace hBZ:=hBZ.below hb5 hBZ.lt;replace hOw:=hOw.below hb5;replace hOm:=hOm.below hb5;have z5:=hb5.size;clear b0 b1 b2 b3 hb5;by_cases hmay:mayW x
    · have dm:decide (mayW x)=true:=zk hmay
      have b0:=bn.cell (i:=0) rfl;by_cases hfull:d.writes.length=20
      · have d20:((d.writes.length:Int)==20)=true:=zK.2 (by omega)
        have HK:=Lib.hid (show putD d x=(d,80)by unfold putD;rw[zi ⟨hok,hmay⟩,zi hfull]);clear hfull;have o0:=hBO.cell (i:=0) rfl;have o1:=hBO.cell (i:=1) rfl;go_wp2_with(first|(refine zab (us:=[.slice wa d.writes.length wc,.slice ma d.marks.length mc]) (by kernel_rfl) rfl rfl rfl rfl rfl rfl hBZ rfl ?_;intro wd hgd hBd)|fail);have d0:=hBd.cell (i:=0) rfl;have d1:=hBd.cell (i:=1) rfl;obtain⟨fs,hu,_⟩:=dlS.hu;refine zD (v:=.tuple #[.agg #[.slice wa d.writes.length wc,.slice ma d.marks.length mc],.int .i64 80]) (by simp[results,Tryz.results124,go_sem,loadVar,isAgg,zr hu,zaa dlS.hs,loadCellsFrom,Addr.add,d0,d1]) rfl ?_;rw[zff,HK.out];exact⟨_,rfl,⟨wa,wc,ma,mc,rfl,(hOw.unbut.other hgd (by omega) (by omega)).rdS λk hk hl=>⟨by omega,hl⟩,(hOm.other hgd (by omega) (by omega)).rdS λk hk hl=>⟨by omega,hl⟩⟩,q.grown hgd q.size λk e=>by injection e with e;omega⟩
      · have d20:((d.writes.length:Int)==20)=false:=zt.2 (by omega)
        have HK:=Lib.hid (show putD d x=(⟨d.writes++[x],d.marks⟩,0)by unfold putD;rw[zi ⟨hok,hmay⟩,zh hfull]);go_upto_region 6 with(fail);clear b0;have hrW:∀k,Value.ownBlock (.slice wa d.writes.length wc)=some k->k<w5.heap.size:=λk hk=>by have:=hOw0 k hk;omega
        have hlo:M<=w5.heap.size:=by omega
        have hxr:some (w.heap.size+1)≠Value.ownBlock (.slice wa d.writes.length wc):=λe=>by have:=hOw0 _ e.symm;omega
        have hxb:w.heap.size+1≠BO:=by omega
        have hbr:Value.ownBlock (.slice wa d.writes.length wc)≠some BO:=λe=>by have:=hOw0 _ e;omega
        refine zai (K:=λA B=>Twb A B (Value.ownBlock (.slice wa d.writes.length wc)) (BO)) (by kernel_rfl) (by kernel_rfl) [3,5,7] (by kernel_rfl) [lEq (.pointer (some ⟨BO,0+0,none⟩)),lEq (.slice wa d.writes.length wc),lEq (.agg #[.int .i64 x.table,.slice KA x.key.length KC,.bool x.gone,.slice VA x.val.length VC]),lAny,pRow Elt.wr 62 (w5) (Value.ownBlock (.slice wa d.writes.length wc)) (BO) x hrW hBO.lt,lAny,lEq (.pointer (some ⟨BO,0+0,none⟩)),lAny] (PshJ Elt.wr 62 (M) (M) (Value.ownBlock (.slice wa d.writes.length wc)) (BO) 41 [.slice wa d.writes.length wc,.slice ma d.marks.length mc] 0 (w5) (d.writes) x) PshJ.below (show Below (w5).heap.size (w5) (w5)from ze _ _)
          ⟨?o0,?o1,?o2,?o3,?o4,?o5,?o6,?o7,trivial⟩ ?fin
        case o0=>
          refine LnOp.sd (λA va w' k hF hT hk hJ hb hu hp hd=>?_);have e1:=hF 6 rfl;exact zaf dlS rfl (e1) (by omega) ⟨_,rfl,rfl,ze _ _⟩
        case o1=>
          refine LnOp.sd (λA va w' k hF hT hk hJ hb hu hp hd=>?_);have e1:=(hT 24 0 (by simp) rfl).trans (hd ⟨0,.data⟩ (by simp) rfl rfl);have hk1:k<=1:=hb 1 5 rfl (by kernel_rfl);have hJ0:=PshJ.early hJ (by simp only[zX,zp];omega);exact zae (e:=62) rfl e1 (by kernel_rfl) ((hBO.below hJ0 hBO.lt).cell (i:=0) rfl) ⟨_,rfl,rfl,ze _ _⟩
        case o2=>
          refine LnOp.sd (λA va w' k hF hT hk hJ hb hu hp hd=>?_);have e1:=hF 3 rfl;have hX2:=(PshJ.two hJ).boxN bx hxr hxb;exact zdj wrS rfl e1 (hX2.cell (i:=0) rfl) (hX2.cell (i:=1) rfl) (hX2.cell (i:=2) rfl) (hX2.cell (i:=3) rfl) ⟨_,rfl,rfl,ze _ _⟩
        case o3=>
          refine LnOp.line 0 rfl rfl (λA va w' hF hT hJ hu hd=>?_);have e1:=(hT 26 2 (by simp) rfl).trans (hd ⟨2,.data⟩ (by simp) rfl rfl);have hJ0:Below (w5).heap.size (w5) w':=hJ;refine zah rfl eA (by simp only[zE,zn,zo,e1]) ((zf6 w' (hx0.below (q.trans (hJ0.mono q.size))) hx1 hx2).mono ?_);rintro e w2 ⟨v2,rfl,⟨ka,kc,va2,vc,rfl,hk2,hv2,ht2⟩,hb2⟩;have hR:Elt.wr.R (λk=>w5.heap.size<=k/\k<w2.heap.size) w2 x (wrC x (.slice ka x.key.length kc) (.slice va2 x.val.length vc)):=⟨_,_,rfl,hk2.weak λk hk=>⟨zv hJ0.size hk.1,hk.2⟩,hv2.weak λk hk=>⟨zv hJ0.size hk.1,hk.2⟩,ht2⟩;exact⟨_,rfl,_,rfl,⟨hJ0.trans (hb2.mono hJ0.size),_,rfl,hR⟩,(Twb.refl (r:=Value.ownBlock (.slice wa d.writes.length wc)) (b:=BO)).below hb2⟩
        case o4=>
          refine LnOp.sd (λA va w' k hF hT hk hJ hb hu hp hd=>?_);have x1:A.eval (.tmp 27)=va 3:=hT 27 3 (by simp) rfl;obtain rfl:k=1:=by
            have h1:=hp ⟨3,.data⟩ (by simp) rfl 0 rfl;have h2:=hb 1 5 rfl (by kernel_rfl);omega
          obtain⟨hJ0,us,eus,hR⟩:=hJ;have hb1:Below w'.heap.size w' (w'.alloc (.cells us.toArray 62)):=(ze _ _).alloc (zf _) _;exact zba wrP rfl x1 eus (Elt.len _ hR) (by decide) (by decide) ⟨_,rfl,⟨_,us,rfl,hJ0.size,by simp only[World.alloc,yf],Elt.weak _ (Elt.below hR hb1) λk hk=>⟨hk.1,zm hk.2 hb1.size⟩⟩,hb1⟩
        case o5=>
          refine LnOp.line 1 rfl rfl (λA va w' hF hT hJ hu hd=>?_);have e1:=(hT 25 1 (by simp) rfl).trans (hd ⟨1,.data⟩ (by simp) rfl rfl);have x2:A.eval (.tmp 28)=va 4:=hT 28 4 (by simp) rfl;have y2:=hd ⟨4,.data⟩ (by simp) rfl rfl;have hJ':=hJ;obtain⟨hJ0,_⟩:=hJ;obtain⟨g,us,eg,hg0,hgc,hgR⟩:∃g,∃us:List Value,va 4=.slice (some ⟨g,0,none⟩) 1 1/\(w5).heap.size<=g/\w'.heap[g]?=some (.cells us.toArray 62 (0,0))/\Elt.R Elt.wr (λk=>(w5).heap.size<=k/\k<w'.heap.size) w' x us:=y2;refine zd4 (E:=Elt.but Elt.wr (BO)) (ys:=[x]) wrP rfl e1 (hOw.below hJ0) (x2.trans eg) (λj u hj=>by rw[zN,World.cell?,hgc];simpa using hj) (Flat.single (Elt.weak Elt.wr hgR λk hk=>⟨hk,λe=>by have:=hk.1;have:=hBO.lt;omega⟩)) (λk hk=>⟨zv hlo hk.1,hk.2,λe=>by have:=hrW k e.symm;omega⟩) (zv hlo hJ0.size) (λad7 k7 cap7 w2 h2 hg h3=>?_) (by simp;omega);obtain rfl:k7=(d.writes++[x]).length:=h2.len;exact⟨_,rfl,PshJ.app hJ' hBO h2 hg hbr h3,(Twb.refl (b:=BO)).row hg⟩
        case o6=>
          refine LnOp.sd (λA va w' k hF hT hk hJ hb hu hp hd=>?_);have e1:=hF 6 rfl;exact zaf dlS rfl (e1) (by omega) ⟨_,rfl,rfl,ze _ _⟩
        case o7=>
          refine LnOp.line 2 rfl rfl (λA va w' hF hT hJ hu hd=>?_);have e1:=(hT 30 6 (by simp) rfl).trans (hd ⟨6,.data⟩ (by simp) rfl rfl);have x2:A.eval (.tmp 29)=va 5:=hT 29 5 (by simp) rfl;have hJ':=hJ;obtain⟨hJ0,ad7,c7,es,hOs,hBs,hn7⟩:=hJ;refine zeq (j:=0) rfl (by kernel_rfl) e1 (x2.trans es) rfl rfl hBs (by simp) (λw2 hg hB2=>?_);exact⟨_,rfl,PshJ.sto hJ' hOs hn7 hg hB2,(Twb.refl (r:=Value.ownBlock (.slice wa d.writes.length wc))).box hg⟩
        case fin=>
          intro vs1 W9 hJ hG;obtain⟨htw,ad9,c9,hO9,hB9,hn9⟩:=hJ;have g0:vs1 0=.pointer (some ⟨BO,0+0,none⟩):=hG 0 (by decide) rfl;have g1:vs1 1=.slice wa d.writes.length wc:=hG 1 (by decide) rfl;have g2:vs1 2=.agg #[.int .i64 x.table,.slice KA x.key.length KC,.bool x.gone,.slice VA x.val.length VC]:=hG 2 (by decide) rfl;have g6:vs1 6=.pointer (some ⟨BO,0+0,none⟩):=hG 6 (by decide) rfl;clear hG;simp only[zaj,g0,g1,g2,g6];clear g0 g1 g2 g6;go_simp;have hBZ9:=htw.boxN hBZ (λe=>by have:=hOw0 _ e.symm;omega) (by omega);have q9:Below w.heap.size w W9:=htw.belowB q (λk hk=>by have:=hOw0 k hk;omega) (by omega);have hap:=hOm.apart2 (by decide) hOw;have hOm9:=hOm.num2 (w':=W9) λg hg=>htw.block g (by have:=hOm0 g hg;omega) (λe=>by
            rcases hap with h|h
            · rw[hg]at h;cases h
            ·exact h (by rw[hg,e])) (by have:=hOm0 g hg;omega)
          replace hO9:=hO9.unbut;obtain⟨L9,hL9⟩:∃L9,L9=(d.writes++[x]).length:=⟨_,rfl⟩;simp only[List.set_cons_zero]at hB9;rw[<-hL9]at hO9 hB9;replace hL9:=Lib.hid hL9;have o0:=hB9.cell (i:=0) rfl;have o1:=hB9.cell (i:=1) rfl;clear hOw hOm hBO htw;go_wp2_with(first|(refine zab (us:=[.slice ad9 L9 c9,.slice ma d.marks.length mc]) (by kernel_rfl) rfl rfl rfl rfl rfl rfl hBZ9 rfl ?_;intro wd hgd hBd)|fail);have d0:=hBd.cell (i:=0) rfl;have d1:=hBd.cell (i:=1) rfl;obtain⟨fs,hu,_⟩:=dlS.hu;refine zD (v:=.tuple #[.agg #[.slice ad9 L9 c9,.slice ma d.marks.length mc],.int .i64 0]) (by simp[results,Tryz.results124,go_sem,loadVar,isAgg,zr hu,zaa dlS.hs,loadCellsFrom,Addr.add,d0,d1]) rfl ?_;rw[zff,HK.out];have hL:=hL9.out;subst hL;exact⟨_,rfl,⟨ad9,c9,ma,mc,rfl,(hO9.other hgd (by omega) (by omega)).rdS λk hk hl=>⟨by omega,hl⟩,(hOm9.other hgd (by omega) (by omega)).rdS λk hk hl=>⟨by omega,hl⟩⟩,q9.grown hgd q9.size λk e=>by injection e with e;omega⟩
    · have dm:decide (mayW x)=false:=zj hmay
      have HK:=Lib.hid (show putD d x=(d,1)by unfold putD;rw[zh (λh=>hmay h.2)]);have o0:=hBO.cell (i:=0) rfl;have o1:=hBO.cell (i:=1) rfl;go_wp2_with(first|(refine zab (us:=[.slice wa d.writes.length wc,.slice ma d.marks.length mc]) (by kernel_rfl) rfl rfl rfl rfl rfl rfl hBZ rfl ?_;intro wd hgd hBd)|fail);have d0:=hBd.cell (i:=0) rfl;have d1:=hBd.cell (i:=1) rfl;obtain⟨fs,hu,_⟩:=dlS.hu;refine zD (v:=.tuple #[.agg #[.slice wa d.writes.length wc,.slice ma d.marks.length mc],.int .i64 1]) (by simp[results,Tryz.results124,go_sem,loadVar,isAgg,zr hu,zaa dlS.hs,loadCellsFrom,Addr.add,d0,d1]) rfl ?_;rw[zff,HK.out];exact⟨_,rfl,⟨wa,wc,ma,mc,rfl,(hOw.unbut.other hgd (by omega) (by omega)).rdS λk hk hl=>⟨by omega,hl⟩,(hOm.other hgd (by omega) (by omega)).rdS λk hk hl=>⟨by omega,hl⟩⟩,q.grown hgd q.size λk e=>by injection e with e;omega⟩
  · have dok:decide (okD d)=false:=zj hok
    have HK:=Lib.hid (show putD d x=(d,1)by unfold putD;rw[zh (λh=>hok h.1)]);have z4:=hb4.size;have o0:=hBO.cell (i:=0) rfl;have o1:=hBO.cell (i:=1) rfl;go_wp2_with(first|(refine zab (us:=[.slice wa d.writes.length wc,.slice ma d.marks.length mc]) (by kernel_rfl) rfl rfl rfl rfl rfl rfl hBZ rfl ?_;intro wd hgd hBd)|fail);have d0:=hBd.cell (i:=0) rfl;have d1:=hBd.cell (i:=1) rfl;obtain⟨fs,hu,_⟩:=dlS.hu;refine zD (v:=.tuple #[.agg #[.slice wa d.writes.length wc,.slice ma d.marks.length mc],.int .i64 1]) (by simp[results,Tryz.results124,go_sem,loadVar,isAgg,zr hu,zaa dlS.hs,loadCellsFrom,Addr.add,d0,d1]) rfl ?_;rw[zff,HK.out];exact⟨_,rfl,⟨wa,wc,ma,mc,rfl,(hOw.unbut.other hgd (by omega) (by omega)).rdS λk hk hl=>⟨by omega,hl⟩,(hOm.other hgd (by omega) (by omega)).rdS λk hk hl=>⟨by omega,hl⟩⟩,q.grown hgd q.size λk e=>by injection e with e;omega⟩
theorem plS:StP Tryz.prog 180 2:=StP.of (by kernel_rfl)
theorem plEqual(m n:Int) (xs ys:List UInt8) (w:World):(Op.equalIn 10000 180 (.agg #[.int .i64 m,.string (zap xs)]) (.agg #[.int .i64 n,.string (zap ys)])).run Tryz.prog w=.ok (decide ((⟨m,xs⟩:Plc)=⟨n,ys⟩)) w:=by
 have hS:Tryz.prog.underlying 180=some (.struct (Tryz.prog.fieldsOf 180)):=by kernel_rfl
 have hp:Tryz.prog.stoodInHeld 180=false:=by kernel_rfl
 have u3:Tryz.prog.underlying 3=some (.int .i64):=by kernel_rfl
 have u9:Tryz.prog.underlying 9=some .string:=by kernel_rfl
 rw[show(10000:Nat)=9999+1 from rfl,run_equalIn_agg w 9999 180 _ _ hS hp];simp only[Program.fieldsOf,Tryz.underlying180];go_simp;by_cases h1:m=n<;>by_cases h2:xs=ys<;>simp[h1,h2,zap]
section
variable {t : TypeId} {o : Oper} {a : Act} {K : Act → World → Prop} {Q : Exit → Act → World → Prop} {w : World}
theorem wp_eqP{x y:Operand}{m n:Int}{xs ys:List UInt8}(ho:o.op=.binOp .eql 180 x y t)(hx:a.eval x=.agg #[.int .i64 m,.string (zap xs)])(hy:a.eval y=.agg #[.int .i64 n,.string (zap ys)])(h:K (a.put o.dst (.bool (decide ((⟨m,xs⟩:Plc)=⟨n,ys⟩)))) w):o.wp Tryz.prog a w K Q:=by
 have hm:Tryz.prog.eqGuardType Tryz.prog.depth 180=false:=by kernel_rfl
 refine zcb ?_ h;simp only[execOp,ho,hx,hy];simp[run_eqGuard_agg w _ 180 _ _ _ _ hm,run_eql_struct,plEqual,go_sem]
end
theorem zj6 (w:World){S:Nat->Prop}{v:Value}{x:Wr}(h:RdWr S w v x):Calls Tryz.prog 152 #[v] w λe w'=>e=.returned (.agg #[.int .i64 x.table,.string (zap x.key)])/\Below w.heap.size w w':=by
 obtain⟨a,c,a2,c2,rfl,hk,hv,ht⟩:=h;have q:Below w.heap.size w ((w.alloc (.cells #[.int .i64 x.table,.slice a x.key.length c,.bool x.gone,.slice a2 x.val.length c2] 62)).alloc (.cells #[.int .i64 0,.string ByteArray.empty] 180)):=((ze _ w).alloc (zf _) _).alloc (by simp) _;go_enter Tryz.func152,Tryz.ntmps152;go_wp2_with(first|(refine zc9 byP rfl rfl rfl ((hk.below q).rd) ?_)|fail);have b2:=BoxN.new (w.alloc (.cells #[.int .i64 x.table,.slice a x.key.length c,.bool x.gone,.slice a2 x.val.length c2] 62)) 180 [.int .i64 x.table,.string (zap x.key)];have s1:(w.alloc (.cells #[.int .i64 x.table,.slice a x.key.length c,.bool x.gone,.slice a2 x.val.length c2] 62)).heap.size=w.heap.size+1:=yG _ _;rw[s1]at b2;have d0:=b2.cell (i:=0) rfl;have d1:=b2.cell (i:=1) rfl;obtain⟨fs,hu,_⟩:=plS.hu;exact zD (v:=.agg #[.int .i64 x.table,.string (zap x.key)]) (by simp[results,Tryz.results152,go_sem,loadVar,isAgg,zr hu,zaa plS.hs,loadCellsFrom,Addr.add,d0,d1]) rfl ⟨rfl,((ze _ w).alloc (zf _) _).alloc (by simp) _⟩
def CalJ (W:World)(u:Value):List Value->World->Prop
 |[],V=>Below W.heap.size W V
 |v::_,V=>Below W.heap.size W V/\v=u
theorem CalJ.base{W V:World}{u:Value}:∀{l:List Value},CalJ W u l V->Below W.heap.size W V
 |[],h=>h
 |_::_,h=>h.1
theorem CalJ.below{W:World}{u:Value}:∀(l:List Value)(V V':World),CalJ W u l V->Below V.heap.size V V'->CalJ W u l V'
 |[],_,_,h,hb=>y8 h (hb.mono (y9 h))
 |_::_,_,_,⟨h,e⟩,hb=>⟨h.trans (hb.mono h.size),e⟩
theorem zsa (w:World){S:Nat->Prop}{v:Value}{x:Wr}{p:Plc}{pb:Nat}(h:RdWr S w v x)(bp:BoxN w pb 180 [.int .i64 p.table,.string (zap p.key)]):Calls Tryz.prog 151 #[v,.pointer (some ⟨pb,0,none⟩)] w λe w'=>e=.returned (.bool (decide (x.plc=p)))/\Below w.heap.size w w':=by
 have hx:=h;obtain⟨KA,KC,VA,VC,rfl,hk,hv,ht⟩:=h;have eP:∀args w,(callFunc 152 args).run Tryz.prog w=.ok (.enter 152 args) w:=enters_of Tryz.func152 (by kernel_rfl) rfl;have bx:=BoxN.new w 62 [.int .i64 x.table,.slice KA x.key.length KC,.bool x.gone,.slice VA x.val.length VC];obtain⟨W,hW⟩:∃W,W=w.alloc (.cells #[.int .i64 x.table,.slice KA x.key.length KC,.bool x.gone,.slice VA x.val.length VC] 62):=⟨_,rfl⟩;have q:Below w.heap.size w W:=by rw[hW];exact(ze _ _).alloc (zf _) _
 rw[show w.alloc (.cells [.int .i64 x.table,.slice KA x.key.length KC,.bool x.gone,.slice VA x.val.length VC].toArray 62)=W from hW.symm]at bx;replace bp:=bp.below q bp.lt;go_enter Tryz.func151,Tryz.ntmps151;go_upto_region 1 with(fail);rw[<-hW];clear hW;refine zai (K:=λ_ _=>True) (by kernel_rfl) (by kernel_rfl) [1] (by kernel_rfl) [lEq (.agg #[.int .i64 x.table,.slice KA x.key.length KC,.bool x.gone,.slice VA x.val.length VC]),lAny,lEq (.agg #[.int .i64 p.table,.string (zap p.key)]),lEq (.bool (decide (x.plc=p))),lEq (.bool (decide (x.plc=p)))] (CalJ W (.agg #[.int .i64 x.table,.string (zap x.key)])) CalJ.below (show Below W.heap.size W W from ze _ _)
  ⟨?o0,?o1,?o2,?o3,?o4,trivial⟩ ?fin
 case o0=>
  refine LnOp.sd (λA va w' k hF hT hk hJ hb hu hp hd=>?_);have e1:=hF 2 rfl;have hX2:=bx.below (CalJ.base hJ) bx.lt;exact zdj wrS rfl e1 (hX2.cell (i:=0) rfl) (hX2.cell (i:=1) rfl) (hX2.cell (i:=2) rfl) (hX2.cell (i:=3) rfl) ⟨_,rfl,rfl,ze _ _⟩
 case o1=>
  refine LnOp.line 0 rfl rfl (λA va w' hF hT hJ hu hd=>?_);have e1:=(hT 4 0 (by simp) rfl).trans (hd ⟨0,.data⟩ (by simp) rfl rfl);have hJ0:Below W.heap.size W w':=hJ;refine zah rfl eP (by simp only[zE,zn,zo,e1]) ((zj6 w' ((hx.below q).below hJ0)).mono ?_);rintro e w2⟨rfl,hb2⟩;exact⟨_,rfl,_,rfl,⟨hJ0.trans (hb2.mono hJ0.size),rfl⟩,trivial⟩
 case o2=>
  refine LnOp.sd (λA va w' k hF hT hk hJ hb hu hp hd=>?_);have e1:=hF 1 rfl;have hP2:=bp.below (CalJ.base hJ) bp.lt;exact ze0 plS rfl e1 (hP2.cell (i:=0) rfl) (hP2.cell (i:=1) rfl) ⟨_,rfl,rfl,ze _ _⟩
 case o3=>
  refine LnOp.sd (λA va w' k hF hT hk hJ hb hu hp hd=>?_);have x1:A.eval (.tmp 5)=va 1:=hT 5 1 (by simp) rfl;have e2:=(hT 6 2 (by simp) rfl).trans (hd ⟨2,.data⟩ (by simp) rfl rfl);obtain rfl:k=1:=by
   have h1:=hp ⟨1,.data⟩ (by simp) rfl 0 rfl;have h3:k<=1:=by assumption
   omega
  obtain⟨_,hv⟩:Below W.heap.size W w'/\va 1=.agg #[.int .i64 x.table,.string (zap x.key)]:=hJ;exact wp_eqP rfl (x1.trans hv) e2 ⟨_,rfl,rfl,ze _ _⟩
 case o4=>
  refine LnOp.sd (λA va w' k hF hT hk hJ hb hu hp hd=>?_);have e1:=(hT 7 3 (by simp) rfl).trans (hd ⟨3,.data⟩ (by simp) rfl rfl);exact yV _ rfl ⟨_,rfl,e1,ze _ _⟩
 case fin=>
  intro vs1 W9 hJ hG;have g3:vs1 3=.bool (decide (x.plc=p)):=hG 3 (by decide) rfl;have g4:vs1 4=.bool (decide (x.plc=p)):=hG 4 (by decide) rfl;have hb9:Below W.heap.size W W9:=CalJ.base hJ;clear hG hJ;simp only[zaj,g3,g4];clear g3 g4;go_simp;go_wp2_with fail;go_ret;exact⟨rfl,q.trans (hb9.mono q.size)⟩
attribute [local go_sem] xe
structure WrAt (w0:World) where
 i:Nat
 t:Wr
 KA:Option Addr
 KC:Nat
 VA:Option Addr
 VC:Nat
 rk:RdS (·<w0.heap.size) w0 (.slice KA t.key.length KC) t.key
 rv:RdS (·<w0.heap.size) w0 (.slice VA t.val.length VC) t.val
 ht:W64 t.table
 hk:t.key.length<=1000000
 hv:t.val.length<=1000000
def WrAt.val{w0:World}(x:WrAt w0):Value:=.agg #[.int .i64 x.t.table,.slice x.KA x.t.key.length x.KC,.bool x.t.gone,.slice x.VA x.t.val.length x.VC]
def WrAt.enc{w0:World}(x:WrAt w0):Array Value:=#[.int .i64 (x.i:Int),x.val]
theorem WrAt.rd{w0 w:World}(x:WrAt w0)(h:Below w0.heap.size w0 w):RdWr (·<w0.heap.size) w x.val x.t:=
 ⟨x.KA,x.KC,x.VA,x.VC,rfl,x.rk.below h,x.rv.below h,x.ht⟩
def KpL(n₀:Nat)(A B:World):Prop:=Below n₀ A B/\∀(j:Nat)(c:Array Value)(r:Nat×Nat),A.heap[j]?=some (.cells c 38 r)->B.heap[j]?=A.heap[j]?
theorem KpL.trans{n₀:Nat}{A B C:World}(h:KpL n₀ A B)(k:KpL n₀ B C):KpL n₀ A C:=⟨h.1.trans k.1,λj c r e=>(k.2 j c r ((h.2 j c r e).trans e)).trans (h.2 j c r e)⟩
theorem KpL.refl(n₀:Nat)(A:World):KpL n₀ A A:=⟨ze _ _,λ_ _ _ _=>rfl⟩
theorem KpL.of{n₀:Nat}{A B:World}(h:Below A.heap.size A B)(hn:n₀<=A.heap.size):KpL n₀ A B:=⟨h.mono hn,λj _ _ e=>h.block j (zJ.1 e).1⟩
theorem KpL.box{n₀ b:Nat}{A B:World}{vs:List Value}(h:KpL n₀ A B)(t:BoxN A b 38 vs):BoxN B b 38 vs:=(h.2 b _ _ t).trans t
def PreW{w0:World}(ls:List Wr)(ys:List (WrAt w0)):Prop:=∃r,ls=ys.map (·.t)++r
theorem bwd1_in(l:Nat){w0:World}{J Jx:List (WrAt w0)->World->Prop}{sb N:Nat}{a:Option Addr}{n c:Nat}{ls:List Wr}(hl:RdL Elt.wr (·<w0.heap.size) w0 (.slice a n c) ls) (hs:∀x∈ls,x.key.length<=1000000/\x.val.length<=1000000) (hn:ls.length<=1000000)(hY:∀pre x W,J pre W->pre.length<N->YieldAt Fence.wide 1 Tryz.prog l x.enc W λe W'=>(e=.returned (.bool true)/\J (pre++[x]) W'/\KpL w0.heap.size W W')\/(e=.returned (.bool false)/\Jx (pre++[x]) W'))
    (W:World) (hW:Below w0.heap.size w0 W)(hsb:BoxN W sb 38 [.slice a n c])(h0:J [] W)(hN:ls.length<=N):
    CallsIn Fence.wide 2 Tryz.prog 172 #[.func (.yield l) #[] #[],.pointer (some ⟨sb,0,none⟩)] W λe W'=>(∃v,e=.returned v)/\((∃ys:List (WrAt w0),ys.map (·.t)=ls.reverse/\J ys W')\/(∃pre,PreW ls.reverse pre/\Jx pre W')):=by
  obtain⟨rfl,hnc,hcm⟩:=hl.len;have b0:=hsb.cell (i:=0) rfl;refine callsIn_of_wp Tryz.func172 rfl trivial ?_ rfl;simp only[Tryz.ntmps172,yj,zI,zM,Nat.reduceAdd,Nat.reduceSub,xz,xA,xB,xC,yw,ym];gi_wp2;clear b0;gi_loopw [3](λv wr=>∃(k:Nat)(i:Int)(pre:List (WrAt w0)),v=.int .i64 i/\i=(k:Int)-1/\k<=ls.length/\pre.map (·.t)=(ls.drop k).reverse/\J pre wr/\KpL w0.heap.size W wr)(λv _=>(intOf v+1).toNat)
  case atStart=>exact⟨ls.length,_,[],rfl,rfl,zf _,by simp,h0,KpL.refl _ _⟩
  case round=>
    obtain⟨k,i,pre,rfl,hi,hkl,hpre,hJ,hK⟩:=hrel;cases k with
    |zero=>
      have d0:decide (0<=i)=false:=zj (by omega);replace hi:=Lib.hid hi;gi_wp2;go_end0;exact⟨⟨_,rfl⟩,.inl ⟨pre,by simpa using hpre,hJ⟩⟩
    |succ j=>
      obtain rfl:i=(j:Int):=by omega
      clear hi;have hlt:j<ls.length:=by omega
      obtain⟨b,off,KA,KC,VA,VC,rfl,hb,c0,c1,c2,c3,hk1,hk2,hw64⟩:=hl.wr j hlt;obtain⟨hx1,hx2⟩:=hs _ (zL hlt);have q:Below w0.heap.size w0 wr:=hW.trans hK.1;have e0:=(q.cell (p:=⟨b,off+j*4,none⟩) hb).trans c0;have e1:=(q.cell (p:=⟨b,off+j*4+1,none⟩) hb).trans c1;have e2:=(q.cell (p:=⟨b,off+j*4+2,none⟩) hb).trans c2;have e3:=(q.cell (p:=⟨b,off+j*4+3,none⟩) hb).trans c3;have b1:=(hK.box hsb).cell (i:=0) rfl;have hpl:pre.length<N:=by
        have:=congrArg List.length hpre;rw[zX,List.length_reverse,zF]at this;omega
      have hy0:=hY pre ⟨j,ls[j],KA,KC,VA,VC,hk1,hk2,hw64,hx1,hx2⟩ wr hJ hpl;obtain⟨fn,tmps,assign,body,hy,hR⟩:=hy0;dsimp only[WrAt.enc,WrAt.val]at hy;have hnew:(pre++[(⟨j,ls[j],KA,KC,VA,VC,hk1,hk2,hw64,hx1,hx2⟩:WrAt w0)]).map (·.t)=(ls.drop j).reverse:=by
        rw[yW,hpre,yQ hlt,List.reverse_cons];rfl
      replace hpre:=Lib.hid hpre;clear c0 c1 c2 c3;gi_wp2;refine hR.mono ?_;rintro e W3 (⟨rfl,hJ3,hk3⟩|⟨rfl,hJx3⟩)
      · clear b1 e0 e1 e2 e3
        gi_wp2;exact⟨⟨j,_,_,rfl,rfl,by omega,hnew,hJ3,hK.trans hk3⟩,by simp[intOf]⟩
      · clear b1 e0 e1 e2 e3
        gi_wp2;refine zD (v:=.tuple #[]) (by simp[results,Tryz.results172,go_sem]) rfl ?_;refine⟨⟨_,rfl⟩,.inr ⟨_,⟨(ls.take j).reverse,?_⟩,hJx3⟩⟩;rw[hnew,<-List.reverse_append,yz]
theorem zvd{w0 w:World}{sb N:Nat}{a:Option Addr}{n c:Nat}{ls:List Wr}(hl:RdL Elt.wr (·<w0.heap.size) w0 (.slice a n c) ls)(hs:∀x∈ls,x.key.length<=1000000/\x.val.length<=1000000)(hn:ls.length<=1000000)(hw:Below w0.heap.size w0 w)(hsb:BoxN w sb 38 [.slice a n c])(hN:ls.length<=N):SeqStopsK Fence.wide 2 Tryz.prog 172 #[.pointer (some ⟨sb,0,none⟩)] WrAt.enc (KpL w0.heap.size) (λys:List (WrAt w0)=>ys.map (·.t)=ls.reverse) (PreW ls.reverse) N w:=λl _ _ W hW _ _ hY h0=>
 bwd1_in l hl hs hn hY W (hw.trans (hW.mono hw.size)) (hsb.below hW hsb.lt) h0 hN
theorem bwd_any(w:World)(a:Option Addr)(m c:Nat):Calls Tryz.prog 153 #[.slice a m c] w λe w'=>e=.returned (.func (.func 172) #[] #[.pointer (some ⟨w.heap.size,0,none⟩)])/\w'=w.alloc (.cells #[.slice a m c] 38):=by
 go_enter Tryz.func153,Tryz.ntmps153;go_wp2;go_ret;exact⟨rfl,rfl⟩
attribute [local go_sem] xe
def noWr:Wr:=⟨0,[],false,[]⟩
def zqw (w:World)(r:Option Wr)(e:Ending)(w':World):Prop:=∃v',e=.returned (.tuple #[v',.bool r.isSome])/\RdWr (λk=>w.heap.size<=k/\k<w'.heap.size) w' v' (r.getD noWr)/\Below w.heap.size w w'
theorem zh6{S:Nat->Prop}{v:Value}{t:List UInt8}{X Y:World}{row:Option Nat}(h:RdS S X v t)(hg:X.grownBy Y row)(hr:∀r,row=some r->∃o:Obj,X.heap[r]?=some o/\o.isCells=false):RdS S Y v t:=by
  rcases h with h|⟨b,off,cap,hv,hb,h1,h2,hc⟩
  ·exact .inl h
  · by_cases h0:t=[]
    ·subst h0;exact .inl ⟨_,_,hv,h2,rfl⟩
    · have hpos:0<t.length:=xV.2 h0
      have hcell:=hc 0 _ (bv_get t 0 hpos);have hk:Y.heap[b]?=X.heap[b]?:=hg.block b (zad hcell) λe=>by
        obtain⟨o,ho,hcl⟩:=hr b e.symm;simp only[World.cell?,ho]at hcell;cases o<;>simp[Obj.isCells]at hcl hcell
      exact .inr ⟨b,off,cap,hv,hb,h1,h2,λj u hj=>(zag hk _).trans (hc j u hj)⟩
theorem zd0{B b:Nat}{w w':World}{t:TypeId}{vs:List Value}(hb:BoxN w b t vs)(hg:w.grownBy w' (some b)):KeepsFrom B w w':=
 ⟨hg.size,λk o _ hk hc=>(hg.block k (zJ.1 hk).1 λe=>by
  injection e with e;subst e;rw[show w.heap[k]?=_ from hb]at hk;cases hk;cases hc).trans hk⟩
theorem zc5{B:Nat}{w w':World}(h:Below w.heap.size w w'):KeepsFrom B w w':=KeepsFrom.of_grownBy (za4 h none) (λj e=>by cases e)
theorem kpL_boxN{n₀ b:Nat}{w w':World}{t:TypeId}{vs:List Value}(hb:BoxN w b t vs)(hg:w.grownBy w' (some b))(hn:n₀<=b)(hn2:n₀<=w.heap.size)(ht:t≠38):KpL n₀ w w':=
 ⟨(ze _ _).grown hg hn2 λk e=>by injection e with e;omega,λj _ _ e=>hg.block j (zJ.1 e).1 λe2=>by
  injection e2 with e2;subst e2;rw[show w.heap[j]?=_ from hb]at e;injection e with e;injection e with _ e;exact ht e⟩
theorem zuu{K α:Type}[DecidableEq K]{key:α->K}{k:K}{l r:List α}(h:∀y∈l,key y≠k):zcf key k (l++r)=zcf key k r:=by
 induction l with
 |nil=>rfl
 |cons y l ih=>rw[ym,zat,zh (h y (by simp)),ih λz hz=>h z (by simp[hz])]
theorem kpL_b{n₀:Nat}{w:World}(hn:n₀<=w.heap.size)(W:World)(l:Nat)(o o':Obj)(hl:w.heap.size<=l)(h1:W.heap[l]?=some o)(h2:o.isCells=false)(h3:o.isWalk=false):KpL n₀ W (W.putObj l o'):=
 ⟨belowK_b hn W l o o' hl h1 h2 h3,λj _ _ e=>World.putObj_heap_other (λe2=>by subst e2;rw[h1]at e;cases e;cases h2)⟩
theorem zu7(w:World){S S2:Nat->Prop}{v:Value}{d:Dl}{t:Int}{a0:Option Addr}{n0 c0:Nat}{key:List UInt8}(h:RdDl S w v d) (hs:smD d) (hk:RdS S2 w (.slice a0 n0 c0) key):Calls Tryz.prog 121 #[v,.int .i64 t,.slice a0 n0 c0] w (zqw w (zf8 d ⟨t,key⟩)):=by
  replace h:RdDl (·<w.heap.size) w v d:=by
    obtain⟨a,c,a2,c2,e,h1,h2⟩:=h;exact⟨a,c,a2,c2,e,h1.fit.weak λ_ hk=>hk.2,h2.fit.weak λ_ hk=>hk.2⟩
  replace hk:RdS (·<w.heap.size) w (.slice a0 n0 c0) key:=hk.fit.weak λ_ h=>h.2
  obtain⟨rfl,_,_⟩:=hk.len;have hd:=h;obtain⟨a,c,a2,c2,rfl,hw,hm⟩:=h;obtain⟨W0,hW,q,bn,bz,by0,hsz⟩:=zvf w 41 62 4 [.slice a d.writes.length c,.slice a2 d.marks.length c2] [.int .i64 0,.slice none 0 0,.bool false,.slice none 0 0] [.bool false];refine zbz Tryz.func121 rfl ?_;simp only[Tryz.ntmps121,yj,zI,zM,Nat.reduceAdd,Nat.reduceSub,xz,xA,xB,xC,yw,ym];go_upto_region 1 with(fail);rw[show((w.alloc (.cells #[.slice a d.writes.length c,.slice a2 d.marks.length c2] 41)).alloc (.cells #[.int .i64 0,.slice none 0 0,.bool false,.slice none 0 0] 62)).alloc (.cells #[.bool false] 4)=W0 from hW.symm];clear hW;have b0:=bn.cell (i:=0) rfl;have b1:=bn.cell (i:=1) rfl;go_wp2_with fail;refine(zd7 W0 (hd.below q)).mono ?_;rintro e w4⟨rfl,hb4⟩;have z4:=hb4.size;replace q:=q.trans (hb4.mono q.size);replace bn:=bn.below hb4 bn.lt;replace bz:=bz.below hb4 bz.lt;replace by0:=by0.below hb4 by0.lt;clear b0 b1 hb4;by_cases hok:okD d
  · have dok:decide (okD d)=true:=zk hok
    have b0:=bn.cell (i:=0) rfl;have bp1:=BoxN.new w4 180 [.int .i64 t,.string (zap key)];have bf1:=BoxN.new (w4.alloc (.cells [.int .i64 t,.string (zap key)].toArray 180)) 103 [Value.nilFunc];have s1:(w4.alloc (.cells [.int .i64 t,.string (zap key)].toArray 180)).heap.size=w4.heap.size+1:=yG _ _;have hb1:Below w4.heap.size w4 (w4.alloc (.cells [.int .i64 t,.string (zap key)].toArray 180)):=(ze _ _).alloc (zf _) _;have hb2:Below (w4.alloc (.cells [.int .i64 t,.string (zap key)].toArray 180)).heap.size (w4.alloc (.cells [.int .i64 t,.string (zap key)].toArray 180)) ((w4.alloc (.cells [.int .i64 t,.string (zap key)].toArray 180)).alloc (.cells [Value.nilFunc].toArray 103)):=(ze _ _).alloc (zf _) _;have bp2:=bp1.below hb2 bp1.lt;rw[s1]at bf1;go_upto_region 5 with(first|(refine zc9 byP rfl rfl rfl ((hk.below q).rd) ?_)|(refine zc1 (j:=0) rfl rfl rfl (by kernel_rfl) rfl rfl rfl rfl bf1 (by simp) ?_;intro w7 hg7 hB7)|fail);go_simp;have hb47:Below w4.heap.size w4 w7:=(hb1.trans (hb2.mono hb1.size)).grown hg7 (by simp;omega) λk e=>by injection e with e;omega
    have bp7:=bp2.other hg7 (by simp);have z7:=hb47.size;have z7':w4.heap.size+2<=w7.heap.size:=by have:=hg7.size;simp at this;omega
    replace q:=q.trans (hb47.mono q.size);replace bn:=bn.below hb47 bn.lt;replace bz:=bz.below hb47 bz.lt;replace by0:=by0.below hb47 by0.lt;simp only[List.set_cons_zero]at hB7;clear bp1 bf1 s1 hb1 hb2 bp2 hg7 hb47 b0;obtain⟨pb,epb⟩:∃pb,pb=w4.heap.size:=⟨_,rfl⟩;rw[<-epb]at hB7 bp7 z7';rw[<-epb];have zpb:w.heap.size+1+1<pb:=by omega
    clear epb z4 z7;have b0:=bn.cell (i:=0) rfl;go_wp2_with fail;refine(bwd_any w7 _ _ _).mono ?_;rintro e wS⟨rfl,hw'⟩;have bS:=BoxN.new w7 38 [.slice a d.writes.length c];have hbS:Below w7.heap.size w7 wS:=by rw[hw'];exact(ze _ _).alloc (zf _) _
    replace bS:BoxN wS w7.heap.size 38 [.slice a d.writes.length c]:=by rw[hw'];exact bS
    have zS:wS.heap.size=w7.heap.size+1:=by rw[hw'];exact yG _ _
    clear hw' b0;replace q:=q.trans (hbS.mono q.size);replace bz:=bz.below hbS bz.lt;replace by0:=by0.below hbS by0.lt;replace bp7:=bp7.below hbS bp7.lt;replace hB7:=hB7.below hbS hB7.lt;clear bn hbS;have hst:=zvd (N:=d.writes.length) hw hs.2.2 hs.1 q bS (zf _);clear bS;go_wp2_with fail;refine zgk (gf:=172) (lb:=#[.pointer (some ⟨w7.heap.size,0,none⟩)]) rfl (enters_of Tryz.func172 (by kernel_rfl) rfl)
      hst (λh k=>h.trans k) (kpL_b q.size) (ze _ _) (λ_=>rfl)
      (λ(pre:List (WrAt w)) W=>(∀y∈pre,y.t.plc≠⟨t,key⟩)/\BoxN W (w.heap.size+1) 62 [.int .i64 0,.slice none 0 0,.bool false,.slice none 0 0]/\BoxN W (w.heap.size+1+1) 4 [.bool false]/\BoxN W pb 180 [.int .i64 t,.string (zap key)]/\BoxN W (pb+1) 103 [.func (.func 151) #[] #[.pointer (some ⟨pb,0,none⟩)]]/\Below w.heap.size w W/\wS.heap.size<=W.heap.size)
      (λc pre W=>c=.ret/\∃(ini:List (WrAt w))(y:WrAt w)(ka va:Option Addr)(kc vc:Nat),pre=ini++[y]/\(∀y∈ini,y.t.plc≠⟨t,key⟩)/\y.t.plc=⟨t,key⟩/\BoxN W (w.heap.size+1) 62 [.int .i64 y.t.table,.slice ka y.t.key.length kc,.bool y.t.gone,.slice va y.t.val.length vc]/\BoxN W (w.heap.size+1+1) 4 [.bool true]/\RdS (λg=>w.heap.size<=g/\g<W.heap.size) W (.slice ka y.t.key.length kc) y.t.key/\RdS (λg=>w.heap.size<=g/\g<W.heap.size) W (.slice va y.t.val.length vc) y.t.val/\Below w.heap.size w W)
      ?hI ?hIx ⟨(by simp),bz,by0,bp7,hB7,q,zf _⟩
      (λ(y:WrAt w)a' W=>∃Bx,wS.heap.size<=Bx/\BoxN W Bx 62 [.int .i64 y.t.table,.slice y.KA y.t.key.length y.KC,.bool y.t.gone,.slice y.VA y.t.val.length y.VC]/\a'={tmps:=#[.agg #[.slice a d.writes.length c,.slice a2 d.marks.length c2],.int .i64 t,.slice a0 key.length c0,.pointer (some ⟨w.heap.size,0,none⟩),undef,undef,.pointer (some ⟨w.heap.size+1,0,none⟩),.pointer (some ⟨w.heap.size+1+1,0,none⟩),.pointer (some ⟨pb,0,none⟩),.pointer (some ⟨pb+1,0,none⟩),undef,.pointer (some ⟨Bx,0,none⟩),.agg #[.slice a d.writes.length c,.slice a2 d.marks.length c2],.bool true,.bool false,undef,.int .i64 t,.slice a0 key.length c0,.string (zap key),.agg #[.int .i64 t,.string (zap key)],.func (.func 151) #[] #[.pointer (some ⟨pb,0,none⟩)],.pointer (some ⟨w.heap.size,0,none⟩),.slice a d.writes.length c,.func (.func 172) #[] #[.pointer (some ⟨w7.heap.size,0,none⟩)],.int .i64 (y.i:Int),.agg #[.int .i64 y.t.table,.slice y.KA y.t.key.length y.KC,.bool y.t.gone,.slice y.VA y.t.val.length y.VC],undef,undef,undef,undef,undef,undef],defers:=[]})
      ?hAx ?assign ?body ?done ?stop
    case hI=>exact OwnFrom.and (λ_ _ _ _ hs _ _=>hs) (OwnFrom.and zen (OwnFrom.and zen (OwnFrom.and zen (OwnFrom.and zen (OwnFrom.and (zhl (zf _) (by omega)) (λ_ _ _ _ hs hg _=>zv hs hg.size))))))
    case hIx=>
      intro c s X Y row hs hg hr;obtain⟨ec,ini,y,ka,va,kc,vc,e1,e2,e3,h1,h2,h3,h4,h5⟩:=hs;exact⟨ec,ini,y,ka,va,kc,vc,e1,e2,e3,zen () X Y row h1 hg hr,zen () X Y row h2 hg hr,(zh6 h3 hg λr e=>(hr r e).2).weak λg hg2=>⟨hg2.1,zm hg2.2 hg.size⟩,(zh6 h4 hg λr e=>(hr r e).2).weak λg hg2=>⟨hg2.1,zm hg2.2 hg.size⟩,zhl (β:=Unit) (N:=wS.heap.size) (zf _) (by omega) () X Y row h5 hg hr⟩
    case hAx=>
      intro y a' _ X Y row hs hg hr;obtain⟨Bx,h1,h2,e⟩:=hs;exact⟨Bx,h1,zen () X Y row h2 hg hr,e⟩
    case assign=>
      rintro l pre y W K ⟨hne,hz,hy0,hp,hf,hbw,hWS⟩hK;have hs1:=hz.lt;have hs2:=hy0.lt;have hs3:=hp.lt;have hs4:=hf.lt;have eZ:(#[24,25]:Array Tmp).zip y.enc=#[(24,.int .i64 (y.i:Int)),(25,.agg #[.int .i64 y.t.table,.slice y.KA y.t.key.length y.KC,.bool y.t.gone,.slice y.VA y.t.val.length y.VC])]:=by kernel_rfl
      rw[eZ];simp only[List.foldl_toArray',List.foldl_cons,List.foldl_nil];go_simp;gi_wp2_with(first|(refine zka (vs:=[.int .i64 0,.slice none 0 0,.bool false,.slice none 0 0]) (by kernel_rfl) rfl rfl ?_;intro wa hba hBa)|(refine zfs (us:=[.int .i64 y.t.table,.slice y.KA y.t.key.length y.KC,.bool y.t.gone,.slice y.VA y.t.val.length y.VC]) (by kernel_rfl) rfl rfl rfl rfl rfl rfl hBa rfl ?_;intro wb hgb hBb)|fail);have zz:=hba.size;have hbb:=hba.grown hgb hba.size λk e=>by injection e with e;omega
      exact hK _ _ ((zc5 hba).trans (zd0 hBa hgb)) ((KpL.of hba hbw.size).trans (kpL_boxN hBa hgb hbw.size (by omega) (by decide))) ⟨hne,hz.below hbb hs1,hy0.below hbb hs2,hp.below hbb hs3,hf.below hbb hs4,hbw.trans (hbb.mono hbw.size),zv hWS hbb.size⟩ ⟨W.heap.size,hWS,hBb,rfl⟩
    case body=>
      rintro l pre y a' W ⟨hne,hz,hy0,hp,hf,hbw,hWS⟩⟨Bx,hBx,hbx,rfl⟩hlt;have hs1:=hz.lt;have hs2:=hy0.lt;have hcl:=CallsIn.inRound l ((xL (n:=0)).2 (zsa W (p:=⟨t,key⟩) (y.rd hbw) hp));have f0:=hf.cell (i:=0) rfl;have x0:=hbx.cell (i:=0) rfl;have x1:=hbx.cell (i:=1) rfl;have x2:=hbx.cell (i:=2) rfl;have x3:=hbx.cell (i:=3) rfl;dsimp only[WrAt.val]at hcl;gi_wp2;refine⟨trivial,hcl.mono ?_⟩;rintro e W3 ⟨rfl,hb3⟩;have zb3:=hb3.size;by_cases hm:y.t.plc=⟨t,key⟩
      · have dm:decide (y.t.plc=⟨t,key⟩)=true:=zk hm
        replace hm:=Lib.hid hm;have hcl2:=CallsIn.inRound l ((xL (n:=0)).2 (zf6 W3 ((y.rd hbw).below hb3) y.hk y.hv));have hbx3:=hbx.below hb3 hbx.lt;clear x0 x1 x2 x3 f0 hcl;have x0:=hbx3.cell (i:=0) rfl;have x1:=hbx3.cell (i:=1) rfl;have x2:=hbx3.cell (i:=2) rfl;have x3:=hbx3.cell (i:=3) rfl;dsimp only[WrAt.val]at hcl2;gi_wp2;refine⟨trivial,hcl2.mono ?_⟩;rintro e W4⟨v4,rfl,⟨ka,kc,va,vc,rfl,hk4,hv4,ht4⟩,hb4⟩;have zb4:=hb4.size;have hb34:=hb3.trans (hb4.mono zb3);have hz4:=hz.below hb34 hs1;have hy4:=hy0.below hb34 hs2;gi_wp2_with (first|(refine zfs (us:=[.int .i64 y.t.table,.slice ka y.t.key.length kc,.bool y.t.gone,.slice va y.t.val.length vc]) (by kernel_rfl) rfl rfl rfl rfl rfl rfl hz4 rfl ?_;intro W5 hg5 hB5)|(refine zr7 (j:=0) rfl rfl rfl (by kernel_rfl) rfl rfl rfl rfl (hy4.other hg5 (by simp)) (by simp) ?_;intro W6 hg6 hB6)|fail);have zb5:=hg5.size;have zb6:=hg6.size;have hqW:=hbw.size;have hk6:∀k,W3.heap.size<=k/\k<W4.heap.size->W6.heap[k]?=W4.heap[k]?:=λk hk=>(hg6.block k (by omega) λe=>by injection e with e;omega).trans (hg5.block k hk.2 λe=>by injection e with e;omega)
        refine⟨((zc5 hb34).trans (zd0 hz4 hg5)).trans (zd0 (hy4.other hg5 (by simp)) hg6),rfl,pre,y,ka,va,kc,vc,rfl,hne,hm.out,hB5.other hg6 (by simp),hB6,(hk4.keep hk6).weak λk hk=>⟨by omega,by omega⟩,(hv4.keep hk6).weak λk hk=>⟨by omega,by omega⟩,((hbw.trans (hb34.mono hqW)).grown hg5 (by omega) λk e=>by injection e with e;omega).grown hg6 (by omega) λk e=>by injection e with e;omega⟩
      · have dm:decide (y.t.plc=⟨t,key⟩)=false:=zj hm
        replace hm:=Lib.hid hm;clear x0 x1 x2 x3 f0 hcl;gi_wp2;exact⟨zc5 hb3,KpL.of hb3 hbw.size,λz hz2=>by
          rcases zV.1 hz2 with h|h
          ·exact hne z h
          ·simp at h;subst h;exact hm.out,hz.below hb3 hs1,hy0.below hb3 hs2,hp.below hb3 hp.lt,hf.below hb3 hf.lt,hbw.trans (hb3.mono hbw.size),zv hWS hb3.size⟩
    case stop=>
      rintro D cc pre W hD⟨r,hpre⟩⟨rfl,ini,y,ka,va,kc,vc,rfl,hne,hm,hz,hy0,hk4,hv4,hbw⟩hK;have HK:=Lib.hid (show zf8 d ⟨t,key⟩=some y.t by
        unfold zf8 zjx;rw[zi hok,hpre,yW,zG,zuu (λz hz=>?_)];·rw[zn,zo,wF,zat,zi hm]
        · obtain⟨z',hz',rfl⟩:=xD.1 hz
          exact hne z' hz')
      replace hm:=Lib.hid hm;replace hpre:=Lib.hid hpre;go_wp2_with fail;have hz5:=hz.other (grownBy_putObj' W D (Obj.deferred none)) (λe=>by injection e with e;subst e;rw[show W.heap[_]?=_ from hz]at hK;cases hK);have hy5:=hy0.other (grownBy_putObj' W D (Obj.deferred none)) (λe=>by injection e with e;subst e;rw[show W.heap[_]?=_ from hy0]at hK;cases hK);have c0:=hz5.cell (i:=0) rfl;have c1:=hz5.cell (i:=1) rfl;have c2:=hz5.cell (i:=2) rfl;have c3:=hz5.cell (i:=3) rfl;have d0:=hy5.cell (i:=0) rfl;obtain⟨fs,hu,_⟩:=wrS.hu;refine⟨by simp,.inl ⟨_,_,rfl,run_takeDeferred hK,?_⟩⟩;refine⟨.tuple #[.agg #[.int .i64 y.t.table,.slice ka y.t.key.length kc,.bool y.t.gone,.slice va y.t.val.length vc],.bool true],by simp[results,Tryz.results121,go_sem,loadVar,isAgg,zr hu,zaa wrS.hs,loadCellsFrom,Addr.add,c0,c1,c2,c3,d0],?_⟩;rw[zqw,HK.out];exact⟨_,rfl,⟨ka,kc,va,vc,rfl,(zh6 hk4 (grownBy_putObj' W D (Obj.deferred none)) λr e=>by injection e with e;subst e;exact⟨_,hK,rfl⟩).weak λg hg=>⟨hg.1,by simpa using hg.2⟩,(zh6 hv4 (grownBy_putObj' W D (Obj.deferred none)) λr e=>by injection e with e;subst e;exact⟨_,hK,rfl⟩).weak λg hg=>⟨hg.1,by simpa using hg.2⟩,y.ht⟩,hbw.trans (belowK_b (w:=w) (zf _) W D _ _ (by omega) hK rfl rfl)⟩
    case done=>
      rintro D ys W hD hys ⟨hne,hz,hy0,hp,hf,hbw,hWS⟩hK;have HK:=Lib.hid (show zf8 d ⟨t,key⟩=none by
        unfold zf8 zjx;rw[zi hok,<-hys];refine zdg.2 λz hz=>?_
        obtain⟨z',hz',rfl⟩:=xD.1 hz;exact hne z' hz')
      replace hys:=Lib.hid hys;go_wp2_with(first|(refine zab (us:=[.int .i64 0,.slice none 0 0,.bool false,.slice none 0 0]) (by kernel_rfl) rfl rfl rfl rfl rfl rfl hz rfl ?_;intro W5 hg5 hB5)|(refine zc1 (j:=0) rfl rfl rfl (by kernel_rfl) rfl rfl rfl rfl (hy0.other hg5 (by simp)) (by simp) ?_;intro W6 hg6 hB6)|fail);have hK5:W5.heap[D]?=some (.deferred (some [])):=(hg5.block D (zJ.1 hK).1 λe=>by injection e with e;subst e;rw[show W.heap[_]?=_ from hz]at hK;cases hK).trans hK;have hy5:=hy0.other hg5 (by simp);have hK6:W6.heap[D]?=some (.deferred (some [])):=(hg6.block D (zJ.1 hK5).1 λe=>by injection e with e;subst e;rw[show W5.heap[_]?=_ from hy5]at hK5;cases hK5).trans hK5;have hz6:=hB5.other hg6 (by simp);have hqW:=hbw.size;have zb5:=hg5.size;have hb6:Below w.heap.size w W6:=(hbw.grown hg5 hqW λk e=>by injection e with e;omega).grown hg6 (by omega) λk e=>by injection e with e;omega
      refine⟨by simp,.inl ⟨_,_,rfl,run_takeDeferred hK6,?_⟩⟩;have hz7:=hz6.other (grownBy_putObj' W6 D (Obj.deferred none)) (λe=>by injection e with e;subst e;rw[show W6.heap[_]?=_ from hz6]at hK6;cases hK6);have hy7:=hB6.other (grownBy_putObj' W6 D (Obj.deferred none)) (λe=>by injection e with e;subst e;rw[show W6.heap[_]?=_ from hB6]at hK6;cases hK6);have c0:=hz7.cell (i:=0) rfl;have c1:=hz7.cell (i:=1) rfl;have c2:=hz7.cell (i:=2) rfl;have c3:=hz7.cell (i:=3) rfl;have d0:_=some (Value.bool false):=hy7.cell (i:=0) rfl;obtain⟨fs,hu,_⟩:=wrS.hu;refine⟨.tuple #[.agg #[.int .i64 0,.slice none 0 0,.bool false,.slice none 0 0],.bool false],by simp[results,Tryz.results121,go_sem,loadVar,isAgg,zr hu,zaa wrS.hs,loadCellsFrom,Addr.add,c0,c1,c2,c3,d0],?_⟩;rw[zqw,HK.out];exact⟨_,rfl,⟨none,0,none,0,rfl,RdS.nil _ _,RdS.nil _ _,by unfold W64;decide⟩,hb6.trans (belowK_b (w:=w) (zf _) W6 D _ _ (by omega) hK6 rfl rfl)⟩
  · have dok:decide (okD d)=false:=zj hok
    have HK:=Lib.hid (show zf8 d ⟨t,key⟩=none from zh hok);go_wp2_with(first|(refine zab (us:=[.int .i64 0,.slice none 0 0,.bool false,.slice none 0 0]) (by kernel_rfl) rfl rfl rfl rfl rfl rfl bz rfl ?_;intro w5 hg5 hB5)|(refine zc1 (j:=0) rfl rfl rfl (by kernel_rfl) rfl rfl rfl rfl (by0.other hg5 (by simp)) (by simp) ?_;intro w6 hg6 hB6)|fail);have hz6:=hB5.other hg6 (by simp);have c0:=hz6.cell (i:=0) rfl;have c1:=hz6.cell (i:=1) rfl;have c2:=hz6.cell (i:=2) rfl;have c3:=hz6.cell (i:=3) rfl;have d0:_=some (Value.bool false):=hB6.cell (i:=0) rfl;have hqW:=q.size;have zb5:=hg5.size;have hb6:Below w.heap.size w w6:=(q.grown hg5 hqW λk e=>by injection e with e;omega).grown hg6 (by omega) λk e=>by injection e with e;omega
    obtain⟨fs,hu,_⟩:=wrS.hu;refine⟨.tuple #[.agg #[.int .i64 0,.slice none 0 0,.bool false,.slice none 0 0],.bool false],by simp[results,Tryz.results121,go_sem,loadVar,isAgg,zr hu,zaa wrS.hs,loadCellsFrom,Addr.add,c0,c1,c2,c3,d0],?_⟩;rw[zqw,HK.out];exact⟨_,rfl,⟨none,0,none,0,rfl,RdS.nil _ _,RdS.nil _ _,by unfold W64;decide⟩,hb6⟩
theorem RdDl.keep{S:Nat->Prop}{w w':World}{v:Value}{d:Dl}(h:RdDl S w v d)(hk:∀k,S k->w'.heap[k]?=w.heap[k]?):RdDl S w' v d:=by
 obtain⟨a,c,a2,c2,e,h1,h2⟩:=h;exact⟨a,c,a2,c2,e,h1.keep hk,h2.keep hk⟩
def AnyV(_:Nat->Prop)(_:World)(_:Value):Prop:=True
theorem RdDl.fit{S:Nat->Prop}{w:World}{v:Value}{d:Dl}(h:RdDl S w v d):RdDl (λk=>S k/\k<w.heap.size) w v d:=by
 obtain⟨a,c,a2,c2,e,h1,h2⟩:=h;exact⟨a,c,a2,c2,e,h1.fit,h2.fit⟩
theorem RdDl.past{b:Nat}{w w':World}{v:Value}{d:Dl}(h:RdDl (·≠b) w v d)(hg:w.grownBy w' (some b)):RdDl (·≠b) w' v d:=
 (h.fit.keep λk hk=>hg.block k hk.2 λe=>by injection e with e;exact hk.1 e).weak λ_ hk=>hk.1
section
variable {α : Type} {P : Program} {T E S t : TypeId} {ops : Array Oper} {rest : List Oper} {o : Oper} {a : Act} {Q : Exit → Act → World → Prop} {w : World} {K : Act → World → Prop}
theorem zsm (hP:StP P t 4){x y z s:Operand}{u v r q:Value}(ho:o.op=.build t #[(0,x),(1,y),(2,z),(3,s)])(hx:a.eval x=u)(hy:a.eval y=v)(hz:a.eval z=r)(hs:a.eval s=q)(hu1:u.cells=#[u])(hv1:v.cells=#[v])(hr1:r.cells=#[r])(hq1:q.cells=#[q])(h:K (a.put o.dst (.agg #[u,v,r,q])) w):o.wp P a w K Q:=by
 obtain⟨fs,hu,hfs,hf⟩:=hP.hu;obtain⟨f0,g0,o0,s0⟩:=hf 0 (by omega);obtain⟨f1,g1,o1,s1⟩:=hf 1 (by omega);obtain⟨f2,g2,o2,s2⟩:=hf 2 (by omega);obtain⟨f3,g3,o3,s3⟩:=hf 3 (by omega);obtain⟨zs,hzs,hz0⟩:=hP.zero;obtain⟨l⟩:=fs;obtain⟨zl⟩:=zs;match l,hfs with
 |[k0,k1,k2,k3],_=>
  match zl,hzs with
  |[z0,z1,z2,z3],_=>
   simp at g0 g1 g2 g3;subst g0;subst g1;subst g2;subst g3;refine zcb ?_ h;simp only[execOp,ho,zE,zn,zo,hx,hy,hz,hs];simp[Instr.build,zr hu,hz0,zaa s0,zaa s1,zaa s2,zaa s3,Instr.fill,hu1,hv1,hr1,hq1,o0,o1,o2,o3,show(Value.agg #[z0,z1,z2,z3]).cells=#[z0,z1,z2,z3]from rfl]
end
end Go.Proofs.YtkobhdllagbkhaaGreat
