/-
  TEXTS OF ONE PROOF, merged: SpA, SpD, Lok, LkB, LkU, LkV, Txs, TxA, SpC, TxB.
-/
import Derived.BigQuiet
import Derived.Deep.CutRange
import Derived.Deep.QuietTactic
import Derived.Test.YtkobhdllagbkhaaGreatKn1
import Derived.Test.YtkobhdllagbkhaaGreatKn2
import Derived.Test.YtkobhdllagbkhaaGreatKn3
import Derived.Test.YtkobhdllagbkhaaGreatKn4
import Derived.Test.YtkobhdllagbkhaaGreatKn5
import Derived.Test.YtkobhdllagbkhaaGreatKn6
import Derived.Test.YtkobhdllagbkhaaGreatKn7
import Derived.Test.YtkobhdllagbkhaaGreatKn8
import Derived.Test.YtkobhdllagbkhaaGreatKn9
import Derived.Test.YtkobhdllagbkhaaGreatKn10
import Derived.Test.YtkobhdllagbkhaaGreatKn11
import Derived.Test.YtkobhdllagbkhaaGreatKn12
import Derived.Test.YtkobhdllagbkhaaGreatKn13
import Derived.Test.YtkobhdllagbkhaaGreatKn14
import Derived.Test.YtkobhdllagbkhaaGreatKt1
namespace Go.Proofs.YtkobhdllagbkhaaGreat
open Go.RowKit Go.Shelf Go.ChangeShapes Go.WideShapes Go.ChangeAt Go.Deep Go.Joins
set_option maxRecDepth 100000
set_option maxHeartbeats 32000000
theorem str_ltS{a b:List UInt8}:Op.bytesLess (zap a).toList (zap b).toList=ltB a b:=by
 rw[show(zap a).toList=a by simp[zap],show(zap b).toList=b by simp[zap]];rfl
theorem str_eqS{a b:List UInt8}:((zap a).toList==(zap b).toList)=decide (a=b):=by
 rw[show(zap a).toList=a by simp[zap],show(zap b).toList=b by simp[zap]];by_cases h:a=b<;>simp[h]
theorem str_leS{a b:List UInt8}:(Op.bytesLess (zap a).toList (zap b).toList||(zap a).toList==(zap b).toList)=!ltB b a:=by
 rw[str_ltS,str_eqS];cases h:ltB a b with
 |true=>rw[zi7 h];rfl
 |false=>
  by_cases e:a=b
  ·subst e;rw[zbx];simp
  ·rw[zcq e h];simp[e]
theorem sp_ext{x y:Sp}(h1:x.table=y.table)(h2:x.lo=y.lo)(h3:x.hi=y.hi)(h4:x.isOpen=y.isOpen):x=y:=by
 cases x;cases y;simp only at h1 h2 h3 h4;subst h1 h2 h3 h4;rfl
theorem rEmpty_any (w:World){S:Nat->Prop}{v:Value}{x:Sp}(hx:RdSp S w v x):Calls Tryz.prog 33 #[v] w λe w'=>e=.returned (.bool (zem x))/\Below w.heap.size w w':=by
 obtain⟨a1,a2,a3,a4,rfl,hlx,hhx,htx⟩:=hx;have m1x:x.lo.length<=9223372036854775807:=by have:=hlx.len;unfold maxLen at this;omega
 have m2x:x.hi.length<=9223372036854775807:=by have:=hhx.len;unfold maxLen at this;omega
 obtain⟨W,hW,q,Bx,hsz⟩:=zeb w 67 [.int .i64 x.table,.slice a1 x.lo.length a2,.slice a3 x.hi.length a4,.bool x.isOpen];clear hsz;go_enter Tryz.func33,Tryz.ntmps33;go_upto_region 1 with(fail);rw[show w.alloc (.cells #[.int .i64 x.table,.slice a1 x.lo.length a2,.slice a3 x.hi.length a4,.bool x.isOpen] 67)=W from hW.symm];clear hW;have cx0:=Bx.cell (i:=0) rfl;have cx1:=Bx.cell (i:=1) rfl;have cx2:=Bx.cell (i:=2) rfl;have cx3:=Bx.cell (i:=3) rfl;have rlx:=hlx.below q;have rhx:=hhx.below q;cases h_op:x.isOpen with
 |true=>
  rw[h_op]at cx3;have H:=Lib.hid (show zem x=false from by unfold zem;simp[h_op]);clear h_op
  go_wp2_with fail;go_ret;exact⟨by first|(rw[H.out];done)|(rw[H.out];rfl),q⟩
 |false=>
  rw[h_op]at cx3;cases h_lh:ltB x.lo x.hi with
  |true=>
   have flh:(Op.bytesLess (zap x.hi).toList (zap x.lo).toList||(zap x.hi).toList==(zap x.lo).toList)=false:=by rw[str_leS,h_lh];rfl
   have H:=Lib.hid (show zem x=false from by unfold zem;simp[h_op,h_lh]);clear h_op h_lh
   go_wp2_with (refine zc9 (x:=.tmp 8) byP rfl rfl rfl rhx.rd ?_;go_wp2_with (refine zc9 (x:=.tmp 11) byP rfl rfl rfl rlx.rd ?_;go_wp2_with fail));go_ret;exact⟨by first|(rw[H.out];done)|(rw[H.out];rfl),q⟩
  |false=>
   have flh:(Op.bytesLess (zap x.hi).toList (zap x.lo).toList||(zap x.hi).toList==(zap x.lo).toList)=true:=by rw[str_leS,h_lh];rfl
   have H:=Lib.hid (show zem x=true from by unfold zem;simp[h_op,h_lh]);clear h_op h_lh
   go_wp2_with (refine zc9 (x:=.tmp 8) byP rfl rfl rfl rhx.rd ?_;go_wp2_with (refine zc9 (x:=.tmp 11) byP rfl rfl rfl rlx.rd ?_;go_wp2_with fail));go_ret;exact⟨by first|(rw[H.out];done)|(rw[H.out];rfl),q⟩
theorem rOne_any(w:World){S S2:Nat->Prop}{u v:Value}{x y:Sp}(hx:RdSp S w u x)(hy:RdSp S2 w v y):Calls Tryz.prog 35 #[u,v] w λe w'=>e=.returned (.bool (decide (x=y)))/\Below w.heap.size w w':=by
  obtain⟨a1,a2,a3,a4,rfl,hlx,hhx,htx⟩:=hx;obtain⟨b1,b2,b3,b4,rfl,hly,hhy,hty⟩:=hy;have m1x:x.lo.length<=9223372036854775807:=by have:=hlx.len;unfold maxLen at this;omega
  have m2x:x.hi.length<=9223372036854775807:=by have:=hhx.len;unfold maxLen at this;omega
  have m1y:y.lo.length<=9223372036854775807:=by have:=hly.len;unfold maxLen at this;omega
  have m2y:y.hi.length<=9223372036854775807:=by have:=hhy.len;unfold maxLen at this;omega
  obtain⟨W,hW,q,Bx,By,hsz⟩:=ze2 w 67 67 [.int .i64 x.table,.slice a1 x.lo.length a2,.slice a3 x.hi.length a4,.bool x.isOpen] [.int .i64 y.table,.slice b1 y.lo.length b2,.slice b3 y.hi.length b4,.bool y.isOpen];clear hsz;go_enter Tryz.func35,Tryz.ntmps35;go_upto_region 1 with(fail);rw[show(w.alloc (.cells #[.int .i64 x.table,.slice a1 x.lo.length a2,.slice a3 x.hi.length a4,.bool x.isOpen] 67)).alloc (.cells #[.int .i64 y.table,.slice b1 y.lo.length b2,.slice b3 y.hi.length b4,.bool y.isOpen] 67)=W from hW.symm];clear hW;have cx0:=Bx.cell (i:=0) rfl;have cx1:=Bx.cell (i:=1) rfl;have cx2:=Bx.cell (i:=2) rfl;have cx3:=Bx.cell (i:=3) rfl;have rlx:=hlx.below q;have rhx:=hhx.below q;have cy0:=By.cell (i:=0) rfl;have cy1:=By.cell (i:=1) rfl;have cy2:=By.cell (i:=2) rfl;have cy3:=By.cell (i:=3) rfl;have rly:=hly.below q;have rhy:=hhy.below q;by_cases h_tb:x.table=y.table
  · have datb:(x.table==y.table)=true:=zK.2 h_tb
    have dbtb:decide (x.table=y.table)=true:=zk h_tb;have dctb:(x.table=y.table)=True:=eq_true h_tb;have ddtb:(x.table !=y.table)=false:=by rw[xf];exact h_tb
    by_cases h_lo:x.lo=y.lo
    · have dlo:((zap x.lo).toList==(zap y.lo).toList)=true:=by rw[str_eqS];exact zk h_lo
      by_cases h_hi:x.hi=y.hi
      · have dhi:((zap x.hi).toList==(zap y.hi).toList)=true:=by rw[str_eqS];exact zk h_hi
        cases h_ox:x.isOpen with
        |true=>
          rw[h_ox]at cx3;cases h_oy:y.isOpen with
          |true=>
            rw[h_oy]at cy3;have H:=Lib.hid (show decide (x=y)=true from zk (sp_ext h_tb h_lo h_hi (h_ox.trans h_oy.symm)));clear h_tb h_lo h_hi h_ox h_oy;go_wp2_with(refine zc9 (x:=.tmp 12) byP rfl rfl rfl rlx.rd ?_;go_wp2_with(refine zc9 (x:=.tmp 15) byP rfl rfl rfl rly.rd ?_;go_wp2_with(refine zc9 (x:=.tmp 21) byP rfl rfl rfl rhx.rd ?_;go_wp2_with(refine zc9 (x:=.tmp 24) byP rfl rfl rfl rhy.rd ?_;go_wp2_with fail))));go_ret;exact⟨by first|(rw[H.out];done)|(rw[H.out];rfl),q⟩
          |false=>
            rw[h_oy]at cy3;have H:=Lib.hid (show decide (x=y)=false from zj (λh=>by rw[h,h_oy]at h_ox;cases h_ox));clear h_tb h_lo h_hi h_ox h_oy;go_wp2_with(refine zc9 (x:=.tmp 12) byP rfl rfl rfl rlx.rd ?_;go_wp2_with(refine zc9 (x:=.tmp 15) byP rfl rfl rfl rly.rd ?_;go_wp2_with(refine zc9 (x:=.tmp 21) byP rfl rfl rfl rhx.rd ?_;go_wp2_with(refine zc9 (x:=.tmp 24) byP rfl rfl rfl rhy.rd ?_;go_wp2_with fail))));go_ret;exact⟨by first|(rw[H.out];done)|(rw[H.out];rfl),q⟩
        |false=>
          rw[h_ox]at cx3;cases h_oy:y.isOpen with
          |true=>
            rw[h_oy]at cy3;have H:=Lib.hid (show decide (x=y)=false from zj (λh=>by rw[h,h_oy]at h_ox;cases h_ox));clear h_tb h_lo h_hi h_ox h_oy;go_wp2_with(refine zc9 (x:=.tmp 12) byP rfl rfl rfl rlx.rd ?_;go_wp2_with(refine zc9 (x:=.tmp 15) byP rfl rfl rfl rly.rd ?_;go_wp2_with(refine zc9 (x:=.tmp 21) byP rfl rfl rfl rhx.rd ?_;go_wp2_with(refine zc9 (x:=.tmp 24) byP rfl rfl rfl rhy.rd ?_;go_wp2_with fail))));go_ret;exact⟨by first|(rw[H.out];done)|(rw[H.out];rfl),q⟩
          |false=>
            rw[h_oy]at cy3;have H:=Lib.hid (show decide (x=y)=true from zk (sp_ext h_tb h_lo h_hi (h_ox.trans h_oy.symm)));clear h_tb h_lo h_hi h_ox h_oy;go_wp2_with(refine zc9 (x:=.tmp 12) byP rfl rfl rfl rlx.rd ?_;go_wp2_with(refine zc9 (x:=.tmp 15) byP rfl rfl rfl rly.rd ?_;go_wp2_with(refine zc9 (x:=.tmp 21) byP rfl rfl rfl rhx.rd ?_;go_wp2_with(refine zc9 (x:=.tmp 24) byP rfl rfl rfl rhy.rd ?_;go_wp2_with fail))));go_ret;exact⟨by first|(rw[H.out];done)|(rw[H.out];rfl),q⟩
      · have dhi:((zap x.hi).toList==(zap y.hi).toList)=false:=by rw[str_eqS];exact zj h_hi
        have H:=Lib.hid (show decide (x=y)=false from zj (λh=>h_hi (by rw[h])));clear h_tb h_lo h_hi;go_wp2_with(refine zc9 (x:=.tmp 12) byP rfl rfl rfl rlx.rd ?_;go_wp2_with(refine zc9 (x:=.tmp 15) byP rfl rfl rfl rly.rd ?_;go_wp2_with(refine zc9 (x:=.tmp 21) byP rfl rfl rfl rhx.rd ?_;go_wp2_with(refine zc9 (x:=.tmp 24) byP rfl rfl rfl rhy.rd ?_;go_wp2_with fail))));go_ret;exact⟨by first|(rw[H.out];done)|(rw[H.out];rfl),q⟩
    · have dlo:((zap x.lo).toList==(zap y.lo).toList)=false:=by rw[str_eqS];exact zj h_lo
      have H:=Lib.hid (show decide (x=y)=false from zj (λh=>h_lo (by rw[h])));clear h_tb h_lo;go_wp2_with(refine zc9 (x:=.tmp 12) byP rfl rfl rfl rlx.rd ?_;go_wp2_with(refine zc9 (x:=.tmp 15) byP rfl rfl rfl rly.rd ?_;go_wp2_with fail));go_ret;exact⟨by first|(rw[H.out];done)|(rw[H.out];rfl),q⟩
  · have datb:(x.table==y.table)=false:=zt.2 h_tb
    have dbtb:decide (x.table=y.table)=false:=zj h_tb;have dctb:(x.table=y.table)=False:=eq_false h_tb;have ddtb:(x.table !=y.table)=true:=xi.2 h_tb;have H:=Lib.hid (show decide (x=y)=false from zj (λh=>h_tb (by rw[h])));clear h_tb;go_wp2_with fail;go_ret;exact⟨by first|(rw[H.out];done)|(rw[H.out];rfl),q⟩
theorem take_bothS{α:Type}{l m:List α}{i:Nat}(h1:i<l.length)(h2:i<m.length)(h:l.take i=m.take i)(e:l[i]=m[i]):l.take (i+1)=m.take (i+1):=by
 rw[yZ h1,yZ h2,h,e]
theorem rSame_any(w:World){S S2:Nat->Prop}{a a2:Option Addr}{n cx n2 cy:Nat}{l m:List Sp}(hl:RdL Elt.sp S w (.slice a n cx) l)(hm:RdL Elt.sp S2 w (.slice a2 n2 cy) m):Calls Tryz.prog 14 #[.slice a n cx,.slice a2 n2 cy] w λe w'=>e=.returned (.bool (decide (l=m)))/\Below w.heap.size w w':=by
  obtain⟨rfl,hnc,hcm⟩:=hl.len;have hlm:l.length<=9223372036854775807:=by unfold maxLen at hcm;omega
  obtain⟨rfl,hnc2,hcm2⟩:=hm.len;have hmm:m.length<=9223372036854775807:=by unfold maxLen at hcm2;omega
  have q:=ze w.heap.size w;have eO:∀args w,(callFunc 35 args).run Tryz.prog w=.ok (.enter 35 args) w:=enters_of Tryz.func35 (by kernel_rfl) rfl;go_enter Tryz.func14,Tryz.ntmps14;by_cases hlen:l.length=m.length;case neg=>
    have d1:((l.length:Int)==(m.length:Int))=false:=zt.2 (by omega);have d2:(l.length==m.length)=false:=zt.2 hlen;have d3:((l.length:Int)!=(m.length:Int))=true:=xi.2 (by omega);have HK:=Lib.hid (show decide (l=m)=false from zj λh=>hlen (by rw[h]));clear hlen;go_wp2_with fail;go_ret;exact⟨by first|(rw[HK.out];done)|(rw[HK.out];rfl),q⟩
  have d1:((l.length:Int)==(m.length:Int))=true:=zK.2 (by omega);have d2:(l.length==m.length)=true:=zK.2 hlen;have d3:((l.length:Int)!=(m.length:Int))=false:=by rw[bne,d1];rfl
  replace hlen:=Lib.hid hlen;go_upto_region 4 with(fail);clear d1 d2 d3;go_loopw[5](λiv wr=>∃(k:Nat),iv=.int .i64 k/\k<=l.length/\l.take k=m.take k/\Below w.heap.size w wr)(λi _=>l.length-(intOf i).toNat)
  case atStart=>exact⟨0,rfl,zH _,by simp,q⟩
  case round=>
    clear q;obtain⟨k,rfl,hkl,hall,q⟩:=hrel;replace hall:=Lib.hid hall;rcases zA k l.length with hlt|hge
    · have hltm:k<m.length:=by have:=hlen.out;omega
      have dk:decide ((k:Int)<(l.length:Int))=true:=zk (by omega);obtain⟨b1,o1,A1,A2,A3,A4,rfl,_,c0,c1,c2,c3,hk1,hk2,hw64⟩:=(hl.below q).sp k hlt;obtain⟨b2,o2,B1,B2,B3,B4,rfl,_,d0,d1,d2,d3,hk3,hk4,hw65⟩:=(hm.below q).sp k hltm;have hx:RdSp S wr (.agg #[.int .i64 l[k].table,.slice A1 l[k].lo.length A2,.slice A3 l[k].hi.length A4,.bool l[k].isOpen]) l[k]:=⟨_,_,_,_,rfl,hk1,hk2,hw64⟩;have hy:RdSp S2 wr (.agg #[.int .i64 m[k].table,.slice B1 m[k].lo.length B2,.slice B3 m[k].hi.length B4,.bool m[k].isOpen]) m[k]:=⟨_,_,_,_,rfl,hk3,hk4,hw65⟩;clear hk1 hk2 hk3 hk4;go_upto_region 6 with(fail);refine zez (by kernel_rfl) (by kernel_rfl) [sgEq (.slice (some ⟨b1,o1,none⟩) l.length cx),sgEq (.int .i64 (k:Nat)),sgEq (.pointer (some ⟨b1,o1+k*4,none⟩)),sgEq (.agg #[.int .i64 l[k].table,.slice A1 l[k].lo.length A2,.slice A3 l[k].hi.length A4,.bool l[k].isOpen]),sgEq (.slice (some ⟨b2,o2,none⟩) m.length cy),sgEq (.int .i64 (k:Nat)),sgEq (.pointer (some ⟨b2,o2+k*4,none⟩)),sgEq (.agg #[.int .i64 m[k].table,.slice B1 m[k].lo.length B2,.slice B3 m[k].hi.length B4,.bool m[k].isOpen]),sgEq (.bool (decide (l[k]=m[k]))),sgEq (.bool (decide (l[k]=m[k])))]
        ⟨?o0,?o1,?o2,?o3,?o4,?o5,?o6,?o7,?o8,?o9,trivial⟩ ?fin
      case o0=>
        refine GdOp.plain rfl (λA vs w' hF hT hb hd=>?_);have e1:A.eval (.tmp 0)=.slice (some ⟨b1,o1,none⟩) l.length cx:=hF 0 rfl;exact zu _ rfl ⟨_,rfl,e1,ze _ _⟩
      case o1=>
        refine GdOp.plain rfl (λA vs w' hF hT hb hd=>?_);have e1:A.eval (.tmp 5)=.int .i64 (k:Nat):=hF 5 rfl;exact zu _ rfl ⟨_,rfl,e1,ze _ _⟩
      case o2=>
        refine GdOp.plain rfl (λA vs w' hF hT hb hd=>?_);have e1:A.eval (.tmp 18)=.slice (some ⟨b1,o1,none⟩) l.length cx:=(hT 18 0 (by simp) rfl).trans (hd ⟨0,.data⟩ (by simp) rfl);have e2:A.eval (.tmp 19)=.int .i64 (k:Nat):=(hT 19 1 (by simp) rfl).trans (hd ⟨1,.data⟩ (by simp) rfl);exact zhn (e:=67) rfl (by kernel_rfl) (by kernel_rfl) (e1) (e2) rfl (by omega) ⟨_,rfl,rfl,ze _ _⟩
      case o3=>
        refine GdOp.plain rfl (λA vs w' hF hT hb hd=>?_);have e1:A.eval (.tmp 20)=.pointer (some ⟨b1,o1+k*4,none⟩):=(hT 20 2 (by simp) rfl).trans (hd ⟨2,.data⟩ (by simp) rfl);exact zdj spS rfl e1 ((hb.cell (p:=⟨_,_,none⟩) (zad c0)).trans c0) ((hb.cell (p:=⟨_,_,none⟩) (zad c1)).trans c1) ((hb.cell (p:=⟨_,_,none⟩) (zad c2)).trans c2) ((hb.cell (p:=⟨_,_,none⟩) (zad c3)).trans c3) ⟨_,rfl,rfl,ze _ _⟩
      case o4=>
        refine GdOp.plain rfl (λA vs w' hF hT hb hd=>?_);have e1:A.eval (.tmp 1)=.slice (some ⟨b2,o2,none⟩) m.length cy:=hF 1 rfl;exact zu _ rfl ⟨_,rfl,e1,ze _ _⟩
      case o5=>
        refine GdOp.plain rfl (λA vs w' hF hT hb hd=>?_);have e1:A.eval (.tmp 5)=.int .i64 (k:Nat):=hF 5 rfl;exact zu _ rfl ⟨_,rfl,e1,ze _ _⟩
      case o6=>
        refine GdOp.plain rfl (λA vs w' hF hT hb hd=>?_);have e1:A.eval (.tmp 22)=.slice (some ⟨b2,o2,none⟩) m.length cy:=(hT 22 4 (by simp) rfl).trans (hd ⟨4,.data⟩ (by simp) rfl);have e2:A.eval (.tmp 23)=.int .i64 (k:Nat):=(hT 23 5 (by simp) rfl).trans (hd ⟨5,.data⟩ (by simp) rfl);exact zhn (e:=67) rfl (by kernel_rfl) (by kernel_rfl) (e1) (e2) rfl (by omega) ⟨_,rfl,rfl,ze _ _⟩
      case o7=>
        refine GdOp.plain rfl (λA vs w' hF hT hb hd=>?_);have e1:A.eval (.tmp 24)=.pointer (some ⟨b2,o2+k*4,none⟩):=(hT 24 6 (by simp) rfl).trans (hd ⟨6,.data⟩ (by simp) rfl);exact zdj spS rfl e1 ((hb.cell (p:=⟨_,_,none⟩) (zad d0)).trans d0) ((hb.cell (p:=⟨_,_,none⟩) (zad d1)).trans d1) ((hb.cell (p:=⟨_,_,none⟩) (zad d2)).trans d2) ((hb.cell (p:=⟨_,_,none⟩) (zad d3)).trans d3) ⟨_,rfl,rfl,ze _ _⟩
      case o8=>
        refine GdOp.plain rfl (λA vs w' hF hT hb hd=>?_);have e1:A.eval (.tmp 21)=.agg #[.int .i64 l[k].table,.slice A1 l[k].lo.length A2,.slice A3 l[k].hi.length A4,.bool l[k].isOpen]:=(hT 21 3 (by simp) rfl).trans (hd ⟨3,.data⟩ (by simp) rfl);have e2:A.eval (.tmp 25)=.agg #[.int .i64 m[k].table,.slice B1 m[k].lo.length B2,.slice B3 m[k].hi.length B4,.bool m[k].isOpen]:=(hT 25 7 (by simp) rfl).trans (hd ⟨7,.data⟩ (by simp) rfl);refine zah rfl eO (args:=#[.agg #[.int .i64 l[k].table,.slice A1 l[k].lo.length A2,.slice A3 l[k].hi.length A4,.bool l[k].isOpen],.agg #[.int .i64 m[k].table,.slice B1 m[k].lo.length B2,.slice B3 m[k].hi.length B4,.bool m[k].isOpen]]) (by simp only[zE,zn,zo,e1,e2]) ((rOne_any w' (hx.below hb) (hy.below hb)).mono ?_);rintro e w2 ⟨rfl,hb2⟩;exact⟨_,rfl,_,rfl,rfl,hb2⟩
      case o9=>
        refine GdOp.plain rfl (λA vs w' hF hT hb hd=>?_);have e1:A.eval (.tmp 26)=.bool (decide (l[k]=m[k])):=(hT 26 8 (by simp) rfl).trans (hd ⟨8,.data⟩ (by simp) rfl);exact yV _ rfl ⟨_,rfl,e1,ze _ _⟩
      case fin=>
      intro vs9 W9 hb9 hG9;have e0:vs9 0=.slice (some ⟨b1,o1,none⟩) l.length cx:=hG9 0 (by decide);have e1:vs9 1=.int .i64 (k:Nat):=hG9 1 (by decide);have e2:vs9 2=.pointer (some ⟨b1,o1+k*4,none⟩):=hG9 2 (by decide);have e3:vs9 3=.agg #[.int .i64 l[k].table,.slice A1 l[k].lo.length A2,.slice A3 l[k].hi.length A4,.bool l[k].isOpen]:=hG9 3 (by decide);have e4:vs9 4=.slice (some ⟨b2,o2,none⟩) m.length cy:=hG9 4 (by decide);have e5:vs9 5=.int .i64 (k:Nat):=hG9 5 (by decide);have e6:vs9 6=.pointer (some ⟨b2,o2+k*4,none⟩):=hG9 6 (by decide);have e7:vs9 7=.agg #[.int .i64 m[k].table,.slice B1 m[k].lo.length B2,.slice B3 m[k].hi.length B4,.bool m[k].isOpen]:=hG9 7 (by decide);have e8:vs9 8=.bool (decide (l[k]=m[k])):=hG9 8 (by decide);have e9:vs9 9=.bool (decide (l[k]=m[k])):=hG9 9 (by decide);simp only[zaj,e0,e1,e2,e3,e4,e5,e6,e7,e8,e9];clear hG9 e0 e1 e2 e3 e4 e5 e6 e7 e8 e9;replace q:=q.trans (hb9.mono q.size);clear hb9 hx hy c0 c1 c2 c3 d0 d1 d2 d3;go_simp;by_cases he:l[k]=m[k]
      · rw[zk he]
        have hall2:=Lib.hid (take_bothS hlt hltm hall.out he);clear he hall;go_wp2_with fail;go_roundw;case rel=>exact⟨k+1,by go_num,by omega,hall2.out,q⟩
        case measure=>simp[intOf];omega
      · rw[zj he]
        have HK:=Lib.hid (show decide (l=m)=false from zj λh=>he (by subst h;rfl));clear he hall;go_wp2_with fail;go_ret;exact⟨by first|(rw[HK.out];done)|(rw[HK.out];rfl),q⟩
    · obtain rfl:k=l.length:=by omega
      have dk:decide ((l.length:Int)<(l.length:Int))=false:=zj (by omega);have HK:=Lib.hid (show decide (l=m)=true from zk (by have h:=hall.out;rw[yv]at h;rw[hlen.out,yv]at h;exact h));clear hall;go_wp2_with fail;go_ret;exact⟨by first|(rw[HK.out];done)|(rw[HK.out];rfl),q⟩
def RdLk(S:Nat->Prop)(w:World)(v:Value)(x:Lk):Prop:=∃a c a2 c2,v=.agg #[.int .i64 x.owner,.bool x.whole,.int .i64 x.span.table,.slice a x.span.lo.length c,.slice a2 x.span.hi.length c2,.bool x.span.isOpen,.int .i64 x.mode]/\RdS S w (.slice a x.span.lo.length c) x.span.lo/\RdS S w (.slice a2 x.span.hi.length c2) x.span.hi/\Lk64 x
def RdLs (S:Nat->Prop)(w:World)(v:Value)(H Q:List Lk):Prop:=∃a c a2 c2,v=.agg #[.slice a H.length c,.slice a2 Q.length c2]/\RdL Elt.lk S w (.slice a H.length c) H/\RdL Elt.lk S w (.slice a2 Q.length c2) Q
section
variable {S S' : Nat → Prop} {w w' : World} {v : Value}
theorem RdLk.R{x:Lk}{k m:Option Addr}{l n:Nat}(h:RdLk S w (.agg #[.int .i64 x.owner,.bool x.whole,.int .i64 x.span.table,.slice k x.span.lo.length l,.slice m x.span.hi.length n,.bool x.span.isOpen,.int .i64 x.mode]) x):Elt.lk.R S w x [.int .i64 x.owner,.bool x.whole,.int .i64 x.span.table,.slice k x.span.lo.length l,.slice m x.span.hi.length n,.bool x.span.isOpen,.int .i64 x.mode]:=by
 obtain⟨_,_,_,_,e,h1,h2,h3⟩:=h;injection e with e;injection e with e;injection e with _ e;injection e with _ e;injection e with _ e;injection e with f1 e;injection e with f2 _;rw[<-f1]at h1;rw[<-f2]at h2;exact⟨_,_,rfl,h1,h2,h3⟩
theorem RdLk.sp{x:Lk}{k m:Option Addr}{l n:Nat}(h:RdLk S w (.agg #[.int .i64 x.owner,.bool x.whole,.int .i64 x.span.table,.slice k x.span.lo.length l,.slice m x.span.hi.length n,.bool x.span.isOpen,.int .i64 x.mode]) x):RdSp S w (.agg #[.int .i64 x.span.table,.slice k x.span.lo.length l,.slice m x.span.hi.length n,.bool x.span.isOpen]) x.span:=by
 obtain⟨_,_,e,h1,h2,h3⟩:=h.R;injection e with _ e;injection e with _ e;injection e with _ e;injection e with f1 e;injection e with f2 _;rw[<-f1]at h1;rw[<-f2]at h2;exact⟨_,_,_,_,rfl,h1,h2,h3.2.1⟩
end
theorem lkF2:FdP Tryz.prog 74 2 2:=⟨_,_,3,Tryz.underlying74,rfl,rfl,by kernel_rfl⟩
def shortK (l:List Lk):Prop:=l.length<=60/\∀x∈l,x.span.lo.length<=100/\x.span.hi.length<=100
instance(l:List Lk):Decidable (shortK l):=by unfold shortK;exact inferInstance
def fewK (H Q:List Lk):Prop:=shortK H/\shortK Q
instance(H Q:List Lk):Decidable (fewK H Q):=by unfold fewK;exact inferInstance
theorem lk_ext{x y:Lk}(h1:x.owner=y.owner)(h2:x.whole=y.whole)(h3:x.span=y.span)(h4:x.mode=y.mode):x=y:=by
 cases x;cases y;simp_all
theorem rsame_any(w:World){S S2:Nat->Prop}{a a2:Option Addr}{n cx n2 cy:Nat}{l m:List Lk}(hl:RdL Elt.lk S w (.slice a n cx) l)(hm:RdL Elt.lk S2 w (.slice a2 n2 cy) m):Calls Tryz.prog 34 #[.slice a n cx,.slice a2 n2 cy] w λe w'=>e=.returned (.bool (decide (l=m)))/\Below w.heap.size w w':=by
  obtain⟨rfl,hnc,hcm⟩:=hl.len;have hlm:l.length<=9223372036854775807:=by unfold maxLen at hcm;omega
  obtain⟨rfl,hnc2,hcm2⟩:=hm.len;have hmm:m.length<=9223372036854775807:=by unfold maxLen at hcm2;omega
  have q:=ze w.heap.size w;have eO:∀args w,(callFunc 35 args).run Tryz.prog w=.ok (.enter 35 args) w:=enters_of Tryz.func35 (by kernel_rfl) rfl;go_enter Tryz.func34,Tryz.ntmps34;by_cases hlen:l.length=m.length;case neg=>
    have d1:((l.length:Int)==(m.length:Int))=false:=zt.2 (by omega);have d2:(l.length==m.length)=false:=zt.2 hlen;have d3:((l.length:Int)!=(m.length:Int))=true:=xi.2 (by omega);have HK:=Lib.hid (show decide (l=m)=false from zj λh=>hlen (by rw[h]));clear hlen;go_wp2_with fail;go_ret;exact⟨by first|(rw[HK.out];done)|(rw[HK.out];rfl),q⟩
  have d1:((l.length:Int)==(m.length:Int))=true:=zK.2 (by omega);have d2:(l.length==m.length)=true:=zK.2 hlen;have d3:((l.length:Int)!=(m.length:Int))=false:=by rw[bne,d1];rfl
  replace hlen:=Lib.hid hlen;go_upto_region 4 with(fail);clear d1 d2 d3;go_loopw[5,6](λiv ov wr=>∃(k:Nat),iv=.int .i64 k/\k<=l.length/\l.take k=m.take k/\Below w.heap.size w wr)(λi _ _=>l.length-(intOf i).toNat)
  case atStart=>exact⟨0,rfl,zH _,by simp,q⟩
  case round=>
    clear q;obtain⟨k,rfl,hkl,hall,q⟩:=hrel;replace hall:=Lib.hid hall;rcases zA k l.length with hlt|hge
    · have hltm:k<m.length:=by have:=hlen.out;omega
      have dk:decide ((k:Int)<(l.length:Int))=true:=zk (by omega);obtain⟨b1,o1,A1,A2,A3,A4,rfl,_,c0,c1,c2,c3,c4,c5,c6,hk1,hk2,hw64⟩:=(hl.below q).lk k hlt;obtain⟨b2,o2,B1,B2,B3,B4,rfl,_,d0,d1,d2,d3,d4,d5,d6,hk3,hk4,hw65⟩:=(hm.below q).lk k hltm;obtain⟨x,ex⟩:∃x,x=l[k]:=⟨_,rfl⟩;obtain⟨y,ey⟩:∃y,y=m[k]:=⟨_,rfl⟩;rw[<-ex]at c0 c1 c2 c3 c4 c5 c6 hk1 hk2 hw64;rw[<-ey]at d0 d1 d2 d3 d4 d5 d6 hk3 hk4 hw65;replace ex:=Lib.hid ex;replace ey:=Lib.hid ey;have hx:RdLk S wr (.agg #[.int .i64 x.owner,.bool x.whole,.int .i64 x.span.table,.slice A1 x.span.lo.length A2,.slice A3 x.span.hi.length A4,.bool x.span.isOpen,.int .i64 x.mode]) x:=⟨_,_,_,_,rfl,hk1,hk2,hw64⟩;have hy:RdLk S2 wr (.agg #[.int .i64 y.owner,.bool y.whole,.int .i64 y.span.table,.slice B1 y.span.lo.length B2,.slice B3 y.span.hi.length B4,.bool y.span.isOpen,.int .i64 y.mode]) y:=⟨_,_,_,_,rfl,hk3,hk4,hw65⟩;clear hk1 hk2 hk3 hk4;go_upto_region 6 with(fail);refine zez (by kernel_rfl) (by kernel_rfl) [sgEq (.slice (some ⟨b1,o1,none⟩) l.length cx),sgEq (.int .i64 (k:Nat)),sgEq (.pointer (some ⟨b1,o1+k*7,none⟩)),sgEq (.pointer (some ⟨b1,o1+k*7+2,none⟩)),sgEq (.agg #[.int .i64 x.span.table,.slice A1 x.span.lo.length A2,.slice A3 x.span.hi.length A4,.bool x.span.isOpen]),sgEq (.slice (some ⟨b2,o2,none⟩) m.length cy),sgEq (.int .i64 (k:Nat)),sgEq (.pointer (some ⟨b2,o2+k*7,none⟩)),sgEq (.pointer (some ⟨b2,o2+k*7+2,none⟩)),sgEq (.agg #[.int .i64 y.span.table,.slice B1 y.span.lo.length B2,.slice B3 y.span.hi.length B4,.bool y.span.isOpen]),sgEq (.bool (decide (x.span=y.span))),sgEq (.bool (decide (x.span=y.span)))]
        ⟨?o0,?o1,?o2,?o3,?o4,?o5,?o6,?o7,?o8,?o9,?o10,?o11,trivial⟩ ?fin
      case o0=>
        refine GdOp.plain rfl (λA vs w' hF hT hb hd=>?_);have e1:A.eval (.tmp 0)=.slice (some ⟨b1,o1,none⟩) l.length cx:=hF 0 rfl;exact zu _ rfl ⟨_,rfl,e1,ze _ _⟩
      case o1=>
        refine GdOp.plain rfl (λA vs w' hF hT hb hd=>?_);have e1:A.eval (.tmp 5)=.int .i64 (k:Nat):=hF 5 rfl;exact zu _ rfl ⟨_,rfl,e1,ze _ _⟩
      case o2=>
        refine GdOp.plain rfl (λA vs w' hF hT hb hd=>?_);have e1:A.eval (.tmp 18)=.slice (some ⟨b1,o1,none⟩) l.length cx:=(hT 18 0 (by simp) rfl).trans (hd ⟨0,.data⟩ (by simp) rfl);have e2:A.eval (.tmp 19)=.int .i64 (k:Nat):=(hT 19 1 (by simp) rfl).trans (hd ⟨1,.data⟩ (by simp) rfl);exact zhn (e:=74) rfl (by kernel_rfl) (by kernel_rfl) (e1) (e2) rfl (by omega) ⟨_,rfl,rfl,ze _ _⟩
      case o3=>
        refine GdOp.plain rfl (λA vs w' hF hT hb hd=>?_);have e1:A.eval (.tmp 20)=.pointer (some ⟨b1,o1+k*7,none⟩):=(hT 20 2 (by simp) rfl).trans (hd ⟨2,.data⟩ (by simp) rfl);exact za6 lkF2 rfl e1 ⟨_,rfl,rfl,ze _ _⟩
      case o4=>
        refine GdOp.plain rfl (λA vs w' hF hT hb hd=>?_);have e1:A.eval (.tmp 21)=.pointer (some ⟨b1,o1+k*7+2,none⟩):=(hT 21 3 (by simp) rfl).trans (hd ⟨3,.data⟩ (by simp) rfl);exact zdj spS rfl e1 ((hb.cell (p:=⟨_,_,none⟩) (zad c2)).trans c2) ((hb.cell (p:=⟨_,_,none⟩) (zad c3)).trans c3) ((hb.cell (p:=⟨_,_,none⟩) (zad c4)).trans c4) ((hb.cell (p:=⟨_,_,none⟩) (zad c5)).trans c5) ⟨_,rfl,rfl,ze _ _⟩
      case o5=>
        refine GdOp.plain rfl (λA vs w' hF hT hb hd=>?_);have e1:A.eval (.tmp 1)=.slice (some ⟨b2,o2,none⟩) m.length cy:=hF 1 rfl;exact zu _ rfl ⟨_,rfl,e1,ze _ _⟩
      case o6=>
        refine GdOp.plain rfl (λA vs w' hF hT hb hd=>?_);have e1:A.eval (.tmp 5)=.int .i64 (k:Nat):=hF 5 rfl;exact zu _ rfl ⟨_,rfl,e1,ze _ _⟩
      case o7=>
        refine GdOp.plain rfl (λA vs w' hF hT hb hd=>?_);have e1:A.eval (.tmp 23)=.slice (some ⟨b2,o2,none⟩) m.length cy:=(hT 23 5 (by simp) rfl).trans (hd ⟨5,.data⟩ (by simp) rfl);have e2:A.eval (.tmp 24)=.int .i64 (k:Nat):=(hT 24 6 (by simp) rfl).trans (hd ⟨6,.data⟩ (by simp) rfl);exact zhn (e:=74) rfl (by kernel_rfl) (by kernel_rfl) (e1) (e2) rfl (by omega) ⟨_,rfl,rfl,ze _ _⟩
      case o8=>
        refine GdOp.plain rfl (λA vs w' hF hT hb hd=>?_);have e1:A.eval (.tmp 25)=.pointer (some ⟨b2,o2+k*7,none⟩):=(hT 25 7 (by simp) rfl).trans (hd ⟨7,.data⟩ (by simp) rfl);exact za6 lkF2 rfl e1 ⟨_,rfl,rfl,ze _ _⟩
      case o9=>
        refine GdOp.plain rfl (λA vs w' hF hT hb hd=>?_);have e1:A.eval (.tmp 26)=.pointer (some ⟨b2,o2+k*7+2,none⟩):=(hT 26 8 (by simp) rfl).trans (hd ⟨8,.data⟩ (by simp) rfl);exact zdj spS rfl e1 ((hb.cell (p:=⟨_,_,none⟩) (zad d2)).trans d2) ((hb.cell (p:=⟨_,_,none⟩) (zad d3)).trans d3) ((hb.cell (p:=⟨_,_,none⟩) (zad d4)).trans d4) ((hb.cell (p:=⟨_,_,none⟩) (zad d5)).trans d5) ⟨_,rfl,rfl,ze _ _⟩
      case o10=>
        refine GdOp.plain rfl (λA vs w' hF hT hb hd=>?_);have e1:A.eval (.tmp 22)=.agg #[.int .i64 x.span.table,.slice A1 x.span.lo.length A2,.slice A3 x.span.hi.length A4,.bool x.span.isOpen]:=(hT 22 4 (by simp) rfl).trans (hd ⟨4,.data⟩ (by simp) rfl);have e2:A.eval (.tmp 27)=.agg #[.int .i64 y.span.table,.slice B1 y.span.lo.length B2,.slice B3 y.span.hi.length B4,.bool y.span.isOpen]:=(hT 27 9 (by simp) rfl).trans (hd ⟨9,.data⟩ (by simp) rfl);refine zah rfl eO (args:=#[.agg #[.int .i64 x.span.table,.slice A1 x.span.lo.length A2,.slice A3 x.span.hi.length A4,.bool x.span.isOpen],.agg #[.int .i64 y.span.table,.slice B1 y.span.lo.length B2,.slice B3 y.span.hi.length B4,.bool y.span.isOpen]]) (by simp only[zE,zn,zo,e1,e2]) ((rOne_any w' (hx.sp.below hb) (hy.sp.below hb)).mono ?_);rintro e w2 ⟨rfl,hb2⟩;exact⟨_,rfl,_,rfl,rfl,hb2⟩
      case o11=>
        refine GdOp.plain rfl (λA vs w' hF hT hb hd=>?_);have e1:A.eval (.tmp 28)=.bool (decide (x.span=y.span)):=(hT 28 10 (by simp) rfl).trans (hd ⟨10,.data⟩ (by simp) rfl);exact yV _ rfl ⟨_,rfl,e1,ze _ _⟩
      case fin=>
      intro vs9 W9 hb9 hG9;have e0:vs9 0=.slice (some ⟨b1,o1,none⟩) l.length cx:=hG9 0 (by decide);have e1:vs9 1=.int .i64 (k:Nat):=hG9 1 (by decide);have e2:vs9 2=.pointer (some ⟨b1,o1+k*7,none⟩):=hG9 2 (by decide);have e3:vs9 3=.pointer (some ⟨b1,o1+k*7+2,none⟩):=hG9 3 (by decide);have e4:vs9 4=.agg #[.int .i64 x.span.table,.slice A1 x.span.lo.length A2,.slice A3 x.span.hi.length A4,.bool x.span.isOpen]:=hG9 4 (by decide);have e5:vs9 5=.slice (some ⟨b2,o2,none⟩) m.length cy:=hG9 5 (by decide);have e6:vs9 6=.int .i64 (k:Nat):=hG9 6 (by decide);have e7:vs9 7=.pointer (some ⟨b2,o2+k*7,none⟩):=hG9 7 (by decide);have e8:vs9 8=.pointer (some ⟨b2,o2+k*7+2,none⟩):=hG9 8 (by decide);have e9:vs9 9=.agg #[.int .i64 y.span.table,.slice B1 y.span.lo.length B2,.slice B3 y.span.hi.length B4,.bool y.span.isOpen]:=hG9 9 (by decide);have e10:vs9 10=.bool (decide (x.span=y.span)):=hG9 10 (by decide);have e11:vs9 11=.bool (decide (x.span=y.span)):=hG9 11 (by decide);simp only[zaj,e0,e1,e2,e3,e4,e5,e6,e7,e8,e9,e10,e11];clear hG9 e0 e1 e2 e3 e4 e5 e6 e7 e8 e9 e10 e11;replace q:=q.trans (hb9.mono q.size);replace c0:=(hb9.cell (p:=⟨_,_,none⟩) (zad c0)).trans c0;replace c1:=(hb9.cell (p:=⟨_,_,none⟩) (zad c1)).trans c1;replace c2:=(hb9.cell (p:=⟨_,_,none⟩) (zad c2)).trans c2;replace c3:=(hb9.cell (p:=⟨_,_,none⟩) (zad c3)).trans c3;replace c4:=(hb9.cell (p:=⟨_,_,none⟩) (zad c4)).trans c4;replace c5:=(hb9.cell (p:=⟨_,_,none⟩) (zad c5)).trans c5;replace c6:=(hb9.cell (p:=⟨_,_,none⟩) (zad c6)).trans c6;replace d0:=(hb9.cell (p:=⟨_,_,none⟩) (zad d0)).trans d0;replace d1:=(hb9.cell (p:=⟨_,_,none⟩) (zad d1)).trans d1;replace d2:=(hb9.cell (p:=⟨_,_,none⟩) (zad d2)).trans d2;replace d3:=(hb9.cell (p:=⟨_,_,none⟩) (zad d3)).trans d3;replace d4:=(hb9.cell (p:=⟨_,_,none⟩) (zad d4)).trans d4;replace d5:=(hb9.cell (p:=⟨_,_,none⟩) (zad d5)).trans d5;replace d6:=(hb9.cell (p:=⟨_,_,none⟩) (zad d6)).trans d6;clear hb9 hx hy;go_simp;have d7:((k:Nat):Int)<(m.length:Int):=by omega
      go_upto_region 7 with(fail);by_cases h_sp:x.span=y.span;case neg=>
        rw[zj h_sp];have H:=Lib.hid (show decide (l=m)=false from zj λh=>by have:=congrArg (λz:List Lk=>z[k]?) h;simp only[zB hlt,zB hltm,Option.some.injEq]at this;rw[<-ex.out,<-ey.out]at this;exact h_sp (by rw[this]));clear h_sp;go_quiet (fail);go_wp2_with fail;go_ret;exact⟨by first|(rw[H.out];done)|(rw[H.out];rfl),Below.drewN q _⟩
      rw[zk h_sp];replace h_sp:=Lib.hid h_sp;by_cases h_ow:x.owner=y.owner;case neg=>
        have daow:(x.owner==y.owner)=false:=zt.2 h_ow;have ddow:(x.owner !=y.owner)=true:=xi.2 h_ow;have dbow:decide (x.owner=y.owner)=false:=zj h_ow;have dcow:(x.owner=y.owner)=False:=eq_false h_ow;have H:=Lib.hid (show decide (l=m)=false from zj λh=>by have:=congrArg (λz:List Lk=>z[k]?) h;simp only[zB hlt,zB hltm,Option.some.injEq]at this;rw[<-ex.out,<-ey.out]at this;exact h_ow (by rw[this]));clear h_ow;go_quiet (fail);go_wp2_with fail;go_ret;exact⟨by first|(rw[H.out];done)|(rw[H.out];rfl),Below.drewN q _⟩
      have daow:(x.owner==y.owner)=true:=zK.2 h_ow;have ddow:(x.owner !=y.owner)=false:=by rw[xf];exact h_ow
      have dbow:decide (x.owner=y.owner)=true:=zk h_ow;have dcow:(x.owner=y.owner)=True:=eq_true h_ow;replace h_ow:=Lib.hid h_ow;by_cases h_wh:x.whole=y.whole;case neg=>
        have dawh:(x.whole==y.whole)=false:=zt.2 h_wh;have ddwh:(x.whole !=y.whole)=true:=xi.2 h_wh;have dbwh:decide (x.whole=y.whole)=false:=zj h_wh;have dcwh:(x.whole=y.whole)=False:=eq_false h_wh;have H:=Lib.hid (show decide (l=m)=false from zj λh=>by have:=congrArg (λz:List Lk=>z[k]?) h;simp only[zB hlt,zB hltm,Option.some.injEq]at this;rw[<-ex.out,<-ey.out]at this;exact h_wh (by rw[this]));clear h_wh;go_quiet (fail);go_wp2_with fail;go_ret;exact⟨by first|(rw[H.out];done)|(rw[H.out];rfl),Below.drewN q _⟩
      have dawh:(x.whole==y.whole)=true:=zK.2 h_wh;have ddwh:(x.whole !=y.whole)=false:=by rw[xf];exact h_wh
      have dbwh:decide (x.whole=y.whole)=true:=zk h_wh;have dcwh:(x.whole=y.whole)=True:=eq_true h_wh;replace h_wh:=Lib.hid h_wh;by_cases h_mo:x.mode=y.mode;case neg=>
        have damo:(x.mode==y.mode)=false:=zt.2 h_mo;have ddmo:(x.mode !=y.mode)=true:=xi.2 h_mo;have dbmo:decide (x.mode=y.mode)=false:=zj h_mo;have dcmo:(x.mode=y.mode)=False:=eq_false h_mo;have H:=Lib.hid (show decide (l=m)=false from zj λh=>by have:=congrArg (λz:List Lk=>z[k]?) h;simp only[zB hlt,zB hltm,Option.some.injEq]at this;rw[<-ex.out,<-ey.out]at this;exact h_mo (by rw[this]));clear h_mo;go_quiet (fail);go_wp2_with fail;go_ret;exact⟨by first|(rw[H.out];done)|(rw[H.out];rfl),Below.drewN q _⟩
      have damo:(x.mode==y.mode)=true:=zK.2 h_mo;have ddmo:(x.mode !=y.mode)=false:=by rw[xf];exact h_mo
      have dbmo:decide (x.mode=y.mode)=true:=zk h_mo;have dcmo:(x.mode=y.mode)=True:=eq_true h_mo;have hxy:=Lib.hid (show x=y from lk_ext h_ow.out h_wh.out h_sp.out h_mo);clear h_mo h_wh h_ow h_sp;have H:=Lib.hid (show l.take (k+1)=m.take (k+1)by rw[yZ hlt,yZ hltm,hall.out,<-ex.out,<-ey.out,hxy.out]);clear hall hxy;go_quiet (fail);go_wp2_with fail;go_roundw;case rel=>exact⟨k+1,by go_num,by omega,H.out,Below.drewN q _⟩
      case measure=>simp[intOf];omega
    · obtain rfl:k=l.length:=by omega
      have H:=Lib.hid (show decide (l=m)=true from zk (by
        have h:=hall.out;rw[yv,hlen.out,yv]at h;exact h))
      clear hall;go_wp2_with fail;go_ret;exact⟨by first|(rw[H.out];done)|(rw[H.out];rfl),q⟩
theorem rSame_anyLkV(w:World){S S2:Nat->Prop}{u v:Value}{H Q H' Q':List Lk}(h:RdLs S w u H Q) (h':RdLs S2 w v H' Q'):Calls Tryz.prog 13 #[u,v] w λe w'=>e=.returned (.bool (decide (H=H'/\Q=Q')))/\Below w.heap.size w w':=by
  obtain⟨a1,a2,a3,a4,rfl,h1,h2⟩:=h;obtain⟨b1,b2,b3,b4,rfl,h3,h4⟩:=h';obtain⟨W,hW,q,Bx,By,hsz⟩:=ze2 w 30 30 [.slice a1 H.length a2,.slice a3 Q.length a4] [.slice b1 H'.length b2,.slice b3 Q'.length b4];clear hsz;have hC1:=rsame_any W (h1.below q) (h3.below q);go_enter Tryz.func13,Tryz.ntmps13;go_upto_region 1 with(fail);rw[show(w.alloc (.cells #[.slice a1 H.length a2,.slice a3 Q.length a4] 30)).alloc (.cells #[.slice b1 H'.length b2,.slice b3 Q'.length b4] 30)=W from hW.symm];clear hW;have c0:=Bx.cell (i:=0) rfl;have d0:=By.cell (i:=0) rfl
  go_wp2_with fail;refine hC1.mono ?_;rintro e w1 ⟨rfl,hb⟩;replace q:=q.trans (hb.mono q.size);replace Bx:=Bx.below hb Bx.lt;replace By:=By.below hb By.lt;clear c0 d0 hC1 hb;by_cases hH:H=H'
  · rw[zk hH]
    have Hk:=Lib.hid (show decide (H=H'/\Q=Q')=decide (Q=Q')by simp[hH]);clear hH;have c1:=Bx.cell (i:=1) rfl;have d1:=By.cell (i:=1) rfl;have hC2:=rsame_any w1 (h2.below q) (h4.below q)
    go_wp2_with fail;refine hC2.mono ?_;rintro e w2 ⟨rfl,hb⟩;replace q:=q.trans (hb.mono q.size);clear c1 d1 hC2 hb
    go_wp2_with fail;go_ret;exact⟨by first|(rw[Hk.out];done)|(rw[Hk.out];rfl),q⟩
  · rw[zj hH]
    have Hk:=Lib.hid (show decide (H=H'/\Q=Q')=false from zj λh=>hH h.1);clear hH
    go_wp2_with fail;go_ret;exact⟨by first|(rw[Hk.out];done)|(rw[Hk.out];rfl),q⟩
def txC(x:Tx)(k h v:Value):List Value:=[.int .i64 x.kind,.int .i64 x.table,k,h,.bool x.isOpen,v,.int .i64 x.n]
def Elt.tx:Elt Tx where
 size:=7;pos:=by omega
 R S w x vs:=∃k h v,vs=txC x k h v/\RdS S w k x.key/\RdS S w h x.hi/\RdS S w v x.val/\Tx64 x;len:=by rintro _ _ _ _ ⟨_,_,_,rfl,_⟩;rfl
 keep:=by rintro _ _ _ _ _ ⟨k,h,v,rfl,h1,h2,h3,h4⟩hk;exact⟨k,h,v,rfl,h1.keep hk,h2.keep hk,h3.keep hk,h4⟩
 weak:=by rintro _ _ _ _ _ ⟨k,h,v,rfl,h1,h2,h3,h4⟩hk;exact⟨k,h,v,rfl,h1.weak hk,h2.weak hk,h3.weak hk,h4⟩
 fit:=by rintro _ _ _ _ ⟨k,h,v,rfl,h1,h2,h3,h4⟩;exact⟨k,h,v,rfl,h1.fit,h2.fit,h3.fit,h4⟩
 one:=by
  rintro _ _ _ _ ⟨k,h,v,rfl,h1,h2,h3,_⟩u hu;have g1:=h1.one;have g2:=h2.one;have g3:=h3.one;simp only[txC,zU,yJ,yK]at hu;rcases hu with rfl|rfl|rfl|rfl|rfl|rfl|rfl
  · rfl
  · rfl
  ·exact g1
  ·exact g2
  · rfl
  ·exact g3
  · rfl
section
variable {P : Program} {H : Type} {enc : TypeId × Value → H} {w : World} {base : Nat} {spare : Nat → Bool} {held : Bool}
theorem zl8{t:TypeId}{f0 f1 f2 f3 f4 f5 f6:Field}{fuel:Nat}{cs:List Value}{x:DataW H×List MemPlace}(ht:P.underlying t=some (.struct #[f0,f1,f2,f3,f4,f5,f6]))(h:DataW.trod enc P w base spare held fuel t cs=some x):∃y0 y1 y2 y3 y4 y5 y6 n,cs.length=P.cellsOf t/\DataW.trod enc P w base spare held n f0.type ((cs.drop f0.offset).take (P.cellsOf f0.type))=some y0/\DataW.trod enc P w base spare held n f1.type ((cs.drop f1.offset).take (P.cellsOf f1.type))=some y1/\DataW.trod enc P w base spare held n f2.type ((cs.drop f2.offset).take (P.cellsOf f2.type))=some y2/\DataW.trod enc P w base spare held n f3.type ((cs.drop f3.offset).take (P.cellsOf f3.type))=some y3/\DataW.trod enc P w base spare held n f4.type ((cs.drop f4.offset).take (P.cellsOf f4.type))=some y4/\DataW.trod enc P w base spare held n f5.type ((cs.drop f5.offset).take (P.cellsOf f5.type))=some y5/\DataW.trod enc P w base spare held n f6.type ((cs.drop f6.offset).take (P.cellsOf f6.type))=some y6:=by
 obtain⟨xs,n,_,rfl,hl,hlen,hf⟩:=DataW.trod_struct ht h;match xs,hlen with
 |[y0,y1,y2,y3,y4,y5,y6],_=>exact⟨y0,y1,y2,y3,y4,y5,y6,n,hl,by simpa using hf 0 f0 rfl,by simpa using hf 1 f1 rfl,by simpa using hf 2 f2 rfl,by simpa using hf 3 f3 rfl,by simpa using hf 4 f4 rfl,by simpa using hf 5 f5 rfl,by simpa using hf 6 f6 rfl⟩
end
theorem zp1:Opens Tryz.prog 25 Elt.tx:=by
 intro H enc w base held fuel cs x h;obtain⟨y0,y1,y2,y3,y4,y5,y6,n,hl,h0,h1,h2,h3,h4,h5,h6⟩:=zl8 Tryz.underlying25 h;have hc:cs.length=7:=hl.trans (by kernel_rfl);match cs,hc with
 |[c0,c1,c2,c3,c4,c5,c6],_=>
  obtain⟨m0,hm0,_,hw0⟩:=wl (by kernel_rfl:Tryz.prog.underlying 3=some (.int .i64)) (h0:DataW.trod enc Tryz.prog w base (λ_=>true) held n 3 [c0]=some y0);obtain⟨m1,hm1,_,hw1⟩:=wl (by kernel_rfl:Tryz.prog.underlying 3=some (.int .i64)) (h1:DataW.trod enc Tryz.prog w base (λ_=>true) held n 3 [c1]=some y1);obtain⟨m2,v2,hv2,hR2⟩:=Opens.bytes (P:=Tryz.prog) (t:=23) (e:=5) (by kernel_rfl) (by kernel_rfl) (by kernel_rfl) (h2:DataW.trod enc Tryz.prog w base (λ_=>true) held n 23 [c2]=some y2);obtain⟨m3,v3,hv3,hR3⟩:=Opens.bytes (P:=Tryz.prog) (t:=23) (e:=5) (by kernel_rfl) (by kernel_rfl) (by kernel_rfl) (h3:DataW.trod enc Tryz.prog w base (λ_=>true) held n 23 [c3]=some y3);obtain⟨m4,hm4,_⟩:=DataW.trod_bool (by kernel_rfl:Tryz.prog.underlying 4=some .bool) (h4:DataW.trod enc Tryz.prog w base (λ_=>true) held n 4 [c4]=some y4);obtain⟨m5,v5,hv5,hR5⟩:=Opens.bytes (P:=Tryz.prog) (t:=23) (e:=5) (by kernel_rfl) (by kernel_rfl) (by kernel_rfl) (h5:DataW.trod enc Tryz.prog w base (λ_=>true) held n 23 [c5]=some y5);obtain⟨m6,hm6,_,hw6⟩:=wl (by kernel_rfl:Tryz.prog.underlying 3=some (.int .i64)) (h6:DataW.trod enc Tryz.prog w base (λ_=>true) held n 3 [c6]=some y6);cases hm0;cases hm1;cases hv2;cases hv3;cases hm4;cases hv5;cases hm6;exact⟨⟨m0,m1,m2,m3,m4,m5,m6⟩,c2,c3,c5,rfl,hR2,hR3,hR5,w64w hw0,w64w hw1,w64w hw6⟩
theorem open_tx{H:Type}{enc:TypeId×Value->H}{w:World}{base:Nat}{held:Bool}{fuel:Nat}{cs:Array Value}{x:DataW H×List MemPlace}(h:DataW.trod enc Tryz.prog w base (λ_=>true) held fuel 25 (Value.agg cs).cells.toList=some x):∃d,RdTx (·<w.heap.size) w (.agg cs) d:=by
 obtain⟨d,k,g,v,e,h1,h2,h3,h4⟩:=zp1 h;obtain⟨a,c,rfl,_⟩:=h1.shape;obtain⟨a2,c2,rfl,_⟩:=h2.shape;obtain⟨a3,c3,rfl,_⟩:=h3.shape;have:cs=#[.int .i64 d.kind,.int .i64 d.table,.slice a d.key.length c,.slice a2 d.hi.length c2,.bool d.isOpen,.slice a3 d.val.length c3,.int .i64 d.n]:=Array.ext' (by simpa [Value.cells,txC]using e);exact⟨d,a,a2,a3,c,c2,c3,by rw[this],h1,h2,h3,h4⟩
theorem rCheckX_any (w:World){S:Nat->Prop}{v:Value}{x:Tx}(hx:RdTx S w v x):Calls Tryz.prog 18 #[v] w λe w'=>e=.returned (.int .i64 (errX x:Nat))/\Below w.heap.size w w':=by
  obtain⟨a,a2,a3,c,c2,c3,rfl,hk1,hk2,hk3,ht⟩:=hx;obtain⟨_,hc1,hm1⟩:=hk1.len;obtain⟨_,hc2,hm2⟩:=hk2.len;obtain⟨_,hc3,hm3⟩:=hk3.len;unfold maxLen at hm1 hm2 hm3;unfold Tx64 W64 at ht;clear hk1 hk2 hk3;obtain⟨W,hW,q,Bx,hsz⟩:=zeb w 25 [.int .i64 x.kind,.int .i64 x.table,.slice a x.key.length c,.slice a2 x.hi.length c2,.bool x.isOpen,.slice a3 x.val.length c3,.int .i64 x.n];clear hsz;go_enter Tryz.func18,Tryz.ntmps18;go_upto_region 1 with(fail);rw[show w.alloc (.cells #[.int .i64 x.kind,.int .i64 x.table,.slice a x.key.length c,.slice a2 x.hi.length c2,.bool x.isOpen,.slice a3 x.val.length c3,.int .i64 x.n] 25)=W from hW.symm];clear hW;have r0:=Bx.cell (i:=0) rfl;have r1:=Bx.cell (i:=1) rfl;have r2:=Bx.cell (i:=2) rfl;have r3:=Bx.cell (i:=3) rfl;have r4:=Bx.cell (i:=4) rfl;have r5:=Bx.cell (i:=5) rfl;have r6:=Bx.cell (i:=6) rfl;clear Bx;go_cut[3]from 4 to 50 (λv wr=>v=.bool (decide (badX x))/\wr=W);case first=>
    by_cases c0:x.kind<1
    · skip
      have hk:=Lib.hid (show decide (badX x)=true from zk (by unfold badX;omega));go_wp2_with fail;go_meet;exact⟨by rw[hk.out],rfl⟩
    by_cases c1:11<x.kind
    · skip
      have hk:=Lib.hid (show decide (badX x)=true from zk (by unfold badX;omega));go_wp2_with fail;go_meet;exact⟨by rw[hk.out],rfl⟩
    by_cases c2:x.table<0
    · skip
      have hk:=Lib.hid (show decide (badX x)=true from zk (by unfold badX;omega));go_wp2_with fail;go_meet;exact⟨by rw[hk.out],rfl⟩
    by_cases c3:3<x.table
    · skip
      have hk:=Lib.hid (show decide (badX x)=true from zk (by unfold badX;omega));go_wp2_with fail;go_meet;exact⟨by rw[hk.out],rfl⟩
    by_cases c4:16<(x.key.length:Int)
    · skip
      have hk:=Lib.hid (show decide (badX x)=true from zk (by unfold badX;omega));go_wp2_with fail;go_meet;exact⟨by rw[hk.out],rfl⟩
    by_cases c5:16<(x.hi.length:Int)
    · skip
      have hk:=Lib.hid (show decide (badX x)=true from zk (by unfold badX;omega));go_wp2_with fail;go_meet;exact⟨by rw[hk.out],rfl⟩
    obtain⟨b4,eb4⟩:∃b,b=x.isOpen:=⟨_,rfl⟩;rw[<-eb4]at r4;replace eb4:=Lib.hid eb4;cases b4 with
    |true=>
      by_cases c6:0<(x.hi.length:Int)
      · skip
        have e6:0<x.hi.length:=by omega
        have hk:=Lib.hid (show decide (badX x)=true from zk (.inr (.inr (.inr (.inr (.inr (.inr (.inl ⟨eb4.out.symm,by omega⟩))))))));go_wp2_with fail;go_meet;exact⟨by rw[hk.out],rfl⟩
      have e6:¬0<x.hi.length:=by omega
      by_cases c7:32<(x.val.length:Int)
      · skip
        have hk:=Lib.hid (show decide (badX x)=true from zk (by unfold badX;omega));go_wp2_with fail;go_meet;exact⟨by rw[hk.out],rfl⟩
      have hk:=Lib.hid (show decide (badX x)=false from zj (λh=>by unfold badX at h;rw[<-eb4.out]at h;simp at h;omega));go_wp2_with fail;go_meet;exact⟨by rw[hk.out],rfl⟩
    |false=>
      by_cases c7:32<(x.val.length:Int)
      · skip
        have hk:=Lib.hid (show decide (badX x)=true from zk (by unfold badX;omega));go_wp2_with fail;go_meet;exact⟨by rw[hk.out],rfl⟩
      have hk:=Lib.hid (show decide (badX x)=false from zj (λh=>by unfold badX at h;rw[<-eb4.out]at h;simp at h;omega));go_wp2_with fail;go_meet;exact⟨by rw[hk.out],rfl⟩
  case rest=>
    obtain⟨rfl,rfl⟩:=hcut;by_cases hb:badX x
    · rw[zk hb]
      have hk:=Lib.hid (show errX x=1 from zh (λh=>((okX_iff x).1 h).1 hb));clear hb;go_wp2_with fail;go_ret;exact⟨by rw[hk.out];rfl,q⟩
    rw[zj hb];by_cases k8:x.kind=8
    · skip
      have g8:(x.kind==8)=true:=zK.2 (by omega);have g11:(x.kind==11)=false:=zt.2 (by omega);have g7:(x.kind==7)=false:=zt.2 (by omega);by_cases n3:x.n=3
      · skip
        have f3:(x.n==3)=true:=zK.2 (by omega);have hk:=Lib.hid (show errX x=0 from zi ((okX_iff x).2 ⟨hb,by omega,by omega,by omega⟩));go_wp2_with fail;go_ret;exact⟨by rw[hk.out];rfl,q⟩
      by_cases n5:x.n=5
      · skip
        have f3:(x.n==3)=false:=zt.2 (by omega);have f5:(x.n==5)=true:=zK.2 (by omega);have hk:=Lib.hid (show errX x=0 from zi ((okX_iff x).2 ⟨hb,by omega,by omega,by omega⟩));go_wp2_with fail;go_ret;exact⟨by rw[hk.out];rfl,q⟩
      have f3:(x.n==3)=false:=zt.2 (by omega);have f5:(x.n==5)=false:=zt.2 (by omega);have hk:=Lib.hid (show errX x=1 from zh (λh=>by have h2:=((okX_iff x).1 h).2;omega));go_wp2_with fail;go_ret;exact⟨by rw[hk.out];rfl,q⟩
    have g8:(x.kind==8)=false:=zt.2 (by omega);by_cases k11:x.kind=11
    · skip
      have g11:(x.kind==11)=true:=zK.2 (by omega);have g7:(x.kind==7)=false:=zt.2 (by omega);by_cases n0:x.n=0
      · skip
        have f0:(x.n==0)=true:=zK.2 (by omega);have hk:=Lib.hid (show errX x=0 from zi ((okX_iff x).2 ⟨hb,by omega,by omega,by omega⟩));go_wp2_with fail;go_ret;exact⟨by rw[hk.out];rfl,q⟩
      by_cases n1:x.n=1
      · skip
        have f0:(x.n==0)=false:=zt.2 (by omega);have f1:(x.n==1)=true:=zK.2 (by omega);have hk:=Lib.hid (show errX x=0 from zi ((okX_iff x).2 ⟨hb,by omega,by omega,by omega⟩));go_wp2_with fail;go_ret;exact⟨by rw[hk.out];rfl,q⟩
      have f0:(x.n==0)=false:=zt.2 (by omega);have f1:(x.n==1)=false:=zt.2 (by omega);have hk:=Lib.hid (show errX x=1 from zh (λh=>by have h2:=((okX_iff x).1 h).2;omega));go_wp2_with fail;go_ret;exact⟨by rw[hk.out];rfl,q⟩
    have g11:(x.kind==11)=false:=zt.2 (by omega);by_cases k7:x.kind=7
    · skip
      have g7:(x.kind==7)=true:=zK.2 (by omega);by_cases m0:x.n<0
      · skip
        have hk:=Lib.hid (show errX x=1 from zh (λh=>by have h2:=((okX_iff x).1 h).2;omega));go_wp2_with fail;go_ret;exact⟨by rw[hk.out];rfl,q⟩
      by_cases m3:3<x.n
      · skip
        have hk:=Lib.hid (show errX x=1 from zh (λh=>by have h2:=((okX_iff x).1 h).2;omega));go_wp2_with fail;go_ret;exact⟨by rw[hk.out];rfl,q⟩
      have hk:=Lib.hid (show errX x=0 from zi ((okX_iff x).2 ⟨hb,by omega,by omega,by omega⟩));go_wp2_with fail;go_ret;exact⟨by rw[hk.out];rfl,q⟩
    have g7:(x.kind==7)=false:=zt.2 (by omega);have hk:=Lib.hid (show errX x=0 from zi ((okX_iff x).2 ⟨hb,by omega,by omega,by omega⟩));go_wp2_with fail;go_ret;exact⟨by rw[hk.out];rfl,q⟩
theorem smallX_any(w:World){S:Nat->Prop}{v:Value}{x:Tx}(hx:RdTx S w v x):Calls Tryz.prog 10 #[v] w λe w'=>e=.returned (.bool (decide (zfn x)))/\Below w.heap.size w w':=by
 obtain⟨a,a2,a3,c,c2,c3,rfl,hk1,hk2,hk3,ht⟩:=hx;obtain⟨_,hc1,hm1⟩:=hk1.len;obtain⟨_,hc2,hm2⟩:=hk2.len;obtain⟨_,hc3,hm3⟩:=hk3.len;unfold maxLen at hm1 hm2 hm3;clear hk1 hk2 hk3;by_cases c0:(x.key.length:Int)<=100;case neg=>
  have hk:=Lib.hid (show decide (zfn x)=false from zj (by unfold zfn;omega));go_enter Tryz.func10,Tryz.ntmps10;go_wp2;go_ret;exact⟨by rw[hk.out];rfl,(ze _ _).alloc (zf _) _⟩
 by_cases c1:(x.hi.length:Int)<=100;case neg=>
  have hk:=Lib.hid (show decide (zfn x)=false from zj (by unfold zfn;omega));go_enter Tryz.func10,Tryz.ntmps10;go_wp2;go_ret;exact⟨by rw[hk.out];rfl,(ze _ _).alloc (zf _) _⟩
 by_cases c2:(x.val.length:Int)<=100;case neg=>
  have hk:=Lib.hid (show decide (zfn x)=false from zj (by unfold zfn;omega));go_enter Tryz.func10,Tryz.ntmps10;go_wp2;go_ret;exact⟨by rw[hk.out];rfl,(ze _ _).alloc (zf _) _⟩
 have hk:=Lib.hid (show decide (zfn x)=true from zk (by unfold zfn;omega));go_enter Tryz.func10,Tryz.ntmps10;go_wp2;go_ret;exact⟨by rw[hk.out];rfl,(ze _ _).alloc (zf _) _⟩
theorem rPoint_any (w:World){S:Nat->Prop}{A:Option Addr}{n C:Nat}{k:List UInt8}{t:Int}(hk:RdS S w (.slice A n C) k) (ht:W64 t)(h1:k.length<=1000000):Calls Tryz.prog 31 #[.int .i64 t,.slice A n C] w (SpEnd w (za8 t k)):=by
  obtain⟨W,hW,q,Bz,hsz⟩:=zeb w 67 [.int .i64 0,.slice none 0 0,.slice none 0 0,.bool false];go_enter Tryz.func31,Tryz.ntmps31;go_upto_region 1 with(fail);rw[show w.alloc (.cells #[.int .i64 0,.slice none 0 0,.slice none 0 0,.bool false] 67)=W from hW.symm];clear hW;have hkq:=(hk.below q).rd
  go_wp2_with (refine zho byP rfl rfl [] (by kernel_rfl) rfl (by simp) ?_
               intro g1 k1 w1 hF1
               go_wp2_with (at_builtin
                            refine zgm byP rfl rfl rfl hF1.2 rfl (hkq.below hF1.1) hF1.1.size ?_ (by simp;omega);intro ad1 kl1 c1 w2 hO1 _ hb1;rw[yw]at hO1;obtain rfl:kl1=k.length:=hO1.len;have b02:=hF1.1.trans hb1
                            go_wp2_with (refine zho byP rfl rfl [] (by kernel_rfl) rfl (by simp) ?_
                                         intro g2 k2 w21 hF2;have b21:=b02.trans (hF2.1.mono b02.size)
                                         go_wp2_with (at_builtin
                                                      refine zgm byP rfl rfl rfl hF2.2 rfl (hkq.below b21) hF2.1.size ?_ (by simp;omega);intro ad2 kl2 c2 w22 hO2 _ hb2;rw[yw]at hO2;obtain rfl:kl2=k.length:=hO2.len;have b22:=hF2.1.trans hb2
                                                      go_wp2_with (refine zjs byP rfl (λ_=>rfl) rfl rfl (by first|(simp;done)|(simp[Act.put];done)) rfl 0 (λ_=>rfl) rfl hO2 b22.size ?_ (by omega)
                                                                   intro u ad3 k3 c3 w3 hO3 hb3;obtain⟨hi,ehi⟩:∃hi,hi=k++[0]:=⟨_,rfl⟩;rw[<-ehi]at hO3;obtain rfl:k3=hi.length:=hO3.len;replace ehi:=Lib.hid ehi;have b23:=b22.trans hb3;have b03:Below W.heap.size W w3:=b02.trans (b23.mono b02.size);have rl:RdS (λg=>W.heap.size<=g/\g<w3.heap.size) w3 (.slice ad1 k.length c1) k:=(hO1.rdS.keep λg hg=>b23.block g hg.2).weak λg hg=>⟨hg.1,zm hg.2 b23.size⟩
                                                                   have rh:RdS (λg=>W.heap.size<=g/\g<w3.heap.size) w3 (.slice ad3 hi.length c3) hi:=hO3.rdS.weak λg hg=>⟨zv b02.size hg.1,hg.2⟩
                                                                   go_wp2_with (first|(refine zab (us:=[.int .i64 t,.slice ad1 k.length c1,.slice ad3 hi.length c3,.bool false]) (by kernel_rfl) rfl rfl rfl rfl rfl rfl (Bz.below b03 Bz.lt) rfl ?_;intro w4 hg hB)|fail))))))
  have d0:=hB.cell (i:=0) rfl;have d1:=hB.cell (i:=1) rfl;have d2:=hB.cell (i:=2) rfl;have d3:=hB.cell (i:=3) rfl;obtain⟨fs,hu,_⟩:=spS.hu;refine zD (v:=.agg #[.int .i64 t,.slice ad1 k.length c1,.slice ad3 hi.length c3,.bool false]) (by simp[results,Tryz.results31,go_sem,loadVar,isAgg,zr hu,zaa spS.hs,loadCellsFrom,Addr.add,d0,d1,d2,d3]) rfl ?_;have hk0:∀g,W.heap.size<=g/\g<w3.heap.size->w4.heap[g]?=w3.heap[g]?:=λg hg2=>hg.block g hg2.2 λe=>by injection e with e;omega
  unfold SpEnd;rw[show za8 t k=⟨t,k,hi,false⟩by unfold za8;rw[ehi.out]];exact⟨_,rfl,⟨ad1,c1,ad3,c3,rfl,(rl.keep hk0).weak λg hg2=>⟨by omega,zm hg2.2 hg.size⟩,(rh.keep hk0).weak λg hg2=>⟨by omega,zm hg2.2 hg.size⟩,ht⟩,(q.trans (b03.mono q.size)).grown hg (q.trans (b03.mono q.size)).size λg e=>by injection e with e;omega⟩
def SpaJ (W:World) (b:Nat) (x:Tx):List Value->World->Prop
 |[],V=>Below W.heap.size W V
 |[k],V=>Below W.heap.size W V/\NewS W V k x.key
 |[k,v],V=>Below W.heap.size W V/\NewS W V k x.key/\NewS W V v x.hi
 |_,V=>W.grownBy V (some b)/\∃a c a2 c2,BoxN V b 67 [.int .i64 x.table,.slice a x.key.length c,.slice a2 x.hi.length c2,.bool x.isOpen]/\RdS (λk=>W.heap.size<=k/\k<V.heap.size) V (.slice a x.key.length c) x.key/\RdS (λk=>W.heap.size<=k/\k<V.heap.size) V (.slice a2 x.hi.length c2) x.hi
theorem SpaJ.below{W:World}{b:Nat}{x:Tx}:∀(l:List Value) (V V':World),SpaJ W b x l V->Below V.heap.size V V'->SpaJ W b x l V'
 |[],_,_,h,hb=>y8 h (hb.mono (y9 h))
 |[_],_,_,⟨h,h1⟩,hb=>⟨h.trans (hb.mono h.size),h1.below hb⟩
 |[_,_],_,_,⟨h,h1,h2⟩,hb=>⟨h.trans (hb.mono h.size),h1.below hb,h2.below hb⟩
 |_::_::_::_,_,_,⟨h,a,c,a2,c2,h0,h1,h2⟩,hb=>⟨zbg h (za4 hb _),a,c,a2,c2,h0.below hb h0.lt,(h1.below hb).weak λ_ hk=>⟨hk.1,zm hk.2 hb.size⟩,(h2.below hb).weak λ_ hk=>⟨hk.1,zm hk.2 hb.size⟩⟩
theorem rSpanX_any(w:World){S:Nat->Prop}{v:Value}{x:Tx}(h:RdTx S w v x)(h1:x.key.length<=1000000)(h2:x.hi.length<=1000000):Calls Tryz.prog 32 #[v] w (SpEnd w (zay x)):=by
 obtain⟨a,a2,a3,c,c2,c3,rfl,hk,hv,_,ht⟩:=h;obtain⟨W,hW,q,bn,bz,hsz⟩:=zg2 w 25 67 [.int .i64 x.kind,.int .i64 x.table,.slice a x.key.length c,.slice a2 x.hi.length c2,.bool x.isOpen,.slice a3 x.val.length c3,.int .i64 x.n] [.int .i64 0,.slice none 0 0,.slice none 0 0,.bool false];go_enter Tryz.func32,Tryz.ntmps32;go_upto_region 1 with(fail);rw[show(w.alloc (.cells #[.int .i64 x.kind,.int .i64 x.table,.slice a x.key.length c,.slice a2 x.hi.length c2,.bool x.isOpen,.slice a3 x.val.length c3,.int .i64 x.n] 25)).alloc (.cells #[.int .i64 0,.slice none 0 0,.slice none 0 0,.bool false] 67)=W from hW.symm];clear hW;have hk':=hk.below q;have hv':=hv.below q;refine zai (K:=λA B=>A.grownBy B (some (w.heap.size+1))) (by kernel_rfl) (by kernel_rfl) [5,9,13] (by kernel_rfl) [lEq (.pointer (some ⟨w.heap.size,0+1,none⟩)),lEq (.int .i64 x.table),pZb W (w.heap.size+1) (by omega),lEq (.pointer (some ⟨w.heap.size,0+2,none⟩)),lEq (.slice a x.key.length c),lAny,pZb W (w.heap.size+1) (by omega),lEq (.pointer (some ⟨w.heap.size,0+3,none⟩)),lEq (.slice a2 x.hi.length c2),lAny,lEq (.pointer (some ⟨w.heap.size,0+4,none⟩)),lEq (.bool x.isOpen),pSpX W (w.heap.size+1) (by omega) (zay x),lAny] (SpaJ W (w.heap.size+1) x) SpaJ.below (show Below W.heap.size W W from ze _ _)
  ⟨?o0,?o1,?o2,?o3,?o4,?o5,?o6,?o7,?o8,?o9,?o10,?o11,?o12,?o13,trivial⟩ ?fin
 case o0=>
  refine LnOp.side rfl (by kernel_rfl) (λA va w' k hF hT hk hJ hb hu hp hd=>?_);have e1:A.eval (.tmp 1)=.pointer (some ⟨w.heap.size,0,none⟩):=hF 1 rfl;exact zaf txS rfl (e1) (by omega) ⟨_,rfl,rfl,ze _ _⟩
 case o1=>
  refine LnOp.side rfl (by kernel_rfl) (λA va w' k hF hT hk hJ hb hu hp hd=>?_);have e1:A.eval (.tmp 3)=.pointer (some ⟨w.heap.size,0+1,none⟩):=(hT 3 0 (by simp) rfl).trans (hd ⟨0,.data⟩ (by simp) rfl rfl);have hJ0:Below W.heap.size W w':=by
   have h5:=hb 2 13 rfl (by kernel_rfl);rcases k with _|_|_|k
   ·exact hJ
   ·exact hJ.1
   ·exact hJ.1
   ·omega
  exact zbv (k:=.i64) rfl e1 (by kernel_rfl) ((bn.below (hJ0.mono (by omega)) bn.lt).cell (i:=1) rfl) ⟨_,rfl,rfl,ze _ _⟩
 case o2=>
  refine LnOp.side rfl (by kernel_rfl) (λA va w' k hF hT hk hJ hb hu hp hd=>?_);obtain rfl:k=0:=by have:=hb 0 5 rfl (by kernel_rfl);omega
  have hJ0:Below W.heap.size W w':=hJ;exact wp_buildZ byP rfl (λw2 hf=>⟨_,rfl,⟨_,rfl,hf.2.to hJ0.size⟩,hf.1⟩)
 case o3=>
  refine LnOp.side rfl (by kernel_rfl) (λA va w' k hF hT hk hJ hb hu hp hd=>?_);have e1:A.eval (.tmp 1)=.pointer (some ⟨w.heap.size,0,none⟩):=hF 1 rfl;exact zaf txS rfl (e1) (by omega) ⟨_,rfl,rfl,ze _ _⟩
 case o4=>
  refine LnOp.side rfl (by kernel_rfl) (λA va w' k hF hT hk hJ hb hu hp hd=>?_);have e1:A.eval (.tmp 6)=.pointer (some ⟨w.heap.size,0+2,none⟩):=(hT 6 3 (by simp) rfl).trans (hd ⟨3,.data⟩ (by simp) rfl rfl);have hJ0:Below W.heap.size W w':=by
   have h5:=hb 2 13 rfl (by kernel_rfl);rcases k with _|_|_|k
   ·exact hJ
   ·exact hJ.1
   ·exact hJ.1
   ·omega
  exact zae (e:=5) rfl e1 (by kernel_rfl) ((bn.below (hJ0.mono (by omega)) bn.lt).cell (i:=2) rfl) ⟨_,rfl,rfl,ze _ _⟩
 case o5=>
  refine LnOp.line 0 rfl rfl (λA va w' hF hT hJ hu hd=>?_);have x1:A.eval (.tmp 5)=va 2:=hT 5 2 (by simp) rfl;have y1:=hd ⟨2,.data⟩ (by simp) rfl rfl;have e2:A.eval (.tmp 7)=.slice a x.key.length c:=(hT 7 4 (by simp) rfl).trans (hd ⟨4,.data⟩ (by simp) rfl rfl);have hJ0:Below W.heap.size W w':=hJ;obtain⟨g,eg,hO⟩:=y1;refine wp_append_zero byP rfl (x1.trans eg) (by rw[<-eg];exact hO) e2 (hk'.below hJ0).rd hJ0.size (λad7 k7 c7 w2 hO2 hb2=>?_) (by omega);exact⟨_,rfl,⟨hJ0.trans (hb2.mono hJ0.size),NewS.own hO2⟩,za4 hb2 _⟩
 case o6=>
  refine LnOp.side rfl (by kernel_rfl) (λA va w' k hF hT hk hJ hb hu hp hd=>?_);have hJ0:Below W.heap.size W w':=by
   have h5:=hb 1 9 rfl (by kernel_rfl);rcases k with _|_|k
   ·exact hJ
   ·exact hJ.1
   ·omega
  exact wp_buildZ byP rfl (λw2 hf=>⟨_,rfl,⟨_,rfl,hf.2.to hJ0.size⟩,hf.1⟩)
 case o7=>
  refine LnOp.side rfl (by kernel_rfl) (λA va w' k hF hT hk hJ hb hu hp hd=>?_);have e1:A.eval (.tmp 1)=.pointer (some ⟨w.heap.size,0,none⟩):=hF 1 rfl;exact zaf txS rfl (e1) (by omega) ⟨_,rfl,rfl,ze _ _⟩
 case o8=>
  refine LnOp.side rfl (by kernel_rfl) (λA va w' k hF hT hk hJ hb hu hp hd=>?_);have e1:A.eval (.tmp 10)=.pointer (some ⟨w.heap.size,0+3,none⟩):=(hT 10 7 (by simp) rfl).trans (hd ⟨7,.data⟩ (by simp) rfl rfl);have hJ0:Below W.heap.size W w':=by
   have h5:=hb 2 13 rfl (by kernel_rfl);rcases k with _|_|_|k
   ·exact hJ
   ·exact hJ.1
   ·exact hJ.1
   ·omega
  exact zae (e:=5) rfl e1 (by kernel_rfl) ((bn.below (hJ0.mono (by omega)) bn.lt).cell (i:=3) rfl) ⟨_,rfl,rfl,ze _ _⟩
 case o9=>
  refine LnOp.line 1 rfl rfl (λA va w' hF hT hJ hu hd=>?_);have x1:A.eval (.tmp 9)=va 6:=hT 9 6 (by simp) rfl;have y1:=hd ⟨6,.data⟩ (by simp) rfl rfl;have e2:A.eval (.tmp 11)=.slice a2 x.hi.length c2:=(hT 11 8 (by simp) rfl).trans (hd ⟨8,.data⟩ (by simp) rfl rfl);obtain⟨hJ0,hJ1⟩:=hJ;obtain⟨g,eg,hO⟩:=y1;refine wp_append_zero byP rfl (x1.trans eg) (by rw[<-eg];exact hO) e2 (hv'.below hJ0).rd hJ0.size (λad7 k7 c7 w2 hO2 hb2=>?_) (by omega);exact⟨_,rfl,⟨hJ0.trans (hb2.mono hJ0.size),hJ1.below hb2,NewS.own hO2⟩,za4 hb2 _⟩
 case o10=>
  refine LnOp.side rfl (by kernel_rfl) (λA va w' k hF hT hk hJ hb hu hp hd=>?_);have e1:A.eval (.tmp 1)=.pointer (some ⟨w.heap.size,0,none⟩):=hF 1 rfl;exact zaf txS rfl (e1) (by omega) ⟨_,rfl,rfl,ze _ _⟩
 case o11=>
  refine LnOp.side rfl (by kernel_rfl) (λA va w' k hF hT hk hJ hb hu hp hd=>?_);have e1:A.eval (.tmp 13)=.pointer (some ⟨w.heap.size,0+4,none⟩):=(hT 13 10 (by simp) rfl).trans (hd ⟨10,.data⟩ (by simp) rfl rfl);have hJ0:Below W.heap.size W w':=by
   have h5:=hb 2 13 rfl (by kernel_rfl);rcases k with _|_|_|k
   ·exact hJ
   ·exact hJ.1
   ·exact hJ.1
   ·omega
  exact zq0 rfl e1 (by kernel_rfl) ((bn.below (hJ0.mono (by omega)) bn.lt).cell (i:=4) rfl) ⟨_,rfl,rfl,ze _ _⟩
 case o12=>
  refine LnOp.side rfl (by kernel_rfl) (λA va w' k hF hT hk hJ hb hu hp hd=>?_);have e1:A.eval (.tmp 4)=.int .i64 x.table:=(hT 4 1 (by simp) rfl).trans (hd ⟨1,.data⟩ (by simp) rfl rfl);have x2:A.eval (.tmp 8)=va 5:=hT 8 5 (by simp) rfl;have x3:A.eval (.tmp 12)=va 9:=hT 12 9 (by simp) rfl;have e4:A.eval (.tmp 14)=.bool x.isOpen:=(hT 14 11 (by simp) rfl).trans (hd ⟨11,.data⟩ (by simp) rfl rfl);obtain rfl:k=2:=by
   have h1:=hp ⟨9,.data⟩ (by simp) rfl 1 rfl;have h2:=hb 2 13 rfl (by kernel_rfl);omega
  obtain⟨hJ0,⟨a7,c7,e7,h7⟩,⟨a8,c8,e8,h8⟩⟩:=hJ;exact zsm spX rfl e1 (x2.trans e7) (x3.trans e8) e4 rfl rfl rfl rfl ⟨_,rfl,⟨a7,c7,a8,c8,rfl,h7,h8,ht.2.1⟩,ze _ _⟩
 case o13=>
  refine LnOp.line 2 rfl rfl (λA va w' hF hT hJ hu hd=>?_);have e1:A.eval (.tmp 2)=.pointer (some ⟨w.heap.size+1,0,none⟩):=hF 2 rfl;have x2:A.eval (.tmp 15)=va 12:=hT 15 12 (by simp) rfl;have y2:=hd ⟨12,.data⟩ (by simp) rfl rfl;have hJ0:Below W.heap.size W w':=hJ.1;obtain⟨a7,c7,a8,c8,e7,h7,h8,h9⟩:=y2;refine za3 (us:=[.int .i64 x.table,.slice a7 x.key.length c7,.slice a8 x.hi.length c8,.bool x.isOpen]) (by kernel_rfl) rfl e1 (x2.trans e7) rfl (bz.below hJ0 (by omega)) rfl (λw2 hg hB2=>?_);exact⟨_,rfl,⟨(zb0 hJ0 rfl _).andThen hg (by simp),a7,c7,a8,c8,hB2,(h7.keep λk hk=>hg.block k hk.2 λe=>by injection e with e;omega).weak λk hk=>⟨hk.1,zm hk.2 hg.size⟩,(h8.keep λk hk=>hg.block k hk.2 λe=>by injection e with e;omega).weak λk hk=>⟨hk.1,zm hk.2 hg.size⟩⟩,hg⟩
 case fin=>
  intro vs1 W9 hJ hG;obtain⟨hg9,ka,kc,va,vc,hb9,hk9,hv9⟩:=hJ;have q9:Below w.heap.size w W9:=q.grown hg9 q.size λk e=>by injection e with e;omega
  clear hG;simp only[zaj];go_simp;have d0:=hb9.cell (i:=0) rfl;have d1:=hb9.cell (i:=1) rfl;have d2:=hb9.cell (i:=2) rfl;have d3:=hb9.cell (i:=3) rfl;go_wp2_with fail;obtain⟨fs,hu,_⟩:=spX.hu;refine zD (v:=.agg #[.int .i64 x.table,.slice ka x.key.length kc,.slice va x.hi.length vc,.bool x.isOpen]) (by simp[results,Tryz.results32,go_sem,loadVar,isAgg,zr hu,zaa spX.hs,loadCellsFrom,Addr.add,d0,d1,d2,d3]) rfl ?_;exact⟨_,rfl,⟨ka,kc,va,vc,rfl,hk9.weak λk hk=>⟨by omega,hk.2⟩,hv9.weak λk hk=>⟨by omega,hk.2⟩,ht.2.1⟩,q9⟩
end Go.Proofs.YtkobhdllagbkhaaGreat
