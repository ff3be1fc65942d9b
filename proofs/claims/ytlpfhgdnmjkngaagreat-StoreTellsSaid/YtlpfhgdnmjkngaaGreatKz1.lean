/-
  TEXTS OF ONE PROOF, merged: Byte, Elt, Soft, Ops, VerR, VerD, Guard, StM, TreD, StZ, StW, TreC, StS.
-/
import Derived.Below
import Derived.BigFrame
import Derived.BigFrameIn
import Derived.BigQuiet
import Derived.ChangeAlike
import Derived.ChangeSame
import Derived.ChangeSlices
import Derived.Deep.AppendSrc
import Derived.Deep.Cut
import Derived.Deep.DeepCutAuto
import Derived.Deep.Draws
import Derived.Deep.LoopGhost
import Derived.Deep.Matrix
import Derived.Deep.QuietTactic
import Derived.Deep.Slices
import Derived.Deep.Strs
import Derived.Deep.Upon
import Derived.IntWalk
import Derived.Laws.AppendOwnNone
import Derived.Laws.Cells
import Derived.Laws.CopyRow
import Derived.Laws.Externs
import Derived.Laws.MakeOwn
import Derived.Laws.OwnMore
import Derived.Laws.Tables
import Derived.Lib.AppendZerosOnto
import Derived.Lib.Bytealg
import Derived.Lib.BytesEntry
import Derived.Lib.Hide
import Derived.Lib.Overlaps
import Derived.Lib.SlBytesConst
import Derived.Lib.SmallJoins
import Derived.LoopIn
import Derived.LoopN
import Derived.LoopNIn
import Derived.Maps.AppendAt
import Derived.OpenShut
import Derived.Orders
import Derived.OrdersIn
import Derived.OwnWalkIn
import Derived.ProofKit
import Derived.RangeFuncBound
import Derived.RangeFuncBox
import Derived.RangeFuncCalls
import Derived.RangeFuncFrom
import Derived.RangeFuncLeaves
import Derived.RangeFuncNested
import Derived.RegionTactic
import Derived.ScopeJumps
import Derived.Shelf.Abstract
import Derived.Shelf.RegionOpen
import Derived.Sort.CutIn
import Derived.TacticsIn
import Derived.TacticsInMore
import Derived.Test.YtlpfhgdnmjkngaaGreatProg
import Derived.WalkKit
import Derived.WalkLawsBesides
import Derived.WalkMore
import Derived.WalkSpells
import Derived.Test.YtlpfhgdnmjkngaaGreatKv1
import Derived.Test.YtlpfhgdnmjkngaaGreatKv2
import Derived.Test.YtlpfhgdnmjkngaaGreatKv3
import Derived.Test.YtlpfhgdnmjkngaaGreatKv4
import Derived.Test.YtlpfhgdnmjkngaaGreatKv5
import Derived.Test.YtlpfhgdnmjkngaaGreatKv6
import Derived.Test.YtlpfhgdnmjkngaaGreatKv7
import Derived.Test.YtlpfhgdnmjkngaaGreatKv8
import Derived.Test.YtlpfhgdnmjkngaaGreatKv9
import Derived.Test.YtlpfhgdnmjkngaaGreatKv10
import Derived.Test.YtlpfhgdnmjkngaaGreatKv11
import Derived.Test.YtlpfhgdnmjkngaaGreatKv12
import Derived.Test.YtlpfhgdnmjkngaaGreatKv13
import Derived.Test.YtlpfhgdnmjkngaaGreatKv14
import Derived.Test.YtlpfhgdnmjkngaaGreatKv15
namespace Go.Proofs.YtlpfhgdnmjkngaaGreat
open Go.RowKit Go.Shelf
set_option maxRecDepth 100000
set_option maxHeartbeats 32000000
section
variable {E : TypeId} {base : Nat} {w w' : World} {v : Value} {xs : List UInt8}
theorem Own.len {a:Option Addr} {k c:Nat} (h:Own E base w (.slice a k c) xs):k=xs.length:=(Own.rd h).len.1
theorem zpo.len {a:Option Addr} {k c:Nat} (h:zpo E w w' (.slice a k c) xs):k=xs.length:=Own.len h.2
end
section
variable {P : Program} {T E S : TypeId}
variable {ops : Array Oper} {rest : List Oper} {o : Oper} {a : Act} {Q : Exit → Act → World → Prop} {w : World}
def litB:List (Nat×Operand)→List UInt8→Nat→Bool
 | [],[],_=>true
 | (i,.const (.int .u8 v))::ps,x::xs,k=>i==k&&v==(x.toNat:Int)&&litB ps xs (k+1)
 | _,_,_=>false
theorem litB_eq (a:Act):∀ (ps:List (Nat×Operand)) (xs:List UInt8) (k:Nat),litB ps xs k=true→(ps.map fun p=>(p.1,a.eval p.2))=((bv xs).zipIdx k).map fun p=>(p.2,p.1)
 | [],[],_,_=>rfl
 | (i,.const (.int .u8 v))::ps,x::xs,k,h=>by
  simp only [litB,Bool.and_eq_true,beq_iff_eq] at h
  obtain⟨⟨rfl,rfl⟩,h⟩:=h
  have:=litB_eq a ps xs (i+1) h
  simp only [List.map_cons,this]
  simp [bv,Act.eval]
 | [],_::_,_,h=>by simp [litB] at h
 | (i,.const (.int .u8 v))::ps,[],_,h=>by simp [litB] at h
theorem wpList_lit (hP : ByP P T E S) {n : Nat} {parts : Array (Nat × Operand)} (ho : o.op = .buildSlice T n parts) (xs : List UInt8)
  (hn : n = xs.length) (hv : litB parts.toList xs 0 = true) (hgd : Region.wanted o (yielded ops a.tmps) = true)
  (h : ∀ g k w',zpo E w w' (.slice (some ⟨g,0,none⟩) k k) xs → wpList P ops Q rest (a.put o.dst (.slice (some ⟨g,0,none⟩) k k)) w') (hs : xs.length ≤ 16777216) : wpList P ops Q (o :: rest) a w := by
 refine zkq hP ho hgd xs ?_ hn hs h
 have := litB_eq a parts.toList xs 0 hv
 rw [← this]
 apply Array.ext'
 simp
theorem wpList_conv (hP:ByP P T E S) {x:Operand} (ho:o.op=.convert T S x) {B:Nat} {v:Value} {xs:List UInt8} (hx:a.eval x=v) (hgd:Region.wanted o (yielded ops a.tmps)=true) (hr:Rd B w v xs)
  (h:wpList P ops Q rest (a.put o.dst (.string (zbk xs))) w):wpList P ops Q (o::rest) a w:=by
 refine BigFrame.wpList_want hgd fun K hK=>?_
 unfold Oper.wp execOp
 simp only [ho,hx,Sem.run_bind,Sem.run_pure,Result.andThen_ok,znu hP hr]
 exact hK _ _ h
end
section
variable {α : Type} {E : Elt α} {S S' : Nat → Prop} {w w' : World} {v : Value} {xs : List α}
theorem Elt.below {x:α} {vs:List Value} (h:E.R S w x vs) (hb:Below w.heap.size w w'):E.R S w' x vs :=
 E.weak (E.keep (E.fit h) fun k hk=>hb.block k hk.2) (fun _ h=>h.1)
end
section
variable {P : Program} {T E S : TypeId} {o : Oper} {a : Act} {K : Act → World → Prop} {Q : Exit → Act → World → Prop} {w : World}
theorem wp_conv (hP:ByP P T E S) {x:Operand} (ho:o.op=.convert T S x) {B:Nat} {v:Value} {xs:List UInt8} (hx:a.eval x=v) (hr:Rd B w v xs)
  (h:K (a.put o.dst (.string (zbk xs))) w):o.wp P a w K Q:=by
 unfold Oper.wp execOp
 simp only [ho,hx,Sem.run_bind,Sem.run_pure,Result.andThen_ok,znu hP hr]
 exact h
end
section
variable {P : Program} {T E S : TypeId} {o : Oper} {a : Act} {K : Act → World → Prop} {Q : Exit → Act → World → Prop} {w : World}
theorem wp_eqlS {t t2:TypeId} {x y:Operand} {xs ys:List UInt8} (ho:o.op=.binOp .eql t x y t2) (hx:a.eval x=.string (zbk xs)) (hy:a.eval y=.string (zbk ys)) (h:K (a.put o.dst (.bool (decide (xs=ys)))) w):o.wp P a w K Q:=by
 refine zfl (v:=.bool (decide (xs=ys))) ?_ h
 simp only [execOp,ho,hx,hy,binOp_string_eql]
 by_cases e:xs=ys<;>simp [eqGuard,go_sem,zku,e]
end
theorem refAt_any (w:World) {S:Nat→Prop} {a:Option Addr} {n c:Nat} {l:List Ver} (hl:RdL Elt.ver S w (.slice a n c) l) (s:Int) :
  Calls Tryz.prog 58 #[.slice a n c,.int .i64 s] w fun e w'=>e=.returned (.int .i64 ((cntV l s:Int) - 1))∧w'=w:=by
 obtain⟨rfl,hnc,hcm⟩:=hl.len
 have hlm:l.length≤9223372036854775807:=by unfold maxLen at hcm;omega
 go_enter Tryz.func58,Tryz.ntmps58
 go_upto_region 3 with (fail)
 go_loopw [5,6] (fun ov iv wr=>∃ k:Nat,iv=.int .i64 k∧k≤l.length∧ov=.int .i64 ((zc5 l s k:Int) - 1)∧wr=w)
  (fun _ i _=>l.length - (intOf i).toNat)
 case atStart=>exact⟨0,rfl,Nat.zero_le _,rfl,rfl⟩
 case round =>
  obtain⟨k,rfl,hkl,rfl,rfl⟩:=hrel
  rcases Nat.lt_or_ge k l.length with hlt | hge
  ·obtain⟨b,off,A,C,rfl,hb,c0,c1,c2,hv,hi,hn1,hn2⟩:=hl.ver k hlt
   by_cases hs:l[k].stamp≤s
   ·have d1:decide (l[k].stamp≤s)=true:=decide_eq_true hs
    have hx:=Lib.hid (zpg hlt hs)
    clear hs
    go_wp2_with fail
    go_roundw
    case rel=>exact⟨k+1,by go_num,by omega,by rw [hx.out];go_num,by first | rfl | trivial⟩
    case measure=>simp [intOf];omega
   ·have d1:decide (l[k].stamp≤s)=false:=decide_eq_false hs
    have hx:=Lib.hid (zlo hlt hs)
    clear hs
    go_wp2_with fail
    go_roundw
    case rel=>exact⟨k+1,by go_num,by omega,by rw [hx.out],by first | rfl | trivial⟩
    case measure=>simp [intOf];omega
  ·obtain rfl:k=l.length:=by omega
   go_wp2_with fail
   go_ret
   exact⟨rfl,rfl⟩
theorem refNewer_any (w:World) {S:Nat→Prop} {a:Option Addr} {n c:Nat} {l:List Ver} (hl:RdL Elt.ver S w (.slice a n c) l) (s:Int) :
  Calls Tryz.prog 41 #[.slice a n c,.int .i64 s] w fun e w'=>e=.returned (.bool (zcr l s))∧Below w.heap.size w w':=by
 obtain⟨rfl,hnc,hcm⟩:=hl.len
 have hlm:l.length≤9223372036854775807:=by unfold maxLen at hcm;omega
 go_enter Tryz.func41,Tryz.ntmps41
 go_wp2_with fail
 refine (zjs w hl).mono ?_
 rintro e w1⟨rfl,hb1⟩
 replace hl:=hl.below hb1
 by_cases hk:okV l
 ·rw [decide_eq_true hk]
  rcases Nat.eq_zero_or_pos l.length with h0 | h0
  ·obtain rfl:l=[]:=List.eq_nil_of_length_eq_zero h0
   have hx:=Lib.hid (ziz s)
   clear hk h0
   go_wp2_with fail
   go_ret
   exact⟨by rw [hx.out];rfl,hb1⟩
  ·obtain⟨m,hm⟩:∃ m,l.length=m+1:=⟨l.length - 1,by omega⟩
   have hx:=zm0 hm s
   rw [decide_eq_true hk,Bool.true_and] at hx
   obtain⟨b,off,A,C,rfl,hb,c0,c1,c2,hv,hi,hn1,hn2⟩:=hl.ver m (by omega)
   have hx:=Lib.hid hx
   have hm1:(l.length:Int) - 1=(m:Int):=by omega
   have hmlt:(m:Int)<(l.length:Int):=by omega
   have hpos:(0:Int)<(l.length:Int):=by omega
   clear hl c1 c2 hv hn1 hn2 hi
   generalize (l[m]'(by omega)).stamp=st at *
   clear hk h0 hm
   go_wp2_with fail
   go_ret
   exact⟨by rw [hx.out];rfl,hb1⟩
 ·have hx:=Lib.hid (show zcr l s=false by unfold zcr;rw [decide_eq_false hk];rfl)
  rw [decide_eq_false hk]
  clear hk
  go_wp2_with fail
  go_ret
  exact⟨by rw [hx.out];rfl,hb1⟩
theorem readV_bad {l:List Ver} {s:Int}(h:¬ okV l):zcd l s=none:=by unfold zcd;rw [if_neg h]
theorem refReadV_any (w:World) {S:Nat→Prop} {a:Option Addr} {n c:Nat} {l:List Ver} (hl:RdL Elt.ver S w (.slice a n c) l) (s:Int) :
  Calls Tryz.prog 35 #[.slice a n c,.int .i64 s] w (za9 w l s):=by
 obtain⟨rfl,hnc,hcm⟩:=hl.len
 have hlm:l.length≤9223372036854775807:=by unfold maxLen at hcm;omega
 go_enter Tryz.func35,Tryz.ntmps35
 go_wp2_with fail
 refine (zjs w hl).mono ?_
 rintro e w1⟨rfl,hb1⟩
 replace hl:=hl.below hb1
 go_wp2_with fail
 refine (refAt_any w1 hl s).mono ?_
 rintro e w2⟨rfl,rfl⟩
 by_cases hk:okV l
 ·rw [decide_eq_true hk]
  cases hc:cntV l s with
  | zero =>
   have hx:=zgh hc
   clear hk hc
   go_wp2_with fail
   go_ret2
   exact za9.no hx hb1
  | succ m =>
   have hml:m<l.length:=by have:=zb6 l s;omega
   have hm1:(((m+1:Nat):Int)) - 1=(m:Int):=by omega
   rw [hm1]
   have hmn:decide ((m:Int)<0)=false:=by rw [decide_eq_false_iff_not];omega
   obtain⟨b,off,A,C,rfl,hb,c0,c1,c2,hv,hi,hn1,hn2⟩:=hl.ver m hml
   cases hg:l[m].gone with
   | true =>
    have hx:=zgi hc hml hg
    rw [hg] at c1
    clear hk hc hm1 hg
    go_wp2_with fail
    go_ret2
    exact za9.no hx hb1
   | false =>
    have hx:=zit hk hc hml hg
    have hvl:l[m].value.length≤32:=(hk m hml).1.2.2.1
    rw [hg] at c1
    generalize l[m].value=xs at *
    clear hk hc hm1 hg hi
    have hvr:=hv.rd
    go_wp2_with (first
     | (refine wpList_lit byP rfl [] rfl rfl rfl ?_ (by simp);intro g1 k1 w3 hF1;obtain rfl:=hF1.len;have hvr3:=hvr.below hF1.1;have c23:=(hF1.1.cell (p:=⟨b,off+m*3+2,none⟩) (zaj c2)).trans c2)
     | (at_builtin;refine zi8 byP rfl rfl rfl hF1.2 rfl hvr3 hF1.1.size ?_ (by simp;omega);intro ad3 k3 c3 w4 hO3 hg3 hb3))
    rw [List.nil_append] at hO3
    obtain rfl:=hO3.len
    go_ret2
    exact za9.yes hx (hO3.rdS.weak fun k hk=>⟨Nat.le_trans hb1.size hk.1,hk.2⟩) (hb1.trans ((hF1.1.trans (hb3.mono (Nat.le_refl _))).mono hb1.size))
 ·have hx:=readV_bad (s:=s) hk
  rw [decide_eq_false hk]
  clear hk
  go_wp2_with fail
  go_ret2
  exact za9.no hx hb1
section
variable {P : Program} {Q : Exit → Act → World → Prop}
theorem putAll_size:∀(l:List Oper)(a:Act)(vs:Nat→Value)(k:Nat),(zae a l vs k).tmps.size=a.tmps.size
 | [],_,_,_=>rfl
 | o::rest,a,vs,k=>by simp only [zae];rw [putAll_size rest,zau]
theorem defers_put(a:Act)(d:Option Tmp)(v:Value):(a.put d v).defers=a.defers:=by cases d<;>rfl
theorem putAll_defers:∀(l:List Oper)(a:Act)(vs:Nat→Value)(k:Nat),(zae a l vs k).defers=a.defers
 | [],_,_,_=>rfl
 | o::rest,a,vs,k=>by simp only [zae];rw [putAll_defers rest,defers_put]
def Behind (ops:List Oper) (a:Act) (vs:Nat→Value) (A:Act):Prop :=
 A.defers=a.defers∧A.tmps.size=a.tmps.size∧(∀ t,zby ops 0 t=none→A.eval (.tmp t)=a.eval (.tmp t))∧(∀ t j,t<a.tmps.size→zby ops 0 t=some j→A.eval (.tmp t)=vs j)
theorem wp_region_gsa {id : Nat} {ops : Array Oper} {a : Act} {w : World} (hm : P.follows .mixedOrders = true) (hs : gdB ops = true) (Gs : List SG)
  (hop : znl P Q ops a w (fun i => (Gs.getD i sgAny).1) 0 ops.toList)
  (hend : ∀ (A : Act) (vs : Nat → Value) (w' : World),Behind ops.toList a vs A → Below w.heap.size w w' → (∀ i,i < ops.size → (Gs.getD i sgAny).1 w' (vs i)) → Q .normal A w') : (Code.region id ops true).wp P Q a w := by
 have hnd : (ops.toList.filterMap (·.dst)).Nodup := by simp only [gdB,zky,Bool.and_eq_true,decide_eq_true_eq] at hs; exact hs.2
 exact zbu hm hs Gs hop fun vs w' hb hG => hend _ vs w' ⟨putAll_defers _ _ _ _,putAll_size _ _ _ _,fun t h => zbb _ _ _ _ _ h,fun t j ht h => za8 _ _ _ _ _ _ hnd ht h⟩ hb hG
end
def pickT(L:Tb)(t:Int):List Pr:=if 0≤t∧t<4 then L t.toNat else []
def FindAt(l:List Pr)(k:List UInt8)(r:Int):Prop:=(r=-1∧zaw l k=none)∨∃ i,∃ h:i<l.length,r=(i:Int)∧l[i].key=k∧zaw l k=some l[i].chain
theorem findP_at:∀ {l:List Pr} {k:List UInt8} {i:Nat} (h:i<l.length),(∀ j (hj:j<l.length),j<i→¬ l[j].key=k)→l[i].key=k→zaw l k=some l[i].chain
 | p::l,k,0,_,_,e=>by rw [zap,if_pos (by simpa using e)];rfl
 | p::l,k,i+1,h,hn,e=>by
  rw [zap,if_neg (by have:=hn 0 (by simp) (by omega);simpa using this)]
  exact findP_at (l:=l) (i:=i) (by simpa using h) (fun j hj hji=>by have:=hn (j+1) (by simpa using hj) (by omega);simpa using this) (by simpa using e)
theorem refFindP_any (w : World) {S S2 : Nat → Prop} {a : Option Addr} {n c : Nat} {l : List Pr} {A : Option Addr} {nk ck : Nat} {k : List UInt8} (hl : RdL Elt.pair S w (.slice a n c) l) (hk : RdS S2 w (.slice A nk ck) k) :
  Calls Tryz.prog 34 #[.slice a n c,.slice A nk ck] w fun e w' => (∃ r,e = .returned (.int .i64 r) ∧ FindAt l k r) ∧ Below w.heap.size w w' := by
 obtain ⟨rfl,hnc,hcm⟩ := hl.len
 obtain ⟨rfl,hnc2,hcm2⟩ := hk.len
 have hlm : l.length ≤ 9223372036854775807 := by unfold maxLen at hcm; omega
 have q := Below.refl w.heap.size w
 go_enter Tryz.func34,Tryz.ntmps34
 go_upto_region 2 with (fail)
 go_loopw [5] (fun iv wr => ∃ i : Nat,iv = .int .i64 i ∧ i ≤ l.length ∧ (∀ j (h : j < l.length),j < i → ¬ l[j].key = k) ∧ Below w.heap.size w wr) (fun i _ => l.length - (intOf i).toNat)
 case atStart => exact ⟨0,rfl,Nat.zero_le _,fun j _ h => absurd h (Nat.not_lt_zero _),q⟩
 case round =>
  clear q
  obtain ⟨i,rfl,hil,hno,q⟩ := hrel
  rcases Nat.lt_or_ge i l.length with hlt | hge
  ·obtain ⟨b,off,Ak,C,B,D,rfl,c0,c1,hky,hcc⟩ := (hl.below q).pr i hlt
   have hk2 := (hk.below q).rd
   have hky2 := hky.rd
   by_cases e : l[i].key = k
   ·have H := Lib.hid (show FindAt l k i from .inr ⟨i,hlt,rfl,e,findP_at hlt hno e⟩)
    have d : ((zbk l[i].key).toList == (zbk k).toList) = true := str_eq.trans (decide_eq_true e)
    clear hno e
    go_upto_region 4 with (fail)
    refine wp_region_quiet_lit (by kernel_rfl) (by kernel_rfl) ?_
    repeat (first | go_big_quiet_step (fail) | (go_big_quiet_want; refine zar byP rfl rfl hky2 ?_; go_big_quiet_on; go_simp) | (go_big_quiet_want; refine zar byP rfl rfl hk2 ?_; go_big_quiet_on; go_simp))
    first | (refine wpQuiet_nil ?_; intro _ hw'; obtain ⟨nq,hw''⟩ := hw'; subst hw'') | intro nq
    go_wp2_with fail
    go_ret
    exact ⟨⟨_,rfl,H.out⟩,Below.drewN q _⟩
   ·have hno' : ∀ j (h : j < l.length),j < i + 1 → ¬ l[j].key = k := fun j hj h => by
     rcases Nat.lt_or_ge j i with h1 | h1
     ·exact hno j hj h1
     ·obtain rfl : j = i := by omega
      exact e
    have H := Lib.hid hno'
    have d : ((zbk l[i].key).toList == (zbk k).toList) = false := str_eq.trans (decide_eq_false e)
    clear hno hno' e
    go_upto_region 4 with (fail)
    refine wp_region_quiet_lit (by kernel_rfl) (by kernel_rfl) ?_
    repeat (first | go_big_quiet_step (fail) | (go_big_quiet_want; refine zar byP rfl rfl hky2 ?_; go_big_quiet_on; go_simp) | (go_big_quiet_want; refine zar byP rfl rfl hk2 ?_; go_big_quiet_on; go_simp))
    first | (refine wpQuiet_nil ?_; intro _ hw'; obtain ⟨nq,hw''⟩ := hw'; subst hw'') | intro nq
    go_wp2_with fail
    go_roundw
    case rel => exact ⟨i + 1,by go_num,by omega,H.out,Below.drewN q _⟩
    case measure => simp [intOf]; omega
  ·obtain rfl : i = l.length := by omega
   have H := Lib.hid (show FindAt l k (-1) from .inl ⟨rfl,zoh fun j hj => hno j hj hj⟩)
   clear hno
   go_wp2_with fail
   go_ret
   exact ⟨⟨_,rfl,H.out⟩,q⟩
theorem stBox (w:World) (t:TypeId) (us:List Value):∃ W,W=w.alloc (.cells us.toArray t)∧Below w.heap.size w W∧BoxN W w.heap.size t us∧W.heap.size=w.heap.size+1 :=
 ⟨_,rfl,(Below.refl _ _).alloc (Nat.le_refl _) _,BoxN.new _ _ _,by simp only [World.alloc,Array.size_push]⟩
section
variable {α : Type} {E : Elt α} {P : Program} {T Te : TypeId} {ops : Array Oper} {rest : List Oper} {o : Oper} {a : Act} {Q : Exit → Act → World → Prop} {w : World}
theorem wpList_row7 (hP : LoP P T Te E.size) {x y : Operand} {base lo : Nat} {xs : List α} {S : Nat → Prop} {e : α} {us : List Value} {n g : Nat} {v : Value} (ho : o.op = .call { callee := .builtin .append,args := #[x,y],argTypes := #[T,T] }) (hgd : Region.wanted o (yielded ops a.tmps) = true) (hx : a.eval x = v) (hy : a.eval y = .slice (some ⟨g,0,none⟩) 1 1)
  (hO : OwnL E Te base lo w v xs) (hrow : w.heap[g]? = some (.cells us.toArray Te (0,0))) (hR : E.R S w e us) (hS : ∀ k,S k → lo ≤ k ∧ k < w.heap.size ∧ some k ≠ v.ownBlock) (hbase : base ≤ w.heap.size) (hlen : xs.length + 1 ≤ 1073741824) (hn : n = xs.length + 1)
  (h : ∀ ad cap w',OwnL E Te base lo w' (.slice ad n cap) (xs ++ [e]) → w.grownBy w' v.ownBlock → wpList P ops Q rest (a.put o.dst (.slice ad n cap)) w') : wpList P ops Q (o :: rest) a w := by
 refine zfc (E := E) (ys := [e]) hP ho hgd hx hO hy (fun j u hj => by rw [Addr.add_lit,World.cell?,hrow]; simpa using hj) (Flat.single hR) hS hbase (fun ad7 k7 cap7 w2 h2 hg h3 => ?_) hlen
 obtain rfl : k7 = n := by rw [h2.len,List.length_append,hn]; rfl
 exact h _ _ _ h2 hg
end
theorem zn9 {n:Nd} (h:okN n) (hl:(zaa n).length≤1):n.keys.length=(zaa n).length:=by
 obtain⟨d,hd⟩:∃ d:Nat,zax n true=(d:Int):=⟨(zax n true).toNat,by have:=h.1;omega⟩
 obtain⟨h1,_,h2⟩:=zey d hd
 have hd1:d=1:=by
  rcases h2 with h2 | h2
  ·rcases Nat.lt_or_ge 1 d with h3 | h3
   ·have:2 ^ 2≤2 ^ d:=Nat.pow_le_pow_right (by omega) h3
    omega
   ·omega
  ·exact h2.2.1
 subst hd1
 obtain⟨_,_,_,h4⟩:=zcb hd (by omega)
 rcases h4 with⟨h5,_⟩|⟨h5,h6,_,h8⟩
 ·exact (zd7 n h5).symm
 ·obtain⟨m,hm⟩:∃ m,m∈n.kids:=⟨n.kids[0]'(by omega),List.getElem_mem _⟩
  have:=h8 m hm
  have:=zka (n:=m) (root:=false) (by omega)
  omega
section
variable {ops : Array Oper} {rest : List Oper} {o : Oper} {a : Act} {Q : Exit → Act → World → Prop} {w : World}
theorem zbt (hP : ByP Tryz.prog 30 5 9) {o' : Oper} {k : Int} {d : Tmp} (ho : o.op = .buildSlice 30 1 #[(0,.const (.int .u8 k))]) (hgd' : ∀ u,Region.wanted o' (yielded ops (a.put o.dst u).tmps) = true) (hgd : Region.wanted o (yielded ops a.tmps) = true) (hd : o.dst = some d) (hlt : d < a.tmps.size)
  (ho' : o'.op = .convert 30 30 (.tmp d)) (hk : 0 ≤ k ∧ k < 256)
  (h : ∀ u g n w',Below w.heap.size w w' → Rd w'.heap.size w' (.slice (some ⟨g,0,none⟩) n n) [UInt8.ofNat k.toNat] → wpList Tryz.prog ops Q rest ((a.put (some d) u).put o'.dst (.slice (some ⟨g,0,none⟩) n n)) w') : wpList Tryz.prog ops Q (o :: o' :: rest) a w :=
 zkp hP ho hgd' hgd hd hlt ho' [UInt8.ofNat k.toNat] (by
  simp [bv,Act.eval]
  omega) rfl (by simp) h
end
theorem one_w {w : World} {g : Nat} {x : Wr} {k v : Value} (hb : BoxN w g 51 [.int .i64 x.table,k,.bool x.gone,v]) (h1 : RdS (fun _ => True) w k x.key) (h2 : RdS (fun _ => True) w v x.val) (h3 : W64 x.table) : RdL Elt.wr (fun _ => True) w (.slice (some ⟨g,0,none⟩) 1 1) [x] :=
 ⟨some ⟨g,0,none⟩,1,rfl,Nat.le_refl _,by unfold maxLen; omega,.inr ⟨g,0,rfl,trivial,fun r hr => by
  obtain rfl : r = 0 := by simp at hr; omega
  exact ⟨_,⟨k,v,rfl,h1,h2,h3⟩,fun j u hj => by simpa using hb.cell hj⟩⟩⟩
theorem two_w {w : World} {g : Nat} {x y : Wr} {k v k2 v2 : Value} (hb : BoxN w g 51 [.int .i64 x.table,k,.bool x.gone,v,.int .i64 y.table,k2,.bool y.gone,v2]) (h1 : RdS (fun _ => True) w k x.key) (h2 : RdS (fun _ => True) w v x.val) (h3 : W64 x.table) (h4 : RdS (fun _ => True) w k2 y.key) (h5 : RdS (fun _ => True) w v2 y.val) (h6 : W64 y.table) : RdL Elt.wr (fun _ => True) w (.slice (some ⟨g,0,none⟩) 2 2) [x,y] :=
 ⟨some ⟨g,0,none⟩,2,rfl,Nat.le_refl _,by unfold maxLen; omega,.inr ⟨g,0,rfl,trivial,fun r hr => by
  have : r = 0 ∨ r = 1 := by simp at hr; omega
  rcases this with rfl | rfl
  ·refine ⟨_,⟨k,v,rfl,h1,h2,h3⟩,fun j u hj => ?_⟩
   have hj4 : j < 4 := by rcases Nat.lt_or_ge j 4 with h | h; exact h; rw [List.getElem?_eq_none (by simpa [wrC] using h)] at hj; cases hj
   match j,hj4,hj with
   | 0,_,hj => exact hb.cell (i := 0) hj
   | 1,_,hj => exact hb.cell (i := 1) hj
   | 2,_,hj => exact hb.cell (i := 2) hj
   | 3,_,hj => exact hb.cell (i := 3) hj
  ·refine ⟨_,⟨k2,v2,rfl,h4,h5,h6⟩,fun j u hj => ?_⟩
   have hj4 : j < 4 := by rcases Nat.lt_or_ge j 4 with h | h; exact h; rw [List.getElem?_eq_none (by simpa [wrC] using h)] at hj; cases hj
   match j,hj4,hj with
   | 0,_,hj => exact hb.cell (i := 4) hj
   | 1,_,hj => exact hb.cell (i := 5) hj
   | 2,_,hj => exact hb.cell (i := 6) hj
   | 3,_,hj => exact hb.cell (i := 7) hj⟩⟩
theorem rdSt_nil (S:Nat→Prop) (w:World):RdSt S w (.agg #[.slice none 0 0,.slice none 0 0,.slice none 0 0,.slice none 0 0,.slice none 0 0,.slice none 0 0,.slice none 0 0,.slice none 0 0,.slice none 0 0,.slice none 0 0,.slice none 0 0,.slice none 0 0]) T07:=⟨fun _=>none,fun _=>0,fun _=>0,rfl,fun _ _=>zhs _ _⟩
theorem fit_07:fitS T07:=fun _ _=>zrm
theorem InT.facts {T T' : Sto} {s : Int} {l : List Wr} {K : Nat} (h : InT T s l K T') (h0 : (zbs T s l).2 = 0) (hK : K + l.length ≤ 900) : okS T' ∧ (∀ j,j < 4 → tabS T' j = (zbs T s l).1 j) ∧ (∀ j,j < 4 → ∀ p ∈ prN (T' j),p.chain.length ≤ K + l.length) ∧ fitS T' := by
 obtain ⟨_,h2⟩ := h
 obtain ⟨_,h3⟩ := h2 h0
 have hp : ∀ j,j < 4 → prN (T' j) = zaa (T' j) := fun j hj => by unfold prN; rw [if_pos (h3 j hj).1]
 refine ⟨fun j hj => ⟨(h3 j hj).1,by rw [hp j hj]; exact (h3 j hj).2.2.1⟩,fun j hj => by show prN (T' j) = _; rw [hp j hj]; exact (h3 j hj).2.1,fun j hj => by rw [hp j hj]; exact (h3 j hj).2.2.2,fun j hj => ?_⟩
 obtain ⟨k1,k2,k3,k4⟩ := h3 j hj
 refine zix k1 ⟨by omega,fun p hp2 => zlk (((zco _).1 k1.2).1 p hp2).1 ?_⟩
 have := k4 p hp2
 omega
theorem VacT.facts {T T' : Sto} {o : Int} (h : VacT o T T') (hk : okS T) (hf : fitS T) : okS T' ∧ fitS T' ∧ ∀ j,j < 4 → okN (T' j) ∧ zaa (T' j) = vacP (tabS T j) o := by
 have h1 := h.1 hk
 have hp : ∀ j,j < 4 → okN (T' j) ∧ zaa (T' j) = vacP (tabS T j) o := fun j hj => by
  obtain ⟨k1,k2⟩ := (h1 j hj).1 (hk j hj).1
  refine ⟨k1,?_⟩
  rw [k2]
  unfold tabS prN
  rw [if_pos (hk j hj).1]
 have hl : ∀ j,j < 4 → (zaa (T' j)).length ≤ 60 := fun j hj => by
  rw [(hp j hj).2]
  exact Nat.le_trans (vacP_len _ _) (hk j hj).2
 refine ⟨fun j hj => ⟨(hp j hj).1,by have := hl j hj; unfold prN; rw [if_pos (hp j hj).1]; exact this⟩,fun j hj => zix (hp j hj).1 ⟨by have := hl j hj; omega,fun p hp2 => ?_⟩,hp⟩
 rw [(hp j hj).2] at hp2
 obtain ⟨p0,hm,_,rfl⟩ := zjd hp2
 have hs := zft (hf j hj) p0 hm
 exact ⟨Nat.le_trans (zno _ _) hs.1,fun z hz => hs.2 z (znn hz)⟩
theorem zpl (w : World) : Calls Tryz.prog 11 #[] w fun e w' => e = .returned (.bool true) ∧ Below w.heap.size w w' := by
 go_enter Tryz.func11,Tryz.ntmps11
 have q := Below.refl w.heap.size w
 go_wp2_with (first | (have hx := hr2; refine zbt byP rfl (fun _ => rfl) rfl rfl (by first | (simp; done) | (simp [Act.put]; done)) rfl (by decide) ?_; clear hx; intro u3 g3 k3 w3 hb3 hr3) | (have hx := hr1; refine zbt byP rfl (fun _ => rfl) rfl rfl (by first | (simp; done) | (simp [Act.put]; done)) rfl (by decide) ?_; clear hx; intro u2 g2 k2 w2 hb2 hr2) | (refine zbt byP rfl (fun _ => rfl) rfl rfl (by first | (simp; done) | (simp [Act.put]; done)) rfl (by decide) ?_; intro u1 g1 k1 w1 hb1 hr1) | fail)
 obtain rfl : k1 = 1 := hr1.s.len.1
 obtain rfl : k2 = 1 := hr2.s.len.1
 obtain rfl : k3 = 1 := hr3.s.len.1
 have t1 : RdS (fun _ => True) w3 (.slice (some ⟨g1,0,none⟩) 1 1) [97] := ((hr1.s.below hb2).below hb3).weak fun _ _ => trivial
 have t2 : RdS (fun _ => True) w3 (.slice (some ⟨g2,0,none⟩) 1 1) [118] := (hr2.s.below hb3).weak fun _ _ => trivial
 have t3 : RdS (fun _ => True) w3 (.slice (some ⟨g3,0,none⟩) 1 1) [98] := hr3.s.weak fun _ _ => trivial
 replace q := q.trans ((hb1.mono q.size).trans ((hb2.mono (by have := hb1.size; have := q.size; omega)).trans (hb3.mono (by have := hb1.size; have := hb2.size; have := q.size; omega))))
 obtain ⟨w4,hw4⟩ : ∃ w4,w4 = w3.alloc (.cells #[.int .i64 0,.slice (some ⟨g1,0,none⟩) 1 1,.bool false,.slice (some ⟨g2,0,none⟩) 1 1,.int .i64 1,.slice (some ⟨g3,0,none⟩) 1 1,.bool false,.slice none 0 0] 51) := ⟨_,rfl⟩
 have hb4 : Below w3.heap.size w3 w4 := by rw [hw4]; exact (Below.refl _ _).alloc (Nat.le_refl _) _
 have xr : BoxN w4 w3.heap.size 51 [.int .i64 0,.slice (some ⟨g1,0,none⟩) 1 1,.bool false,.slice (some ⟨g2,0,none⟩) 1 1,.int .i64 1,.slice (some ⟨g3,0,none⟩) 1 1,.bool false,.slice none 0 0] := by rw [hw4]; exact BoxN.new _ _ _
 rw [← hw4]
 clear hw4
 replace q := q.trans (hb4.mono q.size)
 have hlw : RdL Elt.wr (fun _ => True) w4 (.slice (some ⟨w3.heap.size,0,none⟩) 2 2) [xA7,xB7] := two_w xr (t1.below hb4) (t2.below hb4) ⟨by decide,by decide⟩ (t3.below hb4) (RdS.nil _ _) ⟨by decide,by decide⟩
 clear hr1 hr2 hr3 hb1 hb2 hb3 hb4 t1 t2 t3 xr
 have hch1 : okS T07 → ∀ j,j < 4 → ∀ p ∈ prN (T07 j),p.chain.length ≤ 100 := fun _ j _ p hp => by rw [show prN (T07 j) = [] from zjy] at hp; cases hp
 have hcl := zdv w4 (T := T07) (s := 3) (l := [xA7,xB7]) (K := 100) (rdSt_nil (fun _ => True) w4) fit_07 ⟨by decide,by decide⟩ hlw hch1 (by decide)
 unfold zma at hcl
 rw [insA7.1] at hcl
 refine hcl.mono ?_
 rintro e wcA ⟨vA,TA,rfl,⟨aA,mA,cA,rfl,hA⟩,hb,hIA⟩
 clear hcl
 replace q := q.trans (hb.mono q.size)
 clear hb
 have rA : RdSt (fun _ => True) wcA (.agg #[.slice (aA 0) (mA 0) (cA 0),.slice (aA 1) (mA 1) (cA 1),.slice (aA 2) (mA 2) (cA 2),.slice (aA 3) (mA 3) (cA 3),.slice (aA 4) (mA 4) (cA 4),.slice (aA 5) (mA 5) (cA 5),.slice (aA 6) (mA 6) (cA 6),.slice (aA 7) (mA 7) (cA 7),.slice (aA 8) (mA 8) (cA 8),.slice (aA 9) (mA 9) (cA 9),.slice (aA 10) (mA 10) (cA 10),.slice (aA 11) (mA 11) (cA 11)]) TA := ⟨aA,mA,cA,rfl,fun i hi => (hA i hi).weak fun _ _ => trivial⟩
 clear hA
 obtain ⟨kA,eA,cA2,fA⟩ := hIA.facts insA7.1 (by decide)
 have A0 : tabS TA 0 = pA7 := (eA 0 (by decide)).trans insA7.2.1
 have A1 : tabS TA 1 = pB7 := (eA 1 (by decide)).trans insA7.2.2.1
 clear hIA eA hlw hch1
 go_upto_region 2 with (first | (refine zbf (vs := [.slice none 0 0,.slice none 0 0,.slice none 0 0,.slice none 0 0,.slice none 0 0,.slice none 0 0,.slice none 0 0,.slice none 0 0,.slice none 0 0,.slice none 0 0,.slice none 0 0,.slice none 0 0]) (by kernel_rfl) rfl rfl ?_; intro wa hba hBa) | (refine zam (us := [.slice (aA 0) (mA 0) (cA 0),.slice (aA 1) (mA 1) (cA 1),.slice (aA 2) (mA 2) (cA 2),.slice (aA 3) (mA 3) (cA 3),.slice (aA 4) (mA 4) (cA 4),.slice (aA 5) (mA 5) (cA 5),.slice (aA 6) (mA 6) (cA 6),.slice (aA 7) (mA 7) (cA 7),.slice (aA 8) (mA 8) (cA 8),.slice (aA 9) (mA 9) (cA 9),.slice (aA 10) (mA 10) (cA 10),.slice (aA 11) (mA 11) (cA 11)]) (by kernel_rfl) rfl rfl rfl rfl rfl rfl hBa rfl ?_; intro wbA hgw xA) | fail)
 have hbw := hba.grown hgw hba.size fun k hk => by injection hk with hk; omega
 replace rA := rA.below hbw
 replace q := q.trans (hbw.mono q.size)
 clear hbw hgw hba hBa
 have d0 := xA.cell (i := 0) rfl
 have d1 := xA.cell (i := 1) rfl
 have d2 := xA.cell (i := 2) rfl
 have d3 := xA.cell (i := 3) rfl
 have d4 := xA.cell (i := 4) rfl
 have d5 := xA.cell (i := 5) rfl
 have d6 := xA.cell (i := 6) rfl
 have d7 := xA.cell (i := 7) rfl
 have d8 := xA.cell (i := 8) rfl
 have d9 := xA.cell (i := 9) rfl
 have d10 := xA.cell (i := 10) rfl
 have d11 := xA.cell (i := 11) rfl
 go_wp2_with (first | (refine zbt byP rfl (fun _ => rfl) rfl rfl (by first | (simp; done) | (simp [Act.put]; done)) rfl (by decide) ?_; intro u1 g1 k1 w1 hb1 hr1) | fail)
 obtain rfl : k1 = 1 := hr1.s.len.1
 clear d0 d1 d2 d3 d4 d5 d6 d7 d8 d9 d10 d11
 replace rA := rA.below hb1
 replace xA := xA.below hb1 xA.lt
 replace q := q.trans (hb1.mono q.size)
 obtain ⟨w4,hw4⟩ : ∃ w4,w4 = w1.alloc (.cells #[.int .i64 0,.slice (some ⟨g1,0,none⟩) 1 1,.bool true,.slice none 0 0] 51) := ⟨_,rfl⟩
 have hb4 : Below w1.heap.size w1 w4 := by rw [hw4]; exact (Below.refl _ _).alloc (Nat.le_refl _) _
 have xr : BoxN w4 w1.heap.size 51 [.int .i64 0,.slice (some ⟨g1,0,none⟩) 1 1,.bool true,.slice none 0 0] := by rw [hw4]; exact BoxN.new _ _ _
 rw [← hw4]
 clear hw4
 replace rA := rA.below hb4
 replace xA := xA.below hb4 xA.lt
 replace q := q.trans (hb4.mono q.size)
 have hlw : RdL Elt.wr (fun _ => True) w4 (.slice (some ⟨w1.heap.size,0,none⟩) 1 1) [xC7] := one_w xr ((hr1.s.below hb4).weak fun _ _ => trivial) (RdS.nil _ _) ⟨by decide,by decide⟩
 clear hr1 hb1 hb4 xr
 have hch2 : okS TA → ∀ j,j < 4 → ∀ p ∈ prN (TA j),p.chain.length ≤ 102 := fun _ j hj p hp => cA2 j hj p hp
 have hcl := zdv w4 (T := TA) (s := 5) (l := [xC7]) (K := 102) rA fA ⟨by decide,by decide⟩ hlw hch2 (by decide)
 unfold zma at hcl
 rw [(insC7 kA A0).1] at hcl
 refine hcl.mono ?_
 rintro e wcB ⟨vB,TB,rfl,⟨aB,mB,cB,rfl,hB⟩,hb,hIB⟩
 clear hcl
 replace rA := rA.below hb
 replace xA := xA.below hb xA.lt
 replace q := q.trans (hb.mono q.size)
 clear hb
 have rB : RdSt (fun _ => True) wcB (.agg #[.slice (aB 0) (mB 0) (cB 0),.slice (aB 1) (mB 1) (cB 1),.slice (aB 2) (mB 2) (cB 2),.slice (aB 3) (mB 3) (cB 3),.slice (aB 4) (mB 4) (cB 4),.slice (aB 5) (mB 5) (cB 5),.slice (aB 6) (mB 6) (cB 6),.slice (aB 7) (mB 7) (cB 7),.slice (aB 8) (mB 8) (cB 8),.slice (aB 9) (mB 9) (cB 9),.slice (aB 10) (mB 10) (cB 10),.slice (aB 11) (mB 11) (cB 11)]) TB := ⟨aB,mB,cB,rfl,fun i hi => (hB i hi).weak fun _ _ => trivial⟩
 clear hB
 clear hlw hch2
 obtain ⟨kB,eB,cB2,fB⟩ := hIB.facts (insC7 kA A0).1 (by decide)
 have B0 : tabS TB 0 = pC7 := (eB 0 (by decide)).trans (insC7 kA A0).2.1
 have B1 : tabS TB 1 = pB7 := ((eB 1 (by decide)).trans ((insC7 kA A0).2.2 1 (by decide))).trans A1
 clear hIB eB
 go_upto_region 3 with (first | (refine zbf (vs := [.slice none 0 0,.slice none 0 0,.slice none 0 0,.slice none 0 0,.slice none 0 0,.slice none 0 0,.slice none 0 0,.slice none 0 0,.slice none 0 0,.slice none 0 0,.slice none 0 0,.slice none 0 0]) (by kernel_rfl) rfl rfl ?_; intro wa hba hBa) | (refine zam (us := [.slice (aB 0) (mB 0) (cB 0),.slice (aB 1) (mB 1) (cB 1),.slice (aB 2) (mB 2) (cB 2),.slice (aB 3) (mB 3) (cB 3),.slice (aB 4) (mB 4) (cB 4),.slice (aB 5) (mB 5) (cB 5),.slice (aB 6) (mB 6) (cB 6),.slice (aB 7) (mB 7) (cB 7),.slice (aB 8) (mB 8) (cB 8),.slice (aB 9) (mB 9) (cB 9),.slice (aB 10) (mB 10) (cB 10),.slice (aB 11) (mB 11) (cB 11)]) (by kernel_rfl) rfl rfl rfl rfl rfl rfl hBa rfl ?_; intro wbB hgw xB) | fail)
 have hbw := hba.grown hgw hba.size fun k hk => by injection hk with hk; omega
 replace rA := rA.below hbw
 replace xA := xA.below hbw xA.lt
 replace rB := rB.below hbw
 replace q := q.trans (hbw.mono q.size)
 clear hbw hgw hba hBa
 have d0 := xB.cell (i := 0) rfl
 have d1 := xB.cell (i := 1) rfl
 have d2 := xB.cell (i := 2) rfl
 have d3 := xB.cell (i := 3) rfl
 have d4 := xB.cell (i := 4) rfl
 have d5 := xB.cell (i := 5) rfl
 have d6 := xB.cell (i := 6) rfl
 have d7 := xB.cell (i := 7) rfl
 have d8 := xB.cell (i := 8) rfl
 have d9 := xB.cell (i := 9) rfl
 have d10 := xB.cell (i := 10) rfl
 have d11 := xB.cell (i := 11) rfl
 go_wp2_with (first | (refine zbt byP rfl (fun _ => rfl) rfl rfl (by first | (simp; done) | (simp [Act.put]; done)) rfl (by decide) ?_; intro u1 g1 k1 w1 hb1 hr1) | fail)
 obtain rfl : k1 = 1 := hr1.s.len.1
 clear d0 d1 d2 d3 d4 d5 d6 d7 d8 d9 d10 d11
 replace rA := rA.below hb1
 replace xA := xA.below hb1 xA.lt
 replace rB := rB.below hb1
 replace xB := xB.below hb1 xB.lt
 replace q := q.trans (hb1.mono q.size)
 obtain ⟨w4,hw4⟩ : ∃ w4,w4 = w1.alloc (.cells #[.int .i64 0,.slice (some ⟨g1,0,none⟩) 1 1,.bool false,.slice none 0 0] 51) := ⟨_,rfl⟩
 have hb4 : Below w1.heap.size w1 w4 := by rw [hw4]; exact (Below.refl _ _).alloc (Nat.le_refl _) _
 have xr : BoxN w4 w1.heap.size 51 [.int .i64 0,.slice (some ⟨g1,0,none⟩) 1 1,.bool false,.slice none 0 0] := by rw [hw4]; exact BoxN.new _ _ _
 rw [← hw4]
 clear hw4
 replace rA := rA.below hb4
 replace xA := xA.below hb4 xA.lt
 replace rB := rB.below hb4
 replace xB := xB.below hb4 xB.lt
 replace q := q.trans (hb4.mono q.size)
 have hlw : RdL Elt.wr (fun _ => True) w4 (.slice (some ⟨w1.heap.size,0,none⟩) 1 1) [xD7] := one_w xr ((hr1.s.below hb4).weak fun _ _ => trivial) (RdS.nil _ _) ⟨by decide,by decide⟩
 clear hr1 hb1 hb4 xr
 have hch3 : okS TB → ∀ j,j < 4 → ∀ p ∈ prN (TB j),p.chain.length ≤ 103 := fun _ j hj p hp => cB2 j hj p hp
 have hcl := zdv w4 (T := TB) (s := 5) (l := [xD7]) (K := 103) rB fB ⟨by decide,by decide⟩ hlw hch3 (by decide)
 unfold zma at hcl
 rw [insD7 kB B0] at hcl
 refine hcl.mono ?_
 rintro e wcC ⟨vC,TC,rfl,⟨aC,mC,cC,rfl,hC⟩,hb,hIC⟩
 clear hcl
 replace rA := rA.below hb
 replace xA := xA.below hb xA.lt
 replace rB := rB.below hb
 replace xB := xB.below hb xB.lt
 replace q := q.trans (hb.mono q.size)
 clear hb
 have rC : RdSt (fun _ => True) wcC (.agg #[.slice (aC 0) (mC 0) (cC 0),.slice (aC 1) (mC 1) (cC 1),.slice (aC 2) (mC 2) (cC 2),.slice (aC 3) (mC 3) (cC 3),.slice (aC 4) (mC 4) (cC 4),.slice (aC 5) (mC 5) (cC 5),.slice (aC 6) (mC 6) (cC 6),.slice (aC 7) (mC 7) (cC 7),.slice (aC 8) (mC 8) (cC 8),.slice (aC 9) (mC 9) (cC 9),.slice (aC 10) (mC 10) (cC 10),.slice (aC 11) (mC 11) (cC 11)]) TC := ⟨aC,mC,cC,rfl,fun i hi => (hC i hi).weak fun _ _ => trivial⟩
 clear hC
 clear hlw hch3
 go_upto_region 4 with (first | (refine zbf (vs := [.slice none 0 0,.slice none 0 0,.slice none 0 0,.slice none 0 0,.slice none 0 0,.slice none 0 0,.slice none 0 0,.slice none 0 0,.slice none 0 0,.slice none 0 0,.slice none 0 0,.slice none 0 0]) (by kernel_rfl) rfl rfl ?_; intro wa hba hBa) | (refine zam (us := [.slice (aC 0) (mC 0) (cC 0),.slice (aC 1) (mC 1) (cC 1),.slice (aC 2) (mC 2) (cC 2),.slice (aC 3) (mC 3) (cC 3),.slice (aC 4) (mC 4) (cC 4),.slice (aC 5) (mC 5) (cC 5),.slice (aC 6) (mC 6) (cC 6),.slice (aC 7) (mC 7) (cC 7),.slice (aC 8) (mC 8) (cC 8),.slice (aC 9) (mC 9) (cC 9),.slice (aC 10) (mC 10) (cC 10),.slice (aC 11) (mC 11) (cC 11)]) (by kernel_rfl) rfl rfl rfl rfl rfl rfl hBa rfl ?_; intro wbC hgw xC) | fail)
 have hbw := hba.grown hgw hba.size fun k hk => by injection hk with hk; omega
 replace rA := rA.below hbw
 replace xA := xA.below hbw xA.lt
 replace rB := rB.below hbw
 replace xB := xB.below hbw xB.lt
 replace rC := rC.below hbw
 replace q := q.trans (hbw.mono q.size)
 clear hbw hgw hba hBa
 clear xC rC
 have d0 := xB.cell (i := 0) rfl
 have d1 := xB.cell (i := 1) rfl
 have d2 := xB.cell (i := 2) rfl
 have d3 := xB.cell (i := 3) rfl
 have d4 := xB.cell (i := 4) rfl
 have d5 := xB.cell (i := 5) rfl
 have d6 := xB.cell (i := 6) rfl
 have d7 := xB.cell (i := 7) rfl
 have d8 := xB.cell (i := 8) rfl
 have d9 := xB.cell (i := 9) rfl
 have d10 := xB.cell (i := 10) rfl
 have d11 := xB.cell (i := 11) rfl
 go_wp2_with fail
 clear d0 d1 d2 d3 d4 d5 d6 d7 d8 d9 d10 d11
 obtain ⟨w4,hw4⟩ : ∃ w4,w4 = wbC.alloc (.cells #[.int .i64 4,.slice none 0 0,.bool false,.slice none 0 0] 51) := ⟨_,rfl⟩
 have hb4 : Below wbC.heap.size wbC w4 := by rw [hw4]; exact (Below.refl _ _).alloc (Nat.le_refl _) _
 have xr : BoxN w4 wbC.heap.size 51 [.int .i64 4,.slice none 0 0,.bool false,.slice none 0 0] := by rw [hw4]; exact BoxN.new _ _ _
 rw [← hw4]
 clear hw4
 replace rA := rA.below hb4
 replace xA := xA.below hb4 xA.lt
 replace rB := rB.below hb4
 replace xB := xB.below hb4 xB.lt
 replace q := q.trans (hb4.mono q.size)
 have hlw : RdL Elt.wr (fun _ => True) w4 (.slice (some ⟨wbC.heap.size,0,none⟩) 1 1) [xE7] := one_w xr (RdS.nil _ _) (RdS.nil _ _) ⟨by decide,by decide⟩
 clear hb4 xr
 have hch4 : okS TB → ∀ j,j < 4 → ∀ p ∈ prN (TB j),p.chain.length ≤ 103 := fun _ j hj p hp => cB2 j hj p hp
 have hcl := zdv w4 (T := TB) (s := 6) (l := [xE7]) (K := 103) rB fB ⟨by decide,by decide⟩ hlw hch4 (by decide)
 unfold zma at hcl
 rw [insE7 TB] at hcl
 refine hcl.mono ?_
 rintro e wcD ⟨vD,TD,rfl,⟨aD,mD,cD,rfl,hD⟩,hb,hID⟩
 clear hcl
 replace rA := rA.below hb
 replace xA := xA.below hb xA.lt
 replace rB := rB.below hb
 replace xB := xB.below hb xB.lt
 replace q := q.trans (hb.mono q.size)
 clear hb
 have rD : RdSt (fun _ => True) wcD (.agg #[.slice (aD 0) (mD 0) (cD 0),.slice (aD 1) (mD 1) (cD 1),.slice (aD 2) (mD 2) (cD 2),.slice (aD 3) (mD 3) (cD 3),.slice (aD 4) (mD 4) (cD 4),.slice (aD 5) (mD 5) (cD 5),.slice (aD 6) (mD 6) (cD 6),.slice (aD 7) (mD 7) (cD 7),.slice (aD 8) (mD 8) (cD 8),.slice (aD 9) (mD 9) (cD 9),.slice (aD 10) (mD 10) (cD 10),.slice (aD 11) (mD 11) (cD 11)]) TD := ⟨aD,mD,cD,rfl,fun i hi => (hD i hi).weak fun _ _ => trivial⟩
 clear hD
 clear hlw hch4
 go_upto_region 5 with (first | (refine zbf (vs := [.slice none 0 0,.slice none 0 0,.slice none 0 0,.slice none 0 0,.slice none 0 0,.slice none 0 0,.slice none 0 0,.slice none 0 0,.slice none 0 0,.slice none 0 0,.slice none 0 0,.slice none 0 0]) (by kernel_rfl) rfl rfl ?_; intro wa hba hBa) | (refine zam (us := [.slice (aD 0) (mD 0) (cD 0),.slice (aD 1) (mD 1) (cD 1),.slice (aD 2) (mD 2) (cD 2),.slice (aD 3) (mD 3) (cD 3),.slice (aD 4) (mD 4) (cD 4),.slice (aD 5) (mD 5) (cD 5),.slice (aD 6) (mD 6) (cD 6),.slice (aD 7) (mD 7) (cD 7),.slice (aD 8) (mD 8) (cD 8),.slice (aD 9) (mD 9) (cD 9),.slice (aD 10) (mD 10) (cD 10),.slice (aD 11) (mD 11) (cD 11)]) (by kernel_rfl) rfl rfl rfl rfl rfl rfl hBa rfl ?_; intro wbD hgw xD) | fail)
 have hbw := hba.grown hgw hba.size fun k hk => by injection hk with hk; omega
 replace rA := rA.below hbw
 replace xA := xA.below hbw xA.lt
 replace rB := rB.below hbw
 replace xB := xB.below hbw xB.lt
 replace rD := rD.below hbw
 replace q := q.trans (hbw.mono q.size)
 clear hbw hgw hba hBa
 clear xD rD
 clear xA rA
 have P0 : zdo TB 0 = pC7 := by
  unfold zdo
  rw [if_pos ⟨by decide,by decide,kB⟩]
  exact B0
 have d0 := xB.cell (i := 0) rfl
 have d1 := xB.cell (i := 1) rfl
 have d2 := xB.cell (i := 2) rfl
 have d3 := xB.cell (i := 3) rfl
 have d4 := xB.cell (i := 4) rfl
 have d5 := xB.cell (i := 5) rfl
 have d6 := xB.cell (i := 6) rfl
 have d7 := xB.cell (i := 7) rfl
 have d8 := xB.cell (i := 8) rfl
 have d9 := xB.cell (i := 9) rfl
 have d10 := xB.cell (i := 10) rfl
 have d11 := xB.cell (i := 11) rfl
 go_wp2_with (first | (refine zbt byP rfl (fun _ => rfl) rfl rfl (by first | (simp; done) | (simp [Act.put]; done)) rfl (by decide) ?_; intro u1 g1 k1 w1 hb1 hr1) | fail)
 obtain rfl : k1 = 1 := hr1.s.len.1
 clear d0 d1 d2 d3 d4 d5 d6 d7 d8 d9 d10 d11
 replace rB := rB.below hb1
 replace xB := xB.below hb1 xB.lt
 replace q := q.trans (hb1.mono q.size)
 have hcl : Calls Tryz.prog 16 _ w1 (zki w1 (getP (zdo TB 0) [97] 4)) := zjf w1 (T := TB) (t := 0) (s := 4) rB fB hr1.s
 rw [P0,get7.1] at hcl
 refine hcl.mono ?_
 rintro e wg1 ⟨va1,vc1,e5,rv1,hb⟩
 clear hcl hr1 hb1
 replace e5 : e = .returned (.tuple #[.slice va1 1 vc1,.bool true]) := e5
 subst e5
 replace rB := rB.below hb
 replace xB := xB.below hb xB.lt
 replace q := q.trans (hb.mono q.size)
 clear hb
 replace rv1 : RdS (fun _ => True) wg1 (.slice va1 1 vc1) [118] := rv1.weak fun _ _ => trivial
 have d0 := xB.cell (i := 0) rfl
 have d1 := xB.cell (i := 1) rfl
 have d2 := xB.cell (i := 2) rfl
 have d3 := xB.cell (i := 3) rfl
 have d4 := xB.cell (i := 4) rfl
 have d5 := xB.cell (i := 5) rfl
 have d6 := xB.cell (i := 6) rfl
 have d7 := xB.cell (i := 7) rfl
 have d8 := xB.cell (i := 8) rfl
 have d9 := xB.cell (i := 9) rfl
 have d10 := xB.cell (i := 10) rfl
 have d11 := xB.cell (i := 11) rfl
 go_wp2_with (first | (refine zbt byP rfl (fun _ => rfl) rfl rfl (by first | (simp; done) | (simp [Act.put]; done)) rfl (by decide) ?_; intro u1 g1 k1 w1 hb1 hr1) | fail)
 obtain rfl : k1 = 1 := hr1.s.len.1
 clear d0 d1 d2 d3 d4 d5 d6 d7 d8 d9 d10 d11
 replace rB := rB.below hb1
 replace xB := xB.below hb1 xB.lt
 replace rv1 := rv1.below hb1
 replace q := q.trans (hb1.mono q.size)
 have hcl : Calls Tryz.prog 16 _ w1 (zki w1 (getP (zdo TB 0) [97] 2)) := zjf w1 (T := TB) (t := 0) (s := 2) rB fB hr1.s
 rw [P0,get7.2.1] at hcl
 refine hcl.mono ?_
 rintro e wg2 ⟨va2,vc2,e5,rv2,hb⟩
 clear hcl hr1 hb1
 replace e5 : e = .returned (.tuple #[.slice va2 0 vc2,.bool false]) := e5
 subst e5
 replace rB := rB.below hb
 replace xB := xB.below hb xB.lt
 replace rv1 := rv1.below hb
 replace q := q.trans (hb.mono q.size)
 clear hb
 clear rv2
 have d0 := xB.cell (i := 0) rfl
 have d1 := xB.cell (i := 1) rfl
 have d2 := xB.cell (i := 2) rfl
 have d3 := xB.cell (i := 3) rfl
 have d4 := xB.cell (i := 4) rfl
 have d5 := xB.cell (i := 5) rfl
 have d6 := xB.cell (i := 6) rfl
 have d7 := xB.cell (i := 7) rfl
 have d8 := xB.cell (i := 8) rfl
 have d9 := xB.cell (i := 9) rfl
 have d10 := xB.cell (i := 10) rfl
 have d11 := xB.cell (i := 11) rfl
 go_wp2_with (first | (refine zbt byP rfl (fun _ => rfl) rfl rfl (by first | (simp; done) | (simp [Act.put]; done)) rfl (by decide) ?_; intro u1 g1 k1 w1 hb1 hr1) | fail)
 obtain rfl : k1 = 1 := hr1.s.len.1
 clear d0 d1 d2 d3 d4 d5 d6 d7 d8 d9 d10 d11
 replace rB := rB.below hb1
 replace xB := xB.below hb1 xB.lt
 replace rv1 := rv1.below hb1
 replace q := q.trans (hb1.mono q.size)
 have hcl : Calls Tryz.prog 16 _ w1 (zki w1 (getP (zdo TB 0) [97] 5)) := zjf w1 (T := TB) (t := 0) (s := 5) rB fB hr1.s
 rw [P0,get7.2.2] at hcl
 refine hcl.mono ?_
 rintro e wg3 ⟨va3,vc3,e5,rv3,hb⟩
 clear hcl hr1 hb1
 replace e5 : e = .returned (.tuple #[.slice va3 0 vc3,.bool false]) := e5
 subst e5
 replace rB := rB.below hb
 replace xB := xB.below hb xB.lt
 replace rv1 := rv1.below hb
 replace q := q.trans (hb.mono q.size)
 clear hb
 clear rv3
 go_upto_region 9 with (first | (refine zbf (vs := [.int .i64 0,.slice none 0 0,.slice none 0 0,.bool false]) (by kernel_rfl) rfl rfl ?_; intro wa hba hBa) | (refine zam (us := [.int .i64 0,.slice none 0 0,.slice none 0 0,.bool true]) (by kernel_rfl) rfl rfl rfl rfl rfl rfl hBa rfl ?_; intro wbS hgw xS) | fail)
 have hbw := hba.grown hgw hba.size fun k hk => by injection hk with hk; omega
 replace rB := rB.below hbw
 replace xB := xB.below hbw xB.lt
 replace rv1 := rv1.below hbw
 replace q := q.trans (hbw.mono q.size)
 clear hbw hgw hba hBa
 have d0 := xB.cell (i := 0) rfl
 have d1 := xB.cell (i := 1) rfl
 have d2 := xB.cell (i := 2) rfl
 have d3 := xB.cell (i := 3) rfl
 have d4 := xB.cell (i := 4) rfl
 have d5 := xB.cell (i := 5) rfl
 have d6 := xB.cell (i := 6) rfl
 have d7 := xB.cell (i := 7) rfl
 have d8 := xB.cell (i := 8) rfl
 have d9 := xB.cell (i := 9) rfl
 have d10 := xB.cell (i := 10) rfl
 have d11 := xB.cell (i := 11) rfl
 have s0 := xS.cell (i := 0) rfl
 have s1 := xS.cell (i := 1) rfl
 have s2 := xS.cell (i := 2) rfl
 have s3 := xS.cell (i := 3) rfl
 have hcl : Calls Tryz.prog 19 _ wbS (ScEnd wbS (zgd (zdo TB 0) (⟨0,[],[],true⟩ : Sp) 3)) := zhq wbS (T := TB) (x := (⟨0,[],[],true⟩ : Sp)) (s := 3) rB fB (S2 := fun _ => True) ⟨none,0,none,0,rfl,RdS.nil _ _,RdS.nil _ _,by constructor <;> decide⟩
 rw [P0] at hcl
 go_wp2_with fail
 refine hcl.mono ?_
 rintro e wn ⟨na,nc,rfl,_,hb⟩
 rw [scan7]
 clear hcl d0 d1 d2 d3 d4 d5 d6 d7 d8 d9 d10 d11 s0 s1 s2 s3
 replace rB := rB.below hb
 replace xB := xB.below hb xB.lt
 replace rv1 := rv1.below hb
 replace xS := xS.below hb xS.lt
 replace q := q.trans (hb.mono q.size)
 clear hb
 have d0 := xB.cell (i := 0) rfl
 have d1 := xB.cell (i := 1) rfl
 have d2 := xB.cell (i := 2) rfl
 have d3 := xB.cell (i := 3) rfl
 have d4 := xB.cell (i := 4) rfl
 have d5 := xB.cell (i := 5) rfl
 have d6 := xB.cell (i := 6) rfl
 have d7 := xB.cell (i := 7) rfl
 have d8 := xB.cell (i := 8) rfl
 have d9 := xB.cell (i := 9) rfl
 have d10 := xB.cell (i := 10) rfl
 have d11 := xB.cell (i := 11) rfl
 have hcl := zfg wn (o := 5) rB fB
 go_wp2_with fail
 refine hcl.mono ?_
 rintro e wv ⟨vV,TV,rfl,hV,⟨aV,mV,cV,rfl,hrV⟩,hb⟩
 clear hcl d0 d1 d2 d3 d4 d5 d6 d7 d8 d9 d10 d11
 replace rB := rB.below hb
 replace xB := xB.below hb xB.lt
 replace rv1 := rv1.below hb
 replace xS := xS.below hb xS.lt
 replace q := q.trans (hb.mono q.size)
 clear hb
 obtain ⟨kV,fV,eV⟩ := hV.facts kB fB
 have rV : RdSt (fun _ => True) wv (.agg #[.slice (aV 0) (mV 0) (cV 0),.slice (aV 1) (mV 1) (cV 1),.slice (aV 2) (mV 2) (cV 2),.slice (aV 3) (mV 3) (cV 3),.slice (aV 4) (mV 4) (cV 4),.slice (aV 5) (mV 5) (cV 5),.slice (aV 6) (mV 6) (cV 6),.slice (aV 7) (mV 7) (cV 7),.slice (aV 8) (mV 8) (cV 8),.slice (aV 9) (mV 9) (cV 9),.slice (aV 10) (mV 10) (cV 10),.slice (aV 11) (mV 11) (cV 11)]) TV := ⟨aV,mV,cV,rfl,fun i hi => (hrV i hi).weak fun _ _ => trivial⟩
 have N0 : mV 0 = 0 := by
  obtain ⟨_,_,_,_,_,_,e,_⟩ := hrV 0 (by decide)
  injection e with e
  injection e with e
  injection e with e _
  injection e with _ e _
  have h := eV 0 (by decide)
  rw [B0,vac7.1] at h
  have h2 := zn9 h.1 (by rw [h.2]; simp)
  rw [h.2] at h2
  exact e.trans h2
 have N1 : mV 3 = 1 := by
  obtain ⟨_,_,_,_,_,_,e,_⟩ := hrV 1 (by decide)
  injection e with e
  injection e with e
  injection e with e _
  injection e with _ e _
  have h := eV 1 (by decide)
  rw [B1,vac7.2] at h
  have h2 := zn9 h.1 (by rw [h.2]; decide)
  rw [h.2] at h2
  exact e.trans h2
 clear hV eV hrV
 replace N0 := Lib.hid N0
 replace N1 := Lib.hid N1
 have hN4 := fun (W : World) (hb : Below wv.heap.size wv W) => (show Calls Tryz.prog 22 #[.agg #[.slice (aB 0) (mB 0) (cB 0),.slice (aB 1) (mB 1) (cB 1),.slice (aB 2) (mB 2) (cB 2),.slice (aB 3) (mB 3) (cB 3),.slice (aB 4) (mB 4) (cB 4),.slice (aB 5) (mB 5) (cB 5),.slice (aB 6) (mB 6) (cB 6),.slice (aB 7) (mB 7) (cB 7),.slice (aB 8) (mB 8) (cB 8),.slice (aB 9) (mB 9) (cB 9),.slice (aB 10) (mB 10) (cB 10),.slice (aB 11) (mB 11) (cB 11)],.agg #[.int .i64 0,.slice none 0 0,.slice none 0 0,.bool true],.int .i64 4] W (fun e w2 => e = .returned (.bool (newP (zdo TB 0) (⟨0,[],[],true⟩ : Sp) 4)) ∧ Below W.heap.size W w2) from ze4 W (T := TB) (x := (⟨0,[],[],true⟩ : Sp)) (s := 4) (rB.below hb) fB (S2 := fun _ => True) ⟨none,0,none,0,rfl,RdS.nil _ _,RdS.nil _ _,by constructor <;> decide⟩)
 rw [P0,new7.1] at hN4
 have hN5 := fun (W : World) (hb : Below wv.heap.size wv W) => (show Calls Tryz.prog 22 #[.agg #[.slice (aB 0) (mB 0) (cB 0),.slice (aB 1) (mB 1) (cB 1),.slice (aB 2) (mB 2) (cB 2),.slice (aB 3) (mB 3) (cB 3),.slice (aB 4) (mB 4) (cB 4),.slice (aB 5) (mB 5) (cB 5),.slice (aB 6) (mB 6) (cB 6),.slice (aB 7) (mB 7) (cB 7),.slice (aB 8) (mB 8) (cB 8),.slice (aB 9) (mB 9) (cB 9),.slice (aB 10) (mB 10) (cB 10),.slice (aB 11) (mB 11) (cB 11)],.agg #[.int .i64 0,.slice none 0 0,.slice none 0 0,.bool true],.int .i64 5] W (fun e w2 => e = .returned (.bool (newP (zdo TB 0) (⟨0,[],[],true⟩ : Sp) 5)) ∧ Below W.heap.size W w2) from ze4 W (T := TB) (x := (⟨0,[],[],true⟩ : Sp)) (s := 5) (rB.below hb) fB (S2 := fun _ => True) ⟨none,0,none,0,rfl,RdS.nil _ _,RdS.nil _ _,by constructor <;> decide⟩)
 rw [P0,new7.2] at hN5
 have hCk := fun (W : World) (hb : Below wv.heap.size wv W) => zcx W (rV.below hb) fV
 rw [decide_eq_true kV] at hCk
 go_wp2_with (first | (refine zbf (vs := [.slice none 0 0,.slice none 0 0,.slice none 0 0,.slice none 0 0,.slice none 0 0,.slice none 0 0,.slice none 0 0,.slice none 0 0,.slice none 0 0,.slice none 0 0,.slice none 0 0,.slice none 0 0]) (by kernel_rfl) rfl rfl ?_; intro wa hba hBa) | (refine zam (us := [.slice (aV 0) (mV 0) (cV 0),.slice (aV 1) (mV 1) (cV 1),.slice (aV 2) (mV 2) (cV 2),.slice (aV 3) (mV 3) (cV 3),.slice (aV 4) (mV 4) (cV 4),.slice (aV 5) (mV 5) (cV 5),.slice (aV 6) (mV 6) (cV 6),.slice (aV 7) (mV 7) (cV 7),.slice (aV 8) (mV 8) (cV 8),.slice (aV 9) (mV 9) (cV 9),.slice (aV 10) (mV 10) (cV 10),.slice (aV 11) (mV 11) (cV 11)]) (by kernel_rfl) rfl rfl rfl rfl rfl rfl hBa rfl ?_; intro wbV hgw xV; have hbw := hba.grown hgw hba.size (fun k hk => by injection hk with hk; omega); replace xB := xB.below hbw xB.lt; replace xS := xS.below hbw xS.lt; replace rv1 := rv1.below hbw; have cv1 := znu byP rv1.rd; have st1 : (zbk [118]).toList = [118] := zku _; have d0 := xB.cell (i := 0) rfl; have d1 := xB.cell (i := 1) rfl; have d2 := xB.cell (i := 2) rfl; have d3 := xB.cell (i := 3) rfl; have d4 := xB.cell (i := 4) rfl; have d5 := xB.cell (i := 5) rfl; have d6 := xB.cell (i := 6) rfl; have d7 := xB.cell (i := 7) rfl; have d8 := xB.cell (i := 8) rfl; have d9 := xB.cell (i := 9) rfl; have d10 := xB.cell (i := 10) rfl; have d11 := xB.cell (i := 11) rfl; have s0 := xS.cell (i := 0) rfl; have s1 := xS.cell (i := 1) rfl; have s2 := xS.cell (i := 2) rfl; have s3 := xS.cell (i := 3) rfl; have y0 := xV.cell (i := 0) rfl; have y1 := xV.cell (i := 1) rfl; have y2 := xV.cell (i := 2) rfl; have y3 := xV.cell (i := 3) rfl; have y4 := xV.cell (i := 4) rfl; have y5 := xV.cell (i := 5) rfl; have y6 := xV.cell (i := 6) rfl; have y7 := xV.cell (i := 7) rfl; have y8 := xV.cell (i := 8) rfl; have y9 := xV.cell (i := 9) rfl; have y10 := xV.cell (i := 10) rfl; have y11 := xV.cell (i := 11) rfl; rw [N0.out] at y0; rw [N1.out] at y3) | rw [cv1] | fail)
 simp only [N0.out,N1.out] at hCk
 refine (hN4 _ hbw).mono ?_
 rintro e wx ⟨rfl,hb⟩
 replace xB := xB.below hb xB.lt
 replace xS := xS.below hb xS.lt
 replace xV := xV.below hb xV.lt
 replace hbw := hbw.trans (hb.mono hbw.size)
 clear d0 d1 d2 d3 d4 d5 d6 d7 d8 d9 d10 d11 s0 s1 s2 s3 y0 y1 y2 y3 y4 y5 y6 y7 y8 y9 y10 y11
 clear hb
 have d0 := xB.cell (i := 0) rfl
 have d1 := xB.cell (i := 1) rfl
 have d2 := xB.cell (i := 2) rfl
 have d3 := xB.cell (i := 3) rfl
 have d4 := xB.cell (i := 4) rfl
 have d5 := xB.cell (i := 5) rfl
 have d6 := xB.cell (i := 6) rfl
 have d7 := xB.cell (i := 7) rfl
 have d8 := xB.cell (i := 8) rfl
 have d9 := xB.cell (i := 9) rfl
 have d10 := xB.cell (i := 10) rfl
 have d11 := xB.cell (i := 11) rfl
 have s0 := xS.cell (i := 0) rfl
 have s1 := xS.cell (i := 1) rfl
 have s2 := xS.cell (i := 2) rfl
 have s3 := xS.cell (i := 3) rfl
 have y0 := xV.cell (i := 0) rfl
 have y1 := xV.cell (i := 1) rfl
 have y2 := xV.cell (i := 2) rfl
 have y3 := xV.cell (i := 3) rfl
 have y4 := xV.cell (i := 4) rfl
 have y5 := xV.cell (i := 5) rfl
 have y6 := xV.cell (i := 6) rfl
 have y7 := xV.cell (i := 7) rfl
 have y8 := xV.cell (i := 8) rfl
 have y9 := xV.cell (i := 9) rfl
 have y10 := xV.cell (i := 10) rfl
 have y11 := xV.cell (i := 11) rfl
 rw [N0.out] at y0
 rw [N1.out] at y3
 go_wp2_with fail
 refine (hN5 _ hbw).mono ?_
 rintro e wy ⟨rfl,hb⟩
 replace xB := xB.below hb xB.lt
 replace xS := xS.below hb xS.lt
 replace xV := xV.below hb xV.lt
 replace hbw := hbw.trans (hb.mono hbw.size)
 clear d0 d1 d2 d3 d4 d5 d6 d7 d8 d9 d10 d11 s0 s1 s2 s3 y0 y1 y2 y3 y4 y5 y6 y7 y8 y9 y10 y11
 clear hb
 have d0 := xB.cell (i := 0) rfl
 have d1 := xB.cell (i := 1) rfl
 have d2 := xB.cell (i := 2) rfl
 have d3 := xB.cell (i := 3) rfl
 have d4 := xB.cell (i := 4) rfl
 have d5 := xB.cell (i := 5) rfl
 have d6 := xB.cell (i := 6) rfl
 have d7 := xB.cell (i := 7) rfl
 have d8 := xB.cell (i := 8) rfl
 have d9 := xB.cell (i := 9) rfl
 have d10 := xB.cell (i := 10) rfl
 have d11 := xB.cell (i := 11) rfl
 have s0 := xS.cell (i := 0) rfl
 have s1 := xS.cell (i := 1) rfl
 have s2 := xS.cell (i := 2) rfl
 have s3 := xS.cell (i := 3) rfl
 have y0 := xV.cell (i := 0) rfl
 have y1 := xV.cell (i := 1) rfl
 have y2 := xV.cell (i := 2) rfl
 have y3 := xV.cell (i := 3) rfl
 have y4 := xV.cell (i := 4) rfl
 have y5 := xV.cell (i := 5) rfl
 have y6 := xV.cell (i := 6) rfl
 have y7 := xV.cell (i := 7) rfl
 have y8 := xV.cell (i := 8) rfl
 have y9 := xV.cell (i := 9) rfl
 have y10 := xV.cell (i := 10) rfl
 have y11 := xV.cell (i := 11) rfl
 rw [N0.out] at y0
 rw [N1.out] at y3
 go_wp2_with fail
 refine (hCk _ hbw).mono ?_
 rintro e wz ⟨rfl,hb⟩
 go_wp2_with fail
 go_ret
 exact ⟨rfl,q.trans ((hbw.trans (hb.mono hbw.size)).mono q.size)⟩
theorem zg9.read {S:Nat→Prop} {w w':World} {l:List Pr} {a:Option Addr} {k c:Nat} (h:OwnL (Elt.pin Elt.pair S) 77 w.heap.size 0 w' (.slice a k c) l):RdL Elt.pair (fun _=>True) w' (.slice a k c) l:=(h.rdL.unpin).weak fun _ _=>trivial
theorem okP_no {l:List Pr} {i:Nat} (h:i<l.length) (hn:¬ (okV l[i].chain∧l[i].chain≠[]∧l[i].key.length≤16∧(0<i→ltB l[i - 1].key l[i].key=true))):decide (okP l)=false:=decide_eq_false fun h2=>hn (h2 i h)
theorem zjt (w:World) {S:Nat→Prop} {v:Value} {n:Nd} (hr:RdN S w v n) (hw:wN n≤1000000) :
  Calls Tryz.prog 29 #[v] w fun e w'=>e=.returned (.bool (decide (okN n)))∧Below w.heap.size w w':=by
 replace hr:=hr.fit.weak (S':=fun k=>k<w.heap.size) fun _ h=>h.2
 have hr0:=hr
 obtain⟨a1,c1,a2,c2,a3,c3,rfl,r1,r2,r3⟩:=hr
 have hT:=TriV.new w 26 (.slice a1 n.keys.length c1) (.slice a2 n.chains.length c2) (.slice a3 n.kids.length c3)
 have q:Below w.heap.size w (w.alloc (.cells #[.slice a1 n.keys.length c1,.slice a2 n.chains.length c2,.slice a3 n.kids.length c3] 26)):=(Below.refl _ _).alloc (Nat.le_refl _) _
 go_enter Tryz.func29,Tryz.ntmps29
 go_upto_region 1 with (fail)
 generalize w.alloc (.cells #[.slice a1 n.keys.length c1,.slice a2 n.chains.length c2,.slice a3 n.kids.length c3] 26)=W at *
 have t0:=hT.cell0
 have t1:=hT.cell1
 have t2:=hT.cell2
 go_wp2_with fail
 refine (zmt 1000000 n true _ _ _ hw (by omega) (hr0.below q)).mono ?_
 rintro e w1⟨rfl,hb⟩
 replace q:=q.trans (hb.mono q.size)
 replace hT:=hT.below hb hT.lt
 clear hb t0 t1 t2
 by_cases hf:zax n true<0
 ·have H:=Lib.hid (show decide (okN n)=false from decide_eq_false fun h=>by have:=h.1;omega)
  have d:decide (zax n true<0)=true:=decide_eq_true hf
  clear hf
  go_wp2_with fail
  go_ret
  exact⟨by rw [H.out];rfl,q⟩
 ·have d:decide (zax n true<0)=false:=decide_eq_false hf
  have hf0:0≤zax n true:=by omega
  have t0:=hT.cell0
  have t1:=hT.cell1
  have t2:=hT.cell2
  have HF:=Lib.hid hf0
  clear hf hf0
  go_wp2_with fail
  refine (zgt 1000000 n true _ _ _ hw (Nat.le_refl _) (hr0.below q) (fun k hk=>Nat.lt_of_lt_of_le hk q.size) HF.out).mono ?_
  rintro e w2⟨a,k,c,rfl,hO,hb⟩
  replace q:=q.trans (hb.mono q.size)
  have hl:=zg9.read hO
  have hiff:=Lib.hid (show decide (okN n)=decide (okP (zaa n)) from by
   rw [decide_eq_decide]
   exact⟨fun h=>h.2,fun h=>⟨HF.out,h⟩⟩)
  clear hb hO hT t0 t1 t2 d
  generalize zaa n=l at *
  obtain⟨rfl,hnc,hcm⟩:=hl.len
  have hlm:l.length≤9223372036854775807:=by unfold maxLen at hcm;omega
  go_upto_region 5 with (fail)
  go_loopw [4] (fun iv wr=>∃ i:Nat,iv=.int .i64 i∧i≤l.length∧(∀ j (h:j<l.length),j<i→okV l[j].chain∧l[j].chain≠[]∧l[j].key.length≤16∧(0<j→ltB l[j - 1].key l[j].key=true))∧Below w2.heap.size w2 wr) (fun i _=>l.length - (intOf i).toNat)
  case atStart=>exact⟨0,rfl,Nat.zero_le _,fun j _ h=>absurd h (Nat.not_lt_zero _),Below.refl _ _⟩
  case round =>
   obtain⟨i,rfl,hil,hok,q2⟩:=hrel
   rcases Nat.lt_or_ge i l.length with hlt | hge
   ·obtain⟨b,off,A,C,B,D,rfl,c0,c1,hky,hcc⟩:=(hl.below q2).pr i hlt
    go_wp2_with fail
    refine (zjs _ hcc).mono ?_
    rintro e w3⟨rfl,hb⟩
    replace q2:=q2.trans (hb.mono q2.size)
    clear hb c0 c1 hky hcc
    obtain⟨b',off',A,C,B,D,e',c0,c1,hky,hcc⟩:=(hl.below q2).pr i hlt
    injection e' with e';injection e' with e1 e2;subst e1;subst e2
    have hkl:=hky.len
    have hcl:=hcc.len
    unfold maxLen at hkl hcl
    have hk2:=hky.rd
    have hno:=Lib.hid (okP_no hlt)
    by_cases h1:okV l[i].chain
    ·rw [decide_eq_true h1]
     by_cases h2:l[i].chain.length=0
     ·have H:=Lib.hid (hno.out fun h=>h.2.1 (List.eq_nil_of_length_eq_zero h2))
      have d2:((l[i].chain.length:Int)==0)=true:=by rw [beq_iff_eq];omega
      clear h1 h2 hok
      go_upto_region 8 with (fail)
      refine wp_region_quiet_lit (by kernel_rfl) (by kernel_rfl) ?_
      repeat (first | go_big_quiet_step (fail))
      first | (refine wpQuiet_nil ?_;intro _ hw';obtain⟨nq,hw''⟩:=hw';subst hw'') | intro nq
      go_wp2_with fail
      go_ret
      exact⟨by rw [hiff.out,H.out];rfl,q.trans ((Below.drewN q2 _).mono q.size)⟩
     ·have d2:((l[i].chain.length:Int)==0)=false:=by rw [beq_eq_false_iff_ne];omega
      have h2':l[i].chain≠[]:=fun e=>h2 (by rw [e];rfl)
      by_cases h3:16<l[i].key.length
      ·have H:=Lib.hid (hno.out fun h=>by have:=h.2.2.1;omega)
       have d3:decide ((16:Int)<l[i].key.length)=true:=decide_eq_true (by omega)
       clear h1 h2 h2' hok
       go_upto_region 8 with (fail)
       refine wp_region_quiet_lit (by kernel_rfl) (by kernel_rfl) ?_
       repeat (first | go_big_quiet_step (fail))
       first | (refine wpQuiet_nil ?_;intro _ hw';obtain⟨nq,hw''⟩:=hw';subst hw'') | intro nq
       go_wp2_with fail
       go_ret
       exact⟨by rw [hiff.out,H.out];rfl,q.trans ((Below.drewN q2 _).mono q.size)⟩
      ·have d3:decide ((16:Int)<l[i].key.length)=false:=decide_eq_false (by omega)
       have h3':l[i].key.length≤16:=by omega
       cases i with
       | zero =>
        have H:=Lib.hid (show ∀ j (h:j<l.length),j<1→okV l[j].chain∧l[j].chain≠[]∧l[j].key.length≤16∧(0<j→ltB l[j - 1].key l[j].key=true) from fun j hj h=>by
         obtain rfl:j=0:=by omega
         exact⟨h1,h2',h3',fun h=>absurd h (Nat.lt_irrefl _)⟩)
        clear h1 h2 h2' h3 h3' hok
        simp only [Nat.zero_mul,Nat.add_zero] at c0 c1
        go_upto_region 8 with (fail)
        refine wp_region_quiet_lit (by kernel_rfl) (by kernel_rfl) ?_
        repeat (first | go_big_quiet_step (fail))
        first | (refine wpQuiet_nil ?_;intro _ hw';obtain⟨nq,hw''⟩:=hw';subst hw'') | intro nq
        go_wp2_with fail
        go_roundw
        case rel=>exact⟨1,by go_num,by omega,H.out,Below.drewN q2 _⟩
        case measure=>simp [intOf];omega
       | succ i =>
        have hlt':i<l.length:=by omega
        obtain⟨b',off',A',C',B',D',e',c0',c1',hky',hcc'⟩:=(hl.below q2).pr i hlt'
        injection e' with e';injection e' with e1 e2;subst e1;subst e2
        have hk2':=hky'.rd
        have e1:((i+1:Nat):Int) - 1=(i:Int):=by omega
        cases h4:ltB l[i].key l[i+1].key with
        | true =>
         have H:=Lib.hid (show ∀ j (h:j<l.length),j<i+2→okV l[j].chain∧l[j].chain≠[]∧l[j].key.length≤16∧(0<j→ltB l[j - 1].key l[j].key=true) from fun j hj h=>by
          rcases Nat.lt_or_ge j (i+1) with h5 | h5
          ·exact hok j hj h5
          ·obtain rfl:j=i+1:=by omega
           exact⟨h1,h2',h3',fun _=>h4⟩)
         have d4:Op.bytesLess (zbk l[i].key).toList (zbk l[i+1].key).toList=true:=str_lt.trans h4
         clear h1 h2 h2' h3 h3' h4 hok
         go_upto_region 8 with (fail)
         refine wp_region_quiet_lit (by kernel_rfl) (by kernel_rfl) ?_
         repeat (first | go_big_quiet_step (fail) | (go_big_quiet_want;refine zar byP rfl rfl hk2' ?_;go_big_quiet_on;go_simp) | (go_big_quiet_want;refine zar byP rfl rfl hk2 ?_;go_big_quiet_on;go_simp))
         first | (refine wpQuiet_nil ?_;intro _ hw';obtain⟨nq,hw''⟩:=hw';subst hw'') | intro nq
         go_wp2_with fail
         go_roundw
         case rel=>exact⟨i+2,by go_num,by omega,H.out,Below.drewN q2 _⟩
         case measure=>simp [intOf];omega
        | false =>
         have H:=Lib.hid (hno.out fun h=>by have:=h.2.2.2 (Nat.succ_pos _);simp only [Nat.add_sub_cancel] at this;rw [h4] at this;cases this)
         have d4:Op.bytesLess (zbk l[i].key).toList (zbk l[i+1].key).toList=false:=str_lt.trans h4
         clear h1 h2 h2' h3 h3' h4 hok
         go_upto_region 8 with (fail)
         refine wp_region_quiet_lit (by kernel_rfl) (by kernel_rfl) ?_
         repeat (first | go_big_quiet_step (fail) | (go_big_quiet_want;refine zar byP rfl rfl hk2' ?_;go_big_quiet_on;go_simp) | (go_big_quiet_want;refine zar byP rfl rfl hk2 ?_;go_big_quiet_on;go_simp))
         first | (refine wpQuiet_nil ?_;intro _ hw';obtain⟨nq,hw''⟩:=hw';subst hw'') | intro nq
         go_wp2_with fail
         go_ret
         exact⟨by rw [hiff.out,H.out];rfl,q.trans ((Below.drewN q2 _).mono q.size)⟩
    ·rw [decide_eq_false h1]
     have H:=Lib.hid (hno.out fun h=>h1 h.1)
     clear h1 hok
     go_upto_region 8 with (fail)
     refine wp_region_quiet_lit (by kernel_rfl) (by kernel_rfl) ?_
     repeat (first | go_big_quiet_step (fail))
     first | (refine wpQuiet_nil ?_;intro _ hw';obtain⟨nq,hw''⟩:=hw';subst hw'') | intro nq
     go_wp2_with fail
     go_ret
     exact⟨by rw [hiff.out,H.out];rfl,q.trans ((Below.drewN q2 _).mono q.size)⟩
   ·obtain rfl:i=l.length:=by omega
    have H:=Lib.hid (show decide (okP l)=true from decide_eq_true fun j hj=>hok j hj hj)
    clear hok
    go_wp2_with fail
    go_ret
    exact⟨by rw [hiff.out,H.out];rfl,q.trans (q2.mono q.size)⟩
theorem refPairsN_any (w:World) {S:Nat→Prop} {v:Value} {n:Nd} (hr:RdN S w v n) (hw:wN n≤1000000) :
  Calls Tryz.prog 30 #[v] w (zg9 (fun k=>k<w.heap.size) w (prN n)):=by
 replace hr:=hr.fit.weak (S':=fun k=>k<w.heap.size) fun _ h=>h.2
 have hr0:=hr
 obtain⟨a1,c1,a2,c2,a3,c3,rfl,r1,r2,r3⟩:=hr
 have hT:=TriV.new w 26 (.slice a1 n.keys.length c1) (.slice a2 n.chains.length c2) (.slice a3 n.kids.length c3)
 have q:Below w.heap.size w (w.alloc (.cells #[.slice a1 n.keys.length c1,.slice a2 n.chains.length c2,.slice a3 n.kids.length c3] 26)):=(Below.refl _ _).alloc (Nat.le_refl _) _
 go_enter Tryz.func30,Tryz.ntmps30
 go_upto_region 1 with (fail)
 generalize w.alloc (.cells #[.slice a1 n.keys.length c1,.slice a2 n.chains.length c2,.slice a3 n.kids.length c3] 26)=W at *
 have t0:=hT.cell0
 have t1:=hT.cell1
 have t2:=hT.cell2
 go_wp2_with fail
 refine (zjt _ (hr0.below q) hw).mono ?_
 rintro e w1⟨rfl,hb⟩
 replace q:=q.trans (hb.mono q.size)
 replace hT:=hT.below hb hT.lt
 clear hb t0 t1 t2
 by_cases hk:okN n
 ·rw [decide_eq_true hk]
  have H:=Lib.hid (show prN n=zaa n from if_pos hk)
  have HF:=Lib.hid hk.1
  have t0:=hT.cell0
  have t1:=hT.cell1
  have t2:=hT.cell2
  clear hk
  go_wp2_with fail
  refine (zgt 1000000 n true _ _ _ hw (Nat.le_refl _) (hr0.below q) (fun k hk=>Nat.lt_of_lt_of_le hk q.size) HF.out).mono ?_
  rintro e w2⟨a,k,c,rfl,hO,hb⟩
  go_wp2_with fail
  go_ret
  rw [H.out]
  exact⟨_,_,_,rfl,hO.to q.size (Nat.le_refl _),q.trans (hb.mono q.size)⟩
 ·rw [decide_eq_false hk]
  have H:=Lib.hid (show prN n=[] from if_neg hk)
  clear hk
  go_wp2_with fail
  go_ret
  rw [H.out]
  exact⟨_,_,_,rfl,OwnL.nil _ _ _ _ _,q⟩
def zfd (T:Sto):Prop:=∀ j,j<4→zcj 5 (T j)=true
instance (T:Sto):Decidable (zfd T):=by unfold zfd;infer_instance
theorem zjq (w:World) {S:Nat→Prop} {v:Value} {T:Sto} (hr:RdSt S w v T):Calls Tryz.prog 12 #[v] w fun e w'=>e=.returned (.bool (decide (zfd T)))∧Below w.heap.size w w':=by
 obtain⟨a,m,c,rfl,hx⟩:=hr
 obtain⟨W,hW⟩:∃ W,W=w.alloc (.cells #[.slice (a 0) (m 0) (c 0),.slice (a 1) (m 1) (c 1),.slice (a 2) (m 2) (c 2),.slice (a 3) (m 3) (c 3),.slice (a 4) (m 4) (c 4),.slice (a 5) (m 5) (c 5),.slice (a 6) (m 6) (c 6),.slice (a 7) (m 7) (c 7),.slice (a 8) (m 8) (c 8),.slice (a 9) (m 9) (c 9),.slice (a 10) (m 10) (c 10),.slice (a 11) (m 11) (c 11)] 29):=⟨_,rfl⟩
 have q:Below w.heap.size w W:=by rw [hW];exact (Below.refl _ _).alloc (Nat.le_refl _) _
 have bn:StB W w.heap.size a m c:=by rw [hW];exact BoxN.new _ _ _
 go_enter Tryz.func12,Tryz.ntmps12
 go_upto_region 1 with (fail)
 rw [← hW]
 clear hW
 go_wp2
 go_loopw [3] (fun v wr=>∃ i:Nat,v=.int .i64 (i:Int)∧i≤4∧Below w.heap.size w wr∧StB wr w.heap.size a m c∧∀ j,j<i→zcj 5 (T j)=true) (fun v _=>4 - toN v)
 case atStart=>exact⟨0,rfl,by omega,q,bn,fun j hj=>by omega⟩
 case round =>
  obtain⟨i,rfl,hi,hb,bx,hA⟩:=hrel
  replace hA:=Lib.hid hA
  rcases Nat.lt_or_ge i 4 with hl | hl
  ·have dl:decide ((i:Int)<4)=true:=by simp;omega
   clear bn q
   have d0:=bx.cell (i:=0) rfl
   have d1:=bx.cell (i:=1) rfl
   have d2:=bx.cell (i:=2) rfl
   have d3:=bx.cell (i:=3) rfl
   have d4:=bx.cell (i:=4) rfl
   have d5:=bx.cell (i:=5) rfl
   have d6:=bx.cell (i:=6) rfl
   have d7:=bx.cell (i:=7) rfl
   have d8:=bx.cell (i:=8) rfl
   have d9:=bx.cell (i:=9) rfl
   have d10:=bx.cell (i:=10) rfl
   have d11:=bx.cell (i:=11) rfl
   rcases (show i=0∨i=1∨i=2∨i=3 by omega) with rfl | rfl | rfl | rfl
   ·have rN:RdN S w (.agg #[.slice (a 0) (m 0) (c 0),.slice (a 1) (m 1) (c 1),.slice (a 2) (m 2) (c 2)]) (T 0):=hx 0 (by omega)
    have hsm:=ze3 5 (T 0) wr S _ (by omega) (rN.below hb)
    rw [show (((5:Nat):Int) - 1)=4 from rfl] at hsm
    by_cases hs:zcj 5 (T 0)=true
    ·rw [hs] at hsm
     replace hs:=Lib.hid hs
     go_wp2_with fail
     refine hsm.mono ?_
     rintro e W4⟨rfl,hb4⟩
     go_wp2_with fail
     go_roundw
     case rel =>
      refine⟨1,by go_num,by omega,hb.trans (hb4.mono hb.size),bx.below hb4 bx.lt,fun j hj=>?_⟩
      rcases Nat.lt_succ_iff_lt_or_eq.1 hj with h | rfl
      ·exact hA.out j h
      ·exact hs.out
     case measure=>simp [toN]
    ·rw [Bool.not_eq_true _ |>.mp hs] at hsm
     have H:=Lib.hid (show decide (zfd T)=false from decide_eq_false fun h=>hs (h 0 (by omega)))
     clear hs
     go_wp2_with fail
     refine hsm.mono ?_
     rintro e W4⟨rfl,hb4⟩
     go_wp2_with fail
     go_ret
     exact⟨by first | (rw [H.out];done) | (rw [H.out];rfl),hb.trans (hb4.mono hb.size)⟩
   ·have rN:RdN S w (.agg #[.slice (a 3) (m 3) (c 3),.slice (a 4) (m 4) (c 4),.slice (a 5) (m 5) (c 5)]) (T 1):=hx 1 (by omega)
    have hsm:=ze3 5 (T 1) wr S _ (by omega) (rN.below hb)
    rw [show (((5:Nat):Int) - 1)=4 from rfl] at hsm
    by_cases hs:zcj 5 (T 1)=true
    ·rw [hs] at hsm
     replace hs:=Lib.hid hs
     go_wp2_with fail
     refine hsm.mono ?_
     rintro e W4⟨rfl,hb4⟩
     go_wp2_with fail
     go_roundw
     case rel =>
      refine⟨2,by go_num,by omega,hb.trans (hb4.mono hb.size),bx.below hb4 bx.lt,fun j hj=>?_⟩
      rcases Nat.lt_succ_iff_lt_or_eq.1 hj with h | rfl
      ·exact hA.out j h
      ·exact hs.out
     case measure=>simp [toN]
    ·rw [Bool.not_eq_true _ |>.mp hs] at hsm
     have H:=Lib.hid (show decide (zfd T)=false from decide_eq_false fun h=>hs (h 1 (by omega)))
     clear hs
     go_wp2_with fail
     refine hsm.mono ?_
     rintro e W4⟨rfl,hb4⟩
     go_wp2_with fail
     go_ret
     exact⟨by first | (rw [H.out];done) | (rw [H.out];rfl),hb.trans (hb4.mono hb.size)⟩
   ·have rN:RdN S w (.agg #[.slice (a 6) (m 6) (c 6),.slice (a 7) (m 7) (c 7),.slice (a 8) (m 8) (c 8)]) (T 2):=hx 2 (by omega)
    have hsm:=ze3 5 (T 2) wr S _ (by omega) (rN.below hb)
    rw [show (((5:Nat):Int) - 1)=4 from rfl] at hsm
    by_cases hs:zcj 5 (T 2)=true
    ·rw [hs] at hsm
     replace hs:=Lib.hid hs
     go_wp2_with fail
     refine hsm.mono ?_
     rintro e W4⟨rfl,hb4⟩
     go_wp2_with fail
     go_roundw
     case rel =>
      refine⟨3,by go_num,by omega,hb.trans (hb4.mono hb.size),bx.below hb4 bx.lt,fun j hj=>?_⟩
      rcases Nat.lt_succ_iff_lt_or_eq.1 hj with h | rfl
      ·exact hA.out j h
      ·exact hs.out
     case measure=>simp [toN]
    ·rw [Bool.not_eq_true _ |>.mp hs] at hsm
     have H:=Lib.hid (show decide (zfd T)=false from decide_eq_false fun h=>hs (h 2 (by omega)))
     clear hs
     go_wp2_with fail
     refine hsm.mono ?_
     rintro e W4⟨rfl,hb4⟩
     go_wp2_with fail
     go_ret
     exact⟨by first | (rw [H.out];done) | (rw [H.out];rfl),hb.trans (hb4.mono hb.size)⟩
   ·have rN:RdN S w (.agg #[.slice (a 9) (m 9) (c 9),.slice (a 10) (m 10) (c 10),.slice (a 11) (m 11) (c 11)]) (T 3):=hx 3 (by omega)
    have hsm:=ze3 5 (T 3) wr S _ (by omega) (rN.below hb)
    rw [show (((5:Nat):Int) - 1)=4 from rfl] at hsm
    by_cases hs:zcj 5 (T 3)=true
    ·rw [hs] at hsm
     replace hs:=Lib.hid hs
     go_wp2_with fail
     refine hsm.mono ?_
     rintro e W4⟨rfl,hb4⟩
     go_wp2_with fail
     go_roundw
     case rel =>
      refine⟨4,by go_num,by omega,hb.trans (hb4.mono hb.size),bx.below hb4 bx.lt,fun j hj=>?_⟩
      rcases Nat.lt_succ_iff_lt_or_eq.1 hj with h | rfl
      ·exact hA.out j h
      ·exact hs.out
     case measure=>simp [toN]
    ·rw [Bool.not_eq_true _ |>.mp hs] at hsm
     have H:=Lib.hid (show decide (zfd T)=false from decide_eq_false fun h=>hs (h 3 (by omega)))
     clear hs
     go_wp2_with fail
     refine hsm.mono ?_
     rintro e W4⟨rfl,hb4⟩
     go_wp2_with fail
     go_ret
     exact⟨by first | (rw [H.out];done) | (rw [H.out];rfl),hb.trans (hb4.mono hb.size)⟩
  ·obtain rfl:i=4:=by omega
   have H:=Lib.hid (show (decide (zfd T))=true from decide_eq_true fun j hj=>hA.out j hj)
   go_wp2_with fail
   go_ret
   exact⟨by first | (rw [H.out];done) | (rw [H.out];rfl),hb⟩
theorem refCheckS_any (w:World) {S:Nat→Prop} {v:Value} {T:Sto} (hr:RdSt S w v T) (hf:fitS T):Calls Tryz.prog 14 #[v] w fun e w'=>e=.returned (.bool (decide (okS T)))∧Below w.heap.size w w':=by
 obtain⟨a,m,c,rfl,hx⟩:=hr
 obtain⟨W,hW⟩:∃ W,W=w.alloc (.cells #[.slice (a 0) (m 0) (c 0),.slice (a 1) (m 1) (c 1),.slice (a 2) (m 2) (c 2),.slice (a 3) (m 3) (c 3),.slice (a 4) (m 4) (c 4),.slice (a 5) (m 5) (c 5),.slice (a 6) (m 6) (c 6),.slice (a 7) (m 7) (c 7),.slice (a 8) (m 8) (c 8),.slice (a 9) (m 9) (c 9),.slice (a 10) (m 10) (c 10),.slice (a 11) (m 11) (c 11)] 29):=⟨_,rfl⟩
 have q:Below w.heap.size w W:=by rw [hW];exact (Below.refl _ _).alloc (Nat.le_refl _) _
 have bn:StB W w.heap.size a m c:=by rw [hW];exact BoxN.new _ _ _
 go_enter Tryz.func14,Tryz.ntmps14
 go_upto_region 1 with (fail)
 rw [← hW]
 clear hW
 go_wp2
 go_loopw [3] (fun v wr=>∃ i:Nat,v=.int .i64 (i:Int)∧i≤4∧Below w.heap.size w wr∧StB wr w.heap.size a m c∧∀ j,j<i→okN (T j)∧(prN (T j)).length≤60) (fun v _=>4 - toN v)
 case atStart=>exact⟨0,rfl,by omega,q,bn,fun j hj=>by omega⟩
 case round =>
  obtain⟨i,rfl,hi,hb,bx,hA⟩:=hrel
  replace hA:=Lib.hid hA
  rcases Nat.lt_or_ge i 4 with hl | hl
  ·have dl:decide ((i:Int)<4)=true:=by simp;omega
   clear bn q
   have d0:=bx.cell (i:=0) rfl
   have d1:=bx.cell (i:=1) rfl
   have d2:=bx.cell (i:=2) rfl
   have d3:=bx.cell (i:=3) rfl
   have d4:=bx.cell (i:=4) rfl
   have d5:=bx.cell (i:=5) rfl
   have d6:=bx.cell (i:=6) rfl
   have d7:=bx.cell (i:=7) rfl
   have d8:=bx.cell (i:=8) rfl
   have d9:=bx.cell (i:=9) rfl
   have d10:=bx.cell (i:=10) rfl
   have d11:=bx.cell (i:=11) rfl
   rcases (show i=0∨i=1∨i=2∨i=3 by omega) with rfl | rfl | rfl | rfl
   ·have rN:RdN S w (.agg #[.slice (a 0) (m 0) (c 0),.slice (a 1) (m 1) (c 1),.slice (a 2) (m 2) (c 2)]) (T 0):=hx 0 (by omega)
    have hf':=hf 0 (by omega)
    have hch:=zjt wr (rN.below hb) (by have:=hf'.1;omega)
    by_cases hok:okN (T 0)
    ·rw [decide_eq_true hok] at hch
     replace hok:=Lib.hid hok
     go_wp2_with fail
     refine hch.mono ?_
     rintro e W4⟨rfl,hb4⟩
     have hb5:=hb.trans (hb4.mono hb.size)
     have bx4:StB W4 w.heap.size a m c:=bx.below hb4 bx.lt
     clear d0 d1 d2 d3 d4 d5 d6 d7 d8 d9 d10 d11
     have d0:=bx4.cell (i:=0) rfl
     have d1:=bx4.cell (i:=1) rfl
     have d2:=bx4.cell (i:=2) rfl
     have d3:=bx4.cell (i:=3) rfl
     have d4:=bx4.cell (i:=4) rfl
     have d5:=bx4.cell (i:=5) rfl
     have d6:=bx4.cell (i:=6) rfl
     have d7:=bx4.cell (i:=7) rfl
     have d8:=bx4.cell (i:=8) rfl
     have d9:=bx4.cell (i:=9) rfl
     have d10:=bx4.cell (i:=10) rfl
     have d11:=bx4.cell (i:=11) rfl
     have hpr:=refPairsN_any W4 (rN.below hb5) (by have:=hf'.1;omega)
     by_cases hle:(prN (T 0)).length≤60
     ·have d9:decide ((60:Int)<((prN (T 0)).length:Int))=false:=by simp;omega
      replace hle:=Lib.hid hle
      go_wp2_with fail
      refine hpr.mono ?_
      rintro e W5⟨pa,pk,pc,rfl,hO,hb6⟩
      obtain rfl:=hO.len
      go_wp2_with fail
      go_roundw
      case rel =>
       refine⟨1,by go_num,by omega,hb5.trans (hb6.mono hb5.size),bx4.below hb6 bx4.lt,fun j hj=>?_⟩
       rcases Nat.lt_succ_iff_lt_or_eq.1 hj with h | rfl
       ·exact hA.out j h
       ·exact⟨hok.out,hle.out⟩
      case measure=>simp [toN]
     ·have d9:decide ((60:Int)<((prN (T 0)).length:Int))=true:=by simp;omega
      have H:=Lib.hid (show decide (okS T)=false from decide_eq_false fun h=>hle (h 0 (by omega)).2)
      clear hle
      go_wp2_with fail
      refine hpr.mono ?_
      rintro e W5⟨pa,pk,pc,rfl,hO,hb6⟩
      obtain rfl:=hO.len
      go_wp2_with fail
      go_ret
      exact⟨by first | (rw [H.out];done) | (rw [H.out];rfl),hb5.trans (hb6.mono hb5.size)⟩
    ·rw [decide_eq_false hok] at hch
     have H:=Lib.hid (show decide (okS T)=false from decide_eq_false fun h=>hok (h 0 (by omega)).1)
     clear hok
     go_wp2_with fail
     refine hch.mono ?_
     rintro e W4⟨rfl,hb4⟩
     go_wp2_with fail
     go_ret
     exact⟨by first | (rw [H.out];done) | (rw [H.out];rfl),hb.trans (hb4.mono hb.size)⟩
   ·have rN:RdN S w (.agg #[.slice (a 3) (m 3) (c 3),.slice (a 4) (m 4) (c 4),.slice (a 5) (m 5) (c 5)]) (T 1):=hx 1 (by omega)
    have hf':=hf 1 (by omega)
    have hch:=zjt wr (rN.below hb) (by have:=hf'.1;omega)
    by_cases hok:okN (T 1)
    ·rw [decide_eq_true hok] at hch
     replace hok:=Lib.hid hok
     go_wp2_with fail
     refine hch.mono ?_
     rintro e W4⟨rfl,hb4⟩
     have hb5:=hb.trans (hb4.mono hb.size)
     have bx4:StB W4 w.heap.size a m c:=bx.below hb4 bx.lt
     clear d0 d1 d2 d3 d4 d5 d6 d7 d8 d9 d10 d11
     have d0:=bx4.cell (i:=0) rfl
     have d1:=bx4.cell (i:=1) rfl
     have d2:=bx4.cell (i:=2) rfl
     have d3:=bx4.cell (i:=3) rfl
     have d4:=bx4.cell (i:=4) rfl
     have d5:=bx4.cell (i:=5) rfl
     have d6:=bx4.cell (i:=6) rfl
     have d7:=bx4.cell (i:=7) rfl
     have d8:=bx4.cell (i:=8) rfl
     have d9:=bx4.cell (i:=9) rfl
     have d10:=bx4.cell (i:=10) rfl
     have d11:=bx4.cell (i:=11) rfl
     have hpr:=refPairsN_any W4 (rN.below hb5) (by have:=hf'.1;omega)
     by_cases hle:(prN (T 1)).length≤60
     ·have d9:decide ((60:Int)<((prN (T 1)).length:Int))=false:=by simp;omega
      replace hle:=Lib.hid hle
      go_wp2_with fail
      refine hpr.mono ?_
      rintro e W5⟨pa,pk,pc,rfl,hO,hb6⟩
      obtain rfl:=hO.len
      go_wp2_with fail
      go_roundw
      case rel =>
       refine⟨2,by go_num,by omega,hb5.trans (hb6.mono hb5.size),bx4.below hb6 bx4.lt,fun j hj=>?_⟩
       rcases Nat.lt_succ_iff_lt_or_eq.1 hj with h | rfl
       ·exact hA.out j h
       ·exact⟨hok.out,hle.out⟩
      case measure=>simp [toN]
     ·have d9:decide ((60:Int)<((prN (T 1)).length:Int))=true:=by simp;omega
      have H:=Lib.hid (show decide (okS T)=false from decide_eq_false fun h=>hle (h 1 (by omega)).2)
      clear hle
      go_wp2_with fail
      refine hpr.mono ?_
      rintro e W5⟨pa,pk,pc,rfl,hO,hb6⟩
      obtain rfl:=hO.len
      go_wp2_with fail
      go_ret
      exact⟨by first | (rw [H.out];done) | (rw [H.out];rfl),hb5.trans (hb6.mono hb5.size)⟩
    ·rw [decide_eq_false hok] at hch
     have H:=Lib.hid (show decide (okS T)=false from decide_eq_false fun h=>hok (h 1 (by omega)).1)
     clear hok
     go_wp2_with fail
     refine hch.mono ?_
     rintro e W4⟨rfl,hb4⟩
     go_wp2_with fail
     go_ret
     exact⟨by first | (rw [H.out];done) | (rw [H.out];rfl),hb.trans (hb4.mono hb.size)⟩
   ·have rN:RdN S w (.agg #[.slice (a 6) (m 6) (c 6),.slice (a 7) (m 7) (c 7),.slice (a 8) (m 8) (c 8)]) (T 2):=hx 2 (by omega)
    have hf':=hf 2 (by omega)
    have hch:=zjt wr (rN.below hb) (by have:=hf'.1;omega)
    by_cases hok:okN (T 2)
    ·rw [decide_eq_true hok] at hch
     replace hok:=Lib.hid hok
     go_wp2_with fail
     refine hch.mono ?_
     rintro e W4⟨rfl,hb4⟩
     have hb5:=hb.trans (hb4.mono hb.size)
     have bx4:StB W4 w.heap.size a m c:=bx.below hb4 bx.lt
     clear d0 d1 d2 d3 d4 d5 d6 d7 d8 d9 d10 d11
     have d0:=bx4.cell (i:=0) rfl
     have d1:=bx4.cell (i:=1) rfl
     have d2:=bx4.cell (i:=2) rfl
     have d3:=bx4.cell (i:=3) rfl
     have d4:=bx4.cell (i:=4) rfl
     have d5:=bx4.cell (i:=5) rfl
     have d6:=bx4.cell (i:=6) rfl
     have d7:=bx4.cell (i:=7) rfl
     have d8:=bx4.cell (i:=8) rfl
     have d9:=bx4.cell (i:=9) rfl
     have d10:=bx4.cell (i:=10) rfl
     have d11:=bx4.cell (i:=11) rfl
     have hpr:=refPairsN_any W4 (rN.below hb5) (by have:=hf'.1;omega)
     by_cases hle:(prN (T 2)).length≤60
     ·have d9:decide ((60:Int)<((prN (T 2)).length:Int))=false:=by simp;omega
      replace hle:=Lib.hid hle
      go_wp2_with fail
      refine hpr.mono ?_
      rintro e W5⟨pa,pk,pc,rfl,hO,hb6⟩
      obtain rfl:=hO.len
      go_wp2_with fail
      go_roundw
      case rel =>
       refine⟨3,by go_num,by omega,hb5.trans (hb6.mono hb5.size),bx4.below hb6 bx4.lt,fun j hj=>?_⟩
       rcases Nat.lt_succ_iff_lt_or_eq.1 hj with h | rfl
       ·exact hA.out j h
       ·exact⟨hok.out,hle.out⟩
      case measure=>simp [toN]
     ·have d9:decide ((60:Int)<((prN (T 2)).length:Int))=true:=by simp;omega
      have H:=Lib.hid (show decide (okS T)=false from decide_eq_false fun h=>hle (h 2 (by omega)).2)
      clear hle
      go_wp2_with fail
      refine hpr.mono ?_
      rintro e W5⟨pa,pk,pc,rfl,hO,hb6⟩
      obtain rfl:=hO.len
      go_wp2_with fail
      go_ret
      exact⟨by first | (rw [H.out];done) | (rw [H.out];rfl),hb5.trans (hb6.mono hb5.size)⟩
    ·rw [decide_eq_false hok] at hch
     have H:=Lib.hid (show decide (okS T)=false from decide_eq_false fun h=>hok (h 2 (by omega)).1)
     clear hok
     go_wp2_with fail
     refine hch.mono ?_
     rintro e W4⟨rfl,hb4⟩
     go_wp2_with fail
     go_ret
     exact⟨by first | (rw [H.out];done) | (rw [H.out];rfl),hb.trans (hb4.mono hb.size)⟩
   ·have rN:RdN S w (.agg #[.slice (a 9) (m 9) (c 9),.slice (a 10) (m 10) (c 10),.slice (a 11) (m 11) (c 11)]) (T 3):=hx 3 (by omega)
    have hf':=hf 3 (by omega)
    have hch:=zjt wr (rN.below hb) (by have:=hf'.1;omega)
    by_cases hok:okN (T 3)
    ·rw [decide_eq_true hok] at hch
     replace hok:=Lib.hid hok
     go_wp2_with fail
     refine hch.mono ?_
     rintro e W4⟨rfl,hb4⟩
     have hb5:=hb.trans (hb4.mono hb.size)
     have bx4:StB W4 w.heap.size a m c:=bx.below hb4 bx.lt
     clear d0 d1 d2 d3 d4 d5 d6 d7 d8 d9 d10 d11
     have d0:=bx4.cell (i:=0) rfl
     have d1:=bx4.cell (i:=1) rfl
     have d2:=bx4.cell (i:=2) rfl
     have d3:=bx4.cell (i:=3) rfl
     have d4:=bx4.cell (i:=4) rfl
     have d5:=bx4.cell (i:=5) rfl
     have d6:=bx4.cell (i:=6) rfl
     have d7:=bx4.cell (i:=7) rfl
     have d8:=bx4.cell (i:=8) rfl
     have d9:=bx4.cell (i:=9) rfl
     have d10:=bx4.cell (i:=10) rfl
     have d11:=bx4.cell (i:=11) rfl
     have hpr:=refPairsN_any W4 (rN.below hb5) (by have:=hf'.1;omega)
     by_cases hle:(prN (T 3)).length≤60
     ·have d9:decide ((60:Int)<((prN (T 3)).length:Int))=false:=by simp;omega
      replace hle:=Lib.hid hle
      go_wp2_with fail
      refine hpr.mono ?_
      rintro e W5⟨pa,pk,pc,rfl,hO,hb6⟩
      obtain rfl:=hO.len
      go_wp2_with fail
      go_roundw
      case rel =>
       refine⟨4,by go_num,by omega,hb5.trans (hb6.mono hb5.size),bx4.below hb6 bx4.lt,fun j hj=>?_⟩
       rcases Nat.lt_succ_iff_lt_or_eq.1 hj with h | rfl
       ·exact hA.out j h
       ·exact⟨hok.out,hle.out⟩
      case measure=>simp [toN]
     ·have d9:decide ((60:Int)<((prN (T 3)).length:Int))=true:=by simp;omega
      have H:=Lib.hid (show decide (okS T)=false from decide_eq_false fun h=>hle (h 3 (by omega)).2)
      clear hle
      go_wp2_with fail
      refine hpr.mono ?_
      rintro e W5⟨pa,pk,pc,rfl,hO,hb6⟩
      obtain rfl:=hO.len
      go_wp2_with fail
      go_ret
      exact⟨by first | (rw [H.out];done) | (rw [H.out];rfl),hb5.trans (hb6.mono hb5.size)⟩
    ·rw [decide_eq_false hok] at hch
     have H:=Lib.hid (show decide (okS T)=false from decide_eq_false fun h=>hok (h 3 (by omega)).1)
     clear hok
     go_wp2_with fail
     refine hch.mono ?_
     rintro e W4⟨rfl,hb4⟩
     go_wp2_with fail
     go_ret
     exact⟨by first | (rw [H.out];done) | (rw [H.out];rfl),hb.trans (hb4.mono hb.size)⟩
  ·obtain rfl:i=4:=by omega
   have H:=Lib.hid (show (decide (okS T))=true from decide_eq_true fun j hj=>hA.out j hj)
   go_wp2_with fail
   go_ret
   exact⟨by first | (rw [H.out];done) | (rw [H.out];rfl),hb⟩
end Go.Proofs.YtlpfhgdnmjkngaaGreat
