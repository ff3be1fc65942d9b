/-
  TEXTS OF ONE PROOF, merged.
-/
import Derived.BigFrameIn
import Derived.Deep.DeepCutAuto
import Derived.Deep.LoopGhost
import Derived.Deep.QuietTactic
import Derived.Laws.Cells
import Derived.Laws.CopyRow
import Derived.Laws.Externs
import Derived.Lib.AppendZerosOnto
import Derived.Lib.Overlaps
import Derived.LoopIn
import Derived.LoopN
import Derived.LoopNIn
import Derived.OrdersIn
import Derived.OwnWalkIn
import Derived.RangeFuncBound
import Derived.RangeFuncCalls
import Derived.RangeFuncFrom
import Derived.RangeFuncLeaves
import Derived.RangeFuncNested
import Derived.ScopeJumps
import Derived.Shelf.RegionOpen
import Derived.Sort.CutIn
import Derived.TacticsIn
import Derived.TacticsInMore
import Derived.WalkMore
import Derived.Test.YtkobhdllagbkhaaGreatKn1
import Derived.Test.YtkobhdllagbkhaaGreatKn2
import Derived.Test.YtkobhdllagbkhaaGreatKn3
import Derived.Test.YtkobhdllagbkhaaGreatKn4
import Derived.Test.YtkobhdllagbkhaaGreatKn5
import Derived.Test.YtkobhdllagbkhaaGreatKn6
import Derived.Test.YtkobhdllagbkhaaGreatKn7
import Derived.Test.YtkobhdllagbkhaaGreatKn8
import Derived.Test.YtkobhdllagbkhaaGreatKn9
import Derived.Test.YtkobhdllagbkhaaGreatKn10
import Derived.Test.YtkobhdllagbkhaaGreatKn11
import Derived.Test.YtkobhdllagbkhaaGreatKn12
import Derived.Test.YtkobhdllagbkhaaGreatKn13
import Derived.Test.YtkobhdllagbkhaaGreatKn14
import Derived.Test.YtkobhdllagbkhaaGreatKb1
namespace Go.Proofs.YtkobhdllagbkhaaGreat
open Go.RowKit Go.Shelf Go.ChangeShapes Go.WideShapes Go.ChangeAt Go.Deep
set_option maxRecDepth 100000
set_option maxHeartbeats 32000000
theorem cnt_eq{l:List Ver}(hk:okV l){s:Int}{c:Nat}(hc:c<=l.length)(h:∀i(h:i<l.length),l[i].stamp<=s↔i<c):cntV l s=c:=by
  have hle:=zdv l s;rcases Nat.lt_trichotomy (cntV l s) c with h1|h1|h1
  · have h2:=(h (cntV l s) (by omega)).2 h1
    have:=(zhi hk s (by omega)).1 h2;omega
  ·exact h1
  · have h2:=(zhi hk s (i:=c) (by omega)).2 h1
    have:=(h c (by omega)).1 h2;omega
theorem zlq{l:List Ver}(hk:okV l){x:Ver}(hx:mayV x)(hs:∀y∈l,y.stamp<x.stamp)(s:Int):cntV (l++[x]) s=if x.stamp<=s then l.length+1 else cntV l s:=by
  have hle:=zdv l s;refine cnt_eq (zh8 hk hx hs) ?_ (λi h=>?_)
  ·rw[zC];simp;split<;>omega
  · rw[zC]at h
    simp only[zI,zM]at h;rcases zA i l.length with h1|h1
    · rw[xQ h1,zhi hk s h1]
      split
      · rename_i hxs
        have h2:=hs _ (zL h1);have:=(zhi hk s h1).1 (by omega);omega
      ·exact Iff.rfl
    · obtain rfl:i=l.length:=by omega
      rw[wC (zf _)];simp only[wk,List.getElem_cons_zero];split
      · rename_i hxs;exact⟨λ_=>xX _,λ_=>hxs⟩
      · rename_i hxs;exact⟨λh=>absurd h hxs,λh=>by omega⟩
def readC (l:List Ver)(c:Nat):Option (List UInt8):=match l[c-1]? with
 |some x=>if c=0 then none else if x.gone then none else some x.value
 |none=>none
theorem zmn{l:List Ver}(hk:okV l)(s:Int):zcd l s=readC l (cntV l s):=by
 have hle:=zdv l s;unfold readC;cases hc:cntV l s with
 |zero=>rw[zj3 hc];simp;cases l[0]?<;>rfl
 |succ m=>
  have hm:m<l.length:=by omega
  rw[xt,zB hm];simp only[Nat.add_eq_zero_iff,Nat.one_ne_zero,and_false,zW];cases hg:l[m].gone with
  |true=>rw[zha hc hm hg];rfl
  |false=>rw[zg9 hk hc hm hg];rfl
section
variable {l : List Ver} {x : Ver} (hk : okV l) (hx : mayV x) (hs : ∀ y ∈ l, y.stamp < x.stamp)
include hk hx hs
theorem zju{s:Int}(h:x.stamp<=s)(hg:x.gone=true):zcd (l++[x]) s=none:=by
 have hc:=zlq hk hx hs s;rw[zi h]at hc;exact zha hc (by simp) (by simp[hg])
theorem zjt{s:Int}(h:x.stamp<=s)(hg:x.gone=false):zcd (l++[x]) s=some x.value:=by
 have hc:=zlq hk hx hs s;rw[zi h]at hc;rw[zg9 (zh8 hk hx hs) hc (by simp) (by simp[hg])];simp
theorem zk1{s:Int}(h:¬x.stamp<=s):zcd (l++[x]) s=zcd l s:=by
  have hc:=zlq hk hx hs s;rw[zh h]at hc;rw[zmn (zh8 hk hx hs),zmn hk,hc];have hle:=zdv l s;unfold readC;rcases zA (cntV l s-1) l.length with h1|h1
  · rw[xu h1]
  · have h0:cntV l s=0:=by omega
    have hl0:l=[]:=yg (by omega);subst hl0;simp[h0]
end
theorem i64w{n:Int}(h:(Lit.int .i64 n).wf=true):I64' n:=by
 simp[Lit.wf,IntKind.min,IntKind.max,IntKind.signed,IntKind.bits]at h;exact⟨by omega,by omega⟩
def zs4 (t:Nat)(n:Nd):Prop:=n.keys.length<=6/\n.chains.length<=6/\n.kids.length<=6/\(∀j (h:j<n.keys.length),n.keys[j].length<=100)/\(∀j (h:j<n.chains.length),n.chains[j].length<=20/\∀r (hr:r<n.chains[j].length),n.chains[j][r].value.length<=100)/\(∀j (h:j<n.kids.length),zce t n.kids[j]=true)
theorem zmb (t:Nat)(n:Nd):zce (t+1) n=true↔zs4 t n:=by
  simp only[zce,yk,yP,xr];unfold zs4;constructor
  · rintro⟨⟨⟨⟨⟨h1,h2⟩,h3⟩,h4⟩,h5⟩,h6⟩
    refine⟨h1,h2,h3,λj h=>h4 _ (zL h),λj h=>?_,λj h=>h6 _ (zL h)⟩;obtain⟨h7,h8⟩:=h5 _ (zL h);exact⟨h7,λr hr=>h8 _ (zL hr)⟩
  · rintro⟨h1,h2,h3,h4,h5,h6⟩
    refine⟨⟨⟨⟨⟨h1,h2⟩,h3⟩,λk hk=>?_⟩,λc hc=>?_⟩,λm hm=>?_⟩
    · obtain⟨j,h,rfl⟩:=yy.1 hk;exact h4 j h
    · obtain⟨j,h,rfl⟩:=yy.1 hc
      refine⟨(h5 j h).1,λx hx=>?_⟩;obtain⟨r,hr,rfl⟩:=yy.1 hx;exact(h5 j h).2 r hr
    · obtain⟨j,h,rfl⟩:=yy.1 hm;exact h6 j h
theorem small_no{t:Nat}{n:Nd}(h:¬zs4 t n):zce (t+1) n=false:=by
 cases hb:zce (t+1) n with
 |false=>rfl
 |true=>exact absurd ((zmb t n).1 hb) h
def zjl (t:Nat):Prop:=∀(n:Nd)(w:World)(S:Nat->Prop)(v:Value),t<=1000->RdN S w v n->Calls Tryz.prog 37 #[v,.int .i64 ((t:Int)-1)] w λe w'=>e=.returned (.bool (zce t n))/\Below w.heap.size w w'
theorem zn3(t:Nat) (ih:zjl t):zjl (t+1):=by
    intro n w S v ht hr;unfold zjl at ih;obtain⟨l1,l2,l3⟩:=hr.lens;obtain⟨a1,c1,a2,c2,a3,c3,rfl,r1,r2,r3⟩:=hr;have hT:=TriV.new w 46 (.slice a1 n.keys.length c1) (.slice a2 n.chains.length c2) (.slice a3 n.kids.length c3);have q:Below w.heap.size w (w.alloc (.cells #[.slice a1 n.keys.length c1,.slice a2 n.chains.length c2,.slice a3 n.kids.length c3] 46)):=(ze _ _).alloc (zf _) _;have e0:((t+1:Nat):Int)-1=(t:Int):=by omega
    rw[e0];clear e0;have HNO:=Lib.hid (small_no (t:=t) (n:=n));have dt:decide ((t:Int)<0)=false:=zj (by omega);go_enter Tryz.func37,Tryz.ntmps37;go_upto_region 1 with(fail);generalize w.alloc (.cells #[.slice a1 n.keys.length c1,.slice a2 n.chains.length c2,.slice a3 n.kids.length c3] 46)=W at*;have t0:=hT.cell0;have t1:=hT.cell1;have t2:=hT.cell2;by_cases h1:6<n.keys.length
    · have H:=Lib.hid (HNO.out λh=>by have:=h.1;omega)
      have d1:decide ((6:Int)<n.keys.length)=true:=zk (by omega);go_wp2_with fail;go_ret;exact⟨by rw[H.out];rfl,q⟩
    · have d1:decide ((6:Int)<n.keys.length)=false:=zj (by omega)
      by_cases h2:6<n.chains.length
      · have H:=Lib.hid (HNO.out λh=>by have:=h.2.1;omega)
        have d2:decide ((6:Int)<n.chains.length)=true:=zk (by omega);go_wp2_with fail;go_ret;exact⟨by rw[H.out];rfl,q⟩
      · have d2:decide ((6:Int)<n.chains.length)=false:=zj (by omega)
        by_cases h3:6<n.kids.length
        · have H:=Lib.hid (HNO.out λh=>by have:=h.2.2.1;omega)
          have d3:decide ((6:Int)<n.kids.length)=true:=zk (by omega);go_wp2_with fail;go_ret;exact⟨by rw[H.out];rfl,q⟩
        · have d3:decide ((6:Int)<n.kids.length)=false:=zj (by omega)
          have H1:=Lib.hid (show n.keys.length<=6/\n.chains.length<=6/\n.kids.length<=6 from⟨by omega,by omega,by omega⟩);go_upto_region 4 with(fail);clear d1 d2 d3 h1 h2 h3;go_loopw [5](λiv wr=>∃i:Nat,iv=.int .i64 i/\i<=n.keys.length/\(∀j (h:j<n.keys.length),j<i->n.keys[j].length<=100)/\W=wr) (λi _=>n.keys.length-(intOf i).toNat);case atStart=>exact⟨0,rfl,zH _,λj _ h=>absurd h (yH _),rfl⟩
          case round=>
            obtain⟨i,rfl,hil,hall,rfl⟩:=hrel;rcases zA i n.keys.length with hlt|hge
            · obtain⟨b,off,Ak,C,rfl,c0,hky⟩:=(r1.below q).byt i hlt
              have hkl:=hky.len;unfold maxLen at hkl;by_cases h:100<n.keys[i].length
              · have H:=Lib.hid (HNO.out λhs=>by have:=hs.2.2.2.1 i hlt;omega)
                have d1:decide ((100:Int)<n.keys[i].length)=true:=zk (by omega);clear hall;go_wp2_with fail;go_ret;exact⟨by rw[H.out];rfl,q⟩
              · have d1:decide ((100:Int)<n.keys[i].length)=false:=zj (by omega)
                have hall':∀j (h:j<n.keys.length),j<i+1->n.keys[j].length<=100:=λj hj h5=>by
                  rcases zA j i with h6|h6
                  ·exact hall j hj h6
                  · obtain rfl:j=i:=by omega
                    omega
                have HA:=Lib.hid hall';clear hall hall' h;go_wp2_with fail;go_roundw;case rel=>exact⟨i+1,by go_num,by omega,HA.out,by first|rfl|trivial⟩
                case measure=>simp[intOf];omega
            · obtain rfl:i=n.keys.length:=by omega
              have HK:=Lib.hid hall;clear hall;go_upto_region 9 with(fail);go_loopw [6](λiv wr=>∃i:Nat,iv=.int .i64 i/\i<=n.chains.length/\(∀j(h:j<n.chains.length),j<i->n.chains[j].length<=20/\∀r(hr:r<n.chains[j].length),n.chains[j][r].value.length<=100)/\W=wr) (λi _=>n.chains.length-(intOf i).toNat);case atStart=>exact⟨0,rfl,zH _,λj _ h=>absurd h (yH _),rfl⟩
              case round=>
                obtain⟨i,rfl,hil,hall,rfl⟩:=hrel;rcases zA i n.chains.length with hlt|hge
                · obtain⟨b,off,Ak,C,rfl,c0,hcc⟩:=(r2.below q).lst i hlt
                  have hkl:=hcc.len;unfold maxLen at hkl;by_cases h:20<n.chains[i].length
                  · have H:=Lib.hid (HNO.out λhs=>by have:=(hs.2.2.2.2.1 i hlt).1;omega)
                    have d1:decide ((20:Int)<n.chains[i].length)=true:=zk (by omega);clear hall;go_wp2_with fail;go_ret;exact⟨by rw[H.out];rfl,q⟩
                  · have d1:decide ((20:Int)<n.chains[i].length)=false:=zj (by omega)
                    have HA:=Lib.hid hall;have H20:=Lib.hid (show n.chains[i].length<=20 by omega);clear hall h;go_upto_region 14 with(fail);go_loopw[7](λiv wr=>∃r:Nat,iv=.int .i64 r/\r<=n.chains[i].length/\(∀j (h:j<n.chains[i].length),j<r->n.chains[i][j].value.length<=100)/\W=wr) (λr _=>n.chains[i].length-(intOf r).toNat);case atStart=>exact⟨0,rfl,zH _,λj _ h=>absurd h (yH _),rfl⟩
                    case round=>
                      obtain⟨r,rfl,hrl,hrall,rfl⟩:=hrel;rcases zA r n.chains[i].length with hrlt|hrge
                      · obtain⟨b2,off2,A2,C2,rfl,hb2,k0,k1,k2,hv,hi,hn1,hn2⟩:=hcc.ver r hrlt
                        unfold maxLen at hn2;by_cases h:100<n.chains[i][r].value.length
                        · have H:=Lib.hid (HNO.out λhs=>by have:=(hs.2.2.2.2.1 i hlt).2 r hrlt;omega)
                          have d2:decide ((100:Int)<n.chains[i][r].value.length)=true:=zk (by omega);clear hrall;go_wp2_with fail;go_ret;exact⟨by rw[H.out];rfl,q⟩
                        · have d2:decide ((100:Int)<n.chains[i][r].value.length)=false:=zj (by omega)
                          have hall':∀j (h:j<n.chains[i].length),j<r+1->n.chains[i][j].value.length<=100:=λj hj h5=>by
                            rcases zA j r with h6|h6
                            ·exact hrall j hj h6
                            · obtain rfl:j=r:=by omega
                              omega
                          have HA2:=Lib.hid hall';clear hrall hall' h;go_wp2_with fail;go_roundw;case rel=>exact⟨r+1,by go_num,by omega,HA2.out,by first|rfl|trivial⟩
                          case measure=>simp[intOf];omega
                      · obtain rfl:r=n.chains[i].length:=by omega
                        have hall':∀j (h:j<n.chains.length),j<i+1->n.chains[j].length<=20/\∀r(hr:r<n.chains[j].length),n.chains[j][r].value.length<=100:=λj hj h5=>by
                          rcases zA j i with h6|h6
                          ·exact HA.out j hj h6
                          · obtain rfl:j=i:=by omega
                            exact⟨H20.out,λr hr=>hrall r hr hr⟩
                        have HA2:=Lib.hid hall';clear hrall hall';go_wp2_with fail;go_roundw;case rel=>exact⟨i+1,by go_num,by omega,HA2.out,by first|rfl|trivial⟩
                        case measure=>simp[intOf];omega
                · obtain rfl:i=n.chains.length:=by omega
                  have HC:=Lib.hid hall;clear hall;go_upto_region 19 with(fail);go_loopw[8](λiv wr=>∃i:Nat,iv=.int .i64 i/\i<=n.kids.length/\(∀j(h:j<n.kids.length),j<i->zce t n.kids[j]=true)/\TriV wr w.heap.size 46 (.slice a1 n.keys.length c1) (.slice a2 n.chains.length c2) (.slice a3 n.kids.length c3)/\Below w.heap.size w wr) (λi _=>n.kids.length-(intOf i).toNat);case atStart=>exact⟨0,rfl,zH _,λj _ h=>absurd h (yH _),hT,q⟩
                  case round=>
                    clear hT q t0 t1 t2;obtain⟨i,rfl,hil,hall,hT,q⟩:=hrel;have t0:=hT.cell0;have t1:=hT.cell1;have t2:=hT.cell2;rcases zA i n.kids.length with hlt|hge
                    · obtain⟨b3,off3,x1,y1,x2,y2,x3,y3,rfl,k0,k1,k2,hkr⟩:=(r3.below q).kid i hlt
                      go_wp2_with fail;refine(ih n.kids[i] _ S _ (by omega) hkr).mono ?_;rintro e w1⟨rfl,hb⟩;replace q:=q.trans (hb.mono q.size);replace hT:=hT.below hb hT.lt;clear hb k0 k1 k2 hkr t0 t1 t2;cases hs:zce t n.kids[i]with
                      |true=>
                        have hall':∀j (h:j<n.kids.length),j<i+1->zce t n.kids[j]=true:=λj hj h5=>by
                          rcases zA j i with h6|h6
                          ·exact hall j hj h6
                          · obtain rfl:j=i:=by omega
                            exact hs
                        have HA2:=Lib.hid hall';clear hall hall' hs;go_wp2_with fail;go_roundw;case rel=>exact⟨i+1,by go_num,by omega,HA2.out,hT,q⟩
                        case measure=>simp[intOf];omega
                      |false=>
                        have H:=Lib.hid (HNO.out λh=>by have:=h.2.2.2.2.2 i hlt;rw[hs]at this;cases this);clear hall hs;go_wp2_with fail;go_ret;exact⟨by rw[H.out];rfl,q⟩
                    · obtain rfl:i=n.kids.length:=by omega
                      have H:=Lib.hid ((zmb t n).2 ⟨H1.out.1,H1.out.2.1,H1.out.2.2,λj h=>HK.out j h h,λj h=>HC.out j h h,λj h=>hall j h h⟩);clear hall;go_wp2_with fail;go_ret;exact⟨by rw[H.out];rfl,q⟩
theorem zn2:zjl 0:=by
  intro n w S v _ hr;obtain⟨l1,l2,l3⟩:=hr.lens;obtain⟨a1,c1,a2,c2,a3,c3,rfl,r1,r2,r3⟩:=hr;have q:Below w.heap.size w (w.alloc (.cells #[.slice a1 n.keys.length c1,.slice a2 n.chains.length c2,.slice a3 n.kids.length c3] 46)):=(ze _ _).alloc (zf _) _;have e0:((0:Nat):Int)-1=-1:=by omega
  rw[e0];go_enter Tryz.func37,Tryz.ntmps37;go_wp2_with fail;go_ret;exact⟨rfl,q⟩
theorem zfx(t:Nat):zjl t:=by
 induction t with
 |zero=>exact zn2
 |succ t ih=>exact zn3 t ih
theorem wL_le{K:Nat}:∀{ns:List Nd},(∀m∈ns,5*wN m+19<=K)->5*wL ns+19*ns.length<=ns.length*K
 |[],_=>by simp[wL]
 |n::ns,h=>by
  have h1:=h n (by simp);have h2:=wL_le (ns:=ns) λm hm=>h m (by simp[hm])
  rw[wL,zI,zT];omega
theorem zit:∀(t:Nat){n:Nd},zce t n=true->bndN n/\5*wN n+19<=19*6^t
  |0,n,h=>by simp[zce]at h
  |t+1,n,h=>by
    simp only[zce,yk,yP,xr]at h;obtain⟨⟨⟨⟨⟨h1,h2⟩,h3⟩,h4⟩,h5⟩,h6⟩:=h;refine⟨(zf7 n).2 ⟨λk hk=>by have:=h4 k hk;omega,λc hc=>?_,λm hm=>(zit t (h6 m hm)).1⟩,?_⟩
    · obtain⟨h7,h8⟩:=h5 c hc
      exact⟨by omega,λx hx=>by have:=h8 x hx;omega⟩
    · have h7:=wL_le (K:=19*6^t) λm hm=>(zit t (h6 m hm)).2
      have h8:wN n=1+n.keys.length+n.chains.length+n.kids.length+wL n.kids:=by cases n;rw[wN];rfl
      have h10:6^(t+1)=6*6^t:=by rw[Nat.pow_succ];omega
      have h11:0<6^t:=Nat.pow_pos (by omega);rcases(show n.kids.length=0\/n.kids.length=1\/n.kids.length=2\/n.kids.length=3\/n.kids.length=4\/n.kids.length=5\/n.kids.length=6 by omega)with h12|h12|h12|h12|h12|h12|h12
      all_goals rw[h12]at h7 h8;omega
theorem zri{n:Nd}(h:zce 5 n=true):fitN n:=by
 obtain⟨h1,h2⟩:=zit 5 h;exact⟨by omega,h1⟩
theorem wv_mem{ps:List (List Pr)}{ks:List (List UInt8)}{cs:List (List Ver)}:∀{i:Nat}{p:Pr},p∈wv ps ks cs i->(∃j,j<i/\p∈ps.getD j [])\/∃j,j<i/\p=⟨ks.getD j [],cs.getD j []⟩
  |0,p,h=>by cases h
  |i+1,p,h=>by
    rw[wv]at h;rcases zV.1 h with h|h
    · rcases zV.1 h with h|h
      · rcases wv_mem h with⟨j,hj,h⟩|⟨j,hj,h⟩
        ·exact .inl ⟨j,by omega,h⟩
        ·exact .inr ⟨j,by omega,h⟩
      ·exact .inl ⟨i,by omega,h⟩
    ·exact .inr ⟨i,by omega,by simpa using h⟩
theorem refSmallS_any(w:World){S:Nat->Prop}{v:Value}{T:Sto}(hr:RdSt S w v T):Calls Tryz.prog 19 #[v] w λe w'=>e=.returned (.bool (decide (zgc T)))/\Below w.heap.size w w':=by
  obtain⟨a,m,c,rfl,hx⟩:=hr;obtain⟨W,hW⟩:∃W,W=w.alloc (.cells #[.slice (a 0) (m 0) (c 0),.slice (a 1) (m 1) (c 1),.slice (a 2) (m 2) (c 2),.slice (a 3) (m 3) (c 3),.slice (a 4) (m 4) (c 4),.slice (a 5) (m 5) (c 5),.slice (a 6) (m 6) (c 6),.slice (a 7) (m 7) (c 7),.slice (a 8) (m 8) (c 8),.slice (a 9) (m 9) (c 9),.slice (a 10) (m 10) (c 10),.slice (a 11) (m 11) (c 11)] 49):=⟨_,rfl⟩;have q:Below w.heap.size w W:=by rw[hW];exact(ze _ _).alloc (zf _) _
  have bn:StB W w.heap.size a m c:=by rw[hW];exact BoxN.new _ _ _
  go_enter Tryz.func19,Tryz.ntmps19;go_upto_region 1 with(fail);rw[<-hW];clear hW;go_wp2;go_loopw[3] (λv wr=>∃i:Nat,v=.int .i64 (i:Int)/\i<=4/\Below w.heap.size w wr/\StB wr w.heap.size a m c/\∀j,j<i->zce 5 (T j)=true) (λv _=>4-toN v);case atStart=>exact⟨0,rfl,by omega,q,bn,λj hj=>by omega⟩
  case round=>
    obtain⟨i,rfl,hi,hb,bx,hA⟩:=hrel;replace hA:=Lib.hid hA;rcases zA i 4 with hl|hl
    · have dl:decide ((i:Int)<4)=true:=by simp;omega
      clear bn q;obtain⟨d0,d1,d2,d3,d4,d5,d6,d7,d8,d9,d10,d11⟩:=bx.c12;rcases(show i=0\/i=1\/i=2\/i=3 by omega)with rfl|rfl|rfl|rfl
      · have rN:RdN S w (.agg #[.slice (a 0) (m 0) (c 0),.slice (a 1) (m 1) (c 1),.slice (a 2) (m 2) (c 2)]) (T 0):=hx 0 (by omega)
        have hsm:=zfx 5 (T 0) wr S _ (by omega) (rN.below hb);rw[show(((5:Nat):Int)-1)=4 from rfl]at hsm;by_cases hs:zce 5 (T 0)=true
        · rw[hs]at hsm
          replace hs:=Lib.hid hs;go_wp2_with fail;refine hsm.mono ?_;rintro e W4 ⟨rfl,hb4⟩;go_wp2_with fail;go_roundw;case rel=>
            refine⟨1,by go_num,by omega,hb.trans (hb4.mono hb.size),bx.below hb4 bx.lt,λj hj=>?_⟩;rcases xS.1 hj with h|rfl
            ·exact hA.out j h
            ·exact hs.out
          case measure=>simp[toN]
        · rw[Bool.not_eq_true _|>.mp hs]at hsm
          have H:=Lib.hid (show decide (zgc T)=false from zj λh=>hs (h 0 (by omega)));clear hs;go_wp2_with fail;refine hsm.mono ?_;rintro e W4 ⟨rfl,hb4⟩;go_wp2_with fail;go_ret;exact⟨by first|(rw[H.out];done)|(rw[H.out];rfl),hb.trans (hb4.mono hb.size)⟩
      · have rN:RdN S w (.agg #[.slice (a 3) (m 3) (c 3),.slice (a 4) (m 4) (c 4),.slice (a 5) (m 5) (c 5)]) (T 1):=hx 1 (by omega)
        have hsm:=zfx 5 (T 1) wr S _ (by omega) (rN.below hb);rw[show(((5:Nat):Int)-1)=4 from rfl]at hsm;by_cases hs:zce 5 (T 1)=true
        · rw[hs]at hsm
          replace hs:=Lib.hid hs;go_wp2_with fail;refine hsm.mono ?_;rintro e W4 ⟨rfl,hb4⟩;go_wp2_with fail;go_roundw;case rel=>
            refine⟨2,by go_num,by omega,hb.trans (hb4.mono hb.size),bx.below hb4 bx.lt,λj hj=>?_⟩;rcases xS.1 hj with h|rfl
            ·exact hA.out j h
            ·exact hs.out
          case measure=>simp[toN]
        · rw[Bool.not_eq_true _|>.mp hs]at hsm
          have H:=Lib.hid (show decide (zgc T)=false from zj λh=>hs (h 1 (by omega)));clear hs;go_wp2_with fail;refine hsm.mono ?_;rintro e W4⟨rfl,hb4⟩;go_wp2_with fail;go_ret;exact⟨by first|(rw[H.out];done)|(rw[H.out];rfl),hb.trans (hb4.mono hb.size)⟩
      · have rN:RdN S w (.agg #[.slice (a 6) (m 6) (c 6),.slice (a 7) (m 7) (c 7),.slice (a 8) (m 8) (c 8)]) (T 2):=hx 2 (by omega)
        have hsm:=zfx 5 (T 2) wr S _ (by omega) (rN.below hb);rw[show(((5:Nat):Int)-1)=4 from rfl]at hsm;by_cases hs:zce 5 (T 2)=true
        · rw[hs]at hsm
          replace hs:=Lib.hid hs;go_wp2_with fail;refine hsm.mono ?_;rintro e W4⟨rfl,hb4⟩;go_wp2_with fail;go_roundw;case rel=>
            refine⟨3,by go_num,by omega,hb.trans (hb4.mono hb.size),bx.below hb4 bx.lt,λj hj=>?_⟩;rcases xS.1 hj with h|rfl
            ·exact hA.out j h
            ·exact hs.out
          case measure=>simp[toN]
        · rw[Bool.not_eq_true _|>.mp hs]at hsm
          have H:=Lib.hid (show decide (zgc T)=false from zj λh=>hs (h 2 (by omega)));clear hs;go_wp2_with fail;refine hsm.mono ?_;rintro e W4⟨rfl,hb4⟩;go_wp2_with fail;go_ret;exact⟨by first|(rw[H.out];done)|(rw[H.out];rfl),hb.trans (hb4.mono hb.size)⟩
      · have rN:RdN S w (.agg #[.slice (a 9) (m 9) (c 9),.slice (a 10) (m 10) (c 10),.slice (a 11) (m 11) (c 11)]) (T 3):=hx 3 (by omega)
        have hsm:=zfx 5 (T 3) wr S _ (by omega) (rN.below hb);rw[show(((5:Nat):Int)-1)=4 from rfl]at hsm;by_cases hs:zce 5 (T 3)=true
        · rw[hs]at hsm
          replace hs:=Lib.hid hs;go_wp2_with fail;refine hsm.mono ?_;rintro e W4⟨rfl,hb4⟩;go_wp2_with fail;go_roundw;case rel=>
            refine⟨4,by go_num,by omega,hb.trans (hb4.mono hb.size),bx.below hb4 bx.lt,λj hj=>?_⟩;rcases xS.1 hj with h|rfl
            ·exact hA.out j h
            ·exact hs.out
          case measure=>simp[toN]
        · rw[Bool.not_eq_true _|>.mp hs]at hsm
          have H:=Lib.hid (show decide (zgc T)=false from zj λh=>hs (h 3 (by omega)));clear hs;go_wp2_with fail;refine hsm.mono ?_;rintro e W4⟨rfl,hb4⟩;go_wp2_with fail;go_ret;exact⟨by first|(rw[H.out];done)|(rw[H.out];rfl),hb.trans (hb4.mono hb.size)⟩
    · obtain rfl:i=4:=by omega
      have H:=Lib.hid (show(decide (zgc T))=true from zk λj hj=>hA.out j hj);go_wp2_with fail;go_ret;exact⟨by first|(rw[H.out];done)|(rw[H.out];rfl),hb⟩
theorem zhr:∀(t:Nat){n:Nd},zce t n=true->∀p∈zac n,p.chain.length<=20
  |0,n,h=>by simp[zce]at h
  |t+1,.mk ks cs ns,h=>by
    simp only[zce,yk,yP,xr,Nd.keys,Nd.chains,Nd.kids]at h;obtain⟨⟨_,h5⟩,h6⟩:=h;have hk:∀j p,p∈(zi0 ns).getD j []->p.chain.length<=20:=λj p hj=>by
      rw[zhd,yu,List.getElem?_map]at hj;cases hm:ns[j]? with
      |none=>rw[hm]at hj;simp at hj
      |some m=>rw[hm]at hj;exact zhr t (h6 m (xq hm)) p hj
    intro p hp;rw[zac]at hp;rcases zV.1 hp with hp|hp
    · rcases wv_mem hp with⟨j,_,hj⟩|⟨j,_,rfl⟩
      ·exact hk j p hj
      · show(cs.getD j []).length<=20
        rw[yu];cases hc:cs[j]? with
        |none=>simp
        |some c=>exact(h5 c (xq hc)).1
    ·exact hk _ p hp
theorem smallS_fit{T:Sto}(h:zgc T):fitS T:=λj hj=>zri (h j hj)
theorem smallS_ch{T:Sto}(h:zgc T):∀j,j<4->∀p∈prN (T j),p.chain.length<=20:=λj hj p hp=>by
 unfold prN at hp;split at hp;·exact zhr 5 (h j hj) p hp
 ·cases hp
theorem zmp (T:Sto)(t:Int):Srt (zcp T t):=by
 unfold zcp;split;·exact zod _
 ·exact List.Pairwise.nil
theorem InT.pick{T T':Sto}{s:Int}{l:List Wr}{K:Nat}(h:InT T s l K T')(h0:(zcr T s l).2=0)(hK:K+l.length<=900)(t:Int):zcp T' t=if 0<=t/\t<4 then(zcr T s l).1 t.toNat else[]:=by
 obtain⟨h1,h2,_⟩:=h.facts h0 hK;rw[ziz h1];by_cases h3:0<=t/\t<4;· rw[zi h3,zi h3,h2 _ (by omega)]
 · rw[zh h3,zh h3]
theorem zqc{T:Sto}{s:Int}{l:List Wr}(h:(zcr T s l).2=0):okS T/\l.any (badW s)=false/\zcr T s l=goI (tabS T) (tabS T) s l:=by
 unfold zcr at h⊢;split at h
 ·rename_i h1;exact⟨h1.1,h1.2.2.2,zi h1⟩
 ·cases h
theorem zm3{l:List Pr}{k:List UInt8}{v:Ver}(h:(zcl l k v).2=0):(zcl l k v).1=putP l k ((zaw l k).getD []++[v])/\(okV ((zaw l k).getD [])/\mayV v/\∀y∈(zaw l k).getD [],y.stamp<v.stamp)/\(zcl l k v).1.length<=60:=by
  revert h;unfold zcl;dsimp only;rcases ze6 ((zaw l k).getD []) v with⟨er,h1,h2⟩|⟨h2,h3⟩
  ·rw[h2,zi h1];exactλh=>absurd h h1
  · rw[h2,zh (by simp)]
    split;· intro h;cases h
    · rename_i h4
      exactλ_=>⟨rfl,h3,Nat.le_of_not_lt h4⟩
theorem zop{l:List Pr}{k k':List UInt8}{v:Ver}{s:Int}(hs:Srt l)(h:(zcl l k v).2=0)(hne:k≠k'\/s<v.stamp):getP (zcl l k v).1 k' s=getP l k' s:=by
  obtain⟨h1,⟨h2,h3,h4⟩,_⟩:=zm3 h;rw[h1,zlf,zlf,zgr hs];by_cases e:k=k'
  · subst e
    rw[zi rfl];rcases hne with hne|hlt
    ·exact absurd rfl hne
    · show zcd ((zaw l k).getD []++[v]) s=_
      exact zk1 h2 h3 h4 (by omega)
  · rw[zh e]
theorem zr6{l:List Pr}{k:List UInt8}{v:Ver}{s:Int}(hs:Srt l)(h:(zcl l k v).2=0)(hle:v.stamp<=s):getP (zcl l k v).1 k s=if v.gone then none else some v.value:=by
 obtain⟨h1,⟨h2,h3,h4⟩,_⟩:=zm3 h;rw[h1,zlf,zgr hs,zi rfl];show zcd ((zaw l k).getD []++[v]) s=_;cases hg:v.gone;·exact zjt h2 h3 h4 hle hg
 ·exact zju h2 h3 h4 hle hg
theorem ztw{T T':Sto}{s:Int}{x:Wr}{K:Nat}(h:InT T s [x] K T') (h0:(zcr T s [x]).2=0) (hK:K+1<=900):(∀t k at',(t≠x.table\/k≠x.key\/at'<s)->getP (zcp T' t) k at'=getP (zcp T t) k at')/\∀at',s<=at'->getP (zcp T' x.table) x.key at'=if x.gone then none else some x.val:=by
  obtain⟨hk,hb,he⟩:=zqc h0;have hp:=h.pick h0 (by simpa using hK);have hb':badW s x=false:=by simpa using hb
  obtain⟨b1,b2,_,_⟩:=zvh hb';have hn:(zcl (tabS T x.table.toNat) x.key (verW x s)).2=0:=by
    rw[he]at h0;by_cases hn:(zcl (tabS T x.table.toNat) x.key (verW x s)).2=0;·exact hn
    · unfold goI at h0
      rw[zi hn]at h0;exact absurd h0 hn
  have h1:(zcr T s [x]).1=setT (tabS T) x.table (zcl (tabS T x.table.toNat) x.key (verW x s)).1:=by
    rw[he];unfold goI;rw[zh (by rw[hn];simp)];rfl
  have hst:∀t,Srt (tabS T t):=λt=>zod _
  refine⟨λt k at' hc=>?_,λat' hle=>?_⟩
  · rw[hp,ziz hk,h1]
    by_cases ht:0<=t/\t<4
    · rw[zi ht,zi ht]
      unfold setT;by_cases e:((t.toNat:Nat):Int)=x.table
      · rw[zi e]
        have e2:t=x.table:=by omega
        subst e2;refine zop (hst _) hn ?_;rcases hc with hc|hc|hc
        ·exact absurd rfl hc
        ·exact .inl λe=>hc e.symm
        ·exact .inr hc
      · rw[zh e]
    · rw[zh ht,zh ht]
  · rw[hp,zi ⟨b1,b2⟩,h1]
    unfold setT;rw[zi (by omega)];exact zr6 (hst _) hn hle
theorem zd5 (p:Pr)(l:List Pr)(x:Sp)(s:Int):zbr (p::l) x s=(zfo x s p).toList++zbr l x s:=by
 unfold zbr;rw[List.filterMap_cons];cases zfo x s p<;>rfl
theorem zpj{x y:Sp}{s:Int}{p:Pr}(h:inS x p.key=inS y p.key):zfo x s p=zfo y s p:=by
 unfold zfo;rw[h]
theorem zpi{x y:Sp}{s:Int}:∀{l:List Pr},(∀p∈l,inS x p.key=inS y p.key)->zbr l x s=zbr l y s
 |[],_=>rfl
 |p::r,h=>by rw[zd5,zd5,zpj (h p (by simp)),zpi λq hq=>h q (by simp[hq])]
theorem zrn{x:Sp}{s:Int}{l:List Pr}(h:∀p∈l,inS x p.key=false):zbr l x s=[]:=by
 unfold zbr;rw[List.filterMap_eq_nil_iff];intro p hp;unfold zfo;rw[h p hp];rfl
theorem ltB_le{a b c:List UInt8}(h1:ltB a b=true)(h2:ltB c b=false):ltB a c=true:=by
 by_cases e:c=b
 ·rw[e];exact h1
 ·exact zbe h1 (zcq e h2)
theorem scan_cut {t:Int}{lo hi c:List UInt8}{o:Bool}{s:Int}(h1:ltB c lo=false) (h2:o=true\/ltB hi c=false):∀{l:List Pr},Srt l->zbr l ⟨t,lo,hi,o⟩ s=zbr l ⟨t,lo,c,false⟩ s++zbr l ⟨t,c,hi,o⟩ s
 |[],_=>rfl
 |p::r,h=>by
  have h':=yh.1 h;cases hc:ltB p.key c with
  |true=>
   have e1:inS ⟨t,c,hi,o⟩ p.key=false:=by unfold inS;simp[hc]
   have e2:inS ⟨t,lo,hi,o⟩ p.key=inS ⟨t,lo,c,false⟩ p.key:=by
    unfold inS;have:(o||ltB p.key hi)=true:=by
     rcases h2 with h2|h2
     · simp[h2]
     ·cases hh:ltB p.key hi with
      |true=>simp
      |false=>rw[ltB_le hc h2]at hh;cases hh
    simp only[this,hc,Bool.false_or]
   have ih:=scan_cut (t:=t) (s:=s) h1 h2 h'.2;rw[zd5,zd5,zd5,ih,zpj e2];have e3:zfo ⟨t,c,hi,o⟩ s p=none:=by unfold zfo;rw[e1];rfl
   rw[e3,zG];rfl
  |false=>
   have hge:∀q∈p::r,ltB q.key c=false:=λq hq=>by
    rcases zU.1 hq with rfl|hq
    ·exact hc
    ·cases hh:ltB q.key c with
     |false=>rfl
     |true=>exact absurd (zbe (h'.1 q hq) hh) (by simp[hc])
   rw[zrn (x:=⟨t,lo,c,false⟩) λq hq=>by unfold inS;simp[hge q hq]];refine zpi λq hq=>?_
   unfold inS;have:ltB q.key lo=false:=by
    cases hh:ltB q.key lo with
    |false=>rfl
    |true=>exact absurd (ltB_le hh h1) (by simp[hge q hq])
   simp[this,hge q hq]
theorem scan_mem{l:List Pr}{x:Sp}{s:Int}{q:Pq}(hs:Srt l)(h:q∈zbr l x s):getP l q.key s=some q.val:=by
  unfold zbr at h;obtain⟨p,hp,e⟩:=xE.1 h;unfold zfo at e;split at e
  · rw[wQ]at e
    obtain⟨v,hv,rfl⟩:=e;unfold getP;show(zaw l p.key).bind _=_;rw[znc hs hp];exact hv
  ·cases e
theorem zgp{x:Sp}{s:Int}:∀{l:List Pr},Srt l->(zbr l x s).Pairwise λa b=>ltB a.key b.key=true
 |[],_=>List.Pairwise.nil
 |p::r,h=>by
  have h':=yh.1 h;rw[zd5];cases hv:zfo x s p with
  |none=>exact zgp h'.2
  |some q=>
   refine yh.2 ⟨λy hy=>?_,zgp h'.2⟩;have hq:q.key=p.key:=by
    unfold zfo at hv;split at hv;· obtain⟨v,_,rfl⟩:=wQ.1 hv;rfl
    ·cases hv
   unfold zbr at hy;obtain⟨p2,hp2,e⟩:=xE.1 hy;have hy2:y.key=p2.key:=by
    unfold zfo at e;split at e;· obtain⟨v,_,rfl⟩:=wQ.1 e;rfl
    ·cases e
   rw[hq,hy2];exact h'.1 p2 hp2
theorem ztu:Opens Tryz.prog 100 Elt.ver:=by
 intro H enc w base held fuel cs x h;obtain⟨y0,y1,y2,n,_,hl,h0,h1,h2⟩:=trod_struct3 Tryz.underlying100 h;have hc:cs.length=3:=hl.trans (by kernel_rfl);match cs,hc with
 |[u,v,r],_=>
  obtain⟨m,hm,_,hw⟩:=wl (by kernel_rfl:Tryz.prog.underlying 3=some (.int .i64)) (h0:DataW.trod enc Tryz.prog w base (λ_=>true) held n 3 [u]=some y0);obtain⟨g,hg,_⟩:=DataW.trod_bool (by kernel_rfl:Tryz.prog.underlying 4=some .bool) (h1:DataW.trod enc Tryz.prog w base (λ_=>true) held n 4 [v]=some y1);obtain⟨xs,v',hv,hR⟩:=Opens.bytes (P:=Tryz.prog) (t:=23) (e:=5) (by kernel_rfl) (by kernel_rfl) (by kernel_rfl) (h2:DataW.trod enc Tryz.prog w base (λ_=>true) held n 23 [r]=some y2);cases hm;cases hg;cases hv;exact⟨⟨m,g,xs⟩,r,rfl,hR,i64w hw⟩
theorem zrz:Opens Tryz.prog 102 (Elt.list Elt.ver):=Opens.list (by kernel_rfl) (by kernel_rfl) ztu
section
variable {P : Program} {t e : TypeId}
theorem zgh {α:Type}{E:Elt α}(ht:P.underlying t=some (.slice e))(hc:P.cellsOf e=E.size){H:Type}{enc:TypeId×Value->H}{w:World}{base:Nat}{held:Bool}{fuel:Nat}{cs:List Value}{x:DataW H×List MemPlace}(h:DataW.trod enc P w base (λ_=>true) held fuel t cs=some x)(hE:∀n,n<fuel->∀cs x,DataW.trod enc P w base (λ_=>true) held n e cs=some x->∃d,E.R (·<w.heap.size) w d cs):∃l v,cs=[v]/\RdL E (·<w.heap.size) w v l:=by
  rcases DataW.trod_slice ht h with⟨rfl,_⟩|⟨a,len,cap,elems,rest,n,hf,rfl,_,hb,hl,hm,hlen,hel,_,_⟩
  ·exact⟨[],_,rfl,RdL.nil _ _ _⟩
  · obtain⟨l,hll,hp⟩:=zgi (p:=λi d=>∃cs',E.R (·<w.heap.size) w d cs'/\∀j,j<cs'.length->w.cell? (a.add (i*E.size+j))=cs'[j]?) len (λi hil=>by
      have h1:=hel i hil;rw[zB (by omega)]at h1;obtain⟨cs',h2,h3⟩:=Option.bind_eq_some_iff.1 h1;obtain⟨d,hd⟩:=hE n (by omega) cs' _ h3;obtain⟨_,hcl,hat⟩:=World.cells?_some h2;refine⟨d,cs',hd,λj hj=>?_⟩;have:=hat j (by omega);rw[add_add,hc]at this;exact this)
    refine⟨l,_,rfl,?_⟩;rw[<-hll]at hl⊢;refine⟨some a,cap,rfl,hl,hm,?_⟩;rcases yx l.length with h0|h0
    ·exact .inl (yg h0)
    · obtain⟨cs0,hR0,hc0⟩:=hp 0 h0
      have hl0:=E.len hR0;have hpos:=E.pos;have hcell:=hc0 0 (by omega);rw[zB (by omega)]at hcell;obtain⟨b,off,spot⟩:=a;have hspot:spot=none:=by simpa [Addr.add]using World.cell?_spot hcell
      subst hspot;have hblt:=wA w _ hcell;refine .inr ⟨b,off,rfl,by simpa[zN]using hblt,λr hr=>?_⟩;obtain⟨cs',hR,hcs⟩:=hp r hr;refine⟨cs',hR,λj u hj=>?_⟩;have:=hcs j (yI.1 hj).1;rw[hj,zN,<-Nat.add_assoc]at this;exact this
end
theorem zoj:∀(F:Nat){H:Type}{enc:TypeId×Value->H}{w:World}{base:Nat}{held:Bool}{fuel:Nat}{cs:List Value}{x:DataW H×List MemPlace},fuel<=F->DataW.trod enc Tryz.prog w base (λ_=>true) held fuel 46 cs=some x->∃d,Elt.nd.R (·<w.heap.size) w d cs:=by
 intro F;induction F with
 |zero=>
  intro H enc w base held fuel cs x hF h;obtain⟨xs,n,hn,_⟩:=DataW.trod_struct Tryz.underlying46 h;omega
 |succ F ih=>
  intro H enc w base held fuel cs x hF h;obtain⟨xs,n,hn,_,hl,hlen,hf⟩:=DataW.trod_struct Tryz.underlying46 h;have hc:cs.length=3:=hl.trans (by kernel_rfl);match cs,hc,xs,hlen with
  |[u,v,r],_,[y0,y1,y2],_=>
   have h0:DataW.trod enc Tryz.prog w base (λ_=>true) held n 42 [u]=some y0:=hf 0 _ rfl;have h1:DataW.trod enc Tryz.prog w base (λ_=>true) held n 43 [v]=some y1:=hf 1 _ rfl;have h2:DataW.trod enc Tryz.prog w base (λ_=>true) held n 44 [r]=some y2:=hf 2 _ rfl;obtain⟨ks,u',hu,hku⟩:=zgh (E:=Elt.bytes) (P:=Tryz.prog) (t:=42) (e:=23) (by kernel_rfl) (by kernel_rfl) h0 (λm _ cs x h=>Opens.bytes (P:=Tryz.prog) (t:=23) (e:=5) (by kernel_rfl) (by kernel_rfl) (by kernel_rfl) h);obtain⟨chs,v',hv,hcv⟩:=zgh (E:=Elt.list Elt.ver) (P:=Tryz.prog) (t:=43) (e:=102) (by kernel_rfl) (by kernel_rfl) h1 (λm _ cs x h=>zrz h);obtain⟨ns,r',hr,hnr⟩:=zgh (E:=Elt.nd) (P:=Tryz.prog) (t:=44) (e:=46) (by kernel_rfl) (by kernel_rfl) h2 (λm hm cs x h=>ih (by omega) h);cases hu;cases hv;cases hr;exact⟨.mk ks chs ns,nd_in hku hcv hnr⟩
theorem zr1:Opens Tryz.prog 46 Elt.nd:=λ{_ _ _ _ _ fuel _ _}h=>zoj fuel (zf _) h
theorem open_st{H:Type}{enc:TypeId×Value->H}{w:World}{base:Nat}{held:Bool}{fuel:Nat}{cs:Array Value}{x:DataW H×List MemPlace}(h:DataW.trod enc Tryz.prog w base (λ_=>true) held fuel 49 (Value.agg cs).cells.toList=some x):∃T,RdSt (·<w.heap.size) w (.agg cs) T:=by
 have e0:(Value.agg cs).cells.toList=cs.toList:=by simp[Value.cells]
 rw[e0]at h;obtain⟨xs,n,_,_,hl,hlen,hf⟩:=DataW.trod_struct Tryz.underlying49 h;have hc:cs.toList.length=12:=hl.trans (by kernel_rfl);obtain⟨l⟩:=cs;match l,hc,xs,hlen with
 |[u0,u1,u2,u3,u4,u5,u6,u7,u8,u9,u10,u11],_,[y0],_=>
  have h0:DataW.trod enc Tryz.prog w base (λ_=>true) held n 47 [u0,u1,u2,u3,u4,u5,u6,u7,u8,u9,u10,u11]=some y0:=hf 0 _ rfl;obtain⟨ys,m,_,_,_,hn,hi⟩:=DataW.trod_array Tryz.underlying47 h0;have hce:Tryz.prog.cellsOf 46=3:=by kernel_rfl
  have key:∀i,i<4->∃d,RdN (·<w.heap.size) w (.agg (List.take 3 (List.drop (i*3) [u0,u1,u2,u3,u4,u5,u6,u7,u8,u9,u10,u11])).toArray) d:=λi h4=>by
   obtain⟨y,hy⟩:∃y,ys[i]?=some y:=⟨_,zB (by omega)⟩;have h5:=hi i h4;rw[hce,hy]at h5;obtain⟨d,hR⟩:=zr1 h5;exact⟨d,RdN.of hR⟩
  obtain⟨n0,r0⟩:=key 0 (by omega);replace r0:RdN (·<w.heap.size) w (.agg #[u0,u1,u2]) n0:=r0;have q0:=r0;obtain⟨a0,c0,a1,c1,a2,c2,e0,_⟩:=q0;injection e0 with e0;injection e0 with e0;injection e0 with x0 e0;injection e0 with x1 e0;injection e0 with x2 e0;subst x0 x1 x2;clear e0;obtain⟨n1,r1⟩:=key 1 (by omega);replace r1:RdN (·<w.heap.size) w (.agg #[u3,u4,u5]) n1:=r1;have q1:=r1;obtain⟨a3,c3,a4,c4,a5,c5,e1,_⟩:=q1;injection e1 with e1;injection e1 with e1;injection e1 with x3 e1;injection e1 with x4 e1;injection e1 with x5 e1;subst x3 x4 x5;clear e1;obtain⟨n2,r2⟩:=key 2 (by omega);replace r2:RdN (·<w.heap.size) w (.agg #[u6,u7,u8]) n2:=r2;have q2:=r2;obtain⟨a6,c6,a7,c7,a8,c8,e2,_⟩:=q2;injection e2 with e2;injection e2 with e2;injection e2 with x6 e2;injection e2 with x7 e2;injection e2 with x8 e2;subst x6 x7 x8;clear e2;obtain⟨n3,r3⟩:=key 3 (by omega);replace r3:RdN (·<w.heap.size) w (.agg #[u9,u10,u11]) n3:=r3;have q3:=r3;obtain⟨a9,c9,a10,c10,a11,c11,e3,_⟩:=q3;injection e3 with e3;injection e3 with e3;injection e3 with x9 e3;injection e3 with x10 e3;injection e3 with x11 e3;subst x9 x10 x11;clear e3;exact⟨λi=>[n0,n1,n2,n3].getD i (.mk [] [] []),λi=>[a0,a1,a2,a3,a4,a5,a6,a7,a8,a9,a10,a11].getD i none,λi=>[n0.keys.length,n0.chains.length,n0.kids.length,n1.keys.length,n1.chains.length,n1.kids.length,n2.keys.length,n2.chains.length,n2.kids.length,n3.keys.length,n3.chains.length,n3.kids.length].getD i 0,λi=>[c0,c1,c2,c3,c4,c5,c6,c7,c8,c9,c10,c11].getD i 0,rfl,λi h4=>match i,h4 with
   |0,_=>r0
   |1,_=>r1
   |2,_=>r2
   |3,_=>r3⟩
theorem zs6{l:List Pr}{x:Sp}{s:Int}{q:Pq}(h:q∈zbr l x s):inS x q.key=true:=by
  unfold zbr at h;obtain⟨p,_,e⟩:=xE.1 h;unfold zfo at e;split at e
  · rename_i h1
    obtain⟨v,_,rfl⟩:=wQ.1 e;exact h1
  ·cases e
theorem ziu{l:List Pr}(hs:Srt l)(x:Sp)(s:Int)(k:List UInt8)(hk:inS x k=true):zcf Pq.key k (zbr l x s)=(getP l k s).map λv=>⟨k,v⟩:=by
 cases hf:zcf Pq.key k (zbr l x s)with
 |some q=>
  obtain⟨h1,h2⟩:=zdf hf;have h3:=scan_mem hs h1;rw[h2]at h3;rw[h3];cases q;subst h2;rfl
 |none=>
  have hn:=zdg.1 hf;cases hg:getP l k s with
  |none=>rfl
  |some v=>
   unfold getP at hg;obtain⟨c,hc,hv⟩:=Option.bind_eq_some_iff.1 hg;obtain⟨p,hp,rfl,rfl⟩:=zde hc;refine absurd rfl (hn ⟨p.key,v⟩ ?_);unfold zbr;refine xE.2 ⟨p,hp,?_⟩;unfold zfo;rw[zi hk,hv];rfl
theorem zs5{l m:List Pr}(hl:Srt l)(hm:Srt m){x:Sp}{s:Int}(h:∀k,inS x k=true->getP l k s=getP m k s):zbr l x s=zbr m x s:=by
  refine zko (lt:=ltB) (key:=Pq.key) totB (zgp hl) (zgp hm) λk=>?_
  by_cases hk:inS x k=true
  ·rw[ziu hl x s k hk,ziu hm x s k hk,h k hk]
  · have hn:∀{z:List Pr},zcf Pq.key k (zbr z x s)=none:=zdg.2 λq hq e=>hk (by rw[<-e];exact zs6 hq)
    rw[hn,hn]
theorem doX_blind{d:Dl}{T U:Sto}{s:Int}{o:Tx}{x:Wr}{K:Nat}(h:InT T s [x] K U)(h0:(zcr T s [x]).2=0)(hK:K+1<=900)(hr:∀y∈zed o,inT y x.table x.key=false):doX d U s o=doX d T s o:=by
  obtain⟨hU,_⟩:=h.facts h0 (by simpa using hK);have hT:=(zqc h0).1;obtain⟨hg,_⟩:=ztw h h0 hK;by_cases h2:okD d/\okX o
  · rw[ze7 hT h2.1 h2.2,ze7 hU h2.1 h2.2,zog hT,zog hU]
    have hval:(o.kind=1\/o.kind=3\/o.kind=4)->valX d (zcp U o.table) s o.table o.key=valX d (zcp T o.table) s o.table o.key:=λhk=>by
      have h3:=hr (za8 o.table o.key) (by unfold zed;rw[zh (by simp[h2.2]),zi hk];simp);have h4:getP (zcp U o.table) o.key s=getP (zcp T o.table) o.key s:=by
        refine hg _ _ _ ?_;by_cases e:o.table=x.table
        · refine .inr (.inl λe2=>?_)
          rw[<-e,e2.symm,zps]at h3;simp at h3
        ·exact .inl e
      unfold valX;rw[h4]
    have hscan:o.kind=5->zbr (zcp U o.table) (zay o) s=zbr (zcp T o.table) (zay o) s:=λhk=>by
      have h3:=hr (zay o) (by unfold zed;rw[zh (by simp[h2.2]),zh (by omega),zi hk];simp);refine zs5 (zmp _ _) (zmp _ _) λk hin=>hg _ _ _ ?_
      by_cases e:o.table=x.table
      · refine .inr (.inl λe2=>?_)
        unfold inT at h3;rw[<-e2,hin]at h3;simp[zay,e]at h3
      ·exact .inl e
    unfold onX;by_cases h1:o.kind=1
    · rw[zi h1,zi h1,hval (.inl h1)]
    rw[zh h1,zh h1];by_cases h5:o.kind=2
    · rw[zi h5,zi h5]
    rw[zh h5,zh h5];by_cases h6:o.kind=3
    ·rw[zi h6,zi h6,hval (.inr (.inl h6))]
    rw[zh h6,zh h6];by_cases h7:o.kind=4
    ·rw[zi h7,zi h7,hval (.inr (.inr h7))]
    rw[zh h7,zh h7];by_cases h8:o.kind=5;·rw[zi h8,zi h8,hscan h8]
    rw[zh h8,zh h8]
  ·rw[zhx λe=>h2 e.2,zhx λe=>h2 e.2]
end Go.Proofs.YtkobhdllagbkhaaGreat
