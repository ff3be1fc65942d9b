/-
  TEXTS OF ONE PROOF, merged: StT, StU, StX, Dlu, Dli, SuT.
-/
import Derived.Test.YtlpfhgdnmjkngaaGreatKv1
import Derived.Test.YtlpfhgdnmjkngaaGreatKv2
import Derived.Test.YtlpfhgdnmjkngaaGreatKv3
import Derived.Test.YtlpfhgdnmjkngaaGreatKv4
import Derived.Test.YtlpfhgdnmjkngaaGreatKv5
import Derived.Test.YtlpfhgdnmjkngaaGreatKv6
import Derived.Test.YtlpfhgdnmjkngaaGreatKv7
import Derived.Test.YtlpfhgdnmjkngaaGreatKv8
import Derived.Test.YtlpfhgdnmjkngaaGreatKv9
import Derived.Test.YtlpfhgdnmjkngaaGreatKv10
import Derived.Test.YtlpfhgdnmjkngaaGreatKv11
import Derived.Test.YtlpfhgdnmjkngaaGreatKv12
import Derived.Test.YtlpfhgdnmjkngaaGreatKv13
import Derived.Test.YtlpfhgdnmjkngaaGreatKv14
import Derived.Test.YtlpfhgdnmjkngaaGreatKv15
import Derived.Test.YtlpfhgdnmjkngaaGreatKz1
namespace Go.Proofs.YtlpfhgdnmjkngaaGreat
open Go.RowKit Go.Shelf
set_option maxRecDepth 100000
set_option maxHeartbeats 32000000
theorem zhl(xs:List UInt8):(zbk xs).toList=xs:=by simp [zbk]
theorem zhk {a b:List UInt8}:((zbk a).toList==(zbk b).toList)=decide (a=b):=by
 rw [zhl,zhl]
 by_cases e:a=b<;>simp [e]
theorem zoz {α:Type} {l m:List α} {i:Nat} (h1:i<l.length) (h2:i<m.length) (h:l.take i=m.take i) (e:l[i]=m[i]):l.take (i+1)=m.take (i+1):=by
 rw [List.take_succ_eq_append_getElem h1,List.take_succ_eq_append_getElem h2,h,e]
theorem zql (w:World) {S S2:Nat→Prop} {a a2:Option Addr} {n cx n2 cy:Nat} {l m:List Pq} (hl:RdL Elt.pq S w (.slice a n cx) l) (hm:RdL Elt.pq S2 w (.slice a2 n2 cy) m) :
  Calls Tryz.prog 18 #[.slice a n cx,.slice a2 n2 cy] w fun e w'=>e=.returned (.bool (decide (l=m)))∧Below w.heap.size w w':=by
 obtain⟨rfl,hnc,hcm⟩:=hl.len
 obtain⟨rfl,hnc2,hcm2⟩:=hm.len
 have hlm:l.length≤9223372036854775807:=by unfold maxLen at hcm;omega
 have q:=Below.refl w.heap.size w
 by_cases hlen:l.length=m.length
 case neg =>
  have d:((l.length:Int)==(m.length:Int))=false:=beq_eq_false_iff_ne.2 (by omega)
  have d2:(l.length==m.length)=false:=beq_eq_false_iff_ne.2 hlen
  have d3:((l.length:Int) != (m.length:Int))=true:=bne_iff_ne.2 (by omega)
  have H:=Lib.hid (show decide (l=m)=false from decide_eq_false fun h=>hlen (by rw [h]))
  clear hlen
  go_enter Tryz.func18,Tryz.ntmps18
  go_wp2_with fail
  go_ret
  exact⟨by rw [H.out];rfl,q⟩
 case pos =>
 have d:((l.length:Int)==(m.length:Int))=true:=beq_iff_eq.2 (by omega)
 have d2:(l.length==m.length)=true:=beq_iff_eq.2 hlen
 have d3:((l.length:Int) != (m.length:Int))=false:=bne_eq_false_iff_eq.2 (by omega)
 have hle:l.length≤m.length:=by omega
 replace hlen:=Lib.hid hlen
 go_enter Tryz.func18,Tryz.ntmps18
 go_upto_region 4 with (fail)
 go_loopw [5] (fun iv wr=>∃ i:Nat,iv=.int .i64 i∧i≤l.length∧l.take i=m.take i∧Below w.heap.size w wr) (fun i _=>l.length - (intOf i).toNat)
 case atStart=>exact⟨0,rfl,Nat.zero_le _,by simp,q⟩
 case round =>
  clear q
  obtain⟨i,rfl,hil,hno,q⟩:=hrel
  rcases Nat.lt_or_ge i l.length with hlt | hge
  ·have hlt2:i<m.length:=Nat.lt_of_lt_of_le hlt hle
   obtain⟨b,off,A,C,A2,C2,rfl,hb,g0,g1,hk1,hk2⟩:=(hl.below q).pq i hlt
   obtain⟨b',off',A',C',A2',C2',rfl,hb',f0,f1,hk3,hk4⟩:=(hm.below q).pq i hlt2
   have r1:=hk1.rd
   have r2:=hk2.rd
   have r3:=hk3.rd
   have r4:=hk4.rd
   clear hb hb'
   by_cases e0:l[i].key=m[i].key
   ·by_cases e1:l[i].val=m[i].val
    ·have H:=Lib.hid (zoz hlt hlt2 hno (by cases h1:l[i];cases h2:m[i];rw [h1,h2] at e0 e1;simp_all))
     have d0:((zbk l[i].key).toList==(zbk m[i].key).toList)=true:=zhk.trans (decide_eq_true e0)
     have d1:((zbk l[i].val).toList==(zbk m[i].val).toList)=true:=zhk.trans (decide_eq_true e1)
     clear hno e0 e1
     go_upto_region 6 with (fail)
     refine wp_region_quiet_lit (by kernel_rfl) (by kernel_rfl) ?_
     repeat (first | go_big_quiet_step (fail) | (go_big_quiet_want;refine zar byP rfl rfl r1 ?_;go_big_quiet_on;go_simp) | (go_big_quiet_want;refine zar byP rfl rfl r2 ?_;go_big_quiet_on;go_simp) | (go_big_quiet_want;refine zar byP rfl rfl r3 ?_;go_big_quiet_on;go_simp) | (go_big_quiet_want;refine zar byP rfl rfl r4 ?_;go_big_quiet_on;go_simp))
     first | (refine wpQuiet_nil ?_;intro _ hw';obtain⟨nq,hw''⟩:=hw';subst hw'') | intro nq
     go_wp2_with fail
     go_roundw
     case rel=>exact⟨i+1,by go_num,by omega,H.out,Below.drewN q _⟩
     case measure=>simp [intOf];omega
    ·have H:=Lib.hid (show decide (l=m)=false from decide_eq_false fun h=>e1 (by subst h;rfl))
     have d0:((zbk l[i].key).toList==(zbk m[i].key).toList)=true:=zhk.trans (decide_eq_true e0)
     have d1:((zbk l[i].val).toList==(zbk m[i].val).toList)=false:=zhk.trans (decide_eq_false e1)
     clear hno e0 e1
     go_upto_region 6 with (fail)
     refine wp_region_quiet_lit (by kernel_rfl) (by kernel_rfl) ?_
     repeat (first | go_big_quiet_step (fail) | (go_big_quiet_want;refine zar byP rfl rfl r1 ?_;go_big_quiet_on;go_simp) | (go_big_quiet_want;refine zar byP rfl rfl r2 ?_;go_big_quiet_on;go_simp) | (go_big_quiet_want;refine zar byP rfl rfl r3 ?_;go_big_quiet_on;go_simp) | (go_big_quiet_want;refine zar byP rfl rfl r4 ?_;go_big_quiet_on;go_simp))
     first | (refine wpQuiet_nil ?_;intro _ hw';obtain⟨nq,hw''⟩:=hw';subst hw'') | intro nq
     go_wp2_with fail
     go_ret
     exact⟨by rw [H.out];rfl,Below.drewN q _⟩
   ·have H:=Lib.hid (show decide (l=m)=false from decide_eq_false fun h=>e0 (by subst h;rfl))
    have d0:((zbk l[i].key).toList==(zbk m[i].key).toList)=false:=zhk.trans (decide_eq_false e0)
    clear hno e0
    go_upto_region 6 with (fail)
    refine wp_region_quiet_lit (by kernel_rfl) (by kernel_rfl) ?_
    repeat (first | go_big_quiet_step (fail) | (go_big_quiet_want;refine zar byP rfl rfl r1 ?_;go_big_quiet_on;go_simp) | (go_big_quiet_want;refine zar byP rfl rfl r2 ?_;go_big_quiet_on;go_simp) | (go_big_quiet_want;refine zar byP rfl rfl r3 ?_;go_big_quiet_on;go_simp) | (go_big_quiet_want;refine zar byP rfl rfl r4 ?_;go_big_quiet_on;go_simp))
    first | (refine wpQuiet_nil ?_;intro _ hw';obtain⟨nq,hw''⟩:=hw';subst hw'') | intro nq
    go_wp2_with fail
    go_ret
    exact⟨by rw [H.out];rfl,Below.drewN q _⟩
  ·obtain rfl:i=l.length:=by omega
   have H:=Lib.hid (show decide (l=m)=true from decide_eq_true (by rw [List.take_length,hlen.out,List.take_length] at hno;exact hno))
   clear hno
   go_wp2_with fail
   go_ret
   exact⟨by rw [H.out];rfl,q⟩
def fewW(l:List Wr):Prop:=l.length≤20∧∀ x∈l,x.key.length≤100∧x.val.length≤100
instance (l:List Wr):Decidable (fewW l):=by unfold fewW;exact inferInstance
def shS(x:Sp):Prop:=x.lo.length≤100∧x.hi.length≤100
instance (x:Sp):Decidable (shS x):=by unfold shS;exact inferInstance
theorem zo3 (w : World) {S : Nat → Prop} {v : Value} {x : Sp} (h : RdSp S w v x) :
  Calls Tryz.prog 13 #[v] w fun e w' => e = .returned (.bool (decide (shS x))) ∧ Below w.heap.size w w' := by
 obtain ⟨a1,a2,a3,a4,rfl,hl,hh,ht⟩ := h
 obtain ⟨W,hW⟩ : ∃ W,W = w.alloc (.cells #[.int .i64 x.table,.slice a1 x.lo.length a2,.slice a3 x.hi.length a4,.bool x.isOpen] 32) := ⟨_,rfl⟩
 have q : Below w.heap.size w W := by rw [hW]; exact (Below.refl _ _).alloc (Nat.le_refl _) _
 have Bx : BoxN W w.heap.size 32 [.int .i64 x.table,.slice a1 x.lo.length a2,.slice a3 x.hi.length a4,.bool x.isOpen] := by rw [hW]; exact BoxN.new _ _ _
 have hm1 : x.lo.length ≤ 9223372036854775807 := by have := hl.len; unfold maxLen at this; omega
 have hm2 : x.hi.length ≤ 9223372036854775807 := by have := hh.len; unfold maxLen at this; omega
 go_enter Tryz.func13,Tryz.ntmps13
 go_upto_region 1 with (fail)
 rw [← hW]
 clear hW
 have cx1 := Bx.cell (i := 1) rfl
 have cx2 := Bx.cell (i := 2) rfl
 by_cases h1 : x.lo.length ≤ 100
 ·have d1 : decide ((x.lo.length : Int) ≤ 100) = true := by simp; omega
  by_cases h2 : x.hi.length ≤ 100
  ·have d2 : decide ((x.hi.length : Int) ≤ 100) = true := by simp; omega
   have H := Lib.hid (show decide (shS x) = true from decide_eq_true ⟨h1,h2⟩)
   clear h1 h2
   go_wp2_with fail
   go_ret
   exact ⟨by first | (rw [H.out]; done) | (rw [H.out]; rfl),q⟩
  ·have d2 : decide ((x.hi.length : Int) ≤ 100) = false := by simp; omega
   have H := Lib.hid (show decide (shS x) = false from decide_eq_false fun h => h2 h.2)
   clear h1 h2
   go_wp2_with fail
   go_ret
   exact ⟨by first | (rw [H.out]; done) | (rw [H.out]; rfl),q⟩
 ·have d1 : decide ((x.lo.length : Int) ≤ 100) = false := by simp; omega
  have H := Lib.hid (show decide (shS x) = false from decide_eq_false fun h => h1 h.1)
  clear h1
  go_wp2_with fail
  go_ret
  exact ⟨by first | (rw [H.out]; done) | (rw [H.out]; rfl),q⟩
theorem zn0 {S0 : Nat → Prop} {Te : TypeId} {base : Nat} {w : World} {v : Value} {l : List Pr} (h : OwnL (Elt.pin Elt.pair S0) Te base 0 w v l) : RdL Elt.pair (fun j => S0 j ∨ base ≤ j) w v l := by
 obtain ⟨vs,h1,h2⟩ := h
 have hx := h1
 rcases h1.2 with ⟨rfl,h0⟩ | ⟨g,cap,cur,rfl,hb,hg,hn,hc,hcs,ht⟩
 ·obtain rfl : l = [] := List.eq_nil_of_length_eq_zero h0
  exact RdL.nil _ _ _
 ·refine ⟨_,cap,rfl,hn,hc,.inr ⟨g,0,rfl,.inr hb,fun r hr => ?_⟩⟩
  obtain ⟨us,h3,h4⟩ := h2.at r hr
  refine ⟨us,Elt.pair.weak (S := fun k => S0 k ∧ _) h3 fun k hk => .inl hk.1,fun j u hj => ?_⟩
  have := hx.cells (g := g) rfl _ u (h4 j u hj)
  simpa [Addr.add_lit,Elt.pin] using this
theorem zc9 (w:World) {S:Nat→Prop} {v:Value} {n:Nd} (hr:RdN S w v n) (hw:wN n≤1000000) (hS:∀ k,S k→k<w.heap.size) :
  Calls Tryz.prog 30 #[v] w (zg9 S w (prN n)):=by
 have hr0:=hr
 obtain⟨a1,c1,a2,c2,a3,c3,rfl,r1,r2,r3⟩:=hr
 have hT:=TriV.new w 26 (.slice a1 n.keys.length c1) (.slice a2 n.chains.length c2) (.slice a3 n.kids.length c3)
 have q:Below w.heap.size w (w.alloc (.cells #[.slice a1 n.keys.length c1,.slice a2 n.chains.length c2,.slice a3 n.kids.length c3] 26)):=(Below.refl _ _).alloc (Nat.le_refl _) _
 go_enter Tryz.func30,Tryz.ntmps30
 go_upto_region 1 with (fail)
 generalize w.alloc (.cells #[.slice a1 n.keys.length c1,.slice a2 n.chains.length c2,.slice a3 n.kids.length c3] 26)=W at *
 have t0:=hT.cell0
 have t1:=hT.cell1
 have t2:=hT.cell2
 go_wp2_with fail
 refine (zjt _ (hr0.below q) hw).mono ?_
 rintro e w1⟨rfl,hb⟩
 replace q:=q.trans (hb.mono q.size)
 replace hT:=hT.below hb hT.lt
 clear hb t0 t1 t2
 by_cases hk:okN n
 ·rw [decide_eq_true hk]
  have H:=Lib.hid (show prN n=zaa n from if_pos hk)
  have HF:=Lib.hid hk.1
  have t0:=hT.cell0
  have t1:=hT.cell1
  have t2:=hT.cell2
  clear hk
  go_wp2_with fail
  refine (zgt 1000000 n true _ _ _ hw (Nat.le_refl _) (hr0.below q) (fun k hk=>Nat.lt_of_lt_of_le (hS k hk) q.size) HF.out).mono ?_
  rintro e w2⟨a,k,c,rfl,hO,hb⟩
  go_wp2_with fail
  go_ret
  rw [H.out]
  exact⟨_,_,_,rfl,hO.to q.size (Nat.le_refl _),q.trans (hb.mono q.size)⟩
 ·rw [decide_eq_false hk]
  have H:=Lib.hid (show prN n=[] from if_neg hk)
  clear hk
  go_wp2_with fail
  go_ret
  rw [H.out]
  exact⟨_,_,_,rfl,OwnL.nil _ _ _ _ _,q⟩
def RdTb (S:Nat→Prop) (w:World) (v:Value) (L:Tb):Prop:=∃ (a:Nat→Option Addr) (c:Nat→Nat),v=.agg #[.slice (a 0) (L 0).length (c 0),.slice (a 1) (L 1).length (c 1),.slice (a 2) (L 2).length (c 2),.slice (a 3) (L 3).length (c 3)]∧∀ i,i<4→RdL Elt.pair S w (.slice (a i) (L i).length (c i)) (L i)
theorem RdTb.below {S:Nat→Prop} {w w':World} {v:Value} {L:Tb}(h:RdTb S w v L)(hb:Below w.heap.size w w'):RdTb S w' v L:=by
 obtain⟨a,c,e,h⟩:=h
 exact⟨a,c,e,fun i hi=>(h i hi).below hb⟩
def eqT(L M:Tb):Prop:=∀ i,i<4→L i=M i
instance (L M:Tb):Decidable (eqT L M):=by unfold eqT;infer_instance
def TbEnd (S:Nat→Prop) (w:World) (L:Tb) (e:Ending) (w':World):Prop:=∃ v,e=.returned v∧RdTb (fun k=>S k∨w.heap.size≤k) w' v L∧Below w.heap.size w w'
theorem RdL.keepT {B:Nat} {R:Nat→Prop} {w w':World} {v:Value} {l:List Pr} (h:RdL Elt.pair R w v l) (hR:∀ k,R k→k≠B+2) (hk:∀ k,k<w.heap.size→k≠B+2→w'.heap[k]?=w.heap[k]?):RdL Elt.pair R w' v l :=
 (h.fit.keep fun k hh=>hk k hh.2 (hR k hh.1)).weak fun _ hh=>hh.1
theorem zla (w : World) {S : Nat → Prop} {v : Value} {T : Sto} (hr : RdSt S w v T) (hf : fitS T) : Calls Tryz.prog 15 #[v] w (TbEnd S w (tabS T)) := by
 obtain ⟨a,m,c,rfl,hx⟩ := hr.fit
 obtain ⟨W0,hW,q0,bn,bz,hsz⟩ := zmj w 29 38 [.slice (a 0) (m 0) (c 0),.slice (a 1) (m 1) (c 1),.slice (a 2) (m 2) (c 2),.slice (a 3) (m 3) (c 3),.slice (a 4) (m 4) (c 4),.slice (a 5) (m 5) (c 5),.slice (a 6) (m 6) (c 6),.slice (a 7) (m 7) (c 7),.slice (a 8) (m 8) (c 8),.slice (a 9) (m 9) (c 9),.slice (a 10) (m 10) (c 10),.slice (a 11) (m 11) (c 11)] [.slice none 0 0,.slice none 0 0,.slice none 0 0,.slice none 0 0]
 replace bn : StB W0 w.heap.size a m c := bn
 go_enter Tryz.func15,Tryz.ntmps15
 go_upto_region 1 with (fail)
 rw [show (w.alloc (.cells #[.slice (a 0) (m 0) (c 0),.slice (a 1) (m 1) (c 1),.slice (a 2) (m 2) (c 2),.slice (a 3) (m 3) (c 3),.slice (a 4) (m 4) (c 4),.slice (a 5) (m 5) (c 5),.slice (a 6) (m 6) (c 6),.slice (a 7) (m 7) (c 7),.slice (a 8) (m 8) (c 8),.slice (a 9) (m 9) (c 9),.slice (a 10) (m 10) (c 10),.slice (a 11) (m 11) (c 11)] 29)).alloc (.cells #[.slice none 0 0,.slice none 0 0,.slice none 0 0,.slice none 0 0] 38) = W0 from hW.symm]
 clear hW
 go_upto_region 2 with (first | (refine zbf (vs := [.slice none 0 0,.slice none 0 0,.slice none 0 0,.slice none 0 0]) (by kernel_rfl) rfl rfl ?_; intro wa hba hBa) | (refine zam (us := [.slice none 0 0,.slice none 0 0,.slice none 0 0,.slice none 0 0]) (by kernel_rfl) rfl rfl rfl rfl rfl rfl hBa rfl ?_; intro W hgw hu) | fail)
 try go_simp
 have hbw := hba.grown hgw hba.size fun k hk => by injection hk with hk; omega
 replace bn : StB W w.heap.size a m c := bn.below hbw bn.lt
 replace bz := bz.below hbw bz.lt
 have q := q0.trans (hbw.mono q0.size)
 have hs3 : w.heap.size + 3 ≤ W.heap.size := by have := hu.lt; omega
 rw [hsz] at hu
 clear hbw hgw hba hBa q0 hsz
 go_wp2
 go_loopw [4] (fun v wr => ∃ (i : Nat) (ua : Nat → Option Addr) (un uc : Nat → Nat),v = .int .i64 (i : Int) ∧ i ≤ 4 ∧ Below w.heap.size w wr ∧ StB wr w.heap.size a m c ∧ BoxN wr (w.heap.size + 1) 38 [.slice none 0 0,.slice none 0 0,.slice none 0 0,.slice none 0 0] ∧ BoxN wr (w.heap.size + 1 + 1) 38 [.slice (ua 0) (un 0) (uc 0),.slice (ua 1) (un 1) (uc 1),.slice (ua 2) (un 2) (uc 2),.slice (ua 3) (un 3) (uc 3)] ∧ w.heap.size + 3 ≤ wr.heap.size ∧ ∀ j,j < i → un j = (prN (T j)).length ∧ RdL Elt.pair (fun k => S k ∧ k < w.heap.size ∨ w.heap.size + 3 ≤ k) wr (.slice (ua j) (un j) (uc j)) (prN (T j))) (fun v _ => 4 - toN v)
 case atStart => exact ⟨0,fun _ => none,fun _ => 0,fun _ => 0,rfl,by omega,q,bn,bz,hu,hs3,fun j hj => absurd hj (Nat.not_lt_zero _)⟩
 case round =>
  clear bn bz hu hs3 q
  obtain ⟨i,ua,un,uc,rfl,hi,hb,bx,bz,hu,hs3,hA⟩ := hrel
  replace hA := Lib.hid hA
  rcases Nat.lt_or_ge i 4 with hl | hl
  ·have dl : decide ((i : Int) < 4) = true := by simp; omega
   obtain ⟨d0,d1,d2,d3,d4,d5,d6,d7,d8,d9,d10,d11⟩ := bx.c12
   rcases (show i = 0 ∨ i = 1 ∨ i = 2 ∨ i = 3 by omega) with rfl | rfl | rfl | rfl
   ·have rN : RdN (fun k => S k ∧ k < w.heap.size) w (.agg #[.slice (a 0) (m 0) (c 0),.slice (a 1) (m 1) (c 1),.slice (a 2) (m 2) (c 2)]) (T 0) := hx 0 (by omega)
    have hpr := zc9 wr (rN.below hb) (by have := (hf 0 (by omega)).1; omega) (fun k hk => Nat.lt_of_lt_of_le hk.2 hb.size)
    go_wp2_with fail
    refine hpr.mono ?_
    rintro e W4 ⟨pa,pk,pc,rfl,hO,hb4⟩
    obtain rfl := hO.len
    have hO4 := zn0 hO
    have hu4 := hu.below hb4 hu.lt
    have bx4 : StB W4 w.heap.size a m c := bx.below hb4 bx.lt
    have bz4 := bz.below hb4 bz.lt
    have hs4 := hb4.size
    have hul := hu.lt
    have hb5 := hb.trans (hb4.mono hb.size)
    clear hpr d0 d1 d2 d3 d4 d5 d6 d7 d8 d9 d10 d11 hu bx bz
    go_wp2_with (first | (refine zc8 (u := .slice pa (prN (T 0)).length pc) rfl rfl rfl (by kernel_rfl) rfl rfl rfl rfl hu4 (by show 0 < 4; omega) ?_; intro W5 hg5 hu5) | fail)
    go_roundw
    case rel =>
     have hs5 := hg5.size
     have hne : ∀ k,k < W4.heap.size → k ≠ w.heap.size + 2 → W5.heap[k]? = W4.heap[k]? := fun k h1 h2 => hg5.block k h1 (fun e => h2 (by injection e))
     refine ⟨1,fun j => if j = 0 then pa else ua j,fun j => if j = 0 then (prN (T 0)).length else un j,fun j => if j = 0 then pc else uc j,by go_num,by omega,hb5.trans ⟨hg5.os,hg5.tape,hg5.output,hs5,fun k hk => hne k (Nat.lt_of_lt_of_le hk hb5.size) (by omega)⟩,bx4.other hg5 (fun e => by injection e with e; omega),bz4.other hg5 (fun e => by injection e with e; omega),hu5,Nat.le_trans hs3 (Nat.le_trans hs4 hs5),fun j hj => ?_⟩
     by_cases e : j = 0
     ·subst e
      exact ⟨rfl,(hO4.weak (S' := fun k => S k ∧ k < w.heap.size ∨ w.heap.size + 3 ≤ k) (fun k hk => hk.imp id fun h => Nat.le_trans hs3 h)).keepT (fun k hk => by omega) hne⟩
     ·obtain ⟨g1,g2⟩ := hA.out j (by omega)
      have e1 : (if j = 0 then pa else ua j) = ua j := if_neg e
      have e2 : (if j = 0 then (prN (T 0)).length else un j) = un j := if_neg e
      have e3 : (if j = 0 then pc else uc j) = uc j := if_neg e
      simp only [e1,e2,e3]
      exact ⟨g1,(g2.below hb4).keepT (fun k hk => by omega) hne⟩
    case measure => simp [toN]
   ·have rN : RdN (fun k => S k ∧ k < w.heap.size) w (.agg #[.slice (a 3) (m 3) (c 3),.slice (a 4) (m 4) (c 4),.slice (a 5) (m 5) (c 5)]) (T 1) := hx 1 (by omega)
    have hpr := zc9 wr (rN.below hb) (by have := (hf 1 (by omega)).1; omega) (fun k hk => Nat.lt_of_lt_of_le hk.2 hb.size)
    go_wp2_with fail
    refine hpr.mono ?_
    rintro e W4 ⟨pa,pk,pc,rfl,hO,hb4⟩
    obtain rfl := hO.len
    have hO4 := zn0 hO
    have hu4 := hu.below hb4 hu.lt
    have bx4 : StB W4 w.heap.size a m c := bx.below hb4 bx.lt
    have bz4 := bz.below hb4 bz.lt
    have hs4 := hb4.size
    have hul := hu.lt
    have hb5 := hb.trans (hb4.mono hb.size)
    clear hpr d0 d1 d2 d3 d4 d5 d6 d7 d8 d9 d10 d11 hu bx bz
    go_wp2_with (first | (refine zc8 (u := .slice pa (prN (T 1)).length pc) rfl rfl rfl (by kernel_rfl) rfl rfl rfl rfl hu4 (by show 1 < 4; omega) ?_; intro W5 hg5 hu5) | fail)
    go_roundw
    case rel =>
     have hs5 := hg5.size
     have hne : ∀ k,k < W4.heap.size → k ≠ w.heap.size + 2 → W5.heap[k]? = W4.heap[k]? := fun k h1 h2 => hg5.block k h1 (fun e => h2 (by injection e))
     refine ⟨2,fun j => if j = 1 then pa else ua j,fun j => if j = 1 then (prN (T 1)).length else un j,fun j => if j = 1 then pc else uc j,by go_num,by omega,hb5.trans ⟨hg5.os,hg5.tape,hg5.output,hs5,fun k hk => hne k (Nat.lt_of_lt_of_le hk hb5.size) (by omega)⟩,bx4.other hg5 (fun e => by injection e with e; omega),bz4.other hg5 (fun e => by injection e with e; omega),hu5,Nat.le_trans hs3 (Nat.le_trans hs4 hs5),fun j hj => ?_⟩
     by_cases e : j = 1
     ·subst e
      exact ⟨rfl,(hO4.weak (S' := fun k => S k ∧ k < w.heap.size ∨ w.heap.size + 3 ≤ k) (fun k hk => hk.imp id fun h => Nat.le_trans hs3 h)).keepT (fun k hk => by omega) hne⟩
     ·obtain ⟨g1,g2⟩ := hA.out j (by omega)
      have e1 : (if j = 1 then pa else ua j) = ua j := if_neg e
      have e2 : (if j = 1 then (prN (T 1)).length else un j) = un j := if_neg e
      have e3 : (if j = 1 then pc else uc j) = uc j := if_neg e
      simp only [e1,e2,e3]
      exact ⟨g1,(g2.below hb4).keepT (fun k hk => by omega) hne⟩
    case measure => simp [toN]
   ·have rN : RdN (fun k => S k ∧ k < w.heap.size) w (.agg #[.slice (a 6) (m 6) (c 6),.slice (a 7) (m 7) (c 7),.slice (a 8) (m 8) (c 8)]) (T 2) := hx 2 (by omega)
    have hpr := zc9 wr (rN.below hb) (by have := (hf 2 (by omega)).1; omega) (fun k hk => Nat.lt_of_lt_of_le hk.2 hb.size)
    go_wp2_with fail
    refine hpr.mono ?_
    rintro e W4 ⟨pa,pk,pc,rfl,hO,hb4⟩
    obtain rfl := hO.len
    have hO4 := zn0 hO
    have hu4 := hu.below hb4 hu.lt
    have bx4 : StB W4 w.heap.size a m c := bx.below hb4 bx.lt
    have bz4 := bz.below hb4 bz.lt
    have hs4 := hb4.size
    have hul := hu.lt
    have hb5 := hb.trans (hb4.mono hb.size)
    clear hpr d0 d1 d2 d3 d4 d5 d6 d7 d8 d9 d10 d11 hu bx bz
    go_wp2_with (first | (refine zc8 (u := .slice pa (prN (T 2)).length pc) rfl rfl rfl (by kernel_rfl) rfl rfl rfl rfl hu4 (by show 2 < 4; omega) ?_; intro W5 hg5 hu5) | fail)
    go_roundw
    case rel =>
     have hs5 := hg5.size
     have hne : ∀ k,k < W4.heap.size → k ≠ w.heap.size + 2 → W5.heap[k]? = W4.heap[k]? := fun k h1 h2 => hg5.block k h1 (fun e => h2 (by injection e))
     refine ⟨3,fun j => if j = 2 then pa else ua j,fun j => if j = 2 then (prN (T 2)).length else un j,fun j => if j = 2 then pc else uc j,by go_num,by omega,hb5.trans ⟨hg5.os,hg5.tape,hg5.output,hs5,fun k hk => hne k (Nat.lt_of_lt_of_le hk hb5.size) (by omega)⟩,bx4.other hg5 (fun e => by injection e with e; omega),bz4.other hg5 (fun e => by injection e with e; omega),hu5,Nat.le_trans hs3 (Nat.le_trans hs4 hs5),fun j hj => ?_⟩
     by_cases e : j = 2
     ·subst e
      exact ⟨rfl,(hO4.weak (S' := fun k => S k ∧ k < w.heap.size ∨ w.heap.size + 3 ≤ k) (fun k hk => hk.imp id fun h => Nat.le_trans hs3 h)).keepT (fun k hk => by omega) hne⟩
     ·obtain ⟨g1,g2⟩ := hA.out j (by omega)
      have e1 : (if j = 2 then pa else ua j) = ua j := if_neg e
      have e2 : (if j = 2 then (prN (T 2)).length else un j) = un j := if_neg e
      have e3 : (if j = 2 then pc else uc j) = uc j := if_neg e
      simp only [e1,e2,e3]
      exact ⟨g1,(g2.below hb4).keepT (fun k hk => by omega) hne⟩
    case measure => simp [toN]
   ·have rN : RdN (fun k => S k ∧ k < w.heap.size) w (.agg #[.slice (a 9) (m 9) (c 9),.slice (a 10) (m 10) (c 10),.slice (a 11) (m 11) (c 11)]) (T 3) := hx 3 (by omega)
    have hpr := zc9 wr (rN.below hb) (by have := (hf 3 (by omega)).1; omega) (fun k hk => Nat.lt_of_lt_of_le hk.2 hb.size)
    go_wp2_with fail
    refine hpr.mono ?_
    rintro e W4 ⟨pa,pk,pc,rfl,hO,hb4⟩
    obtain rfl := hO.len
    have hO4 := zn0 hO
    have hu4 := hu.below hb4 hu.lt
    have bx4 : StB W4 w.heap.size a m c := bx.below hb4 bx.lt
    have bz4 := bz.below hb4 bz.lt
    have hs4 := hb4.size
    have hul := hu.lt
    have hb5 := hb.trans (hb4.mono hb.size)
    clear hpr d0 d1 d2 d3 d4 d5 d6 d7 d8 d9 d10 d11 hu bx bz
    go_wp2_with (first | (refine zc8 (u := .slice pa (prN (T 3)).length pc) rfl rfl rfl (by kernel_rfl) rfl rfl rfl rfl hu4 (by show 3 < 4; omega) ?_; intro W5 hg5 hu5) | fail)
    go_roundw
    case rel =>
     have hs5 := hg5.size
     have hne : ∀ k,k < W4.heap.size → k ≠ w.heap.size + 2 → W5.heap[k]? = W4.heap[k]? := fun k h1 h2 => hg5.block k h1 (fun e => h2 (by injection e))
     refine ⟨4,fun j => if j = 3 then pa else ua j,fun j => if j = 3 then (prN (T 3)).length else un j,fun j => if j = 3 then pc else uc j,by go_num,by omega,hb5.trans ⟨hg5.os,hg5.tape,hg5.output,hs5,fun k hk => hne k (Nat.lt_of_lt_of_le hk hb5.size) (by omega)⟩,bx4.other hg5 (fun e => by injection e with e; omega),bz4.other hg5 (fun e => by injection e with e; omega),hu5,Nat.le_trans hs3 (Nat.le_trans hs4 hs5),fun j hj => ?_⟩
     by_cases e : j = 3
     ·subst e
      exact ⟨rfl,(hO4.weak (S' := fun k => S k ∧ k < w.heap.size ∨ w.heap.size + 3 ≤ k) (fun k hk => hk.imp id fun h => Nat.le_trans hs3 h)).keepT (fun k hk => by omega) hne⟩
     ·obtain ⟨g1,g2⟩ := hA.out j (by omega)
      have e1 : (if j = 3 then pa else ua j) = ua j := if_neg e
      have e2 : (if j = 3 then (prN (T 3)).length else un j) = un j := if_neg e
      have e3 : (if j = 3 then pc else uc j) = uc j := if_neg e
      simp only [e1,e2,e3]
      exact ⟨g1,(g2.below hb4).keepT (fun k hk => by omega) hne⟩
    case measure => simp [toN]
  ·obtain rfl : i = 4 := by omega
   have dl : decide (((4 : Nat) : Int) < 4) = false := rfl
   obtain ⟨y0,y1,y2,y3⟩ := hu.c4
   go_wp2_with (first | (refine zam (us := [.slice (ua 0) (un 0) (uc 0),.slice (ua 1) (un 1) (uc 1),.slice (ua 2) (un 2) (uc 2),.slice (ua 3) (un 3) (uc 3)]) (by kernel_rfl) rfl rfl rfl rfl rfl rfl bz rfl ?_; intro W5 hg5 hz5) | fail)
   have hb5 : Below w.heap.size wr W5 := ⟨hg5.os,hg5.tape,hg5.output,hg5.size,fun k hk => hg5.block k (Nat.lt_of_lt_of_le hk hb.size) (fun e => by injection e with e; omega)⟩
   clear y0 y1 y2 y3
   obtain ⟨y0,y1,y2,y3⟩ := hz5.c4
   refine bodyPost_ret (v := .agg #[.slice (ua 0) (un 0) (uc 0),.slice (ua 1) (un 1) (uc 1),.slice (ua 2) (un 2) (uc 2),.slice (ua 3) (un 3) (uc 3)]) (by simp [results,Tryz.results15,go_sem,loadVar,isAgg,run_underlying Tryz.underlying38,zab (show (Tryz.prog.info? 38).map (·.size) = some 4 by kernel_rfl),loadCellsFrom,Addr.add,y0,y1,y2,y3]) rfl ?_
   have hA9 : ∀ j,j < 4 → un j = (prN (T j)).length ∧ RdL Elt.pair (fun k => S k ∨ w.heap.size ≤ k) W5 (.slice (ua j) (un j) (uc j)) (prN (T j)) := fun j hj => by
    obtain ⟨g1,g2⟩ := hA.out j hj
    exact ⟨g1,(g2.fit.keep fun k hh => hg5.block k hh.2 (fun e => by injection e with e; have := hh.1; omega)).weak fun k hk => by rcases hk.1 with h | h; exact .inl h.1; exact .inr (by omega)⟩
   refine ⟨_,rfl,⟨ua,uc,?_,fun j hj => ?_⟩,hb.trans hb5⟩
   ·rw [(hA9 0 (by omega)).1,(hA9 1 (by omega)).1,(hA9 2 (by omega)).1,(hA9 3 (by omega)).1]
    rfl
   ·have h9 := hA9 j hj
    rw [h9.1] at h9
    exact h9.2
section
variable {o : Oper} {a : Act} {K : Act → World → Prop} {Q : Exit → Act → World → Prop} {w : World}
theorem zp5 {W : World} {b : Nat} {a : Nat → Option Addr} {L : Tb} {c : Nat → Nat} (h : BoxN W b 38 [.slice (a 0) (L 0).length (c 0),.slice (a 1) (L 1).length (c 1),.slice (a 2) (L 2).length (c 2),.slice (a 3) (L 3).length (c 3)]) {j : Nat} (hj : j < 4) : W.cell? ⟨b,j,none⟩ = some (.slice (a j) (L j).length (c j)) :=
 match j,hj with
 | 0,_ => h.cell rfl
 | 1,_ => h.cell rfl
 | 2,_ => h.cell rfl
 | 3,_ => h.cell rfl
theorem wp_ixT {x i : Operand} {b k : Nat} {kk : IntKind} {j : Int} (ho : o.op = .indexAddr 38 x i) (hx : a.eval x = .pointer (some ⟨b,0,none⟩)) (hi : a.eval i = .int kk j) (hj : j = (k : Int)) (hk : k < 4) (h : K (a.put o.dst (.pointer (some ⟨b,k,none⟩))) w) : o.wp Tryz.prog a w K Q := by
 subst hj
 refine zdz ?_ h
 simp only [execOp,ho,hx,hi]
 simp [Instr.indexAt,run_underlying Tryz.underlying38,asIntOf,Instr.sureAddr,zab (show (Tryz.prog.info? 36).map (·.size) = some 1 by kernel_rfl),go_sem,Addr.add,hk]
 try omega
end
theorem zde {T:Sto} (h:zfd T):fitS T:=fun j hj=>zo2 (h j hj)
theorem zlg {T : Sto} (h : okS T) (t : Int) : zdo T t = if 0 ≤ t ∧ t < 4 then tabS T t.toNat else [] := by
 unfold zdo
 by_cases h1 : 0 ≤ t ∧ t < 4
 ·rw [if_pos ⟨h1.1,h1.2,h⟩,if_pos h1]; rfl
 ·rw [if_neg fun h2 => h1 ⟨h2.1,h2.2.1⟩,if_neg h1]
theorem str_ltD {a b:List UInt8}:Op.bytesLess (zbk a).toList (zbk b).toList=ltB a b:=by
 rw [show (zbk a).toList=a by simp [zbk],show (zbk b).toList=b by simp [zbk]];rfl
theorem refIn_any (w:World) {S S2:Nat→Prop} {v:Value} {x:Sp} {A:Option Addr} {n C:Nat} {k:List UInt8} (h:RdSp S w v x) (hk:RdS S2 w (.slice A n C) k) :
  Calls Tryz.prog 37 #[v,.slice A n C] w fun e w'=>e=.returned (.bool (inS x k))∧Below w.heap.size w w':=by
 obtain⟨a,c,a2,c2,rfl,hl,hh,ht⟩:=h
 obtain⟨W,hW⟩:∃ W,W=w.alloc (.cells #[.int .i64 x.table,.slice a x.lo.length c,.slice a2 x.hi.length c2,.bool x.isOpen] 32):=⟨_,rfl⟩
 have q:Below w.heap.size w W:=by rw [hW];exact (Below.refl _ _).alloc (Nat.le_refl _) _
 have bn:BoxN W w.heap.size 32 [.int .i64 x.table,.slice a x.lo.length c,.slice a2 x.hi.length c2,.bool x.isOpen]:=by rw [hW];exact BoxN.new _ _ _
 go_enter Tryz.func37,Tryz.ntmps37
 go_upto_region 1 with (fail)
 rw [← hW]
 clear hW
 have b1:=bn.cell (i:=1) rfl
 have b2:=bn.cell (i:=2) rfl
 have b3:=bn.cell (i:=3) rfl
 have r1:=(hk.below q).rd
 have r2:=(hl.below q).rd
 have r3:=(hh.below q).rd
 cases h1:ltB k x.lo with
 | true =>
  have d1:Op.bytesLess (zbk k).toList (zbk x.lo).toList=true:=str_ltD.trans h1
  have d0:(!Op.bytesLess (zbk k).toList (zbk x.lo).toList)=false:=by rw [d1];rfl
  have H:=Lib.hid (show inS x k=false by unfold inS;simp [h1])
  clear h1
  go_wp2_with (first | (refine wpList_conv (x:=.tmp 5) byP rfl rfl rfl r1 ?_) | (refine wpList_conv (x:=.tmp 8) byP rfl rfl rfl r2 ?_;go_wp2_with fail) | fail)
  go_ret
  exact⟨by rw [H.out];rfl,q⟩
 | false =>
  have d1:Op.bytesLess (zbk k).toList (zbk x.lo).toList=false:=str_ltD.trans h1
  have d0:(!Op.bytesLess (zbk k).toList (zbk x.lo).toList)=true:=by rw [d1];rfl
  cases h2:x.isOpen with
  | true =>
   rw [h2] at b3
   have H:=Lib.hid (show inS x k=true by unfold inS;simp [h1,h2])
   clear h1 h2
   go_wp2_with (first | (refine wpList_conv (x:=.tmp 5) byP rfl rfl rfl r1 ?_) | (refine wpList_conv (x:=.tmp 8) byP rfl rfl rfl r2 ?_;go_wp2_with fail) | fail)
   go_ret
   exact⟨by rw [H.out];rfl,q⟩
  | false =>
   rw [h2] at b3
   cases h3:ltB k x.hi with
   | true =>
    have d3:Op.bytesLess (zbk k).toList (zbk x.hi).toList=true:=str_ltD.trans h3
    have H:=Lib.hid (show inS x k=true by unfold inS;simp [h1,h2,h3])
    clear h1 h2 h3
    go_wp2_with (first | (refine wpList_conv (x:=.tmp 5) byP rfl rfl rfl r1 ?_) | (refine wpList_conv (x:=.tmp 8) byP rfl rfl rfl r2 ?_) | (refine wpList_conv (x:=.tmp 15) byP rfl rfl rfl r1 ?_) | (refine wpList_conv (x:=.tmp 18) byP rfl rfl rfl r3 ?_) | fail)
    go_ret
    exact⟨by rw [H.out];rfl,q⟩
   | false =>
    have d3:Op.bytesLess (zbk k).toList (zbk x.hi).toList=false:=str_ltD.trans h3
    have H:=Lib.hid (show inS x k=false by unfold inS;simp [h1,h2,h3])
    clear h1 h2 h3
    go_wp2_with (first | (refine wpList_conv (x:=.tmp 5) byP rfl rfl rfl r1 ?_) | (refine wpList_conv (x:=.tmp 8) byP rfl rfl rfl r2 ?_) | (refine wpList_conv (x:=.tmp 15) byP rfl rfl rfl r1 ?_) | (refine wpList_conv (x:=.tmp 18) byP rfl rfl rfl r3 ?_) | fail)
    go_ret
    exact⟨by rw [H.out];rfl,q⟩
section
variable {ops : Array Oper} {rest : List Oper} {o : Oper} {a : Act} {Q : Exit → Act → World → Prop} {w : World}
theorem wpList_ixT {x i : Operand} {b : Nat} (k : Nat) {kk : IntKind} {j : Int} (ho : o.op = .indexAddr 38 x i) (hgd : Region.wanted o (yielded ops a.tmps) = true) (hx : a.eval x = .pointer (some ⟨b,0,none⟩)) (hi : a.eval i = .int kk j) (hj : j = (k : Int)) (hk : k < 4) (h : wpList Tryz.prog ops Q rest (a.put o.dst (.pointer (some ⟨b,k,none⟩))) w) : wpList Tryz.prog ops Q (o :: rest) a w :=
 BigFrame.wpList_want hgd fun _ hK => wp_ixT ho hx hi hj hk (hK _ _ h)
end
theorem pickT_yes {L : Tb} {i : Nat} (h : i < 4) : pickT L (i : Int) = L i := by
 unfold pickT
 rw [if_pos ⟨by omega,by omega⟩,Int.toNat_natCast]
theorem pickT_no {L:Tb} {t:Int}(h:¬(0≤t∧t<4)):pickT L t=[]:=if_neg h
theorem refTGet_any (w:World) {S S2:Nat→Prop} {v:Value} {L:Tb} {t s:Int} {A:Option Addr} {n C:Nat} {k:List UInt8} (h:RdTb S w v L) (hk:RdS S2 w (.slice A n C) k):Calls Tryz.prog 17 #[v,.int .i64 t,.slice A n C,.int .i64 s] w (zki w (getP (pickT L t) k s)):=by
 obtain⟨a,c,rfl,hl⟩:=h
 obtain⟨W,hW,q,Ba,hsz⟩:=stBox w 38 [.slice (a 0) (L 0).length (c 0),.slice (a 1) (L 1).length (c 1),.slice (a 2) (L 2).length (c 2),.slice (a 3) (L 3).length (c 3)]
 clear hsz
 go_enter Tryz.func17,Tryz.ntmps17
 go_upto_region 1 with (fail)
 rw [show w.alloc (.cells #[.slice (a 0) (L 0).length (c 0),.slice (a 1) (L 1).length (c 1),.slice (a 2) (L 2).length (c 2),.slice (a 3) (L 3).length (c 3)] 38)=W from hW.symm]
 clear hW
 by_cases ht:0≤t∧t<4
 case neg =>
  have H:=Lib.hid (show getP (pickT L t) k s=none by rw [pickT_no ht];rfl)
  by_cases t0:0≤t
  ·have d0:decide (t<0)=false:=decide_eq_false (by omega)
   have d1:decide (3<t)=true:=decide_eq_true (by omega)
   clear ht t0
   go_wp2_with fail
   go_ret2
   rw [H.out]
   exact⟨none,0,rfl,RdS.nil _ _,q⟩
  ·have d0:decide (t<0)=true:=decide_eq_true (by omega)
   clear ht t0
   go_wp2_with fail
   go_ret2
   rw [H.out]
   exact⟨none,0,rfl,RdS.nil _ _,q⟩
 obtain⟨i,hi,rfl⟩:∃ i:Nat,i<4∧t=(i:Int):=⟨t.toNat,by omega,by omega⟩
 have d0:decide ((i:Int)<0)=false:=decide_eq_false (by omega)
 have d1:decide ((3:Int)<(i:Int))=false:=decide_eq_false (by omega)
 have hP:=Lib.hid (pickT_yes (L:=L) hi)
 have x0:=zp5 Ba hi
 have hli:=(hl i hi).below q
 obtain⟨li,hLi⟩:∃ z,z=L i:=⟨_,rfl⟩
 obtain⟨ai,hai⟩:∃ z,z=a i:=⟨_,rfl⟩
 obtain⟨ci,hci⟩:∃ z,z=c i:=⟨_,rfl⟩
 rw [← hLi,← hai,← hci] at x0 hli
 rw [← hLi] at hP
 clear hLi hai hci hl ht
 go_wp2_with (first | (refine wpList_ixT i rfl rfl rfl rfl rfl hi ?_) | fail)
 refine (refFindP_any W hli (hk.below q)).mono ?_
 rintro e w1⟨⟨r,rfl,hF⟩,hb⟩
 replace hli:=hli.below hb
 have x1:=((hb.cell (p:=⟨w.heap.size,i,none⟩) Ba.lt).trans x0)
 replace q:=q.trans (hb.mono q.size)
 clear x0 hb
 rcases hF with⟨rfl,hF⟩|⟨j,hj,rfl,hkj,hF⟩
 ·have H:=Lib.hid (show getP (pickT L (i:Int)) k s=none by rw [hP.out];unfold getP;rw [hF];rfl)
  have d2:decide ((-1:Int)<0)=true:=by decide
  clear hF
  go_wp2_with fail
  go_ret2
  rw [H.out]
  exact⟨none,0,rfl,RdS.nil _ _,q⟩
 ·have H:=Lib.hid (show getP (pickT L (i:Int)) k s=zcd li[j].chain s by rw [hP.out];unfold getP;rw [hF];rfl)
  have d2:decide ((j:Int)<0)=false:=decide_eq_false (by omega)
  have hlm:li.length≤9223372036854775807:=by obtain⟨_,hc,hm⟩:=hli.len;unfold maxLen at hm;omega
  obtain⟨b,off,A1,C1,A2,C2,rfl,g0,g1,_,hcc⟩:=hli.pr j hj
  have hrd:=refReadV_any w1 hcc s
  clear hF hkj
  go_wp2_with (first | (refine wpList_ixT i rfl rfl rfl rfl rfl hi ?_) | fail)
  refine hrd.mono ?_
  rintro e w2⟨ra,rc,rfl,hrr,hb2⟩
  go_wp2_with fail
  go_ret2
  rw [H.out]
  exact⟨ra,rc,rfl,hrr.weak fun k hk=>⟨Nat.le_trans q.size hk.1,hk.2⟩,q.trans (hb2.mono q.size)⟩
theorem refTNewer_any (w : World) {S S2 : Nat → Prop} {v vx : Value} {L : Tb} {x : Sp} {s : Int} (h : RdTb S w v L) (hx : RdSp S2 w vx x) : Calls Tryz.prog 23 #[v,vx,.int .i64 s] w fun e w' => e = .returned (.bool (newP (pickT L x.table) x s)) ∧ Below w.heap.size w w' := by
 obtain ⟨a,c,rfl,hl⟩ := h
 have hx0 := hx
 obtain ⟨xl,xc,xh,xd,rfl,_,_,_⟩ := hx
 obtain ⟨W,hW,q,Ba,Bx,hsz⟩ := zmj w 38 32 [.slice (a 0) (L 0).length (c 0),.slice (a 1) (L 1).length (c 1),.slice (a 2) (L 2).length (c 2),.slice (a 3) (L 3).length (c 3)] [.int .i64 x.table,.slice xl x.lo.length xc,.slice xh x.hi.length xd,.bool x.isOpen]
 clear hsz
 go_enter Tryz.func23,Tryz.ntmps23
 go_upto_region 1 with (fail)
 rw [show (w.alloc (.cells #[.slice (a 0) (L 0).length (c 0),.slice (a 1) (L 1).length (c 1),.slice (a 2) (L 2).length (c 2),.slice (a 3) (L 3).length (c 3)] 38)).alloc (.cells #[.int .i64 x.table,.slice xl x.lo.length xc,.slice xh x.hi.length xd,.bool x.isOpen] 32) = W from hW.symm]
 clear hW
 by_cases ht : 0 ≤ x.table ∧ x.table < 4
 case neg =>
  obtain ⟨b0,b1,b2,b3⟩ := Bx.c4
  by_cases t0 : 0 ≤ x.table
  ·have d0 : decide (x.table < 0) = false := decide_eq_false (by omega)
   have d1 : decide (3 < x.table) = true := decide_eq_true (by omega)
   have H := Lib.hid (pickT_no (L := L) ht)
   clear ht t0
   go_wp2_with fail
   go_ret
   exact ⟨by rw [H.out]; rfl,q⟩
  ·have d0 : decide (x.table < 0) = true := decide_eq_true (by omega)
   have H := Lib.hid (pickT_no (L := L) ht)
   clear ht t0
   go_wp2_with fail
   go_ret
   exact ⟨by rw [H.out]; rfl,q⟩
 obtain ⟨i,hi,hti⟩ : ∃ i : Nat,i < 4 ∧ x.table = (i : Int) := ⟨x.table.toNat,by omega,by omega⟩
 have d0 : decide (x.table < 0) = false := decide_eq_false (by omega)
 have d1 : decide (3 < x.table) = false := decide_eq_false (by omega)
 have hP := pickT_yes (L := L) hi
 rw [← hti] at hP
 have x0 := zp5 Ba hi
 have hl0 := hl i hi
 obtain ⟨li,hLi⟩ : ∃ z,z = L i := ⟨_,rfl⟩
 obtain ⟨ai,hai⟩ : ∃ z,z = a i := ⟨_,rfl⟩
 obtain ⟨ci,hci⟩ : ∃ z,z = c i := ⟨_,rfl⟩
 rw [← hLi,← hai,← hci] at x0 hl0
 rw [← hLi] at hP
 have hlm : li.length ≤ 9223372036854775807 := by obtain ⟨_,hc,hm⟩ := hl0.len; unfold maxLen at hm; omega
 replace hP := Lib.hid hP
 replace hti := Lib.hid hti
 clear hLi hai hci hl ht
 have eI : ∀ args w,(callFunc 37 args).run Tryz.prog w = .ok (.enter 37 args) w := enters_of Tryz.func37 (by kernel_rfl) rfl
 obtain ⟨b0,b1,b2,b3⟩ := Bx.c4
 clear b1 b2 b3
 go_upto_region 4 with (fail)
 clear b0
 go_loopw [7] (fun iv wr => ∃ m : Nat,iv = .int .i64 (m : Int) ∧ m ≤ li.length ∧ newP (li.take m) x s = false ∧ Below W.heap.size W wr) (fun iv _ => li.length - (intOf iv).toNat)
 case atStart => exact ⟨0,rfl,Nat.zero_le _,rfl,Below.refl _ _⟩
 case round =>
 obtain ⟨m,rfl,hm,hno,q2⟩ := hrel
 have Bx2 := Bx.below q2 Bx.lt
 obtain ⟨b0,b1,b2,b3⟩ := Bx2.c4
 have x1 := (q2.cell (p := ⟨w.heap.size,i,none⟩) Ba.lt).trans x0
 have hx2 := (hx0.below q).below q2
 clear b1 b2 b3
 rcases Nat.lt_or_ge m li.length with hlt | hge
 ·have dl : decide ((m : Int) < (li.length : Int)) = true := decide_eq_true (by omega)
  obtain ⟨b,off,A1,C1,A2,C2,rfl,g0,g1,hky,hcc⟩ := ((hl0.below q).below q2).pr m hlt
  have hst := Lib.hid (show newP (li.take (m + 1)) x s = (inS x li[m].key && zcr li[m].chain s) by
   rw [List.take_succ_eq_append_getElem hlt]
   unfold newP at hno ⊢
   rw [List.any_append,hno]
   simp)
  have hal := Lib.hid (show (inS x li[m].key && zcr li[m].chain s) = true → newP (pickT L x.table) x s = true from fun h => by
   rw [hP.out]
   unfold newP
   exact List.any_eq_true.2 ⟨_,List.getElem_mem hlt,h⟩)
  clear hno
  go_upto_region 6 with (first | (refine wpList_ixT i rfl rfl rfl rfl hti.out hi ?_) | fail)
  refine zbu (by kernel_rfl) (by kernel_rfl) [sgEq (.agg #[.int .i64 x.table,.slice xl x.lo.length xc,.slice xh x.hi.length xd,.bool x.isOpen]),sgEq (.pointer (some ⟨w.heap.size + 1,0,none⟩)),sgEq (.int .i64 x.table),sgEq (.pointer (some ⟨w.heap.size,i,none⟩)),sgEq (.slice (some ⟨b,off,none⟩) li.length ci),sgEq (.int .i64 (m : Int)),sgEq (.pointer (some ⟨b,off + m * 2,none⟩)),sgEq (.pointer (some ⟨b,off + m * 2,none⟩)),sgEq (.slice A1 li[m].key.length C1),sgEq (.bool (inS x li[m].key)),sgEq (.bool (inS x li[m].key))]
   ⟨?o0,?o1,?o2,?o3,?o4,?o5,?o6,?o7,?o8,?o9,?o10,trivial⟩ ?fin
  case o0 =>
   refine GdOp.plain rfl (fun A vs w' hF hT hb hd => ?_)
   have e1 : A.eval (.tmp 4) = .pointer (some ⟨w.heap.size + 1,0,none⟩) := hF 4 rfl
   exact zcf (us := [.int .i64 x.table,.slice xl x.lo.length xc,.slice xh x.hi.length xd,.bool x.isOpen]) spQ7 rfl e1 (fun j v hj => by rw [Nat.zero_add]; exact (Bx2.below hb Bx2.lt).cell hj) ⟨_,rfl,rfl,Below.refl _ _⟩
  case o1 =>
   refine GdOp.plain rfl (fun A vs w' hF hT hb hd => ?_)
   have e1 : A.eval (.tmp 4) = .pointer (some ⟨w.heap.size + 1,0,none⟩) := hF 4 rfl
   exact zai spS7 rfl (e1) (by omega) ⟨_,rfl,rfl,Below.refl _ _⟩
  case o2 =>
   refine GdOp.plain rfl (fun A vs w' hF hT hb hd => ?_)
   have e1 : A.eval (.tmp 28) = .pointer (some ⟨w.heap.size + 1,0,none⟩) := (hT 28 1 (by simp) rfl).trans (hd ⟨1,.data⟩ (by simp) rfl)
   exact zfm (k := .i64) rfl e1 (by kernel_rfl) (((hb.cell (p := ⟨_,_,none⟩) (zaj b0)).trans b0)) ⟨_,rfl,rfl,Below.refl _ _⟩
  case o3 =>
   refine GdOp.plain rfl (fun A vs w' hF hT hb hd => ?_)
   have e1 : A.eval (.tmp 3) = .pointer (some ⟨w.heap.size,0,none⟩) := hF 3 rfl
   have e2 : A.eval (.tmp 29) = .int .i64 x.table := (hT 29 2 (by simp) rfl).trans (hd ⟨2,.data⟩ (by simp) rfl)
   exact wp_ixT rfl e1 e2 hti.out hi ⟨_,rfl,rfl,Below.refl _ _⟩
  case o4 =>
   refine GdOp.plain rfl (fun A vs w' hF hT hb hd => ?_)
   have e1 : A.eval (.tmp 30) = .pointer (some ⟨w.heap.size,i,none⟩) := (hT 30 3 (by simp) rfl).trans (hd ⟨3,.data⟩ (by simp) rfl)
   exact zad (e := 77) rfl e1 (by kernel_rfl) (((hb.cell (p := ⟨_,_,none⟩) (zaj x1)).trans x1)) ⟨_,rfl,rfl,Below.refl _ _⟩
  case o5 =>
   refine GdOp.plain rfl (fun A vs w' hF hT hb hd => ?_)
   have e1 : A.eval (.tmp 7) = .int .i64 (m : Int) := hF 7 rfl
   exact BigFrame.wp_move _ rfl ⟨_,rfl,e1,Below.refl _ _⟩
  case o6 =>
   refine GdOp.plain rfl (fun A vs w' hF hT hb hd => ?_)
   have e1 : A.eval (.tmp 31) = .slice (some ⟨b,off,none⟩) li.length ci := (hT 31 4 (by simp) rfl).trans (hd ⟨4,.data⟩ (by simp) rfl)
   have e2 : A.eval (.tmp 32) = .int .i64 (m : Int) := (hT 32 5 (by simp) rfl).trans (hd ⟨5,.data⟩ (by simp) rfl)
   exact zc1 (e := 77) rfl (by kernel_rfl) (by kernel_rfl) (e1) (e2) rfl (by omega) ⟨_,rfl,rfl,Below.refl _ _⟩
  case o7 =>
   refine GdOp.plain rfl (fun A vs w' hF hT hb hd => ?_)
   have e1 : A.eval (.tmp 33) = .pointer (some ⟨b,off + m * 2,none⟩) := (hT 33 6 (by simp) rfl).trans (hd ⟨6,.data⟩ (by simp) rfl)
   exact zai prS rfl (e1) (by omega) ⟨_,rfl,rfl,Below.refl _ _⟩
  case o8 =>
   refine GdOp.plain rfl (fun A vs w' hF hT hb hd => ?_)
   have e1 : A.eval (.tmp 34) = .pointer (some ⟨b,off + m * 2,none⟩) := (hT 34 7 (by simp) rfl).trans (hd ⟨7,.data⟩ (by simp) rfl)
   exact zad (e := 5) rfl e1 (by kernel_rfl) (((hb.cell (p := ⟨_,_,none⟩) (zaj g0)).trans g0)) ⟨_,rfl,rfl,Below.refl _ _⟩
  case o9 =>
   refine GdOp.plain rfl (fun A vs w' hF hT hb hd => ?_)
   have e1 : A.eval (.tmp 27) = .agg #[.int .i64 x.table,.slice xl x.lo.length xc,.slice xh x.hi.length xd,.bool x.isOpen] := (hT 27 0 (by simp) rfl).trans (hd ⟨0,.data⟩ (by simp) rfl)
   have e2 : A.eval (.tmp 35) = .slice A1 li[m].key.length C1 := (hT 35 8 (by simp) rfl).trans (hd ⟨8,.data⟩ (by simp) rfl)
   refine zak rfl eI (args := #[.agg #[.int .i64 x.table,.slice xl x.lo.length xc,.slice xh x.hi.length xd,.bool x.isOpen],.slice A1 li[m].key.length C1]) (by simp only [List.map_toArray,List.map_cons,List.map_nil,e1,e2]) ((refIn_any w' (hx2.below hb) (hky.below hb)).mono ?_)
   rintro e w2 ⟨rfl,hb2⟩
   exact ⟨_,rfl,_,rfl,rfl,hb2⟩
  case o10 =>
   refine GdOp.plain rfl (fun A vs w' hF hT hb hd => ?_)
   have e1 : A.eval (.tmp 36) = .bool (inS x li[m].key) := (hT 36 9 (by simp) rfl).trans (hd ⟨9,.data⟩ (by simp) rfl)
   exact BigFrame.wp_assign _ rfl ⟨_,rfl,e1,Below.refl _ _⟩
  case fin =>
   intro vs9 W9 hb9 hG9
   have e0 : vs9 0 = .agg #[.int .i64 x.table,.slice xl x.lo.length xc,.slice xh x.hi.length xd,.bool x.isOpen] := hG9 0 (by decide)
   have e1 : vs9 1 = .pointer (some ⟨w.heap.size + 1,0,none⟩) := hG9 1 (by decide)
   have e2 : vs9 2 = .int .i64 x.table := hG9 2 (by decide)
   have e3 : vs9 3 = .pointer (some ⟨w.heap.size,i,none⟩) := hG9 3 (by decide)
   have e4 : vs9 4 = .slice (some ⟨b,off,none⟩) li.length ci := hG9 4 (by decide)
   have e5 : vs9 5 = .int .i64 (m : Int) := hG9 5 (by decide)
   have e6 : vs9 6 = .pointer (some ⟨b,off + m * 2,none⟩) := hG9 6 (by decide)
   have e7 : vs9 7 = .pointer (some ⟨b,off + m * 2,none⟩) := hG9 7 (by decide)
   have e8 : vs9 8 = .slice A1 li[m].key.length C1 := hG9 8 (by decide)
   have e9 : vs9 9 = .bool (inS x li[m].key) := hG9 9 (by decide)
   have e10 : vs9 10 = .bool (inS x li[m].key) := hG9 10 (by decide)
   simp only [zae,e0,e1,e2,e3,e4,e5,e6,e7,e8,e9,e10]
   clear hG9 e0 e1 e2 e3 e4 e5 e6 e7 e8 e9 e10
   go_simp
   have x2 := (hb9.cell (p := ⟨w.heap.size,i,none⟩) (zaj x1)).trans x1
   have b9 := (hb9.cell (p := ⟨_,_,none⟩) (zaj b0)).trans b0
   have g9 := (hb9.cell (p := ⟨_,_,none⟩) (zaj g1)).trans g1
   have hnw := refNewer_any W9 (hcc.below hb9) s
   replace q2 := q2.trans (hb9.mono q2.size)
   obtain ⟨z1,hz1⟩ : ∃ z,z = inS x li[m].key := ⟨_,rfl⟩
   obtain ⟨z2,hz2⟩ : ∃ z,z = zcr li[m].chain s := ⟨_,rfl⟩
   rw [← hz1,← hz2] at hst hal
   rw [← hz2] at hnw
   rw [← hz1]
   clear hz1 hz2 x1 b0 g0 g1 hky hcc hb9 hx2 Bx2
   go_upto_region 7 with (fail)
   go_wp2_with (first | (refine wpList_ixT i rfl rfl rfl rfl hti.out hi ?_) | fail)
   refine hnw.mono ?_
   rintro e w2 ⟨rfl,hb2⟩
   replace q2 := q2.trans (hb2.mono q2.size)
   clear x2 b9 g9 hnw hb2
   cases z1 with
   | false =>
    replace hst := Lib.hid (hst.out.trans rfl)
    clear hal
    go_wp2_with fail
    go_roundw
    case rel => exact ⟨m + 1,by go_num,by omega,hst.out,q2⟩
    case measure => simp [intOf]; omega
   | true =>
    cases z2 with
    | false =>
     replace hst := Lib.hid (hst.out.trans rfl)
     clear hal
     go_wp2_with fail
     go_roundw
     case rel => exact ⟨m + 1,by go_num,by omega,hst.out,q2⟩
     case measure => simp [intOf]; omega
    | true =>
     replace hal := Lib.hid (hal.out rfl)
     clear hst
     go_wp2_with fail
     go_ret
     exact ⟨by first | (rw [hal.out]; done) | (rw [hal.out]; rfl),q.trans (q2.mono q.size)⟩
 ·obtain rfl : m = li.length := by omega
  have dl : decide ((li.length : Int) < (li.length : Int)) = false := decide_eq_false (by omega)
  rw [List.take_length] at hno
  have H := Lib.hid (show newP (pickT L x.table) x s = false by rw [hP.out]; exact hno)
  clear hno
  go_wp2_with (first | (refine wpList_ixT i rfl rfl rfl rfl hti.out hi ?_) | fail)
  go_ret
  exact ⟨by first | (rw [H.out]; done) | (rw [H.out]; rfl),q.trans (q2.mono q.size)⟩
def ScAny (w:World) (l:List Pq) (e:Ending) (w':World):Prop:=∃ a c,e=.returned (.slice a l.length c)∧RdL Elt.pq (fun _=>True) w' (.slice a l.length c) l∧Below w.heap.size w w'
theorem refTScan_any (w : World) {S S2 : Nat → Prop} {v vx : Value} {L : Tb} {x : Sp} {s : Int} (h : RdTb S w v L) (hx : RdSp S2 w vx x) (hz : (pickT L x.table).length ≤ 1000000) : Calls Tryz.prog 20 #[v,vx,.int .i64 s] w (ScAny w (zgd (pickT L x.table) x s)) := by
 obtain ⟨a,c,rfl,hl⟩ := h
 have hx0 := hx
 obtain ⟨xl,xc,xh,xd,rfl,_,_,_⟩ := hx
 obtain ⟨W,hW,q,Ba,Bx,hsz⟩ := zmj w 38 32 [.slice (a 0) (L 0).length (c 0),.slice (a 1) (L 1).length (c 1),.slice (a 2) (L 2).length (c 2),.slice (a 3) (L 3).length (c 3)] [.int .i64 x.table,.slice xl x.lo.length xc,.slice xh x.hi.length xd,.bool x.isOpen]
 clear hsz
 go_enter Tryz.func20,Tryz.ntmps20
 go_upto_region 1 with (fail)
 rw [show (w.alloc (.cells #[.slice (a 0) (L 0).length (c 0),.slice (a 1) (L 1).length (c 1),.slice (a 2) (L 2).length (c 2),.slice (a 3) (L 3).length (c 3)] 38)).alloc (.cells #[.int .i64 x.table,.slice xl x.lo.length xc,.slice xh x.hi.length xd,.bool x.isOpen] 32) = W from hW.symm]
 clear hW
 by_cases ht : 0 ≤ x.table ∧ x.table < 4
 case neg =>
  obtain ⟨b0,b1,b2,b3⟩ := Bx.c4
  by_cases t0 : 0 ≤ x.table
  ·have d0 : decide (x.table < 0) = false := decide_eq_false (by omega)
   have d1 : decide (3 < x.table) = true := decide_eq_true (by omega)
   have H := Lib.hid (pickT_no (L := L) ht)
   clear ht t0
   go_wp2_with fail
   go_ret
   rw [show zgd (pickT L x.table) x s = [] by rw [H.out]; rfl]
   exact ⟨none,0,rfl,RdL.nil _ _ _,q⟩
  ·have d0 : decide (x.table < 0) = true := decide_eq_true (by omega)
   have H := Lib.hid (pickT_no (L := L) ht)
   clear ht t0
   go_wp2_with fail
   go_ret
   rw [show zgd (pickT L x.table) x s = [] by rw [H.out]; rfl]
   exact ⟨none,0,rfl,RdL.nil _ _ _,q⟩
 obtain ⟨i,hi,hti⟩ : ∃ i : Nat,i < 4 ∧ x.table = (i : Int) := ⟨x.table.toNat,by omega,by omega⟩
 have d0 : decide (x.table < 0) = false := decide_eq_false (by omega)
 have d1 : decide (3 < x.table) = false := decide_eq_false (by omega)
 have hP := pickT_yes (L := L) hi
 rw [← hti] at hP
 have x0 := zp5 Ba hi
 have hl0 := hl i hi
 obtain ⟨li,hLi⟩ : ∃ z,z = L i := ⟨_,rfl⟩
 obtain ⟨ai,hai⟩ : ∃ z,z = a i := ⟨_,rfl⟩
 obtain ⟨ci,hci⟩ : ∃ z,z = c i := ⟨_,rfl⟩
 rw [← hLi,← hai,← hci] at x0 hl0
 rw [← hLi] at hP
 have hlm : li.length ≤ 9223372036854775807 := by obtain ⟨_,hc,hm⟩ := hl0.len; unfold maxLen at hm; omega
 replace hP := Lib.hid hP
 replace hti := Lib.hid hti
 clear hLi hai hci hl ht
 have hl1 : RdL Elt.pair (· < w.heap.size) w _ _ := hl0.fit.weak fun _ h => h.2
 have hl60 : li.length ≤ 1000000 := by rw [← hP.out]; exact hz
 have hq0 := q.size
 obtain ⟨b0,b1,b2,b3⟩ := Bx.c4
 clear b1 b2 b3 hz
 go_upto_region 5 with (fail)
 clear b0
 go_loopw [7,8] (fun ov iv wr => ∃ m : Nat,iv = .int .i64 (m : Int) ∧ m ≤ li.length ∧ OwnL Elt.pq 60 W.heap.size 0 wr ov (zgd (li.take m) x s) ∧ Below W.heap.size W wr) (fun _ iv _ => li.length - (intOf iv).toNat)
 case atStart => exact ⟨0,rfl,Nat.zero_le _,OwnL.nil _ _ _ _ _,Below.refl _ _⟩
 case round =>
 obtain ⟨m,rfl,hm,hO,q2⟩ := hrel
 have Bx2 := Bx.below q2 Bx.lt
 obtain ⟨b0,b1,b2,b3⟩ := Bx2.c4
 have x1 := (q2.cell (p := ⟨w.heap.size,i,none⟩) Ba.lt).trans x0
 obtain ⟨ao,co,rfl⟩ := hO.shape
 obtain ⟨xs,hxs⟩ : ∃ z,z = zgd (li.take m) x s := ⟨_,rfl⟩
 rw [← hxs] at hO
 rw [← hxs]
 have hrr : ∀ k,Value.ownBlock (.slice ao xs.length co) = some k → W.heap.size ≤ k ∧ k < wr.heap.size := fun k hk => hO.block_lt k hk
 have hxl : xs.length ≤ m := by rw [hxs]; exact Nat.le_trans (List.length_filterMap_le _ _) (by rw [List.length_take]; omega)
 rcases Nat.lt_or_ge m li.length with hlt | hge
 ·have dl : decide ((m : Int) < (li.length : Int)) = true := decide_eq_true (by omega)
  have hq2 := q2.size
  obtain ⟨b,off,A1,C1,A2,C2,rfl,g0,g1,hky,hcc⟩ := ((hl1.below q).below q2).pr m hlt
  obtain ⟨y,hy⟩ : ∃ z,z = li[m] := ⟨_,rfl⟩
  have hst : zgd (li.take (m + 1)) x s = xs ++ (zmn x s y).toList := by
   rw [List.take_succ_eq_append_getElem hlt,hxs,hy]
   unfold zgd
   rw [List.filterMap_append,List.filterMap_cons,List.filterMap_nil]
   cases zmn x s li[m] <;> rfl
  rw [← hy] at g0 g1 hky hcc
  replace hst := Lib.hid hst
  clear hy hxs
  go_upto_region 8 with (first | (refine wpList_ixT i rfl rfl rfl rfl hti.out hi ?_) | (refine zbf (vs := [.slice none 0 0,.slice none 0 0]) (by kernel_rfl) rfl rfl ?_; intro wa hba hBa) | (refine zam (us := [.slice A1 y.key.length C1,.slice A2 y.chain.length C2]) (by kernel_rfl) rfl rfl rfl rfl rfl rfl hBa rfl ?_; intro w3 hgw Bp) | fail)
  try go_simp
  have hbw := hba.grown hgw hba.size fun k hk => by injection hk with hk; omega
  have q3 := q2.trans (hbw.mono q2.size)
  replace hky := hky.below hbw
  replace hcc := hcc.below hbw
  replace hO := hO.below hbw
  have hs3 := hbw.size
  clear b0 b1 b2 b3 x1 g0 g1 hba hgw hBa hbw Bx2
  obtain ⟨g,hg⟩ : ∃ g,g = zcd y.chain s := ⟨_,rfl⟩
  have p1 := Bp.cell (i := 1) rfl
  have hrd : Calls Tryz.prog 35 #[.slice A2 y.chain.length C2,.int .i64 s] w3 (zki w3 g) := by rw [hg]; exact refReadV_any w3 hcc s
  replace hg := Lib.hid hg
  go_wp2_with fail
  refine hrd.mono ?_
  rintro e w4 ⟨ra,rc,rfl,hrr4,hb4⟩
  have q4 := q3.trans (hb4.mono q3.size)
  replace hky := hky.below hb4
  replace hO := hO.below hb4
  have Bp4 := Bp.below hb4 Bp.lt
  have hs4 := hb4.size
  clear hrd hcc Bp p1
  have hin := refIn_any w4 ((hx0.below q).below q4) hky
  obtain ⟨z,hz⟩ : ∃ z,z = inS x y.key := ⟨_,rfl⟩
  rw [← hz] at hin
  replace hz := Lib.hid hz
  have p0 := Bp4.cell (i := 0) rfl
  obtain ⟨b0,b1,b2,b3⟩ := (Bx.below q4 Bx.lt).c4
  go_wp2_with fail
  refine hin.mono ?_
  rintro e w5 ⟨rfl,hb5⟩
  have q5 := q4.trans (hb5.mono q4.size)
  replace hky := hky.below hb5
  replace hO := hO.below hb5
  replace hrr4 := hrr4.below hb5
  have Bp5 := Bp4.below hb5 Bp4.lt
  have hs5 := hb5.size
  clear hin p0 b0 b1 b2 b3 Bp4
  have p0 := Bp5.cell (i := 0) rfl
  have p1 := Bp5.cell (i := 1) rfl
  have hsc : zmn x s y = if z = true then g.map fun v => ⟨y.key,v⟩ else none := by rw [hz.out,hg.out]; rfl
  replace hsc := Lib.hid hsc
  cases g with
  | none =>
   have hnx := Lib.hid (show zgd (li.take (m + 1)) x s = xs by rw [hst.out,hsc.out]; cases z <;> simp)
   clear hst hsc hz hg
   go_wp2_with fail
   go_roundw
   case rel => exact ⟨m + 1,by go_num,by omega,by rw [hnx.out]; exact hO,q5⟩
   case measure => simp [intOf]; omega
  | some vv =>
   cases z with
   | false =>
    have hnx := Lib.hid (show zgd (li.take (m + 1)) x s = xs by rw [hst.out,hsc.out]; simp)
    clear hst hsc hz hg
    go_wp2_with fail
    go_roundw
    case rel => exact ⟨m + 1,by go_num,by omega,by rw [hnx.out]; exact hO,q5⟩
    case measure => simp [intOf]; omega
   | true =>
    have hnx := Lib.hid (show zgd (li.take (m + 1)) x s = xs ++ [⟨y.key,vv⟩] by rw [hst.out,hsc.out]; rfl)
    have hR : Elt.pq.R (fun k => k < w.heap.size ∨ w3.heap.size ≤ k ∧ k < w4.heap.size) w5 ⟨y.key,vv⟩ [.slice A1 y.key.length C1,.slice ra vv.length rc] := ⟨_,_,rfl,hky.weak fun _ h => .inl h,hrr4.weak fun _ h => .inr h⟩
    clear hst hsc hz hg
    go_wp2_with (first
     | (refine zdj pqP rfl rfl rfl (us := [.slice A1 y.key.length C1,.slice ra vv.length rc]) rfl rfl (by decide) (by decide) ?_; intro w6 hrow hb6)
     | (refine wpList_row7 (E := Elt.pq) (n := xs.length + 1) pqP rfl rfl rfl rfl (hO.below hb6) hrow (Elt.below hR hb6) (fun k hk => ⟨Nat.zero_le _,by have := hb6.size; omega,fun e => by have := hrr k e.symm; omega⟩) (by have := hb6.size; omega) (by omega) rfl ?_; intro ad9 c9 w7 hO9 hg7)
     | fail)
    go_roundw
    case rel => exact ⟨m + 1,by go_num,by omega,by rw [hnx.out]; exact hO9,(q5.trans (hb6.mono q5.size)).grown hg7 (by have := hb6.size; omega) fun k hk => (hrr k hk).1⟩
    case measure => simp [intOf]; omega
 ·obtain rfl : m = li.length := by omega
  have dl : decide ((li.length : Int) < (li.length : Int)) = false := decide_eq_false (by omega)
  rw [List.take_length] at hxs
  have H := Lib.hid (show zgd (pickT L x.table) x s = xs by rw [hP.out]; exact hxs.symm)
  clear hxs
  go_wp2_with (first | (refine wpList_ixT i rfl rfl rfl rfl hti.out hi ?_) | fail)
  go_ret
  rw [H.out]
  exact ⟨_,_,rfl,hO.rdL.weak fun _ _ => trivial,q.trans (q2.mono q.size)⟩
end Go.Proofs.YtlpfhgdnmjkngaaGreat
