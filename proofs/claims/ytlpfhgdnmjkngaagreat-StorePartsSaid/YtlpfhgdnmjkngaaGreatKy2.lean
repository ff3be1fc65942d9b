/-
  TEXTS OF ONE PROOF, merged: StU.
-/
import Derived.Test.YtlpfhgdnmjkngaaGreatKv1
import Derived.Test.YtlpfhgdnmjkngaaGreatKv2
import Derived.Test.YtlpfhgdnmjkngaaGreatKv3
import Derived.Test.YtlpfhgdnmjkngaaGreatKv4
import Derived.Test.YtlpfhgdnmjkngaaGreatKv5
import Derived.Test.YtlpfhgdnmjkngaaGreatKv6
import Derived.Test.YtlpfhgdnmjkngaaGreatKv7
import Derived.Test.YtlpfhgdnmjkngaaGreatKv8
import Derived.Test.YtlpfhgdnmjkngaaGreatKv9
import Derived.Test.YtlpfhgdnmjkngaaGreatKv10
import Derived.Test.YtlpfhgdnmjkngaaGreatKv11
import Derived.Test.YtlpfhgdnmjkngaaGreatKv12
import Derived.Test.YtlpfhgdnmjkngaaGreatKv13
import Derived.Test.YtlpfhgdnmjkngaaGreatKv14
import Derived.Test.YtlpfhgdnmjkngaaGreatKv15
import Derived.Test.YtlpfhgdnmjkngaaGreatKy1
namespace Go.Proofs.YtlpfhgdnmjkngaaGreat
open Go.RowKit Go.Shelf
set_option maxRecDepth 100000
set_option maxHeartbeats 32000000
theorem zn0 {S0 : Nat → Prop} {Te : TypeId} {base : Nat} {w : World} {v : Value} {l : List Pr} (h : OwnL (Elt.pin Elt.pair S0) Te base 0 w v l) : RdL Elt.pair (fun j => S0 j ∨ base ≤ j) w v l := by
 obtain ⟨vs,h1,h2⟩ := h
 have hx := h1
 rcases h1.2 with ⟨rfl,h0⟩ | ⟨g,cap,cur,rfl,hb,hg,hn,hc,hcs,ht⟩
 ·obtain rfl : l = [] := List.eq_nil_of_length_eq_zero h0
  exact RdL.nil _ _ _
 ·refine ⟨_,cap,rfl,hn,hc,.inr ⟨g,0,rfl,.inr hb,fun r hr => ?_⟩⟩
  obtain ⟨us,h3,h4⟩ := h2.at r hr
  refine ⟨us,Elt.pair.weak (S := fun k => S0 k ∧ _) h3 fun k hk => .inl hk.1,fun j u hj => ?_⟩
  have := hx.cells (g := g) rfl _ u (h4 j u hj)
  simpa [Addr.add_lit,Elt.pin] using this
theorem zc9 (w:World) {S:Nat→Prop} {v:Value} {n:Nd} (hr:RdN S w v n) (hw:wN n≤1000000) (hS:∀ k,S k→k<w.heap.size) :
  Calls Tryz.prog 30 #[v] w (zg9 S w (prN n)):=by
 have hr0:=hr
 obtain⟨a1,c1,a2,c2,a3,c3,rfl,r1,r2,r3⟩:=hr
 have hT:=TriV.new w 26 (.slice a1 n.keys.length c1) (.slice a2 n.chains.length c2) (.slice a3 n.kids.length c3)
 have q:Below w.heap.size w (w.alloc (.cells #[.slice a1 n.keys.length c1,.slice a2 n.chains.length c2,.slice a3 n.kids.length c3] 26)):=(Below.refl _ _).alloc (Nat.le_refl _) _
 go_enter Tryz.func30,Tryz.ntmps30
 go_upto_region 1 with (fail)
 generalize w.alloc (.cells #[.slice a1 n.keys.length c1,.slice a2 n.chains.length c2,.slice a3 n.kids.length c3] 26)=W at *
 have t0:=hT.cell0
 have t1:=hT.cell1
 have t2:=hT.cell2
 go_wp2_with fail
 refine (zjt _ (hr0.below q) hw).mono ?_
 rintro e w1⟨rfl,hb⟩
 replace q:=q.trans (hb.mono q.size)
 replace hT:=hT.below hb hT.lt
 clear hb t0 t1 t2
 by_cases hk:okN n
 ·rw [decide_eq_true hk]
  have H:=Lib.hid (show prN n=zaa n from if_pos hk)
  have HF:=Lib.hid hk.1
  have t0:=hT.cell0
  have t1:=hT.cell1
  have t2:=hT.cell2
  clear hk
  go_wp2_with fail
  refine (zgt 1000000 n true _ _ _ hw (Nat.le_refl _) (hr0.below q) (fun k hk=>Nat.lt_of_lt_of_le (hS k hk) q.size) HF.out).mono ?_
  rintro e w2⟨a,k,c,rfl,hO,hb⟩
  go_wp2_with fail
  go_ret
  rw [H.out]
  exact⟨_,_,_,rfl,hO.to q.size (Nat.le_refl _),q.trans (hb.mono q.size)⟩
 ·rw [decide_eq_false hk]
  have H:=Lib.hid (show prN n=[] from if_neg hk)
  clear hk
  go_wp2_with fail
  go_ret
  rw [H.out]
  exact⟨_,_,_,rfl,OwnL.nil _ _ _ _ _,q⟩
def RdTb (S:Nat→Prop) (w:World) (v:Value) (L:Tb):Prop:=∃ (a:Nat→Option Addr) (c:Nat→Nat),v=.agg #[.slice (a 0) (L 0).length (c 0),.slice (a 1) (L 1).length (c 1),.slice (a 2) (L 2).length (c 2),.slice (a 3) (L 3).length (c 3)]∧∀ i,i<4→RdL Elt.pair S w (.slice (a i) (L i).length (c i)) (L i)
theorem RdTb.below {S:Nat→Prop} {w w':World} {v:Value} {L:Tb}(h:RdTb S w v L)(hb:Below w.heap.size w w'):RdTb S w' v L:=by
 obtain⟨a,c,e,h⟩:=h
 exact⟨a,c,e,fun i hi=>(h i hi).below hb⟩
def eqT(L M:Tb):Prop:=∀ i,i<4→L i=M i
instance (L M:Tb):Decidable (eqT L M):=by unfold eqT;infer_instance
theorem RdTb.weak {S S':Nat→Prop} {w:World} {v:Value} {L:Tb}(h:RdTb S w v L)(hs:∀ k,S k→S' k):RdTb S' w v L:=by
 obtain⟨a,c,e,h⟩:=h
 exact⟨a,c,e,fun i hi=>(h i hi).weak hs⟩
def TbEnd (S:Nat→Prop) (w:World) (L:Tb) (e:Ending) (w':World):Prop:=∃ v,e=.returned v∧RdTb (fun k=>S k∨w.heap.size≤k) w' v L∧Below w.heap.size w w'
theorem RdL.keepT {B:Nat} {R:Nat→Prop} {w w':World} {v:Value} {l:List Pr} (h:RdL Elt.pair R w v l) (hR:∀ k,R k→k≠B+2) (hk:∀ k,k<w.heap.size→k≠B+2→w'.heap[k]?=w.heap[k]?):RdL Elt.pair R w' v l :=
 (h.fit.keep fun k hh=>hk k hh.2 (hR k hh.1)).weak fun _ hh=>hh.1
theorem zla (w : World) {S : Nat → Prop} {v : Value} {T : Sto} (hr : RdSt S w v T) (hf : fitS T) : Calls Tryz.prog 15 #[v] w (TbEnd S w (tabS T)) := by
 obtain ⟨a,m,c,rfl,hx⟩ := hr.fit
 obtain ⟨W0,hW,q0,bn,bz,hsz⟩ := zmj w 29 38 [.slice (a 0) (m 0) (c 0),.slice (a 1) (m 1) (c 1),.slice (a 2) (m 2) (c 2),.slice (a 3) (m 3) (c 3),.slice (a 4) (m 4) (c 4),.slice (a 5) (m 5) (c 5),.slice (a 6) (m 6) (c 6),.slice (a 7) (m 7) (c 7),.slice (a 8) (m 8) (c 8),.slice (a 9) (m 9) (c 9),.slice (a 10) (m 10) (c 10),.slice (a 11) (m 11) (c 11)] [.slice none 0 0,.slice none 0 0,.slice none 0 0,.slice none 0 0]
 replace bn : StB W0 w.heap.size a m c := bn
 go_enter Tryz.func15,Tryz.ntmps15
 go_upto_region 1 with (fail)
 rw [show (w.alloc (.cells #[.slice (a 0) (m 0) (c 0),.slice (a 1) (m 1) (c 1),.slice (a 2) (m 2) (c 2),.slice (a 3) (m 3) (c 3),.slice (a 4) (m 4) (c 4),.slice (a 5) (m 5) (c 5),.slice (a 6) (m 6) (c 6),.slice (a 7) (m 7) (c 7),.slice (a 8) (m 8) (c 8),.slice (a 9) (m 9) (c 9),.slice (a 10) (m 10) (c 10),.slice (a 11) (m 11) (c 11)] 29)).alloc (.cells #[.slice none 0 0,.slice none 0 0,.slice none 0 0,.slice none 0 0] 38) = W0 from hW.symm]
 clear hW
 go_upto_region 2 with (first | (refine zbf (vs := [.slice none 0 0,.slice none 0 0,.slice none 0 0,.slice none 0 0]) (by kernel_rfl) rfl rfl ?_; intro wa hba hBa) | (refine zam (us := [.slice none 0 0,.slice none 0 0,.slice none 0 0,.slice none 0 0]) (by kernel_rfl) rfl rfl rfl rfl rfl rfl hBa rfl ?_; intro W hgw hu) | fail)
 try go_simp
 have hbw := hba.grown hgw hba.size fun k hk => by injection hk with hk; omega
 replace bn : StB W w.heap.size a m c := bn.below hbw bn.lt
 replace bz := bz.below hbw bz.lt
 have q := q0.trans (hbw.mono q0.size)
 have hs3 : w.heap.size + 3 ≤ W.heap.size := by have := hu.lt; omega
 rw [hsz] at hu
 clear hbw hgw hba hBa q0 hsz
 go_wp2
 go_loopw [4] (fun v wr => ∃ (i : Nat) (ua : Nat → Option Addr) (un uc : Nat → Nat),v = .int .i64 (i : Int) ∧ i ≤ 4 ∧ Below w.heap.size w wr ∧ StB wr w.heap.size a m c ∧ BoxN wr (w.heap.size + 1) 38 [.slice none 0 0,.slice none 0 0,.slice none 0 0,.slice none 0 0] ∧ BoxN wr (w.heap.size + 1 + 1) 38 [.slice (ua 0) (un 0) (uc 0),.slice (ua 1) (un 1) (uc 1),.slice (ua 2) (un 2) (uc 2),.slice (ua 3) (un 3) (uc 3)] ∧ w.heap.size + 3 ≤ wr.heap.size ∧ ∀ j,j < i → un j = (prN (T j)).length ∧ RdL Elt.pair (fun k => S k ∧ k < w.heap.size ∨ w.heap.size + 3 ≤ k) wr (.slice (ua j) (un j) (uc j)) (prN (T j))) (fun v _ => 4 - toN v)
 case atStart => exact ⟨0,fun _ => none,fun _ => 0,fun _ => 0,rfl,by omega,q,bn,bz,hu,hs3,fun j hj => absurd hj (Nat.not_lt_zero _)⟩
 case round =>
  clear bn bz hu hs3 q
  obtain ⟨i,ua,un,uc,rfl,hi,hb,bx,bz,hu,hs3,hA⟩ := hrel
  replace hA := Lib.hid hA
  rcases Nat.lt_or_ge i 4 with hl | hl
  ·have dl : decide ((i : Int) < 4) = true := by simp; omega
   obtain ⟨d0,d1,d2,d3,d4,d5,d6,d7,d8,d9,d10,d11⟩ := bx.c12
   rcases (show i = 0 ∨ i = 1 ∨ i = 2 ∨ i = 3 by omega) with rfl | rfl | rfl | rfl
   ·have rN : RdN (fun k => S k ∧ k < w.heap.size) w (.agg #[.slice (a 0) (m 0) (c 0),.slice (a 1) (m 1) (c 1),.slice (a 2) (m 2) (c 2)]) (T 0) := hx 0 (by omega)
    have hpr := zc9 wr (rN.below hb) (by have := (hf 0 (by omega)).1; omega) (fun k hk => Nat.lt_of_lt_of_le hk.2 hb.size)
    go_wp2_with fail
    refine hpr.mono ?_
    rintro e W4 ⟨pa,pk,pc,rfl,hO,hb4⟩
    obtain rfl := hO.len
    have hO4 := zn0 hO
    have hu4 := hu.below hb4 hu.lt
    have bx4 : StB W4 w.heap.size a m c := bx.below hb4 bx.lt
    have bz4 := bz.below hb4 bz.lt
    have hs4 := hb4.size
    have hul := hu.lt
    have hb5 := hb.trans (hb4.mono hb.size)
    clear hpr d0 d1 d2 d3 d4 d5 d6 d7 d8 d9 d10 d11 hu bx bz
    go_wp2_with (first | (refine zc8 (u := .slice pa (prN (T 0)).length pc) rfl rfl rfl (by kernel_rfl) rfl rfl rfl rfl hu4 (by show 0 < 4; omega) ?_; intro W5 hg5 hu5) | fail)
    go_roundw
    case rel =>
     have hs5 := hg5.size
     have hne : ∀ k,k < W4.heap.size → k ≠ w.heap.size + 2 → W5.heap[k]? = W4.heap[k]? := fun k h1 h2 => hg5.block k h1 (fun e => h2 (by injection e))
     refine ⟨1,fun j => if j = 0 then pa else ua j,fun j => if j = 0 then (prN (T 0)).length else un j,fun j => if j = 0 then pc else uc j,by go_num,by omega,hb5.trans ⟨hg5.os,hg5.tape,hg5.output,hs5,fun k hk => hne k (Nat.lt_of_lt_of_le hk hb5.size) (by omega)⟩,bx4.other hg5 (fun e => by injection e with e; omega),bz4.other hg5 (fun e => by injection e with e; omega),hu5,Nat.le_trans hs3 (Nat.le_trans hs4 hs5),fun j hj => ?_⟩
     by_cases e : j = 0
     ·subst e
      exact ⟨rfl,(hO4.weak (S' := fun k => S k ∧ k < w.heap.size ∨ w.heap.size + 3 ≤ k) (fun k hk => hk.imp id fun h => Nat.le_trans hs3 h)).keepT (fun k hk => by omega) hne⟩
     ·obtain ⟨g1,g2⟩ := hA.out j (by omega)
      have e1 : (if j = 0 then pa else ua j) = ua j := if_neg e
      have e2 : (if j = 0 then (prN (T 0)).length else un j) = un j := if_neg e
      have e3 : (if j = 0 then pc else uc j) = uc j := if_neg e
      simp only [e1,e2,e3]
      exact ⟨g1,(g2.below hb4).keepT (fun k hk => by omega) hne⟩
    case measure => simp [toN]
   ·have rN : RdN (fun k => S k ∧ k < w.heap.size) w (.agg #[.slice (a 3) (m 3) (c 3),.slice (a 4) (m 4) (c 4),.slice (a 5) (m 5) (c 5)]) (T 1) := hx 1 (by omega)
    have hpr := zc9 wr (rN.below hb) (by have := (hf 1 (by omega)).1; omega) (fun k hk => Nat.lt_of_lt_of_le hk.2 hb.size)
    go_wp2_with fail
    refine hpr.mono ?_
    rintro e W4 ⟨pa,pk,pc,rfl,hO,hb4⟩
    obtain rfl := hO.len
    have hO4 := zn0 hO
    have hu4 := hu.below hb4 hu.lt
    have bx4 : StB W4 w.heap.size a m c := bx.below hb4 bx.lt
    have bz4 := bz.below hb4 bz.lt
    have hs4 := hb4.size
    have hul := hu.lt
    have hb5 := hb.trans (hb4.mono hb.size)
    clear hpr d0 d1 d2 d3 d4 d5 d6 d7 d8 d9 d10 d11 hu bx bz
    go_wp2_with (first | (refine zc8 (u := .slice pa (prN (T 1)).length pc) rfl rfl rfl (by kernel_rfl) rfl rfl rfl rfl hu4 (by show 1 < 4; omega) ?_; intro W5 hg5 hu5) | fail)
    go_roundw
    case rel =>
     have hs5 := hg5.size
     have hne : ∀ k,k < W4.heap.size → k ≠ w.heap.size + 2 → W5.heap[k]? = W4.heap[k]? := fun k h1 h2 => hg5.block k h1 (fun e => h2 (by injection e))
     refine ⟨2,fun j => if j = 1 then pa else ua j,fun j => if j = 1 then (prN (T 1)).length else un j,fun j => if j = 1 then pc else uc j,by go_num,by omega,hb5.trans ⟨hg5.os,hg5.tape,hg5.output,hs5,fun k hk => hne k (Nat.lt_of_lt_of_le hk hb5.size) (by omega)⟩,bx4.other hg5 (fun e => by injection e with e; omega),bz4.other hg5 (fun e => by injection e with e; omega),hu5,Nat.le_trans hs3 (Nat.le_trans hs4 hs5),fun j hj => ?_⟩
     by_cases e : j = 1
     ·subst e
      exact ⟨rfl,(hO4.weak (S' := fun k => S k ∧ k < w.heap.size ∨ w.heap.size + 3 ≤ k) (fun k hk => hk.imp id fun h => Nat.le_trans hs3 h)).keepT (fun k hk => by omega) hne⟩
     ·obtain ⟨g1,g2⟩ := hA.out j (by omega)
      have e1 : (if j = 1 then pa else ua j) = ua j := if_neg e
      have e2 : (if j = 1 then (prN (T 1)).length else un j) = un j := if_neg e
      have e3 : (if j = 1 then pc else uc j) = uc j := if_neg e
      simp only [e1,e2,e3]
      exact ⟨g1,(g2.below hb4).keepT (fun k hk => by omega) hne⟩
    case measure => simp [toN]
   ·have rN : RdN (fun k => S k ∧ k < w.heap.size) w (.agg #[.slice (a 6) (m 6) (c 6),.slice (a 7) (m 7) (c 7),.slice (a 8) (m 8) (c 8)]) (T 2) := hx 2 (by omega)
    have hpr := zc9 wr (rN.below hb) (by have := (hf 2 (by omega)).1; omega) (fun k hk => Nat.lt_of_lt_of_le hk.2 hb.size)
    go_wp2_with fail
    refine hpr.mono ?_
    rintro e W4 ⟨pa,pk,pc,rfl,hO,hb4⟩
    obtain rfl := hO.len
    have hO4 := zn0 hO
    have hu4 := hu.below hb4 hu.lt
    have bx4 : StB W4 w.heap.size a m c := bx.below hb4 bx.lt
    have bz4 := bz.below hb4 bz.lt
    have hs4 := hb4.size
    have hul := hu.lt
    have hb5 := hb.trans (hb4.mono hb.size)
    clear hpr d0 d1 d2 d3 d4 d5 d6 d7 d8 d9 d10 d11 hu bx bz
    go_wp2_with (first | (refine zc8 (u := .slice pa (prN (T 2)).length pc) rfl rfl rfl (by kernel_rfl) rfl rfl rfl rfl hu4 (by show 2 < 4; omega) ?_; intro W5 hg5 hu5) | fail)
    go_roundw
    case rel =>
     have hs5 := hg5.size
     have hne : ∀ k,k < W4.heap.size → k ≠ w.heap.size + 2 → W5.heap[k]? = W4.heap[k]? := fun k h1 h2 => hg5.block k h1 (fun e => h2 (by injection e))
     refine ⟨3,fun j => if j = 2 then pa else ua j,fun j => if j = 2 then (prN (T 2)).length else un j,fun j => if j = 2 then pc else uc j,by go_num,by omega,hb5.trans ⟨hg5.os,hg5.tape,hg5.output,hs5,fun k hk => hne k (Nat.lt_of_lt_of_le hk hb5.size) (by omega)⟩,bx4.other hg5 (fun e => by injection e with e; omega),bz4.other hg5 (fun e => by injection e with e; omega),hu5,Nat.le_trans hs3 (Nat.le_trans hs4 hs5),fun j hj => ?_⟩
     by_cases e : j = 2
     ·subst e
      exact ⟨rfl,(hO4.weak (S' := fun k => S k ∧ k < w.heap.size ∨ w.heap.size + 3 ≤ k) (fun k hk => hk.imp id fun h => Nat.le_trans hs3 h)).keepT (fun k hk => by omega) hne⟩
     ·obtain ⟨g1,g2⟩ := hA.out j (by omega)
      have e1 : (if j = 2 then pa else ua j) = ua j := if_neg e
      have e2 : (if j = 2 then (prN (T 2)).length else un j) = un j := if_neg e
      have e3 : (if j = 2 then pc else uc j) = uc j := if_neg e
      simp only [e1,e2,e3]
      exact ⟨g1,(g2.below hb4).keepT (fun k hk => by omega) hne⟩
    case measure => simp [toN]
   ·have rN : RdN (fun k => S k ∧ k < w.heap.size) w (.agg #[.slice (a 9) (m 9) (c 9),.slice (a 10) (m 10) (c 10),.slice (a 11) (m 11) (c 11)]) (T 3) := hx 3 (by omega)
    have hpr := zc9 wr (rN.below hb) (by have := (hf 3 (by omega)).1; omega) (fun k hk => Nat.lt_of_lt_of_le hk.2 hb.size)
    go_wp2_with fail
    refine hpr.mono ?_
    rintro e W4 ⟨pa,pk,pc,rfl,hO,hb4⟩
    obtain rfl := hO.len
    have hO4 := zn0 hO
    have hu4 := hu.below hb4 hu.lt
    have bx4 : StB W4 w.heap.size a m c := bx.below hb4 bx.lt
    have bz4 := bz.below hb4 bz.lt
    have hs4 := hb4.size
    have hul := hu.lt
    have hb5 := hb.trans (hb4.mono hb.size)
    clear hpr d0 d1 d2 d3 d4 d5 d6 d7 d8 d9 d10 d11 hu bx bz
    go_wp2_with (first | (refine zc8 (u := .slice pa (prN (T 3)).length pc) rfl rfl rfl (by kernel_rfl) rfl rfl rfl rfl hu4 (by show 3 < 4; omega) ?_; intro W5 hg5 hu5) | fail)
    go_roundw
    case rel =>
     have hs5 := hg5.size
     have hne : ∀ k,k < W4.heap.size → k ≠ w.heap.size + 2 → W5.heap[k]? = W4.heap[k]? := fun k h1 h2 => hg5.block k h1 (fun e => h2 (by injection e))
     refine ⟨4,fun j => if j = 3 then pa else ua j,fun j => if j = 3 then (prN (T 3)).length else un j,fun j => if j = 3 then pc else uc j,by go_num,by omega,hb5.trans ⟨hg5.os,hg5.tape,hg5.output,hs5,fun k hk => hne k (Nat.lt_of_lt_of_le hk hb5.size) (by omega)⟩,bx4.other hg5 (fun e => by injection e with e; omega),bz4.other hg5 (fun e => by injection e with e; omega),hu5,Nat.le_trans hs3 (Nat.le_trans hs4 hs5),fun j hj => ?_⟩
     by_cases e : j = 3
     ·subst e
      exact ⟨rfl,(hO4.weak (S' := fun k => S k ∧ k < w.heap.size ∨ w.heap.size + 3 ≤ k) (fun k hk => hk.imp id fun h => Nat.le_trans hs3 h)).keepT (fun k hk => by omega) hne⟩
     ·obtain ⟨g1,g2⟩ := hA.out j (by omega)
      have e1 : (if j = 3 then pa else ua j) = ua j := if_neg e
      have e2 : (if j = 3 then (prN (T 3)).length else un j) = un j := if_neg e
      have e3 : (if j = 3 then pc else uc j) = uc j := if_neg e
      simp only [e1,e2,e3]
      exact ⟨g1,(g2.below hb4).keepT (fun k hk => by omega) hne⟩
    case measure => simp [toN]
  ·obtain rfl : i = 4 := by omega
   have dl : decide (((4 : Nat) : Int) < 4) = false := rfl
   obtain ⟨y0,y1,y2,y3⟩ := hu.c4
   go_wp2_with (first | (refine zam (us := [.slice (ua 0) (un 0) (uc 0),.slice (ua 1) (un 1) (uc 1),.slice (ua 2) (un 2) (uc 2),.slice (ua 3) (un 3) (uc 3)]) (by kernel_rfl) rfl rfl rfl rfl rfl rfl bz rfl ?_; intro W5 hg5 hz5) | fail)
   have hb5 : Below w.heap.size wr W5 := ⟨hg5.os,hg5.tape,hg5.output,hg5.size,fun k hk => hg5.block k (Nat.lt_of_lt_of_le hk hb.size) (fun e => by injection e with e; omega)⟩
   clear y0 y1 y2 y3
   obtain ⟨y0,y1,y2,y3⟩ := hz5.c4
   refine bodyPost_ret (v := .agg #[.slice (ua 0) (un 0) (uc 0),.slice (ua 1) (un 1) (uc 1),.slice (ua 2) (un 2) (uc 2),.slice (ua 3) (un 3) (uc 3)]) (by simp [results,Tryz.results15,go_sem,loadVar,isAgg,run_underlying Tryz.underlying38,zab (show (Tryz.prog.info? 38).map (·.size) = some 4 by kernel_rfl),loadCellsFrom,Addr.add,y0,y1,y2,y3]) rfl ?_
   have hA9 : ∀ j,j < 4 → un j = (prN (T j)).length ∧ RdL Elt.pair (fun k => S k ∨ w.heap.size ≤ k) W5 (.slice (ua j) (un j) (uc j)) (prN (T j)) := fun j hj => by
    obtain ⟨g1,g2⟩ := hA.out j hj
    exact ⟨g1,(g2.fit.keep fun k hh => hg5.block k hh.2 (fun e => by injection e with e; have := hh.1; omega)).weak fun k hk => by rcases hk.1 with h | h; exact .inl h.1; exact .inr (by omega)⟩
   refine ⟨_,rfl,⟨ua,uc,?_,fun j hj => ?_⟩,hb.trans hb5⟩
   ·rw [(hA9 0 (by omega)).1,(hA9 1 (by omega)).1,(hA9 2 (by omega)).1,(hA9 3 (by omega)).1]
    rfl
   ·have h9 := hA9 j hj
    rw [h9.1] at h9
    exact h9.2
section
variable {o : Oper} {a : Act} {K : Act → World → Prop} {Q : Exit → Act → World → Prop} {w : World}
theorem zp5 {W : World} {b : Nat} {a : Nat → Option Addr} {L : Tb} {c : Nat → Nat} (h : BoxN W b 38 [.slice (a 0) (L 0).length (c 0),.slice (a 1) (L 1).length (c 1),.slice (a 2) (L 2).length (c 2),.slice (a 3) (L 3).length (c 3)]) {j : Nat} (hj : j < 4) : W.cell? ⟨b,j,none⟩ = some (.slice (a j) (L j).length (c j)) :=
 match j,hj with
 | 0,_ => h.cell rfl
 | 1,_ => h.cell rfl
 | 2,_ => h.cell rfl
 | 3,_ => h.cell rfl
theorem wp_ixT {x i : Operand} {b k : Nat} {kk : IntKind} {j : Int} (ho : o.op = .indexAddr 38 x i) (hx : a.eval x = .pointer (some ⟨b,0,none⟩)) (hi : a.eval i = .int kk j) (hj : j = (k : Int)) (hk : k < 4) (h : K (a.put o.dst (.pointer (some ⟨b,k,none⟩))) w) : o.wp Tryz.prog a w K Q := by
 subst hj
 refine zdz ?_ h
 simp only [execOp,ho,hx,hi]
 simp [Instr.indexAt,run_underlying Tryz.underlying38,asIntOf,Instr.sureAddr,zab (show (Tryz.prog.info? 36).map (·.size) = some 1 by kernel_rfl),go_sem,Addr.add,hk]
 try omega
end
theorem zk9 (w : World) {S S2 : Nat → Prop} {v v2 : Value} {L M : Tb} (h : RdTb S w v L) (h2 : RdTb S2 w v2 M) : Calls Tryz.prog 26 #[v,v2] w fun e w' => e = .returned (.bool (decide (eqT L M))) ∧ Below w.heap.size w w' := by
 obtain ⟨a,c,rfl,hl⟩ := h
 obtain ⟨b,d,rfl,hm⟩ := h2
 obtain ⟨W,hW,q,Ba,Bb,hsz⟩ := zmj w 38 38 [.slice (a 0) (L 0).length (c 0),.slice (a 1) (L 1).length (c 1),.slice (a 2) (L 2).length (c 2),.slice (a 3) (L 3).length (c 3)] [.slice (b 0) (M 0).length (d 0),.slice (b 1) (M 1).length (d 1),.slice (b 2) (M 2).length (d 2),.slice (b 3) (M 3).length (d 3)]
 clear hsz
 have eS : ∀ args w,(callFunc 50 args).run Tryz.prog w = .ok (.enter 50 args) w := enters_of Tryz.func50 (by kernel_rfl) rfl
 go_enter Tryz.func26,Tryz.ntmps26
 go_upto_region 1 with (fail)
 rw [show (w.alloc (.cells #[.slice (a 0) (L 0).length (c 0),.slice (a 1) (L 1).length (c 1),.slice (a 2) (L 2).length (c 2),.slice (a 3) (L 3).length (c 3)] 38)).alloc (.cells #[.slice (b 0) (M 0).length (d 0),.slice (b 1) (M 1).length (d 1),.slice (b 2) (M 2).length (d 2),.slice (b 3) (M 3).length (d 3)] 38) = W from hW.symm]
 clear hW
 go_upto_region 2 with (fail)
 go_loopw [5] (fun v wr => ∃ i : Nat,v = .int .i64 (i : Int) ∧ i ≤ 4 ∧ (∀ j,j < i → L j = M j) ∧ Below W.heap.size W wr) (fun v _ => 4 - toN v)
 case atStart => exact ⟨0,rfl,by omega,fun j hj => absurd hj (Nat.not_lt_zero _),Below.refl _ _⟩
 case round =>
  obtain ⟨i,rfl,hi,hA,q2⟩ := hrel
  replace hA := Lib.hid hA
  rcases Nat.lt_or_ge i 4 with hlt | hge
  ·have dl : decide ((i : Int) < 4) = true := by simp; omega
   have x0 := zp5 (Ba.below q2 Ba.lt) hlt
   have y0 := zp5 (Bb.below q2 Bb.lt) hlt
   have hc := fun (V : World) (hV : Below wr.heap.size wr V) => zqh V ((((hl i hlt).below q).below q2).below hV) ((((hm i hlt).below q).below q2).below hV)
   obtain ⟨z,hz⟩ : ∃ z,z = decide (L i = M i) := ⟨_,rfl⟩
   rw [← hz] at hc
   replace hz := Lib.hid hz
   go_upto_region 4 with (fail)
   refine zbu (by kernel_rfl) (by kernel_rfl) [sgEq (.int .i64 (i : Int)),sgEq (.pointer (some ⟨w.heap.size,i,none⟩)),sgEq (.slice (a i) (L i).length (c i)),sgEq (.int .i64 (i : Int)),sgEq (.pointer (some ⟨w.heap.size + 1,i,none⟩)),sgEq (.slice (b i) (M i).length (d i)),sgEq (.bool z),sgEq (.bool z)]
    ⟨?o0,?o1,?o2,?o3,?o4,?o5,?o6,?o7,trivial⟩ ?fin
   case o0 =>
    refine GdOp.plain rfl (fun A vs w' hF hT hb hd => ?_)
    have e1 : A.eval (.tmp 5) = .int .i64 (i : Int) := hF 5 rfl
    exact BigFrame.wp_move _ rfl ⟨_,rfl,e1,Below.refl _ _⟩
   case o1 =>
    refine GdOp.plain rfl (fun A vs w' hF hT hb hd => ?_)
    have e1 : A.eval (.tmp 2) = .pointer (some ⟨w.heap.size,0,none⟩) := hF 2 rfl
    have e2 : A.eval (.tmp 11) = .int .i64 (i : Int) := (hT 11 0 (by simp) rfl).trans (hd ⟨0,.data⟩ (by simp) rfl)
    exact wp_ixT rfl e1 e2 rfl hlt ⟨_,rfl,rfl,Below.refl _ _⟩
   case o2 =>
    refine GdOp.plain rfl (fun A vs w' hF hT hb hd => ?_)
    have e1 : A.eval (.tmp 12) = .pointer (some ⟨w.heap.size,i,none⟩) := (hT 12 1 (by simp) rfl).trans (hd ⟨1,.data⟩ (by simp) rfl)
    exact zad (e := 77) rfl e1 (by kernel_rfl) (((hb.cell (p := ⟨_,_,none⟩) (zaj x0)).trans x0)) ⟨_,rfl,rfl,Below.refl _ _⟩
   case o3 =>
    refine GdOp.plain rfl (fun A vs w' hF hT hb hd => ?_)
    have e1 : A.eval (.tmp 5) = .int .i64 (i : Int) := hF 5 rfl
    exact BigFrame.wp_move _ rfl ⟨_,rfl,e1,Below.refl _ _⟩
   case o4 =>
    refine GdOp.plain rfl (fun A vs w' hF hT hb hd => ?_)
    have e1 : A.eval (.tmp 3) = .pointer (some ⟨w.heap.size + 1,0,none⟩) := hF 3 rfl
    have e2 : A.eval (.tmp 14) = .int .i64 (i : Int) := (hT 14 3 (by simp) rfl).trans (hd ⟨3,.data⟩ (by simp) rfl)
    exact wp_ixT rfl e1 e2 rfl hlt ⟨_,rfl,rfl,Below.refl _ _⟩
   case o5 =>
    refine GdOp.plain rfl (fun A vs w' hF hT hb hd => ?_)
    have e1 : A.eval (.tmp 15) = .pointer (some ⟨w.heap.size + 1,i,none⟩) := (hT 15 4 (by simp) rfl).trans (hd ⟨4,.data⟩ (by simp) rfl)
    exact zad (e := 77) rfl e1 (by kernel_rfl) (((hb.cell (p := ⟨_,_,none⟩) (zaj y0)).trans y0)) ⟨_,rfl,rfl,Below.refl _ _⟩
   case o6 =>
    refine GdOp.plain rfl (fun A vs w' hF hT hb hd => ?_)
    have e1 : A.eval (.tmp 13) = .slice (a i) (L i).length (c i) := (hT 13 2 (by simp) rfl).trans (hd ⟨2,.data⟩ (by simp) rfl)
    have e2 : A.eval (.tmp 16) = .slice (b i) (M i).length (d i) := (hT 16 5 (by simp) rfl).trans (hd ⟨5,.data⟩ (by simp) rfl)
    refine zak rfl eS (args := #[.slice (a i) (L i).length (c i),.slice (b i) (M i).length (d i)]) (by simp only [List.map_toArray,List.map_cons,List.map_nil,e1,e2]) ((hc w' hb).mono ?_)
    rintro e w2 ⟨rfl,hb2⟩
    exact ⟨_,rfl,_,rfl,rfl,hb2⟩
   case o7 =>
    refine GdOp.plain rfl (fun A vs w' hF hT hb hd => ?_)
    have e1 : A.eval (.tmp 17) = .bool z := (hT 17 6 (by simp) rfl).trans (hd ⟨6,.data⟩ (by simp) rfl)
    exact BigFrame.wp_assign _ rfl ⟨_,rfl,e1,Below.refl _ _⟩
   case fin =>
    intro vs9 W9 hb9 hG9
    have e0 : vs9 0 = .int .i64 (i : Int) := hG9 0 (by decide)
    have e1 : vs9 1 = .pointer (some ⟨w.heap.size,i,none⟩) := hG9 1 (by decide)
    have e2 : vs9 2 = .slice (a i) (L i).length (c i) := hG9 2 (by decide)
    have e3 : vs9 3 = .int .i64 (i : Int) := hG9 3 (by decide)
    have e4 : vs9 4 = .pointer (some ⟨w.heap.size + 1,i,none⟩) := hG9 4 (by decide)
    have e5 : vs9 5 = .slice (b i) (M i).length (d i) := hG9 5 (by decide)
    have e6 : vs9 6 = .bool z := hG9 6 (by decide)
    have e7 : vs9 7 = .bool z := hG9 7 (by decide)
    simp only [zae,e0,e1,e2,e3,e4,e5,e6,e7]
    clear hG9 e0 e1 e2 e3 e4 e5 e6 e7
    go_simp
    have hbq := q2.trans (hb9.mono q2.size)
    cases z with
    | true =>
     have H := Lib.hid (show ∀ j,j < i + 1 → L j = M j from fun j hj => by
      rcases Nat.lt_succ_iff_lt_or_eq.1 hj with h | rfl
      ·exact hA.out j h
      ·exact of_decide_eq_true hz.out.symm)
     clear hA hz
     go_wp2_with fail
     go_roundw
     case rel => exact ⟨i + 1,by go_num,by omega,H.out,hbq⟩
     case measure => simp [toN]; omega
    | false =>
     have H := Lib.hid (show decide (eqT L M) = false from decide_eq_false fun h => of_decide_eq_false hz.out.symm (h i hlt))
     clear hA hz
     go_wp2_with fail
     go_ret
     exact ⟨by first | (rw [H.out]; done) | (rw [H.out]; rfl),q.trans (hbq.mono q.size)⟩
  ·obtain rfl : i = 4 := by omega
   have dl : decide (((4 : Nat) : Int) < 4) = false := rfl
   have H := Lib.hid (show decide (eqT L M) = true from decide_eq_true hA.out)
   clear hA
   go_wp2_with fail
   go_ret
   exact ⟨by first | (rw [H.out]; done) | (rw [H.out]; rfl),q.trans (q2.mono q.size)⟩
end Go.Proofs.YtlpfhgdnmjkngaaGreat
