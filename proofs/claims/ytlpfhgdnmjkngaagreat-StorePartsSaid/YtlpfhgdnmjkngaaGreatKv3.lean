/-
  TEXTS OF ONE PROOF, merged: TreP, TreX, Arr, Box, Ope, DltM, Dlt, StM, Sto, Qui, VerO, TreD, TreW.
-/
import Derived.BigFrame
import Derived.ChangeSame
import Derived.ChangeSlices
import Derived.Deep.Slices
import Derived.Deep.Strs
import Derived.Laws.Cells
import Derived.Laws.CopyRow
import Derived.Laws.Tables
import Derived.Lib.SmallJoins
import Derived.ProofKit
import Derived.Test.YtlpfhgdnmjkngaaGreatKv2
namespace Go.Proofs.YtlpfhgdnmjkngaaGreat
open Go.RowKit Go.Shelf Go.ChangeShapes Go.WideShapes Go.ChangeAt Go.Deep Go.Joins
set_option maxRecDepth 100000
set_option maxHeartbeats 32000000
def Elt.pin {α:Type} (E:Elt α) (S0:Nat→Prop):Elt α where
 size:=E.size
 pos:=E.pos
 R S w x vs:=E.R (fun k=>S0 k∧S k) w x vs
 len h:=E.len h
 keep h hk:=E.keep h fun k hh=>hk k hh.2
 weak h hk:=E.weak h fun k hh=>⟨hh.1,hk k hh.2⟩
 fit h:=E.weak (E.fit h) fun _ hh=>⟨hh.1.1,hh.1.2,hh.2⟩
 one h:=E.one h
section
variable {α : Type} {E : Elt α} {S0 S : Nat → Prop} {w : World}
theorem pin_in {x:α} {vs:List Value}(h:E.R S0 w x vs):(E.pin S0).R S0 w x vs:=E.weak h fun _ hk=>⟨hk,hk⟩
theorem pin_fit {x:α} {vs:List Value} (h:(E.pin S0).R S w x vs):(E.pin S0).R (fun k=>S0 k∧k<w.heap.size) w x vs:=E.weak (E.fit h) fun _ hk=>⟨hk.1.1,hk.1.1,hk.2⟩
theorem Flat.pin:∀ {xs:List α} {vs:List Value},Flat (E.pin S0) S w xs vs→Flat (E.pin S0) (fun k=>S0 k∧k<w.heap.size) w xs vs
 | [],_,h=>h
 | _::_,_,⟨us,ws,e,h1,h2⟩=>⟨us,ws,e,pin_fit h1,Flat.pin h2⟩
theorem RdL.unpin {v:Value} {xs:List α} (h:RdL (E.pin S0) S w v xs):RdL E S w v xs:=h.imp rfl fun _ _ _ h=>E.weak h fun _ hk=>hk.2
end
theorem prPP:PrP Tryz.prog 77 (.slice none 0 0) (.slice none 0 0):=⟨⟨_,_,Tryz.underlying77,by kernel_rfl,by kernel_rfl,by kernel_rfl,by kernel_rfl⟩,by kernel_rfl⟩
def mRow1 (T : TypeId) (base : Nat) (r : Option Nat) (hr : ∀ k,r = some k → k < base) (us : List Value) : SGm (fun A B => A.grownBy B r) := ⟨fun w v => ∃ b,v = .slice (some ⟨b,0,none⟩) 1 1 ∧ base ≤ b ∧ w.heap[b]? = some (.cells us.toArray T (0,0)),
 fun _ _ _ ⟨b,h,h0,hc⟩ hb => ⟨b,h,h0,(hb.block b (Array.getElem?_eq_some_iff.1 hc).1).trans hc⟩,
 fun _ _ _ ⟨b,h,h0,hc⟩ hk => ⟨b,h,h0,(hk.block b (Array.getElem?_eq_some_iff.1 hc).1 (fun e => by have := hr b e.symm; omega)).trans hc⟩⟩
def zg9 (S:Nat→Prop) (w:World) (l:List Pr) (e:Ending) (w':World):Prop :=
 ∃ a k c,e=.returned (.slice a k c)∧OwnL (Elt.pin Elt.pair S) 77 w.heap.size 0 w' (.slice a k c) l∧Below w.heap.size w w'
theorem wv_lt {ps:List (List Pr)} {ks:List (List UInt8)} {cs:List (List Ver)} {i:Nat} (h1:i<ks.length) (h2:ks.length=cs.length):wv ps ks cs (i+1)=wv ps ks cs i++ps.getD i []++[⟨ks[i],cs[i]'(by omega)⟩]:=by
 rw [wv,List.getD_eq_getElem?_getD (l:=ks),List.getD_eq_getElem?_getD (l:=cs),List.getElem?_eq_getElem h1,List.getElem?_eq_getElem (by omega)]
 rfl
theorem wv_le (ps:List (List Pr)) (ks:List (List UInt8)) (cs:List (List Ver)):∀ {i j},i≤j→(wv ps ks cs i).length≤(wv ps ks cs j).length:=by
 intro i j h
 induction h with
 | refl=>exact Nat.le_refl _
 | step _ ih=>rw [wv,List.length_append,List.length_append];omega
theorem zfy:∀ (N:Nat) {n:Nd} {root:Bool},wN n≤N→0≤zax n root→(zaa n).length≤wN n
 | 0,n,_,h,_=>by have:=zfn n;omega
 | N+1,n,root,hN,hd=>by
  obtain⟨hc,hk,hr,h1 | h1⟩:=zcb rfl hd
  ·rw [zd7 n h1.1];exact (zg3 n).1
  ·obtain⟨h2,h3,h4,h5⟩:=h1
   rw [zhv n h2]
   have hw:wN n=1+n.keys.length+n.chains.length+n.kids.length+wL n.kids:=by cases n;rw [wN];rfl
   have hs:∀ ns:List Nd,(∀ m∈ns,m∈n.kids)→(ns.map fun m=>(zaa m).length).sum≤wL ns:=by
    intro ns
    induction ns with
    | nil=>intro _;simp
    | cons m r ih =>
     intro hm
     have h6:=ih fun x hx=>hm x (by simp [hx])
     have h7:=hm m (by simp)
     have h8:=zev h7
     have h9:=zfy N (n:=m) (root:=false) (by omega) (by rw [h5 m h7];omega)
     rw [wL,List.map_cons,List.sum_cons]
     omega
   have h6:=hs n.kids fun _ h=>h
   omega
theorem zj5 {ns:List Nd} {i:Nat}(h:i<ns.length):(ns.map zaa).getD i []=zaa ns[i]:=by
 rw [List.getD_eq_getElem?_getD,List.getElem?_map,List.getElem?_eq_getElem h];rfl
theorem zli {n:Nd} {d:Int} (h:zax n false=d) (hd:0≤d):0<(zaa n).length:=by
 obtain⟨m,hm⟩:∃ m:Nat,d=m:=⟨d.toNat,by omega⟩
 subst hm
 obtain⟨h1,_,h2 |⟨h2,_⟩⟩:=zey m h
 ·have:=Nat.pow_le_pow_right (show 0<2 by omega) h1
  omega
 ·cases h2
theorem OwnL.someL {α : Type} {E : Elt α} {T : TypeId} {base lo : Nat} {w : World} {a : Option Addr} {k c : Nat} {xs : List α} (h : OwnL E T base lo w (.slice a k c) xs) (hp : 0 < xs.length) :
  ∃ g ns,a = .some ⟨g,0,none⟩ ∧ k = xs.length ∧ Flat E (fun k => lo ≤ k ∧ k < w.heap.size ∧ Option.some k ≠ .some g) w xs ns ∧ ∀ j u,ns[j]? = .some u → w.cell? (Addr.add ⟨g,0,none⟩ j) = .some u := by
 have hk := h.len
 obtain ⟨vs,h1,h2⟩ := h
 rcases h1.2 with ⟨h3,h4⟩ | ⟨g,cap,cur,h3,h4⟩
 ·omega
 ·injection h3 with e1 e2 e3
  subst e1
  refine ⟨g,vs,rfl,hk,h2,fun j u hj => ?_⟩
  obtain ⟨_,hg,_,_,_,ht⟩ := h4
  rw [Addr.add_lit,Nat.zero_add,World.cell?,hg]
  rw [← ht] at hj
  have : cur.toList[j]? = .some u := by
   rw [List.getElem?_take] at hj
   split at hj
   ·exact hj
   ·cases hj
  simpa using this
def zkh (N:Nat):Prop:=∀ (n:Nd) (root:Bool) (w:World) (S:Nat→Prop) (v:Value),wN n≤N→N≤1000000→RdN S w v n→(∀ k,S k→k<w.heap.size)→0≤zax n root →
  Calls Tryz.prog 52 #[v] w (zg9 S w (zaa n))
theorem zjr (N : Nat) (ih : zkh N) : zkh (N + 1) := by
  intro n root w S v hN hbig hr hSb hd
  unfold zkh at ih
  have hlen := zfy (N + 1) hN hd
  have hdef := zd8 n
  obtain ⟨hc,hk3,_,hsh⟩ := zcb rfl hd
  obtain ⟨a1,c1,a2,c2,a3,c3,rfl,r1,r2,r3⟩ := hr
  have hT := TriV.new w 26 (.slice a1 n.keys.length c1) (.slice a2 n.chains.length c2) (.slice a3 n.kids.length c3)
  have q : Below w.heap.size w (w.alloc (.cells #[.slice a1 n.keys.length c1,.slice a2 n.chains.length c2,.slice a3 n.kids.length c3] 26)) := (Below.refl _ _).alloc (Nat.le_refl _) _
  have hsz : w.heap.size + 1 ≤ (w.alloc (.cells #[.slice a1 n.keys.length c1,.slice a2 n.chains.length c2,.slice a3 n.kids.length c3] 26)).heap.size := Nat.le_of_eq (World.size_alloc _ _).symm
  have hks : n.kids.length ≤ 4 := by
   rcases hsh with h | h
   ·rw [h.1]; simp
   ·omega
  have hm : n.keys.length ≤ 3 := hk3
  have HC := Lib.hid hc
  have HD := Lib.hid hd
  have HSH := Lib.hid hsh
  have HDEF := Lib.hid hdef
  have HLEN := Lib.hid hlen
  clear hc hd hsh hdef hlen
  go_enter Tryz.func52,Tryz.ntmps52
  go_upto_region 3 with (fail)
  generalize w.alloc (.cells #[.slice a1 n.keys.length c1,.slice a2 n.chains.length c2,.slice a3 n.kids.length c3] 26) = W at *
  go_loopw [3,4] (fun ov iv wr => ∃ (k : Nat) (ad : Option Addr) (ko co : Nat),iv = .int .i64 k ∧ k ≤ n.keys.length ∧ ov = .slice ad ko co ∧ OwnL (Elt.pin Elt.pair S) 77 (w.heap.size + 1) 0 wr (.slice ad ko co) (wv (n.kids.map zaa) n.keys n.chains k) ∧ TriV wr w.heap.size 26 (.slice a1 n.keys.length c1) (.slice a2 n.chains.length c2) (.slice a3 n.kids.length c3) ∧ Below w.heap.size w wr ∧ w.heap.size + 1 ≤ wr.heap.size)
   (fun _ i _ => n.keys.length - (intOf i).toNat)
  case atStart => exact ⟨0,none,0,0,rfl,Nat.zero_le _,rfl,OwnL.nil _ _ _ _ _,hT,q,hsz⟩
  case round =>
   clear q hT hsz
   obtain ⟨k,ad,ko,co,rfl,hkl,rfl,hO,hT,q,hsz⟩ := hrel
   have t0 := hT.cell0
   have t1 := hT.cell1
   have t2 := hT.cell2
   rcases Nat.lt_or_ge k n.keys.length with hlt | hge
   ·have hkc : k < n.chains.length := by have := HC.out; omega
    rcases Nat.eq_zero_or_pos n.kids.length with hz | hz
    ·have hz' : ¬ 0 < n.kids.length := by omega
     have hky0 := (r1.below q).byt k hlt
     have hch0 := (r2.below q).lst k hkc
     obtain ⟨b,off,Ak,C,rfl,c0,hky⟩ := hky0
     obtain ⟨b2,off2,B,D,rfl,c1,hcc⟩ := hch0
     have HO := Lib.hid (wv_lt (ps := n.kids.map zaa) hlt HC.out.symm)
     obtain ⟨ky,eky⟩ : ∃ ky,ky = n.keys[k] := ⟨_,rfl⟩
     obtain ⟨cc,ecc⟩ : ∃ cc,cc = n.chains[k]'hkc := ⟨_,rfl⟩
     rw [← eky] at c0 hky HO
     rw [← ecc] at c1 hcc HO
     clear eky ecc
     have hc2 := hcc.len
     have hkk := hky.len
     unfold maxLen at hc2 hkk
     have c0' : wr.cell? ⟨b,off + k * 1,none⟩ = some (.slice Ak ky.length C) := by rw [Nat.mul_one]; exact c0
     have c1' : wr.cell? ⟨b2,off2 + k * 1,none⟩ = some (.slice B cc.length D) := by rw [Nat.mul_one]; exact c1
     clear c0 c1
     have hout : wv (n.kids.map zaa) n.keys n.chains (k + 1) = wv (n.kids.map zaa) n.keys n.chains k ++ [⟨ky,cc⟩] := by
      rw [HO.out,List.eq_nil_of_length_eq_zero hz]; simp
     have HO2 := Lib.hid hout
     have hle : (wv (n.kids.map zaa) n.keys n.chains k).length ≤ 1000000 := by
      have h1 := wv_le (n.kids.map zaa) n.keys n.chains hkl
      have h2 := HLEN.out
      rw [HDEF.out,List.length_append] at h2
      omega
     clear hz hout HO
     go_upto_region 7 with (fail)
     have hob : ∀ k',Value.ownBlock (.slice ad ko co) = some k' → k' < wr.heap.size := fun k' hk' => (hO.block_lt k' hk').2
     refine zeq (by kernel_rfl) (by kernel_rfl) (fun A B => A.grownBy B (Value.ownBlock (.slice ad ko co))) 13 (fun i => decide (i < 13)) (by kernel_rfl) (fun i => decide (i = 14)) (by kernel_rfl) (fun _ => false) (fun A => wr.grownBy A (Value.ownBlock (.slice ad ko co))) (fun A h => zdy h _) (fun A => zi0 A _) (fun A B h k => zei h (zdy k _)) (fun A B h k => zei h k)
      [mEq (.slice ad ko co),mEq (.pointer (some ⟨w.heap.size,0,none⟩)),mEq (.slice (some ⟨b,off,none⟩) n.keys.length c1),mEq (.int .i64 k),mEq (.pointer (some ⟨b,off + k * 1,none⟩)),mEq (.slice Ak ky.length C),mEq (.pointer (some ⟨w.heap.size,0 + 1,none⟩)),mEq (.slice (some ⟨b2,off2,none⟩) n.chains.length c2),mEq (.int .i64 k),mEq (.pointer (some ⟨b2,off2 + k * 1,none⟩)),mEq (.slice B cc.length D),mEq (.agg #[.slice Ak ky.length C,.slice B cc.length D]),mRow1 77 wr.heap.size _ hob [.slice Ak ky.length C,.slice B cc.length D]]
      ⟨fun w' v => ∃ ad k6 c,v = .slice ad k6 c ∧ OwnL (Elt.pin Elt.pair S) 77 (w.heap.size + 1) 0 w' (.slice ad k6 c) (wv (n.kids.map zaa) n.keys n.chains k ++ [⟨ky,cc⟩]),fun _ _ _ ⟨ad,k,c,h,ho⟩ hb => ⟨ad,k,c,h,ho.below hb⟩⟩
      (fun _ => ⟨fun w' v => ∃ ad k6 c,v = .slice ad k6 c ∧ OwnL (Elt.pin Elt.pair S) 77 (w.heap.size + 1) 0 w' (.slice ad k6 c) (wv (n.kids.map zaa) n.keys n.chains k ++ [⟨ky,cc⟩]),fun _ _ _ ⟨ad,k,c,h,ho⟩ hb => ⟨ad,k,c,h,ho.below hb⟩⟩)
      ⟨?o0,?o1,?o2,?o3,?o4,?o5,?o6,?o7,?o8,?o9,?o10,?o11,?o12,?o13,?o14,trivial⟩ ?fin
     case o0 =>
      refine zb1.plain rfl (fun A vs w' hF hT hR h0 hu hd => ?_)
      have e1 : A.eval (.tmp 3) = .slice ad ko co := (hT 3 14 (by simp) rfl).trans (hu (.inl rfl) 14 3 rfl rfl)
      exact BigFrame.wp_move _ rfl ⟨_,rfl,e1,Below.refl _ _⟩
     case o1 =>
      refine zb1.plain rfl (fun A vs w' hF hT hR h0 hu hd => ?_)
      have e1 : A.eval (.tmp 1) = .pointer (some ⟨w.heap.size,0,none⟩) := hF 1 rfl
      exact zai ndS rfl (e1) (by omega) ⟨_,rfl,rfl,Below.refl _ _⟩
     case o2 =>
      refine zb1.plain rfl (fun A vs w' hF hT hR h0 hu hd => ?_)
      have e1 : A.eval (.tmp 25) = .pointer (some ⟨w.heap.size,0,none⟩) := (hT 25 1 (by simp) rfl).trans (hd ⟨1,.data⟩ (by simp) rfl)
      exact zad (e := 30) rfl (e1) (by kernel_rfl) (((h0 (.inl rfl)).cell (p := ⟨w.heap.size,0,none⟩) (zaj t0)).trans t0) ⟨_,rfl,rfl,Below.refl _ _⟩
     case o3 =>
      refine zb1.plain rfl (fun A vs w' hF hT hR h0 hu hd => ?_)
      have e1 : A.eval (.tmp 4) = .int .i64 k := hF 4 rfl
      exact BigFrame.wp_move _ rfl ⟨_,rfl,e1,Below.refl _ _⟩
     case o4 =>
      refine zb1.plain rfl (fun A vs w' hF hT hR h0 hu hd => ?_)
      have e1 : A.eval (.tmp 26) = .slice (some ⟨b,off,none⟩) n.keys.length c1 := (hT 26 2 (by simp) rfl).trans (hd ⟨2,.data⟩ (by simp) rfl)
      have e2 : A.eval (.tmp 27) = .int .i64 k := (hT 27 3 (by simp) rfl).trans (hd ⟨3,.data⟩ (by simp) rfl)
      exact zc1 (e := 30) rfl (by kernel_rfl) (by kernel_rfl) (e1) (e2) rfl (by omega) ⟨_,rfl,rfl,Below.refl _ _⟩
     case o5 =>
      refine zb1.plain rfl (fun A vs w' hF hT hR h0 hu hd => ?_)
      have e1 : A.eval (.tmp 28) = .pointer (some ⟨b,off + k * 1,none⟩) := (hT 28 4 (by simp) rfl).trans (hd ⟨4,.data⟩ (by simp) rfl)
      exact zad (e := 5) rfl (e1) (by kernel_rfl) (((h0 (.inl rfl)).cell (p := ⟨b,off + k * 1,none⟩) (zaj c0')).trans c0') ⟨_,rfl,rfl,Below.refl _ _⟩
     case o6 =>
      refine zb1.plain rfl (fun A vs w' hF hT hR h0 hu hd => ?_)
      have e1 : A.eval (.tmp 1) = .pointer (some ⟨w.heap.size,0,none⟩) := hF 1 rfl
      exact zai ndS rfl (e1) (by omega) ⟨_,rfl,rfl,Below.refl _ _⟩
     case o7 =>
      refine zb1.plain rfl (fun A vs w' hF hT hR h0 hu hd => ?_)
      have e1 : A.eval (.tmp 30) = .pointer (some ⟨w.heap.size,0 + 1,none⟩) := (hT 30 6 (by simp) rfl).trans (hd ⟨6,.data⟩ (by simp) rfl)
      exact zad (e := 70) rfl (e1) (by kernel_rfl) (((h0 (.inl rfl)).cell (p := ⟨w.heap.size,0 + 1,none⟩) (zaj t1)).trans t1) ⟨_,rfl,rfl,Below.refl _ _⟩
     case o8 =>
      refine zb1.plain rfl (fun A vs w' hF hT hR h0 hu hd => ?_)
      have e1 : A.eval (.tmp 4) = .int .i64 k := hF 4 rfl
      exact BigFrame.wp_move _ rfl ⟨_,rfl,e1,Below.refl _ _⟩
     case o9 =>
      refine zb1.plain rfl (fun A vs w' hF hT hR h0 hu hd => ?_)
      have e1 : A.eval (.tmp 31) = .slice (some ⟨b2,off2,none⟩) n.chains.length c2 := (hT 31 7 (by simp) rfl).trans (hd ⟨7,.data⟩ (by simp) rfl)
      have e2 : A.eval (.tmp 32) = .int .i64 k := (hT 32 8 (by simp) rfl).trans (hd ⟨8,.data⟩ (by simp) rfl)
      exact zc1 (e := 70) rfl (by kernel_rfl) (by kernel_rfl) (e1) (e2) rfl (by omega) ⟨_,rfl,rfl,Below.refl _ _⟩
     case o10 =>
      refine zb1.plain rfl (fun A vs w' hF hT hR h0 hu hd => ?_)
      have e1 : A.eval (.tmp 33) = .pointer (some ⟨b2,off2 + k * 1,none⟩) := (hT 33 9 (by simp) rfl).trans (hd ⟨9,.data⟩ (by simp) rfl)
      exact zad (e := 87) rfl (e1) (by kernel_rfl) (((h0 (.inl rfl)).cell (p := ⟨b2,off2 + k * 1,none⟩) (zaj c1')).trans c1') ⟨_,rfl,rfl,Below.refl _ _⟩
     case o11 =>
      refine zb1.plain rfl (fun A vs w' hF hT hR h0 hu hd => ?_)
      have e1 : A.eval (.tmp 29) = .slice Ak ky.length C := (hT 29 5 (by simp) rfl).trans (hd ⟨5,.data⟩ (by simp) rfl)
      have e2 : A.eval (.tmp 34) = .slice B cc.length D := (hT 34 10 (by simp) rfl).trans (hd ⟨10,.data⟩ (by simp) rfl)
      exact zkm prPP rfl e1 e2 rfl rfl ⟨_,rfl,rfl,Below.refl _ _⟩
     case o12 =>
      refine zb1.plain rfl (fun A vs w' hF hT hR h0 hu hd => ?_)
      have e1 : A.eval (.tmp 35) = .agg #[.slice Ak ky.length C,.slice B cc.length D] := (hT 35 11 (by simp) rfl).trans (hd ⟨11,.data⟩ (by simp) rfl)
      exact zb3 prP rfl e1 rfl rfl (by omega) (by omega) ⟨_,rfl,⟨_,rfl,(h0 (.inl rfl)).size,by simp only [World.alloc,Array.getElem?_push_size]⟩,(Below.refl _ _).alloc (Nat.le_refl _) _⟩
     case o13 =>
      refine zb1.plain rfl (fun A vs w' hF hT hR h0 hu hd => ?_)
      have e1 : A.eval (.tmp 24) = .slice ad ko co := (hT 24 0 (by simp) rfl).trans (hd ⟨0,.data⟩ (by simp) rfl)
      obtain ⟨b5,q0,hb5,hc5⟩ := hd ⟨12,.data⟩ (by simp) rfl
      have e4 : A.eval (.tmp 36) = .slice (some ⟨b5,0,none⟩) 1 1 := (hT 36 12 (by simp) rfl).trans q0
      have hq := (h0 (.inr rfl))
      refine zd1 (E := Elt.pin Elt.pair S) (ys := [⟨ky,cc⟩]) prP rfl e1 (hO.below hq) e4 (zkd hc5) (Flat.single (E := Elt.pin Elt.pair S) (S := S) (pin_in ⟨_,_,rfl,hky.below hq,hcc.below hq⟩)) (fun k hk => ⟨Nat.zero_le _,Nat.lt_of_lt_of_le (hSb k hk) (Nat.le_trans q.size hq.size),fun e => by have h5 := (hO.block_lt k e.symm).1; have h6 := hSb k hk; omega⟩) (Nat.le_trans hsz hq.size) (fun ad k cap w2 h2 hg h3 => ⟨_,rfl,⟨_,_,_,rfl,h2⟩,hg⟩) (by simp; omega)
     case o14 =>
      refine zb1.plain rfl (fun A vs w' hF hT hR h0 hu hd => ?_)
      obtain ⟨ad5,k5,c5,q0,hZ⟩ := hd ⟨13,.data⟩ (by simp) rfl
      exact BigFrame.wp_assign _ rfl ⟨_,rfl,⟨ad5,k5,c5,(hT 37 13 (by simp) rfl).trans q0,hZ⟩,Below.refl _ _⟩
     case fin =>
      intro vs w' hR hG
      obtain ⟨b12,e12,_⟩ := hG 12 (by decide) rfl
      obtain ⟨x13,y13,z13,e13,_⟩ := hG 13 (by decide) rfl
      obtain ⟨x14,y14,z14,e14,hO2⟩ := hG 14 (by decide) rfl
      have e0 : vs 0 = .slice ad ko co := hG 0 (by decide) rfl
      have e1 : vs 1 = .pointer (some ⟨w.heap.size,0,none⟩) := hG 1 (by decide) rfl
      have e2 : vs 2 = .slice (some ⟨b,off,none⟩) n.keys.length c1 := hG 2 (by decide) rfl
      have e3 : vs 3 = .int .i64 k := hG 3 (by decide) rfl
      have e4 : vs 4 = .pointer (some ⟨b,off + k * 1,none⟩) := hG 4 (by decide) rfl
      have e5 : vs 5 = .slice Ak ky.length C := hG 5 (by decide) rfl
      have e6 : vs 6 = .pointer (some ⟨w.heap.size,0 + 1,none⟩) := hG 6 (by decide) rfl
      have e7 : vs 7 = .slice (some ⟨b2,off2,none⟩) n.chains.length c2 := hG 7 (by decide) rfl
      have e8 : vs 8 = .int .i64 k := hG 8 (by decide) rfl
      have e9 : vs 9 = .pointer (some ⟨b2,off2 + k * 1,none⟩) := hG 9 (by decide) rfl
      have e10 : vs 10 = .slice B cc.length D := hG 10 (by decide) rfl
      have e11 : vs 11 = .agg #[.slice Ak ky.length C,.slice B cc.length D] := hG 11 (by decide) rfl
      simp only [zae,e0,e1,e2,e3,e4,e5,e6,e7,e8,e9,e10,e11,e12,e13,e14]
      clear hG e0 e1 e2 e3 e4 e5 e6 e7 e8 e9 e10 e11 e12 e13 e14
      go_simp
      have q2 : Below w.heap.size w w' := q.grown hR q.size (fun k' e => by have := (hO.block_lt k' e).1; omega)
      have hT2 : TriV w' w.heap.size 26 (.slice (some ⟨b,off,none⟩) n.keys.length c1) (.slice (some ⟨b2,off2,none⟩) n.chains.length c2) (.slice a3 n.kids.length c3) := (hR.block _ hT.lt (fun e => by have := (hO.block_lt _ e.symm).1; omega)).trans hT
      have hsz2 := Nat.le_trans hsz hR.size
      rw [← HO2.out] at hO2
      clear hR hO q hT t0 t1 t2 hsz c0' c1'
      go_wp2_with fail
      go_roundw
      case rel => exact ⟨k + 1,_,_,_,by go_num,by omega,rfl,hO2,hT2,q2,hsz2⟩
      case measure => simp [intOf]; omega
    ·have hin : n.kids.length = n.keys.length + 1 ∧ 2 ≤ zax n root ∧ ∀ m ∈ n.kids,zax m false = zax n root - 1 := by
      rcases HSH.out with h | h
      ·rw [h.1] at hz; cases hz
      ·exact ⟨h.1,h.2.2⟩
     have hkk3 : k < n.kids.length := by omega
     obtain ⟨b3,off3,x1,y1,x2,y2,x3,y3,rfl,k0,k1,k2,hkr⟩ := (r3.below q).kid k hkk3
     have hwk := zev (List.getElem_mem hkk3)
     have hform := hin.2.2 _ (List.getElem_mem hkk3)
     have hmg := Lib.hid (zj5 hkk3)
     have hf0 : 0 ≤ zax n.kids[k] false := by omega
     have hpp := zli rfl hf0
     have hplen := zfy N (n := n.kids[k]) (root := false) (by omega) hf0
     generalize hkd : n.kids[k] = kd at *
     clear hkd
     have HIN := Lib.hid hin
     have HFO := Lib.hid hform
     clear hin hform
     go_wp2_with fail
     refine (ih kd false wr S _ (by omega) (by omega) hkr (fun j hj => Nat.lt_of_lt_of_le (hSb j hj) q.size) hf0).mono ?_
     rintro e w1 ⟨ax,kx,cx,rfl,hX,hb⟩
     obtain ⟨g,us,rfl,rfl,hF,hcells⟩ := hX.someL hpp
     have hle0 : (wv (n.kids.map zaa) n.keys n.chains (k + 1)).length ≤ 1000000 := by
      have h1 := wv_le (n.kids.map zaa) n.keys n.chains (show k + 1 ≤ n.keys.length by omega)
      have h2 := HLEN.out
      rw [HDEF.out,List.length_append] at h2
      omega
     rw [wv_lt hlt HC.out.symm,hmg.out,List.length_append,List.length_append] at hle0
     clear hkr k0 k1 k2 t0 t1 t2
     go_wp2_with (first
      | (at_builtin; refine zfc (E := Elt.pin Elt.pair S) prP rfl rfl rfl (hO.below hb) rfl hcells hF.pin (fun j hj => ⟨Nat.zero_le _,hj.2,fun e => by have h5 := (hO.block_lt j e.symm).1; have h6 := hSb j hj.1; omega⟩) (Nat.le_trans hsz hb.size) ?_ (by omega); intro ad2 ko2 co2 w2 hO2 hg2 h32)
      | fail)
     replace hT : TriV w2 w.heap.size 26 (.slice a1 n.keys.length c1) (.slice a2 n.chains.length c2) (.slice (some ⟨b3,off3,none⟩) n.kids.length c3) := (hg2.block _ (hT.below hb hT.lt).lt (fun e => by have := (hO.block_lt _ e.symm).1; omega)).trans (hT.below hb hT.lt)
     replace q := (q.trans (hb.mono q.size)).grown hg2 (Nat.le_trans q.size hb.size) (fun j e => by have := (hO.block_lt j e).1; omega)
     replace hsz := Nat.le_trans (Nat.le_trans hsz hb.size) hg2.size
     clear hO hX hF hcells hb hg2 h32
     have hO := hO2
     clear hO2
     have hle : (wv (n.kids.map zaa) n.keys n.chains k).length + (zaa kd).length ≤ 1000000 := by omega
     clear hle0
     have t0 := TriV.cell0 hT
     have t1 := TriV.cell1 hT
     have t2 := TriV.cell2 hT
     have hky0 := (r1.below q).byt k hlt
     have hch0 := (r2.below q).lst k hkc
     obtain ⟨b,off,Ak,C,rfl,c0,hky⟩ := hky0
     obtain ⟨b2,off2,B,D,rfl,c1,hcc⟩ := hch0
     have HO := Lib.hid (wv_lt (ps := n.kids.map zaa) hlt HC.out.symm)
     obtain ⟨ky,eky⟩ : ∃ ky,ky = n.keys[k] := ⟨_,rfl⟩
     obtain ⟨cc,ecc⟩ : ∃ cc,cc = n.chains[k]'hkc := ⟨_,rfl⟩
     rw [← eky] at c0 hky HO
     rw [← ecc] at c1 hcc HO
     clear eky ecc
     have hc2 := hcc.len
     have hkk := hky.len
     unfold maxLen at hc2 hkk
     have c0' : w2.cell? ⟨b,off + k * 1,none⟩ = some (.slice Ak ky.length C) := by rw [Nat.mul_one]; exact c0
     have c1' : w2.cell? ⟨b2,off2 + k * 1,none⟩ = some (.slice B cc.length D) := by rw [Nat.mul_one]; exact c1
     clear c0 c1
     have hout : wv (n.kids.map zaa) n.keys n.chains (k + 1) = wv (n.kids.map zaa) n.keys n.chains k ++ zaa kd ++ [⟨ky,cc⟩] := by
      rw [HO.out,hmg.out]
     have HO2 := Lib.hid hout
     clear hout HO
     go_upto_region 7 with (fail)
     have hob : ∀ k',Value.ownBlock (.slice ad2 ko2 co2) = some k' → k' < w2.heap.size := fun k' hk' => (hO.block_lt k' hk').2
     refine zeq (by kernel_rfl) (by kernel_rfl) (fun A B => A.grownBy B (Value.ownBlock (.slice ad2 ko2 co2))) 13 (fun i => decide (i < 13)) (by kernel_rfl) (fun i => decide (i = 14)) (by kernel_rfl) (fun _ => false) (fun A => w2.grownBy A (Value.ownBlock (.slice ad2 ko2 co2))) (fun A h => zdy h _) (fun A => zi0 A _) (fun A B h k => zei h (zdy k _)) (fun A B h k => zei h k)
      [mEq (.slice ad2 ko2 co2),mEq (.pointer (some ⟨w.heap.size,0,none⟩)),mEq (.slice (some ⟨b,off,none⟩) n.keys.length c1),mEq (.int .i64 k),mEq (.pointer (some ⟨b,off + k * 1,none⟩)),mEq (.slice Ak ky.length C),mEq (.pointer (some ⟨w.heap.size,0 + 1,none⟩)),mEq (.slice (some ⟨b2,off2,none⟩) n.chains.length c2),mEq (.int .i64 k),mEq (.pointer (some ⟨b2,off2 + k * 1,none⟩)),mEq (.slice B cc.length D),mEq (.agg #[.slice Ak ky.length C,.slice B cc.length D]),mRow1 77 w2.heap.size _ hob [.slice Ak ky.length C,.slice B cc.length D]]
      ⟨fun w' v => ∃ ad k6 c,v = .slice ad k6 c ∧ OwnL (Elt.pin Elt.pair S) 77 (w.heap.size + 1) 0 w' (.slice ad k6 c) (wv (n.kids.map zaa) n.keys n.chains k ++ zaa kd ++ [⟨ky,cc⟩]),fun _ _ _ ⟨ad,k,c,h,ho⟩ hb => ⟨ad,k,c,h,ho.below hb⟩⟩
      (fun _ => ⟨fun w' v => ∃ ad k6 c,v = .slice ad k6 c ∧ OwnL (Elt.pin Elt.pair S) 77 (w.heap.size + 1) 0 w' (.slice ad k6 c) (wv (n.kids.map zaa) n.keys n.chains k ++ zaa kd ++ [⟨ky,cc⟩]),fun _ _ _ ⟨ad,k,c,h,ho⟩ hb => ⟨ad,k,c,h,ho.below hb⟩⟩)
      ⟨?o0,?o1,?o2,?o3,?o4,?o5,?o6,?o7,?o8,?o9,?o10,?o11,?o12,?o13,?o14,trivial⟩ ?fin
     case o0 =>
      refine zb1.plain rfl (fun A vs w' hF hT hR h0 hu hd => ?_)
      have e1 : A.eval (.tmp 3) = .slice ad2 ko2 co2 := (hT 3 14 (by simp) rfl).trans (hu (.inl rfl) 14 3 rfl rfl)
      exact BigFrame.wp_move _ rfl ⟨_,rfl,e1,Below.refl _ _⟩
     case o1 =>
      refine zb1.plain rfl (fun A vs w' hF hT hR h0 hu hd => ?_)
      have e1 : A.eval (.tmp 1) = .pointer (some ⟨w.heap.size,0,none⟩) := hF 1 rfl
      exact zai ndS rfl (e1) (by omega) ⟨_,rfl,rfl,Below.refl _ _⟩
     case o2 =>
      refine zb1.plain rfl (fun A vs w' hF hT hR h0 hu hd => ?_)
      have e1 : A.eval (.tmp 25) = .pointer (some ⟨w.heap.size,0,none⟩) := (hT 25 1 (by simp) rfl).trans (hd ⟨1,.data⟩ (by simp) rfl)
      exact zad (e := 30) rfl (e1) (by kernel_rfl) (((h0 (.inl rfl)).cell (p := ⟨w.heap.size,0,none⟩) (zaj t0)).trans t0) ⟨_,rfl,rfl,Below.refl _ _⟩
     case o3 =>
      refine zb1.plain rfl (fun A vs w' hF hT hR h0 hu hd => ?_)
      have e1 : A.eval (.tmp 4) = .int .i64 k := hF 4 rfl
      exact BigFrame.wp_move _ rfl ⟨_,rfl,e1,Below.refl _ _⟩
     case o4 =>
      refine zb1.plain rfl (fun A vs w' hF hT hR h0 hu hd => ?_)
      have e1 : A.eval (.tmp 26) = .slice (some ⟨b,off,none⟩) n.keys.length c1 := (hT 26 2 (by simp) rfl).trans (hd ⟨2,.data⟩ (by simp) rfl)
      have e2 : A.eval (.tmp 27) = .int .i64 k := (hT 27 3 (by simp) rfl).trans (hd ⟨3,.data⟩ (by simp) rfl)
      exact zc1 (e := 30) rfl (by kernel_rfl) (by kernel_rfl) (e1) (e2) rfl (by omega) ⟨_,rfl,rfl,Below.refl _ _⟩
     case o5 =>
      refine zb1.plain rfl (fun A vs w' hF hT hR h0 hu hd => ?_)
      have e1 : A.eval (.tmp 28) = .pointer (some ⟨b,off + k * 1,none⟩) := (hT 28 4 (by simp) rfl).trans (hd ⟨4,.data⟩ (by simp) rfl)
      exact zad (e := 5) rfl (e1) (by kernel_rfl) (((h0 (.inl rfl)).cell (p := ⟨b,off + k * 1,none⟩) (zaj c0')).trans c0') ⟨_,rfl,rfl,Below.refl _ _⟩
     case o6 =>
      refine zb1.plain rfl (fun A vs w' hF hT hR h0 hu hd => ?_)
      have e1 : A.eval (.tmp 1) = .pointer (some ⟨w.heap.size,0,none⟩) := hF 1 rfl
      exact zai ndS rfl (e1) (by omega) ⟨_,rfl,rfl,Below.refl _ _⟩
     case o7 =>
      refine zb1.plain rfl (fun A vs w' hF hT hR h0 hu hd => ?_)
      have e1 : A.eval (.tmp 30) = .pointer (some ⟨w.heap.size,0 + 1,none⟩) := (hT 30 6 (by simp) rfl).trans (hd ⟨6,.data⟩ (by simp) rfl)
      exact zad (e := 70) rfl (e1) (by kernel_rfl) (((h0 (.inl rfl)).cell (p := ⟨w.heap.size,0 + 1,none⟩) (zaj t1)).trans t1) ⟨_,rfl,rfl,Below.refl _ _⟩
     case o8 =>
      refine zb1.plain rfl (fun A vs w' hF hT hR h0 hu hd => ?_)
      have e1 : A.eval (.tmp 4) = .int .i64 k := hF 4 rfl
      exact BigFrame.wp_move _ rfl ⟨_,rfl,e1,Below.refl _ _⟩
     case o9 =>
      refine zb1.plain rfl (fun A vs w' hF hT hR h0 hu hd => ?_)
      have e1 : A.eval (.tmp 31) = .slice (some ⟨b2,off2,none⟩) n.chains.length c2 := (hT 31 7 (by simp) rfl).trans (hd ⟨7,.data⟩ (by simp) rfl)
      have e2 : A.eval (.tmp 32) = .int .i64 k := (hT 32 8 (by simp) rfl).trans (hd ⟨8,.data⟩ (by simp) rfl)
      exact zc1 (e := 70) rfl (by kernel_rfl) (by kernel_rfl) (e1) (e2) rfl (by omega) ⟨_,rfl,rfl,Below.refl _ _⟩
     case o10 =>
      refine zb1.plain rfl (fun A vs w' hF hT hR h0 hu hd => ?_)
      have e1 : A.eval (.tmp 33) = .pointer (some ⟨b2,off2 + k * 1,none⟩) := (hT 33 9 (by simp) rfl).trans (hd ⟨9,.data⟩ (by simp) rfl)
      exact zad (e := 87) rfl (e1) (by kernel_rfl) (((h0 (.inl rfl)).cell (p := ⟨b2,off2 + k * 1,none⟩) (zaj c1')).trans c1') ⟨_,rfl,rfl,Below.refl _ _⟩
     case o11 =>
      refine zb1.plain rfl (fun A vs w' hF hT hR h0 hu hd => ?_)
      have e1 : A.eval (.tmp 29) = .slice Ak ky.length C := (hT 29 5 (by simp) rfl).trans (hd ⟨5,.data⟩ (by simp) rfl)
      have e2 : A.eval (.tmp 34) = .slice B cc.length D := (hT 34 10 (by simp) rfl).trans (hd ⟨10,.data⟩ (by simp) rfl)
      exact zkm prPP rfl e1 e2 rfl rfl ⟨_,rfl,rfl,Below.refl _ _⟩
     case o12 =>
      refine zb1.plain rfl (fun A vs w' hF hT hR h0 hu hd => ?_)
      have e1 : A.eval (.tmp 35) = .agg #[.slice Ak ky.length C,.slice B cc.length D] := (hT 35 11 (by simp) rfl).trans (hd ⟨11,.data⟩ (by simp) rfl)
      exact zb3 prP rfl e1 rfl rfl (by omega) (by omega) ⟨_,rfl,⟨_,rfl,(h0 (.inl rfl)).size,by simp only [World.alloc,Array.getElem?_push_size]⟩,(Below.refl _ _).alloc (Nat.le_refl _) _⟩
     case o13 =>
      refine zb1.plain rfl (fun A vs w' hF hT hR h0 hu hd => ?_)
      have e1 : A.eval (.tmp 24) = .slice ad2 ko2 co2 := (hT 24 0 (by simp) rfl).trans (hd ⟨0,.data⟩ (by simp) rfl)
      obtain ⟨b5,q0,hb5,hc5⟩ := hd ⟨12,.data⟩ (by simp) rfl
      have e4 : A.eval (.tmp 36) = .slice (some ⟨b5,0,none⟩) 1 1 := (hT 36 12 (by simp) rfl).trans q0
      have hq := (h0 (.inr rfl))
      refine zd1 (E := Elt.pin Elt.pair S) (ys := [⟨ky,cc⟩]) prP rfl e1 (hO.below hq) e4 (zkd hc5) (Flat.single (E := Elt.pin Elt.pair S) (S := S) (pin_in ⟨_,_,rfl,hky.below hq,hcc.below hq⟩)) (fun k hk => ⟨Nat.zero_le _,Nat.lt_of_lt_of_le (hSb k hk) (Nat.le_trans q.size hq.size),fun e => by have h5 := (hO.block_lt k e.symm).1; have h6 := hSb k hk; omega⟩) (Nat.le_trans hsz hq.size) (fun ad k cap w2 h2 hg h3 => ⟨_,rfl,⟨_,_,_,rfl,h2⟩,hg⟩) (by simp; omega)
     case o14 =>
      refine zb1.plain rfl (fun A vs w' hF hT hR h0 hu hd => ?_)
      obtain ⟨ad5,k5,c5,q0,hZ⟩ := hd ⟨13,.data⟩ (by simp) rfl
      exact BigFrame.wp_assign _ rfl ⟨_,rfl,⟨ad5,k5,c5,(hT 37 13 (by simp) rfl).trans q0,hZ⟩,Below.refl _ _⟩
     case fin =>
      intro vs w' hR hG
      obtain ⟨b12,e12,_⟩ := hG 12 (by decide) rfl
      obtain ⟨x13,y13,z13,e13,_⟩ := hG 13 (by decide) rfl
      obtain ⟨x14,y14,z14,e14,hO2⟩ := hG 14 (by decide) rfl
      have e0 : vs 0 = .slice ad2 ko2 co2 := hG 0 (by decide) rfl
      have e1 : vs 1 = .pointer (some ⟨w.heap.size,0,none⟩) := hG 1 (by decide) rfl
      have e2 : vs 2 = .slice (some ⟨b,off,none⟩) n.keys.length c1 := hG 2 (by decide) rfl
      have e3 : vs 3 = .int .i64 k := hG 3 (by decide) rfl
      have e4 : vs 4 = .pointer (some ⟨b,off + k * 1,none⟩) := hG 4 (by decide) rfl
      have e5 : vs 5 = .slice Ak ky.length C := hG 5 (by decide) rfl
      have e6 : vs 6 = .pointer (some ⟨w.heap.size,0 + 1,none⟩) := hG 6 (by decide) rfl
      have e7 : vs 7 = .slice (some ⟨b2,off2,none⟩) n.chains.length c2 := hG 7 (by decide) rfl
      have e8 : vs 8 = .int .i64 k := hG 8 (by decide) rfl
      have e9 : vs 9 = .pointer (some ⟨b2,off2 + k * 1,none⟩) := hG 9 (by decide) rfl
      have e10 : vs 10 = .slice B cc.length D := hG 10 (by decide) rfl
      have e11 : vs 11 = .agg #[.slice Ak ky.length C,.slice B cc.length D] := hG 11 (by decide) rfl
      simp only [zae,e0,e1,e2,e3,e4,e5,e6,e7,e8,e9,e10,e11,e12,e13,e14]
      clear hG e0 e1 e2 e3 e4 e5 e6 e7 e8 e9 e10 e11 e12 e13 e14
      go_simp
      have q2 : Below w.heap.size w w' := q.grown hR q.size (fun k' e => by have := (hO.block_lt k' e).1; omega)
      have hT2 : TriV w' w.heap.size 26 (.slice (some ⟨b,off,none⟩) n.keys.length c1) (.slice (some ⟨b2,off2,none⟩) n.chains.length c2) (.slice (some ⟨b3,off3,none⟩) n.kids.length c3) := (hR.block _ hT.lt (fun e => by have := (hO.block_lt _ e.symm).1; omega)).trans hT
      have hsz2 := Nat.le_trans hsz hR.size
      rw [← HO2.out] at hO2
      clear hR hO q hT t0 t1 t2 hsz c0' c1'
      go_wp2_with fail
      go_roundw
      case rel => exact ⟨k + 1,_,_,_,by go_num,by omega,rfl,hO2,hT2,q2,hsz2⟩
      case measure => simp [intOf]; omega
   ·obtain rfl : k = n.keys.length := by omega
    rcases Nat.eq_zero_or_pos n.kids.length with hz | hz
    ·have hz' : ¬ 0 < n.kids.length := by omega
     have hres : zaa n = wv (n.kids.map zaa) n.keys n.chains n.keys.length := by
      rw [HDEF.out,List.eq_nil_of_length_eq_zero hz]; simp
     have HR := Lib.hid hres
     clear hz hres
     go_wp2_with fail
     go_ret
     rw [HR.out]
     exact ⟨_,_,_,rfl,hO.to (Nat.le_succ _) (Nat.le_refl _),q⟩
    ·have hin : n.kids.length = n.keys.length + 1 ∧ 2 ≤ zax n root ∧ ∀ m ∈ n.kids,zax m false = zax n root - 1 := by
      rcases HSH.out with h | h
      ·rw [h.1] at hz; cases hz
      ·exact ⟨h.1,h.2.2⟩
     have hkk3 : n.keys.length < n.kids.length := by omega
     have hl1 : (n.kids.length : Int) - 1 = (n.keys.length : Int) := by omega
     obtain ⟨b3,off3,x1,y1,x2,y2,x3,y3,rfl,k0,k1,k2,hkr⟩ := (r3.below q).kid n.keys.length hkk3
     have hwk := zev (List.getElem_mem hkk3)
     have hform := hin.2.2 _ (List.getElem_mem hkk3)
     have hres : zaa n = wv (n.kids.map zaa) n.keys n.chains n.keys.length ++ zaa n.kids[n.keys.length] := by
      rw [HDEF.out,show n.kids.length - 1 = n.keys.length by omega,zj5 hkk3]
     have HR := Lib.hid hres
     clear hres
     have hf0 : 0 ≤ zax n.kids[n.keys.length] false := by omega
     have hpp := zli rfl hf0
     have hplen := zfy N (n := n.kids[n.keys.length]) (root := false) (by omega) hf0
     have hle0 := HLEN.out
     rw [HR.out,List.length_append] at hle0
     generalize hkd : n.kids[n.keys.length] = kd at *
     clear hkd
     have HIN := Lib.hid hin
     have HFO := Lib.hid hform
     clear hin hform
     go_wp2_with fail
     refine (ih kd false wr S _ (by omega) (by omega) hkr (fun j hj => Nat.lt_of_lt_of_le (hSb j hj) q.size) hf0).mono ?_
     rintro e w1 ⟨ax,kx,cx,rfl,hX,hb⟩
     obtain ⟨g,us,rfl,rfl,hF,hcells⟩ := hX.someL hpp
     clear hkr k0 k1 k2 t0 t1 t2
     go_wp2_with (first
      | (at_builtin; refine zfc (E := Elt.pin Elt.pair S) prP rfl rfl rfl (hO.below hb) rfl hcells hF.pin (fun j hj => ⟨Nat.zero_le _,hj.2,fun e => by have h5 := (hO.block_lt j e.symm).1; have h6 := hSb j hj.1; omega⟩) (Nat.le_trans hsz hb.size) ?_ (by omega); intro ad2 ko2 co2 w2 hO2 hg2 h32)
      | fail)
     replace q := (q.trans (hb.mono q.size)).grown hg2 (Nat.le_trans q.size hb.size) (fun j e => by have := (hO.block_lt j e).1; omega)
     go_ret
     rw [HR.out]
     exact ⟨_,_,_,rfl,hO2.to (Nat.le_succ _) (Nat.le_refl _),q⟩
theorem zgt(N:Nat):zkh N:=by
 induction N with
 | zero =>
  intro n root w S v h
  have:=zfn n
  omega
 | succ N ih=>exact zjr N ih
mutual
def bndN:Nd→Prop
 | .mk ks cs ns=>(∀ k∈ks,k.length≤1000)∧(∀ c∈cs,zbq c)∧bndL ns
def bndL:List Nd→Prop
 | []=>True
 | n::ns=>bndN n∧bndL ns
end
theorem zop:∀(ns:List Nd),bndL ns↔∀ m∈ns,bndN m
 | []=>by simp [bndL]
 | n::ns=>by simp [bndL,zop ns]
theorem zfb(n:Nd):bndN n↔(∀ k∈n.keys,k.length≤1000)∧(∀ c∈n.chains,zbq c)∧∀ m∈n.kids,bndN m:=by
 cases n with
 | mk ks cs ns=>rw [bndN,zop];rfl
def fitN(n:Nd):Prop:=wN n≤100000∧bndN n
theorem wL_le {K:Nat}:∀ {ns:List Nd},(∀ m∈ns,5*wN m+19≤K)→5*wL ns+19*ns.length≤ns.length*K
 | [],_=>by simp [wL]
 | n::ns,h=>by
  have h1:=h n (by simp)
  have h2:=wL_le (ns:=ns) fun m hm=>h m (by simp [hm])
  rw [wL,List.length_cons,Nat.add_mul]
  omega
theorem zhn : ∀ (t : Nat) {n : Nd},zcj t n = true → bndN n ∧ 5 * wN n + 19 ≤ 19 * 6 ^ t
 | 0,n,h => by simp [zcj] at h
 | t + 1,n,h => by
  simp only [zcj,Bool.and_eq_true,decide_eq_true_eq,List.all_eq_true] at h
  obtain ⟨⟨⟨⟨⟨h1,h2⟩,h3⟩,h4⟩,h5⟩,h6⟩ := h
  refine ⟨(zfb n).2 ⟨fun k hk => by have := h4 k hk; omega,fun c hc => ?_,fun m hm => (zhn t (h6 m hm)).1⟩,?_⟩
  ·obtain ⟨h7,h8⟩ := h5 c hc
   exact ⟨by omega,fun x hx => by have := h8 x hx; omega⟩
  ·have h7 := wL_le (K := 19 * 6 ^ t) fun m hm => (zhn t (h6 m hm)).2
   have h8 : wN n = 1 + n.keys.length + n.chains.length + n.kids.length + wL n.kids := by cases n; rw [wN]; rfl
   have h10 : 6 ^ (t + 1) = 6 * 6 ^ t := by rw [Nat.pow_succ]; omega
   have h11 : 0 < 6 ^ t := Nat.pow_pos (by omega)
   rcases (show n.kids.length = 0 ∨ n.kids.length = 1 ∨ n.kids.length = 2 ∨ n.kids.length = 3 ∨ n.kids.length = 4 ∨ n.kids.length = 5 ∨ n.kids.length = 6 by omega) with h12 | h12 | h12 | h12 | h12 | h12 | h12
   all_goals rw [h12] at h7 h8; omega
theorem zo2 {n:Nd}(h:zcj 5 n=true):fitN n:=by
 obtain⟨h1,h2⟩:=zhn 5 h
 exact⟨by omega,h1⟩
theorem zq2 {ps:List (List Pr)} {ks:List (List UInt8)} {cs:List (List Ver)}:∀ {i j:Nat},j<i→(⟨ks.getD j [],cs.getD j []⟩:Pr)∈wv ps ks cs i∧∀ p∈ps.getD j [],p∈wv ps ks cs i
 | 0,_,h=>absurd h (Nat.not_lt_zero _)
 | i+1,j,h=>by
  rw [wv]
  rcases Nat.lt_or_ge j i with h1 | h1
  ·obtain⟨h2,h3⟩:=zq2 (ps:=ps) (ks:=ks) (cs:=cs) h1
   exact⟨List.mem_append_left _ (List.mem_append_left _ h2),fun p hp=>List.mem_append_left _ (List.mem_append_left _ (h3 p hp))⟩
  ·obtain rfl:j=i:=by omega
   exact⟨List.mem_append_right _ (List.mem_singleton.2 rfl),fun p hp=>List.mem_append_left _ (List.mem_append_right _ hp)⟩
theorem zl4 : ∀ (N : Nat) {n : Nd} {root : Bool},wN n ≤ N → 0 ≤ zax n root → (∀ p ∈ zaa n,p.key.length ≤ 1000 ∧ zbq p.chain) → bndN n
 | 0,n,_,h,_,_ => by have := zfn n; omega
 | N + 1,n,root,hN,hd,hp => by
  obtain ⟨hc,_,_,hsh⟩ := zcb rfl hd
  have hpd := zd8 n
  have hin : ∀ j,j < n.keys.length → (⟨n.keys.getD j [],n.chains.getD j []⟩ : Pr) ∈ zaa n := fun j hj => by
   rw [hpd]; exact List.mem_append_left _ (zq2 hj).1
  refine (zfb n).2 ⟨fun k hk => ?_,fun c hc2 => ?_,fun m hm => ?_⟩
  ·obtain ⟨j,hj,rfl⟩ := List.mem_iff_getElem.1 hk
   have := (hp _ (hin j hj)).1
   rw [List.getD_eq_getElem?_getD,List.getElem?_eq_getElem hj] at this
   exact this
  ·obtain ⟨j,hj,rfl⟩ := List.mem_iff_getElem.1 hc2
   have := (hp _ (hin j (by omega))).2
   simp only [List.getD_eq_getElem?_getD,List.getElem?_eq_getElem hj] at this
   exact this
  ·rcases hsh with ⟨h1,_⟩ | ⟨h1,h2,h3,h4⟩
   ·rw [h1] at hm; cases hm
   ·have h5 := zev hm
    have h6 := h4 m hm
    refine zl4 N (n := m) (root := false) (by omega) (by omega) fun p hpm => hp p ?_
    obtain ⟨j,hj,rfl⟩ := List.mem_iff_getElem.1 hm
    rw [hpd]
    rcases Nat.lt_or_ge j n.keys.length with h7 | h7
    ·exact List.mem_append_left _ ((zq2 h7).2 p (by rw [zj5 hj]; exact hpm))
    ·obtain rfl : j = n.kids.length - 1 := by omega
     exact List.mem_append_right _ (by rw [zj5 hj]; exact hpm)
def fewP(l:List Pr):Prop:=l.length≤2000∧∀ p∈l,zbq p.chain
theorem zix {n:Nd} (h:okN n) (hf:fewP (zaa n)):fitN n:=by
 have h1:=(zgs (wN n) (Nat.le_refl _) h.1).1
 have h2:=hf.1
 refine⟨by omega,zl4 (wN n) (Nat.le_refl _) h.1 fun p hp=>⟨?_,hf.2 p hp⟩⟩
 have:=((zco _).1 h.2).1 p hp
 have:=this.2.2
 omega
theorem znc {l:List Pr}(hs:Srt l)(hf:∀ p∈l,zbq p.chain) {k:List UInt8} {c:List Ver}(hc:zbq c):∀ p∈putP l k c,zbq p.chain:=fun p hp=>by
 rw [zdw hs] at hp
 rcases zgm hp with rfl|hp
 ·exact hc
 ·exact hf p hp
def KeysEnd (w:World) (l:List (List UInt8)) (e:Ending) (w':World):Prop :=
 ∃ a c,e=.returned (.slice a l.length c)∧RdL Elt.bytes (fun k=>w.heap.size≤k∧k<w'.heap.size) w' (.slice a l.length c) l∧Below w.heap.size w w'
def zkj (w:World) (r:Option (List Ver)) (e:Ending) (w':World):Prop :=
 ∃ a c,e=.returned (.tuple #[.slice a (r.getD []).length c,.bool r.isSome])∧RdL Elt.ver (fun k=>w.heap.size≤k∧k<w'.heap.size) w' (.slice a (r.getD []).length c) (r.getD [])∧Below w.heap.size w w'
def zki (w:World) (r:Option (List UInt8)) (e:Ending) (w':World):Prop :=
 ∃ a c,e=.returned (.tuple #[.slice a (r.getD []).length c,.bool r.isSome])∧RdS (fun k=>w.heap.size≤k∧k<w'.heap.size) w' (.slice a (r.getD []).length c) (r.getD [])∧Below w.heap.size w w'
def zr2 (w:World) (Q:Nd→Nat→Prop) (e:Ending) (w':World):Prop :=
 ∃ v n er,e=.returned (.tuple #[v,.int .i64 (er:Nat)])∧Q n er∧RdN (fun k=>w.heap.size≤k∧k<w'.heap.size) w' v n∧Below w.heap.size w w'
def zf8:Obj:=.cells #[.slice none 0 0,.slice none 0 0,.slice none 0 0] 26 (0,0)
def zf7 (n:Nd) (k:List UInt8) (c:List Ver) (m:Nd) (er:Nat):Prop :=
 if okN n∧k.length≤16∧okV c∧c≠[] then er=0∧okN m∧zaa m=putP (zaa n) k c else er=1∧m=n
def zkk (n:Nd) (k:List UInt8) (m:Nd) (er:Nat):Prop :=
 if okN n then (if (zaw (zaa n) k).isSome then er=0∧okN m∧zaa m=delP (zaa n) k else er=61∧m=n) else er=1∧m=n
section
variable {P : Program} {t e : TypeId} {n : Nat} {o : Oper} {a : Act} {K : Act → World → Prop} {Q : Exit → Act → World → Prop} {w : World} {ops : Array Oper} {rest : List Oper}
theorem zpr (hs : (P.info? t).map (·.size) = some 3) {x y : Operand} {b : Nat} {u v r p q s : Value} (ho : o.op = .store t x y) (hx : a.eval x = .pointer (some ⟨b,0,none⟩)) (hy : a.eval y = .agg #[u,v,r]) (hu1 : u.oneCell' = true) (hv1 : v.oneCell' = true) (hr1 : r.oneCell' = true) (hb : TriV w b t p q s)
  (h : ∀ w',w.grownBy w' (some b) → TriV w' b t u v r → K (a.put o.dst undef) w') : o.wp P a w K Q := by
 refine wp_store_row t x y ho b #[u,v,r] hx hy t #[p,q,s] hb hs rfl (by simp [hu1,hv1,hr1]) (h _ ⟨rfl,rfl,rfl,by simp [World.setRow],fun k _ hk => ?_⟩ ?_)
 ·have hkb : k ≠ b := fun e => hk (by rw [e])
  simp [World.setRow,Array.getElem?_modify,Ne.symm hkb]
 ·unfold TriV at hb ⊢
  simp [World.setRow,Array.getElem?_modify,hb]
theorem za4 (hs : (P.info? t).map (·.size) = some 3) {x y : Operand} {b : Nat} {u v r p q s : Value} (ho : o.op = .store t x y) (hd : o.dst = none) (hgd : Region.wanted o (yielded ops a.tmps) = true) (hx : a.eval x = .pointer (some ⟨b,0,none⟩)) (hy : a.eval y = .agg #[u,v,r]) (hu1 : u.oneCell' = true) (hv1 : v.oneCell' = true) (hr1 : r.oneCell' = true) (hb : TriV w b t p q s)
  (h : ∀ w',w.grownBy w' (some b) → TriV w' b t u v r → wpList P ops Q rest a w') : wpList P ops Q (o :: rest) a w :=
 BigFrame.wpList_want hgd fun _ hK => zpr hs ho hx hy hu1 hv1 hr1 hb fun w' h3 h4 => hK _ _ (by rw [hd]; exact h w' h3 h4)
end
def BoxN (W:World) (b:Nat) (t:TypeId) (vs:List Value):Prop:=W.heap[b]?=some (.cells vs.toArray t (0,0))
section
variable {W W' : World} {b : Nat} {t : TypeId} {vs : List Value}
theorem BoxN.new (W:World) (t:TypeId) (vs:List Value):BoxN (W.alloc (.cells vs.toArray t)) W.heap.size t vs:=by unfold BoxN;simp only [World.alloc,Array.getElem?_push_size]
theorem BoxN.lt(h:BoxN W b t vs):b<W.heap.size:=(Array.getElem?_eq_some_iff.1 h).1
theorem BoxN.cell (h : BoxN W b t vs) {i : Nat} {u : Value} (hi : vs[i]? = some u) : W.cell? ⟨b,i,none⟩ = some u := by simp [World.cell?,show W.heap[b]? = _ from h,hi]
theorem BoxN.frozen (h : BoxN W b t vs) (i : Nat) : W.frozen? ⟨b,i,none⟩ = false := by simp [World.frozen?,show W.heap[b]? = _ from h]
theorem BoxN.below {n:Nat}(h:BoxN W b t vs)(hb:Below n W W')(hn:b<n):BoxN W' b t vs:=(hb.block b hn).trans h
theorem BoxN.other {c:Option Nat}(h:BoxN W b t vs)(hg:W.grownBy W' c)(hn:c≠some b):BoxN W' b t vs:=(hg.block b h.lt fun e=>hn e.symm).trans h
end
section
variable {P : Program} {t : TypeId} {n : Nat} {ops : Array Oper} {rest : List Oper} {o : Oper} {a : Act} {K : Act → World → Prop} {Q : Exit → Act → World → Prop} {w : World}
theorem zpx {vs : List Value} (hz : (P.info? t).bind (·.zero) = some (.agg vs.toArray)) (ho : o.op = .alloc t) (h : ∀ w',Below w.heap.size w w' → BoxN w' w.heap.size t vs → K (a.put o.dst (.pointer (some ⟨w.heap.size,0,none⟩))) w') : o.wp P a w K Q := by
 have hzz : (zeroValue t).run P w = .ok (.agg vs.toArray) w := by
  cases hi : P.info? t with
  | none => simp [hi] at hz
  | some i => simp [hi] at hz; simp [zeroValue,typeInfo,hi,hz]
 have hrun : (execOp a.eval o).run P w = .ok (.value (.pointer (some ⟨w.heap.size,0,none⟩))) (w.alloc (.cells vs.toArray t)) := by
  simp [execOp,ho,newVar,hzz,Value.cells,go_sem]
 unfold Oper.wp
 rw [hrun]
 exact h _ ((Below.refl _ _).alloc (Nat.le_refl _) _) (BoxN.new w t vs)
theorem zbf {vs : List Value} (hz : (P.info? t).bind (·.zero) = some (.agg vs.toArray)) (ho : o.op = .alloc t) (hgd : Region.wanted o (yielded ops a.tmps) = true) (h : ∀ w',Below w.heap.size w w' → BoxN w' w.heap.size t vs → wpList P ops Q rest (a.put o.dst (.pointer (some ⟨w.heap.size,0,none⟩))) w') : wpList P ops Q (o :: rest) a w :=
 BigFrame.wpList_want hgd fun _ hK => zpx hz ho fun w' h1 h2 => hK _ _ (h w' h1 h2)
theorem zhb {vs us : List Value} {x y : Operand} {b : Nat} (hs : (P.info? t).map (·.size) = some us.length) (ho : o.op = .store t x y) (hx : a.eval x = .pointer (some ⟨b,0,none⟩)) (hy : a.eval y = .agg us.toArray) (h1 : us.all (·.oneCell') = true) (hb : BoxN w b t vs) (hl : vs.length = us.length)
  (h : ∀ w',w.grownBy w' (some b) → BoxN w' b t us → K (a.put o.dst undef) w') : o.wp P a w K Q := by
 refine wp_store_row t x y ho b us.toArray hx hy t vs.toArray hb (by simpa using hs) (by simp [hl]) (by simpa using h1) (h _ ⟨rfl,rfl,rfl,by simp [World.setRow],fun k _ hk => ?_⟩ ?_)
 ·have hkb : k ≠ b := fun e => hk (by rw [e])
  simp [World.setRow,Array.getElem?_modify,Ne.symm hkb]
 ·unfold BoxN at hb ⊢
  simp [World.setRow,Array.getElem?_modify,hb]
theorem zam {vs us : List Value} {x y : Operand} {b : Nat} (hs : (P.info? t).map (·.size) = some us.length) (ho : o.op = .store t x y) (hd : o.dst = none) (hgd : Region.wanted o (yielded ops a.tmps) = true) (hx : a.eval x = .pointer (some ⟨b,0,none⟩)) (hy : a.eval y = .agg us.toArray) (h1 : us.all (·.oneCell') = true) (hb : BoxN w b t vs) (hl : vs.length = us.length)
  (h : ∀ w',w.grownBy w' (some b) → BoxN w' b t us → wpList P ops Q rest a w') : wpList P ops Q (o :: rest) a w :=
 BigFrame.wpList_want hgd fun _ hK => zhb hs ho hx hy h1 hb hl fun w' h3 h4 => hK _ _ (by rw [hd]; exact h w' h3 h4)
theorem zpv {t2 : TypeId} {vs : List Value} {x y : Operand} {b j : Nat} {u : Value} (ho : o.op = .store t2 x y) (hs : (P.info? t2).map (·.size) = some 1) (hx : a.eval x = .pointer (some ⟨b,j,none⟩)) (hy : a.eval y = u) (hu : u.cells = #[u]) (h1 : u.oneCell' = true) (hb : BoxN w b t vs) (hj : j < vs.length)
  (h : ∀ w',w.grownBy w' (some b) → BoxN w' b t (vs.set j u) → K (a.put o.dst undef) w') : o.wp P a w K Q := by
 have hc := hb.cell (i := j) (List.getElem?_eq_getElem hj)
 have hf := hb.frozen j
 refine zep ?_ (h (w.setCell ⟨b,j,none⟩ u) ⟨rfl,rfl,rfl,by simp [World.setCell],fun k _ hk => heap_setCell_other _ ⟨b,j,none⟩ k _ fun e => hk (by rw [e])⟩ ?_)
 ·simp only [execOp,ho,hx,hy]
  have hu' := hu
  unfold Value.cells at hu'
  simp [Instr.storeAt,storeVar,zab hs,storeCells,hu',run_store _ _ _ _ _ h1,hc,hf,Addr.add,go_sem]
 ·unfold BoxN at hb ⊢
  simp only [World.setCell,Array.getElem?_modify,hb]
  simp
theorem zc8 {t2 : TypeId} {vs : List Value} {x y : Operand} {b j : Nat} {u : Value} (ho : o.op = .store t2 x y) (hd : o.dst = none) (hgd : Region.wanted o (yielded ops a.tmps) = true) (hs : (P.info? t2).map (·.size) = some 1) (hx : a.eval x = .pointer (some ⟨b,j,none⟩)) (hy : a.eval y = u) (hu : u.cells = #[u]) (h1 : u.oneCell' = true) (hb : BoxN w b t vs) (hj : j < vs.length)
  (h : ∀ w',w.grownBy w' (some b) → BoxN w' b t (vs.set j u) → wpList P ops Q rest a w') : wpList P ops Q (o :: rest) a w :=
 BigFrame.wpList_want hgd fun _ hK => zpv ho hs hx hy hu h1 hb hj fun w' h3 h4 => hK _ _ (by rw [hd]; exact h w' h3 h4)
theorem zi7 (hP : StP P t 4) {x : Operand} {b off : Nat} {u v r s : Value} (ho : o.op = .load t x) (hx : a.eval x = .pointer (some ⟨b,off,none⟩)) (h0 : w.cell? ⟨b,off,none⟩ = some u) (h1 : w.cell? ⟨b,off + 1,none⟩ = some v) (h2 : w.cell? ⟨b,off + 2,none⟩ = some r) (h3 : w.cell? ⟨b,off + 3,none⟩ = some s) (h : K (a.put o.dst (.agg #[u,v,r,s])) w) : o.wp P a w K Q := by
 obtain ⟨fs,hu,hfs,hf⟩ := hP.hu
 refine zdz ?_ h
 simp only [execOp,ho,hx]
 simp [Instr.loadAt,loadVar,isAgg,run_underlying hu,zab hP.hs,loadCellsFrom,Addr.add,h0,h1,h2,h3,go_sem]
end
def zgo {α:Type} (P:Program) (t:TypeId) (E:Elt α):Prop :=
 ∀ {H:Type} {enc:TypeId×Value→H} {w:World} {base:Nat} {held:Bool} {fuel:Nat} {cs:List Value} {x:DataW H×List MemPlace},DataW.trod enc P w base (fun _=>true) held fuel t cs=some x→∃ d,E.R (·<w.heap.size) w d cs
theorem zfk {α:Type} {p:Nat→α→Prop}:∀ n,(∀ i,i<n→∃ d,p i d)→∃ l:List α,l.length=n∧∀ i (h:i<l.length),p i l[i]
 | 0,_=>⟨[],rfl,fun i h=>absurd h (Nat.not_lt_zero _)⟩
 | n+1,h=>by
  obtain⟨l,hl,hp⟩:=zfk n (fun i hi=>h i (by omega))
  obtain⟨d,hd⟩:=h n (Nat.lt_succ_self n)
  refine⟨l++[d],by simp [hl],fun i hi=>?_⟩
  rcases Nat.lt_or_ge i l.length with h1 | h1
  ·rw [List.getElem_append_left h1];exact hp i h1
  ·rw [List.length_append] at hi
   simp only [List.length_cons,List.length_nil] at hi
   obtain rfl:i=l.length:=by omega
   rw [List.getElem_append_right (Nat.le_refl _)]
   simp only [Nat.sub_self,List.getElem_cons_zero]
   rw [hl];exact hd
section
variable {P : Program} {t e : TypeId}
theorem zgo.bytes (ht : P.underlying t = some (.slice e)) (he : P.underlying e = some (.int .u8)) (hc : P.cellsOf e = 1) : zgo P t Elt.bytes := by
 intro H enc w base held fuel cs x h
 rcases open_ints ht he hc h with ⟨hcs,_⟩ | ⟨x,l,c,zs,hcs,_,hl,hm,hz,_,hcell,hwz⟩
 ·exact ⟨_,_,hcs,(Rd.of_row (.inl ⟨rfl,rfl,rfl,rfl⟩)).s⟩
 ·exact ⟨_,_,hcs,(Rd.of_row (.inr ⟨_,rfl,hl,hm,by simpa using hz,hcell,hwz⟩)).s⟩
theorem zgo.list {α : Type} {E : Elt α} (ht : P.underlying t = some (.slice e)) (hc : P.cellsOf e = E.size) (hE : zgo P e E) : zgo P t (Elt.list E) := by
 intro H enc w base held fuel cs x h
 rcases open_slice ht h with ⟨rfl,_⟩ | ⟨a,len,cap,m,n,D,Pl,rfl,hb,hl,hm,hmm,_,hi⟩
 ·exact ⟨[],_,rfl,RdL.nil _ _ _⟩
 ·have hlm : len ≤ m := by rw [hmm]; split <;> omega
  obtain ⟨l,hll,hp⟩ := zfk (p := fun i d => ∃ cs',E.R (· < w.heap.size) w d cs' ∧ ∀ j,j < cs'.length → w.cell? (a.add (i * E.size + j)) = cs'[j]?) len (fun i hil => by
   obtain ⟨cs',h1,h2⟩ := hi i (by omega)
   obtain ⟨d,hd⟩ := hE h2
   obtain ⟨_,hcl,hat⟩ := World.cells?_some h1
   refine ⟨d,cs',hd,fun j hj => ?_⟩
   have := hat j (by omega)
   rw [add_add,hc] at this
   exact this)
  refine ⟨l,_,rfl,?_⟩
  rw [← hll] at hl ⊢
  refine ⟨some a,cap,rfl,hl,hm,?_⟩
  rcases Nat.eq_zero_or_pos l.length with h0 | h0
  ·exact .inl (List.eq_nil_of_length_eq_zero h0)
  ·obtain ⟨cs0,hR0,hc0⟩ := hp 0 h0
   have hl0 := E.len hR0
   have hpos := E.pos
   have hcell := hc0 0 (by omega)
   rw [List.getElem?_eq_getElem (by omega)] at hcell
   obtain ⟨b,off,spot⟩ := a
   have hspot : spot = none := by simpa [Addr.add] using World.cell?_spot hcell
   subst hspot
   have hblt := World.block_lt_of_cell? w _ hcell
   refine .inr ⟨b,off,rfl,by simpa [Addr.add_lit] using hblt,fun r hr => ?_⟩
   obtain ⟨cs',hR,hcs⟩ := hp r hr
   refine ⟨cs',hR,fun j u hj => ?_⟩
   have := hcs j (List.getElem?_eq_some_iff.1 hj).1
   rw [hj,Addr.add_lit,← Nat.add_assoc] at this
   exact this
end
section
variable {K α : Type} [DecidableEq K] (lt : K → K → Bool) (key : α → K)
def SrtE (l:List α):Prop:=l.Pairwise fun a b=>lt (key a) (key b)=true
variable {lt key}
end
structure Wr where
 table:Int
 key:List UInt8
 gone:Bool
 val:List UInt8
deriving DecidableEq
structure Pq where
 key:List UInt8
 val:List UInt8
deriving DecidableEq
structure Dl where
 writes:List Wr
 marks:List Int
deriving DecidableEq
structure Sp where
 table:Int
 lo:List UInt8
 hi:List UInt8
 isOpen:Bool
deriving DecidableEq
def mayW(w:Wr):Prop:=0≤w.table∧w.table≤3∧w.key.length≤16∧w.val.length≤32∧(w.gone=true→w.val=[])
instance (w:Wr):Decidable (mayW w):=by unfold mayW;exact inferInstance
def okM(n:Int):Int→List Int→Prop
 | _,[]=>True
 | l,m::ms=>l≤m∧m≤n∧okM n m ms
instance decM (n:Int):∀ l ms,Decidable (okM n l ms)
 | _,[]=>isTrue trivial
 | l,m::ms=>by unfold okM;have:=decM n m ms;exact inferInstance
def okD(d:Dl):Prop:=d.writes.length≤20∧d.marks.length≤4∧(∀ w∈d.writes,mayW w)∧okM d.writes.length 0 d.marks
instance (d:Dl):Decidable (okD d):=by unfold okD;exact inferInstance
def inS(x:Sp)(k:List UInt8):Bool:=!ltB k x.lo&&(x.isOpen||ltB k x.hi)
abbrev SrtQ(l:List Pq):Prop:=SrtE ltB Pq.key l
instance (l:List Pq):Decidable (SrtQ l):=by unfold SrtQ SrtE;exact inferInstance
def W64(s:Int):Prop:=-9223372036854775808≤s∧s≤9223372036854775807
theorem w64w {n:Int}(h:(Lit.int .i64 n).wf=true):W64 n:=by
 simp [Lit.wf,IntKind.min,IntKind.max,IntKind.signed,IntKind.bits] at h
 exact⟨by omega,by omega⟩
def wrC(x:Wr)(k v:Value):List Value:=[.int .i64 x.table,k,.bool x.gone,v]
def Elt.wr:Elt Wr where
 size:=4
 pos:=by omega
 R S w x vs:=∃ k v,vs=wrC x k v∧RdS S w k x.key∧RdS S w v x.val∧W64 x.table
 len:=by rintro _ _ _ _⟨_,_,rfl,_⟩;rfl
 keep:=by rintro _ _ _ _ _⟨k,v,rfl,h,h1,h2⟩hk;exact⟨k,v,rfl,h.keep hk,h1.keep hk,h2⟩
 weak:=by rintro _ _ _ _ _⟨k,v,rfl,h,h1,h2⟩hk;exact⟨k,v,rfl,h.weak hk,h1.weak hk,h2⟩
 fit:=by rintro _ _ _ _⟨k,v,rfl,h,h1,h2⟩;exact⟨k,v,rfl,h.fit,h1.fit,h2⟩
 one:=by
  rintro _ _ _ _⟨k,v,rfl,h,h1,_⟩u hu
  have h3:=h.one
  have h4:=h1.one
  simp only [wrC,List.mem_cons,List.not_mem_nil,or_false] at hu
  rcases hu with rfl|rfl|rfl|rfl
  ·rfl
  ·exact h3
  ·rfl
  ·exact h4
def Elt.pq:Elt Pq where
 size:=2
 pos:=by omega
 R S w x vs:=∃ k v,vs=[k,v]∧RdS S w k x.key∧RdS S w v x.val
 len:=by rintro _ _ _ _⟨_,_,rfl,_⟩;rfl
 keep:=by rintro _ _ _ _ _⟨k,v,rfl,h,h1⟩hk;exact⟨k,v,rfl,h.keep hk,h1.keep hk⟩
 weak:=by rintro _ _ _ _ _⟨k,v,rfl,h,h1⟩hk;exact⟨k,v,rfl,h.weak hk,h1.weak hk⟩
 fit:=by rintro _ _ _ _⟨k,v,rfl,h,h1⟩;exact⟨k,v,rfl,h.fit,h1.fit⟩
 one:=by
  rintro _ _ _ _⟨k,v,rfl,h,h1⟩u hu
  have h3:=h.one
  have h4:=h1.one
  simp only [List.mem_cons,List.not_mem_nil,or_false] at hu
  rcases hu with rfl|rfl
  ·exact h3
  ·exact h4
theorem wrS:StP Tryz.prog 51 4:=StP.of (by kernel_rfl)
theorem pqP:LoP Tryz.prog 44 60 2:=⟨⟨by kernel_rfl,by kernel_rfl⟩,.agg #[.slice none 0 0,.slice none 0 0],48,by kernel_rfl,rfl,by omega⟩
section
variable {S S' : Nat → Prop} {w w' : World} {v : Value}
theorem RdL.wr {a : Option Addr} {n c : Nat} {l : List Wr} (h : RdL Elt.wr S w (.slice a n c) l) (r : Nat) (hr : r < l.length) :
  ∃ b off A C A2 C2,a = some ⟨b,off,none⟩ ∧ S b ∧ w.cell? ⟨b,off + r * 4,none⟩ = some (.int .i64 l[r].table) ∧ w.cell? ⟨b,off + r * 4 + 1,none⟩ = some (.slice A l[r].key.length C) ∧ w.cell? ⟨b,off + r * 4 + 2,none⟩ = some (.bool l[r].gone) ∧ w.cell? ⟨b,off + r * 4 + 3,none⟩ = some (.slice A2 l[r].val.length C2) ∧
   RdS S w (.slice A l[r].key.length C) l[r].key ∧ RdS S w (.slice A2 l[r].val.length C2) l[r].val ∧ W64 l[r].table := by
 obtain ⟨b,off,vs,rfl,hb,⟨k,u,rfl,hk,hu,hi⟩,hc⟩ := h.at r hr
 obtain ⟨A,C,rfl,_,_⟩ := hk.shape
 obtain ⟨A2,C2,rfl,_,_⟩ := hu.shape
 exact ⟨b,off,A,C,A2,C2,rfl,hb,hc 0 _ rfl,hc 1 _ rfl,hc 2 _ rfl,hc 3 _ rfl,hk,hu,hi⟩
theorem RdL.pq {a : Option Addr} {n c : Nat} {l : List Pq} (h : RdL Elt.pq S w (.slice a n c) l) (r : Nat) (hr : r < l.length) :
  ∃ b off A C A2 C2,a = some ⟨b,off,none⟩ ∧ S b ∧ w.cell? ⟨b,off + r * 2,none⟩ = some (.slice A l[r].key.length C) ∧ w.cell? ⟨b,off + r * 2 + 1,none⟩ = some (.slice A2 l[r].val.length C2) ∧
   RdS S w (.slice A l[r].key.length C) l[r].key ∧ RdS S w (.slice A2 l[r].val.length C2) l[r].val := by
 obtain ⟨b,off,vs,rfl,hb,⟨k,u,rfl,hk,hu⟩,hc⟩ := h.at r hr
 obtain ⟨A,C,rfl,_,_⟩ := hk.shape
 obtain ⟨A2,C2,rfl,_,_⟩ := hu.shape
 exact ⟨b,off,A,C,A2,C2,rfl,hb,hc 0 _ rfl,hc 1 _ rfl,hk,hu⟩
def RdWr (S:Nat→Prop) (w:World) (v:Value) (x:Wr):Prop:=∃ a c a2 c2,v=.agg #[.int .i64 x.table,.slice a x.key.length c,.bool x.gone,.slice a2 x.val.length c2]∧RdS S w (.slice a x.key.length c) x.key∧RdS S w (.slice a2 x.val.length c2) x.val∧W64 x.table
def RdSp (S:Nat→Prop) (w:World) (v:Value) (x:Sp):Prop:=∃ a c a2 c2,v=.agg #[.int .i64 x.table,.slice a x.lo.length c,.slice a2 x.hi.length c2,.bool x.isOpen]∧RdS S w (.slice a x.lo.length c) x.lo∧RdS S w (.slice a2 x.hi.length c2) x.hi∧W64 x.table
theorem RdSp.below {x:Sp}(h:RdSp S w v x)(hb:Below w.heap.size w w'):RdSp S w' v x:=by
 obtain⟨a,c,a2,c2,e,h1,h2,h3⟩:=h
 exact⟨a,c,a2,c2,e,h1.below hb,h2.below hb,h3⟩
end
theorem open_sp {H:Type} {enc:TypeId×Value→H} {w:World} {base:Nat} {held:Bool} {fuel:Nat} {cs:Array Value} {x:DataW H×List MemPlace} (h:DataW.trod enc Tryz.prog w base (fun _=>true) held fuel 32 (Value.agg cs).cells.toList=some x):∃ d,RdSp (·<w.heap.size) w (.agg cs) d:=by
 have e0:(Value.agg cs).cells.toList=cs.toList:=by simp [Value.cells]
 rw [e0] at h
 obtain⟨y0,y1,y2,y3,n,_,hl,h0,h1,h2,h3⟩:=trod_struct4 Tryz.underlying32 h
 have hc:cs.toList.length=4:=hl.trans (by kernel_rfl)
 obtain⟨l⟩:=cs
 match l,hc with
 | [u,v,r,s],_ =>
  obtain⟨m,hm,_,hw⟩:=DataW.trod_int (by kernel_rfl:Tryz.prog.underlying 3=some (.int .i64)) (h0:DataW.trod enc Tryz.prog w base (fun _=>true) held n 3 [u]=some y0)
  obtain⟨xs,v',hv,hR⟩:=zgo.bytes (P:=Tryz.prog) (t:=30) (e:=5) (by kernel_rfl) (by kernel_rfl) (by kernel_rfl) (h1:DataW.trod enc Tryz.prog w base (fun _=>true) held n 30 [v]=some y1)
  obtain⟨xs2,v2,hv2,hR2⟩:=zgo.bytes (P:=Tryz.prog) (t:=30) (e:=5) (by kernel_rfl) (by kernel_rfl) (by kernel_rfl) (h2:DataW.trod enc Tryz.prog w base (fun _=>true) held n 30 [r]=some y2)
  obtain⟨g,hg,_⟩:=DataW.trod_bool (by kernel_rfl:Tryz.prog.underlying 4=some .bool) (h3:DataW.trod enc Tryz.prog w base (fun _=>true) held n 4 [s]=some y3)
  cases hm;cases hg;cases hv;cases hv2
  obtain⟨a,c,rfl,_⟩:=hR.shape
  obtain⟨a2,c2,rfl,_⟩:=hR2.shape
  exact⟨⟨m,xs,xs2,g⟩,a,c,a2,c2,rfl,hR,hR2,w64w hw⟩
abbrev Tb:=Nat→List Pr
abbrev Sto:=Nat→Nd
def okT (L:Tb):Prop:=∀ i,i<4→okP (L i)∧(L i).length≤60
instance (L:Tb):Decidable (okT L):=by unfold okT;infer_instance
def okS (T:Sto):Prop:=∀ i,i<4→okN (T i)∧(prN (T i)).length≤60
instance (T:Sto):Decidable (okS T):=by unfold okS;infer_instance
def tabS (T:Sto):Tb:=fun i=>prN (T i)
def zdo (T:Sto) (t:Int):List Pr:=if 0≤t∧t<4∧okS T then prN (T t.toNat) else []
def getP (l:List Pr) (k:List UInt8) (s:Int):Option (List UInt8):=(zaw l k).bind fun c=>zcd c s
def zmn(x:Sp)(s:Int)(p:Pr):Option Pq:=if inS x p.key then(zcd p.chain s).map fun v=>⟨p.key,v⟩else none
def zgd (l:List Pr) (x:Sp) (s:Int):List Pq:=l.filterMap (zmn x s)
def newP(l:List Pr)(x:Sp)(s:Int):Bool:=l.any fun p=>inS x p.key&&zcr p.chain s
def verW(w:Wr)(s:Int):Ver:=⟨s,w.gone,w.val⟩
def mayW7(w:Wr):Prop:=0≤w.table∧w.table<4∧w.key.length≤16∧w.val.length≤32∧(w.gone=true→w.val.length=0)
instance (w:Wr):Decidable (mayW7 w):=by unfold mayW7;infer_instance
def zcp (l:List Pr) (k:List UInt8) (v:Ver):List Pr×Nat :=
 let c:=(zaw l k).getD []
 if (zcm c v).2≠0 then ([],(zcm c v).2) else if 60<(putP l k (zcm c v).1).length then ([],40) else (putP l k (zcm c v).1,0)
def setT(L:Tb)(t:Int)(l:List Pr):Tb:=fun i=>if(i:Int)=t then l else L i
def goI (L0:Tb):Tb→Int→List Wr→Tb×Nat
 | L,_,[]=>(L,0)
 | L,s,w::r=>if (zcp (L w.table.toNat) w.key (verW w s)).2≠0 then (L0,(zcp (L w.table.toNat) w.key (verW w s)).2) else goI L0 (setT L w.table (zcp (L w.table.toNat) w.key (verW w s)).1) s r
def vacP (l : List Pr) (o : Int) : List Pr := l.filterMap fun p => if vacV p.chain o = [] then none else some ⟨p.key,vacV p.chain o⟩
def RdSt (S:Nat→Prop) (w:World) (v:Value) (T:Sto):Prop:=∃ (a:Nat→Option Addr) (m c:Nat→Nat),v=.agg #[.slice (a 0) (m 0) (c 0),.slice (a 1) (m 1) (c 1),.slice (a 2) (m 2) (c 2),.slice (a 3) (m 3) (c 3),.slice (a 4) (m 4) (c 4),.slice (a 5) (m 5) (c 5),.slice (a 6) (m 6) (c 6),.slice (a 7) (m 7) (c 7),.slice (a 8) (m 8) (c 8),.slice (a 9) (m 9) (c 9),.slice (a 10) (m 10) (c 10),.slice (a 11) (m 11) (c 11)]∧∀ i,i<4→RdN S w (.agg #[.slice (a (3*i)) (m (3*i)) (c (3*i)),.slice (a (3*i+1)) (m (3*i+1)) (c (3*i+1)),.slice (a (3*i+2)) (m (3*i+2)) (c (3*i+2))]) (T i)
section
variable {S S' : Nat → Prop} {w w' : World} {v : Value} {T : Sto}
theorem RdSt.keep(h:RdSt S w v T)(hk:∀ k,S k→w'.heap[k]?=w.heap[k]?):RdSt S w' v T:=by
 obtain⟨a,m,c,e,h⟩:=h
 exact⟨a,m,c,e,fun i hi=>(h i hi).keep hk⟩
theorem RdSt.weak(h:RdSt S w v T)(hs:∀ k,S k→S' k):RdSt S' w v T:=by
 obtain⟨a,m,c,e,h⟩:=h
 exact⟨a,m,c,e,fun i hi=>(h i hi).weak hs⟩
theorem RdSt.fit (h:RdSt S w v T):RdSt (fun k=>S k∧k<w.heap.size) w v T:=by
 obtain⟨a,m,c,e,h⟩:=h
 exact⟨a,m,c,e,fun i hi=>(h i hi).fit⟩
theorem RdSt.below(h:RdSt S w v T)(hb:Below w.heap.size w w'):RdSt S w' v T:=(h.fit.keep fun k hk=>hb.block k hk.2).weak fun _ h=>h.1
end
def fitS (T:Sto):Prop:=∀ i,i<4→fitN (T i)
theorem BoxN.c12 {W : World} {b : Nat} {t : TypeId} {v0 v1 v2 v3 v4 v5 v6 v7 v8 v9 v10 v11 : Value} (h : BoxN W b t [v0,v1,v2,v3,v4,v5,v6,v7,v8,v9,v10,v11]) : W.cell? ⟨b,0,none⟩ = some v0 ∧ W.cell? ⟨b,1,none⟩ = some v1 ∧ W.cell? ⟨b,2,none⟩ = some v2 ∧ W.cell? ⟨b,3,none⟩ = some v3 ∧ W.cell? ⟨b,4,none⟩ = some v4 ∧ W.cell? ⟨b,5,none⟩ = some v5 ∧ W.cell? ⟨b,6,none⟩ = some v6 ∧ W.cell? ⟨b,7,none⟩ = some v7 ∧ W.cell? ⟨b,8,none⟩ = some v8 ∧ W.cell? ⟨b,9,none⟩ = some v9 ∧ W.cell? ⟨b,10,none⟩ = some v10 ∧ W.cell? ⟨b,11,none⟩ = some v11 :=
 ⟨h.cell rfl,h.cell rfl,h.cell rfl,h.cell rfl,h.cell rfl,h.cell rfl,h.cell rfl,h.cell rfl,h.cell rfl,h.cell rfl,h.cell rfl,h.cell rfl⟩
theorem BoxN.c4 {W : World} {b : Nat} {t : TypeId} {v0 v1 v2 v3 : Value} (h : BoxN W b t [v0,v1,v2,v3]) : W.cell? ⟨b,0,none⟩ = some v0 ∧ W.cell? ⟨b,1,none⟩ = some v1 ∧ W.cell? ⟨b,2,none⟩ = some v2 ∧ W.cell? ⟨b,3,none⟩ = some v3 :=
 ⟨h.cell rfl,h.cell rfl,h.cell rfl,h.cell rfl⟩
def bxS (a:Nat→Option Addr) (m c:Nat→Nat):List Value:=[.slice (a 0) (m 0) (c 0),.slice (a 1) (m 1) (c 1),.slice (a 2) (m 2) (c 2),.slice (a 3) (m 3) (c 3),.slice (a 4) (m 4) (c 4),.slice (a 5) (m 5) (c 5),.slice (a 6) (m 6) (c 6),.slice (a 7) (m 7) (c 7),.slice (a 8) (m 8) (c 8),.slice (a 9) (m 9) (c 9),.slice (a 10) (m 10) (c 10),.slice (a 11) (m 11) (c 11)]
def StB (W:World) (b:Nat) (a:Nat→Option Addr) (m c:Nat→Nat):Prop:=BoxN W b 29 (bxS a m c)
theorem StB.at3 {W : World} {b : Nat} {a : Nat → Option Addr} {m c : Nat → Nat} (h : StB W b a m c) {t : Nat} (ht : t < 4) : W.cell? ⟨b,0 + t * 3,none⟩ = some (.slice (a (3 * t)) (m (3 * t)) (c (3 * t))) ∧ W.cell? ⟨b,0 + t * 3 + 1,none⟩ = some (.slice (a (3 * t + 1)) (m (3 * t + 1)) (c (3 * t + 1))) ∧ W.cell? ⟨b,0 + t * 3 + 2,none⟩ = some (.slice (a (3 * t + 2)) (m (3 * t + 2)) (c (3 * t + 2))) :=
 match t,ht with
 | 0,_ => ⟨BoxN.cell h rfl,BoxN.cell h rfl,BoxN.cell h rfl⟩
 | 1,_ => ⟨BoxN.cell h rfl,BoxN.cell h rfl,BoxN.cell h rfl⟩
 | 2,_ => ⟨BoxN.cell h rfl,BoxN.cell h rfl,BoxN.cell h rfl⟩
 | 3,_ => ⟨BoxN.cell h rfl,BoxN.cell h rfl,BoxN.cell h rfl⟩
def upd3 {α:Type}(t:Nat)(x y z:α)(f:Nat→α):Nat→α:=fun j=>if j=3*t then x else if j=3*t+1 then y else if j=3*t+2 then z else f j
section
variable {α : Type} {t j : Nat} {x y z : α} {f : Nat → α}
theorem upd3_0:upd3 t x y z f (3*t)=x:=if_pos rfl
theorem upd3_1:upd3 t x y z f (3*t+1)=y:=by unfold upd3;rw [if_neg (by omega),if_pos rfl]
theorem upd3_2:upd3 t x y z f (3*t+2)=z:=by unfold upd3;rw [if_neg (by omega),if_neg (by omega),if_pos rfl]
theorem zp3 (h:j≠t):upd3 t x y z f (3*j)=f (3*j)∧upd3 t x y z f (3*j+1)=f (3*j+1)∧upd3 t x y z f (3*j+2)=f (3*j+2):=by
 unfold upd3
 refine⟨?_,?_,?_⟩<;>rw [if_neg (by omega),if_neg (by omega),if_neg (by omega)]
end
theorem bxS_put {a:Nat→Option Addr} {m c:Nat→Nat} {t:Nat} (ht:t<4) {x y z:Option Addr} {n0 n1 n2 c0 c1 c2:Nat}:(bxS a m c).take (0+t*3)++([.slice x n0 c0,.slice y n1 c1,.slice z n2 c2]++(bxS a m c).drop (0+t*3+3))=bxS (upd3 t x y z a) (upd3 t n0 n1 n2 m) (upd3 t c0 c1 c2 c) :=
 match t,ht with
 | 0,_=>rfl
 | 1,_=>rfl
 | 2,_=>rfl
 | 3,_=>rfl
section
variable {P : Program} {t e : TypeId} {n sz : Nat} {fs : Array Field} {ops : Array Oper} {rest : List Oper} {o : Oper} {A : Act} {K : Act → World → Prop} {Q : Exit → Act → World → Prop} {w : World}
structure AsP (P:Program) (t e:TypeId) (n sz:Nat):Prop where
 hT:P.underlying t=some (.array n e)
 hS:∃ fs,P.underlying e=some (.struct fs)
 hs:(P.info? e).map (·.size)=some sz
 pos:0<sz
 big:1<n
def SgQ (P:Program) (t:TypeId) (n:Nat):Prop:=(∃ fs,P.underlying t=some (.struct fs))∧(P.info? t).map (·.size)=some n
def FdQ (P:Program) (t:TypeId) (i off:Nat):Prop:=∃ fs f m,P.underlying t=some (.struct fs)∧fs[i]?=some f∧f.offset=off∧(P.info? f.type).map (·.size)=some (m+1)
theorem zpt {i o2 : Nat} (hP : FdQ P t i o2) {x : Operand} {b off : Nat} (ho : o.op = .fieldAddr t x i) (hx : A.eval x = .pointer (some ⟨b,off,none⟩)) (h : K (A.put o.dst (.pointer (some ⟨b,off + o2,none⟩))) w) : o.wp P A w K Q := by
 obtain ⟨fs,f,m,hu,hf,ho2,hs⟩ := hP
 subst ho2
 refine zdz ?_ h
 simp only [execOp,ho,hx]
 simp [Instr.fieldAt,run_underlying hu,fieldPlace,hf,zab hs,go_sem,Addr.add]
theorem zcf {us : List Value} (hP : SgQ P t us.length) {x : Operand} {b off : Nat} (ho : o.op = .load t x) (hx : A.eval x = .pointer (some ⟨b,off,none⟩)) (hc : ∀ j u,us[j]? = some u → w.cell? ⟨b,off + j,none⟩ = some u) (h : K (A.put o.dst (.agg us.toArray)) w) : o.wp P A w K Q := by
 obtain ⟨⟨fs,hu⟩,hs⟩ := hP
 have hr := run_loadCells_list (P := P) (w := w) ⟨b,off,none⟩ us (fun j v hj => by rw [Addr.add_lit]; exact hc j v hj)
 have hr' : (loadCellsFrom ⟨b,off,none⟩ 0 us.length #[]).run P w = .ok us.toArray w := hr
 clear hr
 refine zdz ?_ h
 simp only [execOp,ho,hx]
 simp [Instr.loadAt,loadVar,isAgg,run_underlying hu,zab hs,hr',go_sem]
theorem wp_ixS (hP:AsP P t e n sz) {x i:Operand} {cs us:Array Value} {kk:IntKind} {j:Int} {k:Nat} (ho:o.op=.index t x i) (hx:A.eval x=.agg cs) (hi:A.eval i=.int kk j) (hj:j=(k:Int)) (hk:k<n) (hu:cs.extract (k*sz) (k*sz+sz)=us) (h:K (A.put o.dst (.agg us)) w):o.wp P A w K Q:=by
 subst hj
 obtain⟨fs,hS⟩:=hP.hS
 refine zdz ?_ h
 simp only [execOp,ho,hx,hi]
 simp [Instr.index,run_underlying hP.hT,asIntOf,zab hP.hs,part,isAgg,run_underlying hS,go_sem,hk,hu]
theorem zbj (hP:AsP P t e n sz) {x i:Operand} {cs us:Array Value} {kk:IntKind} {j:Int} (k:Nat) (ho:o.op=.index t x i) (hgd:Region.wanted o (yielded ops A.tmps)=true) (hx:A.eval x=.agg cs) (hi:A.eval i=.int kk j) (hj:j=(k:Int)) (hk:k<n) (hu:cs.extract (k*sz) (k*sz+sz)=us) (h:wpList P ops Q rest (A.put o.dst (.agg us)) w):wpList P ops Q (o::rest) A w :=
 BigFrame.wpList_want hgd fun _ hK=>wp_ixS hP ho hx hi hj hk hu (hK _ _ h)
theorem zpw {tb : TypeId} {vs us : List Value} {x y : Operand} {b f : Nat} (hs : (P.info? t).map (·.size) = some us.length) (ho : o.op = .store t x y) (hx : A.eval x = .pointer (some ⟨b,f,none⟩)) (hy : A.eval y = .agg us.toArray) (h1 : us.all (·.oneCell') = true) (hb : BoxN w b tb vs) (hf : f + us.length ≤ vs.length)
  (h : ∀ w',w.grownBy w' (some b) → BoxN w' b tb (vs.take f ++ (us ++ vs.drop (f + us.length))) → K (A.put o.dst undef) w') : o.wp P A w K Q := by
 have h1' : ∀ v ∈ us,v.oneCell' = true := fun v hv => List.all_eq_true.1 h1 v hv
 have hst := run_storeCells_at (P := P) b f tb us 0 vs.toArray w hb (by simpa using hf) h1'
 rw [Nat.add_zero] at hst
 obtain ⟨w',hw'⟩ : ∃ w',w' = w.setRow b (vs.toArray.toList.take f ++ us ++ vs.toArray.toList.drop (f + us.length)).toArray := ⟨_,rfl⟩
 rw [← hw'] at hst
 refine zep ?_ (h w' ⟨by rw [hw']; rfl,by rw [hw']; rfl,by rw [hw']; rfl,by rw [hw']; simp [World.setRow],fun k _ hk => ?_⟩ ?_)
 ·simp only [execOp,ho,hx,hy]
  simp [Instr.storeAt,storeVar,zab hs,Value.cells,hst,go_sem]
 ·have hkb : k ≠ b := fun e => hk (by rw [e])
  rw [hw']
  simp [World.setRow,Array.getElem?_modify,Ne.symm hkb]
 ·unfold BoxN at hb ⊢
  rw [hw']
  simp [World.setRow,Array.getElem?_modify,hb]
theorem za7 {tb : TypeId} {vs us : List Value} {x y : Operand} {b f : Nat} (hs : (P.info? t).map (·.size) = some us.length) (ho : o.op = .store t x y) (hd : o.dst = none) (hgd : Region.wanted o (yielded ops A.tmps) = true) (hx : A.eval x = .pointer (some ⟨b,f,none⟩)) (hy : A.eval y = .agg us.toArray) (h1 : us.all (·.oneCell') = true) (hb : BoxN w b tb vs) (hf : f + us.length ≤ vs.length)
  (h : ∀ w',w.grownBy w' (some b) → BoxN w' b tb (vs.take f ++ (us ++ vs.drop (f + us.length))) → wpList P ops Q rest A w') : wpList P ops Q (o :: rest) A w :=
 BigFrame.wpList_want hgd fun _ hK => zpw hs ho hx hy h1 hb hf fun w' h2 h3 => hK _ _ (by rw [hd]; exact h w' h2 h3)
theorem wp_ixP (hP : AsP P t e n sz) {x i : Operand} {b off k : Nat} {kk : IntKind} {j : Int} (ho : o.op = .indexAddr t x i) (hx : A.eval x = .pointer (some ⟨b,off,none⟩)) (hi : A.eval i = .int kk j) (hj : j = (k : Int)) (hk : k < n)
  (h : K (A.put o.dst (.pointer (some ⟨b,off + k * sz,none⟩))) w) : o.wp P A w K Q := by
 subst hj
 refine zdz ?_ h
 have hb := hP.big
 simp only [execOp,ho,hx,hi]
 simp [Instr.indexAt,run_underlying hP.hT,asIntOf,Instr.sureAddr,zab hP.hs,go_sem,Addr.add,hk]
 try omega
theorem zb9 (hP : AsP P t e n sz) {x i : Operand} {b off : Nat} (k : Nat) {kk : IntKind} {j : Int} (ho : o.op = .indexAddr t x i) (hgd : Region.wanted o (yielded ops A.tmps) = true) (hx : A.eval x = .pointer (some ⟨b,off,none⟩)) (hi : A.eval i = .int kk j) (hj : j = (k : Int)) (hk : k < n)
  (h : wpList P ops Q rest (A.put o.dst (.pointer (some ⟨b,off + k * sz,none⟩))) w) : wpList P ops Q (o :: rest) A w :=
 BigFrame.wpList_want hgd fun _ hK => wp_ixP hP ho hx hi hj hk (hK _ _ h)
end
theorem stS7:SgQ Tryz.prog 29 12:=⟨⟨_,Tryz.underlying29⟩,by kernel_rfl⟩
theorem stF7:FdQ Tryz.prog 29 0 0:=⟨_,_,11,Tryz.underlying29,rfl,rfl,by kernel_rfl⟩
theorem spS7:StP Tryz.prog 32 4:=StP.of (by kernel_rfl)
theorem taP:AsP Tryz.prog 27 26 4 3:=⟨by kernel_rfl,⟨_,Tryz.underlying26⟩,by kernel_rfl,by omega,by omega⟩
theorem zlq (w:World) (t:Int):Calls Tryz.prog 43 #[.int .i64 t] w fun e w'=>e=.returned (.bool (decide (0≤t)&&decide (t<4)))∧w'=w:=by
 go_enter Tryz.func43,Tryz.ntmps43
 cases h1:decide (0≤t) with
 | false =>
  go_wp2_with fail
  go_ret
  exact⟨rfl,rfl⟩
 | true =>
  cases h2:decide (t<4) with
  | false =>
   go_wp2_with fail
   go_ret
   exact⟨rfl,rfl⟩
  | true =>
   go_wp2_with fail
   go_ret
   exact⟨rfl,rfl⟩
theorem zhh (w:World) (w0:Wr) (a a2:Option Addr) (c c2:Nat) (s:Int):Calls Tryz.prog 45 #[.agg #[.int .i64 w0.table,.slice a w0.key.length c,.bool w0.gone,.slice a2 w0.val.length c2],.int .i64 s] w fun e w'=>e=.returned (.agg #[.int .i64 s,.bool w0.gone,.slice a2 w0.val.length c2])∧Below w.heap.size w w':=by
 go_enter Tryz.func45,Tryz.ntmps45
 obtain⟨W,hW⟩:∃ W,W=(w.alloc (.cells #[.int .i64 w0.table,.slice a w0.key.length c,.bool w0.gone,.slice a2 w0.val.length c2] 51)).alloc (.cells #[.int .i64 s,.bool w0.gone,.slice a2 w0.val.length c2] 87):=⟨_,rfl⟩
 have q:Below w.heap.size w W:=by rw [hW];exact ((Below.refl _ _).alloc (Nat.le_refl _) _).alloc (by simp) _
 have bn:TriV W (w.heap.size+1) 87 (.int .i64 s) (.bool w0.gone) (.slice a2 w0.val.length c2):=by
  rw [hW]
  have:=TriV.new (w.alloc (.cells #[.int .i64 w0.table,.slice a w0.key.length c,.bool w0.gone,.slice a2 w0.val.length c2] 51)) 87 (.int .i64 s) (.bool w0.gone) (.slice a2 w0.val.length c2)
  rwa [World.size_alloc] at this
 have d0:=bn.cell0
 have d1:=bn.cell1
 have d2:=bn.cell2
 obtain⟨fs,hu,_,_⟩:=verS.hu
 go_wp2
 rw [← hW]
 clear hW
 refine bodyPost_ret (v:=.agg #[.int .i64 s,.bool w0.gone,.slice a2 w0.val.length c2]) (by simp [results,Tryz.results45,go_sem,loadVar,isAgg,run_underlying hu,zab verS.hs,loadCellsFrom,Addr.add,d0,d1,d2]) rfl ?_
 exact⟨rfl,q⟩
section
variable {P : Program} {T E S : TypeId} {o : Oper} {a : Act} {K : Act → Prop} {w : World}
theorem zar (hP:ByP P T E S) {x:Operand} (ho:o.op=.convert T S x) {B:Nat} {v:Value} {xs:List UInt8} (hx:a.eval x=v) (hr:Rd B w v xs) (h:K (a.put o.dst (.string (zbk xs)))):o.quiet P a (fun w''=>∃ n,w''=w.drewN n) K:=by
 refine⟨_,fun w2 h2=>?_,h⟩
 obtain⟨n,rfl⟩:=h2
 have hr2:Rd B (w.drewN n) v xs:=hr
 unfold Oper.quietAt execOp
 simp only [ho,hx,Sem.run_bind,Sem.run_pure,Result.andThen_ok,znu hP hr2]
 exact⟨rfl,rfl⟩
end
theorem zqy:zgo Tryz.prog 87 Elt.ver:=by
 intro H enc w base held fuel cs x h
 obtain⟨y0,y1,y2,n,_,hl,h0,h1,h2⟩:=trod_struct3 Tryz.underlying87 h
 have hc:cs.length=3:=hl.trans (by kernel_rfl)
 match cs,hc with
 | [u,v,r],_ =>
  obtain⟨m,hm,_,hw⟩:=DataW.trod_int (by kernel_rfl:Tryz.prog.underlying 3=some (.int .i64)) (h0:DataW.trod enc Tryz.prog w base (fun _=>true) held n 3 [u]=some y0)
  obtain⟨g,hg,_⟩:=DataW.trod_bool (by kernel_rfl:Tryz.prog.underlying 4=some .bool) (h1:DataW.trod enc Tryz.prog w base (fun _=>true) held n 4 [v]=some y1)
  obtain⟨xs,v',hv,hR⟩:=zgo.bytes (P:=Tryz.prog) (t:=30) (e:=5) (by kernel_rfl) (by kernel_rfl) (by kernel_rfl) (h2:DataW.trod enc Tryz.prog w base (fun _=>true) held n 30 [r]=some y2)
  cases hm;cases hg;cases hv
  exact⟨⟨m,g,xs⟩,r,rfl,hR,i64w hw⟩
theorem zpb:zgo Tryz.prog 70 (Elt.list Elt.ver):=zgo.list (by kernel_rfl) (by kernel_rfl) zqy
theorem ze2(xs:List UInt8):(zbk xs).toList=xs:=by simp [zbk]
theorem str_eq {a b:List UInt8}:((zbk a).toList==(zbk b).toList)=decide (a=b):=by
 rw [ze2,ze2]
 by_cases e:a=b<;>simp [e]
theorem str_lt {a b:List UInt8}:Op.bytesLess (zbk a).toList (zbk b).toList=ltB a b:=by rw [ze2,ze2];rfl
theorem zoh:∀ {l:List Pr} {k:List UInt8},(∀ j (hj:j<l.length),¬ l[j].key=k)→zaw l k=none
 | [],_,_=>rfl
 | p::l,k,hn=>by
  rw [zap,if_neg (by have:=hn 0 (by simp);simpa using this)]
  exact zoh fun j hj=>by have:=hn (j+1) (by simpa using hj);simpa using this
def zqd(t:Nat)(n:Nd):Prop:=n.keys.length≤6∧n.chains.length≤6∧n.kids.length≤6∧(∀ j(h:j<n.keys.length),n.keys[j].length≤100)∧(∀ j(h:j<n.chains.length),n.chains[j].length≤20∧∀ r(hr:r<n.chains[j].length),n.chains[j][r].value.length≤100)∧(∀ j(h:j<n.kids.length),zcj t n.kids[j]=true)
theorem zkx (t:Nat) (n:Nd):zcj (t+1) n=true↔zqd t n:=by
 simp only [zcj,Bool.and_eq_true,decide_eq_true_eq,List.all_eq_true]
 unfold zqd
 constructor
 ·rintro⟨⟨⟨⟨⟨h1,h2⟩,h3⟩,h4⟩,h5⟩,h6⟩
  refine⟨h1,h2,h3,fun j h=>h4 _ (List.getElem_mem h),fun j h=>?_,fun j h=>h6 _ (List.getElem_mem h)⟩
  obtain⟨h7,h8⟩:=h5 _ (List.getElem_mem h)
  exact⟨h7,fun r hr=>h8 _ (List.getElem_mem hr)⟩
 ·rintro⟨h1,h2,h3,h4,h5,h6⟩
  refine⟨⟨⟨⟨⟨h1,h2⟩,h3⟩,fun k hk=>?_⟩,fun c hc=>?_⟩,fun m hm=>?_⟩
  ·obtain⟨j,h,rfl⟩:=List.mem_iff_getElem.1 hk;exact h4 j h
  ·obtain⟨j,h,rfl⟩:=List.mem_iff_getElem.1 hc
   refine⟨(h5 j h).1,fun x hx=>?_⟩
   obtain⟨r,hr,rfl⟩:=List.mem_iff_getElem.1 hx
   exact (h5 j h).2 r hr
  ·obtain⟨j,h,rfl⟩:=List.mem_iff_getElem.1 hm;exact h6 j h
theorem small_no {t:Nat} {n:Nd} (h:¬ zqd t n):zcj (t+1) n=false:=by
 cases hb:zcj (t+1) n with
 | false=>rfl
 | true=>exact absurd ((zkx t n).1 hb) h
def zif (t:Nat):Prop:=∀ (n:Nd) (w:World) (S:Nat→Prop) (v:Value),t≤1000→RdN S w v n →
  Calls Tryz.prog 28 #[v,.int .i64 ((t:Int) - 1)] w fun e w'=>e=.returned (.bool (zcj t n))∧Below w.heap.size w w'
theorem zmm (t : Nat) (ih : zif t) : zif (t + 1) := by
  intro n w S v ht hr
  unfold zif at ih
  obtain ⟨l1,l2,l3⟩ := hr.lens
  obtain ⟨a1,c1,a2,c2,a3,c3,rfl,r1,r2,r3⟩ := hr
  have hT := TriV.new w 26 (.slice a1 n.keys.length c1) (.slice a2 n.chains.length c2) (.slice a3 n.kids.length c3)
  have q : Below w.heap.size w (w.alloc (.cells #[.slice a1 n.keys.length c1,.slice a2 n.chains.length c2,.slice a3 n.kids.length c3] 26)) := (Below.refl _ _).alloc (Nat.le_refl _) _
  have e0 : ((t + 1 : Nat) : Int) - 1 = (t : Int) := by omega
  rw [e0]
  clear e0
  have HNO := Lib.hid (small_no (t := t) (n := n))
  have dt : decide ((t : Int) < 0) = false := decide_eq_false (by omega)
  go_enter Tryz.func28,Tryz.ntmps28
  go_upto_region 1 with (fail)
  generalize w.alloc (.cells #[.slice a1 n.keys.length c1,.slice a2 n.chains.length c2,.slice a3 n.kids.length c3] 26) = W at *
  have t0 := hT.cell0
  have t1 := hT.cell1
  have t2 := hT.cell2
  by_cases h1 : 6 < n.keys.length
  ·have H := Lib.hid (HNO.out fun h => by have := h.1; omega)
   have d1 : decide ((6 : Int) < n.keys.length) = true := decide_eq_true (by omega)
   go_wp2_with fail
   go_ret
   exact ⟨by rw [H.out]; rfl,q⟩
  ·have d1 : decide ((6 : Int) < n.keys.length) = false := decide_eq_false (by omega)
   by_cases h2 : 6 < n.chains.length
   ·have H := Lib.hid (HNO.out fun h => by have := h.2.1; omega)
    have d2 : decide ((6 : Int) < n.chains.length) = true := decide_eq_true (by omega)
    go_wp2_with fail
    go_ret
    exact ⟨by rw [H.out]; rfl,q⟩
   ·have d2 : decide ((6 : Int) < n.chains.length) = false := decide_eq_false (by omega)
    by_cases h3 : 6 < n.kids.length
    ·have H := Lib.hid (HNO.out fun h => by have := h.2.2.1; omega)
     have d3 : decide ((6 : Int) < n.kids.length) = true := decide_eq_true (by omega)
     go_wp2_with fail
     go_ret
     exact ⟨by rw [H.out]; rfl,q⟩
    ·have d3 : decide ((6 : Int) < n.kids.length) = false := decide_eq_false (by omega)
     have H1 := Lib.hid (show n.keys.length ≤ 6 ∧ n.chains.length ≤ 6 ∧ n.kids.length ≤ 6 from ⟨by omega,by omega,by omega⟩)
     go_upto_region 4 with (fail)
     clear d1 d2 d3 h1 h2 h3
     go_loopw [5] (fun iv wr => ∃ i : Nat,iv = .int .i64 i ∧ i ≤ n.keys.length ∧ (∀ j (h : j < n.keys.length),j < i → n.keys[j].length ≤ 100) ∧ W = wr) (fun i _ => n.keys.length - (intOf i).toNat)
     case atStart => exact ⟨0,rfl,Nat.zero_le _,fun j _ h => absurd h (Nat.not_lt_zero _),rfl⟩
     case round =>
      obtain ⟨i,rfl,hil,hall,rfl⟩ := hrel
      rcases Nat.lt_or_ge i n.keys.length with hlt | hge
      ·obtain ⟨b,off,Ak,C,rfl,c0,hky⟩ := (r1.below q).byt i hlt
       have hkl := hky.len
       unfold maxLen at hkl
       by_cases h : 100 < n.keys[i].length
       ·have H := Lib.hid (HNO.out fun hs => by have := hs.2.2.2.1 i hlt; omega)
        have d1 : decide ((100 : Int) < n.keys[i].length) = true := decide_eq_true (by omega)
        clear hall
        go_wp2_with fail
        go_ret
        exact ⟨by rw [H.out]; rfl,q⟩
       ·have d1 : decide ((100 : Int) < n.keys[i].length) = false := decide_eq_false (by omega)
        have hall' : ∀ j (h : j < n.keys.length),j < i + 1 → n.keys[j].length ≤ 100 := fun j hj h5 => by
         rcases Nat.lt_or_ge j i with h6 | h6
         ·exact hall j hj h6
         ·obtain rfl : j = i := by omega
          omega
        have HA := Lib.hid hall'
        clear hall hall' h
        go_wp2_with fail
        go_roundw
        case rel => exact ⟨i + 1,by go_num,by omega,HA.out,by first | rfl | trivial⟩
        case measure => simp [intOf]; omega
      ·obtain rfl : i = n.keys.length := by omega
       have HK := Lib.hid hall
       clear hall
       go_upto_region 9 with (fail)
       go_loopw [6] (fun iv wr => ∃ i : Nat,iv = .int .i64 i ∧ i ≤ n.chains.length ∧ (∀ j (h : j < n.chains.length),j < i → n.chains[j].length ≤ 20 ∧ ∀ r (hr : r < n.chains[j].length),n.chains[j][r].value.length ≤ 100) ∧ W = wr) (fun i _ => n.chains.length - (intOf i).toNat)
       case atStart => exact ⟨0,rfl,Nat.zero_le _,fun j _ h => absurd h (Nat.not_lt_zero _),rfl⟩
       case round =>
        obtain ⟨i,rfl,hil,hall,rfl⟩ := hrel
        rcases Nat.lt_or_ge i n.chains.length with hlt | hge
        ·obtain ⟨b,off,Ak,C,rfl,c0,hcc⟩ := (r2.below q).lst i hlt
         have hkl := hcc.len
         unfold maxLen at hkl
         by_cases h : 20 < n.chains[i].length
         ·have H := Lib.hid (HNO.out fun hs => by have := (hs.2.2.2.2.1 i hlt).1; omega)
          have d1 : decide ((20 : Int) < n.chains[i].length) = true := decide_eq_true (by omega)
          clear hall
          go_wp2_with fail
          go_ret
          exact ⟨by rw [H.out]; rfl,q⟩
         ·have d1 : decide ((20 : Int) < n.chains[i].length) = false := decide_eq_false (by omega)
          have HA := Lib.hid hall
          have H20 := Lib.hid (show n.chains[i].length ≤ 20 by omega)
          clear hall h
          go_upto_region 14 with (fail)
          go_loopw [7] (fun iv wr => ∃ r : Nat,iv = .int .i64 r ∧ r ≤ n.chains[i].length ∧ (∀ j (h : j < n.chains[i].length),j < r → n.chains[i][j].value.length ≤ 100) ∧ W = wr) (fun r _ => n.chains[i].length - (intOf r).toNat)
          case atStart => exact ⟨0,rfl,Nat.zero_le _,fun j _ h => absurd h (Nat.not_lt_zero _),rfl⟩
          case round =>
           obtain ⟨r,rfl,hrl,hrall,rfl⟩ := hrel
           rcases Nat.lt_or_ge r n.chains[i].length with hrlt | hrge
           ·obtain ⟨b2,off2,A2,C2,rfl,hb2,k0,k1,k2,hv,hi,hn1,hn2⟩ := hcc.ver r hrlt
            unfold maxLen at hn2
            by_cases h : 100 < n.chains[i][r].value.length
            ·have H := Lib.hid (HNO.out fun hs => by have := (hs.2.2.2.2.1 i hlt).2 r hrlt; omega)
             have d2 : decide ((100 : Int) < n.chains[i][r].value.length) = true := decide_eq_true (by omega)
             clear hrall
             go_wp2_with fail
             go_ret
             exact ⟨by rw [H.out]; rfl,q⟩
            ·have d2 : decide ((100 : Int) < n.chains[i][r].value.length) = false := decide_eq_false (by omega)
             have hall' : ∀ j (h : j < n.chains[i].length),j < r + 1 → n.chains[i][j].value.length ≤ 100 := fun j hj h5 => by
              rcases Nat.lt_or_ge j r with h6 | h6
              ·exact hrall j hj h6
              ·obtain rfl : j = r := by omega
               omega
             have HA2 := Lib.hid hall'
             clear hrall hall' h
             go_wp2_with fail
             go_roundw
             case rel => exact ⟨r + 1,by go_num,by omega,HA2.out,by first | rfl | trivial⟩
             case measure => simp [intOf]; omega
           ·obtain rfl : r = n.chains[i].length := by omega
            have hall' : ∀ j (h : j < n.chains.length),j < i + 1 → n.chains[j].length ≤ 20 ∧ ∀ r (hr : r < n.chains[j].length),n.chains[j][r].value.length ≤ 100 := fun j hj h5 => by
             rcases Nat.lt_or_ge j i with h6 | h6
             ·exact HA.out j hj h6
             ·obtain rfl : j = i := by omega
              exact ⟨H20.out,fun r hr => hrall r hr hr⟩
            have HA2 := Lib.hid hall'
            clear hrall hall'
            go_wp2_with fail
            go_roundw
            case rel => exact ⟨i + 1,by go_num,by omega,HA2.out,by first | rfl | trivial⟩
            case measure => simp [intOf]; omega
        ·obtain rfl : i = n.chains.length := by omega
         have HC := Lib.hid hall
         clear hall
         go_upto_region 19 with (fail)
         go_loopw [8] (fun iv wr => ∃ i : Nat,iv = .int .i64 i ∧ i ≤ n.kids.length ∧ (∀ j (h : j < n.kids.length),j < i → zcj t n.kids[j] = true) ∧ TriV wr w.heap.size 26 (.slice a1 n.keys.length c1) (.slice a2 n.chains.length c2) (.slice a3 n.kids.length c3) ∧ Below w.heap.size w wr) (fun i _ => n.kids.length - (intOf i).toNat)
         case atStart => exact ⟨0,rfl,Nat.zero_le _,fun j _ h => absurd h (Nat.not_lt_zero _),hT,q⟩
         case round =>
          clear hT q t0 t1 t2
          obtain ⟨i,rfl,hil,hall,hT,q⟩ := hrel
          have t0 := hT.cell0
          have t1 := hT.cell1
          have t2 := hT.cell2
          rcases Nat.lt_or_ge i n.kids.length with hlt | hge
          ·obtain ⟨b3,off3,x1,y1,x2,y2,x3,y3,rfl,k0,k1,k2,hkr⟩ := (r3.below q).kid i hlt
           go_wp2_with fail
           refine (ih n.kids[i] _ S _ (by omega) hkr).mono ?_
           rintro e w1 ⟨rfl,hb⟩
           replace q := q.trans (hb.mono q.size)
           replace hT := hT.below hb hT.lt
           clear hb k0 k1 k2 hkr t0 t1 t2
           cases hs : zcj t n.kids[i] with
           | true =>
            have hall' : ∀ j (h : j < n.kids.length),j < i + 1 → zcj t n.kids[j] = true := fun j hj h5 => by
             rcases Nat.lt_or_ge j i with h6 | h6
             ·exact hall j hj h6
             ·obtain rfl : j = i := by omega
              exact hs
            have HA2 := Lib.hid hall'
            clear hall hall' hs
            go_wp2_with fail
            go_roundw
            case rel => exact ⟨i + 1,by go_num,by omega,HA2.out,hT,q⟩
            case measure => simp [intOf]; omega
           | false =>
            have H := Lib.hid (HNO.out fun h => by have := h.2.2.2.2.2 i hlt; rw [hs] at this; cases this)
            clear hall hs
            go_wp2_with fail
            go_ret
            exact ⟨by rw [H.out]; rfl,q⟩
          ·obtain rfl : i = n.kids.length := by omega
           have H := Lib.hid ((zkx t n).2 ⟨H1.out.1,H1.out.2.1,H1.out.2.2,fun j h => HK.out j h h,fun j h => HC.out j h h,fun j h => hall j h h⟩)
           clear hall
           go_wp2_with fail
           go_ret
           exact ⟨by rw [H.out]; rfl,q⟩
theorem zml:zif 0:=by
  intro n w S v _ hr
  obtain⟨l1,l2,l3⟩:=hr.lens
  obtain⟨a1,c1,a2,c2,a3,c3,rfl,r1,r2,r3⟩:=hr
  have q:Below w.heap.size w (w.alloc (.cells #[.slice a1 n.keys.length c1,.slice a2 n.chains.length c2,.slice a3 n.kids.length c3] 26)):=(Below.refl _ _).alloc (Nat.le_refl _) _
  have e0:((0:Nat):Int) - 1=-1:=by omega
  rw [e0]
  go_enter Tryz.func28,Tryz.ntmps28
  go_wp2_with fail
  go_ret
  exact⟨rfl,q⟩
theorem ze3(t:Nat):zif t:=by
 induction t with
 | zero=>exact zml
 | succ t ih=>exact zmm t ih
end Go.Proofs.YtlpfhgdnmjkngaaGreat
