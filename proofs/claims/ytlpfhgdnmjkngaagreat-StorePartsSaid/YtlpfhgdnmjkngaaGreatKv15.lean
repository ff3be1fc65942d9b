/-
  TEXTS OF ONE PROOF, merged: StI, StJ, StK, StH, StV.
-/
import Derived.Test.YtlpfhgdnmjkngaaGreatKv14
namespace Go.Proofs.YtlpfhgdnmjkngaaGreat
open Go.RowKit Go.Shelf
set_option maxRecDepth 100000
set_option maxHeartbeats 32000000
attribute [local go_sem] Oper.semAt_some
theorem zln {α:Type} {E:Elt α} (hE:zg1 E):zg1 (Elt.list E):=fun _ _ _ _⟨v,e,h⟩=>⟨v,e,zd5 hE h⟩
theorem zl1:∀ d,zg1 (eltN d)
 | 0=>fun _ _ _ _ h=>h.elim
 | d+1=>fun _ _ _ _⟨v1,v2,v3,e,h1,h2,h3⟩=>⟨v1,v2,v3,e,zd5 zec h1,zd5 (zln zjc) h2,zd5 (zl1 d) h3⟩
theorem nd_only:zg1 Elt.nd:=fun S w x vs⟨d,h⟩=>⟨d,zl1 d S w x vs h⟩
theorem zqn {S:Nat→Prop} {v:Value} {n:Nd} {A B:World} {row:Option Nat} (h:RdN S A v n) (hg:A.grownBy B row) (hr:∀ r,row=some r→∃ o:Obj,A.heap[r]?=some o∧o.isCells=false):RdN S B v n:=by
 obtain⟨a1,c1,a2,c2,a3,c3,e,h1,h2,h3⟩:=h
 exact⟨a1,c1,a2,c2,a3,c3,e,zjv zec h1 hg hr,zjv (zln zjc) h2 hg hr,zjv nd_only h3 hg hr⟩
def VacS (o:Int) (n:Nd) (ps:List Pr) (m:Nd):Prop:=(okN n→okN m∧zaa m=zhm o (zaa n) ps∧(zaa m).length≤1000+ps.length∧∀ p∈zaa m,zbq p.chain)∧(¬ okN n→m=n)
def zl7 (o:Int) (n m:Nd):Prop:=(okN n→okN m∧zaa m=vacP (zaa n) o)∧(¬ okN n→m=n)
theorem VacS.fit {o : Int} {n m : Nd} {ps : List Pr} (h : VacS o n ps m) (hf : fitN n) (hl : ps.length ≤ 1000) : fitN m := by
 by_cases hk : okN n
 ·obtain ⟨h1,_,h3,h4⟩ := h.1 hk
  exact zix h1 ⟨by omega,h4⟩
 ·rw [h.2 hk]; exact hf
theorem VacS.del {o:Int} {n m m':Nd} {ps:List Pr} {y:Pr} {er:Nat} (h:VacS o n ps m) (h0:vacV y.chain o=[]) (hd:zkk m y.key m' er):VacS o n (ps++[y]) m':=by
 refine⟨fun hk=>?_,fun hk=>?_⟩
 ·obtain⟨h1,h2,h3,h4⟩:=h.1 hk
  unfold zkk at hd
  rw [if_pos h1] at hd
  have hst:zhm o (zaa n) (ps++[y])=delP (zaa m) y.key:=by
   rw [zgb,← h2]
   unfold stV
   rw [if_pos h0]
  rw [hst,List.length_append,List.length_singleton]
  split at hd
  ·obtain⟨_,k1,k2⟩:=hd
   exact⟨k1,k2,by rw [k2];have:=List.length_filter_le (fun p:Pr=>!decide (p.key=y.key)) (zaa m);unfold delP;omega,by rw [k2];exact fun p hp=>h4 p (zrw hp)⟩
  ·rename_i hn
   obtain⟨_,rfl⟩:=hd
   have:zaw (zaa m') y.key=none:=by
    cases hf:zaw (zaa m') y.key with
    | none=>rfl
    | some c=>rw [hf] at hn;exact absurd rfl hn
   exact⟨h1,(zom this).symm,by omega,h4⟩
 ·have:=h.2 hk
  subst this
  unfold zkk at hd
  rw [if_neg hk] at hd
  exact hd.2
theorem VacS.put {o : Int} {n m m' : Nd} {ps : List Pr} {y : Pr} {er : Nat} (h : VacS o n ps m) (h0 : vacV y.chain o ≠ []) (h9 : (vacV y.chain o).length < y.chain.length) (hs : zbq (vacV y.chain o)) (hd : zf7 m y.key (vacV y.chain o) m' er) : VacS o n (ps ++ [y]) m' := by
 refine ⟨fun hk => ?_,fun hk => ?_⟩
 ·obtain ⟨h1,h2,h3,h4⟩ := h.1 hk
  unfold zf7 at hd
  have hsr := zmz h1
  have hst : zhm o (zaa n) (ps ++ [y]) = if y.key.length ≤ 16 ∧ okV (vacV y.chain o) then putP (zaa m) y.key (vacV y.chain o) else zaa m := by
   rw [zgb,← h2]
   unfold stV
   rw [if_neg h0,if_pos h9]
  rw [hst,List.length_append,List.length_singleton]
  by_cases hc : y.key.length ≤ 16 ∧ okV (vacV y.chain o)
  ·rw [if_pos ⟨h1,hc.1,hc.2,h0⟩] at hd
   rw [if_pos hc]
   obtain ⟨_,k1,k2⟩ := hd
   refine ⟨k1,k2,by rw [k2,zqo hsr]; split <;> omega,?_⟩
   rw [k2]
   exact znc hsr h4 hs
  ·rw [if_neg (fun k => hc ⟨k.2.1,k.2.2.1⟩)] at hd
   rw [if_neg hc]
   obtain ⟨_,rfl⟩ := hd
   exact ⟨h1,rfl,by omega,h4⟩
 ·have := h.2 hk
  subst this
  unfold zf7 at hd
  rw [if_neg (fun k => hk k.1)] at hd
  exact hd.2
theorem VacS.none {o:Int} {n m:Nd} {ps:List Pr} {y:Pr} (h:VacS o n ps m) (h0:vacV y.chain o≠[]) (h9:¬ (vacV y.chain o).length<y.chain.length):VacS o n (ps++[y]) m:=by
 refine⟨fun hk=>?_,h.2⟩
 obtain⟨h1,h2,h3,h4⟩:=h.1 hk
 refine⟨h1,?_,by rw [List.length_append,List.length_singleton];omega,h4⟩
 rw [zgb,← h2]
 unfold stV
 rw [if_neg h0,if_neg h9]
theorem VacS.start {o:Int} {n:Nd}(hf:fitN n)(hl:(prN n).length≤1000):VacS o n [] n:=by
 refine⟨fun hk=>?_,fun _=>rfl⟩
 have hp:=zft hf
 unfold prN at hl hp
 rw [if_pos hk] at hl hp
 exact⟨hk,rfl,by simpa using hl,hp⟩
theorem zrd (l : List Pr) : inP l ⟨0,[],[],true⟩ = l := by
 unfold inP
 rw [List.filter_eq_self]
 intro p _
 unfold inS
 rw [zq3]
 rfl
theorem VacS.done {o:Int} {n m:Nd} {ps:List Pr}(h:VacS o n ps m)(hp:ps=prN n):zl7 o n m:=by
 refine⟨fun hk=>?_,h.2⟩
 obtain⟨h1,h2,_⟩:=h.1 hk
 refine⟨h1,?_⟩
 rw [h2,hp]
 unfold prN
 rw [if_pos hk,zqb hk.2]
def NdTu (S:Nat→Prop) (w:World) (Q:Nd→Prop) (e:Ending) (w':World):Prop:=∃ u m,e=.returned u∧Q m∧RdN (fun k=>S k∧k<w.heap.size∨w.heap.size≤k∧k<w'.heap.size) w' u m∧Below w.heap.size w w'
theorem zfs (w : World) {S : Nat → Prop} {v : Value} {n : Nd} {o : Int} (hr : RdN S w v n) (hf : fitN n) (hl : (prN n).length ≤ 1000) : Calls Tryz.prog 49 #[v,.int .i64 o] w (NdTu S w (zl7 o n)) := by
 have hr0 := hr
 have hrw : RdN (· < w.heap.size) w v n := hr.fit.weak fun _ h => h.2
 obtain ⟨a1,c1,a2,c2,a3,c3,rfl,_,_,_⟩ := hr
 obtain ⟨w1,hw1⟩ : ∃ w1,w1 = w.alloc (.cells #[.slice a1 n.keys.length c1,.slice a2 n.chains.length c2,.slice a3 n.kids.length c3] 26) := ⟨_,rfl⟩
 obtain ⟨w2,hw2⟩ : ∃ w2,w2 = w1.alloc (.cells #[.int .i64 o] 3) := ⟨_,rfl⟩
 obtain ⟨W,hW⟩ : ∃ W,W = w2.alloc (.cells #[.slice none 0 0,.slice none 0 0,.slice none 0 0] 26) := ⟨_,rfl⟩
 have hs1 : w1.heap.size = w.heap.size + 1 := by rw [hw1]; simp
 have hs2 : w2.heap.size = w.heap.size + 2 := by rw [hw2]; simp [hs1]
 have hsW : W.heap.size = w.heap.size + 3 := by rw [hW]; simp [hs2]
 have k2 : Below w2.heap.size w2 W := by rw [hW]; exact (Below.refl _ _).alloc (Nat.le_refl _) _
 have k1 : Below w1.heap.size w1 W := (show Below w1.heap.size w1 w2 by rw [hw2]; exact (Below.refl _ _).alloc (Nat.le_refl _) _).trans (k2.mono (by omega))
 have q : Below w.heap.size w W := (show Below w.heap.size w w1 by rw [hw1]; exact (Below.refl _ _).alloc (Nat.le_refl _) _).trans (k1.mono (by omega))
 have bn : TriV W w.heap.size 26 (.slice a1 n.keys.length c1) (.slice a2 n.chains.length c2) (.slice a3 n.kids.length c3) := (show TriV w1 w.heap.size 26 (.slice a1 n.keys.length c1) (.slice a2 n.chains.length c2) (.slice a3 n.kids.length c3) by rw [hw1]; exact TriV.new _ _ _ _ _).below k1 (by omega)
 have bs : Boxed W (w.heap.size + 1) 3 (.int .i64 o) := (k2.block _ (by omega)).trans (show Boxed w2 (w.heap.size + 1) 3 (.int .i64 o) by
  have h := Boxed.new w1 3 (.int .i64 o)
  rw [hs1] at h
  rw [hw2]; exact h)
 have bz : TriV W (w.heap.size + 2) 26 (.slice none 0 0) (.slice none 0 0) (.slice none 0 0) := by
  have h := TriV.new w2 26 (.slice none 0 0) (.slice none 0 0) (.slice none 0 0)
  rw [hs2] at h
  rw [hW]; exact h
 have hWW : ((w.alloc (.cells #[.slice a1 n.keys.length c1,.slice a2 n.chains.length c2,.slice a3 n.kids.length c3] 26)).alloc (.cells #[.int .i64 o] 3)).alloc (.cells #[.slice none 0 0,.slice none 0 0,.slice none 0 0] 26) = W := by rw [hW,hw2,hw1]
 obtain ⟨w3,hw3⟩ : ∃ w3,w3 = (W.alloc (.cells #[.slice a1 n.keys.length c1,.slice a2 n.chains.length c2,.slice a3 n.kids.length c3] 26)).alloc (.cells #[.int .i64 0,.slice none 0 0,.slice none 0 0,.bool true] 32) := ⟨_,rfl⟩
 have hb3 : Below W.heap.size W w3 := by rw [hw3]; exact ((Below.refl _ _).alloc (Nat.le_refl _) _).alloc (by simp) _
 have hs3 : w3.heap.size = W.heap.size + 2 := by rw [hw3]; simp
 have hnb : TriV w3 W.heap.size 26 (.slice a1 n.keys.length c1) (.slice a2 n.chains.length c2) (.slice a3 n.kids.length c3) := by
  rw [hw3]
  exact (TriV.new W _ _ _ _).below ((Below.refl _ _).alloc (Nat.le_refl _) _) (by simp)
 have hxb : BoxN w3 (W.heap.size + 1) 32 [.int .i64 0,.slice none 0 0,.slice none 0 0,.bool true] := by
  have h := BoxN.new (W.alloc (.cells #[.slice a1 n.keys.length c1,.slice a2 n.chains.length c2,.slice a3 n.kids.length c3] 26)) 32 [.int .i64 0,.slice none 0 0,.slice none 0 0,.bool true]
  rw [World.size_alloc] at h
  rw [hw3]; exact h
 have hb03 := q.trans (hb3.mono q.size)
 have hst := zeu (w0 := w) (w := w3) (n := n) (x := ⟨0,[],[],true⟩) (N := 1000) (b := w.heap.size) hrw hf ⟨none,0,none,0,rfl,RdS.nil _ _,RdS.nil _ _,by constructor <;> decide⟩ hb03 hnb rfl hxb (by omega) (by omega) (by omega) (by rw [zrd]; exact hl)
 rw [zrd,hsW] at hst
 have bn3 := bn.below hb3 bn.lt
 have bs3 : Boxed w3 (w.heap.size + 1) 3 (.int .i64 o) := (hb3.block _ bs.lt).trans bs
 have bz3 := bz.below hb3 bz.lt
 clear hs1 hs2 k1 k2 hw1 hw2 hW w1 w2
 refine zbr Tryz.func49 rfl ?_
 simp only [Tryz.ntmps49,List.size_toArray,List.length_cons,List.length_nil,Nat.reduceAdd,Nat.reduceSub,Array.replicate_succ,Array.replicate_zero,List.push_toArray,List.append_toArray,List.nil_append,List.cons_append]
 go_upto_region 1 with (fail)
 (try rw [hWW])
 clear hWW
 have d0 := bn.cell0
 have d1 := bn.cell1
 have d2 := bn.cell2
 go_wp2_with fail
 refine (zf9 W _ _ _ _ _ _ _).mono ?_
 rintro e wS ⟨rfl,hwS⟩
 obtain rfl : wS = w3 := by rw [hwS,hw3]
 clear hwS hw3 d0 d1 d2 bn bs bz
 go_wp2_with fail
 refine zef (gf := 59) (lb := #[.pointer (some ⟨w.heap.size + 3,0,none⟩),.pointer (some ⟨w.heap.size + 3 + 1,0,none⟩)]) rfl (enters_of Tryz.func59 (by kernel_rfl) rfl)
  hst (fun h k => h.trans k) (fun i => zm4 (by omega)) (Below.refl _ _) (fun _ => rfl)
  (fun hi (pre : List YEl) V => Below w.heap.size w V ∧ Boxed V (w.heap.size + 1) 3 (.int .i64 o) ∧ TriV V (w.heap.size + 2) 26 (.slice none 0 0) (.slice none 0 0) (.slice none 0 0) ∧ ∃ A B C mm,TriV V w.heap.size 26 A B C ∧ RdN (fun k => S k ∧ k < w.heap.size ∨ w.heap.size + 3 ≤ k) V (.agg #[A,B,C]) mm ∧ VacS o n (pre.map (·.pr)) mm)
  (fun hi c pre V => False)
  (fun i => OwnFrom.and (zf6 (Nat.le_refl _) (by omega)) (OwnFrom.and zed (OwnFrom.and (fun _ _ _ _ hs hg hr => zje hs hg fun r e => (hr r e).2) (fun _ _ _ _ hs hg hr => by
   obtain ⟨A,B,C,mm,h1,h2,h3⟩ := hs
   exact ⟨A,B,C,mm,zje h1 hg fun r e => (hr r e).2,zqn h2 hg fun r e => (hr r e).2,h3⟩))))
  (fun i c _ _ _ _ hs _ _ => hs)
  (fun i => ⟨hb03,bs3,bz3,_,_,_,n,bn3,(hr0.fit.below hb03).weak fun k hk => .inl hk,VacS.start hf hl⟩)
  (fun hi y a' V => a' = { tmps := #[.agg #[.slice a1 n.keys.length c1,.slice a2 n.chains.length c2,.slice a3 n.kids.length c3],.int .i64 o,.pointer (some ⟨w.heap.size,0,none⟩),.pointer (some ⟨w.heap.size + 1,0,none⟩),.pointer (some ⟨w.heap.size + 1 + 1,0,none⟩),.slice y.ad y.t.length y.c,.slice y.ad2 y.l.length y.c2,undef,.agg #[.slice a1 n.keys.length c1,.slice a2 n.chains.length c2,.slice a3 n.kids.length c3],.agg #[.int .i64 0,.slice none 0 0,.slice none 0 0,.bool true],.func (.func 59) #[] #[.pointer (some ⟨w.heap.size + 3,0,none⟩),.pointer (some ⟨w.heap.size + 3 + 1,0,none⟩)],.slice y.ad y.t.length y.c,.slice y.ad2 y.l.length y.c2,undef,undef,undef,undef,undef,undef,undef,undef,undef,undef,undef,undef,undef,undef,undef,undef,undef,undef,undef,undef,undef,undef,undef,undef,undef,undef,undef],defers := [] } ∧ GdW wS.heap.size hi y V)
  (fun i y a' _ _ _ _ hs hg hr => ⟨hs.1,hs.2.own hg fun r e => (hr r e).2⟩) ?assign ?body ?done ?stop
 case assign =>
  intro i l pre y V K hi hgd hK
  gi_wp2
  refine Eq.mp ?_ (hK _ _ (KeepsFrom.refl _ _) (KpB.refl _ _ _ _) hi ⟨rfl,hgd⟩)
  kernel_rfl
 case stop =>
  rintro hi D c pre W4 hD _ h _
  exact h.elim
 case body =>
  rintro hi l pre y a' W4 ⟨hb4,bs4,bz4,A,B,C,mm,bn4,hm4,hv4⟩ ⟨rfl,hgd⟩ hlt
  have hgf := hv4.fit hf (by rw [List.length_map]; omega)
  have c4 := bs4.cell
  have t0 := bn4.cell0
  have t1 := bn4.cell1
  have t2 := bn4.cell2
  have hs4 := hb4.size
  have hz4 := bz4.lt
  obtain ⟨A1,C1,A2,C2,A3,C3,eV,_,_,_⟩ := id hm4
  injection eV with eV
  injection eV with eV
  injection eV with e1 eV
  injection eV with e2 eV
  injection eV with e3 _
  subst e1 e2 e3
  have hvc := CallsIn.inRound l ((callsIn_wide (n := 0)).2 (zgz W4 (s := o) hgd.2.1 hgd.2.2.2.2))
  have hvl := zno y.l o
  have hvs : zbq (vacV y.l o) := by
   refine ⟨by have := hgd.2.2.2.2.1; omega,fun z hz => ?_⟩
   exact hgd.2.2.2.2.2 z (znn hz)
  obtain ⟨vl,hvle⟩ : ∃ vl,vl = vacV y.l o := ⟨_,rfl⟩
  rw [← hvle] at hvc hvl hvs
  replace hvle := Lib.hid hvle
  gi_wp2
  refine ⟨trivial,hvc.mono ?_⟩
  clear hvc
  rintro e W5 ⟨a5,c5,rfl,hr5,hb5⟩
  have hgd5 := hgd.below hb5
  have bn5 := bn4.below hb5 bn4.lt
  have hm5 := hm4.below hb5
  have hs5 := hb5.size
  clear t0 t1 t2 c4 hm4 bn4
  have t0 := bn5.cell0
  have t1 := bn5.cell1
  have t2 := bn5.cell2
  rcases Nat.eq_zero_or_pos vl.length with h0 | h0
  ·have hn0 := List.eq_nil_of_length_eq_zero h0
   have d1 : ((vl.length : Int) == 0) = true := beq_iff_eq.2 (by omega)
   replace hn0 := Lib.hid hn0
   replace h0 := Lib.hid h0
   have hdl := CallsIn.inRound l ((callsIn_wide (n := 0)).2 (zmi W5 hm5 hgf hgd5.1))
   gi_wp2
   refine ⟨trivial,hdl.mono ?_⟩
   clear hdl
   rintro e W6 ⟨v6,m6,er,rfl,hd6,hr6,hb6⟩
   obtain ⟨A4,C4,A5,C5,A6,C6,rfl,_,_,_⟩ := id hr6
   have bx6 : BoxN W6 w.heap.size 26 [.slice A1 mm.keys.length C1,.slice A2 mm.chains.length C2,.slice A3 mm.kids.length C3] := bn5.below hb6 bn5.lt
   have hs6 := hb6.size
   clear t0 t1 t2 hm5 bn5
   gi_wp2_with (refine zgy (us := [.slice A4 m6.keys.length C4,.slice A5 m6.chains.length C5,.slice A6 m6.kids.length C6]) (by kernel_rfl) rfl rfl rfl rfl rfl rfl bx6 rfl (fun W7 hg7 bx7 => ?_))
   have hb46 : Below W4.heap.size W4 W6 := hb5.trans (hb6.mono hs5)
   have hk46 : KeepsOthers W4 W6 := KeepsOthers.of_grownBy (za1 hb46) (fun j o e => by cases e)
   have hk67 : KeepsOthers W6 W7 := KeepsOthers.of_grownBy hg7 (fun j o e ho => by injection e with e; subst e; rw [show W6.heap[w.heap.size]? = _ from bx6] at ho; cases ho; rfl)
   have hs7 := hg7.size
   have hb67 : Below w.heap.size W6 W7 := ⟨hg7.os,hg7.tape,hg7.output,hs7,fun j hj => hg7.block j (by omega) (fun e => by injection e with e; omega)⟩
   have hb47 : Below w.heap.size W4 W7 := (hb46.mono hs4).trans hb67
   have hne : ∀ j,j < W4.heap.size → j ≠ w.heap.size → W7.heap[j]? = W4.heap[j]? := fun j h1 h2 => (hg7.block j (by omega) (fun e => h2 (by injection e))).trans (hb46.block j h1)
   refine ⟨(hk46.trans hk67).from _,⟨hb47,fun j o h1 h2 h3 h4 => hne j (Array.getElem?_eq_some_iff.1 h3).1 h2⟩,hb4.trans hb47,(hne _ bs4.lt (by omega)).trans bs4,(hne _ bz4.lt (by omega)).trans bz4,_,_,_,m6,bx7,(hr6.keep fun k hk => hg7.block k hk.2 (fun e => by injection e with e; omega)).weak fun k hk => .inr (by omega),?_⟩
   rw [List.map_append,List.map_cons,List.map_nil]
   exact hv4.del (y := y.pr) (hvle.out.symm.trans hn0.out) hd6
  ·have hn0 : vl ≠ [] := fun e => by rw [e] at h0; exact absurd h0 (by simp)
   have d1 : ((vl.length : Int) == 0) = false := beq_eq_false_iff_ne.2 (by omega)
   replace hn0 := Lib.hid hn0
   replace h0 := Lib.hid h0
   rcases Nat.lt_or_ge vl.length y.l.length with h9 | h9
   ·have d2 : decide ((vl.length : Int) < (y.l.length : Int)) = true := by simp; omega
    have hpt := CallsIn.inRound l ((callsIn_wide (n := 0)).2 (zeh W5 hm5 hgf hgd5.1 (by have := hgd5.2.2.2.1; omega) hr5 hvs))
    replace h9 := Lib.hid h9
    gi_wp2
    refine ⟨trivial,hpt.mono ?_⟩
    clear hpt
    rintro e W6 ⟨v6,m6,er,rfl,hd6,hr6,hb6⟩
    obtain ⟨A4,C4,A5,C5,A6,C6,rfl,_,_,_⟩ := id hr6
    have bx6 : BoxN W6 w.heap.size 26 [.slice A1 mm.keys.length C1,.slice A2 mm.chains.length C2,.slice A3 mm.kids.length C3] := bn5.below hb6 bn5.lt
    have hs6 := hb6.size
    clear t0 t1 t2 hm5 bn5
    gi_wp2_with (refine zgy (us := [.slice A4 m6.keys.length C4,.slice A5 m6.chains.length C5,.slice A6 m6.kids.length C6]) (by kernel_rfl) rfl rfl rfl rfl rfl rfl bx6 rfl (fun W7 hg7 bx7 => ?_))
    have hb46 : Below W4.heap.size W4 W6 := hb5.trans (hb6.mono hs5)
    have hk46 : KeepsOthers W4 W6 := KeepsOthers.of_grownBy (za1 hb46) (fun j o e => by cases e)
    have hk67 : KeepsOthers W6 W7 := KeepsOthers.of_grownBy hg7 (fun j o e ho => by injection e with e; subst e; rw [show W6.heap[w.heap.size]? = _ from bx6] at ho; cases ho; rfl)
    have hs7 := hg7.size
    have hb67 : Below w.heap.size W6 W7 := ⟨hg7.os,hg7.tape,hg7.output,hs7,fun j hj => hg7.block j (by omega) (fun e => by injection e with e; omega)⟩
    have hb47 : Below w.heap.size W4 W7 := (hb46.mono hs4).trans hb67
    have hne : ∀ j,j < W4.heap.size → j ≠ w.heap.size → W7.heap[j]? = W4.heap[j]? := fun j h1 h2 => (hg7.block j (by omega) (fun e => h2 (by injection e))).trans (hb46.block j h1)
    refine ⟨(hk46.trans hk67).from _,⟨hb47,fun j o h1 h2 h3 h4 => hne j (Array.getElem?_eq_some_iff.1 h3).1 h2⟩,hb4.trans hb47,(hne _ bs4.lt (by omega)).trans bs4,(hne _ bz4.lt (by omega)).trans bz4,_,_,_,m6,bx7,(hr6.keep fun k hk => hg7.block k hk.2 (fun e => by injection e with e; omega)).weak fun k hk => .inr (by omega),?_⟩
    rw [List.map_append,List.map_cons,List.map_nil]
    rw [hvle.out] at hn0 h9 hvs hd6
    exact hv4.put (y := y.pr) hn0.out h9.out hvs hd6
   ·have d2 : decide (vl.length < y.l.length) = false := by simp; omega
    replace h9 := Lib.hid h9
    gi_wp2
    have hs6 := hb5.size
    refine ⟨(KeepsOthers.of_grownBy (za1 hb5) (fun j o e => by cases e)).from _,KpB.of hb5 (by omega),hb4.trans (hb5.mono hs4),(hb5.block _ bs4.lt).trans bs4,bz4.below hb5 bz4.lt,_,_,_,mm,bn5,hm5,?_⟩
    rw [List.map_append,List.map_cons,List.map_nil]
    rw [hvle.out] at hn0 h9
    exact hv4.none (y := y.pr) hn0.out (Nat.not_lt.2 h9.out)
 case done =>
  rintro hi D ys W4 hD hys ⟨hb4,bs4,bz4,A,B,C,mm,bn4,hm4,hv4⟩ hK
  have hs4 := hb4.size
  obtain ⟨A1,C1,A2,C2,A3,C3,eV,_,_,_⟩ := id hm4
  injection eV with eV
  injection eV with eV
  injection eV with e1 eV
  injection eV with e2 eV
  injection eV with e3 _
  subst e1 e2 e3
  have t0 := bn4.cell0
  have t1 := bn4.cell1
  have t2 := bn4.cell2
  have hvi := hv4.done hys
  replace hys := Lib.hid hys
  go_wp2_with (first | (refine za4 (by kernel_rfl) rfl rfl rfl rfl rfl rfl rfl rfl bz4 (fun W5 hg5 bz5 => ?_)) | fail)
  have hne : ∀ j,j < W4.heap.size → j ≠ w.heap.size + 2 → W5.heap[j]? = W4.heap[j]? := fun j h1 h2 => hg5.block j h1 (fun e => h2 (by injection e))
  have hK5 : W5.heap[D]? = some (.deferred (some [])) := (hne D (Array.getElem?_eq_some_iff.1 hK).1 (by omega)).trans hK
  have hb5 : Below w.heap.size w W5 := hb4.trans ⟨hg5.os,hg5.tape,hg5.output,hg5.size,fun k hk => hne k (by omega) (by omega)⟩
  have hs5 := hg5.size
  have hm5 : RdN (fun k => S k ∧ k < w.heap.size ∨ w.heap.size + 3 ≤ k) W5 _ mm := (hm4.fit.keep fun k hk => hne k hk.2 (by omega)).weak fun k hk => hk.1
  refine ⟨by simp,.inl ⟨_,_,rfl,run_takeDeferred hK5,?_⟩⟩
  have hm6 := zqn hm5 (grownBy_putObj' W5 D (Obj.deferred none)) (fun r e => by injection e with e; subst e; exact ⟨_,hK5,rfl⟩)
  have bz6 := zje bz5 (grownBy_putObj' W5 D (Obj.deferred none)) (fun r e => by injection e with e; subst e; exact ⟨_,hK5,rfl⟩)
  have g0 := bz6.cell0
  have g1 := bz6.cell1
  have g2 := bz6.cell2
  obtain ⟨fs,hu,_,_⟩ := zce.hu
  exact ⟨.agg #[.slice A1 mm.keys.length C1,.slice A2 mm.chains.length C2,.slice A3 mm.kids.length C3],by simp [results,Tryz.results49,go_sem,loadVar,isAgg,run_underlying hu,zab zce.hs,loadCellsFrom,Addr.add,g0,g1,g2],_,mm,rfl,hvi,hm6.fit.weak fun k hk => hk.1.imp id fun h => ⟨by omega,hk.2⟩,hb5.trans (belowK_b (w := w) (Nat.le_refl _) W5 D _ _ (by omega) hK5 rfl rfl)⟩
def VacT (o:Int) (T T':Sto):Prop:=(okS T→∀ i,i<4→zl7 o (T i) (T' i))∧(¬ okS T→∀ i,i<4→T' i=T i)
def StTo (w:World) (Q:Sto→Prop) (e:Ending) (w':World):Prop:=∃ v T',e=.returned v∧Q T'∧RdSt (fun k=>w.heap.size≤k∧k<w'.heap.size) w' v T'∧Below w.heap.size w w'
theorem zfg (w : World) {S : Nat → Prop} {v : Value} {T : Sto} {o : Int} (hr : RdSt S w v T) (hf : fitS T) : Calls Tryz.prog 25 #[v,.int .i64 o] w (StTo w (VacT o T)) := by
 have hr0 := hr
 obtain ⟨a,m,c,rfl,hx⟩ := hr
 obtain ⟨W,hW⟩ : ∃ W,W = (w.alloc (.cells #[.slice (a 0) (m 0) (c 0),.slice (a 1) (m 1) (c 1),.slice (a 2) (m 2) (c 2),.slice (a 3) (m 3) (c 3),.slice (a 4) (m 4) (c 4),.slice (a 5) (m 5) (c 5),.slice (a 6) (m 6) (c 6),.slice (a 7) (m 7) (c 7),.slice (a 8) (m 8) (c 8),.slice (a 9) (m 9) (c 9),.slice (a 10) (m 10) (c 10),.slice (a 11) (m 11) (c 11)] 29)).alloc (.cells #[.slice none 0 0,.slice none 0 0,.slice none 0 0,.slice none 0 0,.slice none 0 0,.slice none 0 0,.slice none 0 0,.slice none 0 0,.slice none 0 0,.slice none 0 0,.slice none 0 0,.slice none 0 0] 29) := ⟨_,rfl⟩
 have hsW : W.heap.size = w.heap.size + 2 := by rw [hW]; simp
 have q : Below w.heap.size w W := by rw [hW]; exact ((Below.refl _ _).alloc (Nat.le_refl _) _).alloc (by simp) _
 have bn : StB W w.heap.size a m c := by rw [hW]; exact (BoxN.new _ _ (bxS a m c)).below ((Below.refl _ _).alloc (Nat.le_refl _) _) (by simp)
 have bz : BoxN W (w.heap.size + 1) 29 [.slice none 0 0,.slice none 0 0,.slice none 0 0,.slice none 0 0,.slice none 0 0,.slice none 0 0,.slice none 0 0,.slice none 0 0,.slice none 0 0,.slice none 0 0,.slice none 0 0,.slice none 0 0] := by
  rw [hW]
  have := BoxN.new (w.alloc (.cells #[.slice (a 0) (m 0) (c 0),.slice (a 1) (m 1) (c 1),.slice (a 2) (m 2) (c 2),.slice (a 3) (m 3) (c 3),.slice (a 4) (m 4) (c 4),.slice (a 5) (m 5) (c 5),.slice (a 6) (m 6) (c 6),.slice (a 7) (m 7) (c 7),.slice (a 8) (m 8) (c 8),.slice (a 9) (m 9) (c 9),.slice (a 10) (m 10) (c 10),.slice (a 11) (m 11) (c 11)] 29)) 29 [.slice none 0 0,.slice none 0 0,.slice none 0 0,.slice none 0 0,.slice none 0 0,.slice none 0 0,.slice none 0 0,.slice none 0 0,.slice none 0 0,.slice none 0 0,.slice none 0 0,.slice none 0 0]
  rwa [World.size_alloc] at this
 have hcp := zcg W (hr0.below q) hf
 go_enter Tryz.func25,Tryz.ntmps25
 go_upto_region 1 with (fail)
 rw [← hW]
 clear hW
 have d0 := bn.cell (i := 0) rfl
 have d1 := bn.cell (i := 1) rfl
 have d2 := bn.cell (i := 2) rfl
 have d3 := bn.cell (i := 3) rfl
 have d4 := bn.cell (i := 4) rfl
 have d5 := bn.cell (i := 5) rfl
 have d6 := bn.cell (i := 6) rfl
 have d7 := bn.cell (i := 7) rfl
 have d8 := bn.cell (i := 8) rfl
 have d9 := bn.cell (i := 9) rfl
 have d10 := bn.cell (i := 10) rfl
 have d11 := bn.cell (i := 11) rfl
 go_wp2_with fail
 refine hcp.mono ?_
 rintro e W4 ⟨v4,rfl,⟨a1,m1,c1,rfl,hcp⟩,hb4⟩
 obtain ⟨W5,hW5⟩ : ∃ W5,W5 = W4.alloc (.cells #[.slice (a1 0) (m1 0) (c1 0),.slice (a1 1) (m1 1) (c1 1),.slice (a1 2) (m1 2) (c1 2),.slice (a1 3) (m1 3) (c1 3),.slice (a1 4) (m1 4) (c1 4),.slice (a1 5) (m1 5) (c1 5),.slice (a1 6) (m1 6) (c1 6),.slice (a1 7) (m1 7) (c1 7),.slice (a1 8) (m1 8) (c1 8),.slice (a1 9) (m1 9) (c1 9),.slice (a1 10) (m1 10) (c1 10),.slice (a1 11) (m1 11) (c1 11)] 29) := ⟨_,rfl⟩
 have b5 : Below W4.heap.size W4 W5 := by rw [hW5]; exact (Below.refl _ _).alloc (Nat.le_refl _) _
 have bx : StB W5 W4.heap.size a1 m1 c1 := by rw [hW5]; exact BoxN.new _ _ (bxS a1 m1 c1)
 have hs4 := hb4.size
 have hs5 := b5.size
 have bz5 := (bz.below hb4 bz.lt).below b5 (by have := bz.lt; omega)
 have q5 := q.trans ((hb4.mono q.size).trans (b5.mono (by omega)))
 replace hcp : ∀ i,i < 4 → RdN (fun k => w.heap.size + 2 ≤ k ∧ k < W4.heap.size) W5 (.agg #[.slice (a1 (3 * i)) (m1 (3 * i)) (c1 (3 * i)),.slice (a1 (3 * i + 1)) (m1 (3 * i + 1)) (c1 (3 * i + 1)),.slice (a1 (3 * i + 2)) (m1 (3 * i + 2)) (c1 (3 * i + 2))]) (T i) := fun i hi => ((hcp i hi).keep fun k hk => b5.block k hk.2).weak fun k hk => ⟨by omega,hk.2⟩
 have hch := zcx W5 (S := fun k => w.heap.size + 2 ≤ k ∧ k < W4.heap.size) (v := .agg #[.slice (a1 0) (m1 0) (c1 0),.slice (a1 1) (m1 1) (c1 1),.slice (a1 2) (m1 2) (c1 2),.slice (a1 3) (m1 3) (c1 3),.slice (a1 4) (m1 4) (c1 4),.slice (a1 5) (m1 5) (c1 5),.slice (a1 6) (m1 6) (c1 6),.slice (a1 7) (m1 7) (c1 7),.slice (a1 8) (m1 8) (c1 8),.slice (a1 9) (m1 9) (c1 9),.slice (a1 10) (m1 10) (c1 10),.slice (a1 11) (m1 11) (c1 11)]) ⟨a1,m1,c1,rfl,hcp⟩ hf
 clear bn bz d0 d1 d2 d3 d4 d5 d6 d7 d8 d9 d10 d11
 go_upto_region 2 with (fail)
 rw [← hW5]
 clear hW5
 have d0 := bx.cell (i := 0) rfl
 have d1 := bx.cell (i := 1) rfl
 have d2 := bx.cell (i := 2) rfl
 have d3 := bx.cell (i := 3) rfl
 have d4 := bx.cell (i := 4) rfl
 have d5 := bx.cell (i := 5) rfl
 have d6 := bx.cell (i := 6) rfl
 have d7 := bx.cell (i := 7) rfl
 have d8 := bx.cell (i := 8) rfl
 have d9 := bx.cell (i := 9) rfl
 have d10 := bx.cell (i := 10) rfl
 have d11 := bx.cell (i := 11) rfl
 by_cases hok : okS T
 ·rw [decide_eq_true hok] at hch
  replace hok := Lib.hid hok
  go_wp2_with fail
  refine hch.mono ?_
  rintro e W6 ⟨rfl,hb6⟩
  have bx6 : StB W6 W4.heap.size a1 m1 c1 := bx.below hb6 bx.lt
  have hs6 := hb6.size
  clear d0 d1 d2 d3 d4 d5 d6 d7 d8 d9 d10 d11
  have d0 := bx6.cell (i := 0) rfl
  have d1 := bx6.cell (i := 1) rfl
  have d2 := bx6.cell (i := 2) rfl
  have d3 := bx6.cell (i := 3) rfl
  have d4 := bx6.cell (i := 4) rfl
  have d5 := bx6.cell (i := 5) rfl
  have d6 := bx6.cell (i := 6) rfl
  have d7 := bx6.cell (i := 7) rfl
  have d8 := bx6.cell (i := 8) rfl
  have d9 := bx6.cell (i := 9) rfl
  have d10 := bx6.cell (i := 10) rfl
  have d11 := bx6.cell (i := 11) rfl
  go_wp2_with fail
  go_loopw [16] (fun v wr => ∃ (i : Nat) (a2 : Nat → Option Addr) (m2 c2 : Nat → Nat),v = .int .i64 (i : Int) ∧ i ≤ 4 ∧ Below W4.heap.size W5 wr ∧ StB wr W4.heap.size a2 m2 c2 ∧
   ∀ j,j < i → ∃ n',zl7 o (T j) n' ∧ RdN (fun k => w.heap.size + 2 ≤ k ∧ k < wr.heap.size ∧ k ≠ W4.heap.size) wr (.agg #[.slice (a2 (3 * j)) (m2 (3 * j)) (c2 (3 * j)),.slice (a2 (3 * j + 1)) (m2 (3 * j + 1)) (c2 (3 * j + 1)),.slice (a2 (3 * j + 2)) (m2 (3 * j + 2)) (c2 (3 * j + 2))]) n') (fun v _ => 4 - toN v)
  case atStart => exact ⟨0,a1,m1,c1,rfl,by omega,hb6.mono hs5,bx6,fun j hj => by omega⟩
  case round =>
   obtain ⟨i,a2,m2,c2,rfl,hi,hb,bx,hA⟩ := hrel
   replace hA := Lib.hid hA
   clear d0 d1 d2 d3 d4 d5 d6 d7 d8 d9 d10 d11
   rcases Nat.lt_or_ge i 4 with hl | hl
   ·have dl : decide ((i : Int) < 4) = true := by simp; omega
    have hf' := hf i hl
    rcases (show i = 0 ∨ i = 1 ∨ i = 2 ∨ i = 3 by omega) with rfl | rfl | rfl | rfl
    ·have rN : RdN (fun k => w.heap.size + 2 ≤ k ∧ k < W4.heap.size) W5 (.agg #[.slice (a1 0) (m1 0) (c1 0),.slice (a1 1) (m1 1) (c1 1),.slice (a1 2) (m1 2) (c1 2)]) (T 0) := hcp 0 (by omega)
     obtain ⟨W3,hW3⟩ : ∃ W3,W3 = wr.alloc (.cells #[.slice (a1 0) (m1 0) (c1 0),.slice (a1 1) (m1 1) (c1 1),.slice (a1 2) (m1 2) (c1 2)] 26) := ⟨_,rfl⟩
     have b3 : Below wr.heap.size wr W3 := by rw [hW3]; exact (Below.refl _ _).alloc (Nat.le_refl _) _
     have bn3 : TriV W3 wr.heap.size 26 (.slice (a1 0) (m1 0) (c1 0)) (.slice (a1 1) (m1 1) (c1 1)) (.slice (a1 2) (m1 2) (c1 2)) := by rw [hW3]; exact TriV.new _ _ _ _ _
     have bx3 : StB W3 W4.heap.size a2 m2 c2 := bx.below b3 bx.lt
     have hxl := bx.lt
     have hs3 := b3.size
     have hb3 := hb.trans (b3.mono (by omega))
     have hvd := zfs W3 (o := o) (rN.keep fun k hk => hb3.block k hk.2) hf' (by have := (hok.out 0 (by omega)).2; omega)
     go_upto_region 7 with (first | (refine zbj taP 0 rfl rfl rfl rfl rfl (by omega) rfl ?_) | fail)
     rw [← hW3]
     have e0 := bn3.cell0
     have e1 := bn3.cell1
     have e2 := bn3.cell2
     clear hW3
     go_wp2_with fail
     refine hvd.mono ?_
     rintro e W6 ⟨v4,n4,rfl,hp4,hr4,hb4⟩
     have bx4 := bx3.below hb4 bx3.lt
     have hs4 := hb4.size
     have hA4 : ∀ j,j < 0 → ∃ n',zl7 o (T j) n' ∧ RdN (fun k => w.heap.size + 2 ≤ k ∧ k < wr.heap.size ∧ k ≠ W4.heap.size) W6 (.agg #[.slice (a2 (3 * j)) (m2 (3 * j)) (c2 (3 * j)),.slice (a2 (3 * j + 1)) (m2 (3 * j + 1)) (c2 (3 * j + 1)),.slice (a2 (3 * j + 2)) (m2 (3 * j + 2)) (c2 (3 * j + 2))]) n' := fun j hj => (hA.out j hj).imp fun n' h => ⟨h.1,h.2.keep fun k hk => (hb4.block k (by omega)).trans (b3.block k hk.2.1)⟩
     replace hA4 := Lib.hid hA4
     obtain ⟨f0,g0,f1,g1,f2,g2,rfl,_,_,_⟩ := id hr4
     have hr4' := Lib.hid hr4
     have hp4' := Lib.hid hp4
     clear hr4 hp4 e0 e1 e2
     have hbb := hb3.trans (hb4.mono (by omega))
     go_wp2_with (first | (refine zb9 taP 0 rfl rfl rfl rfl rfl (by omega) ?_) | (refine za7 (us := [.slice f0 n4.keys.length g0,.slice f1 n4.chains.length g1,.slice f2 n4.kids.length g2]) (by kernel_rfl) rfl rfl rfl rfl rfl rfl bx4 (by show _ ≤ 12; simp) (fun W7 hg5 bx5 => ?_)) | fail)
     go_roundw
     case rel =>
      have hb7 : Below W4.heap.size W6 W7 := ⟨hg5.os,hg5.tape,hg5.output,hg5.size,fun k hk => hg5.block k (by omega) (fun e => by injection e with e; omega)⟩
      have hk6 : ∀ k,k < wr.heap.size → k ≠ W4.heap.size → W7.heap[k]? = W6.heap[k]? := fun k h1 h2 => hg5.block k (by omega) (fun e => h2 (by injection e))
      have hk5 : ∀ k,k < W6.heap.size → k ≠ W4.heap.size → W7.heap[k]? = W6.heap[k]? := fun k h1 h2 => hg5.block k h1 (fun e => h2 (by injection e))
      have hs5 := hg5.size
      refine ⟨1,fun j => if j = 0 then f0 else if j = 1 then f1 else if j = 2 then f2 else a2 j,fun j => if j = 0 then n4.keys.length else if j = 1 then n4.chains.length else if j = 2 then n4.kids.length else m2 j,fun j => if j = 0 then g0 else if j = 1 then g1 else if j = 2 then g2 else c2 j,by go_num,by omega,hbb.trans hb7,bx5,fun j hj => ?_⟩
      match j,hj with
      | 0,_ => exact ⟨n4,hp4'.out,(hr4'.out.keep fun k hk => hk5 k (by omega) (by omega)).weak fun k hk => ⟨by omega,by omega,by omega⟩⟩
      | j + 1,hj => omega
     case measure => simp [toN]
    ·have rN : RdN (fun k => w.heap.size + 2 ≤ k ∧ k < W4.heap.size) W5 (.agg #[.slice (a1 3) (m1 3) (c1 3),.slice (a1 4) (m1 4) (c1 4),.slice (a1 5) (m1 5) (c1 5)]) (T 1) := hcp 1 (by omega)
     obtain ⟨W3,hW3⟩ : ∃ W3,W3 = wr.alloc (.cells #[.slice (a1 3) (m1 3) (c1 3),.slice (a1 4) (m1 4) (c1 4),.slice (a1 5) (m1 5) (c1 5)] 26) := ⟨_,rfl⟩
     have b3 : Below wr.heap.size wr W3 := by rw [hW3]; exact (Below.refl _ _).alloc (Nat.le_refl _) _
     have bn3 : TriV W3 wr.heap.size 26 (.slice (a1 3) (m1 3) (c1 3)) (.slice (a1 4) (m1 4) (c1 4)) (.slice (a1 5) (m1 5) (c1 5)) := by rw [hW3]; exact TriV.new _ _ _ _ _
     have bx3 : StB W3 W4.heap.size a2 m2 c2 := bx.below b3 bx.lt
     have hxl := bx.lt
     have hs3 := b3.size
     have hb3 := hb.trans (b3.mono (by omega))
     have hvd := zfs W3 (o := o) (rN.keep fun k hk => hb3.block k hk.2) hf' (by have := (hok.out 1 (by omega)).2; omega)
     go_upto_region 7 with (first | (refine zbj taP 1 rfl rfl rfl rfl rfl (by omega) rfl ?_) | fail)
     rw [← hW3]
     have e0 := bn3.cell0
     have e1 := bn3.cell1
     have e2 := bn3.cell2
     clear hW3
     go_wp2_with fail
     refine hvd.mono ?_
     rintro e W6 ⟨v4,n4,rfl,hp4,hr4,hb4⟩
     have bx4 := bx3.below hb4 bx3.lt
     have hs4 := hb4.size
     have hA4 : ∀ j,j < 1 → ∃ n',zl7 o (T j) n' ∧ RdN (fun k => w.heap.size + 2 ≤ k ∧ k < wr.heap.size ∧ k ≠ W4.heap.size) W6 (.agg #[.slice (a2 (3 * j)) (m2 (3 * j)) (c2 (3 * j)),.slice (a2 (3 * j + 1)) (m2 (3 * j + 1)) (c2 (3 * j + 1)),.slice (a2 (3 * j + 2)) (m2 (3 * j + 2)) (c2 (3 * j + 2))]) n' := fun j hj => (hA.out j hj).imp fun n' h => ⟨h.1,h.2.keep fun k hk => (hb4.block k (by omega)).trans (b3.block k hk.2.1)⟩
     replace hA4 := Lib.hid hA4
     obtain ⟨f0,g0,f1,g1,f2,g2,rfl,_,_,_⟩ := id hr4
     have hr4' := Lib.hid hr4
     have hp4' := Lib.hid hp4
     clear hr4 hp4 e0 e1 e2
     have hbb := hb3.trans (hb4.mono (by omega))
     go_wp2_with (first | (refine zb9 taP 1 rfl rfl rfl rfl rfl (by omega) ?_) | (refine za7 (us := [.slice f0 n4.keys.length g0,.slice f1 n4.chains.length g1,.slice f2 n4.kids.length g2]) (by kernel_rfl) rfl rfl rfl rfl rfl rfl bx4 (by show _ ≤ 12; simp) (fun W7 hg5 bx5 => ?_)) | fail)
     go_roundw
     case rel =>
      have hb7 : Below W4.heap.size W6 W7 := ⟨hg5.os,hg5.tape,hg5.output,hg5.size,fun k hk => hg5.block k (by omega) (fun e => by injection e with e; omega)⟩
      have hk6 : ∀ k,k < wr.heap.size → k ≠ W4.heap.size → W7.heap[k]? = W6.heap[k]? := fun k h1 h2 => hg5.block k (by omega) (fun e => h2 (by injection e))
      have hk5 : ∀ k,k < W6.heap.size → k ≠ W4.heap.size → W7.heap[k]? = W6.heap[k]? := fun k h1 h2 => hg5.block k h1 (fun e => h2 (by injection e))
      have hs5 := hg5.size
      refine ⟨2,fun j => if j = 3 then f0 else if j = 4 then f1 else if j = 5 then f2 else a2 j,fun j => if j = 3 then n4.keys.length else if j = 4 then n4.chains.length else if j = 5 then n4.kids.length else m2 j,fun j => if j = 3 then g0 else if j = 4 then g1 else if j = 5 then g2 else c2 j,by go_num,by omega,hbb.trans hb7,bx5,fun j hj => ?_⟩
      match j,hj with
      | 0,_ => exact (hA4.out 0 (by omega)).imp fun n' h => ⟨h.1,(h.2.keep fun k hk => hk6 k hk.2.1 hk.2.2).weak fun k hk => ⟨hk.1,by omega,hk.2.2⟩⟩
      | 1,_ => exact ⟨n4,hp4'.out,(hr4'.out.keep fun k hk => hk5 k (by omega) (by omega)).weak fun k hk => ⟨by omega,by omega,by omega⟩⟩
      | j + 2,hj => omega
     case measure => simp [toN]
    ·have rN : RdN (fun k => w.heap.size + 2 ≤ k ∧ k < W4.heap.size) W5 (.agg #[.slice (a1 6) (m1 6) (c1 6),.slice (a1 7) (m1 7) (c1 7),.slice (a1 8) (m1 8) (c1 8)]) (T 2) := hcp 2 (by omega)
     obtain ⟨W3,hW3⟩ : ∃ W3,W3 = wr.alloc (.cells #[.slice (a1 6) (m1 6) (c1 6),.slice (a1 7) (m1 7) (c1 7),.slice (a1 8) (m1 8) (c1 8)] 26) := ⟨_,rfl⟩
     have b3 : Below wr.heap.size wr W3 := by rw [hW3]; exact (Below.refl _ _).alloc (Nat.le_refl _) _
     have bn3 : TriV W3 wr.heap.size 26 (.slice (a1 6) (m1 6) (c1 6)) (.slice (a1 7) (m1 7) (c1 7)) (.slice (a1 8) (m1 8) (c1 8)) := by rw [hW3]; exact TriV.new _ _ _ _ _
     have bx3 : StB W3 W4.heap.size a2 m2 c2 := bx.below b3 bx.lt
     have hxl := bx.lt
     have hs3 := b3.size
     have hb3 := hb.trans (b3.mono (by omega))
     have hvd := zfs W3 (o := o) (rN.keep fun k hk => hb3.block k hk.2) hf' (by have := (hok.out 2 (by omega)).2; omega)
     go_upto_region 7 with (first | (refine zbj taP 2 rfl rfl rfl rfl rfl (by omega) rfl ?_) | fail)
     rw [← hW3]
     have e0 := bn3.cell0
     have e1 := bn3.cell1
     have e2 := bn3.cell2
     clear hW3
     go_wp2_with fail
     refine hvd.mono ?_
     rintro e W6 ⟨v4,n4,rfl,hp4,hr4,hb4⟩
     have bx4 := bx3.below hb4 bx3.lt
     have hs4 := hb4.size
     have hA4 : ∀ j,j < 2 → ∃ n',zl7 o (T j) n' ∧ RdN (fun k => w.heap.size + 2 ≤ k ∧ k < wr.heap.size ∧ k ≠ W4.heap.size) W6 (.agg #[.slice (a2 (3 * j)) (m2 (3 * j)) (c2 (3 * j)),.slice (a2 (3 * j + 1)) (m2 (3 * j + 1)) (c2 (3 * j + 1)),.slice (a2 (3 * j + 2)) (m2 (3 * j + 2)) (c2 (3 * j + 2))]) n' := fun j hj => (hA.out j hj).imp fun n' h => ⟨h.1,h.2.keep fun k hk => (hb4.block k (by omega)).trans (b3.block k hk.2.1)⟩
     replace hA4 := Lib.hid hA4
     obtain ⟨f0,g0,f1,g1,f2,g2,rfl,_,_,_⟩ := id hr4
     have hr4' := Lib.hid hr4
     have hp4' := Lib.hid hp4
     clear hr4 hp4 e0 e1 e2
     have hbb := hb3.trans (hb4.mono (by omega))
     go_wp2_with (first | (refine zb9 taP 2 rfl rfl rfl rfl rfl (by omega) ?_) | (refine za7 (us := [.slice f0 n4.keys.length g0,.slice f1 n4.chains.length g1,.slice f2 n4.kids.length g2]) (by kernel_rfl) rfl rfl rfl rfl rfl rfl bx4 (by show _ ≤ 12; simp) (fun W7 hg5 bx5 => ?_)) | fail)
     go_roundw
     case rel =>
      have hb7 : Below W4.heap.size W6 W7 := ⟨hg5.os,hg5.tape,hg5.output,hg5.size,fun k hk => hg5.block k (by omega) (fun e => by injection e with e; omega)⟩
      have hk6 : ∀ k,k < wr.heap.size → k ≠ W4.heap.size → W7.heap[k]? = W6.heap[k]? := fun k h1 h2 => hg5.block k (by omega) (fun e => h2 (by injection e))
      have hk5 : ∀ k,k < W6.heap.size → k ≠ W4.heap.size → W7.heap[k]? = W6.heap[k]? := fun k h1 h2 => hg5.block k h1 (fun e => h2 (by injection e))
      have hs5 := hg5.size
      refine ⟨3,fun j => if j = 6 then f0 else if j = 7 then f1 else if j = 8 then f2 else a2 j,fun j => if j = 6 then n4.keys.length else if j = 7 then n4.chains.length else if j = 8 then n4.kids.length else m2 j,fun j => if j = 6 then g0 else if j = 7 then g1 else if j = 8 then g2 else c2 j,by go_num,by omega,hbb.trans hb7,bx5,fun j hj => ?_⟩
      match j,hj with
      | 0,_ => exact (hA4.out 0 (by omega)).imp fun n' h => ⟨h.1,(h.2.keep fun k hk => hk6 k hk.2.1 hk.2.2).weak fun k hk => ⟨hk.1,by omega,hk.2.2⟩⟩
      | 1,_ => exact (hA4.out 1 (by omega)).imp fun n' h => ⟨h.1,(h.2.keep fun k hk => hk6 k hk.2.1 hk.2.2).weak fun k hk => ⟨hk.1,by omega,hk.2.2⟩⟩
      | 2,_ => exact ⟨n4,hp4'.out,(hr4'.out.keep fun k hk => hk5 k (by omega) (by omega)).weak fun k hk => ⟨by omega,by omega,by omega⟩⟩
      | j + 3,hj => omega
     case measure => simp [toN]
    ·have rN : RdN (fun k => w.heap.size + 2 ≤ k ∧ k < W4.heap.size) W5 (.agg #[.slice (a1 9) (m1 9) (c1 9),.slice (a1 10) (m1 10) (c1 10),.slice (a1 11) (m1 11) (c1 11)]) (T 3) := hcp 3 (by omega)
     obtain ⟨W3,hW3⟩ : ∃ W3,W3 = wr.alloc (.cells #[.slice (a1 9) (m1 9) (c1 9),.slice (a1 10) (m1 10) (c1 10),.slice (a1 11) (m1 11) (c1 11)] 26) := ⟨_,rfl⟩
     have b3 : Below wr.heap.size wr W3 := by rw [hW3]; exact (Below.refl _ _).alloc (Nat.le_refl _) _
     have bn3 : TriV W3 wr.heap.size 26 (.slice (a1 9) (m1 9) (c1 9)) (.slice (a1 10) (m1 10) (c1 10)) (.slice (a1 11) (m1 11) (c1 11)) := by rw [hW3]; exact TriV.new _ _ _ _ _
     have bx3 : StB W3 W4.heap.size a2 m2 c2 := bx.below b3 bx.lt
     have hxl := bx.lt
     have hs3 := b3.size
     have hb3 := hb.trans (b3.mono (by omega))
     have hvd := zfs W3 (o := o) (rN.keep fun k hk => hb3.block k hk.2) hf' (by have := (hok.out 3 (by omega)).2; omega)
     go_upto_region 7 with (first | (refine zbj taP 3 rfl rfl rfl rfl rfl (by omega) rfl ?_) | fail)
     rw [← hW3]
     have e0 := bn3.cell0
     have e1 := bn3.cell1
     have e2 := bn3.cell2
     clear hW3
     go_wp2_with fail
     refine hvd.mono ?_
     rintro e W6 ⟨v4,n4,rfl,hp4,hr4,hb4⟩
     have bx4 := bx3.below hb4 bx3.lt
     have hs4 := hb4.size
     have hA4 : ∀ j,j < 3 → ∃ n',zl7 o (T j) n' ∧ RdN (fun k => w.heap.size + 2 ≤ k ∧ k < wr.heap.size ∧ k ≠ W4.heap.size) W6 (.agg #[.slice (a2 (3 * j)) (m2 (3 * j)) (c2 (3 * j)),.slice (a2 (3 * j + 1)) (m2 (3 * j + 1)) (c2 (3 * j + 1)),.slice (a2 (3 * j + 2)) (m2 (3 * j + 2)) (c2 (3 * j + 2))]) n' := fun j hj => (hA.out j hj).imp fun n' h => ⟨h.1,h.2.keep fun k hk => (hb4.block k (by omega)).trans (b3.block k hk.2.1)⟩
     replace hA4 := Lib.hid hA4
     obtain ⟨f0,g0,f1,g1,f2,g2,rfl,_,_,_⟩ := id hr4
     have hr4' := Lib.hid hr4
     have hp4' := Lib.hid hp4
     clear hr4 hp4 e0 e1 e2
     have hbb := hb3.trans (hb4.mono (by omega))
     go_wp2_with (first | (refine zb9 taP 3 rfl rfl rfl rfl rfl (by omega) ?_) | (refine za7 (us := [.slice f0 n4.keys.length g0,.slice f1 n4.chains.length g1,.slice f2 n4.kids.length g2]) (by kernel_rfl) rfl rfl rfl rfl rfl rfl bx4 (by show _ ≤ 12; simp) (fun W7 hg5 bx5 => ?_)) | fail)
     go_roundw
     case rel =>
      have hb7 : Below W4.heap.size W6 W7 := ⟨hg5.os,hg5.tape,hg5.output,hg5.size,fun k hk => hg5.block k (by omega) (fun e => by injection e with e; omega)⟩
      have hk6 : ∀ k,k < wr.heap.size → k ≠ W4.heap.size → W7.heap[k]? = W6.heap[k]? := fun k h1 h2 => hg5.block k (by omega) (fun e => h2 (by injection e))
      have hk5 : ∀ k,k < W6.heap.size → k ≠ W4.heap.size → W7.heap[k]? = W6.heap[k]? := fun k h1 h2 => hg5.block k h1 (fun e => h2 (by injection e))
      have hs5 := hg5.size
      refine ⟨4,fun j => if j = 9 then f0 else if j = 10 then f1 else if j = 11 then f2 else a2 j,fun j => if j = 9 then n4.keys.length else if j = 10 then n4.chains.length else if j = 11 then n4.kids.length else m2 j,fun j => if j = 9 then g0 else if j = 10 then g1 else if j = 11 then g2 else c2 j,by go_num,by omega,hbb.trans hb7,bx5,fun j hj => ?_⟩
      match j,hj with
      | 0,_ => exact (hA4.out 0 (by omega)).imp fun n' h => ⟨h.1,(h.2.keep fun k hk => hk6 k hk.2.1 hk.2.2).weak fun k hk => ⟨hk.1,by omega,hk.2.2⟩⟩
      | 1,_ => exact (hA4.out 1 (by omega)).imp fun n' h => ⟨h.1,(h.2.keep fun k hk => hk6 k hk.2.1 hk.2.2).weak fun k hk => ⟨hk.1,by omega,hk.2.2⟩⟩
      | 2,_ => exact (hA4.out 2 (by omega)).imp fun n' h => ⟨h.1,(h.2.keep fun k hk => hk6 k hk.2.1 hk.2.2).weak fun k hk => ⟨hk.1,by omega,hk.2.2⟩⟩
      | 3,_ => exact ⟨n4,hp4'.out,(hr4'.out.keep fun k hk => hk5 k (by omega) (by omega)).weak fun k hk => ⟨by omega,by omega,by omega⟩⟩
      | j + 4,hj => omega
     case measure => simp [toN]
   ·obtain rfl : i = 4 := by omega
    have hzr := bz5.below hb (by have := bz5.lt; omega)
    have hbr := bx.lt
    have d0 := bx.cell (i := 0) rfl
    have d1 := bx.cell (i := 1) rfl
    have d2 := bx.cell (i := 2) rfl
    have d3 := bx.cell (i := 3) rfl
    have d4 := bx.cell (i := 4) rfl
    have d5 := bx.cell (i := 5) rfl
    have d6 := bx.cell (i := 6) rfl
    have d7 := bx.cell (i := 7) rfl
    have d8 := bx.cell (i := 8) rfl
    have d9 := bx.cell (i := 9) rfl
    have d10 := bx.cell (i := 10) rfl
    have d11 := bx.cell (i := 11) rfl
    go_wp2_with (first | (refine zam (us := [.slice (a2 0) (m2 0) (c2 0),.slice (a2 1) (m2 1) (c2 1),.slice (a2 2) (m2 2) (c2 2),.slice (a2 3) (m2 3) (c2 3),.slice (a2 4) (m2 4) (c2 4),.slice (a2 5) (m2 5) (c2 5),.slice (a2 6) (m2 6) (c2 6),.slice (a2 7) (m2 7) (c2 7),.slice (a2 8) (m2 8) (c2 8),.slice (a2 9) (m2 9) (c2 9),.slice (a2 10) (m2 10) (c2 10),.slice (a2 11) (m2 11) (c2 11)]) (by kernel_rfl) rfl rfl rfl rfl rfl rfl hzr rfl (fun W7 hg7 bx7 => ?_)) | fail)
    clear d0 d1 d2 d3 d4 d5 d6 d7 d8 d9 d10 d11
    have bx7' : StB W7 (w.heap.size + 1) a2 m2 c2 := bx7
    have d0 := bx7'.cell (i := 0) rfl
    have d1 := bx7'.cell (i := 1) rfl
    have d2 := bx7'.cell (i := 2) rfl
    have d3 := bx7'.cell (i := 3) rfl
    have d4 := bx7'.cell (i := 4) rfl
    have d5 := bx7'.cell (i := 5) rfl
    have d6 := bx7'.cell (i := 6) rfl
    have d7 := bx7'.cell (i := 7) rfl
    have d8 := bx7'.cell (i := 8) rfl
    have d9 := bx7'.cell (i := 9) rfl
    have d10 := bx7'.cell (i := 10) rfl
    have d11 := bx7'.cell (i := 11) rfl
    refine bodyPost_ret (v := .agg #[.slice (a2 0) (m2 0) (c2 0),.slice (a2 1) (m2 1) (c2 1),.slice (a2 2) (m2 2) (c2 2),.slice (a2 3) (m2 3) (c2 3),.slice (a2 4) (m2 4) (c2 4),.slice (a2 5) (m2 5) (c2 5),.slice (a2 6) (m2 6) (c2 6),.slice (a2 7) (m2 7) (c2 7),.slice (a2 8) (m2 8) (c2 8),.slice (a2 9) (m2 9) (c2 9),.slice (a2 10) (m2 10) (c2 10),.slice (a2 11) (m2 11) (c2 11)]) (by simp [results,Tryz.results25,go_sem,loadVar,isAgg,run_underlying Tryz.underlying29,zab (show (Tryz.prog.info? 29).map (·.size) = some 12 by kernel_rfl),loadCellsFrom,Addr.add,d0,d1,d2,d3,d4,d5,d6,d7,d8,d9,d10,d11]) rfl ?_
    have hs7 := hg7.size
    have hne : ∀ k,k < wr.heap.size → k ≠ w.heap.size + 1 → W7.heap[k]? = wr.heap[k]? := fun k h1 h2 => hg7.block k h1 (fun e => h2 (by injection e))
    obtain ⟨n0,v0,r0⟩ := hA.out 0 (by omega)
    obtain ⟨n1,v1,r1⟩ := hA.out 1 (by omega)
    obtain ⟨n2,v2,r2⟩ := hA.out 2 (by omega)
    obtain ⟨n3,v3,r3⟩ := hA.out 3 (by omega)
    refine ⟨_,fun j => if j = 0 then n0 else if j = 1 then n1 else if j = 2 then n2 else n3,rfl,⟨fun _ j hj => ?_,fun h => absurd hok.out h⟩,⟨a2,m2,c2,rfl,fun j hj => ?_⟩,?_⟩
    ·match j,hj with
     | 0,_ => exact v0
     | 1,_ => exact v1
     | 2,_ => exact v2
     | 3,_ => exact v3
     | j + 4,hj => omega
    ·match j,hj with
     | 0,_ => exact (r0.keep fun k hk => hne k hk.2.1 (by omega)).weak fun k hk => ⟨by omega,by omega⟩
     | 1,_ => exact (r1.keep fun k hk => hne k hk.2.1 (by omega)).weak fun k hk => ⟨by omega,by omega⟩
     | 2,_ => exact (r2.keep fun k hk => hne k hk.2.1 (by omega)).weak fun k hk => ⟨by omega,by omega⟩
     | 3,_ => exact (r3.keep fun k hk => hne k hk.2.1 (by omega)).weak fun k hk => ⟨by omega,by omega⟩
     | j + 4,hj => omega
    ·exact (q5.trans (hb.mono (by omega))).trans ⟨hg7.os,hg7.tape,hg7.output,hs7,fun k hk => hne k (by omega) (by omega)⟩
 ·rw [decide_eq_false hok] at hch
  go_wp2_with fail
  refine hch.mono ?_
  rintro e W6 ⟨rfl,hb6⟩
  have bx6 : StB W6 W4.heap.size a1 m1 c1 := bx.below hb6 bx.lt
  have hs6 := hb6.size
  have bz6 := bz5.below hb6 bz5.lt
  clear d0 d1 d2 d3 d4 d5 d6 d7 d8 d9 d10 d11
  have d0 := bx6.cell (i := 0) rfl
  have d1 := bx6.cell (i := 1) rfl
  have d2 := bx6.cell (i := 2) rfl
  have d3 := bx6.cell (i := 3) rfl
  have d4 := bx6.cell (i := 4) rfl
  have d5 := bx6.cell (i := 5) rfl
  have d6 := bx6.cell (i := 6) rfl
  have d7 := bx6.cell (i := 7) rfl
  have d8 := bx6.cell (i := 8) rfl
  have d9 := bx6.cell (i := 9) rfl
  have d10 := bx6.cell (i := 10) rfl
  have d11 := bx6.cell (i := 11) rfl
  go_wp2_with (first | (refine zam (us := [.slice (a1 0) (m1 0) (c1 0),.slice (a1 1) (m1 1) (c1 1),.slice (a1 2) (m1 2) (c1 2),.slice (a1 3) (m1 3) (c1 3),.slice (a1 4) (m1 4) (c1 4),.slice (a1 5) (m1 5) (c1 5),.slice (a1 6) (m1 6) (c1 6),.slice (a1 7) (m1 7) (c1 7),.slice (a1 8) (m1 8) (c1 8),.slice (a1 9) (m1 9) (c1 9),.slice (a1 10) (m1 10) (c1 10),.slice (a1 11) (m1 11) (c1 11)]) (by kernel_rfl) rfl rfl rfl rfl rfl rfl bz6 rfl (fun W7 hg7 bx7 => ?_)) | fail)
  clear d0 d1 d2 d3 d4 d5 d6 d7 d8 d9 d10 d11
  have bx7' : StB W7 (w.heap.size + 1) a1 m1 c1 := bx7
  have d0 := bx7'.cell (i := 0) rfl
  have d1 := bx7'.cell (i := 1) rfl
  have d2 := bx7'.cell (i := 2) rfl
  have d3 := bx7'.cell (i := 3) rfl
  have d4 := bx7'.cell (i := 4) rfl
  have d5 := bx7'.cell (i := 5) rfl
  have d6 := bx7'.cell (i := 6) rfl
  have d7 := bx7'.cell (i := 7) rfl
  have d8 := bx7'.cell (i := 8) rfl
  have d9 := bx7'.cell (i := 9) rfl
  have d10 := bx7'.cell (i := 10) rfl
  have d11 := bx7'.cell (i := 11) rfl
  refine bodyPost_ret (v := .agg #[.slice (a1 0) (m1 0) (c1 0),.slice (a1 1) (m1 1) (c1 1),.slice (a1 2) (m1 2) (c1 2),.slice (a1 3) (m1 3) (c1 3),.slice (a1 4) (m1 4) (c1 4),.slice (a1 5) (m1 5) (c1 5),.slice (a1 6) (m1 6) (c1 6),.slice (a1 7) (m1 7) (c1 7),.slice (a1 8) (m1 8) (c1 8),.slice (a1 9) (m1 9) (c1 9),.slice (a1 10) (m1 10) (c1 10),.slice (a1 11) (m1 11) (c1 11)]) (by simp [results,Tryz.results25,go_sem,loadVar,isAgg,run_underlying Tryz.underlying29,zab (show (Tryz.prog.info? 29).map (·.size) = some 12 by kernel_rfl),loadCellsFrom,Addr.add,d0,d1,d2,d3,d4,d5,d6,d7,d8,d9,d10,d11]) rfl ?_
  have hs7 := hg7.size
  have hne : ∀ k,k < W6.heap.size → k ≠ w.heap.size + 1 → W7.heap[k]? = W6.heap[k]? := fun k h1 h2 => hg7.block k h1 (fun e => h2 (by injection e))
  refine ⟨_,T,rfl,⟨fun h => absurd h hok,fun _ _ _ => rfl⟩,⟨a1,m1,c1,rfl,fun j hj => ?_⟩,?_⟩
  ·exact ((hcp j hj).keep fun k hk => (hne k (by omega) (by omega)).trans (hb6.block k (by omega))).weak fun k hk => ⟨by omega,by omega⟩
  ·exact (q5.trans (hb6.mono (by omega))).trans ⟨hg7.os,hg7.tape,hg7.output,hs7,fun k hk => hne k (by omega) (by omega)⟩
theorem zle (s:Int):zcd [] s=none:=by
 unfold zcd
 split
 ·rw [dif_neg (by simp [cntV,zc5])]
 ·rfl
theorem getP_eq (l:List Pr) (k:List UInt8) (s:Int):getP l k s=zcd ((zaw l k).getD []) s:=by
 unfold getP
 cases zaw l k with
 | none=>exact (zle s).symm
 | some c=>rfl
theorem zjf (w:World) {S S2:Nat→Prop} {v:Value} {T:Sto} {t s:Int} {A:Option Addr} {n C:Nat} {k:List UInt8} (hr:RdSt S w v T) (hf:fitS T) (hk:RdS S2 w (.slice A n C) k):Calls Tryz.prog 16 #[v,.int .i64 t,.slice A n C,.int .i64 s] w (zki w (getP (zdo T t) k s)):=by
 have hr0:=hr
 obtain⟨a,m,c,rfl,_⟩:=hr
 obtain⟨W,hW⟩:∃ W,W=w.alloc (.cells #[.slice (a 0) (m 0) (c 0),.slice (a 1) (m 1) (c 1),.slice (a 2) (m 2) (c 2),.slice (a 3) (m 3) (c 3),.slice (a 4) (m 4) (c 4),.slice (a 5) (m 5) (c 5),.slice (a 6) (m 6) (c 6),.slice (a 7) (m 7) (c 7),.slice (a 8) (m 8) (c 8),.slice (a 9) (m 9) (c 9),.slice (a 10) (m 10) (c 10),.slice (a 11) (m 11) (c 11)] 29):=⟨_,rfl⟩
 have q:Below w.heap.size w W:=by rw [hW];exact (Below.refl _ _).alloc (Nat.le_refl _) _
 have bn:StB W w.heap.size a m c:=by rw [hW];exact BoxN.new _ _ (bxS a m c)
 have hix:=zge W (t:=t) (hr0.below q) hf
 rw [getP_eq,← zjz]
 have hfit:=zfx hf t
 have hsm:zbq ((zaw (prN (zdt T t)) k).getD []):=by
  cases h:zaw (prN (zdt T t)) k with
  | none=>exact⟨by simp,fun x hx=>by simp at hx⟩
  | some l =>
   obtain⟨p,hp,_,rfl⟩:=zdf h
   exact zft hfit p hp
 obtain⟨lo,hlo⟩:∃ lo,lo=(zaw (prN (zdt T t)) k).getD []:=⟨_,rfl⟩
 rw [← hlo] at hsm ⊢
 replace hlo:=Lib.hid hlo
 cases hn:zcd lo s with
 | none =>
  replace hn:=Lib.hid hn
  go_enter Tryz.func16,Tryz.ntmps16
  go_upto_region 1 with (fail)
  rw [← hW]
  clear hW
  have d0:=bn.cell (i:=0) rfl
  have d1:=bn.cell (i:=1) rfl
  have d2:=bn.cell (i:=2) rfl
  have d3:=bn.cell (i:=3) rfl
  have d4:=bn.cell (i:=4) rfl
  have d5:=bn.cell (i:=5) rfl
  have d6:=bn.cell (i:=6) rfl
  have d7:=bn.cell (i:=7) rfl
  have d8:=bn.cell (i:=8) rfl
  have d9:=bn.cell (i:=9) rfl
  have d10:=bn.cell (i:=10) rfl
  have d11:=bn.cell (i:=11) rfl
  go_wp2_with fail
  refine hix.mono ?_
  rintro e W2⟨u,rfl,hu,hb2⟩
  have hfd:=zfq W2 hu hfit ((hk.below q).below hb2)
  unfold zkj at hfd
  rw [← hlo.out] at hfd
  generalize (zaw (prN (zdt T t)) k).isSome=fs at hfd
  go_wp2_with fail
  refine hfd.mono ?_
  rintro e W3⟨fa,fc,rfl,hfr,hb3⟩
  have hrd:=(zgn W3 (s:=s) hfr hsm).mono fun e w' h=>za9.none hn.out h
  have q3:=q.trans ((hb2.mono q.size).trans (hb3.mono (by have:=q.size;have:=hb2.size;omega)))
  have hs3:=q3.size
  go_wp2_with fail
  refine hrd.mono ?_
  rintro e W4⟨ra,rc,rfl,hrr,hb4⟩
  go_wp2_with fail
  go_ret2
  exact⟨ra,rc,rfl,hrr.weak fun k hk=>⟨by omega,hk.2⟩,q3.trans (hb4.mono hs3)⟩
 | some vv =>
  replace hn:=Lib.hid hn
  go_enter Tryz.func16,Tryz.ntmps16
  go_upto_region 1 with (fail)
  rw [← hW]
  clear hW
  have d0:=bn.cell (i:=0) rfl
  have d1:=bn.cell (i:=1) rfl
  have d2:=bn.cell (i:=2) rfl
  have d3:=bn.cell (i:=3) rfl
  have d4:=bn.cell (i:=4) rfl
  have d5:=bn.cell (i:=5) rfl
  have d6:=bn.cell (i:=6) rfl
  have d7:=bn.cell (i:=7) rfl
  have d8:=bn.cell (i:=8) rfl
  have d9:=bn.cell (i:=9) rfl
  have d10:=bn.cell (i:=10) rfl
  have d11:=bn.cell (i:=11) rfl
  go_wp2_with fail
  refine hix.mono ?_
  rintro e W2⟨u,rfl,hu,hb2⟩
  have hfd:=zfq W2 hu hfit ((hk.below q).below hb2)
  unfold zkj at hfd
  rw [← hlo.out] at hfd
  generalize (zaw (prN (zdt T t)) k).isSome=fs at hfd
  go_wp2_with fail
  refine hfd.mono ?_
  rintro e W3⟨fa,fc,rfl,hfr,hb3⟩
  have hrd:=(zgn W3 (s:=s) hfr hsm).mono fun e w' h=>za9.some hn.out h
  have q3:=q.trans ((hb2.mono q.size).trans (hb3.mono (by have:=q.size;have:=hb2.size;omega)))
  have hs3:=q3.size
  go_wp2_with fail
  refine hrd.mono ?_
  rintro e W4⟨ra,rc,rfl,hrr,hb4⟩
  go_wp2_with fail
  go_ret2
  exact⟨ra,rc,rfl,hrr.weak fun k hk=>⟨by omega,hk.2⟩,q3.trans (hb4.mono hs3)⟩
attribute [local go_sem] Oper.semAt_some
section
variable {α : Type} {E : Elt α} {P : Program} {T Te : TypeId} {ops : Array Oper} {rest : List Oper} {o : Oper} {a : Act} {Q : Exit → Act → World → Prop} {w : World} {l n : Nat}
theorem zna (hP:LoP P T Te E.size) {s x:Operand} (ho:o.op=.call { callee:=.builtin .append,args:=#[s,x],argTypes:=#[T,T] }) (hgd:Region.wanted o (yielded ops a.tmps)=true)
  {base lo:Nat} {vs:Value} {xs ys:List α} {ns:List Value} {p:Addr} {c:Nat} {S:Nat→Prop} (hs:a.eval s=vs) (hown:OwnL E Te base lo w vs xs) (hx:a.eval x=.slice (some p) ys.length c)
  (hcells:∀ j u,ns[j]?=some u→w.cell? (p.add j)=some u) (hn:Flat E S w ys ns) (hS:∀ k,S k→lo≤k∧k<w.heap.size∧some k≠vs.ownBlock) (hbase:base≤w.heap.size)
  (h:∀ ad k cap w',OwnL E Te base lo w' (.slice ad k cap) (xs++ys)→w.grownBy w' vs.ownBlock→(Value.ownBlock (.slice ad k cap)=vs.ownBlock∨Value.ownBlock (.slice ad k cap)=some w.heap.size)→wpListIn (Fence.wide.inRound l) n P ops Q rest (a.put o.dst (.slice ad k cap)) w') (hlen:xs.length+ys.length≤1073741824):wpListIn (Fence.wide.inRound l) n P ops Q (o::rest) a w :=
 BigFrame.wpListIn_want hgd fun K hK=>zme (K:=K) (by rw [ho];intro c h;cases h) (fun _ _ h=>h) (zd1 hP ho hs hown hx hcells hn hS hbase (fun ad k cap w' h1 h2 h3=>hK _ _ (h ad k cap w' h1 h2 h3)) hlen)
end
def zfr(ys:List YEl)(s:Int):List Pq:=ys.filterMap fun y=>(zcd y.l s).map fun v=>⟨y.t,v⟩
theorem zo5 (ys:List YEl) (y:YEl) (s:Int):zfr (ys++[y]) s=zfr ys s++(match zcd y.l s with | some v=>[⟨y.t,v⟩] | none=>[]):=by
 unfold zfr
 rw [List.filterMap_append]
 congr 1
 cases h:zcd y.l s<;>simp [h]
theorem scanY_in (l:List Pr) (x:Sp) (s:Int) {ys:List YEl} (h:ys.map (·.pr)=inP l x):zfr ys s=zgd l x s:=by
 have h1:zfr ys s=(ys.map (·.pr)).filterMap fun p=>(zcd p.chain s).map fun v=>(⟨p.key,v⟩:Pq):=by
  unfold zfr
  rw [List.filterMap_map]
  rfl
 rw [h1,h]
 clear h1 h
 unfold inP zgd
 induction l with
 | nil=>rfl
 | cons p r ih =>
  rw [List.filter_cons,List.filterMap_cons]
  unfold zmn
  cases hi:inS x p.key with
  | true =>
   rw [if_pos rfl,if_pos rfl,List.filterMap_cons,ih]
   rfl
  | false =>
   rw [if_neg (by simp),if_neg (by simp),ih]
   rfl
def ScEnd (w:World) (l:List Pq) (e:Ending) (w':World):Prop:=∃ a c,e=.returned (.slice a l.length c)∧RdL Elt.pq (fun k=>w.heap.size≤k∧k<w'.heap.size) w' (.slice a l.length c) l∧Below w.heap.size w w'
theorem zhq (w : World) {S S2 : Nat → Prop} {v vx : Value} {T : Sto} {x : Sp} {s : Int} (hr : RdSt S w v T) (hf : fitS T) (hx : RdSp S2 w vx x) : Calls Tryz.prog 19 #[v, vx, .int .i64 s] w (ScEnd w (zgd (zdo T x.table) x s)) := by
  have hr0 : RdSt (· < w.heap.size) w v T := hr.fit.weak fun _ h => h.2
  have hx0 : RdSp (· < w.heap.size) w vx x := by
    obtain ⟨p1, p2, p3, p4, e, q1, q2, q3⟩ := hx
    exact ⟨p1, p2, p3, p4, e, q1.fit.weak fun _ h => h.2, q2.fit.weak fun _ h => h.2, q3⟩
  obtain ⟨a, m, c, rfl, _⟩ := hr
  obtain ⟨xa, xc, xa2, xc2, rfl, _, _, _⟩ := hx
  obtain ⟨W, hW⟩ : ∃ W, W = (((w.alloc (.cells #[.slice (a 0) (m 0) (c 0), .slice (a 1) (m 1) (c 1), .slice (a 2) (m 2) (c 2), .slice (a 3) (m 3) (c 3), .slice (a 4) (m 4) (c 4), .slice (a 5) (m 5) (c 5), .slice (a 6) (m 6) (c 6), .slice (a 7) (m 7) (c 7), .slice (a 8) (m 8) (c 8), .slice (a 9) (m 9) (c 9), .slice (a 10) (m 10) (c 10), .slice (a 11) (m 11) (c 11)] 29)).alloc (.cells #[.int .i64 x.table, .slice xa x.lo.length xc, .slice xa2 x.hi.length xc2, .bool x.isOpen] 32)).alloc (.cells #[.int .i64 s] 3)).alloc (.cells #[.slice none 0 0] 44) := ⟨_, rfl⟩
  have q : Below w.heap.size w W := by rw [hW]; exact ((((Below.refl _ _).alloc (Nat.le_refl _) _).alloc (by simp) _).alloc (by simp; omega) _).alloc (by simp; omega) _
  have hsz : W.heap.size = w.heap.size + 4 := by rw [hW]; simp
  obtain ⟨w1, hw1⟩ : ∃ w1, w1 = w.alloc (.cells #[.slice (a 0) (m 0) (c 0), .slice (a 1) (m 1) (c 1), .slice (a 2) (m 2) (c 2), .slice (a 3) (m 3) (c 3), .slice (a 4) (m 4) (c 4), .slice (a 5) (m 5) (c 5), .slice (a 6) (m 6) (c 6), .slice (a 7) (m 7) (c 7), .slice (a 8) (m 8) (c 8), .slice (a 9) (m 9) (c 9), .slice (a 10) (m 10) (c 10), .slice (a 11) (m 11) (c 11)] 29) := ⟨_, rfl⟩
  obtain ⟨w2, hw2⟩ : ∃ w2, w2 = w1.alloc (.cells #[.int .i64 x.table, .slice xa x.lo.length xc, .slice xa2 x.hi.length xc2, .bool x.isOpen] 32) := ⟨_, rfl⟩
  obtain ⟨w3, hw3⟩ : ∃ w3, w3 = w2.alloc (.cells #[.int .i64 s] 3) := ⟨_, rfl⟩
  have hs1 : w1.heap.size = w.heap.size + 1 := by rw [hw1]; simp
  have hs2 : w2.heap.size = w.heap.size + 2 := by rw [hw2]; simp [hs1]
  have hs3 : w3.heap.size = w.heap.size + 3 := by rw [hw3]; simp [hs2]
  have hW' : W = w3.alloc (.cells #[.slice none 0 0] 44) := by rw [hW, hw3, hw2, hw1]
  have k3 : Below w3.heap.size w3 W := by rw [hW']; exact (Below.refl _ _).alloc (Nat.le_refl _) _
  have k2 : Below w2.heap.size w2 W := (show Below w2.heap.size w2 w3 by rw [hw3]; exact (Below.refl _ _).alloc (Nat.le_refl _) _).trans (k3.mono (by omega))
  have k1 : Below w1.heap.size w1 W := (show Below w1.heap.size w1 w2 by rw [hw2]; exact (Below.refl _ _).alloc (Nat.le_refl _) _).trans (k2.mono (by omega))
  have bn : StB W w.heap.size a m c := by
    have h := BoxN.new w 29 (bxS a m c)
    exact BoxN.below (show BoxN w1 w.heap.size 29 (bxS a m c) by rw [hw1]; exact h) k1 (by omega)
  have bx : BoxN W (w.heap.size + 1) 32 [.int .i64 x.table, .slice xa x.lo.length xc, .slice xa2 x.hi.length xc2, .bool x.isOpen] := by
    have h := BoxN.new w1 32 [.int .i64 x.table, .slice xa x.lo.length xc, .slice xa2 x.hi.length xc2, .bool x.isOpen]
    rw [hs1] at h
    exact BoxN.below (show BoxN w2 (w.heap.size + 1) 32 [.int .i64 x.table, .slice xa x.lo.length xc, .slice xa2 x.hi.length xc2, .bool x.isOpen] by rw [hw2]; exact h) k2 (by omega)
  have bs : Boxed W (w.heap.size + 2) 3 (.int .i64 s) := by
    have h := Boxed.new w2 3 (.int .i64 s)
    rw [hs2] at h
    exact (k3.block _ (by omega)).trans (show Boxed w3 (w.heap.size + 2) 3 (.int .i64 s) by rw [hw3]; exact h)
  have bz : Boxed W (w.heap.size + 3) 44 (.slice none 0 0) := by
    have h := Boxed.new w3 44 (.slice none 0 0)
    rw [hs3] at h
    rw [hW']
    exact h
  have hS := hr0.below q
  clear hW' k1 k2 k3 hs1 hs2 hs3 hw1 hw2 hw3 w1 w2 w3
  refine zbr Tryz.func19 rfl ?_
  simp only [Tryz.ntmps19, List.size_toArray, List.length_cons, List.length_nil, Nat.reduceAdd, Nat.reduceSub, Array.replicate_succ, Array.replicate_zero, List.push_toArray, List.append_toArray, List.nil_append, List.cons_append]
  go_upto_region 2 with (fail)
  rw [← hW]
  clear hW
  refine zbu (by kernel_rfl) (by kernel_rfl) [sgEq (.agg #[.slice (a 0) (m 0) (c 0), .slice (a 1) (m 1) (c 1), .slice (a 2) (m 2) (c 2), .slice (a 3) (m 3) (c 3), .slice (a 4) (m 4) (c 4), .slice (a 5) (m 5) (c 5), .slice (a 6) (m 6) (c 6), .slice (a 7) (m 7) (c 7), .slice (a 8) (m 8) (c 8), .slice (a 9) (m 9) (c 9), .slice (a 10) (m 10) (c 10), .slice (a 11) (m 11) (c 11)]), sgEq (.pointer (some ⟨w.heap.size + 1, 0, none⟩)), sgEq (.int .i64 x.table), sgNd w.heap.size (zdt T x.table), sgEq (.agg #[.int .i64 x.table, .slice xa x.lo.length xc, .slice xa2 x.hi.length xc2, .bool x.isOpen]), sgWi w.heap.size W.heap.size (zdt T x.table) [.int .i64 x.table, .slice xa x.lo.length xc, .slice xa2 x.hi.length xc2, .bool x.isOpen]]
    ⟨?o0, ?o1, ?o2, ?o3, ?o4, ?o5, trivial⟩ ?fin
  case o0 =>
    refine GdOp.plain rfl (fun A vs w' hF hT hb hd => ?_)
    have e1 : A.eval (.tmp 3) = .pointer (some ⟨w.heap.size, 0, none⟩) := hF 3 rfl
    exact zcf (us := [.slice (a 0) (m 0) (c 0), .slice (a 1) (m 1) (c 1), .slice (a 2) (m 2) (c 2), .slice (a 3) (m 3) (c 3), .slice (a 4) (m 4) (c 4), .slice (a 5) (m 5) (c 5), .slice (a 6) (m 6) (c 6), .slice (a 7) (m 7) (c 7), .slice (a 8) (m 8) (c 8), .slice (a 9) (m 9) (c 9), .slice (a 10) (m 10) (c 10), .slice (a 11) (m 11) (c 11)]) stS7 rfl e1 (fun j u hj => by rw [Nat.zero_add]; exact (bn.below hb bn.lt).cell hj) ⟨_, rfl, rfl, Below.refl _ _⟩
  case o1 =>
    refine GdOp.plain rfl (fun A vs w' hF hT hb hd => ?_)
    have e1 : A.eval (.tmp 4) = .pointer (some ⟨w.heap.size + 1, 0, none⟩) := hF 4 rfl
    exact zai spS7 rfl e1 (by omega) ⟨_, rfl, rfl, Below.refl _ _⟩
  case o2 =>
    refine GdOp.plain rfl (fun A vs w' hF hT hb hd => ?_)
    have e1 : A.eval (.tmp 13) = .pointer (some ⟨w.heap.size + 1, 0, none⟩) := (hT 13 1 (by simp) rfl).trans (hd ⟨1, .data⟩ (by simp) rfl)
    exact zfm (k := .i64) rfl e1 (by kernel_rfl) ((bx.below hb bx.lt).cell (i := 0) rfl) ⟨_, rfl, rfl, Below.refl _ _⟩
  case o3 =>
    refine GdOp.plain rfl (fun A vs w' hF hT hb hd => ?_)
    have e1 : A.eval (.tmp 12) = .agg #[.slice (a 0) (m 0) (c 0), .slice (a 1) (m 1) (c 1), .slice (a 2) (m 2) (c 2), .slice (a 3) (m 3) (c 3), .slice (a 4) (m 4) (c 4), .slice (a 5) (m 5) (c 5), .slice (a 6) (m 6) (c 6), .slice (a 7) (m 7) (c 7), .slice (a 8) (m 8) (c 8), .slice (a 9) (m 9) (c 9), .slice (a 10) (m 10) (c 10), .slice (a 11) (m 11) (c 11)] := (hT 12 0 (by simp) rfl).trans (hd ⟨0, .data⟩ (by simp) rfl)
    have e2 : A.eval (.tmp 14) = .int .i64 x.table := (hT 14 2 (by simp) rfl).trans (hd ⟨2, .data⟩ (by simp) rfl)
    refine zak rfl (enters_of Tryz.func32 (by kernel_rfl) rfl) (args := #[.agg #[.slice (a 0) (m 0) (c 0), .slice (a 1) (m 1) (c 1), .slice (a 2) (m 2) (c 2), .slice (a 3) (m 3) (c 3), .slice (a 4) (m 4) (c 4), .slice (a 5) (m 5) (c 5), .slice (a 6) (m 6) (c 6), .slice (a 7) (m 7) (c 7), .slice (a 8) (m 8) (c 8), .slice (a 9) (m 9) (c 9), .slice (a 10) (m 10) (c 10), .slice (a 11) (m 11) (c 11)], .int .i64 x.table]) (by simp only [List.map_toArray, List.map_cons, List.map_nil, e1, e2]) ((zge w' (hS.below hb) hf).mono ?_)
    rintro e w2 ⟨u, rfl, hu, hb2⟩
    obtain ⟨p, q', r, rfl⟩ := hu.tri
    exact ⟨_, rfl, _, rfl, ⟨p, q', r, rfl, by have := hb.size; have := hb2.size; have := q.size; omega, hu⟩, hb2⟩
  case o4 =>
    refine GdOp.plain rfl (fun A vs w' hF hT hb hd => ?_)
    have e1 : A.eval (.tmp 4) = .pointer (some ⟨w.heap.size + 1, 0, none⟩) := hF 4 rfl
    exact zi7 spS7 rfl e1 ((bx.below hb bx.lt).cell (i := 0) rfl) ((bx.below hb bx.lt).cell (i := 1) rfl) ((bx.below hb bx.lt).cell (i := 2) rfl) ((bx.below hb bx.lt).cell (i := 3) rfl) ⟨_, rfl, rfl, Below.refl _ _⟩
  case o5 =>
    refine GdOp.plain rfl (fun A vs w' hF hT hb hd => ?_)
    obtain ⟨p, q', r, e3, hn3, hr3⟩ := hd ⟨3, .data⟩ (by simp) rfl
    have e1 : A.eval (.tmp 15) = .agg #[p, q', r] := (hT 15 3 (by simp) rfl).trans e3
    have e2 : A.eval (.tmp 16) = .agg #[.int .i64 x.table, .slice xa x.lo.length xc, .slice xa2 x.hi.length xc2, .bool x.isOpen] := (hT 16 4 (by simp) rfl).trans (hd ⟨4, .data⟩ (by simp) rfl)
    refine zak rfl (enters_of Tryz.func36 (by kernel_rfl) rfl) (args := #[.agg #[p, q', r], .agg #[.int .i64 x.table, .slice xa x.lo.length xc, .slice xa2 x.hi.length xc2, .bool x.isOpen]]) (by simp only [List.map_toArray, List.map_cons, List.map_nil, e1, e2]) ((zf9 w' p q' r _ _ _ _).mono ?_)
    rintro e w2 ⟨rfl, rfl⟩
    have hbA : Below w'.heap.size w' (w'.alloc (.cells #[p, q', r] 26)) := (Below.refl _ _).alloc (Nat.le_refl _) _
    have hbB : Below w'.heap.size w' ((w'.alloc (.cells #[p, q', r] 26)).alloc (.cells #[.int .i64 x.table, .slice xa x.lo.length xc, .slice xa2 x.hi.length xc2, .bool x.isOpen] 32)) := hbA.alloc (by simp) _
    have hbC : Below (w'.alloc (.cells #[p, q', r] 26)).heap.size (w'.alloc (.cells #[p, q', r] 26)) ((w'.alloc (.cells #[p, q', r] 26)).alloc (.cells #[.int .i64 x.table, .slice xa x.lo.length xc, .slice xa2 x.hi.length xc2, .bool x.isOpen] 32)) := (Below.refl _ _).alloc (Nat.le_refl _) _
    have hxb := BoxN.new (w'.alloc (.cells #[p, q', r] 26)) 32 [.int .i64 x.table, .slice xa x.lo.length xc, .slice xa2 x.hi.length xc2, .bool x.isOpen]
    rw [World.size_alloc] at hxb
    exact ⟨_, rfl, _, rfl, ⟨w'.heap.size, w'.heap.size + 1, p, q', r, rfl, hb.size, by have := hb.size; omega, (TriV.new w' 26 p q' r).below hbC (by simp), hxb, by simp; omega, hr3.keep fun k hk => hbB.block k (by omega)⟩, hbB⟩
  case fin =>
    intro vs w3 hb3 hG
    have e0 : vs 0 = .agg #[.slice (a 0) (m 0) (c 0), .slice (a 1) (m 1) (c 1), .slice (a 2) (m 2) (c 2), .slice (a 3) (m 3) (c 3), .slice (a 4) (m 4) (c 4), .slice (a 5) (m 5) (c 5), .slice (a 6) (m 6) (c 6), .slice (a 7) (m 7) (c 7), .slice (a 8) (m 8) (c 8), .slice (a 9) (m 9) (c 9), .slice (a 10) (m 10) (c 10), .slice (a 11) (m 11) (c 11)] := hG 0 (by decide)
    have e1 : vs 1 = .pointer (some ⟨w.heap.size + 1, 0, none⟩) := hG 1 (by decide)
    have e2 : vs 2 = .int .i64 x.table := hG 2 (by decide)
    obtain ⟨p3, q3, r3, e3, _, _⟩ := hG 3 (by decide)
    have e4 : vs 4 = .agg #[.int .i64 x.table, .slice xa x.lo.length xc, .slice xa2 x.hi.length xc2, .bool x.isOpen] := hG 4 (by decide)
    obtain ⟨nb, xb, pn, qn, rn, e5, hnb1, hxb1, hnb, hxb, _, hrn⟩ := hG 5 (by decide)
    simp only [zae, e0, e1, e2, e3, e4, e5]
    clear hG e0 e1 e2 e3 e4 e5
    go_simp
    have hb03 := q.trans (hb3.mono q.size)
    have hst := zeu (w0 := w) (w := w3) (n := zdt T x.table) (x := x) (N := 100000) (b := w.heap.size + 3) (hrn.keep fun k hk => (hb03.block k hk).symm) (zfx hf _) hx0 hb03 hnb rfl hxb (by have := hb3.size; omega) (by omega) (by omega) (Nat.le_trans (List.length_filter_le _ _) (zhu (zfx hf _)))
    have hs3 := hb3.size
    have bs3 : Boxed w3 (w.heap.size + 2) 3 (.int .i64 s) := (hb3.block _ bs.lt).trans bs
    have bz3 : Boxed w3 (w.heap.size + 3) 44 (.slice none 0 0) := (hb3.block _ bz.lt).trans bz
    clear bs bz bn bx hS hr0 hx0
    go_wp2_with fail
    refine zef (gf := 59) (lb := #[.pointer (some ⟨nb, 0, none⟩), .pointer (some ⟨xb, 0, none⟩)]) rfl (enters_of Tryz.func59 (by kernel_rfl) rfl)
      hst (fun h k => h.trans k) (fun i => zm4 (by omega)) (Below.refl _ _) (fun _ => rfl)
      (fun hi (pre : List YEl) W => Below w.heap.size w W ∧ Boxed W (w.heap.size + 2) 3 (.int .i64 s) ∧ BoxL Elt.pq 44 60 (w.heap.size + 3) (max hi w3.heap.size) w3.heap.size W (zfr pre s))
      (fun hi c pre W => False)
      (fun i => OwnFrom.and (zf6 (Nat.le_refl _) (by omega)) (OwnFrom.and zed (BoxL.own zqs _)))
      (fun i c _ _ _ _ hs _ _ => hs)
      (fun i => ⟨hb03, bs3, none, 0, 0, bz3, OwnL.nil _ _ _ _ _⟩)
      (fun hi y a' W => a' = { tmps := #[.agg #[.slice (a 0) (m 0) (c 0), .slice (a 1) (m 1) (c 1), .slice (a 2) (m 2) (c 2), .slice (a 3) (m 3) (c 3), .slice (a 4) (m 4) (c 4), .slice (a 5) (m 5) (c 5), .slice (a 6) (m 6) (c 6), .slice (a 7) (m 7) (c 7), .slice (a 8) (m 8) (c 8), .slice (a 9) (m 9) (c 9), .slice (a 10) (m 10) (c 10), .slice (a 11) (m 11) (c 11)], .agg #[.int .i64 x.table, .slice xa x.lo.length xc, .slice xa2 x.hi.length xc2, .bool x.isOpen], .int .i64 s, .pointer (some ⟨w.heap.size, 0, none⟩), .pointer (some ⟨w.heap.size + 1, 0, none⟩), .pointer (some ⟨w.heap.size + 1 + 1, 0, none⟩), .slice none 0 0, .pointer (some ⟨w.heap.size + 1 + 1 + 1, 0, none⟩), .slice y.ad y.t.length y.c, .slice y.ad2 y.l.length y.c2, undef, undef, .agg #[.slice (a 0) (m 0) (c 0), .slice (a 1) (m 1) (c 1), .slice (a 2) (m 2) (c 2), .slice (a 3) (m 3) (c 3), .slice (a 4) (m 4) (c 4), .slice (a 5) (m 5) (c 5), .slice (a 6) (m 6) (c 6), .slice (a 7) (m 7) (c 7), .slice (a 8) (m 8) (c 8), .slice (a 9) (m 9) (c 9), .slice (a 10) (m 10) (c 10), .slice (a 11) (m 11) (c 11)], .pointer (some ⟨w.heap.size + 1, 0, none⟩), .int .i64 x.table, .agg #[p3, q3, r3], .agg #[.int .i64 x.table, .slice xa x.lo.length xc, .slice xa2 x.hi.length xc2, .bool x.isOpen], .func (.func 59) #[] #[.pointer (some ⟨nb, 0, none⟩), .pointer (some ⟨xb, 0, none⟩)], .slice y.ad y.t.length y.c, .slice y.ad2 y.l.length y.c2, undef, undef, undef, undef, undef, undef, undef, undef, undef, undef, undef, undef, undef, undef], defers := [] } ∧ GdW w3.heap.size hi y W)
      (fun i y a' _ _ _ _ hs hg hr => ⟨hs.1, hs.2.own hg fun r e => (hr r e).2⟩) ?assign ?body ?done ?stop
    case assign =>
      intro i l pre y W K hi hgd hK
      gi_wp2
      refine Eq.mp ?_ (hK _ _ (KeepsFrom.refl _ _) (KpB.refl _ _ _ _) hi ⟨rfl, hgd⟩)
      kernel_rfl
    case stop =>
      rintro hi D c pre W4 hD _ h _
      exact h.elim
    case body =>
      rintro hi l pre y a' W4 ⟨hb4, bs4, ad4, k4, c4', bz4, hO4⟩ ⟨rfl, hgd⟩ hlt
      have c4 := bs4.cell
      have hs4 := hb4.size
      have hrd := zgn W4 (s := s) hgd.2.1 hgd.2.2.2.2
      have hsn := zo5 pre y s
      obtain rfl := hO4.len
      have hsl : (zfr pre s).length ≤ pre.length := List.length_filterMap_le _ _
      cases hn : zcd y.l s with
      | none =>
        rw [hn] at hsn
        replace hsn : zfr (pre ++ [y]) s = zfr pre s := by simpa using hsn
        have hcn := CallsIn.inRound l ((callsIn_wide (n := 0)).2 (hrd.mono fun e w' h => za9.none hn h))
        gi_wp2
        refine ⟨trivial, hcn.mono ?_⟩
        clear hcn hrd
        rintro e W5 ⟨a5, c5, rfl, hr5, hb5⟩
        gi_wp2
        refine ⟨(KeepsOthers.of_grownBy (za1 hb5) (fun j o e => by cases e)).from _, KpB.of hb5 (by omega), hb4.trans (hb5.mono hs4), (hb5.block _ bs4.lt).trans bs4, ?_⟩
        rw [hsn]
        exact ⟨ad4, _, c4', (hb5.block _ bz4.lt).trans bz4, hO4.below hb5⟩
      | some vv =>
        rw [hn] at hsn
        have hcn := CallsIn.inRound l ((callsIn_wide (n := 0)).2 (hrd.mono fun e w' h => za9.some hn h))
        gi_wp2
        refine ⟨trivial, hcn.mono ?_⟩
        clear hcn hrd
        rintro e W5 ⟨a5, c5, rfl, hr5, hb5⟩
        have bz5 : Boxed W5 (w.heap.size + 3) 44 (.slice ad4 (zfr pre s).length c4') := (hb5.block _ bz4.lt).trans bz4
        have hO5 := hO4.below hb5
        have z5 := bz5.cell
        have f5 := bz5.frozen
        have hs5 := hb5.size
        obtain ⟨W6, hW6⟩ : ∃ W6, W6 = W5.alloc (.cells #[.slice y.ad y.t.length y.c, .slice a5 vv.length c5] 60) := ⟨_, rfl⟩
        have hb56 : Below W5.heap.size W5 W6 := by rw [hW6]; exact (Below.refl _ _).alloc (Nat.le_refl _) _
        have hrow : BoxN W6 W5.heap.size 60 [.slice y.ad y.t.length y.c, .slice a5 vv.length c5] := by rw [hW6]; exact BoxN.new _ _ _
        have hO6 := hO5.below hb56
        have hs6 := hb56.size
        have hown : ∀ k, Value.ownBlock (.slice ad4 (zfr pre s).length c4') = some k → max hi w3.heap.size ≤ k ∧ k < W4.heap.size := hO4.block_lt
        have hfl : Flat Elt.pq (fun k => w3.heap.size ≤ k ∧ k < W6.heap.size ∧ some k ≠ Value.ownBlock (.slice ad4 (zfr pre s).length c4')) W6 [⟨y.t, vv⟩] [.slice y.ad y.t.length y.c, .slice a5 vv.length c5] := by
          refine Flat.single ⟨_, _, rfl, ((hgd.1.below hb5).below hb56).weak fun k hk => ⟨hk.1, by have := hgd.2.2.1.2; have := hk.2.1; omega, fun e => by have := (hown k e.symm).1; have := hk.2.1; omega⟩, (hr5.below hb56).weak fun k hk => ⟨by have := hgd.2.2.1.1; have := hgd.2.2.1.2; omega, by omega, fun e => by have := (hown k e.symm).2; omega⟩⟩
        have hb3g := hgd.2.2.1
        replace hgd := Lib.hid hgd
        gi_wp2_with (gi_at_builtin; rw [← hW6]; refine zna (E := Elt.pq) pqP rfl rfl (ys := [⟨y.t, vv⟩]) (ns := [.slice y.ad y.t.length y.c, .slice a5 vv.length c5]) (p := ⟨W5.heap.size, 0, none⟩) (c := 1) rfl hO6 rfl (fun j u hj => by rw [Addr.add_lit, Nat.zero_add]; exact hrow.cell hj) hfl (fun k hk => hk) (by omega) (fun ad k cap W7 hO7 hg7 hw7 => ?_) (by simp; omega); have bz7 : Boxed W7 (w.heap.size + 3) 44 (.slice ad4 (zfr pre s).length c4') := (hg7.block _ (by omega) (fun e => by have := (hown _ e.symm).1; omega)).trans ((hb56.block _ bz5.lt).trans bz5); clear z5 f5; have z7 := bz7.cell; have f7 := bz7.frozen)
        have hb46 : Below W4.heap.size W4 W6 := hb5.trans (hb56.mono hs5)
        have hk46 : KeepsOthers W4 W6 := KeepsOthers.of_grownBy (za1 hb46) (fun j o e => by cases e)
        have hk67 : KeepsOthers W6 W7 := KeepsOthers.of_grownBy hg7 (fun j o e ho => by
          obtain ⟨cc, rr, h⟩ := zn5 hO6 e
          rw [h] at ho
          cases ho
          rfl)
        have hs7 := hg7.size
        have hb67 : Below w.heap.size W6 W7 := ⟨hg7.os, hg7.tape, hg7.output, hs7, fun j hj => hg7.block j (by omega) (fun e => by have := (hown _ e.symm).1; omega)⟩
        have hb47 : Below w.heap.size W4 W7 := (hb46.mono hs4).trans hb67
        have hb78 : Below w.heap.size W7 (W7.setCell ⟨w.heap.size + 3, 0, none⟩ (.slice ad k cap)) := (Below.refl _ _).setCell (p := ⟨w.heap.size + 3, 0, none⟩) (by show w.heap.size ≤ w.heap.size + 3; omega) _
        refine ⟨((hk46.trans hk67).trans (KeepsOthers.setCell W7 _ _)).from _, ⟨hb47.trans hb78, fun j o h1 h2 h3 h4 => ?_⟩, (hb4.trans hb47).trans hb78, ?_, ?_⟩
        · have hj4 : j < W4.heap.size := (Array.getElem?_eq_some_iff.1 h3).1
          exact (heap_setCell_other W7 ⟨w.heap.size + 3, 0, none⟩ j _ h2).trans ((hg7.block j (by omega) (fun e => by have := (hown _ e.symm).1; omega)).trans (hb46.block j hj4))
        · have hbs6 := hb46.size
          exact (heap_setCell_other W7 ⟨w.heap.size + 3, 0, none⟩ (w.heap.size + 2) _ (by show w.heap.size + 2 ≠ w.heap.size + 3; omega)).trans ((hg7.block _ (by have := bs4.lt; omega) (fun e => by have := (hown _ e.symm).1; omega)).trans ((hb46.block _ bs4.lt).trans bs4))
        · rw [hsn]
          exact ⟨ad, k, cap, bz7.set _, hO7.other (grownBy_setCell' W7 (w.heap.size + 3) (.slice ad k cap)) (by omega) (by omega)⟩
    case done =>
      rintro hi D ys W4 hD hys ⟨hb4, bs4, ad4, k4, c4', bz4, hO4⟩ hK
      obtain rfl := hO4.len
      have c4 := bz4.cell
      rw [scanY_in _ _ _ hys, zjz] at hO4 c4
      replace hys := Lib.hid hys
      clear bz4 bs4
      go_wp2_with fail
      refine ⟨by simp, .inl ⟨_, _, rfl, run_takeDeferred hK, ?_⟩⟩
      have hb5 := hb4.trans (belowK_b (w := w) (Nat.le_refl _) W4 D _ (Obj.deferred none) (by omega) hK rfl rfl)
      have hO5 := hO4.grown zqs (grownBy_putObj' W4 D (Obj.deferred none)) (fun r e => by injection e with e; subst e; exact ⟨_, hK, rfl⟩)
      exact ⟨_, by simp [results, Tryz.results19, go_sem], _, _, rfl, hO5.rdS fun k h1 h2 => ⟨by omega, h2⟩, hb5⟩
def xA7:Wr:=⟨0,[97],false,[118]⟩
def xB7:Wr:=⟨1,[98],false,[]⟩
def xC7:Wr:=⟨0,[97],true,[]⟩
def xD7:Wr:=⟨0,[97],false,[]⟩
def xE7:Wr:=⟨4,[],false,[]⟩
def T07:Sto:=fun _=>.mk [] [] []
def pA7:List Pr:=[⟨[97],[⟨3,false,[118]⟩]⟩]
def pB7:List Pr:=[⟨[98],[⟨3,false,[]⟩]⟩]
def pC7:List Pr:=[⟨[97],[⟨3,false,[118]⟩,⟨5,true,[]⟩]⟩]
theorem ok_nil7:okN (.mk [] [] []):=by
 constructor
 ·simp [zax]
 ·rw [show zaa (.mk [] [] [])=[] from rfl]
  exact fun i h=>by simp at h
theorem okS_07:okS T07:=fun i _=>⟨ok_nil7,by rw [show T07 i=.mk [] [] [] from rfl,zjy];simp⟩
theorem znr(j:Nat):tabS T07 j=[]:=zjy
theorem inst7_1 : (zcp [] [97] ⟨3,false,[118]⟩) = (pA7,0) := by decide
theorem inst7_2 : (zcp [] [98] ⟨3,false,[]⟩) = (pB7,0) := by decide
theorem inst7_3 : (zcp pA7 [97] ⟨5,true,[]⟩) = (pC7,0) := by decide
theorem inst7_4 : (zcp pC7 [97] ⟨5,false,[]⟩) = ([],50) := by decide
theorem get7:getP pC7 [97] 4=some [118]∧getP pC7 [97] 2=none∧getP pC7 [97] 5=none:=by decide
theorem scan7 : (zgd pC7 ⟨0,[],[],true⟩ 3).length = 1 := by decide
theorem new7 : newP pC7 ⟨0,[],[],true⟩ 4 = true ∧ newP pC7 ⟨0,[],[],true⟩ 5 = false := by decide
theorem vac7:vacP pC7 5=[]∧vacP pB7 5=pB7:=by decide
theorem insA7 : (zbs T07 3 [xA7,xB7]).2 = 0 ∧ (zbs T07 3 [xA7,xB7]).1 0 = pA7 ∧ (zbs T07 3 [xA7,xB7]).1 1 = pB7 ∧ (zbs T07 3 [xA7,xB7]).1 2 = [] ∧ (zbs T07 3 [xA7,xB7]).1 3 = [] := by
 have h : zbs T07 3 [xA7,xB7] = (setT (setT (tabS T07) 0 pA7) 1 pB7,0) := by
  unfold zbs
  rw [if_pos ⟨okS_07,by decide,by decide,by decide⟩]
  unfold goI
  rw [show zcp (tabS T07 xA7.table.toNat) xA7.key (verW xA7 3) = (pA7,0) from by rw [znr]; exact inst7_1]
  rw [if_neg (by simp)]
  unfold goI
  rw [show zcp (setT (tabS T07) xA7.table (pA7,0).1 xB7.table.toNat) xB7.key (verW xB7 3) = (pB7,0) from by
   rw [show setT (tabS T07) xA7.table (pA7,0).1 xB7.table.toNat = [] from znr 1]; exact inst7_2]
  rw [if_neg (by simp)]
  rfl
 rw [h]
 exact ⟨rfl,rfl,rfl,znr 2,znr 3⟩
theorem insC7 {T : Sto} (hk : okS T) (h0 : tabS T 0 = pA7) : (zbs T 5 [xC7]).2 = 0 ∧ (zbs T 5 [xC7]).1 0 = pC7 ∧ ∀ j,0 < j → (zbs T 5 [xC7]).1 j = tabS T j := by
 have h : zbs T 5 [xC7] = (setT (tabS T) 0 pC7,0) := by
  unfold zbs
  rw [if_pos ⟨hk,by decide,by decide,by decide⟩]
  unfold goI
  rw [show zcp (tabS T xC7.table.toNat) xC7.key (verW xC7 5) = (pC7,0) from by rw [show tabS T xC7.table.toNat = pA7 from h0]; exact inst7_3]
  rw [if_neg (by simp)]
  rfl
 rw [h]
 refine ⟨rfl,rfl,fun j hj => ?_⟩
 show setT (tabS T) 0 pC7 j = tabS T j
 unfold setT
 rw [if_neg (by omega)]
theorem insD7 {T : Sto} (hk : okS T) (h0 : tabS T 0 = pC7) : (zbs T 5 [xD7]).2 = 50 := by
 unfold zbs
 rw [if_pos ⟨hk,by decide,by decide,by decide⟩]
 unfold goI
 rw [show zcp (tabS T xD7.table.toNat) xD7.key (verW xD7 5) = ([],50) from by rw [show tabS T xD7.table.toNat = pC7 from h0]; exact inst7_4]
 rfl
theorem insE7 (T:Sto):(zbs T 6 [xE7]).2=1:=by
 unfold zbs
 rw [if_neg (fun h=>by have:=h.2.2.2;revert this;decide)]
end Go.Proofs.YtlpfhgdnmjkngaaGreat
