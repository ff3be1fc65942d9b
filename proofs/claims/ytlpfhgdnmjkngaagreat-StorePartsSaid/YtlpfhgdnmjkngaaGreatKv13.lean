/-
  TEXTS OF ONE PROOF, merged: TrbC, TrbD, TrbE, StC, StD, StE, TraX, Rnh, Rgd, StA, StF.
-/
import Derived.BigFrameIn
import Derived.LoopN
import Derived.RangeFuncFrom
import Derived.Test.YtlpfhgdnmjkngaaGreatKv12
namespace Go.Proofs.YtlpfhgdnmjkngaaGreat
open Go.RowKit Go.Shelf
set_option maxRecDepth 100000
set_option maxHeartbeats 32000000
def zek(w:World)(k:Nat):Prop:=∃ o:Obj,w.heap[k]?=some o∧o.isCells=true
def zg1 {α:Type} (E:Elt α):Prop:=∀ (S:Nat→Prop) (w:World) (x:α) (vs:List Value),E.R S w x vs→E.R (fun k=>S k∧zek w k) w x vs
theorem zdm {S : Nat → Prop} {w : World} {v : Value} {xs : List UInt8} (h : RdS S w v xs) : RdS (fun k => S k ∧ zek w k) w v xs := by
 rcases h with h | ⟨b,off,cap,hv,hb,h1,h2,hc⟩
 ·exact .inl h
 ·cases xs with
  | nil => exact .inl ⟨_,_,hv,h2,rfl⟩
  | cons x r => exact .inr ⟨b,off,cap,hv,⟨hb,cells_of_cell (hc 0 _ rfl)⟩,h1,h2,hc⟩
theorem zec:zg1 Elt.bytes:=fun _ _ _ _⟨v,e,h⟩=>⟨v,e,zdm h⟩
section
variable {α : Type} {E : Elt α} {T Te : TypeId} {base lo : Nat} {w w' : World} {v : Value} {xs : List α}
theorem Flat.cells (hE:zg1 E) {S:Nat→Prop}:∀ {xs:List α} {vs:List Value},Flat E S w xs vs→Flat E (fun k=>S k∧zek w k) w xs vs
 | [],_,h=>h
 | _::_,_,⟨us,ws,e,h1,h2⟩=>⟨us,ws,e,hE _ _ _ _ h1,Flat.cells hE h2⟩
theorem OwnL.grown (hE : zg1 E) (h : OwnL E Te base lo w v xs) {row : Option Nat} (hg : w.grownBy w' row) (hr : ∀ r,row = some r → ∃ o : Obj,w.heap[r]? = some o ∧ o.isCells = false) : OwnL E Te base lo w' v xs := by
 obtain ⟨vs,h1,h2⟩ := h
 refine ⟨vs,⟨h1.1,?_⟩,((h2.cells hE).keep fun k hk => ?_).weak fun k hk => ⟨hk.1.1,Nat.lt_of_lt_of_le hk.1.2.1 hg.size,hk.1.2.2⟩⟩
 ·rcases h1.2 with h | ⟨g,cap,cur,hv,hb,hg2,r⟩
  ·exact .inl h
  ·exact .inr ⟨g,cap,cur,hv,hb,(grownBy_keeps_cells hg hr hg2 rfl).trans hg2,r⟩
 ·obtain ⟨o,ho,hc⟩ := hk.2
  exact grownBy_keeps_cells hg hr ho hc
theorem zn5 {k:Nat} (h:OwnL E Te base lo w v xs) (hk:v.ownBlock=some k):∃ c r,w.heap[k]?=some (.cells c Te r):=by
 obtain⟨vs,h1,_⟩:=h
 rcases h1.2 with⟨rfl,_⟩|⟨g,cap,cur,rfl,_,hg,_⟩
 ·cases hk
 ·injection hk with hk
  subst hk
  exact⟨_,_,hg⟩
def BoxL (E:Elt α) (T Te:TypeId) (B base lo:Nat) (w:World) (xs:List α):Prop:=∃ a k c,Boxed w B T (.slice a k c)∧OwnL E Te base lo w (.slice a k c) xs
theorem BoxL.own {β:Type} {N:Nat} {B:Nat} (hE:zg1 E) (f:β→List α):OwnFrom N (fun s W=>BoxL E T Te B base lo W (f s)):=fun _ _ _ _⟨a,k,c,h1,h2⟩hg hr =>
 ⟨a,k,c,h1.kept hg (fun e=>by obtain⟨_,o,ho,hc⟩:=hr _ e.symm;rw [h1] at ho;cases ho;cases hc),h2.grown hE hg fun r e=>(hr r e).2⟩
theorem KpW.own {β : Type} {n₀ N : Nat} {w₀ : World} (h1 : n₀ ≤ w₀.heap.size) (h2 : n₀ ≤ N) : OwnFrom N (fun (_ : β) W => KpW n₀ w₀ W) := fun _ _ _ _ hs hg hr =>
 hs.trans ⟨⟨hg.os,hg.tape,hg.output,hg.size,fun k hk => hg.block k (by have := hs.1.size; omega) fun e => by have := (hr k e.symm).1; omega⟩,fun j _ _ e => grownBy_keeps_cells hg (fun r h => (hr r h).2) e rfl⟩
end
structure ColE {α : Type} (E : Elt α) (T Te : TypeId) (B base lo : Nat) (W : World) (v : Value) (xs : List α) (x : α) (C : World → Value → Prop) (o0 o2 o3 o4 o5 : Option Value) (w' : World) : Prop where
 ld : ∀ u,o0 = some u → u = v
 el : ∀ u,o2 = some u → C w' u
 rw : ∀ u,o3 = some u → o4 = none → ∃ b us,u = .slice (some ⟨b,0,none⟩) 1 1 ∧ W.heap.size ≤ b ∧ w'.heap[b]? = some (.cells us.toArray Te (0,0)) ∧ E.R (fun g => lo ≤ g ∧ g < w'.heap.size ∧ some g ≠ v.ownBlock) w' x us
 tr : Trd (fun k => (o4 ≠ none ∧ some k = v.ownBlock) ∨ (o5 ≠ none ∧ k = B)) W w'
 ap : ∀ u,o4 = some u → ∃ a k c,u = .slice a k c ∧ OwnL E Te base lo w' u (xs ++ [x])
 no : o4 = none → o5 = none
 dn : o4 ≠ none → o0 ≠ none ∧ o3 ≠ none
 st : ∀ u,o5 = some u → ∃ a,o4 = some a ∧ Boxed w' B T a
def ColL {α:Type} (E:Elt α) (T Te:TypeId) (B base lo:Nat) (W:World) (v:Value) (xs:List α) (x:α) (C:World→Value→Prop):List (Option Value)→World→Prop
 | [o0,o2,o3,o4,o5],w'=>ColE E T Te B base lo W v xs x C o0 o2 o3 o4 o5 w'
 | _,_=>False
section
variable {α : Type} {E : Elt α} {T Te : TypeId} {B base lo : Nat} {W w' w2 : World} {v : Value} {xs : List α} {x : α} {C : World → Value → Prop} {o0 o2 o3 o4 o5 : Option Value}
theorem ColE.start(W:World):ColE E T Te B base lo W v xs x C none none none none none W :=
 ⟨fun _ h=>(by cases h),fun _ h=>(by cases h),fun _ h=>(by cases h),Trd.refl _ _,fun _ h=>(by cases h),fun _=>rfl,fun h=>absurd rfl h,fun _ h=>(by cases h)⟩
theorem ColE.more (hC:∀ w u w',C w u→Below w.heap.size w w'→C w' u) (h:ColE E T Te B base lo W v xs x C o0 o2 o3 o4 o5 w') (hb:Below w'.heap.size w' w2):ColE E T Te B base lo W v xs x C o0 o2 o3 o4 o5 w2 where
 ld:=h.ld
 el u hu:=hC _ _ _ (h.el u hu) hb
 rw u hu h4:=by
  obtain⟨b,us,e,h1,h2,h3⟩:=h.rw u hu h4
  exact⟨b,us,e,h1,(hb.block b (Array.getElem?_eq_some_iff.1 h2).1).trans h2,E.weak (E.keep h3 fun g hg=>hb.block g hg.2.1) fun g hg=>⟨hg.1,Nat.lt_of_lt_of_le hg.2.1 hb.size,hg.2.2⟩⟩
 tr:=h.tr.trans (Trd.of (F:=fun _=>False) hb) fun _ _ h=>h.elim
 ap u hu:=by
  obtain⟨a,k,c,e,h1⟩:=h.ap u hu
  exact⟨a,k,c,e,h1.below hb⟩
 no:=h.no
 dn:=h.dn
 st u hu:=by
  obtain⟨a,e,h1⟩:=h.st u hu
  exact⟨a,e,(hb.block B h1.lt).trans h1⟩
theorem ColL.more (hC:∀ w u w',C w u→Below w.heap.size w w'→C w' u):∀ (l:List (Option Value)) (w w':World),ColL E T Te B base lo W v xs x C l w→Below w.heap.size w w'→ColL E T Te B base lo W v xs x C l w'
 | [_,_,_,_,_],_,_,h,hb=>ColE.more hC h hb
theorem ColE.done {n₀:Nat} {u a:Value} (h:ColE E T Te B base lo W v xs x C o0 o2 o3 (some a) (some u) w') (hb:Boxed W B T v) (hO:OwnL E Te base lo W v xs) (hn:n₀≤base) (hB:n₀≤B) (hT:T≠26) (hTe:Te≠26) (N:Nat) :
  KeepsFrom N W w'∧KpW n₀ W w'∧BoxL E T Te B base lo w' (xs++[x]):=by
 have hF:∀ k,((some a≠none∧some k=v.ownBlock)∨(some u≠none∧k=B))→(base≤k∨k=B)∧∃ c T' r,W.heap[k]?=some (.cells c T' r)∧T'≠26:=by
  rintro k (⟨_,e⟩|⟨_,rfl⟩)
  ·obtain⟨c,r,e2⟩:=zn5 hO e.symm
   exact⟨.inl (hO.block_lt k e.symm).1,c,Te,r,e2,hTe⟩
  ·exact⟨.inr rfl,_,_,_,hb,hT⟩
 refine⟨⟨h.tr.size,fun k o _ hk ho=>(h.tr.block k (Array.getElem?_eq_some_iff.1 hk).1 fun e=>?_).trans hk⟩,⟨h.tr.below (n:=n₀) ?_ fun k hk e=>?_,fun j c r e=>h.tr.block j (Array.getElem?_eq_some_iff.1 e).1 fun e2=>?_⟩,?_⟩
 ·obtain⟨_,c,T',r,e2,_⟩:=hF k e
  rw [hk] at e2
  cases e2
  cases ho
 ·have:=hb.lt;omega
 ·have:=(hF k e).1;omega
 ·obtain⟨_,c',T',r',e3,hne⟩:=hF j e2
  rw [e] at e3
  injection e3 with e3
  injection e3 with _ e4
  exact hne e4.symm
 ·obtain⟨a',k,c,e,h1⟩:=h.ap a rfl
  obtain⟨a2,e2,h2⟩:=h.st u rfl
  injection e2 with e2
  subst e2 e
  exact⟨a',k,c,h2,h1⟩
end
section
variable {α : Type} {E : Elt α} {P : Program} {T Te : TypeId} {B base lo : Nat} {W w' : World} {v : Value} {xs : List α} {x : α} {C : World → Value → Prop} {o0 o2 o3 o4 o5 : Option Value} {o : Oper} {a : Act} {K : Act → World → Prop} {Q : Exit → Act → World → Prop}
theorem ColE.load (h:ColE E T Te B base lo W v xs x C none o2 o3 o4 o5 w') (hb:Boxed W B T v):Boxed w' B T v∧ColE E T Te B base lo W v xs x C (some v) o2 o3 o4 o5 w':=by
 have h4:o4=none:=by
  cases o4 with
  | none=>rfl
  | some u=>exact absurd rfl (h.dn (by simp)).1
 have h5:=h.no h4
 subst h4 h5
 exact⟨(h.tr.block B hb.lt fun e=>e.elim (fun e=>e.1 rfl) fun e=>e.1 rfl).trans hb,⟨fun u hu=>by injection hu with hu;exact hu.symm,h.el,h.rw,h.tr,h.ap,h.no,fun e=>absurd rfl e,h.st⟩⟩
theorem ColE.elem (hC:∀ w u w',C w u→Below w.heap.size w w'→C w' u) (h:ColE E T Te B base lo W v xs x C o0 none o3 o4 o5 w') {w2:World} {u:Value} (hb:Below w'.heap.size w' w2) (hu:C w2 u):ColE E T Te B base lo W v xs x C o0 (some u) o3 o4 o5 w2:=by
 have h2:=h.more hC hb
 exact⟨h2.ld,fun u' h'=>by injection h' with h';exact h'▸hu,h2.rw,h2.tr,h2.ap,h2.no,h2.dn,h2.st⟩
theorem ColE.build (hP:LoP P T Te E.size) (h:ColE E T Te B base lo W v xs x C o0 o2 none none none w') {y:Operand} {u:Value} {us:List Value} (ho:o.op=.buildSlice T 1 #[(0,y)]) (hy:a.eval y=u) (hu:u.cells=us.toArray)
  (hx:E.R (fun g=>lo≤g∧g<w'.heap.size∧some g≠v.ownBlock) w' x us) (hn:E.size≤4096) (hC:∀ w u w',C w u→Below w.heap.size w w'→C w' u)
  (hk:∀ r w2,ColE E T Te B base lo W v xs x C o0 o2 (some r) none none w2→K (a.put o.dst r) w2):o.wp P a w' K Q:=by
 have hb:Below w'.heap.size w' (w'.alloc (.cells us.toArray Te)):=(Below.refl _ _).alloc (Nat.le_refl _) _
 refine zb3 hP ho hy hu (E.len hx) E.pos hn (hk _ _ ?_)
 have h2:=h.more hC hb
 exact⟨h2.ld,h2.el,fun u' hu' _=>by
  injection hu' with hu'
  exact⟨_,us,hu'.symm,h.tr.size,by simp only [World.alloc,Array.getElem?_push_size],E.weak (E.keep hx fun g hg=>hb.block g hg.2.1) fun g hg=>⟨hg.1,Nat.lt_of_lt_of_le hg.2.1 hb.size,hg.2.2⟩⟩,h2.tr,h2.ap,h2.no,fun e=>absurd rfl e,h2.st⟩
theorem ColE.app (hP : LoP P T Te E.size) {r : Value} (h : ColE E T Te B base lo W v xs x C o0 o2 (some r) none none w') (h0 : o0 ≠ none) {s y : Operand} (ho : o.op = .call { callee := .builtin .append,args := #[s,y],argTypes := #[T,T] }) (hs : a.eval s = v) (hy : a.eval y = r)
    (hO : OwnL E Te base lo W v xs) (hbW : base ≤ W.heap.size) (hlen : xs.length + 1 ≤ 1073741824) (hC : ∀ w u w',C w u → w.grownBy w' v.ownBlock → C w' u)
    (hk : ∀ r2 w2,ColE E T Te B base lo W v xs x C o0 o2 (some r) (some r2) none w2 → K (a.put o.dst r2) w2) : o.wp P a w' K Q := by
  obtain ⟨b,us,rfl,h1,h2,h3⟩ := h.rw _ rfl rfl
  have hbl : Below W.heap.size W w' := h.tr.below (Nat.le_refl _) fun k _ e => by rcases e with ⟨e,_⟩ | ⟨e,_⟩ <;> exact e rfl
  refine zd1 (ys := [x]) hP ho hs (hO.below hbl) hy (zkd h2) (Flat.single h3) (fun k hk => hk) (Nat.le_trans hbW hbl.size) (fun ad k cap w2 g1 g2 _ => hk _ _ ?_) (by simpa using hlen)
  have htr : Trd (fun k => (some (Value.slice ad k cap) ≠ none ∧ some k = v.ownBlock) ∨ (@none Value ≠ none ∧ k = B)) W w2 :=
    (Trd.of (F := fun k => (some (Value.slice ad k cap) ≠ none ∧ some k = v.ownBlock) ∨ (@none Value ≠ none ∧ k = B)) hbl).trans (Trd.ofGrown g2 (F := fun k => some k = v.ownBlock) fun k e => e.symm) fun k _ e => .inl ⟨by simp,e⟩
  exact
    { ld := h.ld
      el := fun u hu => hC _ _ _ (h.el u hu) g2
      rw := fun _ _ e => by cases e
      tr := htr.mono fun k _ e => e.imp (fun e => ⟨by simp,e.2⟩) fun e => ⟨e.1,e.2⟩
      ap := fun u hu => by
        injection hu with hu
        exact ⟨ad,k,cap,hu.symm,hu ▸ g1⟩
      no := fun e => by cases e
      dn := fun _ => ⟨h0,by simp⟩
      st := fun _ e => by cases e }
theorem ColE.sto {r2 : Value} (h : ColE E T Te B base lo W v xs x C o0 o2 o3 (some r2) none w') {p y : Operand} (ho : o.op = .store T p y) (hT : (P.info? T).map (·.size) = some 1) (hp : a.eval p = .pointer (some ⟨B,0,none⟩)) (hy : a.eval y = r2)
    (hb : Boxed W B T v) (hO : OwnL E Te base lo W v xs) (hBb : B < base) (hBl : B < lo) (hC : ∀ w u w',C w u → w.grownBy w' (some B) → C w' u)
    (hk : ∀ w2,ColE E T Te B base lo W v xs x C o0 o2 o3 (some r2) (some undef) w2 → K (a.put o.dst undef) w2) : o.wp P a w' K Q := by
  obtain ⟨ad,k,c,rfl,h1⟩ := h.ap _ rfl
  have hB : Boxed w' B T v := (h.tr.block B hb.lt fun e => e.elim (fun e => by have := (hO.block_lt B e.2.symm).1; omega) fun e => e.1 rfl).trans hb
  refine zou ho hT hp hy hB.cell hB.frozen (hk _ ?_)
  have hg := grownBy_setCell' w' B (.slice ad k c)
  exact
    { ld := h.ld
      el := fun u hu => hC _ _ _ (h.el u hu) hg
      rw := fun _ _ e => by cases e
      tr := by
        have h5 := h.tr.mono (F' := fun i => (some (Value.slice ad k c) ≠ none ∧ some i = v.ownBlock) ∨ (some undef ≠ none ∧ i = B)) fun i _ e => e.imp id fun e => ⟨by simp,e.2⟩
        exact h5.trans (Trd.ofGrown hg (F := fun i => i = B) fun i e => by injection e with e; exact e.symm) fun i _ e => .inr ⟨by simp,e⟩
      ap := fun u hu => by
        injection hu with hu
        exact ⟨ad,k,c,hu.symm,hu ▸ h1.other hg hBl hBb⟩
      no := fun e => by cases e
      dn := fun _ => h.dn (by simp)
      st := fun u _ => ⟨_,rfl,hB.set _⟩ }
end
attribute [local go_sem] Oper.semAt_some
theorem zhu {n:Nd} (hf:fitN n):(prN n).length≤100000:=by
 unfold prN
 split
 ·rename_i h
  exact Nat.le_trans (zfy (wN n) (Nat.le_refl _) h.1) hf.1
 ·exact Nat.zero_le _
theorem kpW_b {n₀:Nat} {w:World} (hn:n₀≤w.heap.size) (W:World) (l:Nat) (o o':Obj) (hl:w.heap.size≤l) (h1:W.heap[l]?=some o) (h2:o.isCells=false) (h3:o.isWalk=false):KpW n₀ W (W.putObj l o') :=
 ⟨belowK_b hn W l o o' hl h1 h2 h3,fun j _ _ e=>World.putObj_heap_other (fun e2=>by subst e2;rw [h1] at e;cases e;cases h2)⟩
theorem zqr(n:Nd):∀ p∈prN n,p.key.length≤16:=by
 unfold prN
 split
 ·rename_i h
  exact fun p hp=>(((zco _).1 h.2).1 p hp).2.2
 ·exact fun p hp=>by cases hp
def NewK (W:World) (t:List UInt8) (w':World) (u:Value):Prop:=∃ a k c,u=.slice a k c∧RdS (fun g=>W.heap.size≤g∧g<w'.heap.size) w' (.slice a k c) t
theorem NewK.below {W:World} {t:List UInt8}(w:World)(u:Value)(w':World)(h:NewK W t w u)(hb:Below w.heap.size w w'):NewK W t w' u:=by
 obtain⟨a,k,c,e,h⟩:=h
 exact⟨a,k,c,e,(h.below hb).weak fun g hg=>⟨hg.1,Nat.lt_of_lt_of_le hg.2 hb.size⟩⟩
theorem NewK.grown {W:World} {t:List UInt8} {r:Option Nat}(hr:∀ k,r=some k→k<W.heap.size)(w:World)(u:Value)(w':World)(h:NewK W t w u)(hg:w.grownBy w' r):NewK W t w' u:=by
 obtain⟨a,k,c,e,h⟩:=h
 exact⟨a,k,c,e,(h.keep fun g hg2=>hg.block g hg2.2 fun e=>by have:=hr g e.symm;omega).weak fun g hg2=>⟨hg2.1,Nat.lt_of_lt_of_le hg2.2 hg.size⟩⟩
theorem zp7 (w : World) {S : Nat → Prop} {v : Value} {n : Nd} (hr : RdN S w v n) (hf : fitN n) : Calls Tryz.prog 60 #[v] w (KeysEnd w ((prN n).map (·.key))) := by
 have hr0 : RdN (· < w.heap.size) w v n := hr.fit.weak fun _ h => h.2
 obtain ⟨a1,c1,a2,c2,a3,c3,rfl,_,_,_⟩ := hr
 obtain ⟨X,eX⟩ : ∃ X,X = Obj.cells #[.slice a1 n.keys.length c1,.slice a2 n.chains.length c2,.slice a3 n.kids.length c3] 26 := ⟨_,rfl⟩
 obtain ⟨w4,hw4⟩ : ∃ w4,w4 = (((w.alloc X).alloc (.cells #[.slice none 0 0] 22)).alloc X).alloc (.cells #[.slice none 0 0] 30) := ⟨_,rfl⟩
 have hs4 : w4.heap.size = w.heap.size + 4 := by rw [hw4]; simp
 have hb4 : Below w.heap.size w w4 := by
  rw [hw4]
  exact ((((Below.refl _ w).alloc (Nat.le_refl _) _).alloc (by simp) _).alloc (by simp; omega) _).alloc (by simp; omega) _
 have bK : Boxed w4 (w.heap.size + 1) 22 (.slice none 0 0) := by
  rw [hw4]
  have := Boxed.new (w.alloc X) 22 (.slice none 0 0)
  rw [World.size_alloc] at this
  exact (this.alloc _).alloc _
 have bN : TriV w4 (w.heap.size + 2) 26 (.slice a1 n.keys.length c1) (.slice a2 n.chains.length c2) (.slice a3 n.kids.length c3) := by
  rw [hw4]
  show _ = _
  rw [Below.heap_alloc _ _ _ (by simp)]
  have := World.alloc_heap_new ((w.alloc X).alloc (.cells #[.slice none 0 0] 22)) X
  simp only [World.size_alloc] at this
  rw [this,eX]
 have bE : w4.cell? ⟨w.heap.size + 3,0,none⟩ = some (.slice none 0 0) := by
  rw [hw4]
  have := (Boxed.new (((w.alloc X).alloc (.cells #[.slice none 0 0] 22)).alloc X) 30 (.slice none 0 0)).cell
  simpa using this
 have hN : (prN n).length ≤ 100000 := zhu hf
 have hgl : (geK (prN n) []).length ≤ (prN n).length := zrg _ _
 have hst := zi2 (N := (prN n).length) hr0 hf (RdS.nil _ w) hb4 bN bE hgl
 refine zbr Tryz.func60 rfl ?_
 simp only [Tryz.ntmps60,List.size_toArray,List.length_cons,List.length_nil,Nat.reduceAdd,Nat.reduceSub,Array.replicate_succ,Array.replicate_zero,List.push_toArray,List.append_toArray,List.nil_append,List.cons_append]
 go_wp2_with fail
 refine (zoe _ _ _ _ _ _ _).mono ?_
 rintro e wS ⟨rfl,hw'⟩
 obtain rfl : wS = w4 := by rw [hw',hw4,eX]
 clear hw' hw4
 go_wp2_with fail
 have hT : 22 ≠ 26 := by decide
 have hTe : 30 ≠ 26 := by decide
 refine zgp (gf := 78) (lb := #[.pointer (some ⟨w.heap.size + 2,0,none⟩),.pointer (some ⟨w.heap.size + 3,0,none⟩)]) rfl (enters_of Tryz.func78 (by kernel_rfl) rfl)
  hst (fun h k => h.trans k) (kpW_b (by omega)) (Below.refl _ _) (fun _ => rfl)
  (fun pre W => BoxL Elt.bytes 22 30 (w.heap.size + 1) (w.heap.size + 4) (w.heap.size + 4) W (pre.map (·.t)) ∧ KpW w.heap.size wS W)
  (fun _ _ _ => False)
  (OwnFrom.and (BoxL.own zec _) (KpW.own (by omega) (by omega)))
  (fun _ _ _ _ _ hs _ _ => hs)
  ⟨⟨none,0,0,bK,OwnL.nil _ _ _ _ _⟩,KpW.refl _ _⟩
  (fun x => { tmps := #[.agg #[.slice a1 n.keys.length c1,.slice a2 n.chains.length c2,.slice a3 n.kids.length c3],.pointer (some ⟨w.heap.size,0,none⟩),.slice none 0 0,.pointer (some ⟨w.heap.size + 1,0,none⟩),.slice x.ad x.t.length x.c,.agg #[.slice a1 n.keys.length c1,.slice a2 n.chains.length c2,.slice a3 n.kids.length c3],.func (.func 78) #[] #[.pointer (some ⟨w.heap.size + 2,0,none⟩),.pointer (some ⟨w.heap.size + 3,0,none⟩)],.slice x.ad x.t.length x.c,undef,undef,undef,undef,undef,undef],defers := [] }) ?assign ?body ?done ?stop
 case assign =>
  intro l x W K hK
  gi_wp2
  refine Eq.mp ?_ hK
  kernel_rfl
 case stop =>
  rintro D c pre W _ _ h _
  exact h.elim
 case body =>
  rintro l pre x W ⟨⟨ad,k,c,hbx,hO⟩,hKp⟩ hlt
  have hWs : w.heap.size + 4 ≤ W.heap.size := by have := hKp.1.size; omega
  have hxr : RdS (· < w.heap.size) W (.slice x.ad x.t.length x.c) x.t := znx x.rd (hb4.trans (hKp.1.mono (Nat.le_refl _)))
  have hob : ∀ i,Value.ownBlock (.slice ad k c) = some i → w.heap.size + 4 ≤ i ∧ i < W.heap.size := hO.block_lt
  have hlen : (pre.map (·.t)).length + 1 ≤ 1073741824 := by rw [List.length_map]; omega
  have eC : ∀ args w,(callFunc 57 args).run Tryz.prog w = .ok (.enter 57 args) w := enters_of Tryz.func57 (by kernel_rfl) rfl
  have hxl : x.t.length ≤ 1000000 := x.le
  refine wpIn_block ?_
  refine zg0 (K := fun _ _ => True) (by kernel_rfl) (by kernel_rfl) (by kernel_rfl) [0,2,3,4,5] (by kernel_rfl) [lAny,lEq (.slice x.ad x.t.length x.c),lAny,lAny,lAny,lAny]
   (ColL Elt.bytes 22 30 (w.heap.size + 1) (w.heap.size + 4) (w.heap.size + 4) W (.slice ad k c) (pre.map (·.t)) x.t (NewK W x.t)) (ColL.more NewK.below) (ColE.start W)
   ⟨?o0,?o1,?o2,?o3,?o4,?o5,trivial⟩ ?fin
  case o0 =>
   refine StOp.set rfl (by kernel_rfl) (fun A va D w' hF hT hN' hE hd hu hg => ?_)
   have e1 : A.eval (.tmp 3) = .pointer (some ⟨w.heap.size + 1,0,none⟩) := hF 3 rfl
   have hE2 := hE
   simp only [told,List.map_cons,List.map_nil,hN',Bool.false_eq_true,if_false] at hE2
   obtain ⟨h5,h6⟩ := ColE.load hE2 hbx
   refine zad (e := 30) rfl e1 (by kernel_rfl) h5.cell ⟨_,rfl,?_,trivial⟩
   simpa [ColL,told,don,upd] using h6
  case o1 =>
   refine StOp.free rfl (by kernel_rfl) (fun A va D w' hF hT hN' hE hd hu hg => ?_)
   have e1 : A.eval (.tmp 4) = .slice x.ad x.t.length x.c := hF 4 rfl
   exact BigFrame.wp_move _ rfl ⟨_,rfl,e1,Below.refl _ _⟩
  case o2 =>
   refine StOp.set rfl (by kernel_rfl) (fun A va D w' hF hT hN' hE hd hu hg => ?_)
   have e1 : A.eval (.tmp 9) = .slice x.ad x.t.length x.c := (hT 9 1 (by simp) rfl).trans (hg ⟨1,.data⟩ (by simp) rfl rfl)
   have hE2 := hE
   simp only [told,List.map_cons,List.map_nil,hN',Bool.false_eq_true,if_false] at hE2
   have hxw : RdS (· < w.heap.size) w' (.slice x.ad x.t.length x.c) x.t := hxr.keep fun g hg => hE2.tr.block g (by omega) fun e => by
    rcases e with ⟨_,e⟩ | ⟨_,e⟩
    ·have := hob g e.symm; omega
    ·omega
   refine zak rfl eC (args := #[.slice x.ad x.t.length x.c]) (by simp only [List.map_toArray,List.map_cons,List.map_nil,e1]) ((ze1 w' hxw.rd (Nat.le_refl _) hxl).mono ?_)
   rintro e w2 ⟨ad',k2,c',rfl,hf'⟩
   obtain rfl := hf'.2.rdS.len.1
   have h5 := ColE.elem NewK.below hE2 hf'.1 (u := .slice ad' x.t.length c') ⟨_,_,_,rfl,hf'.2.rdS.weak fun g hg => ⟨Nat.le_trans hE2.tr.size hg.1,hg.2⟩⟩
   exact ⟨_,rfl,_,rfl,by simpa [ColL,told,don,upd] using h5,trivial⟩
  case o3 =>
   refine StOp.set rfl (by kernel_rfl) (fun A va D w' hF hT hN' hE hd hu hg => ?_)
   have x1 : A.eval (.tmp 10) = va 2 := hT 10 2 (by simp) rfl
   have d2 : D 2 = true := hd ⟨2,.data⟩ (by simp) rfl
   have hE2 := hE
   simp only [told,List.map_cons,List.map_nil,hN',d2,Bool.false_eq_true,if_false,if_true] at hE2
   have d4 : D 4 = false := by
    cases h : D 4 with
    | false => rfl
    | true => rw [h] at hE2; exact absurd rfl (ColE.dn hE2 (by simp)).2
   rw [d4] at hE2
   simp only [Bool.false_eq_true,if_false] at hE2
   have d5 : D 5 = false := by
    cases h : D 5 with
    | false => rfl
    | true => rw [h] at hE2; have := ColE.no hE2 rfl; simp at this
   rw [d5] at hE2
   simp only [Bool.false_eq_true,if_false] at hE2
   obtain ⟨a5,k5,c5,ec,hc5⟩ := hE2.el _ rfl
   refine ColE.build kysP hE2 rfl (x1.trans ec) rfl ⟨_,rfl,hc5.weak fun g hg => ⟨by omega,hg.2,fun e => by have := hob g e.symm; omega⟩⟩ (by decide) NewK.below fun r w2 h6 => ⟨_,rfl,?_,trivial⟩
   simpa [ColL,told,don,upd,d2,d4,d5] using h6
  case o4 =>
   refine StOp.set rfl (by kernel_rfl) (fun A va D w' hF hT hN' hE hd hu hg => ?_)
   have x1 : A.eval (.tmp 8) = va 0 := hT 8 0 (by simp) rfl
   have x2 : A.eval (.tmp 11) = va 3 := hT 11 3 (by simp) rfl
   have d0 : D 0 = true := hd ⟨0,.data⟩ (by simp) rfl
   have d3 : D 3 = true := hd ⟨3,.data⟩ (by simp) rfl
   have hE2 := hE
   simp only [told,List.map_cons,List.map_nil,hN',d0,d3,Bool.false_eq_true,if_false,if_true] at hE2
   have d5 : D 5 = false := by
    cases h : D 5 with
    | false => rfl
    | true => rw [h] at hE2; have := ColE.no hE2 rfl; simp at this
   rw [d5] at hE2
   simp only [Bool.false_eq_true,if_false] at hE2
   refine ColE.app kysP hE2 (by simp) rfl (x1.trans (hE2.ld _ rfl)) x2 hO (by omega) hlen (NewK.grown fun i hi => (hob i hi).2) fun r2 w2 h6 => ⟨_,rfl,?_,trivial⟩
   simpa [ColL,told,don,upd,d0,d3,d5] using h6
  case o5 =>
   refine StOp.set rfl (by kernel_rfl) (fun A va D w' hF hT hN' hE hd hu hg => ?_)
   have e1 : A.eval (.tmp 3) = .pointer (some ⟨w.heap.size + 1,0,none⟩) := hF 3 rfl
   have x2 : A.eval (.tmp 12) = va 4 := hT 12 4 (by simp) rfl
   have d4 : D 4 = true := hd ⟨4,.data⟩ (by simp) rfl
   have hE2 := hE
   simp only [told,List.map_cons,List.map_nil,hN',d4,Bool.false_eq_true,if_false,if_true] at hE2
   refine ColE.sto hE2 rfl (by kernel_rfl) e1 x2 hbx hO (by omega) (by omega) (NewK.grown fun i hi => by injection hi with hi; omega) fun w2 h6 => ⟨_,rfl,?_,trivial⟩
   simpa [ColL,told,don,upd,d4] using h6
  case fin =>
   intro vs1 W1 hE hG
   obtain ⟨h1,h2,h3⟩ := ColE.done (n₀ := w.heap.size) hE hbx hO (by omega) (by omega) hT hTe wS.heap.size
   exact ⟨h1,h2,by rw [List.map_append]; exact h3,hKp.trans h2⟩
 case done =>
  rintro D ys W hD hys ⟨⟨ad,k,c,hbx,hO⟩,hKp⟩ hK
  have hc := hbx.cell
  obtain ⟨rfl,_,_⟩ := hO.rdL.len
  rw [hys,zrh] at hO hc
  clear hbx
  replace hys := Lib.hid hys
  go_wp2_with fail
  refine ⟨by simp,.inl ⟨_,_,rfl,run_takeDeferred hK,?_⟩⟩
  have hb : Below w.heap.size w (W.putObj D (Obj.deferred none)) := (hb4.trans hKp.1).trans (belowK_b (w := w) (Nat.le_refl _) W D _ _ (by omega) hK rfl rfl)
  have hrd : RdL Elt.bytes (fun g => w.heap.size ≤ g ∧ g < (W.putObj D (Obj.deferred none)).heap.size) (W.putObj D (Obj.deferred none)) (.slice ad (prN n).length c) ((prN n).map (·.key)) := by
   have h1 := (hO.grown zec (grownBy_putObj' W D (Obj.deferred none)) (fun r e => by injection e with e; subst e; exact ⟨_,hK,rfl⟩)).rdL
   rw [List.length_map] at h1
   exact h1.weak fun g hg => ⟨by omega,hg.2⟩
  refine ⟨.slice ad (prN n).length c,by simp [results,Tryz.results60,go_sem],ad,c,by rw [List.length_map],?_,hb⟩
  rw [List.length_map]
  exact hrd
attribute [local go_sem] Oper.semAt_some
theorem zed {β:Type} {N b:Nat} {t:TypeId} {v:β→Value}:OwnFrom N (fun (s:β) W=>Boxed W b t (v s)):=fun s X Y row hs hg hr =>
 hs.kept hg (fun e=>by obtain⟨_,o,ho,hc⟩:=hr _ e.symm;rw [show X.heap[b]?=_ from hs] at ho;cases ho;cases hc)
theorem zf6 {β:Type} {n₀ N:Nat} {w₀:World} (h1:n₀≤w₀.heap.size) (h2:n₀≤N):OwnFrom N (fun (_:β) W=>Below n₀ w₀ W):=fun _ _ _ _ hs hg hr =>
 hs.grown hg (Nat.le_trans h1 hs.size) fun k e=>Nat.le_trans h2 (hr k e).1
theorem rdS_own {S:Nat→Prop} {v:Value} {t:List UInt8} {X Y:World} {row:Option Nat}(h:RdS S X v t)(hg:X.grownBy Y row)(hr:∀ r,row=some r→∃ o:Obj,X.heap[r]?=some o∧o.isCells=false):RdS S Y v t :=
 ((zdm h).keep fun k hk=>by
  obtain⟨o,ho,hc⟩:=hk.2
  exact grownBy_keeps_cells hg hr ho hc).weak fun k hk=>hk.1
theorem zd3 (w : World) {S : Nat → Prop} {v : Value} {n : Nd} (hr : RdN S w v n) (hf : fitN n) : Calls Tryz.prog 39 #[v] w fun e w' => e = .returned (.int .i64 ((prN n).length : Nat)) ∧ Below w.heap.size w w' := by
 have hr0 : RdN (· < w.heap.size) w v n := hr.fit.weak fun _ h => h.2
 obtain ⟨a1,c1,a2,c2,a3,c3,rfl,_,_,_⟩ := hr
 obtain ⟨X,eX⟩ : ∃ X,X = Obj.cells #[.slice a1 n.keys.length c1,.slice a2 n.chains.length c2,.slice a3 n.kids.length c3] 26 := ⟨_,rfl⟩
 obtain ⟨w2,hw2⟩ : ∃ w2,w2 = (w.alloc X).alloc (.cells #[.int .i64 0] 3) := ⟨_,rfl⟩
 obtain ⟨w4,hw4⟩ : ∃ w4,w4 = (w2.alloc X).alloc (.cells #[.slice none 0 0] 30) := ⟨_,rfl⟩
 have bI0 : Boxed ((w.alloc X).alloc (.cells #[.int .i64 0] 3)) (w.heap.size + 1) 3 (.int .i64 0) := by
  have := Boxed.new (w.alloc X) 3 (.int .i64 0)
  rwa [World.size_alloc] at this
 have bI2 : Boxed w2 (w.heap.size + 1) 3 (.int .i64 0) := by rw [hw2]; exact bI0
 have hb2 : Below w.heap.size w w2 := by
  rw [hw2]
  exact ((Below.refl _ w).alloc (Nat.le_refl _) _).alloc (by simp) _
 have hs2 : w2.heap.size = w.heap.size + 2 := by rw [hw2]; simp
 have hb4 : Below w.heap.size w w4 := by
  rw [hw4]
  exact (hb2.alloc (by omega) _).alloc (by simp; omega) _
 have hs4 : w4.heap.size = w.heap.size + 4 := by rw [hw4]; simp [hs2]
 have bK : Boxed w4 (w.heap.size + 1) 3 (.int .i64 0) := by
  rw [hw4]
  exact (bI2.alloc _).alloc _
 have bN : TriV w4 (w.heap.size + 2) 26 (.slice a1 n.keys.length c1) (.slice a2 n.chains.length c2) (.slice a3 n.kids.length c3) := by
  rw [hw4]
  show _ = _
  rw [Below.heap_alloc _ _ _ (by simp [hs2])]
  have := World.alloc_heap_new w2 X
  rw [hs2] at this
  rw [this,eX]
 have bE : w4.cell? ⟨w.heap.size + 3,0,none⟩ = some (.slice none 0 0) := by
  rw [hw4]
  have := (Boxed.new (w2.alloc X) 30 (.slice none 0 0)).cell
  rw [World.size_alloc,hs2] at this
  exact this
 have hN : (prN n).length ≤ 100000 := zhu hf
 have hgl : (geK (prN n) []).length ≤ (prN n).length := zrg _ _
 have hst := zi2 (N := (prN n).length) hr0 hf (RdS.nil _ w) hb4 bN bE hgl
 have hcI := bI0.cell
 have hfI := bI0.frozen
 have bX : TriV ((w.alloc X).alloc (.cells #[.int .i64 0] 3)) w.heap.size 26 (.slice a1 n.keys.length c1) (.slice a2 n.chains.length c2) (.slice a3 n.kids.length c3) := by
  rw [eX]
  exact (TriV.new w _ _ _ _).below ((Below.refl _ _).alloc (Nat.le_refl _) _) (by simp)
 have bX2 : TriV w2 w.heap.size 26 (.slice a1 n.keys.length c1) (.slice a2 n.chains.length c2) (.slice a3 n.kids.length c3) := by
  rw [hw2]
  exact bX
 have tn0 := bX2.cell0
 have tn1 := bX2.cell1
 have tn2 := bX2.cell2
 refine zbr Tryz.func39 rfl ?_
 simp only [Tryz.ntmps39,List.size_toArray,List.length_cons,List.length_nil,Nat.reduceAdd,Nat.reduceSub,Array.replicate_succ,Array.replicate_zero,List.push_toArray,List.append_toArray,List.nil_append,List.cons_append]
 go_upto_region 2 with (fail)
 rw [← eX,← hw2]
 replace hw2 := Lib.hid hw2
 replace hw4 := Lib.hid hw4
 replace eX := Lib.hid eX
 go_wp2_with fail
 refine (zoe _ _ _ _ _ _ _).mono ?_
 rintro e wS ⟨rfl,hw'⟩
 obtain rfl : wS = w4 := by rw [hw',hw4.out,eX.out]
 clear hw' hw4 tn0 tn1 tn2 hcI hfI bX bX2 bI0
 clear hw2
 go_wp2_with fail
 refine zgp (gf := 78) (lb := #[.pointer (some ⟨w.heap.size + 2,0,none⟩),.pointer (some ⟨w.heap.size + 3,0,none⟩)]) rfl (enters_of Tryz.func78 (by kernel_rfl) rfl)
  hst (fun h k => h.trans k) (kpW_b (by omega)) (Below.refl _ _) (fun _ => rfl)
  (fun (pre : List (zee w)) W => Boxed W (w.heap.size + 1) 3 (.int .i64 (pre.length : Nat)) ∧ KpW w.heap.size wS W)
  (fun _ _ _ => False)
  (OwnFrom.and zed (KpW.own (by omega) (by omega)))
  (fun _ _ _ _ _ hs _ _ => hs)
  ⟨bK,KpW.refl _ _⟩
  (fun (x : zee w) => { tmps := #[.agg #[.slice a1 n.keys.length c1,.slice a2 n.chains.length c2,.slice a3 n.kids.length c3],.pointer (some ⟨w.heap.size,0,none⟩),.int .i64 0,.pointer (some ⟨w.heap.size + 1,0,none⟩),.agg #[.slice a1 n.keys.length c1,.slice a2 n.chains.length c2,.slice a3 n.kids.length c3],.func (.func 78) #[] #[.pointer (some ⟨w.heap.size + 2,0,none⟩),.pointer (some ⟨w.heap.size + 3,0,none⟩)],.slice x.ad x.t.length x.c,undef,undef,undef],defers := [] }) ?assign ?body ?done ?stop
 case assign =>
  intro l x W K hK
  gi_wp2
  refine Eq.mp ?_ hK
  kernel_rfl
 case stop =>
  rintro D c pre W _ _ h _
  exact h.elim
 case body =>
  rintro l pre x W ⟨hbx,hKp⟩ hlt
  have hc := hbx.cell
  have hf := hbx.frozen
  gi_wp2
  have hk' : KpW w.heap.size W (W.setCell ⟨w.heap.size + 1,0,none⟩ (.int .i64 ((pre.length : Int) + 1))) :=
   ⟨(Below.refl _ _).setCell (p := ⟨w.heap.size + 1,0,none⟩) (by show w.heap.size ≤ w.heap.size + 1; omega) _,fun j c r e => heap_setCell_other W ⟨w.heap.size + 1,0,none⟩ j _ (fun e2 => by
    have e3 : j = w.heap.size + 1 := e2
    rw [e3,show W.heap[w.heap.size + 1]? = _ from hbx] at e
    injection e with e
    injection e with _ e4
    exact absurd e4 (by decide))⟩
  refine ⟨(KeepsOthers.setCell _ _ _).from _,hk',?_,hKp.trans hk'⟩
  have := hbx.set (.int .i64 ((pre.length : Int) + 1))
  simpa using this
 case done =>
  rintro D ys W hD hys ⟨hbx,hKp⟩ hK
  have hc := hbx.cell
  have hl : ys.length = (prN n).length := by
   have := congrArg List.length hys
   rwa [zrh,List.length_map,List.length_map] at this
  rw [hl] at hc
  clear hbx
  replace hys := Lib.hid hys
  replace hl := Lib.hid hl
  go_wp2_with fail
  refine ⟨by simp,.inl ⟨_,_,rfl,run_takeDeferred hK,?_⟩⟩
  exact ⟨.int .i64 ((prN n).length : Nat),by simp [results,Tryz.results39,go_sem],rfl,(hb4.trans hKp.1).trans (belowK_b (w := w) (Nat.le_refl _) W D _ _ (by omega) hK rfl rfl)⟩
theorem zcx (w:World) {S:Nat→Prop} {v:Value} {T:Sto} (hr:RdSt S w v T) (hf:fitS T):Calls Tryz.prog 21 #[v] w fun e w'=>e=.returned (.bool (decide (okS T)))∧Below w.heap.size w w':=by
 obtain⟨a,m,c,rfl,hx⟩:=hr
 obtain⟨W,hW⟩:∃ W,W=w.alloc (.cells #[.slice (a 0) (m 0) (c 0),.slice (a 1) (m 1) (c 1),.slice (a 2) (m 2) (c 2),.slice (a 3) (m 3) (c 3),.slice (a 4) (m 4) (c 4),.slice (a 5) (m 5) (c 5),.slice (a 6) (m 6) (c 6),.slice (a 7) (m 7) (c 7),.slice (a 8) (m 8) (c 8),.slice (a 9) (m 9) (c 9),.slice (a 10) (m 10) (c 10),.slice (a 11) (m 11) (c 11)] 29):=⟨_,rfl⟩
 have q:Below w.heap.size w W:=by rw [hW];exact (Below.refl _ _).alloc (Nat.le_refl _) _
 have bn:StB W w.heap.size a m c:=by rw [hW];exact BoxN.new _ _ _
 go_enter Tryz.func21,Tryz.ntmps21
 go_upto_region 1 with (fail)
 rw [← hW]
 clear hW
 have d0:=bn.cell (i:=0) rfl
 have d1:=bn.cell (i:=1) rfl
 have d2:=bn.cell (i:=2) rfl
 have d3:=bn.cell (i:=3) rfl
 have d4:=bn.cell (i:=4) rfl
 have d5:=bn.cell (i:=5) rfl
 have d6:=bn.cell (i:=6) rfl
 have d7:=bn.cell (i:=7) rfl
 have d8:=bn.cell (i:=8) rfl
 have d9:=bn.cell (i:=9) rfl
 have d10:=bn.cell (i:=10) rfl
 have d11:=bn.cell (i:=11) rfl
 go_wp2
 go_loopw [7] (fun v wr=>∃ i:Nat,v=.int .i64 (i:Int)∧i≤4∧Below w.heap.size w wr∧∀ j,j<i→okN (T j)∧(prN (T j)).length≤60) (fun v _=>4 - toN v)
 case atStart=>exact⟨0,rfl,by omega,q,fun j hj=>by omega⟩
 case round =>
  obtain⟨i,rfl,hi,hb,hA⟩:=hrel
  replace hA:=Lib.hid hA
  rcases Nat.lt_or_ge i 4 with hl | hl
  ·have dl:decide ((i:Int)<4)=true:=by simp;omega
   have hf':=hf i hl
   clear d0 d1 d2 d3 d4 d5 d6 d7 d8 d9 d10 d11
   rcases (show i=0∨i=1∨i=2∨i=3 by omega) with rfl | rfl | rfl | rfl
   ·have rN:RdN S w (.agg #[.slice (a 0) (m 0) (c 0),.slice (a 1) (m 1) (c 1),.slice (a 2) (m 2) (c 2)]) (T 0):=hx 0 (by omega)
    obtain⟨W3,hW3⟩:∃ W3,W3=wr.alloc (.cells #[.slice (a 0) (m 0) (c 0),.slice (a 1) (m 1) (c 1),.slice (a 2) (m 2) (c 2)] 26):=⟨_,rfl⟩
    have b3:Below wr.heap.size wr W3:=by rw [hW3];exact (Below.refl _ _).alloc (Nat.le_refl _) _
    have bn3:TriV W3 wr.heap.size 26 (.slice (a 0) (m 0) (c 0)) (.slice (a 1) (m 1) (c 1)) (.slice (a 2) (m 2) (c 2)):=by rw [hW3];exact TriV.new _ _ _ _ _
    have hb3:=hb.trans (b3.mono hb.size)
    have hch:=zci W3 (rN.below hb3) (by have:=hf'.1;omega)
    go_upto_region 4 with (first | (refine zbj taP 0 rfl rfl rfl rfl rfl (by omega) rfl ?_) | fail)
    rw [← hW3]
    have e0:=bn3.cell0
    have e1:=bn3.cell1
    have e2:=bn3.cell2
    clear hW3
    by_cases hok:okN (T 0)
    ·rw [decide_eq_true hok] at hch
     have hO:=Lib.hid hok
     clear hok
     go_wp2_with fail
     refine hch.mono ?_
     rintro e W4⟨rfl,hb4⟩
     have bn4:=bn3.below hb4 bn3.lt
     have e0:=bn4.cell0
     have e1:=bn4.cell1
     have e2:=bn4.cell2
     have hbb:=hb3.trans (hb4.mono hb3.size)
     have hmn:=zd3 W4 (rN.below hbb) hf'
     by_cases hle:(prN (T 0)).length≤60
     ·have d2:decide (60<((prN (T 0)).length:Int))=false:=by simp;omega
      have hL:=Lib.hid hle
      clear hle
      go_wp2_with fail
      refine hmn.mono ?_
      rintro e W5⟨rfl,hb5⟩
      go_wp2_with fail
      go_roundw
      case rel =>
       refine⟨1,by go_num,by omega,hbb.trans (hb5.mono hbb.size),fun j hj=>?_⟩
       rcases Nat.lt_succ_iff_lt_or_eq.1 hj with h | rfl
       ·exact hA.out j h
       ·exact⟨hO.out,hL.out⟩
      case measure=>simp [toN]
     ·have d2:decide (60<((prN (T 0)).length:Int))=true:=by simp;omega
      have H:=Lib.hid (show decide (okS T)=false from decide_eq_false fun h=>hle (h 0 (by omega)).2)
      clear hle
      go_wp2_with fail
      refine hmn.mono ?_
      rintro e W5⟨rfl,hb5⟩
      go_wp2_with fail
      go_ret
      exact⟨by rw [H.out];rfl,hbb.trans (hb5.mono hbb.size)⟩
    ·rw [decide_eq_false hok] at hch
     have H:=Lib.hid (show decide (okS T)=false from decide_eq_false fun h=>hok (h 0 (by omega)).1)
     clear hok
     go_wp2_with fail
     refine hch.mono ?_
     rintro e W4⟨rfl,hb4⟩
     go_wp2_with fail
     go_ret
     exact⟨by rw [H.out];rfl,hb3.trans (hb4.mono hb3.size)⟩
   ·have rN:RdN S w (.agg #[.slice (a 3) (m 3) (c 3),.slice (a 4) (m 4) (c 4),.slice (a 5) (m 5) (c 5)]) (T 1):=hx 1 (by omega)
    obtain⟨W3,hW3⟩:∃ W3,W3=wr.alloc (.cells #[.slice (a 3) (m 3) (c 3),.slice (a 4) (m 4) (c 4),.slice (a 5) (m 5) (c 5)] 26):=⟨_,rfl⟩
    have b3:Below wr.heap.size wr W3:=by rw [hW3];exact (Below.refl _ _).alloc (Nat.le_refl _) _
    have bn3:TriV W3 wr.heap.size 26 (.slice (a 3) (m 3) (c 3)) (.slice (a 4) (m 4) (c 4)) (.slice (a 5) (m 5) (c 5)):=by rw [hW3];exact TriV.new _ _ _ _ _
    have hb3:=hb.trans (b3.mono hb.size)
    have hch:=zci W3 (rN.below hb3) (by have:=hf'.1;omega)
    go_upto_region 4 with (first | (refine zbj taP 1 rfl rfl rfl rfl rfl (by omega) rfl ?_) | fail)
    rw [← hW3]
    have e0:=bn3.cell0
    have e1:=bn3.cell1
    have e2:=bn3.cell2
    clear hW3
    by_cases hok:okN (T 1)
    ·rw [decide_eq_true hok] at hch
     have hO:=Lib.hid hok
     clear hok
     go_wp2_with fail
     refine hch.mono ?_
     rintro e W4⟨rfl,hb4⟩
     have bn4:=bn3.below hb4 bn3.lt
     have e0:=bn4.cell0
     have e1:=bn4.cell1
     have e2:=bn4.cell2
     have hbb:=hb3.trans (hb4.mono hb3.size)
     have hmn:=zd3 W4 (rN.below hbb) hf'
     by_cases hle:(prN (T 1)).length≤60
     ·have d2:decide (60<((prN (T 1)).length:Int))=false:=by simp;omega
      have hL:=Lib.hid hle
      clear hle
      go_wp2_with fail
      refine hmn.mono ?_
      rintro e W5⟨rfl,hb5⟩
      go_wp2_with fail
      go_roundw
      case rel =>
       refine⟨2,by go_num,by omega,hbb.trans (hb5.mono hbb.size),fun j hj=>?_⟩
       rcases Nat.lt_succ_iff_lt_or_eq.1 hj with h | rfl
       ·exact hA.out j h
       ·exact⟨hO.out,hL.out⟩
      case measure=>simp [toN]
     ·have d2:decide (60<((prN (T 1)).length:Int))=true:=by simp;omega
      have H:=Lib.hid (show decide (okS T)=false from decide_eq_false fun h=>hle (h 1 (by omega)).2)
      clear hle
      go_wp2_with fail
      refine hmn.mono ?_
      rintro e W5⟨rfl,hb5⟩
      go_wp2_with fail
      go_ret
      exact⟨by rw [H.out];rfl,hbb.trans (hb5.mono hbb.size)⟩
    ·rw [decide_eq_false hok] at hch
     have H:=Lib.hid (show decide (okS T)=false from decide_eq_false fun h=>hok (h 1 (by omega)).1)
     clear hok
     go_wp2_with fail
     refine hch.mono ?_
     rintro e W4⟨rfl,hb4⟩
     go_wp2_with fail
     go_ret
     exact⟨by rw [H.out];rfl,hb3.trans (hb4.mono hb3.size)⟩
   ·have rN:RdN S w (.agg #[.slice (a 6) (m 6) (c 6),.slice (a 7) (m 7) (c 7),.slice (a 8) (m 8) (c 8)]) (T 2):=hx 2 (by omega)
    obtain⟨W3,hW3⟩:∃ W3,W3=wr.alloc (.cells #[.slice (a 6) (m 6) (c 6),.slice (a 7) (m 7) (c 7),.slice (a 8) (m 8) (c 8)] 26):=⟨_,rfl⟩
    have b3:Below wr.heap.size wr W3:=by rw [hW3];exact (Below.refl _ _).alloc (Nat.le_refl _) _
    have bn3:TriV W3 wr.heap.size 26 (.slice (a 6) (m 6) (c 6)) (.slice (a 7) (m 7) (c 7)) (.slice (a 8) (m 8) (c 8)):=by rw [hW3];exact TriV.new _ _ _ _ _
    have hb3:=hb.trans (b3.mono hb.size)
    have hch:=zci W3 (rN.below hb3) (by have:=hf'.1;omega)
    go_upto_region 4 with (first | (refine zbj taP 2 rfl rfl rfl rfl rfl (by omega) rfl ?_) | fail)
    rw [← hW3]
    have e0:=bn3.cell0
    have e1:=bn3.cell1
    have e2:=bn3.cell2
    clear hW3
    by_cases hok:okN (T 2)
    ·rw [decide_eq_true hok] at hch
     have hO:=Lib.hid hok
     clear hok
     go_wp2_with fail
     refine hch.mono ?_
     rintro e W4⟨rfl,hb4⟩
     have bn4:=bn3.below hb4 bn3.lt
     have e0:=bn4.cell0
     have e1:=bn4.cell1
     have e2:=bn4.cell2
     have hbb:=hb3.trans (hb4.mono hb3.size)
     have hmn:=zd3 W4 (rN.below hbb) hf'
     by_cases hle:(prN (T 2)).length≤60
     ·have d2:decide (60<((prN (T 2)).length:Int))=false:=by simp;omega
      have hL:=Lib.hid hle
      clear hle
      go_wp2_with fail
      refine hmn.mono ?_
      rintro e W5⟨rfl,hb5⟩
      go_wp2_with fail
      go_roundw
      case rel =>
       refine⟨3,by go_num,by omega,hbb.trans (hb5.mono hbb.size),fun j hj=>?_⟩
       rcases Nat.lt_succ_iff_lt_or_eq.1 hj with h | rfl
       ·exact hA.out j h
       ·exact⟨hO.out,hL.out⟩
      case measure=>simp [toN]
     ·have d2:decide (60<((prN (T 2)).length:Int))=true:=by simp;omega
      have H:=Lib.hid (show decide (okS T)=false from decide_eq_false fun h=>hle (h 2 (by omega)).2)
      clear hle
      go_wp2_with fail
      refine hmn.mono ?_
      rintro e W5⟨rfl,hb5⟩
      go_wp2_with fail
      go_ret
      exact⟨by rw [H.out];rfl,hbb.trans (hb5.mono hbb.size)⟩
    ·rw [decide_eq_false hok] at hch
     have H:=Lib.hid (show decide (okS T)=false from decide_eq_false fun h=>hok (h 2 (by omega)).1)
     clear hok
     go_wp2_with fail
     refine hch.mono ?_
     rintro e W4⟨rfl,hb4⟩
     go_wp2_with fail
     go_ret
     exact⟨by rw [H.out];rfl,hb3.trans (hb4.mono hb3.size)⟩
   ·have rN:RdN S w (.agg #[.slice (a 9) (m 9) (c 9),.slice (a 10) (m 10) (c 10),.slice (a 11) (m 11) (c 11)]) (T 3):=hx 3 (by omega)
    obtain⟨W3,hW3⟩:∃ W3,W3=wr.alloc (.cells #[.slice (a 9) (m 9) (c 9),.slice (a 10) (m 10) (c 10),.slice (a 11) (m 11) (c 11)] 26):=⟨_,rfl⟩
    have b3:Below wr.heap.size wr W3:=by rw [hW3];exact (Below.refl _ _).alloc (Nat.le_refl _) _
    have bn3:TriV W3 wr.heap.size 26 (.slice (a 9) (m 9) (c 9)) (.slice (a 10) (m 10) (c 10)) (.slice (a 11) (m 11) (c 11)):=by rw [hW3];exact TriV.new _ _ _ _ _
    have hb3:=hb.trans (b3.mono hb.size)
    have hch:=zci W3 (rN.below hb3) (by have:=hf'.1;omega)
    go_upto_region 4 with (first | (refine zbj taP 3 rfl rfl rfl rfl rfl (by omega) rfl ?_) | fail)
    rw [← hW3]
    have e0:=bn3.cell0
    have e1:=bn3.cell1
    have e2:=bn3.cell2
    clear hW3
    by_cases hok:okN (T 3)
    ·rw [decide_eq_true hok] at hch
     have hO:=Lib.hid hok
     clear hok
     go_wp2_with fail
     refine hch.mono ?_
     rintro e W4⟨rfl,hb4⟩
     have bn4:=bn3.below hb4 bn3.lt
     have e0:=bn4.cell0
     have e1:=bn4.cell1
     have e2:=bn4.cell2
     have hbb:=hb3.trans (hb4.mono hb3.size)
     have hmn:=zd3 W4 (rN.below hbb) hf'
     by_cases hle:(prN (T 3)).length≤60
     ·have d2:decide (60<((prN (T 3)).length:Int))=false:=by simp;omega
      have hL:=Lib.hid hle
      clear hle
      go_wp2_with fail
      refine hmn.mono ?_
      rintro e W5⟨rfl,hb5⟩
      go_wp2_with fail
      go_roundw
      case rel =>
       refine⟨4,by go_num,by omega,hbb.trans (hb5.mono hbb.size),fun j hj=>?_⟩
       rcases Nat.lt_succ_iff_lt_or_eq.1 hj with h | rfl
       ·exact hA.out j h
       ·exact⟨hO.out,hL.out⟩
      case measure=>simp [toN]
     ·have d2:decide (60<((prN (T 3)).length:Int))=true:=by simp;omega
      have H:=Lib.hid (show decide (okS T)=false from decide_eq_false fun h=>hle (h 3 (by omega)).2)
      clear hle
      go_wp2_with fail
      refine hmn.mono ?_
      rintro e W5⟨rfl,hb5⟩
      go_wp2_with fail
      go_ret
      exact⟨by rw [H.out];rfl,hbb.trans (hb5.mono hbb.size)⟩
    ·rw [decide_eq_false hok] at hch
     have H:=Lib.hid (show decide (okS T)=false from decide_eq_false fun h=>hok (h 3 (by omega)).1)
     clear hok
     go_wp2_with fail
     refine hch.mono ?_
     rintro e W4⟨rfl,hb4⟩
     go_wp2_with fail
     go_ret
     exact⟨by rw [H.out];rfl,hb3.trans (hb4.mono hb3.size)⟩
  ·obtain rfl:i=4:=by omega
   have H:=Lib.hid (show decide (okS T)=true from decide_eq_true fun j hj=>hA.out j hj)
   go_wp2_with fail
   go_ret
   exact⟨by rw [H.out];rfl,hb⟩
def StEnd (w:World) (T:Sto) (e:Ending) (w':World):Prop:=∃ v,e=.returned v∧RdSt (fun k=>w.heap.size≤k∧k<w'.heap.size) w' v T∧Below w.heap.size w w'
theorem zcg (w : World) {S : Nat → Prop} {v : Value} {T : Sto} (hr : RdSt S w v T) (hf : fitS T) : Calls Tryz.prog 47 #[v] w (StEnd w T) := by
 obtain ⟨a,m,c,rfl,hx⟩ := hr
 obtain ⟨W,hW⟩ : ∃ W,W = (w.alloc (.cells #[.slice (a 0) (m 0) (c 0),.slice (a 1) (m 1) (c 1),.slice (a 2) (m 2) (c 2),.slice (a 3) (m 3) (c 3),.slice (a 4) (m 4) (c 4),.slice (a 5) (m 5) (c 5),.slice (a 6) (m 6) (c 6),.slice (a 7) (m 7) (c 7),.slice (a 8) (m 8) (c 8),.slice (a 9) (m 9) (c 9),.slice (a 10) (m 10) (c 10),.slice (a 11) (m 11) (c 11)] 29)).alloc (.cells #[.slice none 0 0,.slice none 0 0,.slice none 0 0,.slice none 0 0,.slice none 0 0,.slice none 0 0,.slice none 0 0,.slice none 0 0,.slice none 0 0,.slice none 0 0,.slice none 0 0,.slice none 0 0] 29) := ⟨_,rfl⟩
 have q : Below w.heap.size w W := by rw [hW]; exact ((Below.refl _ _).alloc (Nat.le_refl _) _).alloc (by simp) _
 have bn : StB W w.heap.size a m c := by rw [hW]; exact (BoxN.new _ _ (bxS a m c)).below ((Below.refl _ _).alloc (Nat.le_refl _) _) (by simp)
 have bz : BoxN W (w.heap.size + 1) 29 [.slice none 0 0,.slice none 0 0,.slice none 0 0,.slice none 0 0,.slice none 0 0,.slice none 0 0,.slice none 0 0,.slice none 0 0,.slice none 0 0,.slice none 0 0,.slice none 0 0,.slice none 0 0] := by
  rw [hW]
  have := BoxN.new (w.alloc (.cells #[.slice (a 0) (m 0) (c 0),.slice (a 1) (m 1) (c 1),.slice (a 2) (m 2) (c 2),.slice (a 3) (m 3) (c 3),.slice (a 4) (m 4) (c 4),.slice (a 5) (m 5) (c 5),.slice (a 6) (m 6) (c 6),.slice (a 7) (m 7) (c 7),.slice (a 8) (m 8) (c 8),.slice (a 9) (m 9) (c 9),.slice (a 10) (m 10) (c 10),.slice (a 11) (m 11) (c 11)] 29)) 29 [.slice none 0 0,.slice none 0 0,.slice none 0 0,.slice none 0 0,.slice none 0 0,.slice none 0 0,.slice none 0 0,.slice none 0 0,.slice none 0 0,.slice none 0 0,.slice none 0 0,.slice none 0 0]
  rwa [World.size_alloc] at this
 go_enter Tryz.func47,Tryz.ntmps47
 go_upto_region 1 with (fail)
 rw [← hW]
 clear hW
 have d0 := bn.cell (i := 0) rfl
 have d1 := bn.cell (i := 1) rfl
 have d2 := bn.cell (i := 2) rfl
 have d3 := bn.cell (i := 3) rfl
 have d4 := bn.cell (i := 4) rfl
 have d5 := bn.cell (i := 5) rfl
 have d6 := bn.cell (i := 6) rfl
 have d7 := bn.cell (i := 7) rfl
 have d8 := bn.cell (i := 8) rfl
 have d9 := bn.cell (i := 9) rfl
 have d10 := bn.cell (i := 10) rfl
 have d11 := bn.cell (i := 11) rfl
 go_wp2
 go_loopw [7] (fun v wr => ∃ (i : Nat) (a1 : Nat → Option Addr) (m1 c1 : Nat → Nat),v = .int .i64 (i : Int) ∧ i ≤ 4 ∧ Below w.heap.size w wr ∧ StB wr w.heap.size a1 m1 c1 ∧ BoxN wr (w.heap.size + 1) 29 [.slice none 0 0,.slice none 0 0,.slice none 0 0,.slice none 0 0,.slice none 0 0,.slice none 0 0,.slice none 0 0,.slice none 0 0,.slice none 0 0,.slice none 0 0,.slice none 0 0,.slice none 0 0] ∧
  ∀ j,j < i → RdN (fun k => w.heap.size ≤ k ∧ k < wr.heap.size ∧ w.heap.size + 2 ≤ k) wr (.agg #[.slice (a1 (3 * j)) (m1 (3 * j)) (c1 (3 * j)),.slice (a1 (3 * j + 1)) (m1 (3 * j + 1)) (c1 (3 * j + 1)),.slice (a1 (3 * j + 2)) (m1 (3 * j + 2)) (c1 (3 * j + 2))]) (T j)) (fun v _ => 4 - toN v)
 case atStart => exact ⟨0,a,m,c,rfl,by omega,q,bn,bz,fun j hj => by omega⟩
 case round =>
  obtain ⟨i,a1,m1,c1,rfl,hi,hb,bx,bz,hA⟩ := hrel
  replace hA := Lib.hid hA
  clear d0 d1 d2 d3 d4 d5 d6 d7 d8 d9 d10 d11
  rcases Nat.lt_or_ge i 4 with hl | hl
  ·have dl : decide ((i : Int) < 4) = true := by simp; omega
   have hf' := hf i hl
   rcases (show i = 0 ∨ i = 1 ∨ i = 2 ∨ i = 3 by omega) with rfl | rfl | rfl | rfl
   ·have rN : RdN S w (.agg #[.slice (a 0) (m 0) (c 0),.slice (a 1) (m 1) (c 1),.slice (a 2) (m 2) (c 2)]) (T 0) := hx 0 (by omega)
    obtain ⟨W3,hW3⟩ : ∃ W3,W3 = wr.alloc (.cells #[.slice (a 0) (m 0) (c 0),.slice (a 1) (m 1) (c 1),.slice (a 2) (m 2) (c 2)] 26) := ⟨_,rfl⟩
    have b3 : Below wr.heap.size wr W3 := by rw [hW3]; exact (Below.refl _ _).alloc (Nat.le_refl _) _
    have bn3 : TriV W3 wr.heap.size 26 (.slice (a 0) (m 0) (c 0)) (.slice (a 1) (m 1) (c 1)) (.slice (a 2) (m 2) (c 2)) := by rw [hW3]; exact TriV.new _ _ _ _ _
    have bx3 : StB W3 w.heap.size a1 m1 c1 := bx.below b3 bx.lt
    have hb3 := hb.trans (b3.mono hb.size)
    have hpt := zeh W3 (rN.below hb3) hf' (RdS.nil (fun _ => False) W3) (by simp) (RdL.nil Elt.ver (fun _ => False) W3) ⟨by simp,fun x hx => by simp at hx⟩
    go_upto_region 4 with (first | (refine zbj taP 0 rfl rfl rfl rfl rfl (by omega) rfl ?_) | fail)
    rw [← hW3]
    have e0 := bn3.cell0
    have e1 := bn3.cell1
    have e2 := bn3.cell2
    clear hW3
    go_wp2_with fail
    refine hpt.mono ?_
    rintro e W4 ⟨v4,n4,er,rfl,hp4,hr4,hb4⟩
    obtain ⟨rfl,rfl⟩ : er = 1 ∧ n4 = T 0 := by
     unfold zf7 at hp4
     rw [if_neg (by simp)] at hp4
     exact hp4
    clear hp4
    have bx4 := bx3.below hb4 bx3.lt
    have bz4 := (bz.below b3 bz.lt).below hb4 (bz.below b3 bz.lt).lt
    have hs3 := b3.size
    have hs4 := hb4.size
    have hxl := bx.lt
    have hzl := bz.lt
    have hA4 : ∀ j,j < 0 → RdN (fun k => w.heap.size ≤ k ∧ k < wr.heap.size ∧ w.heap.size + 2 ≤ k) W4 (.agg #[.slice (a1 (3 * j)) (m1 (3 * j)) (c1 (3 * j)),.slice (a1 (3 * j + 1)) (m1 (3 * j + 1)) (c1 (3 * j + 1)),.slice (a1 (3 * j + 2)) (m1 (3 * j + 2)) (c1 (3 * j + 2))]) (T j) := fun j hj => (hA.out j hj).keep fun k hk => (hb4.block k (by omega)).trans (b3.block k hk.2.1)
    have hW4 : W3.heap.size ≤ W4.heap.size := hb4.size
    replace hA4 := Lib.hid hA4
    obtain ⟨f0,g0,f1,g1,f2,g2,rfl,_,_,_⟩ := id hr4
    have hr4' := Lib.hid hr4
    clear hr4 e0 e1 e2
    have hbb := hb3.trans (hb4.mono hb3.size)
    go_wp2_with (first | (refine zb9 taP 0 rfl rfl rfl rfl rfl (by omega) ?_) | (refine za7 (us := [.slice f0 (T 0).keys.length g0,.slice f1 (T 0).chains.length g1,.slice f2 (T 0).kids.length g2]) (by kernel_rfl) rfl rfl rfl rfl rfl rfl bx4 (by show _ ≤ 12; simp) (fun W5 hg5 bx5 => ?_)) | fail)
    go_roundw
    case rel =>
     have hb5 : Below w.heap.size W4 W5 := ⟨hg5.os,hg5.tape,hg5.output,hg5.size,fun k hk => hg5.block k (by omega) (fun e => by injection e with e; omega)⟩
     have hk5 : ∀ k,k < W4.heap.size → k ≠ w.heap.size → W5.heap[k]? = W4.heap[k]? := fun k h1 h2 => hg5.block k h1 (fun e => h2 (by injection e))
     have hs5 := hg5.size
     refine ⟨1,fun j => if j = 0 then f0 else if j = 1 then f1 else if j = 2 then f2 else a1 j,fun j => if j = 0 then (T 0).keys.length else if j = 1 then (T 0).chains.length else if j = 2 then (T 0).kids.length else m1 j,fun j => if j = 0 then g0 else if j = 1 then g1 else if j = 2 then g2 else c1 j,by go_num,by omega,hbb.trans hb5,bx5,bz4.other hg5 (fun e => by injection e with e; omega),fun j hj => ?_⟩
     match j,hj with
     | 0,_ => exact (hr4'.out.keep fun k hk => hk5 k hk.2 (by omega)).weak fun k hk => ⟨by omega,by omega,by omega⟩
     | j + 1,hj => omega
    case measure => simp [toN]
   ·have rN : RdN S w (.agg #[.slice (a 3) (m 3) (c 3),.slice (a 4) (m 4) (c 4),.slice (a 5) (m 5) (c 5)]) (T 1) := hx 1 (by omega)
    obtain ⟨W3,hW3⟩ : ∃ W3,W3 = wr.alloc (.cells #[.slice (a 3) (m 3) (c 3),.slice (a 4) (m 4) (c 4),.slice (a 5) (m 5) (c 5)] 26) := ⟨_,rfl⟩
    have b3 : Below wr.heap.size wr W3 := by rw [hW3]; exact (Below.refl _ _).alloc (Nat.le_refl _) _
    have bn3 : TriV W3 wr.heap.size 26 (.slice (a 3) (m 3) (c 3)) (.slice (a 4) (m 4) (c 4)) (.slice (a 5) (m 5) (c 5)) := by rw [hW3]; exact TriV.new _ _ _ _ _
    have bx3 : StB W3 w.heap.size a1 m1 c1 := bx.below b3 bx.lt
    have hb3 := hb.trans (b3.mono hb.size)
    have hpt := zeh W3 (rN.below hb3) hf' (RdS.nil (fun _ => False) W3) (by simp) (RdL.nil Elt.ver (fun _ => False) W3) ⟨by simp,fun x hx => by simp at hx⟩
    go_upto_region 4 with (first | (refine zbj taP 1 rfl rfl rfl rfl rfl (by omega) rfl ?_) | fail)
    rw [← hW3]
    have e0 := bn3.cell0
    have e1 := bn3.cell1
    have e2 := bn3.cell2
    clear hW3
    go_wp2_with fail
    refine hpt.mono ?_
    rintro e W4 ⟨v4,n4,er,rfl,hp4,hr4,hb4⟩
    obtain ⟨rfl,rfl⟩ : er = 1 ∧ n4 = T 1 := by
     unfold zf7 at hp4
     rw [if_neg (by simp)] at hp4
     exact hp4
    clear hp4
    have bx4 := bx3.below hb4 bx3.lt
    have bz4 := (bz.below b3 bz.lt).below hb4 (bz.below b3 bz.lt).lt
    have hs3 := b3.size
    have hs4 := hb4.size
    have hxl := bx.lt
    have hzl := bz.lt
    have hA4 : ∀ j,j < 1 → RdN (fun k => w.heap.size ≤ k ∧ k < wr.heap.size ∧ w.heap.size + 2 ≤ k) W4 (.agg #[.slice (a1 (3 * j)) (m1 (3 * j)) (c1 (3 * j)),.slice (a1 (3 * j + 1)) (m1 (3 * j + 1)) (c1 (3 * j + 1)),.slice (a1 (3 * j + 2)) (m1 (3 * j + 2)) (c1 (3 * j + 2))]) (T j) := fun j hj => (hA.out j hj).keep fun k hk => (hb4.block k (by omega)).trans (b3.block k hk.2.1)
    have hW4 : W3.heap.size ≤ W4.heap.size := hb4.size
    replace hA4 := Lib.hid hA4
    obtain ⟨f0,g0,f1,g1,f2,g2,rfl,_,_,_⟩ := id hr4
    have hr4' := Lib.hid hr4
    clear hr4 e0 e1 e2
    have hbb := hb3.trans (hb4.mono hb3.size)
    go_wp2_with (first | (refine zb9 taP 1 rfl rfl rfl rfl rfl (by omega) ?_) | (refine za7 (us := [.slice f0 (T 1).keys.length g0,.slice f1 (T 1).chains.length g1,.slice f2 (T 1).kids.length g2]) (by kernel_rfl) rfl rfl rfl rfl rfl rfl bx4 (by show _ ≤ 12; simp) (fun W5 hg5 bx5 => ?_)) | fail)
    go_roundw
    case rel =>
     have hb5 : Below w.heap.size W4 W5 := ⟨hg5.os,hg5.tape,hg5.output,hg5.size,fun k hk => hg5.block k (by omega) (fun e => by injection e with e; omega)⟩
     have hk5 : ∀ k,k < W4.heap.size → k ≠ w.heap.size → W5.heap[k]? = W4.heap[k]? := fun k h1 h2 => hg5.block k h1 (fun e => h2 (by injection e))
     have hs5 := hg5.size
     refine ⟨2,fun j => if j = 3 then f0 else if j = 4 then f1 else if j = 5 then f2 else a1 j,fun j => if j = 3 then (T 1).keys.length else if j = 4 then (T 1).chains.length else if j = 5 then (T 1).kids.length else m1 j,fun j => if j = 3 then g0 else if j = 4 then g1 else if j = 5 then g2 else c1 j,by go_num,by omega,hbb.trans hb5,bx5,bz4.other hg5 (fun e => by injection e with e; omega),fun j hj => ?_⟩
     match j,hj with
     | 0,_ => exact ((hA4.out 0 (by omega)).keep fun k hk => hk5 k (by omega) (by omega)).weak fun k hk => ⟨hk.1,by omega,hk.2.2⟩
     | 1,_ => exact (hr4'.out.keep fun k hk => hk5 k hk.2 (by omega)).weak fun k hk => ⟨by omega,by omega,by omega⟩
     | j + 2,hj => omega
    case measure => simp [toN]
   ·have rN : RdN S w (.agg #[.slice (a 6) (m 6) (c 6),.slice (a 7) (m 7) (c 7),.slice (a 8) (m 8) (c 8)]) (T 2) := hx 2 (by omega)
    obtain ⟨W3,hW3⟩ : ∃ W3,W3 = wr.alloc (.cells #[.slice (a 6) (m 6) (c 6),.slice (a 7) (m 7) (c 7),.slice (a 8) (m 8) (c 8)] 26) := ⟨_,rfl⟩
    have b3 : Below wr.heap.size wr W3 := by rw [hW3]; exact (Below.refl _ _).alloc (Nat.le_refl _) _
    have bn3 : TriV W3 wr.heap.size 26 (.slice (a 6) (m 6) (c 6)) (.slice (a 7) (m 7) (c 7)) (.slice (a 8) (m 8) (c 8)) := by rw [hW3]; exact TriV.new _ _ _ _ _
    have bx3 : StB W3 w.heap.size a1 m1 c1 := bx.below b3 bx.lt
    have hb3 := hb.trans (b3.mono hb.size)
    have hpt := zeh W3 (rN.below hb3) hf' (RdS.nil (fun _ => False) W3) (by simp) (RdL.nil Elt.ver (fun _ => False) W3) ⟨by simp,fun x hx => by simp at hx⟩
    go_upto_region 4 with (first | (refine zbj taP 2 rfl rfl rfl rfl rfl (by omega) rfl ?_) | fail)
    rw [← hW3]
    have e0 := bn3.cell0
    have e1 := bn3.cell1
    have e2 := bn3.cell2
    clear hW3
    go_wp2_with fail
    refine hpt.mono ?_
    rintro e W4 ⟨v4,n4,er,rfl,hp4,hr4,hb4⟩
    obtain ⟨rfl,rfl⟩ : er = 1 ∧ n4 = T 2 := by
     unfold zf7 at hp4
     rw [if_neg (by simp)] at hp4
     exact hp4
    clear hp4
    have bx4 := bx3.below hb4 bx3.lt
    have bz4 := (bz.below b3 bz.lt).below hb4 (bz.below b3 bz.lt).lt
    have hs3 := b3.size
    have hs4 := hb4.size
    have hxl := bx.lt
    have hzl := bz.lt
    have hA4 : ∀ j,j < 2 → RdN (fun k => w.heap.size ≤ k ∧ k < wr.heap.size ∧ w.heap.size + 2 ≤ k) W4 (.agg #[.slice (a1 (3 * j)) (m1 (3 * j)) (c1 (3 * j)),.slice (a1 (3 * j + 1)) (m1 (3 * j + 1)) (c1 (3 * j + 1)),.slice (a1 (3 * j + 2)) (m1 (3 * j + 2)) (c1 (3 * j + 2))]) (T j) := fun j hj => (hA.out j hj).keep fun k hk => (hb4.block k (by omega)).trans (b3.block k hk.2.1)
    have hW4 : W3.heap.size ≤ W4.heap.size := hb4.size
    replace hA4 := Lib.hid hA4
    obtain ⟨f0,g0,f1,g1,f2,g2,rfl,_,_,_⟩ := id hr4
    have hr4' := Lib.hid hr4
    clear hr4 e0 e1 e2
    have hbb := hb3.trans (hb4.mono hb3.size)
    go_wp2_with (first | (refine zb9 taP 2 rfl rfl rfl rfl rfl (by omega) ?_) | (refine za7 (us := [.slice f0 (T 2).keys.length g0,.slice f1 (T 2).chains.length g1,.slice f2 (T 2).kids.length g2]) (by kernel_rfl) rfl rfl rfl rfl rfl rfl bx4 (by show _ ≤ 12; simp) (fun W5 hg5 bx5 => ?_)) | fail)
    go_roundw
    case rel =>
     have hb5 : Below w.heap.size W4 W5 := ⟨hg5.os,hg5.tape,hg5.output,hg5.size,fun k hk => hg5.block k (by omega) (fun e => by injection e with e; omega)⟩
     have hk5 : ∀ k,k < W4.heap.size → k ≠ w.heap.size → W5.heap[k]? = W4.heap[k]? := fun k h1 h2 => hg5.block k h1 (fun e => h2 (by injection e))
     have hs5 := hg5.size
     refine ⟨3,fun j => if j = 6 then f0 else if j = 7 then f1 else if j = 8 then f2 else a1 j,fun j => if j = 6 then (T 2).keys.length else if j = 7 then (T 2).chains.length else if j = 8 then (T 2).kids.length else m1 j,fun j => if j = 6 then g0 else if j = 7 then g1 else if j = 8 then g2 else c1 j,by go_num,by omega,hbb.trans hb5,bx5,bz4.other hg5 (fun e => by injection e with e; omega),fun j hj => ?_⟩
     match j,hj with
     | 0,_ => exact ((hA4.out 0 (by omega)).keep fun k hk => hk5 k (by omega) (by omega)).weak fun k hk => ⟨hk.1,by omega,hk.2.2⟩
     | 1,_ => exact ((hA4.out 1 (by omega)).keep fun k hk => hk5 k (by omega) (by omega)).weak fun k hk => ⟨hk.1,by omega,hk.2.2⟩
     | 2,_ => exact (hr4'.out.keep fun k hk => hk5 k hk.2 (by omega)).weak fun k hk => ⟨by omega,by omega,by omega⟩
     | j + 3,hj => omega
    case measure => simp [toN]
   ·have rN : RdN S w (.agg #[.slice (a 9) (m 9) (c 9),.slice (a 10) (m 10) (c 10),.slice (a 11) (m 11) (c 11)]) (T 3) := hx 3 (by omega)
    obtain ⟨W3,hW3⟩ : ∃ W3,W3 = wr.alloc (.cells #[.slice (a 9) (m 9) (c 9),.slice (a 10) (m 10) (c 10),.slice (a 11) (m 11) (c 11)] 26) := ⟨_,rfl⟩
    have b3 : Below wr.heap.size wr W3 := by rw [hW3]; exact (Below.refl _ _).alloc (Nat.le_refl _) _
    have bn3 : TriV W3 wr.heap.size 26 (.slice (a 9) (m 9) (c 9)) (.slice (a 10) (m 10) (c 10)) (.slice (a 11) (m 11) (c 11)) := by rw [hW3]; exact TriV.new _ _ _ _ _
    have bx3 : StB W3 w.heap.size a1 m1 c1 := bx.below b3 bx.lt
    have hb3 := hb.trans (b3.mono hb.size)
    have hpt := zeh W3 (rN.below hb3) hf' (RdS.nil (fun _ => False) W3) (by simp) (RdL.nil Elt.ver (fun _ => False) W3) ⟨by simp,fun x hx => by simp at hx⟩
    go_upto_region 4 with (first | (refine zbj taP 3 rfl rfl rfl rfl rfl (by omega) rfl ?_) | fail)
    rw [← hW3]
    have e0 := bn3.cell0
    have e1 := bn3.cell1
    have e2 := bn3.cell2
    clear hW3
    go_wp2_with fail
    refine hpt.mono ?_
    rintro e W4 ⟨v4,n4,er,rfl,hp4,hr4,hb4⟩
    obtain ⟨rfl,rfl⟩ : er = 1 ∧ n4 = T 3 := by
     unfold zf7 at hp4
     rw [if_neg (by simp)] at hp4
     exact hp4
    clear hp4
    have bx4 := bx3.below hb4 bx3.lt
    have bz4 := (bz.below b3 bz.lt).below hb4 (bz.below b3 bz.lt).lt
    have hs3 := b3.size
    have hs4 := hb4.size
    have hxl := bx.lt
    have hzl := bz.lt
    have hA4 : ∀ j,j < 3 → RdN (fun k => w.heap.size ≤ k ∧ k < wr.heap.size ∧ w.heap.size + 2 ≤ k) W4 (.agg #[.slice (a1 (3 * j)) (m1 (3 * j)) (c1 (3 * j)),.slice (a1 (3 * j + 1)) (m1 (3 * j + 1)) (c1 (3 * j + 1)),.slice (a1 (3 * j + 2)) (m1 (3 * j + 2)) (c1 (3 * j + 2))]) (T j) := fun j hj => (hA.out j hj).keep fun k hk => (hb4.block k (by omega)).trans (b3.block k hk.2.1)
    have hW4 : W3.heap.size ≤ W4.heap.size := hb4.size
    replace hA4 := Lib.hid hA4
    obtain ⟨f0,g0,f1,g1,f2,g2,rfl,_,_,_⟩ := id hr4
    have hr4' := Lib.hid hr4
    clear hr4 e0 e1 e2
    have hbb := hb3.trans (hb4.mono hb3.size)
    go_wp2_with (first | (refine zb9 taP 3 rfl rfl rfl rfl rfl (by omega) ?_) | (refine za7 (us := [.slice f0 (T 3).keys.length g0,.slice f1 (T 3).chains.length g1,.slice f2 (T 3).kids.length g2]) (by kernel_rfl) rfl rfl rfl rfl rfl rfl bx4 (by show _ ≤ 12; simp) (fun W5 hg5 bx5 => ?_)) | fail)
    go_roundw
    case rel =>
     have hb5 : Below w.heap.size W4 W5 := ⟨hg5.os,hg5.tape,hg5.output,hg5.size,fun k hk => hg5.block k (by omega) (fun e => by injection e with e; omega)⟩
     have hk5 : ∀ k,k < W4.heap.size → k ≠ w.heap.size → W5.heap[k]? = W4.heap[k]? := fun k h1 h2 => hg5.block k h1 (fun e => h2 (by injection e))
     have hs5 := hg5.size
     refine ⟨4,fun j => if j = 9 then f0 else if j = 10 then f1 else if j = 11 then f2 else a1 j,fun j => if j = 9 then (T 3).keys.length else if j = 10 then (T 3).chains.length else if j = 11 then (T 3).kids.length else m1 j,fun j => if j = 9 then g0 else if j = 10 then g1 else if j = 11 then g2 else c1 j,by go_num,by omega,hbb.trans hb5,bx5,bz4.other hg5 (fun e => by injection e with e; omega),fun j hj => ?_⟩
     match j,hj with
     | 0,_ => exact ((hA4.out 0 (by omega)).keep fun k hk => hk5 k (by omega) (by omega)).weak fun k hk => ⟨hk.1,by omega,hk.2.2⟩
     | 1,_ => exact ((hA4.out 1 (by omega)).keep fun k hk => hk5 k (by omega) (by omega)).weak fun k hk => ⟨hk.1,by omega,hk.2.2⟩
     | 2,_ => exact ((hA4.out 2 (by omega)).keep fun k hk => hk5 k (by omega) (by omega)).weak fun k hk => ⟨hk.1,by omega,hk.2.2⟩
     | 3,_ => exact (hr4'.out.keep fun k hk => hk5 k hk.2 (by omega)).weak fun k hk => ⟨by omega,by omega,by omega⟩
     | j + 4,hj => omega
    case measure => simp [toN]
  ·obtain rfl : i = 4 := by omega
   have hs := hb.size
   have d0 := bx.cell (i := 0) rfl
   have d1 := bx.cell (i := 1) rfl
   have d2 := bx.cell (i := 2) rfl
   have d3 := bx.cell (i := 3) rfl
   have d4 := bx.cell (i := 4) rfl
   have d5 := bx.cell (i := 5) rfl
   have d6 := bx.cell (i := 6) rfl
   have d7 := bx.cell (i := 7) rfl
   have d8 := bx.cell (i := 8) rfl
   have d9 := bx.cell (i := 9) rfl
   have d10 := bx.cell (i := 10) rfl
   have d11 := bx.cell (i := 11) rfl
   go_wp2_with (first | (refine za7 (us := [.slice (a1 0) (m1 0) (c1 0),.slice (a1 1) (m1 1) (c1 1),.slice (a1 2) (m1 2) (c1 2),.slice (a1 3) (m1 3) (c1 3),.slice (a1 4) (m1 4) (c1 4),.slice (a1 5) (m1 5) (c1 5),.slice (a1 6) (m1 6) (c1 6),.slice (a1 7) (m1 7) (c1 7),.slice (a1 8) (m1 8) (c1 8),.slice (a1 9) (m1 9) (c1 9),.slice (a1 10) (m1 10) (c1 10),.slice (a1 11) (m1 11) (c1 11)]) (by kernel_rfl) rfl rfl rfl rfl rfl rfl bz (by show _ ≤ 12; simp) (fun W5 hg5 bx5 => ?_)) | fail)
   have hb5 : Below w.heap.size wr W5 := ⟨hg5.os,hg5.tape,hg5.output,hg5.size,fun k hk => hg5.block k (by omega) (fun e => by injection e with e; omega)⟩
   have bx6 : StB W5 (w.heap.size + 1) a1 m1 c1 := bx5
   have hb6 := hb.trans hb5
   clear bx5 bx bn
   clear d0
   clear d1
   clear d2
   clear d3
   clear d4
   clear d5
   clear d6
   clear d7
   clear d8
   clear d9
   clear d10
   clear d11
   have d0 := bx6.cell (i := 0) rfl
   have d1 := bx6.cell (i := 1) rfl
   have d2 := bx6.cell (i := 2) rfl
   have d3 := bx6.cell (i := 3) rfl
   have d4 := bx6.cell (i := 4) rfl
   have d5 := bx6.cell (i := 5) rfl
   have d6 := bx6.cell (i := 6) rfl
   have d7 := bx6.cell (i := 7) rfl
   have d8 := bx6.cell (i := 8) rfl
   have d9 := bx6.cell (i := 9) rfl
   have d10 := bx6.cell (i := 10) rfl
   have d11 := bx6.cell (i := 11) rfl
   refine bodyPost_ret (v := .agg #[.slice (a1 0) (m1 0) (c1 0),.slice (a1 1) (m1 1) (c1 1),.slice (a1 2) (m1 2) (c1 2),.slice (a1 3) (m1 3) (c1 3),.slice (a1 4) (m1 4) (c1 4),.slice (a1 5) (m1 5) (c1 5),.slice (a1 6) (m1 6) (c1 6),.slice (a1 7) (m1 7) (c1 7),.slice (a1 8) (m1 8) (c1 8),.slice (a1 9) (m1 9) (c1 9),.slice (a1 10) (m1 10) (c1 10),.slice (a1 11) (m1 11) (c1 11)]) (by simp [results,Tryz.results47,go_sem,loadVar,isAgg,run_underlying Tryz.underlying29,zab (show (Tryz.prog.info? 29).map (·.size) = some 12 by kernel_rfl),loadCellsFrom,Addr.add,d0,d1,d2,d3,d4,d5,d6,d7,d8,d9,d10,d11]) rfl ?_
   refine ⟨_,rfl,⟨a1,m1,c1,rfl,fun j hj => ?_⟩,hb6⟩
   exact ((hA.out j hj).keep fun k hk => hg5.block k hk.2.1 (fun e => by injection e with e; have := hk.2.2; omega)).weak fun k hk => ⟨hk.1,Nat.lt_of_lt_of_le hk.2.1 hg5.size⟩
def zdt(T:Sto)(t:Int):Nd:=if 0≤t∧t<4∧okS T then T t.toNat else .mk [] [] []
theorem zce:StP Tryz.prog 26 3:=StP.of (by kernel_rfl)
theorem zhs (S:Nat→Prop) (w:World):RdN S w (.agg #[.slice none 0 0,.slice none 0 0,.slice none 0 0]) (.mk [] [] []):=⟨none,0,none,0,none,0,rfl,RdL.nil _ _ _,RdL.nil _ _ _,RdL.nil _ _ _⟩
theorem zjy:prN (.mk [] [] [])=[]:=by
 unfold prN
 split<;>rfl
theorem zrm : fitN (.mk [] [] []) := ⟨by decide,(zfb _).2 ⟨fun _ h => (by cases h),fun _ h => (by cases h),fun _ h => (by cases h)⟩⟩
theorem zjz (T:Sto) (t:Int):prN (zdt T t)=zdo T t:=by
 unfold zdt zdo
 split
 ·rfl
 ·exact zjy
theorem zfx {T:Sto} (hf:fitS T) (t:Int):fitN (zdt T t):=by
 unfold zdt
 split
 ·exact hf _ (by omega)
 ·exact zrm
def NdIs(S:Nat→Prop)(w:World)(n:Nd)(e:Ending)(w':World):Prop:=∃ u,e=.returned u∧RdN S w' u n∧Below w.heap.size w w'
theorem zge (w : World) {S : Nat → Prop} {v : Value} {T : Sto} {t : Int} (hr : RdSt S w v T) (hf : fitS T) : Calls Tryz.prog 32 #[v,.int .i64 t] w (NdIs S w (zdt T t)) := by
 have hr0 := hr
 obtain ⟨a,m,c,rfl,hx⟩ := hr
 obtain ⟨W,hW⟩ : ∃ W,W = (w.alloc (.cells #[.slice (a 0) (m 0) (c 0),.slice (a 1) (m 1) (c 1),.slice (a 2) (m 2) (c 2),.slice (a 3) (m 3) (c 3),.slice (a 4) (m 4) (c 4),.slice (a 5) (m 5) (c 5),.slice (a 6) (m 6) (c 6),.slice (a 7) (m 7) (c 7),.slice (a 8) (m 8) (c 8),.slice (a 9) (m 9) (c 9),.slice (a 10) (m 10) (c 10),.slice (a 11) (m 11) (c 11)] 29)).alloc (.cells #[.slice none 0 0,.slice none 0 0,.slice none 0 0] 26) := ⟨_,rfl⟩
 have q : Below w.heap.size w W := by rw [hW]; exact ((Below.refl _ _).alloc (Nat.le_refl _) _).alloc (by simp) _
 have bn : StB W w.heap.size a m c := by rw [hW]; exact (BoxN.new _ _ (bxS a m c)).below ((Below.refl _ _).alloc (Nat.le_refl _) _) (by simp)
 have bz : TriV W (w.heap.size + 1) 26 (.slice none 0 0) (.slice none 0 0) (.slice none 0 0) := by
  rw [hW]
  have := TriV.new (w.alloc (.cells #[.slice (a 0) (m 0) (c 0),.slice (a 1) (m 1) (c 1),.slice (a 2) (m 2) (c 2),.slice (a 3) (m 3) (c 3),.slice (a 4) (m 4) (c 4),.slice (a 5) (m 5) (c 5),.slice (a 6) (m 6) (c 6),.slice (a 7) (m 7) (c 7),.slice (a 8) (m 8) (c 8),.slice (a 9) (m 9) (c 9),.slice (a 10) (m 10) (c 10),.slice (a 11) (m 11) (c 11)] 29)) 26 (.slice none 0 0) (.slice none 0 0) (.slice none 0 0)
  rwa [World.size_alloc] at this
 go_enter Tryz.func32,Tryz.ntmps32
 go_upto_region 1 with (fail)
 rw [← hW]
 clear hW
 have hkn := zlq W t
 by_cases hk : 0 ≤ t ∧ t < 4
 ·rw [decide_eq_true hk.1,decide_eq_true hk.2] at hkn
  have hch := zcx W (hr0.below q) hf
  have d0 := bn.cell (i := 0) rfl
  have d1 := bn.cell (i := 1) rfl
  have d2 := bn.cell (i := 2) rfl
  have d3 := bn.cell (i := 3) rfl
  have d4 := bn.cell (i := 4) rfl
  have d5 := bn.cell (i := 5) rfl
  have d6 := bn.cell (i := 6) rfl
  have d7 := bn.cell (i := 7) rfl
  have d8 := bn.cell (i := 8) rfl
  have d9 := bn.cell (i := 9) rfl
  have d10 := bn.cell (i := 10) rfl
  have d11 := bn.cell (i := 11) rfl
  go_wp2_with fail
  refine hkn.mono ?_
  rintro e _ ⟨rfl,rfl⟩
  by_cases hok : okS T
  ·rw [decide_eq_true hok] at hch
   have H := Lib.hid (show zdt T t = T t.toNat from by unfold zdt; rw [if_pos ⟨hk.1,hk.2,hok⟩])
   clear hok
   go_wp2_with fail
   refine hch.mono ?_
   rintro e W4 ⟨rfl,hc4⟩
   have bn4 : StB W4 w.heap.size a m c := bn.below hc4 bn.lt
   have bz4 := bz.below hc4 bz.lt
   have hb4 := q.trans (hc4.mono q.size)
   clear d0 d1 d2 d3 d4 d5 d6 d7 d8 d9 d10 d11
   have d0 := bn4.cell (i := 0) rfl
   have d1 := bn4.cell (i := 1) rfl
   have d2 := bn4.cell (i := 2) rfl
   have d3 := bn4.cell (i := 3) rfl
   have d4 := bn4.cell (i := 4) rfl
   have d5 := bn4.cell (i := 5) rfl
   have d6 := bn4.cell (i := 6) rfl
   have d7 := bn4.cell (i := 7) rfl
   have d8 := bn4.cell (i := 8) rfl
   have d9 := bn4.cell (i := 9) rfl
   have d10 := bn4.cell (i := 10) rfl
   have d11 := bn4.cell (i := 11) rfl
   obtain ⟨h1,h2⟩ := hk
   rcases (show t = 0 ∨ t = 1 ∨ t = 2 ∨ t = 3 by omega) with rfl | rfl | rfl | rfl
   ·have rN : RdN S w (.agg #[.slice (a 0) (m 0) (c 0),.slice (a 1) (m 1) (c 1),.slice (a 2) (m 2) (c 2)]) (T 0) := hx 0 (by omega)
    go_wp2_with (first | (refine za4 (by kernel_rfl) rfl rfl rfl rfl rfl rfl rfl rfl bz4 (fun W5 hg5 bz5 => ?_)) | fail)
    have hb5 : Below w.heap.size w W5 := hb4.trans ⟨hg5.os,hg5.tape,hg5.output,hg5.size,fun k hk => hg5.block k (by have := hb4.size; omega) (fun e => by injection e with e; omega)⟩
    have g0 := bz5.cell0
    have g1 := bz5.cell1
    have g2 := bz5.cell2
    obtain ⟨fs,hu,_,_⟩ := zce.hu
    refine bodyPost_ret (v := .agg #[.slice (a 0) (m 0) (c 0),.slice (a 1) (m 1) (c 1),.slice (a 2) (m 2) (c 2)]) (by simp [results,Tryz.results32,go_sem,loadVar,isAgg,run_underlying hu,zab zce.hs,loadCellsFrom,Addr.add,g0,g1,g2]) rfl ?_
    refine ⟨_,rfl,?_,hb5⟩
    rw [H.out]
    exact rN.below hb5
   ·have rN : RdN S w (.agg #[.slice (a 3) (m 3) (c 3),.slice (a 4) (m 4) (c 4),.slice (a 5) (m 5) (c 5)]) (T 1) := hx 1 (by omega)
    go_wp2_with (first | (refine za4 (by kernel_rfl) rfl rfl rfl rfl rfl rfl rfl rfl bz4 (fun W5 hg5 bz5 => ?_)) | fail)
    have hb5 : Below w.heap.size w W5 := hb4.trans ⟨hg5.os,hg5.tape,hg5.output,hg5.size,fun k hk => hg5.block k (by have := hb4.size; omega) (fun e => by injection e with e; omega)⟩
    have g0 := bz5.cell0
    have g1 := bz5.cell1
    have g2 := bz5.cell2
    obtain ⟨fs,hu,_,_⟩ := zce.hu
    refine bodyPost_ret (v := .agg #[.slice (a 3) (m 3) (c 3),.slice (a 4) (m 4) (c 4),.slice (a 5) (m 5) (c 5)]) (by simp [results,Tryz.results32,go_sem,loadVar,isAgg,run_underlying hu,zab zce.hs,loadCellsFrom,Addr.add,g0,g1,g2]) rfl ?_
    refine ⟨_,rfl,?_,hb5⟩
    rw [H.out]
    exact rN.below hb5
   ·have rN : RdN S w (.agg #[.slice (a 6) (m 6) (c 6),.slice (a 7) (m 7) (c 7),.slice (a 8) (m 8) (c 8)]) (T 2) := hx 2 (by omega)
    go_wp2_with (first | (refine za4 (by kernel_rfl) rfl rfl rfl rfl rfl rfl rfl rfl bz4 (fun W5 hg5 bz5 => ?_)) | fail)
    have hb5 : Below w.heap.size w W5 := hb4.trans ⟨hg5.os,hg5.tape,hg5.output,hg5.size,fun k hk => hg5.block k (by have := hb4.size; omega) (fun e => by injection e with e; omega)⟩
    have g0 := bz5.cell0
    have g1 := bz5.cell1
    have g2 := bz5.cell2
    obtain ⟨fs,hu,_,_⟩ := zce.hu
    refine bodyPost_ret (v := .agg #[.slice (a 6) (m 6) (c 6),.slice (a 7) (m 7) (c 7),.slice (a 8) (m 8) (c 8)]) (by simp [results,Tryz.results32,go_sem,loadVar,isAgg,run_underlying hu,zab zce.hs,loadCellsFrom,Addr.add,g0,g1,g2]) rfl ?_
    refine ⟨_,rfl,?_,hb5⟩
    rw [H.out]
    exact rN.below hb5
   ·have rN : RdN S w (.agg #[.slice (a 9) (m 9) (c 9),.slice (a 10) (m 10) (c 10),.slice (a 11) (m 11) (c 11)]) (T 3) := hx 3 (by omega)
    go_wp2_with (first | (refine za4 (by kernel_rfl) rfl rfl rfl rfl rfl rfl rfl rfl bz4 (fun W5 hg5 bz5 => ?_)) | fail)
    have hb5 : Below w.heap.size w W5 := hb4.trans ⟨hg5.os,hg5.tape,hg5.output,hg5.size,fun k hk => hg5.block k (by have := hb4.size; omega) (fun e => by injection e with e; omega)⟩
    have g0 := bz5.cell0
    have g1 := bz5.cell1
    have g2 := bz5.cell2
    obtain ⟨fs,hu,_,_⟩ := zce.hu
    refine bodyPost_ret (v := .agg #[.slice (a 9) (m 9) (c 9),.slice (a 10) (m 10) (c 10),.slice (a 11) (m 11) (c 11)]) (by simp [results,Tryz.results32,go_sem,loadVar,isAgg,run_underlying hu,zab zce.hs,loadCellsFrom,Addr.add,g0,g1,g2]) rfl ?_
    refine ⟨_,rfl,?_,hb5⟩
    rw [H.out]
    exact rN.below hb5
  ·rw [decide_eq_false hok] at hch
   have H := Lib.hid (show zdt T t = .mk [] [] [] from by unfold zdt; rw [if_neg (fun h => hok h.2.2)])
   clear hok
   go_wp2_with fail
   refine hch.mono ?_
   rintro e W4 ⟨rfl,hc4⟩
   have bz4 := bz.below hc4 bz.lt
   have hb4 := q.trans (hc4.mono q.size)
   go_wp2_with (first | (refine za4 (by kernel_rfl) rfl rfl rfl rfl rfl rfl rfl rfl bz4 (fun W5 hg5 bz5 => ?_)) | fail)
   have hb5 : Below w.heap.size w W5 := hb4.trans ⟨hg5.os,hg5.tape,hg5.output,hg5.size,fun k hk => hg5.block k (by have := hb4.size; omega) (fun e => by injection e with e; omega)⟩
   have g0 := bz5.cell0
   have g1 := bz5.cell1
   have g2 := bz5.cell2
   obtain ⟨fs,hu,_,_⟩ := zce.hu
   refine bodyPost_ret (v := .agg #[.slice none 0 0,.slice none 0 0,.slice none 0 0]) (by simp [results,Tryz.results32,go_sem,loadVar,isAgg,run_underlying hu,zab zce.hs,loadCellsFrom,Addr.add,g0,g1,g2]) rfl ?_
   refine ⟨_,rfl,?_,hb5⟩
   rw [H.out]
   exact zhs _ _
 ·have hn : (decide (0 ≤ t) && decide (t < 4)) = false := by
   rcases Classical.em (0 ≤ t) with h | h
   ·rw [decide_eq_true h,decide_eq_false (fun h2 => hk ⟨h,h2⟩)]; rfl
   ·rw [decide_eq_false h]; rfl
  rw [hn] at hkn
  have H := Lib.hid (show zdt T t = .mk [] [] [] from by unfold zdt; rw [if_neg (fun h => hk ⟨h.1,h.2.1⟩)])
  clear hk hn
  go_wp2_with fail
  refine hkn.mono ?_
  rintro e _ ⟨rfl,rfl⟩
  go_wp2_with (first | (refine za4 (by kernel_rfl) rfl rfl rfl rfl rfl rfl rfl rfl bz (fun W5 hg5 bz5 => ?_)) | fail)
  have hb5 : Below w.heap.size w W5 := q.trans ⟨hg5.os,hg5.tape,hg5.output,hg5.size,fun k hk => hg5.block k (by have := q.size; omega) (fun e => by injection e with e; omega)⟩
  have g0 := bz5.cell0
  have g1 := bz5.cell1
  have g2 := bz5.cell2
  obtain ⟨fs,hu,_,_⟩ := zce.hu
  refine bodyPost_ret (v := .agg #[.slice none 0 0,.slice none 0 0,.slice none 0 0]) (by simp [results,Tryz.results32,go_sem,loadVar,isAgg,run_underlying hu,zab zce.hs,loadCellsFrom,Addr.add,g0,g1,g2]) rfl ?_
  refine ⟨_,rfl,?_,hb5⟩
  rw [H.out]
  exact zhs _ _
theorem zib : ∀ (d : Nat) {n : Nd} {lo hi : Nat},Wf d lo hi n → bndN n → ∀ p ∈ zaa n,zbq p.chain
 | 0,_,_,_,h,_ => h.elim
 | d + 1,n,_,_,h,hb => by
  obtain ⟨_,h2,h3⟩ := (zfb n).1 hb
  have hs := h.shape
  obtain ⟨hc,_,_,hk⟩ := h
  refine (zez hc hs.2).2 ⟨fun p hp => ?_,fun m hm => ?_⟩
  ·obtain ⟨i,hi,rfl⟩ := List.mem_iff_getElem.1 hp
   have hi' : i < n.keys.length := by rw [zbd hc] at hi; exact hi
   have e := zdp hc hi'
   rw [List.getElem?_eq_getElem hi] at e
   rw [Option.some.inj e]
   exact h2 _ (List.getElem_mem _)
  ·rcases hk with ⟨_,h0⟩ | ⟨_,_,h4⟩
   ·rw [h0] at hm; cases hm
   ·exact zib d (h4 m hm) (h3 m hm)
theorem zfq (w:World) {S S2:Nat→Prop} {v:Value} {n:Nd} {a:Option Addr} {m c:Nat} {k:List UInt8} (hr:RdN S w v n) (hf:fitN n) (hk:RdS S2 w (.slice a m c) k) :
  Calls Tryz.prog 31 #[v,.slice a m c] w (zkj w (zaw (prN n) k)):=by
 have hr0:=hr
 obtain⟨a1,c1,a2,c2,a3,c3,rfl,_,_,_⟩:=hr
 have q:Below w.heap.size w (w.alloc (.cells #[.slice a1 n.keys.length c1,.slice a2 n.chains.length c2,.slice a3 n.kids.length c3] 26)):=(Below.refl _ _).alloc (Nat.le_refl _) _
 have bn:=TriV.new w 26 (.slice a1 n.keys.length c1) (.slice a2 n.chains.length c2) (.slice a3 n.kids.length c3)
 obtain⟨W,hW⟩:∃ W,W=w.alloc (.cells #[.slice a1 n.keys.length c1,.slice a2 n.chains.length c2,.slice a3 n.kids.length c3] 26):=⟨_,rfl⟩
 rw [← hW] at q bn
 have hwn:wN n≤1000000:=by have:=hf.1;omega
 have hch:=zci W (hr0.below q) hwn
 have tn0:=bn.cell0
 have tn1:=bn.cell1
 have tn2:=bn.cell2
 by_cases hok:okN n
 ·obtain⟨d,hpn⟩:=zqz hok
  rw [decide_eq_true hok] at hch
  have hfd:=fun (W':World) (hb:Below W.heap.size W W')=>zog W' ((hr0.below q).below hb) hpn ((hk.below q).below hb)
  have hsm:zbq ((zaw (zaa n) k).getD []):=by
   cases hfp:zaw (zaa n) k with
   | none=>exact⟨by simp,fun x hx=>by simp at hx⟩
   | some l =>
    obtain⟨p,hp,_,rfl⟩:=zdf hfp
    exact zib d hpn.wf hf.2 p hp
  have hpr:prN n=zaa n:=by unfold prN;rw [if_pos hok]
  rw [hpr]
  generalize zaw (zaa n) k=fo at hfd hsm ⊢
  replace hpr:=Lib.hid hpr
  clear hr0
  go_enter Tryz.func31,Tryz.ntmps31
  go_upto_region 1 with (fail)
  rw [← hW]
  clear hW
  go_wp2_with fail
  refine hch.mono ?_
  rintro e W1⟨rfl,hb1⟩
  have bn1:=bn.below hb1 bn.lt
  have hf1:=hfd W1 hb1
  clear tn0 tn1 tn2 hch hfd
  have tn0:=bn1.cell0
  have tn1:=bn1.cell1
  have tn2:=bn1.cell2
  go_wp2_with fail
  refine hf1.mono ?_
  rintro e W2⟨⟨ga,gc,rfl,hrl⟩,hb2⟩
  have hve:=zew W2 (hrl.below hb2) hsm
  clear tn0 tn1 tn2 hf1 bn1
  go_wp2_with fail
  refine hve.mono ?_
  rintro e W3⟨va,vc,rfl,hnew,hb3⟩
  have q2:=(q.trans (hb1.mono q.size)).trans (hb2.mono (q.trans (hb1.mono q.size)).size)
  go_wp2_with fail
  go_ret2
  exact⟨va,vc,rfl,hnew.weak fun g hg=>⟨Nat.le_trans q2.size hg.1,hg.2⟩,q2.trans (hb3.mono q2.size)⟩
 ·rw [decide_eq_false hok] at hch
  have hpr:zaw (prN n) k=none:=by unfold prN;rw [if_neg hok];rfl
  rw [hpr]
  replace hpr:=Lib.hid hpr
  go_enter Tryz.func31,Tryz.ntmps31
  go_upto_region 1 with (fail)
  rw [← hW]
  clear hW
  go_wp2_with fail
  refine hch.mono ?_
  rintro e W1⟨rfl,hb1⟩
  go_wp2_with fail
  go_ret2
  exact⟨none,0,rfl,RdL.nil _ _ _,q.trans (hb1.mono q.size)⟩
section
variable {P : Program} {t : TypeId} {ops : Array Oper} {rest : List Oper} {o : Oper} {a : Act} {Q : Exit → Act → World → Prop} {w : World} {l n : Nat}
theorem zgy {vs us : List Value} {x y : Operand} {b : Nat} (hs : (P.info? t).map (·.size) = some us.length) (ho : o.op = .store t x y) (hd : o.dst = none) (hgd : Region.wanted o (yielded ops a.tmps) = true) (hx : a.eval x = .pointer (some ⟨b,0,none⟩)) (hy : a.eval y = .agg us.toArray) (h1 : us.all (·.oneCell') = true) (hb : BoxN w b t vs) (hl : vs.length = us.length)
  (h : ∀ w',w.grownBy w' (some b) → BoxN w' b t us → wpListIn (Fence.wide.inRound l) n P ops Q rest a w') : wpListIn (Fence.wide.inRound l) n P ops Q (o :: rest) a w :=
 BigFrame.wpListIn_want hgd fun K hK => zme (K := K) (by rw [ho]; intro c h; cases h) (fun _ _ h => h) (zhb hs ho hx hy h1 hb hl fun w' h3 h4 => hK _ _ (by rw [hd]; exact h w' h3 h4))
end
def zl9 {ι α:Type} (P:Program) (g:Nat) (lb:Array Value) (encs:α→Array Value) (Kp:ι→World→World→Prop) (Gd:ι→α→World→Prop) (S Sp:List α→Prop) (N:Nat) (w:World):Prop :=
 ∀ (l:Nat) (J Jx:ι→List α→World→Prop) (W:World),Below w.heap.size w W→(∀ i,AbidesFrom W.heap.size (J i))→(∀ i,AbidesFrom W.heap.size (Jx i)) →
  (∀ i pre x W1,J i pre W1→Gd i x W1→pre.length<N→YieldAt Fence.wide 1 P l (encs x) W1 fun e W'=>(e=.returned (.bool true)∧J i (pre++[x]) W'∧Kp i W1 W')∨(e=.returned (.bool false)∧Jx i (pre++[x]) W')) →
  (∀ i,J i [] W)→CallsIn Fence.wide 2 P g (#[.func (.yield l) #[] #[]]++lb) W fun e W'=>(∃ v,e=.returned v)∧∃ i,((∃ xs,S xs∧J i xs W')∨(∃ pre,Sp pre∧Jx i pre W'))
section
variable {P : Program} {ι α : Type} {ps : Array Tmp} {assign body : Code}
def Bk (K:Nat) (r:Loop) (W:World):Prop:=W.heap[K+1]?=some (.loop r)∧W.heap[K]?=some (.deferred (some []))
theorem Bk.keeps {K:Nat} {r:Loop} {W W':World} (h:Bk K r W) (hk:KeepsFrom K W W'):Bk K r W':=⟨hk.same _ _ (by omega) h.1 rfl,hk.same _ _ (Nat.le_refl _) h.2 rfl⟩
theorem Bk.put {K:Nat} {r r':Loop} {W:World} (h:Bk K r W):Bk K r' (W.putObj (K+1) (.loop r')):=⟨World.putObj_heap_same (Array.getElem?_eq_some_iff.1 h.1).1,(World.putObj_heap_other (by omega)).trans h.2⟩
theorem Bk.grown {K:Nat} {r:Loop} {W W':World} {row:Option Nat}(h:Bk K r W)(hg:W.grownBy W' row)(hr:∀ k,row=some k→∃ o:Obj,W.heap[k]?=some o∧o.isWalk=true):Bk K r W' :=
 ⟨(grownBy_keeps hg hr h.1 rfl).trans h.1,(grownBy_keeps hg hr h.2 rfl).trans h.2⟩
theorem zef {g : Operand} {Q : Exit → Act → World → Prop} {a : Act} {w : World} {gf : Nat} {lb : Array Value} (hg : a.eval g = .func (.func gf) #[] lb) (eg : ∀ args w,(callFunc gf args).run P w = .ok (.enter gf args) w)
  {encs : α → Array Value} {Kp : ι → World → World → Prop} {Gd : ι → α → World → Prop} {S Sp : List α → Prop} {N : Nat} {w0 : World} (hseq : zl9 P gf lb encs Kp Gd S Sp N w0)
  (hKt : ∀ {i : ι} {A B C : World},Kp i A B → Kp i B C → Kp i A C) (hKb : ∀ (i : ι) (W : World) (l : Nat) (o o' : Obj),w.heap.size ≤ l → W.heap[l]? = some o → o.isCells = false → o.isWalk = false → Kp i W (W.putObj l o')) (hb0 : Below w0.heap.size w0 w) (hps : ∀ x,(encs x).size = ps.size)
  (I : ι → List α → World → Prop) (Ix : ι → Code → List α → World → Prop) (hI : ∀ i,OwnFrom w.heap.size (I i)) (hIx : ∀ i c,OwnFrom w.heap.size (Ix i c)) (h0 : ∀ i,I i [] w) (Ax : ι → α → Act → World → Prop) (hAx : ∀ i x a',OwnFrom w.heap.size (fun (_ : Unit) W => Ax i x a' W))
  (hassign : ∀ (i : ι) (l : Nat) (pre : List α) (x : α) (W : World) (K : Act → World → Prop),I i pre W → Gd i x W → (∀ a' W',KeepsFrom w.heap.size W W' → Kp i W W' → I i pre W' → Ax i x a' W' → K a' W') →
   assign.wpIn (Fence.wide.inRound l) 1 P (Exit.then K (fun _ _ _ => False)) { tmps := (ps.zip (encs x)).foldl (fun t (p,v) => t.setIfInBounds p v) a.tmps,defers := [] } W)
  (hbody : ∀ (i : ι) (l : Nat) (pre : List α) (x : α) (a' : Act) (W : World),I i pre W → Ax i x a' W → pre.length < N → body.wpIn (Fence.wide.inRound l) 1 P (ownPostG w.heap.size (Kp i) (I i) (Ix i) (pre ++ [x]) W) a' W)
  (hdone : ∀ (i : ι) (D : Nat) (xs : List α) (W : World),w.heap.size ≤ D → S xs → I i xs W → W.heap[D]? = some (.deferred (some [])) → Q .normal { a with defers := { target := .collected D,args := #[] } :: a.defers } W)
  (hstop : ∀ (i : ι) (D : Nat) (c : Code) (pre : List α) (W : World),w.heap.size ≤ D → Sp pre → Ix i c pre W → W.heap[D]? = some (.deferred (some [])) → c.wp P Q { a with defers := { target := .collected D,args := #[] } :: a.defers } W) :
  (Code.rangeFunc g ps assign body).wp P Q a w := by
 refine (wpIn_wide (n := 3)).1 (wpIn_rangeFunc fun fn hfn => ?_)
 rw [show Fence.wide.round = none from rfl]
 obtain ⟨rec,hrec⟩ : ∃ rec : LoopState → Option Code → Loop,∀ st pe,rec st pe = { state := st,pending := pe,fn,tmps := a.tmps,params := ps,assign,body,defers := w.heap.size } := ⟨_,fun _ _ => rfl⟩
 obtain ⟨W1,hW1⟩ : ∃ W1,W1 = (w.alloc (.deferred (some []))).alloc (.loop (rec .ready none)) := ⟨_,rfl⟩
 have bk1 : Bk w.heap.size (rec .ready none) W1 := by
  rw [hW1]
  constructor
  ·have := World.alloc_heap_new (w.alloc (.deferred (some []))) (.loop (rec .ready none))
   rwa [World.size_alloc] at this
  ·exact (Below.heap_alloc _ _ _ (by simp)).trans (World.alloc_heap_new w _)
 have i1 : ∀ i,I i [] W1 := fun i => by rw [hW1]; exact (hI i).alloc _ ((hI i).alloc _ (h0 i))
 have b1 : Below w0.heap.size w0 W1 := by
  rw [hW1]
  exact hb0.trans ((((Below.refl _ w).alloc (Nat.le_refl _) _).alloc (by simp) _).mono hb0.size)
 have s1 : w.heap.size ≤ W1.heap.size := by rw [hW1]; simp; omega
 refine ⟨w.heap.size + 1,[{ target := .collected w.heap.size,args := #[] }],W1,{ target := .fn (.func gf) lb,args := #[.func (.yield (w.heap.size + 1)) #[] #[]] },W1,gf,#[.func (.yield (w.heap.size + 1)) #[] #[]] ++ lb,W1,?_,?_,?_,?_,fun _ => by omega,?_⟩
 ·rw [hW1,hrec]
  exact run_enterLoop_outer _ _ _ _ _
 ·simp only [resolve,hg]
  simp [go_sem]
 ·intro f hf
  simp [Target.leads] at hf
  subst hf
  trivial
 ·simp [invoke,go_sem,eg]
 have far : ∀ {A : World} {row : Option Nat},(∀ r,row = some r → W1.heap.size ≤ r ∧ ∃ o : Obj,A.heap[r]? = some o ∧ o.isWalk = true) → ∀ r,row = some r → w.heap.size ≤ r ∧ ∃ o : Obj,A.heap[r]? = some o ∧ o.isCells = false := fun hr r e => by
  obtain ⟨h1,o,h2,h3⟩ := hr r e
  exact ⟨by omega,o,h2,Obj.not_cells_of_walk h3⟩
 refine (hseq (w.heap.size + 1) (fun i pre W => I i pre W ∧ Bk w.heap.size (rec .ready none) W) (fun i pre W => ∃ c,Ix i c pre W ∧ Bk w.heap.size (rec .done (some c)) W) W1 b1
  (fun i s A B row hs h hr => ⟨hI i s A B row hs.1 h (far hr),hs.2.grown h fun k e => (hr k e).2⟩)
  (fun i s A B row hs h hr => hs.imp fun c hc => ⟨hIx i c s A B row hc.1 h (far hr),hc.2.grown h fun k e => (hr k e).2⟩)
  ?round fun i => ⟨i1 i,bk1⟩).mono ?behind
 case behind =>
  rintro e W2 ⟨⟨v,rfl⟩,i,(⟨xs,hS,hi,bk⟩ | ⟨pre,hSp,c,hi,bk⟩)⟩
  ·have hr := run_endLoop (P := P) bk.1 (by rw [hrec]; simp)
   rw [hrec] at hr
   exact ⟨none,_,hr,hdone i _ xs _ (Nat.le_refl _) hS ((hI i).putObj _ hi (by omega) bk.1 rfl) ((World.putObj_heap_other (by omega)).trans bk.2)⟩
  ·have hr := run_endLoop (P := P) bk.1 (by rw [hrec]; simp)
   rw [hrec] at hr
   exact ⟨some c,_,hr,wpIn_wide.2 (hstop i _ c pre _ (Nat.le_refl _) hSp ((hIx i c).putObj _ hi (by omega) bk.1 rfl) ((World.putObj_heap_other (by omega)).trans bk.2))⟩
 case round =>
  rintro i pre x W ⟨hi,bk⟩ hgd hlen
  have hy := run_yield (P := P) (args := encs x) bk.1 (by rw [hrec]; exact hps x)
  rw [hrec] at hy
  refine ⟨fn,_,assign,body,hy,roundIn_of_wpIn hfn (hassign i _ pre x W _ hi hgd fun a' Wa hka hkpa hia hax => ?_)⟩
  have bka := bk.keeps hka
  refine ⟨_,run_beginRound bka.1 (by rw [hrec]),?_⟩
  have bk2 : Bk w.heap.size { rec .ready none with state := .busy } (Wa.putObj (w.heap.size + 1) (.loop { rec .ready none with state := .busy })) := bka.put
  have hw2 : Kp i Wa (Wa.putObj (w.heap.size + 1) (.loop { rec .ready none with state := .busy })) := hKb _ _ _ _ _ (by omega) bka.1 rfl rfl
  refine wpIn_mono (hbody i _ pre x a' _ ((hI i).putObj _ hia (by omega) bka.1 rfl) ((hAx i x a').putObj (s := ()) _ hax (by omega) bka.1 rfl) hlen) ?_
  have fin : ∀ (jump : Option Code) (W3 : World),KeepsFrom w.heap.size (Wa.putObj (w.heap.size + 1) (.loop { rec .ready none with state := .busy })) W3 →
    (Instr.endRound (w.heap.size + 1) jump).run P W3 = .ok (.bool jump.isNone) (W3.putObj (w.heap.size + 1) (.loop (rec (if jump.isNone then .ready else .done) jump))) ∧ W3.heap[w.heap.size + 1]? = some (.loop { rec .ready none with state := .busy }) ∧
    Bk w.heap.size (rec (if jump.isNone then .ready else .done) jump) (W3.putObj (w.heap.size + 1) (.loop (rec (if jump.isNone then .ready else .done) jump))) := fun jump W3 hk3 => by
   have bk3 := bk2.keeps hk3
   have hr := run_endRound (P := P) jump bk3.1
   refine ⟨?_,bk3.1,bk3.put⟩
   rw [hrec] at hr ⊢
   exact hr
  intro e a3 W3 hp
  cases e with
  | normal =>
   obtain ⟨hk3,hkp3,hi3⟩ := hp
   obtain ⟨hr,hl3,hb3⟩ := fin none W3 hk3
   exact ⟨_,_,hr,.inl ⟨rfl,⟨(hI i).putObj _ hi3 (by omega) hl3 rfl,hb3⟩,hKt hkpa (hKt (hKt hw2 hkp3) (hKb _ _ _ _ _ (by omega) hl3 rfl rfl))⟩⟩
  | ret =>
   obtain ⟨hk3,hi3⟩ := hp
   obtain ⟨hr,hl3,hb3⟩ := fin (some .ret) W3 hk3
   exact ⟨_,_,hr,.inr ⟨rfl,.ret,(hIx i _).putObj _ hi3 (by omega) hl3 rfl,hb3⟩⟩
  | exit id =>
   obtain ⟨hk3,hi3⟩ := hp
   obtain ⟨hr,hl3,hb3⟩ := fin (some (.exit id)) W3 hk3
   exact ⟨_,_,hr,.inr ⟨rfl,.exit id,(hIx i _).putObj _ hi3 (by omega) hl3 rfl,hb3⟩⟩
  | goto t =>
   obtain ⟨hk3,hi3⟩ := hp
   obtain ⟨hr,hl3,hb3⟩ := fin (some (.goto t)) W3 hk3
   exact ⟨_,_,hr,.inr ⟨rfl,.goto t,(hIx i _).putObj _ hi3 (by omega) hl3 rfl,hb3⟩⟩
  | panic ch => exact hp.elim
  | outgrown => exact hp.elim
end
theorem zrx (a b:List UInt8):decide (0≤Lib.compareBytes a b)=!ltB a b:=by
 have h1:=zi4 a b
 cases h:ltB a b with
 | true =>
  rw [h] at h1
  have:=of_decide_eq_true h1
  exact decide_eq_false (by omega)
 | false =>
  rw [h] at h1
  have:=of_decide_eq_false h1
  exact decide_eq_true (by omega)
theorem sIn_any (w:World) {S S2:Nat→Prop} {v:Value} {x:Sp} {A:Option Addr} {n C:Nat} {k:List UInt8} (h:RdSp S w v x) (hk:RdS S2 w (.slice A n C) k) :
  Calls Tryz.prog 61 #[.slice A n C,v] w fun e w'=>e=.returned (.bool (inS x k))∧Below w.heap.size w w':=by
 obtain⟨a1,a2,a3,a4,rfl,hl,hh,ht⟩:=h
 obtain rfl:=hk.len.1
 obtain⟨W,hW⟩:∃ W,W=w.alloc (.cells #[.int .i64 x.table,.slice a1 x.lo.length a2,.slice a3 x.hi.length a4,.bool x.isOpen] 32):=⟨_,rfl⟩
 have q:Below w.heap.size w W:=by rw [hW];exact (Below.refl _ _).alloc (Nat.le_refl _) _
 have Bx:BoxN W w.heap.size 32 [.int .i64 x.table,.slice a1 x.lo.length a2,.slice a3 x.hi.length a4,.bool x.isOpen]:=by rw [hW];exact BoxN.new _ _ _
 go_enter Tryz.func61,Tryz.ntmps61
 go_upto_region 1 with (fail)
 rw [← hW]
 clear hW
 have cx1:=Bx.cell (i:=1) rfl
 have cx2:=Bx.cell (i:=2) rfl
 have cx3:=Bx.cell (i:=3) rfl
 have rlx:=hl.below q
 have rhx:=hh.below q
 have rk:=hk.below q
 cases h_kl:ltB k x.lo with
 | true =>
  have dkl:decide (0≤Lib.compareBytes k x.lo)=false:=by rw [zrx,h_kl];rfl
  have H:=Lib.hid (show inS x k=false from by unfold inS;simp [h_kl])
  clear h_kl
  go_wp2_with fail
  refine (zbw _ rk rlx).mono ?_
  rintro e _⟨rfl,rfl⟩
  go_wp2_with fail
  go_ret
  exact⟨by first | (rw [H.out];done) | (rw [H.out];rfl),q⟩
 | false =>
  have dkl:decide (0≤Lib.compareBytes k x.lo)=true:=by rw [zrx,h_kl];rfl
  cases h_op:x.isOpen with
  | true =>
   rw [h_op] at cx3
   have H:=Lib.hid (show inS x k=true from by unfold inS;simp [h_kl,h_op])
   clear h_kl h_op
   go_wp2_with fail
   refine (zbw _ rk rlx).mono ?_
   rintro e _⟨rfl,rfl⟩
   go_wp2_with fail
   go_ret
   exact⟨by first | (rw [H.out];done) | (rw [H.out];rfl),q⟩
  | false =>
   rw [h_op] at cx3
   cases h_kh:ltB k x.hi with
   | true =>
    have dkh:decide (Lib.compareBytes k x.hi<0)=true:=(zi4 _ _).trans h_kh
    have H:=Lib.hid (show inS x k=true from by unfold inS;simp [h_kl,h_op,h_kh])
    clear h_kl h_op h_kh
    go_wp2_with fail
    refine (zbw _ rk rlx).mono ?_
    rintro e _⟨rfl,rfl⟩
    go_wp2_with fail
    refine (zbw _ rk rhx).mono ?_
    rintro e _⟨rfl,rfl⟩
    go_wp2_with fail
    go_ret
    exact⟨by first | (rw [H.out];done) | (rw [H.out];rfl),q⟩
   | false =>
    have dkh:decide (Lib.compareBytes k x.hi<0)=false:=(zi4 _ _).trans h_kh
    have H:=Lib.hid (show inS x k=false from by unfold inS;simp [h_kl,h_op,h_kh])
    clear h_kl h_op h_kh
    go_wp2_with fail
    refine (zbw _ rk rlx).mono ?_
    rintro e _⟨rfl,rfl⟩
    go_wp2_with fail
    refine (zbw _ rk rhx).mono ?_
    rintro e _⟨rfl,rfl⟩
    go_wp2_with fail
    go_ret
    exact⟨by first | (rw [H.out];done) | (rw [H.out];rfl),q⟩
attribute [local go_sem] Oper.semAt_some
structure YEl where
 ad:Option Addr
 c:Nat
 t:List UInt8
 ad2:Option Addr
 c2:Nat
 l:List Ver
def YEl.enc(x:YEl):Array Value:=#[.slice x.ad x.t.length x.c,.slice x.ad2 x.l.length x.c2]
def YEl.pr(x:YEl):Pr:=⟨x.t,x.l⟩
def KpB(n₀ b hi:Nat)(A B:World):Prop:=Below n₀ A B∧∀(k:Nat)(o:Obj),k<hi→k≠b→A.heap[k]?=some o→o.isCells=true→B.heap[k]?=A.heap[k]?
theorem KpB.trans {n₀ b hi:Nat} {A B C:World} (h:KpB n₀ b hi A B) (k:KpB n₀ b hi B C):KpB n₀ b hi A C:=⟨h.1.trans k.1,fun j o h1 h2 h3 h4=>(k.2 j o h1 h2 ((h.2 j o h1 h2 h3 h4).trans h3) h4).trans (h.2 j o h1 h2 h3 h4)⟩
theorem KpB.refl(n₀ b hi:Nat)(A:World):KpB n₀ b hi A A:=⟨Below.refl _ _,fun _ _ _ _ _ _=>rfl⟩
theorem KpB.of {n₀ b hi:Nat} {A B:World} (h:Below A.heap.size A B) (hn:n₀≤A.heap.size):KpB n₀ b hi A B:=⟨h.mono hn,fun j _ _ _ h3 _=>h.block j (Array.getElem?_eq_some_iff.1 h3).1⟩
def GdW (lo hi:Nat) (x:YEl) (W:World):Prop:=RdS (fun k=>lo≤k∧k<hi∧zek W k) W (.slice x.ad x.t.length x.c) x.t∧RdL Elt.ver (fun k=>lo≤k∧k<W.heap.size) W (.slice x.ad2 x.l.length x.c2) x.l∧(lo≤hi∧hi≤W.heap.size)∧x.t.length≤16∧zbq x.l
def inP(l:List Pr)(x:Sp):List Pr:=l.filter fun p=>inS x p.key
def PreP (ps:List Pr) (ys:List YEl):Prop:=∃ r,ps=ys.map (·.pr)++r
theorem zft {n:Nd}(hf:fitN n):∀ p∈prN n,zbq p.chain:=by
 unfold prN
 split
 ·rename_i h
  obtain⟨d,hp⟩:=zqz h
  exact zib d hp.wf hf.2
 ·exact fun p hp=>by cases hp
theorem inP_snoc {l:List Pr} {x:Sp} {i:Nat} (h:i<l.length):inP (l.take (i+1)) x=inP (l.take i) x++if inS x l[i].key then [l[i]] else []:=by
 unfold inP
 rw [List.take_succ_eq_append_getElem h,List.filter_append]
 congr 1
 simp [List.filter_cons]
theorem zrc (l:List Pr) (x:Sp) (i:Nat):∃ r,inP l x=inP (l.take i) x++r:=⟨inP (l.drop i) x,by unfold inP;rw [← List.filter_append,List.take_append_drop]⟩
theorem zd5 {α : Type} {E : Elt α} (hE : zg1 E) {S : Nat → Prop} {w : World} {v : Value} {xs : List α} (h : RdL E S w v xs) : RdL E (fun k => S k ∧ zek w k) w v xs := by
 obtain ⟨a,cap,h1,h2,h3,h4⟩ := h
 by_cases h0 : xs = []
 ·exact ⟨a,cap,h1,h2,h3,.inl h0⟩
 obtain ⟨b,off,e,hb,hr⟩ := h4.resolve_left h0
 have hpos : 0 < xs.length := List.length_pos_iff.2 h0
 have hcl : zek w b := by
  obtain ⟨vs,hR,hc⟩ := hr 0 hpos
  have hl := E.len hR
  have hp := E.pos
  exact cells_of_cell (hc 0 vs[0] (List.getElem?_eq_getElem (by omega)))
 refine ⟨a,cap,h1,h2,h3,.inr ⟨b,off,e,⟨hb,hcl⟩,fun r h => ?_⟩⟩
 obtain ⟨vs,hR,hc⟩ := hr r h
 exact ⟨vs,hE _ _ _ _ hR,hc⟩
theorem zf9 (w : World) (x y z u v r s : Value) :
  Calls Tryz.prog 36 #[.agg #[x,y,z],.agg #[u,v,r,s]] w fun e w' => e = .returned (.func (.func 59) #[] #[.pointer (some ⟨w.heap.size,0,none⟩),.pointer (some ⟨w.heap.size + 1,0,none⟩)]) ∧
   w' = (w.alloc (.cells #[x,y,z] 26)).alloc (.cells #[u,v,r,s] 32) := by
 go_enter Tryz.func36,Tryz.ntmps36
 go_wp2
 go_ret
 exact ⟨rfl,rfl⟩
theorem zow (l : Nat) {w0 : World} {J Jx : Nat → List YEl → World → Prop} {n : Nd} {x : Sp} {N B b nb xb lo : Nat} {v0 v1 v2 : Value} {vx : Value} (hr : RdN (· < w0.heap.size) w0 (.agg #[v0, v1, v2]) n) (hf : fitN n) (hx : RdSp (· < w0.heap.size) w0 vx x)
    (hAb : ∀ i, AbidesFrom B (J i))
    (hY : ∀ i pre y W, J i pre W → GdW lo i y W → pre.length < N → YieldAt Fence.wide 1 Tryz.prog l y.enc W fun e W' => (e = .returned (.bool true) ∧ J i (pre ++ [y]) W' ∧ KpB w0.heap.size b i W W') ∨ (e = .returned (.bool false) ∧ Jx i (pre ++ [y]) W'))
    (W : World) (hlo : lo ≤ W.heap.size) (hW : Below w0.heap.size w0 W) (hnb : TriV W nb 26 v0 v1 v2) (us : List Value) (hvx : vx = .agg us.toArray) (hxb : BoxN W xb 32 us) (hbl : b < W.heap.size) (hbn : nb ≠ b) (hbx : xb ≠ b) (h0 : ∀ i, J i [] W) (hN : (inP (prN n) x).length ≤ N) :
    CallsIn Fence.wide 2 Tryz.prog 59 #[.func (.yield l) #[] #[], .pointer (some ⟨nb, 0, none⟩), .pointer (some ⟨xb, 0, none⟩)] W fun e W' => (∃ v, e = .returned v) ∧ ∃ i, ((∃ ys : List YEl, ys.map (·.pr) = inP (prN n) x ∧ J i ys W') ∨ (∃ pre, PreP (inP (prN n) x) pre ∧ Jx i pre W')) := by
  have hr0 := hr
  have hx0 := hx
  obtain ⟨a1, c1, a2, c2, a3, c3, eqv, _, _, _⟩ := hr
  injection eqv with eqv
  injection eqv with eqv
  injection eqv with ex eqv
  injection eqv with ey eqv
  injection eqv with ez _
  subst ex ey ez
  obtain ⟨xa, xc, xa2, xc2, rfl, _, _, _⟩ := hx
  obtain rfl : us = [.int .i64 x.table, .slice xa x.lo.length xc, .slice xa2 x.hi.length xc2, .bool x.isOpen] := by
    injection hvx with h
    injection h with h
    exact h.symm
  clear hvx
  have hks := zp7 W (zny hr0 hW) hf
  have hPL : (prN n).length ≤ 100000 := zhu hf
  have hPB := zqr n
  have hPS := zft hf
  have hPO := prN_srt n
  obtain ⟨ps, hps⟩ : ∃ ps, ps = prN n := ⟨_, rfl⟩
  rw [← hps] at hPL hPB hPS hPO hks hN ⊢
  replace hps := Lib.hid hps
  have tn0 := hnb.cell0
  have tn1 := hnb.cell1
  have tn2 := hnb.cell2
  refine callsIn_of_wp Tryz.func59 rfl trivial ?_ rfl
  simp only [Tryz.ntmps59, List.size_toArray, List.length_cons, List.length_nil, Nat.reduceAdd, Nat.reduceSub, Array.replicate_succ, Array.replicate_zero, List.push_toArray, List.append_toArray, List.nil_append, List.cons_append]
  refine wpIn_wide.2 ?_
  go_wp2_with fail
  refine hks.mono ?_
  rintro e W1 ⟨ka, kc, rfl, hkr, hb1⟩
  rw [List.length_map] at hkr
  have bn1 := hnb.below hb1 hnb.lt
  have bx1 : BoxN W1 xb 32 _ := hxb.below hb1 hxb.lt
  have hlx := hxb.lt
  have hln := hnb.lt
  have hkc := zd5 zec hkr
  have hs1 := hb1.size
  have hsW := hW.size
  obtain ⟨hi, hhi⟩ : ∃ hi, hi = W1.heap.size := ⟨_, rfl⟩
  have hW1 := hW.trans (hb1.mono hsW)
  clear tn0 tn1 tn2 hkr
  rw [List.length_map]
  go_wp2_with fail
  refine (wpIn_wide (n := 2)).1 ?_
  gi_loopw [11] (fun v wr => ∃ (i : Nat) (ys : List YEl), v = .int .i64 (i : Int) ∧ i ≤ ps.length ∧ ys.map (·.pr) = inP (ps.take i) x ∧ J hi ys wr ∧ KpB w0.heap.size b hi W1 wr ∧ hi ≤ wr.heap.size) (fun v _ => ps.length - toN v)
  case atStart => exact ⟨0, [], rfl, by omega, rfl, hAb _ _ _ _ none (h0 hi) (za1 hb1) (by simp), KpB.refl _ _ _ _, by omega⟩
  case round =>
    obtain ⟨i, ys, rfl, hil, hys, hJ, hK, hsr⟩ := hrel
    refine wpIn_wide.2 ?_
    have bnr : TriV wr nb 26 _ _ _ := (hK.2 nb _ (by omega) hbn bn1 rfl).trans bn1
    have bxr : BoxN wr xb 32 _ := (hK.2 xb _ (by omega) hbx bx1 rfl).trans bx1
    have hkr : RdL Elt.bytes (fun k => (W.heap.size ≤ k ∧ k < W1.heap.size) ∧ zek W1 k) wr (.slice ka ps.length kc) (ps.map (·.key)) := hkc.keep fun k hk => by
      obtain ⟨o, ho, hc⟩ := hk.2
      exact hK.2 k o (by omega) (by omega) ho hc
    have hWr := hW1.trans hK.1
    rcases Nat.lt_or_ge i ps.length with hl | hl
    · have d1 : decide ((i : Int) < (ps.length : Int)) = true := by simp; omega
      have hl' : i < (ps.map (·.key)).length := by simpa using hl
      obtain ⟨kb, ko, A, C, rfl, kcl, krd⟩ := hkr.byt i hl'
      rw [List.getElem_map] at kcl krd
      have hin := sIn_any wr (x := x) (S := (· < w0.heap.size)) (v := .agg #[.int .i64 x.table, .slice xa x.lo.length xc, .slice xa2 x.hi.length xc2, .bool x.isOpen]) (by
        obtain ⟨p1, p2, p3, p4, e, q1, q2, q3⟩ := hx0
        exact ⟨p1, p2, p3, p4, e, znx q1 hWr, znx q2 hWr, q3⟩) krd
      have hsn := inP_snoc (x := x) hl
      have x0 := bxr.cell (i := 0) rfl
      have x1 := bxr.cell (i := 1) rfl
      have x2 := bxr.cell (i := 2) rfl
      have x3 := bxr.cell (i := 3) rfl
      cases hb : inS x ps[i].key with
      | false =>
        rw [hb] at hin hsn
        rw [if_neg (by simp), List.append_nil] at hsn
        replace hsn := Lib.hid hsn
        clear hb
        go_wp2_with fail
        refine hin.mono ?_
        rintro e W2 ⟨rfl, hb2⟩
        have hJ2 := hAb _ _ _ _ none hJ (za1 hb2) (by simp)
        have hK2 := hK.trans (KpB.of (n₀ := w0.heap.size) (b := b) (hi := hi) hb2 (by omega))
        have hs2 := hb2.size
        go_wp2_with fail
        go_roundw
        case rel => exact ⟨i + 1, ys, by go_num, by omega, by rw [hsn.out]; exact hys, hJ2, hK2, by omega⟩
        case measure => simp [toN]; omega
      | true =>
        rw [hb] at hin hsn
        rw [if_pos rfl] at hsn
        replace hsn := Lib.hid hsn
        clear hb
        go_wp2_with fail
        refine hin.mono ?_
        rintro e W2 ⟨rfl, hb2⟩
        have hs2 := hb2.size
        have hfm := Lib.hid (zh7 hPO (List.getElem_mem hl))
        have hfd := zfq W2 (zny hr0 (hWr.trans (hb2.mono (by omega)))) hf (krd.below hb2)
        rw [← hps.out, hfm.out] at hfd
        have bn2 := bnr.below hb2 bnr.lt
        clear x0 x1 x2 x3
        have tn0 := bn2.cell0
        have tn1 := bn2.cell1
        have tn2 := bn2.cell2
        have hJ2 := hAb _ _ _ _ none hJ (za1 hb2) (by simp)
        go_wp2_with fail
        refine hfd.mono ?_
        rintro e W3 ⟨ca, cc, rfl, hcr, hb3⟩
        have hs3 := hb3.size
        have hJ3 := hAb _ _ _ _ none hJ2 (za1 hb3) (by simp)
        have hb23 : Below wr.heap.size wr W3 := hb2.trans (hb3.mono hs2)
        have hK3 := hK.trans (KpB.of (n₀ := w0.heap.size) (b := b) (hi := hi) hb23 (by omega))
        obtain ⟨y, hy⟩ : ∃ y : YEl, y = ⟨A, C, ps[i].key, ca, cc, ps[i].chain⟩ := ⟨_, rfl⟩
        have hyp : y.pr = ps[i] := by rw [hy]; rfl
        have hgd : GdW lo hi y W3 := by
          rw [hy]
          exact ⟨(zdm (krd.below hb23)).weak fun k hk => ⟨by omega, by omega, hk.2⟩, hcr.weak fun k hk => ⟨by omega, hk.2⟩, ⟨by omega, by omega⟩, hPB _ (List.getElem_mem hl), hPS _ (List.getElem_mem hl)⟩
        have hyl := hY hi ys y W3 hJ3 hgd (by
          have h1 := congrArg List.length hys
          obtain ⟨r, h2⟩ := zrc ps x (i + 1)
          rw [hsn.out] at h2
          rw [h2] at hN
          simp only [List.length_append, List.length_map, List.length_cons, List.length_nil] at h1 hN
          omega)
        replace hys := Lib.hid hys
        have hyn := Lib.hid (show (ys ++ [y]).map (·.pr) = inP (ps.take (i + 1)) x by rw [hsn.out, List.map_append, hys.out, List.map_cons, List.map_nil, hyp])
        obtain ⟨fn, tmps, assign, body, hyr, hR⟩ := hyl
        rw [hy] at hyr
        replace hyr : (Instr.yield l #[.slice A ps[i].key.length C, .slice ca ps[i].chain.length cc]).run Tryz.prog W3 = _ := hyr
        replace hyp := Lib.hid hyp
        replace hgd := Lib.hid hgd
        replace hfm := Lib.hid hfm
        clear hy tn0 tn1 tn2 hfd hin
        go_upto_region 5 with (fail)
        refine (wpIn_wide (n := 2)).1 ?_
        gi_wp2
        refine hR.mono ?_
        clear hR
        rintro e W5 (⟨rfl, hJ5, hK5⟩ | ⟨rfl, hx5⟩)
        · gi_wp2
          go_wp2_with fail
          go_roundw
          case rel => exact ⟨i + 1, ys ++ [y], by go_num, by omega, hyn.out, hJ5, hK3.trans hK5, by have := hK5.1.size; omega⟩
          case measure => simp [toN]; omega
        · gi_wp2
          go_wp2_with fail
          (try simp only [Exit.inBlock, Exit.then])
          refine bodyPost_ret (results_none rfl _ _ _) rfl ?_
          obtain ⟨r, h2⟩ := zrc ps x (i + 1)
          exact ⟨⟨_, rfl⟩, hi, .inr ⟨ys ++ [y], ⟨r, by rw [h2, hyn.out]⟩, hx5⟩⟩
    · obtain rfl : i = ps.length := by omega
      have d1 : decide ((ps.length : Int) < (ps.length : Int)) = false := by simp
      rw [List.take_length] at hys
      replace hys := Lib.hid hys
      go_wp2_with fail
      go_end0
      exact ⟨⟨_, rfl⟩, hi, .inl ⟨ys, hys.out, hJ⟩⟩
theorem zeu {w0 w : World} {n : Nd} {x : Sp} {N b nb xb : Nat} {v0 v1 v2 vx : Value} {us : List Value} (hr : RdN (· < w0.heap.size) w0 (.agg #[v0,v1,v2]) n) (hf : fitN n) (hx : RdSp (· < w0.heap.size) w0 vx x) (hw : Below w0.heap.size w0 w)
  (hnb : TriV w nb 26 v0 v1 v2) (hvx : vx = .agg us.toArray) (hxb : BoxN w xb 32 us) (hbl : b < w.heap.size) (hbn : nb ≠ b) (hbx : xb ≠ b) (hN : (inP (prN n) x).length ≤ N) :
  zl9 Tryz.prog 59 #[.pointer (some ⟨nb,0,none⟩),.pointer (some ⟨xb,0,none⟩)] YEl.enc (KpB w0.heap.size b) (GdW w.heap.size) (fun ys => ys.map (·.pr) = inP (prN n) x) (PreP (inP (prN n) x)) N w := fun l _ _ W hW hAb _ hY h0 =>
 zow l hr hf hx hAb hY W hW.size (hw.trans (hW.mono hw.size)) (hnb.below hW hnb.lt) us hvx (hxb.below hW hxb.lt) (Nat.lt_of_lt_of_le hbl hW.size) hbn hbx h0 hN
end Go.Proofs.YtlpfhgdnmjkngaaGreat
