/-
  TEXTS OF ONE PROOF, merged: Arr, Box, Ope, DltM, Dlt, StM, Sto, Qui, VerO, TreD, TreW, TreH, StZ.
-/
import Derived.BigFrame
import Derived.ChangeSame
import Derived.ChangeSlices
import Derived.Deep.Slices
import Derived.Deep.Strs
import Derived.Laws.Cells
import Derived.Laws.CopyRow
import Derived.Laws.Tables
import Derived.Lib.SmallJoins
import Derived.ProofKit
import Derived.Test.YtlpfhgdnmjkngaaGreatKr2
namespace Go.Proofs.YtlpfhgdnmjkngaaGreat
open Go.RowKit
section
variable {P : Program} {t e : TypeId} {n : Nat} {o : Oper} {a : Act} {K : Act → World → Prop} {Q : Exit → Act → World → Prop} {w : World} {ops : Array Oper} {rest : List Oper}
theorem wp_store3 (hs : (P.info? t).map (·.size) = some 3) {x y : Operand} {b : Nat} {u v r p q s : Value} (ho : o.op = .store t x y) (hx : a.eval x = .pointer (some ⟨b,0,none⟩)) (hy : a.eval y = .agg #[u,v,r]) (hu1 : u.oneCell' = true) (hv1 : v.oneCell' = true) (hr1 : r.oneCell' = true) (hb : TriV w b t p q s)
  (h : ∀ w',w.grownBy w' (some b) → TriV w' b t u v r → K (a.put o.dst undef) w') : o.wp P a w K Q := by
 refine wp_store_row t x y ho b #[u,v,r] hx hy t #[p,q,s] hb hs rfl (by simp [hu1,hv1,hr1]) (h _ ⟨rfl,rfl,rfl,by simp [World.setRow],fun k _ hk => ?_⟩ ?_)
 ·have hkb : k ≠ b := fun e => hk (by rw [e])
  simp [World.setRow,Array.getElem?_modify,Ne.symm hkb]
 ·unfold TriV at hb ⊢
  simp [World.setRow,Array.getElem?_modify,hb]
theorem wpList_store3 (hs : (P.info? t).map (·.size) = some 3) {x y : Operand} {b : Nat} {u v r p q s : Value} (ho : o.op = .store t x y) (hd : o.dst = none) (hgd : Region.wanted o (yielded ops a.tmps) = true) (hx : a.eval x = .pointer (some ⟨b,0,none⟩)) (hy : a.eval y = .agg #[u,v,r]) (hu1 : u.oneCell' = true) (hv1 : v.oneCell' = true) (hr1 : r.oneCell' = true) (hb : TriV w b t p q s)
  (h : ∀ w',w.grownBy w' (some b) → TriV w' b t u v r → wpList P ops Q rest a w') : wpList P ops Q (o :: rest) a w :=
 BigFrame.wpList_want hgd fun _ hK => wp_store3 hs ho hx hy hu1 hv1 hr1 hb fun w' h3 h4 => hK _ _ (by rw [hd]; exact h w' h3 h4)
end
end Go.Proofs.YtlpfhgdnmjkngaaGreat
namespace Go.Proofs.YtlpfhgdnmjkngaaGreat
open Go.RowKit
def BoxN (W:World) (b:Nat) (t:TypeId) (vs:List Value):Prop:=W.heap[b]?=some (.cells vs.toArray t (0,0))
section
variable {W W' : World} {b : Nat} {t : TypeId} {vs : List Value}
theorem BoxN.new (W:World) (t:TypeId) (vs:List Value):BoxN (W.alloc (.cells vs.toArray t)) W.heap.size t vs:=by unfold BoxN;simp only [World.alloc,Array.getElem?_push_size]
theorem BoxN.lt(h:BoxN W b t vs):b<W.heap.size:=(Array.getElem?_eq_some_iff.1 h).1
theorem BoxN.cell (h : BoxN W b t vs) {i : Nat} {u : Value} (hi : vs[i]? = some u) : W.cell? ⟨b,i,none⟩ = some u := by simp [World.cell?,show W.heap[b]? = _ from h,hi]
theorem BoxN.below {n:Nat}(h:BoxN W b t vs)(hb:Below n W W')(hn:b<n):BoxN W' b t vs:=(hb.block b hn).trans h
theorem BoxN.other {c:Option Nat}(h:BoxN W b t vs)(hg:W.grownBy W' c)(hn:c≠some b):BoxN W' b t vs:=(hg.block b h.lt fun e=>hn e.symm).trans h
end
section
variable {P : Program} {t : TypeId} {n : Nat} {ops : Array Oper} {rest : List Oper} {o : Oper} {a : Act} {K : Act → World → Prop} {Q : Exit → Act → World → Prop} {w : World}
theorem wp_boxNew {vs : List Value} (hz : (P.info? t).bind (·.zero) = some (.agg vs.toArray)) (ho : o.op = .alloc t) (h : ∀ w',Below w.heap.size w w' → BoxN w' w.heap.size t vs → K (a.put o.dst (.pointer (some ⟨w.heap.size,0,none⟩))) w') : o.wp P a w K Q := by
 have hzz : (zeroValue t).run P w = .ok (.agg vs.toArray) w := by
  cases hi : P.info? t with
  | none => simp [hi] at hz
  | some i => simp [hi] at hz; simp [zeroValue,typeInfo,hi,hz]
 have hrun : (execOp a.eval o).run P w = .ok (.value (.pointer (some ⟨w.heap.size,0,none⟩))) (w.alloc (.cells vs.toArray t)) := by
  simp [execOp,ho,newVar,hzz,Value.cells,go_sem]
 unfold Oper.wp
 rw [hrun]
 exact h _ ((Below.refl _ _).alloc (Nat.le_refl _) _) (BoxN.new w t vs)
theorem wpList_boxNew {vs : List Value} (hz : (P.info? t).bind (·.zero) = some (.agg vs.toArray)) (ho : o.op = .alloc t) (hgd : Region.wanted o (yielded ops a.tmps) = true) (h : ∀ w',Below w.heap.size w w' → BoxN w' w.heap.size t vs → wpList P ops Q rest (a.put o.dst (.pointer (some ⟨w.heap.size,0,none⟩))) w') : wpList P ops Q (o :: rest) a w :=
 BigFrame.wpList_want hgd fun _ hK => wp_boxNew hz ho fun w' h1 h2 => hK _ _ (h w' h1 h2)
theorem wp_boxStore {vs us : List Value} {x y : Operand} {b : Nat} (hs : (P.info? t).map (·.size) = some us.length) (ho : o.op = .store t x y) (hx : a.eval x = .pointer (some ⟨b,0,none⟩)) (hy : a.eval y = .agg us.toArray) (h1 : us.all (·.oneCell') = true) (hb : BoxN w b t vs) (hl : vs.length = us.length)
  (h : ∀ w',w.grownBy w' (some b) → BoxN w' b t us → K (a.put o.dst undef) w') : o.wp P a w K Q := by
 refine wp_store_row t x y ho b us.toArray hx hy t vs.toArray hb (by simpa using hs) (by simp [hl]) (by simpa using h1) (h _ ⟨rfl,rfl,rfl,by simp [World.setRow],fun k _ hk => ?_⟩ ?_)
 ·have hkb : k ≠ b := fun e => hk (by rw [e])
  simp [World.setRow,Array.getElem?_modify,Ne.symm hkb]
 ·unfold BoxN at hb ⊢
  simp [World.setRow,Array.getElem?_modify,hb]
theorem wpList_boxStore {vs us : List Value} {x y : Operand} {b : Nat} (hs : (P.info? t).map (·.size) = some us.length) (ho : o.op = .store t x y) (hd : o.dst = none) (hgd : Region.wanted o (yielded ops a.tmps) = true) (hx : a.eval x = .pointer (some ⟨b,0,none⟩)) (hy : a.eval y = .agg us.toArray) (h1 : us.all (·.oneCell') = true) (hb : BoxN w b t vs) (hl : vs.length = us.length)
  (h : ∀ w',w.grownBy w' (some b) → BoxN w' b t us → wpList P ops Q rest a w') : wpList P ops Q (o :: rest) a w :=
 BigFrame.wpList_want hgd fun _ hK => wp_boxStore hs ho hx hy h1 hb hl fun w' h3 h4 => hK _ _ (by rw [hd]; exact h w' h3 h4)
theorem wp_load4 (hP : StP P t 4) {x : Operand} {b off : Nat} {u v r s : Value} (ho : o.op = .load t x) (hx : a.eval x = .pointer (some ⟨b,off,none⟩)) (h0 : w.cell? ⟨b,off,none⟩ = some u) (h1 : w.cell? ⟨b,off + 1,none⟩ = some v) (h2 : w.cell? ⟨b,off + 2,none⟩ = some r) (h3 : w.cell? ⟨b,off + 3,none⟩ = some s) (h : K (a.put o.dst (.agg #[u,v,r,s])) w) : o.wp P a w K Q := by
 obtain ⟨fs,hu,hfs,hf⟩ := hP.hu
 refine wp_run' ?_ h
 simp only [execOp,ho,hx]
 simp [Instr.loadAt,loadVar,isAgg,run_underlying hu,run_sizeOf' hP.hs,loadCellsFrom,Addr.add,h0,h1,h2,h3,go_sem]
end
end Go.Proofs.YtlpfhgdnmjkngaaGreat
namespace Go.Proofs.YtlpfhgdnmjkngaaGreat
open Go.ChangeShapes Go.WideShapes Go.ChangeAt Go.RowKit Go.Deep
def Opens {α:Type} (P:Program) (t:TypeId) (E:Elt α):Prop :=
 ∀ {H:Type} {enc:TypeId×Value→H} {w:World} {base:Nat} {held:Bool} {fuel:Nat} {cs:List Value} {x:DataW H×List MemPlace},DataW.trod enc P w base (fun _=>true) held fuel t cs=some x→∃ d,E.R (·<w.heap.size) w d cs
theorem choose_list {α:Type} {p:Nat→α→Prop}:∀ n,(∀ i,i<n→∃ d,p i d)→∃ l:List α,l.length=n∧∀ i (h:i<l.length),p i l[i]
 | 0,_=>⟨[],rfl,fun i h=>absurd h (Nat.not_lt_zero _)⟩
 | n+1,h=>by
  obtain⟨l,hl,hp⟩:=choose_list n (fun i hi=>h i (by omega))
  obtain⟨d,hd⟩:=h n (Nat.lt_succ_self n)
  refine⟨l++[d],by simp [hl],fun i hi=>?_⟩
  rcases Nat.lt_or_ge i l.length with h1 | h1
  ·rw [List.getElem_append_left h1];exact hp i h1
  ·rw [List.length_append] at hi
   simp only [List.length_cons,List.length_nil] at hi
   obtain rfl:i=l.length:=by omega
   rw [List.getElem_append_right (Nat.le_refl _)]
   simp only [Nat.sub_self,List.getElem_cons_zero]
   rw [hl];exact hd
section
variable {P : Program} {t e : TypeId}
theorem Opens.bytes (ht : P.underlying t = some (.slice e)) (he : P.underlying e = some (.int .u8)) (hc : P.cellsOf e = 1) : Opens P t Elt.bytes := by
 intro H enc w base held fuel cs x h
 rcases open_ints ht he hc h with ⟨hcs,_⟩ | ⟨x,l,c,zs,hcs,_,hl,hm,hz,_,hcell,hwz⟩
 ·exact ⟨_,_,hcs,(Rd.of_row (.inl ⟨rfl,rfl,rfl,rfl⟩)).s⟩
 ·exact ⟨_,_,hcs,(Rd.of_row (.inr ⟨_,rfl,hl,hm,by simpa using hz,hcell,hwz⟩)).s⟩
theorem Opens.list {α : Type} {E : Elt α} (ht : P.underlying t = some (.slice e)) (hc : P.cellsOf e = E.size) (hE : Opens P e E) : Opens P t (Elt.list E) := by
 intro H enc w base held fuel cs x h
 rcases open_slice ht h with ⟨rfl,_⟩ | ⟨a,len,cap,m,n,D,Pl,rfl,hb,hl,hm,hmm,_,hi⟩
 ·exact ⟨[],_,rfl,RdL.nil _ _ _⟩
 ·have hlm : len ≤ m := by rw [hmm]; split <;> omega
  obtain ⟨l,hll,hp⟩ := choose_list (p := fun i d => ∃ cs',E.R (· < w.heap.size) w d cs' ∧ ∀ j,j < cs'.length → w.cell? (a.add (i * E.size + j)) = cs'[j]?) len (fun i hil => by
   obtain ⟨cs',h1,h2⟩ := hi i (by omega)
   obtain ⟨d,hd⟩ := hE h2
   obtain ⟨_,hcl,hat⟩ := World.cells?_some h1
   refine ⟨d,cs',hd,fun j hj => ?_⟩
   have := hat j (by omega)
   rw [add_add,hc] at this
   exact this)
  refine ⟨l,_,rfl,?_⟩
  rw [← hll] at hl ⊢
  refine ⟨some a,cap,rfl,hl,hm,?_⟩
  rcases Nat.eq_zero_or_pos l.length with h0 | h0
  ·exact .inl (List.eq_nil_of_length_eq_zero h0)
  ·obtain ⟨cs0,hR0,hc0⟩ := hp 0 h0
   have hl0 := E.len hR0
   have hpos := E.pos
   have hcell := hc0 0 (by omega)
   rw [List.getElem?_eq_getElem (by omega)] at hcell
   obtain ⟨b,off,spot⟩ := a
   have hspot : spot = none := by simpa [Addr.add] using World.cell?_spot hcell
   subst hspot
   have hblt := World.block_lt_of_cell? w _ hcell
   refine .inr ⟨b,off,rfl,by simpa [Addr.add_lit] using hblt,fun r hr => ?_⟩
   obtain ⟨cs',hR,hcs⟩ := hp r hr
   refine ⟨cs',hR,fun j u hj => ?_⟩
   have := hcs j (List.getElem?_eq_some_iff.1 hj).1
   rw [hj,Addr.add_lit,← Nat.add_assoc] at this
   exact this
theorem Opens.rdL {α:Type} {E:Elt α} (hO:Opens P t (Elt.list E)) {H:Type} {enc:TypeId×Value→H} {w:World} {base:Nat} {held:Bool} {fuel:Nat} {a:Option Addr} {n c:Nat} {x:DataW H×List MemPlace}
  (h:DataW.trod enc P w base (fun _=>true) held fuel t [.slice a n c]=some x):∃ xs,RdL E (·<w.heap.size) w (.slice a n c) xs:=by
 obtain⟨d,v,hv,hR⟩:=hO h
 cases hv
 exact⟨d,hR⟩
end
end Go.Proofs.YtlpfhgdnmjkngaaGreat
namespace Go.Proofs.YtlpfhgdnmjkngaaGreat
section
variable {K α : Type} [DecidableEq K] (lt : K → K → Bool) (key : α → K)
def SrtE (l:List α):Prop:=l.Pairwise fun a b=>lt (key a) (key b)=true
variable {lt key}
end
structure Wr where
 table:Int
 key:List UInt8
 gone:Bool
 val:List UInt8
deriving DecidableEq
structure Pq where
 key:List UInt8
 val:List UInt8
deriving DecidableEq
structure Dl where
 writes:List Wr
 marks:List Int
deriving DecidableEq
structure Sp where
 table:Int
 lo:List UInt8
 hi:List UInt8
 isOpen:Bool
deriving DecidableEq
def mayW(w:Wr):Prop:=0≤w.table∧w.table≤3∧w.key.length≤16∧w.val.length≤32∧(w.gone=true→w.val=[])
instance (w:Wr):Decidable (mayW w):=by unfold mayW;exact inferInstance
def okM(n:Int):Int→List Int→Prop
 | _,[]=>True
 | l,m::ms=>l≤m∧m≤n∧okM n m ms
instance decM (n:Int):∀ l ms,Decidable (okM n l ms)
 | _,[]=>isTrue trivial
 | l,m::ms=>by unfold okM;have:=decM n m ms;exact inferInstance
def okD(d:Dl):Prop:=d.writes.length≤20∧d.marks.length≤4∧(∀ w∈d.writes,mayW w)∧okM d.writes.length 0 d.marks
instance (d:Dl):Decidable (okD d):=by unfold okD;exact inferInstance
def inS(x:Sp)(k:List UInt8):Bool:=!ltB k x.lo&&(x.isOpen||ltB k x.hi)
abbrev SrtQ(l:List Pq):Prop:=SrtE ltB Pq.key l
instance (l:List Pq):Decidable (SrtQ l):=by unfold SrtQ SrtE;exact inferInstance
end Go.Proofs.YtlpfhgdnmjkngaaGreat
namespace Go.Proofs.YtlpfhgdnmjkngaaGreat
open Go.ChangeShapes Go.WideShapes Go.ChangeAt Go.RowKit Go.Deep Go.Joins
def W64(s:Int):Prop:=-9223372036854775808≤s∧s≤9223372036854775807
theorem w64w {n:Int}(h:(Lit.int .i64 n).wf=true):W64 n:=by
 simp [Lit.wf,IntKind.min,IntKind.max,IntKind.signed,IntKind.bits] at h
 exact⟨by omega,by omega⟩
def wrC(x:Wr)(k v:Value):List Value:=[.int .i64 x.table,k,.bool x.gone,v]
def Elt.wr:Elt Wr where
 size:=4
 pos:=by omega
 R S w x vs:=∃ k v,vs=wrC x k v∧RdS S w k x.key∧RdS S w v x.val∧W64 x.table
 len:=by rintro _ _ _ _⟨_,_,rfl,_⟩;rfl
 keep:=by rintro _ _ _ _ _⟨k,v,rfl,h,h1,h2⟩hk;exact⟨k,v,rfl,h.keep hk,h1.keep hk,h2⟩
 weak:=by rintro _ _ _ _ _⟨k,v,rfl,h,h1,h2⟩hk;exact⟨k,v,rfl,h.weak hk,h1.weak hk,h2⟩
 fit:=by rintro _ _ _ _⟨k,v,rfl,h,h1,h2⟩;exact⟨k,v,rfl,h.fit,h1.fit,h2⟩
 one:=by
  rintro _ _ _ _⟨k,v,rfl,h,h1,_⟩u hu
  have h3:=h.one
  have h4:=h1.one
  simp only [wrC,List.mem_cons,List.not_mem_nil,or_false] at hu
  rcases hu with rfl|rfl|rfl|rfl
  ·rfl
  ·exact h3
  ·rfl
  ·exact h4
def Elt.pq:Elt Pq where
 size:=2
 pos:=by omega
 R S w x vs:=∃ k v,vs=[k,v]∧RdS S w k x.key∧RdS S w v x.val
 len:=by rintro _ _ _ _⟨_,_,rfl,_⟩;rfl
 keep:=by rintro _ _ _ _ _⟨k,v,rfl,h,h1⟩hk;exact⟨k,v,rfl,h.keep hk,h1.keep hk⟩
 weak:=by rintro _ _ _ _ _⟨k,v,rfl,h,h1⟩hk;exact⟨k,v,rfl,h.weak hk,h1.weak hk⟩
 fit:=by rintro _ _ _ _⟨k,v,rfl,h,h1⟩;exact⟨k,v,rfl,h.fit,h1.fit⟩
 one:=by
  rintro _ _ _ _⟨k,v,rfl,h,h1⟩u hu
  have h3:=h.one
  have h4:=h1.one
  simp only [List.mem_cons,List.not_mem_nil,or_false] at hu
  rcases hu with rfl|rfl
  ·exact h3
  ·exact h4
theorem wrS:StP Tryz.prog 51 4:=StP.of (by kernel_rfl)
theorem pqP:LoP Tryz.prog 44 60 2:=⟨⟨by kernel_rfl,by kernel_rfl⟩,.agg #[.slice none 0 0,.slice none 0 0],48,by kernel_rfl,rfl,by omega⟩
theorem pqS:StP Tryz.prog 60 2:=StP.of (by kernel_rfl)
section
variable {S S' : Nat → Prop} {w w' : World} {v : Value}
theorem RdL.wr {a : Option Addr} {n c : Nat} {l : List Wr} (h : RdL Elt.wr S w (.slice a n c) l) (r : Nat) (hr : r < l.length) :
  ∃ b off A C A2 C2,a = some ⟨b,off,none⟩ ∧ S b ∧ w.cell? ⟨b,off + r * 4,none⟩ = some (.int .i64 l[r].table) ∧ w.cell? ⟨b,off + r * 4 + 1,none⟩ = some (.slice A l[r].key.length C) ∧ w.cell? ⟨b,off + r * 4 + 2,none⟩ = some (.bool l[r].gone) ∧ w.cell? ⟨b,off + r * 4 + 3,none⟩ = some (.slice A2 l[r].val.length C2) ∧
   RdS S w (.slice A l[r].key.length C) l[r].key ∧ RdS S w (.slice A2 l[r].val.length C2) l[r].val ∧ W64 l[r].table := by
 obtain ⟨b,off,vs,rfl,hb,⟨k,u,rfl,hk,hu,hi⟩,hc⟩ := h.at r hr
 obtain ⟨A,C,rfl,_,_⟩ := hk.shape
 obtain ⟨A2,C2,rfl,_,_⟩ := hu.shape
 exact ⟨b,off,A,C,A2,C2,rfl,hb,hc 0 _ rfl,hc 1 _ rfl,hc 2 _ rfl,hc 3 _ rfl,hk,hu,hi⟩
theorem RdL.pq {a : Option Addr} {n c : Nat} {l : List Pq} (h : RdL Elt.pq S w (.slice a n c) l) (r : Nat) (hr : r < l.length) :
  ∃ b off A C A2 C2,a = some ⟨b,off,none⟩ ∧ S b ∧ w.cell? ⟨b,off + r * 2,none⟩ = some (.slice A l[r].key.length C) ∧ w.cell? ⟨b,off + r * 2 + 1,none⟩ = some (.slice A2 l[r].val.length C2) ∧
   RdS S w (.slice A l[r].key.length C) l[r].key ∧ RdS S w (.slice A2 l[r].val.length C2) l[r].val := by
 obtain ⟨b,off,vs,rfl,hb,⟨k,u,rfl,hk,hu⟩,hc⟩ := h.at r hr
 obtain ⟨A,C,rfl,_,_⟩ := hk.shape
 obtain ⟨A2,C2,rfl,_,_⟩ := hu.shape
 exact ⟨b,off,A,C,A2,C2,rfl,hb,hc 0 _ rfl,hc 1 _ rfl,hk,hu⟩
def RdWr (S:Nat→Prop) (w:World) (v:Value) (x:Wr):Prop:=∃ a c a2 c2,v=.agg #[.int .i64 x.table,.slice a x.key.length c,.bool x.gone,.slice a2 x.val.length c2]∧RdS S w (.slice a x.key.length c) x.key∧RdS S w (.slice a2 x.val.length c2) x.val∧W64 x.table
def RdSp (S:Nat→Prop) (w:World) (v:Value) (x:Sp):Prop:=∃ a c a2 c2,v=.agg #[.int .i64 x.table,.slice a x.lo.length c,.slice a2 x.hi.length c2,.bool x.isOpen]∧RdS S w (.slice a x.lo.length c) x.lo∧RdS S w (.slice a2 x.hi.length c2) x.hi∧W64 x.table
theorem RdSp.below {x:Sp}(h:RdSp S w v x)(hb:Below w.heap.size w w'):RdSp S w' v x:=by
 obtain⟨a,c,a2,c2,e,h1,h2,h3⟩:=h
 exact⟨a,c,a2,c2,e,h1.below hb,h2.below hb,h3⟩
end
set_option maxRecDepth 4000 in
theorem opens_wr:Opens Tryz.prog 51 Elt.wr:=by
 intro H enc w base held fuel cs x h
 obtain⟨y0,y1,y2,y3,n,_,hl,h0,h1,h2,h3⟩:=trod_struct4 Tryz.underlying51 h
 have hc:cs.length=4:=hl.trans (by kernel_rfl)
 match cs,hc with
 | [u,v,r,s],_ =>
  obtain⟨m,hm,_,hw⟩:=DataW.trod_int (by kernel_rfl:Tryz.prog.underlying 3=some (.int .i64)) (h0:DataW.trod enc Tryz.prog w base (fun _=>true) held n 3 [u]=some y0)
  obtain⟨xs,v',hv,hR⟩:=Opens.bytes (P:=Tryz.prog) (t:=30) (e:=5) (by kernel_rfl) (by kernel_rfl) (by kernel_rfl) (h1:DataW.trod enc Tryz.prog w base (fun _=>true) held n 30 [v]=some y1)
  obtain⟨g,hg,_⟩:=DataW.trod_bool (by kernel_rfl:Tryz.prog.underlying 4=some .bool) (h2:DataW.trod enc Tryz.prog w base (fun _=>true) held n 4 [r]=some y2)
  obtain⟨xs2,v2,hv2,hR2⟩:=Opens.bytes (P:=Tryz.prog) (t:=30) (e:=5) (by kernel_rfl) (by kernel_rfl) (by kernel_rfl) (h3:DataW.trod enc Tryz.prog w base (fun _=>true) held n 30 [s]=some y3)
  cases hm;cases hg;cases hv;cases hv2
  exact⟨⟨m,xs,g,xs2⟩,v,s,rfl,hR,hR2,w64w hw⟩
theorem opens_wrs:Opens Tryz.prog 62 (Elt.list Elt.wr):=Opens.list (by kernel_rfl) (by kernel_rfl) opens_wr
set_option maxRecDepth 4000 in
theorem open_wr {H:Type} {enc:TypeId×Value→H} {w:World} {base:Nat} {held:Bool} {fuel:Nat} {cs:Array Value} {x:DataW H×List MemPlace} (h:DataW.trod enc Tryz.prog w base (fun _=>true) held fuel 51 (Value.agg cs).cells.toList=some x):∃ d,RdWr (·<w.heap.size) w (.agg cs) d:=by
 obtain⟨d,k,v,e,h1,h2,h3⟩:=opens_wr h
 obtain⟨a,c,rfl,_⟩:=h1.shape
 obtain⟨a2,c2,rfl,_⟩:=h2.shape
 have:cs=#[.int .i64 d.table,.slice a d.key.length c,.bool d.gone,.slice a2 d.val.length c2]:=Array.ext' (by simpa [Value.cells,wrC] using e)
 exact⟨d,a,c,a2,c2,by rw [this],h1,h2,h3⟩
set_option maxRecDepth 4000 in
theorem open_sp {H:Type} {enc:TypeId×Value→H} {w:World} {base:Nat} {held:Bool} {fuel:Nat} {cs:Array Value} {x:DataW H×List MemPlace} (h:DataW.trod enc Tryz.prog w base (fun _=>true) held fuel 32 (Value.agg cs).cells.toList=some x):∃ d,RdSp (·<w.heap.size) w (.agg cs) d:=by
 have e0:(Value.agg cs).cells.toList=cs.toList:=by simp [Value.cells]
 rw [e0] at h
 obtain⟨y0,y1,y2,y3,n,_,hl,h0,h1,h2,h3⟩:=trod_struct4 Tryz.underlying32 h
 have hc:cs.toList.length=4:=hl.trans (by kernel_rfl)
 obtain⟨l⟩:=cs
 match l,hc with
 | [u,v,r,s],_ =>
  obtain⟨m,hm,_,hw⟩:=DataW.trod_int (by kernel_rfl:Tryz.prog.underlying 3=some (.int .i64)) (h0:DataW.trod enc Tryz.prog w base (fun _=>true) held n 3 [u]=some y0)
  obtain⟨xs,v',hv,hR⟩:=Opens.bytes (P:=Tryz.prog) (t:=30) (e:=5) (by kernel_rfl) (by kernel_rfl) (by kernel_rfl) (h1:DataW.trod enc Tryz.prog w base (fun _=>true) held n 30 [v]=some y1)
  obtain⟨xs2,v2,hv2,hR2⟩:=Opens.bytes (P:=Tryz.prog) (t:=30) (e:=5) (by kernel_rfl) (by kernel_rfl) (by kernel_rfl) (h2:DataW.trod enc Tryz.prog w base (fun _=>true) held n 30 [r]=some y2)
  obtain⟨g,hg,_⟩:=DataW.trod_bool (by kernel_rfl:Tryz.prog.underlying 4=some .bool) (h3:DataW.trod enc Tryz.prog w base (fun _=>true) held n 4 [s]=some y3)
  cases hm;cases hg;cases hv;cases hv2
  obtain⟨a,c,rfl,_⟩:=hR.shape
  obtain⟨a2,c2,rfl,_⟩:=hR2.shape
  exact⟨⟨m,xs,xs2,g⟩,a,c,a2,c2,rfl,hR,hR2,w64w hw⟩
end Go.Proofs.YtlpfhgdnmjkngaaGreat
namespace Go.Proofs.YtlpfhgdnmjkngaaGreat
abbrev Tb:=Nat→List Pr
abbrev Sto:=Nat→Nd
def okT (L:Tb):Prop:=∀ i,i<4→okP (L i)∧(L i).length≤60
instance (L:Tb):Decidable (okT L):=by unfold okT;infer_instance
def okS (T:Sto):Prop:=∀ i,i<4→okN (T i)∧(prN (T i)).length≤60
instance (T:Sto):Decidable (okS T):=by unfold okS;infer_instance
def tabS (T:Sto):Tb:=fun i=>prN (T i)
def pickS (T:Sto) (t:Int):List Pr:=if 0≤t∧t<4∧okS T then prN (T t.toNat) else []
def getP (l:List Pr) (k:List UInt8) (s:Int):Option (List UInt8):=(findP l k).bind fun c=>readV c s
def scan1(x:Sp)(s:Int)(p:Pr):Option Pq:=if inS x p.key then(readV p.chain s).map fun v=>⟨p.key,v⟩else none
def scanP (l:List Pr) (x:Sp) (s:Int):List Pq:=l.filterMap (scan1 x s)
def newP(l:List Pr)(x:Sp)(s:Int):Bool:=l.any fun p=>inS x p.key&&newerV p.chain s
def verW(w:Wr)(s:Int):Ver:=⟨s,w.gone,w.val⟩
def mayW7(w:Wr):Prop:=0≤w.table∧w.table<4∧w.key.length≤16∧w.val.length≤32∧(w.gone=true→w.val.length=0)
instance (w:Wr):Decidable (mayW7 w):=by unfold mayW7;infer_instance
def inst1 (l:List Pr) (k:List UInt8) (v:Ver):List Pr×Nat :=
 let c:=(findP l k).getD []
 if (instV c v).2≠0 then ([],(instV c v).2) else if 60<(putP l k (instV c v).1).length then ([],40) else (putP l k (instV c v).1,0)
def setT(L:Tb)(t:Int)(l:List Pr):Tb:=fun i=>if(i:Int)=t then l else L i
def goI (L0:Tb):Tb→Int→List Wr→Tb×Nat
 | L,_,[]=>(L,0)
 | L,s,w::r=>if (inst1 (L w.table.toNat) w.key (verW w s)).2≠0 then (L0,(inst1 (L w.table.toNat) w.key (verW w s)).2) else goI L0 (setT L w.table (inst1 (L w.table.toNat) w.key (verW w s)).1) s r
def vacP (l : List Pr) (o : Int) : List Pr := l.filterMap fun p => if vacV p.chain o = [] then none else some ⟨p.key,vacV p.chain o⟩
end Go.Proofs.YtlpfhgdnmjkngaaGreat
namespace Go.Proofs.YtlpfhgdnmjkngaaGreat
open Go.RowKit Go.Shelf
def RdSt (S:Nat→Prop) (w:World) (v:Value) (T:Sto):Prop:=∃ (a:Nat→Option Addr) (m c:Nat→Nat),v=.agg #[.slice (a 0) (m 0) (c 0),.slice (a 1) (m 1) (c 1),.slice (a 2) (m 2) (c 2),.slice (a 3) (m 3) (c 3),.slice (a 4) (m 4) (c 4),.slice (a 5) (m 5) (c 5),.slice (a 6) (m 6) (c 6),.slice (a 7) (m 7) (c 7),.slice (a 8) (m 8) (c 8),.slice (a 9) (m 9) (c 9),.slice (a 10) (m 10) (c 10),.slice (a 11) (m 11) (c 11)]∧∀ i,i<4→RdN S w (.agg #[.slice (a (3*i)) (m (3*i)) (c (3*i)),.slice (a (3*i+1)) (m (3*i+1)) (c (3*i+1)),.slice (a (3*i+2)) (m (3*i+2)) (c (3*i+2))]) (T i)
section
variable {S S' : Nat → Prop} {w w' : World} {v : Value} {T : Sto}
theorem RdSt.keep(h:RdSt S w v T)(hk:∀ k,S k→w'.heap[k]?=w.heap[k]?):RdSt S w' v T:=by
 obtain⟨a,m,c,e,h⟩:=h
 exact⟨a,m,c,e,fun i hi=>(h i hi).keep hk⟩
theorem RdSt.weak(h:RdSt S w v T)(hs:∀ k,S k→S' k):RdSt S' w v T:=by
 obtain⟨a,m,c,e,h⟩:=h
 exact⟨a,m,c,e,fun i hi=>(h i hi).weak hs⟩
theorem RdSt.fit (h:RdSt S w v T):RdSt (fun k=>S k∧k<w.heap.size) w v T:=by
 obtain⟨a,m,c,e,h⟩:=h
 exact⟨a,m,c,e,fun i hi=>(h i hi).fit⟩
theorem RdSt.below(h:RdSt S w v T)(hb:Below w.heap.size w w'):RdSt S w' v T:=(h.fit.keep fun k hk=>hb.block k hk.2).weak fun _ h=>h.1
end
def fitS (T:Sto):Prop:=∀ i,i<4→fitN (T i)
theorem BoxN.c12 {W : World} {b : Nat} {t : TypeId} {v0 v1 v2 v3 v4 v5 v6 v7 v8 v9 v10 v11 : Value} (h : BoxN W b t [v0,v1,v2,v3,v4,v5,v6,v7,v8,v9,v10,v11]) : W.cell? ⟨b,0,none⟩ = some v0 ∧ W.cell? ⟨b,1,none⟩ = some v1 ∧ W.cell? ⟨b,2,none⟩ = some v2 ∧ W.cell? ⟨b,3,none⟩ = some v3 ∧ W.cell? ⟨b,4,none⟩ = some v4 ∧ W.cell? ⟨b,5,none⟩ = some v5 ∧ W.cell? ⟨b,6,none⟩ = some v6 ∧ W.cell? ⟨b,7,none⟩ = some v7 ∧ W.cell? ⟨b,8,none⟩ = some v8 ∧ W.cell? ⟨b,9,none⟩ = some v9 ∧ W.cell? ⟨b,10,none⟩ = some v10 ∧ W.cell? ⟨b,11,none⟩ = some v11 :=
 ⟨h.cell rfl,h.cell rfl,h.cell rfl,h.cell rfl,h.cell rfl,h.cell rfl,h.cell rfl,h.cell rfl,h.cell rfl,h.cell rfl,h.cell rfl,h.cell rfl⟩
theorem BoxN.c4 {W : World} {b : Nat} {t : TypeId} {v0 v1 v2 v3 : Value} (h : BoxN W b t [v0,v1,v2,v3]) : W.cell? ⟨b,0,none⟩ = some v0 ∧ W.cell? ⟨b,1,none⟩ = some v1 ∧ W.cell? ⟨b,2,none⟩ = some v2 ∧ W.cell? ⟨b,3,none⟩ = some v3 :=
 ⟨h.cell rfl,h.cell rfl,h.cell rfl,h.cell rfl⟩
def bxS (a:Nat→Option Addr) (m c:Nat→Nat):List Value:=[.slice (a 0) (m 0) (c 0),.slice (a 1) (m 1) (c 1),.slice (a 2) (m 2) (c 2),.slice (a 3) (m 3) (c 3),.slice (a 4) (m 4) (c 4),.slice (a 5) (m 5) (c 5),.slice (a 6) (m 6) (c 6),.slice (a 7) (m 7) (c 7),.slice (a 8) (m 8) (c 8),.slice (a 9) (m 9) (c 9),.slice (a 10) (m 10) (c 10),.slice (a 11) (m 11) (c 11)]
def StB (W:World) (b:Nat) (a:Nat→Option Addr) (m c:Nat→Nat):Prop:=BoxN W b 29 (bxS a m c)
section
variable {P : Program} {t e : TypeId} {n sz : Nat} {fs : Array Field} {ops : Array Oper} {rest : List Oper} {o : Oper} {A : Act} {K : Act → World → Prop} {Q : Exit → Act → World → Prop} {w : World}
structure AsP (P:Program) (t e:TypeId) (n sz:Nat):Prop where
 hT:P.underlying t=some (.array n e)
 hS:∃ fs,P.underlying e=some (.struct fs)
 hs:(P.info? e).map (·.size)=some sz
 pos:0<sz
 big:1<n
def SgQ (P:Program) (t:TypeId) (n:Nat):Prop:=(∃ fs,P.underlying t=some (.struct fs))∧(P.info? t).map (·.size)=some n
def FdQ (P:Program) (t:TypeId) (i off:Nat):Prop:=∃ fs f m,P.underlying t=some (.struct fs)∧fs[i]?=some f∧f.offset=off∧(P.info? f.type).map (·.size)=some (m+1)
theorem wp_fieldQ {i o2 : Nat} (hP : FdQ P t i o2) {x : Operand} {b off : Nat} (ho : o.op = .fieldAddr t x i) (hx : A.eval x = .pointer (some ⟨b,off,none⟩)) (h : K (A.put o.dst (.pointer (some ⟨b,off + o2,none⟩))) w) : o.wp P A w K Q := by
 obtain ⟨fs,f,m,hu,hf,ho2,hs⟩ := hP
 subst ho2
 refine wp_run' ?_ h
 simp only [execOp,ho,hx]
 simp [Instr.fieldAt,run_underlying hu,fieldPlace,hf,run_sizeOf' hs,go_sem,Addr.add]
theorem wp_loadQ {us : List Value} (hP : SgQ P t us.length) {x : Operand} {b off : Nat} (ho : o.op = .load t x) (hx : A.eval x = .pointer (some ⟨b,off,none⟩)) (hc : ∀ j u,us[j]? = some u → w.cell? ⟨b,off + j,none⟩ = some u) (h : K (A.put o.dst (.agg us.toArray)) w) : o.wp P A w K Q := by
 obtain ⟨⟨fs,hu⟩,hs⟩ := hP
 have hr := run_loadCells_list (P := P) (w := w) ⟨b,off,none⟩ us (fun j v hj => by rw [Addr.add_lit]; exact hc j v hj)
 have hr' : (loadCellsFrom ⟨b,off,none⟩ 0 us.length #[]).run P w = .ok us.toArray w := hr
 clear hr
 refine wp_run' ?_ h
 simp only [execOp,ho,hx]
 simp [Instr.loadAt,loadVar,isAgg,run_underlying hu,run_sizeOf' hs,hr',go_sem]
theorem wp_ixS (hP:AsP P t e n sz) {x i:Operand} {cs us:Array Value} {kk:IntKind} {j:Int} {k:Nat} (ho:o.op=.index t x i) (hx:A.eval x=.agg cs) (hi:A.eval i=.int kk j) (hj:j=(k:Int)) (hk:k<n) (hu:cs.extract (k*sz) (k*sz+sz)=us) (h:K (A.put o.dst (.agg us)) w):o.wp P A w K Q:=by
 subst hj
 obtain⟨fs,hS⟩:=hP.hS
 refine wp_run' ?_ h
 simp only [execOp,ho,hx,hi]
 simp [Instr.index,run_underlying hP.hT,asIntOf,run_sizeOf' hP.hs,part,isAgg,run_underlying hS,go_sem,hk,hu]
theorem wpList_ixS (hP:AsP P t e n sz) {x i:Operand} {cs us:Array Value} {kk:IntKind} {j:Int} (k:Nat) (ho:o.op=.index t x i) (hgd:Region.wanted o (yielded ops A.tmps)=true) (hx:A.eval x=.agg cs) (hi:A.eval i=.int kk j) (hj:j=(k:Int)) (hk:k<n) (hu:cs.extract (k*sz) (k*sz+sz)=us) (h:wpList P ops Q rest (A.put o.dst (.agg us)) w):wpList P ops Q (o::rest) A w :=
 BigFrame.wpList_want hgd fun _ hK=>wp_ixS hP ho hx hi hj hk hu (hK _ _ h)
theorem wp_boxPut {tb : TypeId} {vs us : List Value} {x y : Operand} {b f : Nat} (hs : (P.info? t).map (·.size) = some us.length) (ho : o.op = .store t x y) (hx : A.eval x = .pointer (some ⟨b,f,none⟩)) (hy : A.eval y = .agg us.toArray) (h1 : us.all (·.oneCell') = true) (hb : BoxN w b tb vs) (hf : f + us.length ≤ vs.length)
  (h : ∀ w',w.grownBy w' (some b) → BoxN w' b tb (vs.take f ++ (us ++ vs.drop (f + us.length))) → K (A.put o.dst undef) w') : o.wp P A w K Q := by
 have h1' : ∀ v ∈ us,v.oneCell' = true := fun v hv => List.all_eq_true.1 h1 v hv
 have hst := run_storeCells_at (P := P) b f tb us 0 vs.toArray w hb (by simpa using hf) h1'
 rw [Nat.add_zero] at hst
 obtain ⟨w',hw'⟩ : ∃ w',w' = w.setRow b (vs.toArray.toList.take f ++ us ++ vs.toArray.toList.drop (f + us.length)).toArray := ⟨_,rfl⟩
 rw [← hw'] at hst
 refine wp_skip ?_ (h w' ⟨by rw [hw']; rfl,by rw [hw']; rfl,by rw [hw']; rfl,by rw [hw']; simp [World.setRow],fun k _ hk => ?_⟩ ?_)
 ·simp only [execOp,ho,hx,hy]
  simp [Instr.storeAt,storeVar,run_sizeOf' hs,Value.cells,hst,go_sem]
 ·have hkb : k ≠ b := fun e => hk (by rw [e])
  rw [hw']
  simp [World.setRow,Array.getElem?_modify,Ne.symm hkb]
 ·unfold BoxN at hb ⊢
  rw [hw']
  simp [World.setRow,Array.getElem?_modify,hb]
theorem wpList_boxPut {tb : TypeId} {vs us : List Value} {x y : Operand} {b f : Nat} (hs : (P.info? t).map (·.size) = some us.length) (ho : o.op = .store t x y) (hd : o.dst = none) (hgd : Region.wanted o (yielded ops A.tmps) = true) (hx : A.eval x = .pointer (some ⟨b,f,none⟩)) (hy : A.eval y = .agg us.toArray) (h1 : us.all (·.oneCell') = true) (hb : BoxN w b tb vs) (hf : f + us.length ≤ vs.length)
  (h : ∀ w',w.grownBy w' (some b) → BoxN w' b tb (vs.take f ++ (us ++ vs.drop (f + us.length))) → wpList P ops Q rest A w') : wpList P ops Q (o :: rest) A w :=
 BigFrame.wpList_want hgd fun _ hK => wp_boxPut hs ho hx hy h1 hb hf fun w' h2 h3 => hK _ _ (by rw [hd]; exact h w' h2 h3)
theorem wp_ixP (hP : AsP P t e n sz) {x i : Operand} {b off k : Nat} {kk : IntKind} {j : Int} (ho : o.op = .indexAddr t x i) (hx : A.eval x = .pointer (some ⟨b,off,none⟩)) (hi : A.eval i = .int kk j) (hj : j = (k : Int)) (hk : k < n)
  (h : K (A.put o.dst (.pointer (some ⟨b,off + k * sz,none⟩))) w) : o.wp P A w K Q := by
 subst hj
 refine wp_run' ?_ h
 have hb := hP.big
 simp only [execOp,ho,hx,hi]
 simp [Instr.indexAt,run_underlying hP.hT,asIntOf,Instr.sureAddr,run_sizeOf' hP.hs,go_sem,Addr.add,hk]
 try omega
theorem wpList_ixP (hP : AsP P t e n sz) {x i : Operand} {b off : Nat} (k : Nat) {kk : IntKind} {j : Int} (ho : o.op = .indexAddr t x i) (hgd : Region.wanted o (yielded ops A.tmps) = true) (hx : A.eval x = .pointer (some ⟨b,off,none⟩)) (hi : A.eval i = .int kk j) (hj : j = (k : Int)) (hk : k < n)
  (h : wpList P ops Q rest (A.put o.dst (.pointer (some ⟨b,off + k * sz,none⟩))) w) : wpList P ops Q (o :: rest) A w :=
 BigFrame.wpList_want hgd fun _ hK => wp_ixP hP ho hx hi hj hk (hK _ _ h)
end
theorem stS7:SgQ Tryz.prog 29 12:=⟨⟨_,Tryz.underlying29⟩,by kernel_rfl⟩
theorem stF7:FdQ Tryz.prog 29 0 0:=⟨_,_,11,Tryz.underlying29,rfl,rfl,by kernel_rfl⟩
theorem spS7:StP Tryz.prog 32 4:=StP.of (by kernel_rfl)
theorem taP:AsP Tryz.prog 27 26 4 3:=⟨by kernel_rfl,⟨_,Tryz.underlying26⟩,by kernel_rfl,by omega,by omega⟩
set_option maxRecDepth 100000 in
theorem known_any (w:World) (t:Int):Calls Tryz.prog 43 #[.int .i64 t] w fun e w'=>e=.returned (.bool (decide (0≤t)&&decide (t<4)))∧w'=w:=by
 go_enter Tryz.func43,Tryz.ntmps43
 cases h1:decide (0≤t) with
 | false =>
  go_wp2_with fail
  go_ret
  exact⟨rfl,rfl⟩
 | true =>
  cases h2:decide (t<4) with
  | false =>
   go_wp2_with fail
   go_ret
   exact⟨rfl,rfl⟩
  | true =>
   go_wp2_with fail
   go_ret
   exact⟨rfl,rfl⟩
set_option maxRecDepth 100000 in
theorem version_any (w:World) (w0:Wr) (a a2:Option Addr) (c c2:Nat) (s:Int):Calls Tryz.prog 45 #[.agg #[.int .i64 w0.table,.slice a w0.key.length c,.bool w0.gone,.slice a2 w0.val.length c2],.int .i64 s] w fun e w'=>e=.returned (.agg #[.int .i64 s,.bool w0.gone,.slice a2 w0.val.length c2])∧Below w.heap.size w w':=by
 go_enter Tryz.func45,Tryz.ntmps45
 obtain⟨W,hW⟩:∃ W,W=(w.alloc (.cells #[.int .i64 w0.table,.slice a w0.key.length c,.bool w0.gone,.slice a2 w0.val.length c2] 51)).alloc (.cells #[.int .i64 s,.bool w0.gone,.slice a2 w0.val.length c2] 87):=⟨_,rfl⟩
 have q:Below w.heap.size w W:=by rw [hW];exact ((Below.refl _ _).alloc (Nat.le_refl _) _).alloc (by simp) _
 have bn:TriV W (w.heap.size+1) 87 (.int .i64 s) (.bool w0.gone) (.slice a2 w0.val.length c2):=by
  rw [hW]
  have:=TriV.new (w.alloc (.cells #[.int .i64 w0.table,.slice a w0.key.length c,.bool w0.gone,.slice a2 w0.val.length c2] 51)) 87 (.int .i64 s) (.bool w0.gone) (.slice a2 w0.val.length c2)
  rwa [World.size_alloc] at this
 have d0:=bn.cell0
 have d1:=bn.cell1
 have d2:=bn.cell2
 obtain⟨fs,hu,_,_⟩:=verS.hu
 go_wp2
 rw [← hW]
 clear hW
 refine bodyPost_ret (v:=.agg #[.int .i64 s,.bool w0.gone,.slice a2 w0.val.length c2]) (by simp [results,Tryz.results45,go_sem,loadVar,isAgg,run_underlying hu,run_sizeOf' verS.hs,loadCellsFrom,Addr.add,d0,d1,d2]) rfl ?_
 exact⟨rfl,q⟩
end Go.Proofs.YtlpfhgdnmjkngaaGreat
namespace Go.Proofs.YtlpfhgdnmjkngaaGreat
open Go.RowKit
section
variable {P : Program} {T E S : TypeId} {o : Oper} {a : Act} {K : Act → Prop} {w : World}
theorem quiet_conv (hP:ByP P T E S) {x:Operand} (ho:o.op=.convert T S x) {B:Nat} {v:Value} {xs:List UInt8} (hx:a.eval x=v) (hr:Rd B w v xs) (h:K (a.put o.dst (.string (strOf xs)))):o.quiet P a (fun w''=>∃ n,w''=w.drewN n) K:=by
 refine⟨_,fun w2 h2=>?_,h⟩
 obtain⟨n,rfl⟩:=h2
 have hr2:Rd B (w.drewN n) v xs:=hr
 unfold Oper.quietAt execOp
 simp only [ho,hx,Sem.run_bind,Sem.run_pure,Result.andThen_ok,run_conv hP hr2]
 exact⟨rfl,rfl⟩
end
end Go.Proofs.YtlpfhgdnmjkngaaGreat
namespace Go.Proofs.YtlpfhgdnmjkngaaGreat
open Go.ChangeShapes Go.WideShapes Go.ChangeAt Go.RowKit Go.Deep
set_option maxRecDepth 4000 in
theorem opens_ver:Opens Tryz.prog 87 Elt.ver:=by
 intro H enc w base held fuel cs x h
 obtain⟨y0,y1,y2,n,_,hl,h0,h1,h2⟩:=trod_struct3 Tryz.underlying87 h
 have hc:cs.length=3:=hl.trans (by kernel_rfl)
 match cs,hc with
 | [u,v,r],_ =>
  obtain⟨m,hm,_,hw⟩:=DataW.trod_int (by kernel_rfl:Tryz.prog.underlying 3=some (.int .i64)) (h0:DataW.trod enc Tryz.prog w base (fun _=>true) held n 3 [u]=some y0)
  obtain⟨g,hg,_⟩:=DataW.trod_bool (by kernel_rfl:Tryz.prog.underlying 4=some .bool) (h1:DataW.trod enc Tryz.prog w base (fun _=>true) held n 4 [v]=some y1)
  obtain⟨xs,v',hv,hR⟩:=Opens.bytes (P:=Tryz.prog) (t:=30) (e:=5) (by kernel_rfl) (by kernel_rfl) (by kernel_rfl) (h2:DataW.trod enc Tryz.prog w base (fun _=>true) held n 30 [r]=some y2)
  cases hm;cases hg;cases hv
  exact⟨⟨m,g,xs⟩,r,rfl,hR,i64w hw⟩
theorem opens_vers:Opens Tryz.prog 70 (Elt.list Elt.ver):=Opens.list (by kernel_rfl) (by kernel_rfl) opens_ver
end Go.Proofs.YtlpfhgdnmjkngaaGreat
namespace Go.Proofs.YtlpfhgdnmjkngaaGreat
open Go.RowKit
theorem findP_no:∀ {l:List Pr} {k:List UInt8},(∀ j (hj:j<l.length),¬ l[j].key=k)→findP l k=none
 | [],_,_=>rfl
 | p::l,k,hn=>by
  rw [findP_cons,if_neg (by have:=hn 0 (by simp);simpa using this)]
  exact findP_no fun j hj=>by have:=hn (j+1) (by simpa using hj);simpa using this
end Go.Proofs.YtlpfhgdnmjkngaaGreat
namespace Go.Proofs.YtlpfhgdnmjkngaaGreat
open Go.RowKit
def smallP(t:Nat)(n:Nd):Prop:=n.keys.length≤6∧n.chains.length≤6∧n.kids.length≤6∧(∀ j(h:j<n.keys.length),n.keys[j].length≤100)∧(∀ j(h:j<n.chains.length),n.chains[j].length≤20∧∀ r(hr:r<n.chains[j].length),n.chains[j][r].value.length≤100)∧(∀ j(h:j<n.kids.length),smallB t n.kids[j]=true)
theorem small_iff (t:Nat) (n:Nd):smallB (t+1) n=true↔smallP t n:=by
 simp only [smallB,Bool.and_eq_true,decide_eq_true_eq,List.all_eq_true]
 unfold smallP
 constructor
 ·rintro⟨⟨⟨⟨⟨h1,h2⟩,h3⟩,h4⟩,h5⟩,h6⟩
  refine⟨h1,h2,h3,fun j h=>h4 _ (List.getElem_mem h),fun j h=>?_,fun j h=>h6 _ (List.getElem_mem h)⟩
  obtain⟨h7,h8⟩:=h5 _ (List.getElem_mem h)
  exact⟨h7,fun r hr=>h8 _ (List.getElem_mem hr)⟩
 ·rintro⟨h1,h2,h3,h4,h5,h6⟩
  refine⟨⟨⟨⟨⟨h1,h2⟩,h3⟩,fun k hk=>?_⟩,fun c hc=>?_⟩,fun m hm=>?_⟩
  ·obtain⟨j,h,rfl⟩:=List.mem_iff_getElem.1 hk;exact h4 j h
  ·obtain⟨j,h,rfl⟩:=List.mem_iff_getElem.1 hc
   refine⟨(h5 j h).1,fun x hx=>?_⟩
   obtain⟨r,hr,rfl⟩:=List.mem_iff_getElem.1 hx
   exact (h5 j h).2 r hr
  ·obtain⟨j,h,rfl⟩:=List.mem_iff_getElem.1 hm;exact h6 j h
theorem small_no {t:Nat} {n:Nd} (h:¬ smallP t n):smallB (t+1) n=false:=by
 cases hb:smallB (t+1) n with
 | false=>rfl
 | true=>exact absurd ((small_iff t n).1 hb) h
def SmallAt (t:Nat):Prop:=∀ (n:Nd) (w:World) (S:Nat→Prop) (v:Value),t≤1000→RdN S w v n →
  Calls Tryz.prog 28 #[v,.int .i64 ((t:Int) - 1)] w fun e w'=>e=.returned (.bool (smallB t n))∧Below w.heap.size w w'
set_option maxRecDepth 100000 in
set_option maxHeartbeats 4000000 in
theorem smallN_step (t : Nat) (ih : SmallAt t) : SmallAt (t + 1) := by
  intro n w S v ht hr
  unfold SmallAt at ih
  obtain ⟨l1,l2,l3⟩ := hr.lens
  obtain ⟨a1,c1,a2,c2,a3,c3,rfl,r1,r2,r3⟩ := hr
  have hT := TriV.new w 26 (.slice a1 n.keys.length c1) (.slice a2 n.chains.length c2) (.slice a3 n.kids.length c3)
  have q : Below w.heap.size w (w.alloc (.cells #[.slice a1 n.keys.length c1,.slice a2 n.chains.length c2,.slice a3 n.kids.length c3] 26)) := (Below.refl _ _).alloc (Nat.le_refl _) _
  have e0 : ((t + 1 : Nat) : Int) - 1 = (t : Int) := by omega
  rw [e0]
  clear e0
  have HNO := Lib.hid (small_no (t := t) (n := n))
  have dt : decide ((t : Int) < 0) = false := decide_eq_false (by omega)
  go_enter Tryz.func28,Tryz.ntmps28
  go_upto_region 1 with (fail)
  generalize w.alloc (.cells #[.slice a1 n.keys.length c1,.slice a2 n.chains.length c2,.slice a3 n.kids.length c3] 26) = W at *
  have t0 := hT.cell0
  have t1 := hT.cell1
  have t2 := hT.cell2
  by_cases h1 : 6 < n.keys.length
  ·have H := Lib.hid (HNO.out fun h => by have := h.1; omega)
   have d1 : decide ((6 : Int) < n.keys.length) = true := decide_eq_true (by omega)
   go_wp2_with fail
   go_ret
   exact ⟨by rw [H.out]; rfl,q⟩
  ·have d1 : decide ((6 : Int) < n.keys.length) = false := decide_eq_false (by omega)
   by_cases h2 : 6 < n.chains.length
   ·have H := Lib.hid (HNO.out fun h => by have := h.2.1; omega)
    have d2 : decide ((6 : Int) < n.chains.length) = true := decide_eq_true (by omega)
    go_wp2_with fail
    go_ret
    exact ⟨by rw [H.out]; rfl,q⟩
   ·have d2 : decide ((6 : Int) < n.chains.length) = false := decide_eq_false (by omega)
    by_cases h3 : 6 < n.kids.length
    ·have H := Lib.hid (HNO.out fun h => by have := h.2.2.1; omega)
     have d3 : decide ((6 : Int) < n.kids.length) = true := decide_eq_true (by omega)
     go_wp2_with fail
     go_ret
     exact ⟨by rw [H.out]; rfl,q⟩
    ·have d3 : decide ((6 : Int) < n.kids.length) = false := decide_eq_false (by omega)
     have H1 := Lib.hid (show n.keys.length ≤ 6 ∧ n.chains.length ≤ 6 ∧ n.kids.length ≤ 6 from ⟨by omega,by omega,by omega⟩)
     go_upto_region 4 with (fail)
     clear d1 d2 d3 h1 h2 h3
     go_loopw [5] (fun iv wr => ∃ i : Nat,iv = .int .i64 i ∧ i ≤ n.keys.length ∧ (∀ j (h : j < n.keys.length),j < i → n.keys[j].length ≤ 100) ∧ W = wr) (fun i _ => n.keys.length - (intOf i).toNat)
     case atStart => exact ⟨0,rfl,Nat.zero_le _,fun j _ h => absurd h (Nat.not_lt_zero _),rfl⟩
     case round =>
      obtain ⟨i,rfl,hil,hall,rfl⟩ := hrel
      rcases Nat.lt_or_ge i n.keys.length with hlt | hge
      ·obtain ⟨b,off,Ak,C,rfl,c0,hky⟩ := (r1.below q).byt i hlt
       have hkl := hky.len
       unfold maxLen at hkl
       by_cases h : 100 < n.keys[i].length
       ·have H := Lib.hid (HNO.out fun hs => by have := hs.2.2.2.1 i hlt; omega)
        have d1 : decide ((100 : Int) < n.keys[i].length) = true := decide_eq_true (by omega)
        clear hall
        go_wp2_with fail
        go_ret
        exact ⟨by rw [H.out]; rfl,q⟩
       ·have d1 : decide ((100 : Int) < n.keys[i].length) = false := decide_eq_false (by omega)
        have hall' : ∀ j (h : j < n.keys.length),j < i + 1 → n.keys[j].length ≤ 100 := fun j hj h5 => by
         rcases Nat.lt_or_ge j i with h6 | h6
         ·exact hall j hj h6
         ·obtain rfl : j = i := by omega
          omega
        have HA := Lib.hid hall'
        clear hall hall' h
        go_wp2_with fail
        go_roundw
        case rel => exact ⟨i + 1,by go_num,by omega,HA.out,by first | rfl | trivial⟩
        case measure => simp [intOf]; omega
      ·obtain rfl : i = n.keys.length := by omega
       have HK := Lib.hid hall
       clear hall
       go_upto_region 9 with (fail)
       go_loopw [6] (fun iv wr => ∃ i : Nat,iv = .int .i64 i ∧ i ≤ n.chains.length ∧ (∀ j (h : j < n.chains.length),j < i → n.chains[j].length ≤ 20 ∧ ∀ r (hr : r < n.chains[j].length),n.chains[j][r].value.length ≤ 100) ∧ W = wr) (fun i _ => n.chains.length - (intOf i).toNat)
       case atStart => exact ⟨0,rfl,Nat.zero_le _,fun j _ h => absurd h (Nat.not_lt_zero _),rfl⟩
       case round =>
        obtain ⟨i,rfl,hil,hall,rfl⟩ := hrel
        rcases Nat.lt_or_ge i n.chains.length with hlt | hge
        ·obtain ⟨b,off,Ak,C,rfl,c0,hcc⟩ := (r2.below q).lst i hlt
         have hkl := hcc.len
         unfold maxLen at hkl
         by_cases h : 20 < n.chains[i].length
         ·have H := Lib.hid (HNO.out fun hs => by have := (hs.2.2.2.2.1 i hlt).1; omega)
          have d1 : decide ((20 : Int) < n.chains[i].length) = true := decide_eq_true (by omega)
          clear hall
          go_wp2_with fail
          go_ret
          exact ⟨by rw [H.out]; rfl,q⟩
         ·have d1 : decide ((20 : Int) < n.chains[i].length) = false := decide_eq_false (by omega)
          have HA := Lib.hid hall
          have H20 := Lib.hid (show n.chains[i].length ≤ 20 by omega)
          clear hall h
          go_upto_region 14 with (fail)
          go_loopw [7] (fun iv wr => ∃ r : Nat,iv = .int .i64 r ∧ r ≤ n.chains[i].length ∧ (∀ j (h : j < n.chains[i].length),j < r → n.chains[i][j].value.length ≤ 100) ∧ W = wr) (fun r _ => n.chains[i].length - (intOf r).toNat)
          case atStart => exact ⟨0,rfl,Nat.zero_le _,fun j _ h => absurd h (Nat.not_lt_zero _),rfl⟩
          case round =>
           obtain ⟨r,rfl,hrl,hrall,rfl⟩ := hrel
           rcases Nat.lt_or_ge r n.chains[i].length with hrlt | hrge
           ·obtain ⟨b2,off2,A2,C2,rfl,hb2,k0,k1,k2,hv,hi,hn1,hn2⟩ := hcc.ver r hrlt
            unfold maxLen at hn2
            by_cases h : 100 < n.chains[i][r].value.length
            ·have H := Lib.hid (HNO.out fun hs => by have := (hs.2.2.2.2.1 i hlt).2 r hrlt; omega)
             have d2 : decide ((100 : Int) < n.chains[i][r].value.length) = true := decide_eq_true (by omega)
             clear hrall
             go_wp2_with fail
             go_ret
             exact ⟨by rw [H.out]; rfl,q⟩
            ·have d2 : decide ((100 : Int) < n.chains[i][r].value.length) = false := decide_eq_false (by omega)
             have hall' : ∀ j (h : j < n.chains[i].length),j < r + 1 → n.chains[i][j].value.length ≤ 100 := fun j hj h5 => by
              rcases Nat.lt_or_ge j r with h6 | h6
              ·exact hrall j hj h6
              ·obtain rfl : j = r := by omega
               omega
             have HA2 := Lib.hid hall'
             clear hrall hall' h
             go_wp2_with fail
             go_roundw
             case rel => exact ⟨r + 1,by go_num,by omega,HA2.out,by first | rfl | trivial⟩
             case measure => simp [intOf]; omega
           ·obtain rfl : r = n.chains[i].length := by omega
            have hall' : ∀ j (h : j < n.chains.length),j < i + 1 → n.chains[j].length ≤ 20 ∧ ∀ r (hr : r < n.chains[j].length),n.chains[j][r].value.length ≤ 100 := fun j hj h5 => by
             rcases Nat.lt_or_ge j i with h6 | h6
             ·exact HA.out j hj h6
             ·obtain rfl : j = i := by omega
              exact ⟨H20.out,fun r hr => hrall r hr hr⟩
            have HA2 := Lib.hid hall'
            clear hrall hall'
            go_wp2_with fail
            go_roundw
            case rel => exact ⟨i + 1,by go_num,by omega,HA2.out,by first | rfl | trivial⟩
            case measure => simp [intOf]; omega
        ·obtain rfl : i = n.chains.length := by omega
         have HC := Lib.hid hall
         clear hall
         go_upto_region 19 with (fail)
         go_loopw [8] (fun iv wr => ∃ i : Nat,iv = .int .i64 i ∧ i ≤ n.kids.length ∧ (∀ j (h : j < n.kids.length),j < i → smallB t n.kids[j] = true) ∧ TriV wr w.heap.size 26 (.slice a1 n.keys.length c1) (.slice a2 n.chains.length c2) (.slice a3 n.kids.length c3) ∧ Below w.heap.size w wr) (fun i _ => n.kids.length - (intOf i).toNat)
         case atStart => exact ⟨0,rfl,Nat.zero_le _,fun j _ h => absurd h (Nat.not_lt_zero _),hT,q⟩
         case round =>
          clear hT q t0 t1 t2
          obtain ⟨i,rfl,hil,hall,hT,q⟩ := hrel
          have t0 := hT.cell0
          have t1 := hT.cell1
          have t2 := hT.cell2
          rcases Nat.lt_or_ge i n.kids.length with hlt | hge
          ·obtain ⟨b3,off3,x1,y1,x2,y2,x3,y3,rfl,k0,k1,k2,hkr⟩ := (r3.below q).kid i hlt
           go_wp2_with fail
           refine (ih n.kids[i] _ S _ (by omega) hkr).mono ?_
           rintro e w1 ⟨rfl,hb⟩
           replace q := q.trans (hb.mono q.size)
           replace hT := hT.below hb hT.lt
           clear hb k0 k1 k2 hkr t0 t1 t2
           cases hs : smallB t n.kids[i] with
           | true =>
            have hall' : ∀ j (h : j < n.kids.length),j < i + 1 → smallB t n.kids[j] = true := fun j hj h5 => by
             rcases Nat.lt_or_ge j i with h6 | h6
             ·exact hall j hj h6
             ·obtain rfl : j = i := by omega
              exact hs
            have HA2 := Lib.hid hall'
            clear hall hall' hs
            go_wp2_with fail
            go_roundw
            case rel => exact ⟨i + 1,by go_num,by omega,HA2.out,hT,q⟩
            case measure => simp [intOf]; omega
           | false =>
            have H := Lib.hid (HNO.out fun h => by have := h.2.2.2.2.2 i hlt; rw [hs] at this; cases this)
            clear hall hs
            go_wp2_with fail
            go_ret
            exact ⟨by rw [H.out]; rfl,q⟩
          ·obtain rfl : i = n.kids.length := by omega
           have H := Lib.hid ((small_iff t n).2 ⟨H1.out.1,H1.out.2.1,H1.out.2.2,fun j h => HK.out j h h,fun j h => HC.out j h h,fun j h => hall j h h⟩)
           clear hall
           go_wp2_with fail
           go_ret
           exact ⟨by rw [H.out]; rfl,q⟩
set_option maxRecDepth 100000 in
set_option maxHeartbeats 1000000 in
theorem smallN_zero:SmallAt 0:=by
  intro n w S v _ hr
  obtain⟨l1,l2,l3⟩:=hr.lens
  obtain⟨a1,c1,a2,c2,a3,c3,rfl,r1,r2,r3⟩:=hr
  have q:Below w.heap.size w (w.alloc (.cells #[.slice a1 n.keys.length c1,.slice a2 n.chains.length c2,.slice a3 n.kids.length c3] 26)):=(Below.refl _ _).alloc (Nat.le_refl _) _
  have e0:((0:Nat):Int) - 1=-1:=by omega
  rw [e0]
  go_enter Tryz.func28,Tryz.ntmps28
  go_wp2_with fail
  go_ret
  exact⟨rfl,q⟩
theorem smallN_any(t:Nat):SmallAt t:=by
 induction t with
 | zero=>exact smallN_zero
 | succ t ih=>exact smallN_step t ih
end Go.Proofs.YtlpfhgdnmjkngaaGreat
namespace Go.Proofs.YtlpfhgdnmjkngaaGreat
open Go.ChangeShapes Go.WideShapes Go.ChangeAt Go.RowKit Go.Deep
section
variable {P : Program} {t e : TypeId}
theorem opens_listF {α : Type} {E : Elt α} (ht : P.underlying t = some (.slice e)) (hc : P.cellsOf e = E.size) {H : Type} {enc : TypeId × Value → H} {w : World} {base : Nat} {held : Bool} {fuel : Nat} {cs : List Value} {x : DataW H × List MemPlace} (h : DataW.trod enc P w base (fun _ => true) held fuel t cs = some x)
  (hE : ∀ n,n < fuel → ∀ cs x,DataW.trod enc P w base (fun _ => true) held n e cs = some x → ∃ d,E.R (· < w.heap.size) w d cs) : ∃ l v,cs = [v] ∧ RdL E (· < w.heap.size) w v l := by
 rcases DataW.trod_slice ht h with ⟨rfl,_⟩ | ⟨a,len,cap,elems,rest,n,hf,rfl,_,hb,hl,hm,hlen,hel,_,_⟩
 ·exact ⟨[],_,rfl,RdL.nil _ _ _⟩
 ·obtain ⟨l,hll,hp⟩ := choose_list (p := fun i d => ∃ cs',E.R (· < w.heap.size) w d cs' ∧ ∀ j,j < cs'.length → w.cell? (a.add (i * E.size + j)) = cs'[j]?) len (fun i hil => by
   have h1 := hel i hil
   rw [List.getElem?_eq_getElem (by omega)] at h1
   obtain ⟨cs',h2,h3⟩ := Option.bind_eq_some_iff.1 h1
   obtain ⟨d,hd⟩ := hE n (by omega) cs' _ h3
   obtain ⟨_,hcl,hat⟩ := World.cells?_some h2
   refine ⟨d,cs',hd,fun j hj => ?_⟩
   have := hat j (by omega)
   rw [add_add,hc] at this
   exact this)
  refine ⟨l,_,rfl,?_⟩
  rw [← hll] at hl ⊢
  refine ⟨some a,cap,rfl,hl,hm,?_⟩
  rcases Nat.eq_zero_or_pos l.length with h0 | h0
  ·exact .inl (List.eq_nil_of_length_eq_zero h0)
  ·obtain ⟨cs0,hR0,hc0⟩ := hp 0 h0
   have hl0 := E.len hR0
   have hpos := E.pos
   have hcell := hc0 0 (by omega)
   rw [List.getElem?_eq_getElem (by omega)] at hcell
   obtain ⟨b,off,spot⟩ := a
   have hspot : spot = none := by simpa [Addr.add] using World.cell?_spot hcell
   subst hspot
   have hblt := World.block_lt_of_cell? w _ hcell
   refine .inr ⟨b,off,rfl,by simpa [Addr.add_lit] using hblt,fun r hr => ?_⟩
   obtain ⟨cs',hR,hcs⟩ := hp r hr
   refine ⟨cs',hR,fun j u hj => ?_⟩
   have := hcs j (List.getElem?_eq_some_iff.1 hj).1
   rw [hj,Addr.add_lit,← Nat.add_assoc] at this
   exact this
end
set_option maxRecDepth 4000 in
theorem opens_nodeF:∀ (F:Nat) {H:Type} {enc:TypeId×Value→H} {w:World} {base:Nat} {held:Bool} {fuel:Nat} {cs:List Value} {x:DataW H×List MemPlace},fuel≤F→DataW.trod enc Tryz.prog w base (fun _=>true) held fuel 26 cs=some x→∃ d,Elt.nd.R (·<w.heap.size) w d cs:=by
 intro F
 induction F with
 | zero =>
  intro H enc w base held fuel cs x hF h
  obtain⟨xs,n,hn,_⟩:=DataW.trod_struct Tryz.underlying26 h
  omega
 | succ F ih =>
  intro H enc w base held fuel cs x hF h
  obtain⟨xs,n,hn,_,hl,hlen,hf⟩:=DataW.trod_struct Tryz.underlying26 h
  have hc:cs.length=3:=hl.trans (by kernel_rfl)
  match cs,hc,xs,hlen with
  | [u,v,r],_,[y0,y1,y2],_ =>
   have h0:DataW.trod enc Tryz.prog w base (fun _=>true) held n 22 [u]=some y0:=hf 0 _ rfl
   have h1:DataW.trod enc Tryz.prog w base (fun _=>true) held n 23 [v]=some y1:=hf 1 _ rfl
   have h2:DataW.trod enc Tryz.prog w base (fun _=>true) held n 24 [r]=some y2:=hf 2 _ rfl
   obtain⟨ks,u',hu,hku⟩:=opens_listF (E:=Elt.bytes) (P:=Tryz.prog) (t:=22) (e:=30) (by kernel_rfl) (by kernel_rfl) h0 (fun m _ cs x h=>Opens.bytes (P:=Tryz.prog) (t:=30) (e:=5) (by kernel_rfl) (by kernel_rfl) (by kernel_rfl) h)
   obtain⟨chs,v',hv,hcv⟩:=opens_listF (E:=Elt.list Elt.ver) (P:=Tryz.prog) (t:=23) (e:=70) (by kernel_rfl) (by kernel_rfl) h1 (fun m _ cs x h=>opens_vers h)
   obtain⟨ns,r',hr,hnr⟩:=opens_listF (E:=Elt.nd) (P:=Tryz.prog) (t:=24) (e:=26) (by kernel_rfl) (by kernel_rfl) h2 (fun m hm cs x h=>ih (by omega) h)
   cases hu;cases hv;cases hr
   exact⟨.mk ks chs ns,nd_in hku hcv hnr⟩
theorem opens_node:Opens Tryz.prog 26 Elt.nd:=fun {_ _ _ _ _ fuel _ _} h=>opens_nodeF fuel (Nat.le_refl _) h
end Go.Proofs.YtlpfhgdnmjkngaaGreat
namespace Go.Proofs.YtlpfhgdnmjkngaaGreat
open Go.RowKit Go.Shelf
theorem wf_I64 {s:Int}(h:(Lit.int .i64 s).wf=true):I64' s:=by
 simp [Lit.wf,IntKind.min,IntKind.max,IntKind.signed,IntKind.bits] at h
 unfold I64'
 omega
theorem stBox (w:World) (t:TypeId) (us:List Value):∃ W,W=w.alloc (.cells us.toArray t)∧Below w.heap.size w W∧BoxN W w.heap.size t us∧W.heap.size=w.heap.size+1 :=
 ⟨_,rfl,(Below.refl _ _).alloc (Nat.le_refl _) _,BoxN.new _ _ _,by simp only [World.alloc,Array.size_push]⟩
theorem stBoxes (w:World) (t t2:TypeId) (us vs:List Value):∃ W,W=(w.alloc (.cells us.toArray t)).alloc (.cells vs.toArray t2)∧Below w.heap.size w W∧BoxN W w.heap.size t us∧BoxN W (w.heap.size+1) t2 vs∧W.heap.size=w.heap.size+1+1:=by
 have h1:Below w.heap.size w (w.alloc (.cells us.toArray t)):=(Below.refl _ _).alloc (Nat.le_refl _) _
 have hs:(w.alloc (.cells us.toArray t)).heap.size=w.heap.size+1:=by simp only [World.alloc,Array.size_push]
 have hb:=BoxN.new (w.alloc (.cells us.toArray t)) t2 vs
 rw [hs] at hb
 exact⟨_,rfl,h1.alloc h1.size _,(BoxN.new w t us).below ((Below.refl _ _).alloc (Nat.le_refl _) _) (by rw [hs];omega),hb,by simp only [World.alloc,Array.size_push]⟩
theorem spQ7:SgQ Tryz.prog 32 4:=⟨⟨_,Tryz.underlying32⟩,by kernel_rfl⟩
def sgVq (l:List Pq):SG:=⟨fun w v=>∃ a c,v=.slice a l.length c∧RdL Elt.pq (fun _=>True) w (.slice a l.length c) l,fun _ _ _⟨a,c,e,h⟩hb=>⟨a,c,e,h.below hb⟩⟩
theorem str_lt7 {a b:List UInt8}:Op.bytesLess (strOf a).toList (strOf b).toList=ltB a b:=by
 rw [show (strOf a).toList=a by simp [strOf],show (strOf b).toList=b by simp [strOf]]
 rfl
theorem NextEnd.got {w w':World} {r:Option (List UInt8)} {v:List UInt8} {e:Ending} (h:NextEnd w r e w') (hr:r=some v):∃ a c,e=.returned (.tuple #[.slice a v.length c,.bool true])∧RdS (fun _=>True) w' (.slice a v.length c) v∧Below w.heap.size w w':=by
 subst hr
 obtain⟨a,c,e,r,b⟩:=h
 exact⟨a,c,e,r.weak fun _ _=>trivial,b⟩
def sgVt (v:List UInt8):SG:=⟨fun w u=>∃ a c,u=.tuple #[.slice a v.length c,.bool true]∧RdS (fun _=>True) w (.slice a v.length c) v,fun _ _ _⟨a,c,e,h⟩hb=>⟨a,c,e,h.below hb⟩⟩
def sgVb (v:List UInt8):SG:=⟨fun w u=>∃ a c,u=.slice a v.length c∧RdS (fun _=>True) w (.slice a v.length c) v,fun _ _ _⟨a,c,e,h⟩hb=>⟨a,c,e,h.below hb⟩⟩
section
variable {α : Type} {E : Elt α} {P : Program} {T Te : TypeId} {ops : Array Oper} {rest : List Oper} {o : Oper} {a : Act} {Q : Exit → Act → World → Prop} {w : World}
theorem wpList_maxI {x y:Operand} {ts:Array TypeId} {m n k:Int} (ho:o.op=.call { callee:=.builtin .max,args:=#[x,y],argTypes:=ts }) (hgd:Region.wanted o (yielded ops a.tmps)=true) (hx:a.eval x=.int .i64 m) (hy:a.eval y=.int .i64 n) (hk:k=max m n) (h:wpList P ops Q rest (a.put o.dst (.int .i64 k)) w):wpList P ops Q (o::rest) a w :=
 BigFrame.wpList_want hgd fun _ hK=>wp_maxI ho hx hy hk (hK _ _ h)
end
set_option maxRecDepth 4000 in
theorem open_st {H:Type} {enc:TypeId×Value→H} {w:World} {base:Nat} {held:Bool} {fuel:Nat} {cs:Array Value} {x:DataW H×List MemPlace} (h:DataW.trod enc Tryz.prog w base (fun _=>true) held fuel 29 (Value.agg cs).cells.toList=some x):∃ T,RdSt (·<w.heap.size) w (.agg cs) T:=by
 have e0:(Value.agg cs).cells.toList=cs.toList:=by simp [Value.cells]
 rw [e0] at h
 obtain⟨xs,n,_,_,hl,hlen,hf⟩:=DataW.trod_struct Tryz.underlying29 h
 have hc:cs.toList.length=12:=hl.trans (by kernel_rfl)
 obtain⟨l⟩:=cs
 match l,hc,xs,hlen with
 | [u0,u1,u2,u3,u4,u5,u6,u7,u8,u9,u10,u11],_,[y0],_ =>
  have h0:DataW.trod enc Tryz.prog w base (fun _=>true) held n 27 [u0,u1,u2,u3,u4,u5,u6,u7,u8,u9,u10,u11]=some y0:=hf 0 _ rfl
  obtain⟨ys,m,_,_,_,hn,hi⟩:=DataW.trod_array Tryz.underlying27 h0
  have hce:Tryz.prog.cellsOf 26=3:=by kernel_rfl
  have key:∀ i,i<4→∃ d,RdN (·<w.heap.size) w (.agg (List.take 3 (List.drop (i*3) [u0,u1,u2,u3,u4,u5,u6,u7,u8,u9,u10,u11])).toArray) d:=fun i h4=>by
   obtain⟨y,hy⟩:∃ y,ys[i]?=some y:=⟨_,List.getElem?_eq_getElem (by omega)⟩
   have h5:=hi i h4
   rw [hce,hy] at h5
   obtain⟨d,hR⟩:=opens_node h5
   exact⟨d,RdN.of hR⟩
  obtain⟨n0,r0⟩:=key 0 (by omega)
  replace r0:RdN (·<w.heap.size) w (.agg #[u0,u1,u2]) n0:=r0
  have q0:=r0
  obtain⟨a0,c0,a1,c1,a2,c2,e0,_⟩:=q0
  injection e0 with e0
  injection e0 with e0
  injection e0 with x0 e0
  injection e0 with x1 e0
  injection e0 with x2 e0
  subst x0 x1 x2
  clear e0
  obtain⟨n1,r1⟩:=key 1 (by omega)
  replace r1:RdN (·<w.heap.size) w (.agg #[u3,u4,u5]) n1:=r1
  have q1:=r1
  obtain⟨a3,c3,a4,c4,a5,c5,e1,_⟩:=q1
  injection e1 with e1
  injection e1 with e1
  injection e1 with x3 e1
  injection e1 with x4 e1
  injection e1 with x5 e1
  subst x3 x4 x5
  clear e1
  obtain⟨n2,r2⟩:=key 2 (by omega)
  replace r2:RdN (·<w.heap.size) w (.agg #[u6,u7,u8]) n2:=r2
  have q2:=r2
  obtain⟨a6,c6,a7,c7,a8,c8,e2,_⟩:=q2
  injection e2 with e2
  injection e2 with e2
  injection e2 with x6 e2
  injection e2 with x7 e2
  injection e2 with x8 e2
  subst x6 x7 x8
  clear e2
  obtain⟨n3,r3⟩:=key 3 (by omega)
  replace r3:RdN (·<w.heap.size) w (.agg #[u9,u10,u11]) n3:=r3
  have q3:=r3
  obtain⟨a9,c9,a10,c10,a11,c11,e3,_⟩:=q3
  injection e3 with e3
  injection e3 with e3
  injection e3 with x9 e3
  injection e3 with x10 e3
  injection e3 with x11 e3
  subst x9 x10 x11
  clear e3
  exact⟨fun i=>[n0,n1,n2,n3].getD i (.mk [] [] []),fun i=>[a0,a1,a2,a3,a4,a5,a6,a7,a8,a9,a10,a11].getD i none,fun i=>[n0.keys.length,n0.chains.length,n0.kids.length,n1.keys.length,n1.chains.length,n1.kids.length,n2.keys.length,n2.chains.length,n2.kids.length,n3.keys.length,n3.chains.length,n3.kids.length].getD i 0,fun i=>[c0,c1,c2,c3,c4,c5,c6,c7,c8,c9,c10,c11].getD i 0,rfl,fun i h4=>match i,h4 with
   | 0,_=>r0
   | 1,_=>r1
   | 2,_=>r2
   | 3,_=>r3⟩
end Go.Proofs.YtlpfhgdnmjkngaaGreat
