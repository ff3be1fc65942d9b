/-
  TEXTS OF ONE PROOF, merged: Elt, Ell, Ops, Dlt, Zro, StZ, StX, StY.
-/
import Derived.Below
import Derived.BigFrame
import Derived.BigFrameIn
import Derived.BigQuiet
import Derived.ChangeAlike
import Derived.ChangeSame
import Derived.ChangeSlices
import Derived.Deep.AppendSrc
import Derived.Deep.Cut
import Derived.Deep.DeepCutAuto
import Derived.Deep.Draws
import Derived.Deep.LoopGhost
import Derived.Deep.Matrix
import Derived.Deep.QuietTactic
import Derived.Deep.Slices
import Derived.Deep.Strs
import Derived.Deep.Upon
import Derived.IntWalk
import Derived.Laws.AppendOwnNone
import Derived.Laws.Cells
import Derived.Laws.CopyRow
import Derived.Laws.Externs
import Derived.Laws.MakeOwn
import Derived.Laws.OwnMore
import Derived.Laws.Tables
import Derived.Lib.AppendZerosOnto
import Derived.Lib.Bytealg
import Derived.Lib.BytesEntry
import Derived.Lib.Hide
import Derived.Lib.Overlaps
import Derived.Lib.SlBytesConst
import Derived.Lib.SmallJoins
import Derived.LoopIn
import Derived.LoopN
import Derived.LoopNIn
import Derived.Maps.AppendAt
import Derived.OpenShut
import Derived.Orders
import Derived.OrdersIn
import Derived.OwnWalkIn
import Derived.ProofKit
import Derived.RangeFuncBound
import Derived.RangeFuncBox
import Derived.RangeFuncCalls
import Derived.RangeFuncFrom
import Derived.RangeFuncLeaves
import Derived.RangeFuncNested
import Derived.RegionTactic
import Derived.ScopeJumps
import Derived.Shelf.Abstract
import Derived.Shelf.RegionOpen
import Derived.Sort.CutIn
import Derived.TacticsIn
import Derived.TacticsInMore
import Derived.Test.YtlpfhgdnmjkngaaGreatProg
import Derived.WalkKit
import Derived.WalkLawsBesides
import Derived.WalkMore
import Derived.WalkSpells
import Derived.Test.YtlpfhgdnmjkngaaGreatKr1
import Derived.Test.YtlpfhgdnmjkngaaGreatKr2
import Derived.Test.YtlpfhgdnmjkngaaGreatKr3
import Derived.Test.YtlpfhgdnmjkngaaGreatKr4
import Derived.Test.YtlpfhgdnmjkngaaGreatKr5
import Derived.Test.YtlpfhgdnmjkngaaGreatKr6
import Derived.Test.YtlpfhgdnmjkngaaGreatKr7
import Derived.Test.YtlpfhgdnmjkngaaGreatKr8
import Derived.Test.YtlpfhgdnmjkngaaGreatKr9
import Derived.Test.YtlpfhgdnmjkngaaGreatKr10
import Derived.Test.YtlpfhgdnmjkngaaGreatKr11
import Derived.Test.YtlpfhgdnmjkngaaGreatKr12
import Derived.Test.YtlpfhgdnmjkngaaGreatKr13
import Derived.Test.YtlpfhgdnmjkngaaGreatKr14
import Derived.Test.YtlpfhgdnmjkngaaGreatKr15
import Derived.Test.YtlpfhgdnmjkngaaGreatKr16
import Derived.Test.YtlpfhgdnmjkngaaGreatKr17
namespace Go.Proofs.YtlpfhgdnmjkngaaGreat
open Go.RowKit
section
variable {α : Type} {E : Elt α} {S S' : Nat → Prop} {w w' : World} {v : Value} {xs : List α}
theorem Elt.below {x:α} {vs:List Value} (h:E.R S w x vs) (hb:Below w.heap.size w w'):E.R S w' x vs :=
 E.weak (E.keep (E.fit h) fun k hk=>hb.block k hk.2) (fun _ h=>h.1)
end
end Go.Proofs.YtlpfhgdnmjkngaaGreat
namespace Go.Proofs.YtlpfhgdnmjkngaaGreat
open Go.RowKit
section
variable {α : Type} {E : Elt α} {T : TypeId} {base lo : Nat} {w w' : World} {v : Value} {xs : List α}
theorem OwnL.to {base' lo':Nat}(h:OwnL E T base lo w v xs)(hb:base'≤base)(hl:lo'≤lo):OwnL E T base' lo' w v xs:=by
 obtain⟨vs,h1,h2⟩:=h
 exact⟨vs,⟨h1.1,h1.2.imp id fun⟨g,cap,cur,a,b,c⟩=>⟨g,cap,cur,a,Nat.le_trans hb b,c⟩⟩,h2.weak fun k hk=>⟨Nat.le_trans hl hk.1,hk.2⟩⟩
end
section
variable {α : Type} {E : Elt α} {P : Program} {T Te : TypeId} {ops : Array Oper} {rest : List Oper} {o : Oper} {a : Act} {Q : Exit → Act → World → Prop} {w : World} {K : Act → World → Prop}
theorem wpList_appendL (hP:LoP P T Te E.size) {s x:Operand} (ho:o.op=.call { callee:=.builtin .append,args:=#[s,x],argTypes:=#[T,T] }) (hgd:Region.wanted o (yielded ops a.tmps)=true)
  {base lo:Nat} {vs:Value} {xs ys:List α} {ns:List Value} {p:Addr} {c:Nat} {S:Nat→Prop} (hs:a.eval s=vs) (hown:OwnL E Te base lo w vs xs) (hx:a.eval x=.slice (some p) ys.length c)
  (hcells:∀ j u,ns[j]?=some u→w.cell? (p.add j)=some u) (hn:Flat E S w ys ns) (hS:∀ k,S k→lo≤k∧k<w.heap.size∧some k≠vs.ownBlock) (hbase:base≤w.heap.size)
  (h:∀ ad k cap w',OwnL E Te base lo w' (.slice ad k cap) (xs++ys)→w.grownBy w' vs.ownBlock→(Value.ownBlock (.slice ad k cap)=vs.ownBlock∨Value.ownBlock (.slice ad k cap)=some w.heap.size)→wpList P ops Q rest (a.put o.dst (.slice ad k cap)) w') (hlen:xs.length+ys.length≤1073741824):wpList P ops Q (o::rest) a w :=
 BigFrame.wpList_want hgd fun _ hK=>wp_appendL hP ho hs hown hx hcells hn hS hbase (fun ad k cap w' h1 h2 h3=>hK _ _ (h ad k cap w' h1 h2 h3)) hlen
theorem run_append_zeroL (hP : LoP P T Te E.size) (w : World) {base lo : Nat} (ty : TypeId) {g : Addr} {ax : Option Addr} {cx nx : Nat} {ys : List α} {S : Nat → Prop} (hown : OwnL E Te base lo w (.slice (some g) 0 0) []) (hx : RdL E S w (.slice ax nx cx) ys)
  (hS : ∀ k,S k → lo ≤ k ∧ k < w.heap.size) (hbase : base ≤ w.heap.size) (hlen : ys.length ≤ 1073741824) :
  ∃ v' w',(Builtin.append_ #[T,T] ty #[.slice (some g) 0 0,.slice ax nx cx]).run P w = .ok v' w' ∧ OwnL E Te base lo w' v' ys ∧ Below w.heap.size w w' := by
 obtain ⟨i,z,hi,hz,hsz,hby,hzs⟩ := hP.all
 obtain ⟨rfl,_,_⟩ := hx.len
 by_cases h0 : ys = []
 ·subst h0
  have hsrc : Src P i.size T (.slice ax 0 cx) 0 [] w := by
   cases ax with
   | none => exact Src.ofNil w hP.hT cx
   | some p => exact Src.ofSlice w hP.hT p 0 cx [] (by simp) (fun j u h => by simp at h) (fun u h => by cases h)
  exact ⟨_,w,run_append_nothing w T T ty Te i hP.hT hi (some g) 0 0 (Nat.le_refl _) _ hsrc,hown,Below.refl _ _⟩
 ·have hpos : 0 < ys.length := List.length_pos_iff.2 h0
  obtain ⟨b,off,_,rfl,_⟩ := hx.at 0 hpos
  obtain ⟨ns,hn,hc⟩ := hx.flat
  have hnl := hn.len
  have hsrc : Src P i.size T (.slice (some ⟨b,off,none⟩) ys.length cx) ys.length ns w :=
   Src.ofSlice w hP.hT _ _ _ _ (by rw [hnl,hsz]) (fun j u hj => by rw [Addr.add_lit]; exact hc j u hj) hn.one
  have hbytes : (ys.length) * i.bytes ≤ 1073741824 * 4096 := Nat.mul_le_mul hlen hby
  have hr := run_append_grow_src (P := P) w T T ty Te i z hP.hT hi hz (some g) 0 0 [] (run_firstCells_some w.drew i.size 0 g 0 0 [] (by simp) (fun j u h => by simp at h)) _ _ _ hsrc (by omega) (by omega)
   (growslice_fits (by simp only [Nat.zero_add]; omega) (by simp only [Nat.zero_add]; omega))
  have hb : Below w.heap.size w (w.drew.alloc (.cells (([] ++ ns : List Value).toArray ++ Builtin.zeroCells z.cells (grownCap w (0 + ys.length) 0 Te - (0 + ys.length))) Te)) := ((Below.refl _ w).drew).alloc (Nat.le_refl _) _
  have hge := grownCap_ge w (0 + ys.length) 0 Te
  refine ⟨_,_,hr,⟨ns,⟨by rw [hnl],.inr ⟨w.heap.size,grownCap w (0 + ys.length) 0 Te,_,by rw [Nat.zero_add],hbase,heap_alloc_new w.drew _,by omega,grownCap_le_maxLen w _ _ _ (by unfold maxLen; omega),?_,?_⟩⟩,?_⟩,hb⟩
  ·rw [Nat.zero_add] at hge ⊢
   simp [size_zeroCells,hnl,hzs]
   rw [← Nat.add_mul]
   congr 1
   omega
  ·simp only [List.nil_append,Array.toList_append]
   rw [← hnl]
   simp
  ·refine ((hn.weak (S' := fun k => lo ≤ k ∧ k < w.heap.size) hS).keep (w' := _) (fun k hk => hb.block k hk.2)).weak fun k hk => ⟨hk.1,Nat.lt_of_lt_of_le hk.2 hb.size,?_⟩
   intro e
   have h5 := hk.2
   simp only [Value.ownBlock] at e
   injection e with e
   omega
theorem wp_append_zeroL (hP:LoP P T Te E.size) {s x:Operand} (ho:o.op=.call { callee:=.builtin .append,args:=#[s,x],argTypes:=#[T,T] })
  {base lo:Nat} {g:Addr} {ax:Option Addr} {cx nx:Nat} {ys:List α} {S:Nat→Prop} (hs:a.eval s=.slice (some g) 0 0) (hown:OwnL E Te base lo w (.slice (some g) 0 0) []) (hx:a.eval x=.slice ax nx cx) (hr:RdL E S w (.slice ax nx cx) ys)
  (hS:∀ k,S k→lo≤k∧k<w.heap.size) (hbase:base≤w.heap.size)
  (h:∀ ad k cap w',OwnL E Te base lo w' (.slice ad k cap) ys→Below w.heap.size w w'→K (a.put o.dst (.slice ad k cap)) w') (hlen:ys.length≤1073741824):o.wp P a w K Q:=by
 obtain⟨v',w',hrun,h2,h3⟩:=run_append_zeroL hP w o.type hown hr hS hbase hlen
 obtain⟨ad,cap,rfl⟩:=h2.shape
 unfold Oper.wp execOp
 simp only [ho,resolve,invoke,builtin,Sem.run_bind,Sem.run_pure,Result.andThen_ok,List.map_toArray,List.map_cons,List.map_nil,hs,hx,hrun]
 exact h _ _ _ _ h2 h3
end
end Go.Proofs.YtlpfhgdnmjkngaaGreat
namespace Go.Proofs.YtlpfhgdnmjkngaaGreat
open Go.RowKit
section
variable {P : Program} {T E S : TypeId} {o : Oper} {a : Act} {K : Act → World → Prop} {Q : Exit → Act → World → Prop} {w : World}
theorem wp_eqlI {t t2:TypeId} {x y:Operand} {k:IntKind} {m n:Int} (ho:o.op=.binOp .eql t x y t2) (hx:a.eval x=.int k m) (hy:a.eval y=.int k n) (h:K (a.put o.dst (.bool (decide (m=n)))) w):o.wp P a w K Q:=by
 refine wp_run (v:=.bool (decide (m=n))) ?_ h
 simp only [execOp,ho,hx,hy]
 simp [eqGuard,binOp,Op.intCmp,go_sem]
 by_cases e:m=n<;>simp [e]
end
end Go.Proofs.YtlpfhgdnmjkngaaGreat
namespace Go.Proofs.YtlpfhgdnmjkngaaGreat
open Go.ChangeShapes Go.WideShapes Go.ChangeAt Go.RowKit Go.Deep Go.Joins
theorem wrP:LoP Tryz.prog 62 51 4:=⟨⟨by kernel_rfl,by kernel_rfl⟩,.agg #[.int .i64 0,.slice none 0 0,.bool false,.slice none 0 0],64,by kernel_rfl,rfl,by omega⟩
end Go.Proofs.YtlpfhgdnmjkngaaGreat
namespace Go.Proofs.YtlpfhgdnmjkngaaGreat
open Go.RowKit
section
variable {α : Type} {E : Elt α} {P : Program} {T Te : TypeId} {ops : Array Oper} {rest : List Oper} {o : Oper} {a : Act} {Q : Exit → Act → World → Prop} {w : World} {K : Act → World → Prop}
theorem run_buildZero (hP : LoP P T Te E.size) (w : World) : (Instr.buildSlice T 0 #[]).run P w = .ok (.slice (some ⟨w.heap.size,0,none⟩) 0 0) (w.alloc (.cells #[] Te)) := by
 obtain ⟨i,z,hi,hz,hsz,hby,hzs⟩ := hP.all
 have e0 : Array.range 0 = #[] := by decide
 simp [Instr.buildSlice,run_underlying hP.hT,sizeOf,typeInfo,hi,newRow,Instr.fill,e0]
theorem ownL_zero (E : Elt α) (Te : TypeId) (w : World) : OwnL E Te w.heap.size w.heap.size (w.alloc (.cells #[] Te)) (.slice (some ⟨w.heap.size,0,none⟩) 0 0) [] := by
 refine ⟨[],⟨by simp,.inr ⟨w.heap.size,0,#[],rfl,Nat.le_refl _,?_,by simp,by unfold maxLen; omega,by simp,by simp⟩⟩,rfl⟩
 simp only [World.alloc,Array.getElem?_push_size]
theorem wp_buildZero (hP : LoP P T Te E.size) (ho : o.op = .buildSlice T 0 #[]) (h : ∀ w',Below w.heap.size w w' → OwnL E Te w.heap.size w.heap.size w' (.slice (some ⟨w.heap.size,0,none⟩) 0 0) [] → K (a.put o.dst (.slice (some ⟨w.heap.size,0,none⟩) 0 0)) w') : o.wp P a w K Q := by
 have hrun := run_buildZero (E := E) hP w
 unfold Oper.wp execOp
 simp only [ho,Sem.run_bind,Sem.run_pure,Result.andThen_ok,List.map_toArray,List.map_nil,hrun]
 exact h _ ((Below.refl _ _).alloc (Nat.le_refl _) _) (ownL_zero E Te w)
theorem wpList_buildZero (hP : LoP P T Te E.size) (ho : o.op = .buildSlice T 0 #[]) (hgd : Region.wanted o (yielded ops a.tmps) = true) (h : ∀ w',Below w.heap.size w w' → OwnL E Te w.heap.size w.heap.size w' (.slice (some ⟨w.heap.size,0,none⟩) 0 0) [] → wpList P ops Q rest (a.put o.dst (.slice (some ⟨w.heap.size,0,none⟩) 0 0)) w') : wpList P ops Q (o :: rest) a w :=
 BigFrame.wpList_want hgd fun _ hK => wp_buildZero hP ho fun w' h1 h2 => hK _ _ (h w' h1 h2)
theorem wpList_append_zeroL (hP:LoP P T Te E.size) {s x:Operand} (ho:o.op=.call { callee:=.builtin .append,args:=#[s,x],argTypes:=#[T,T] }) (hgd:Region.wanted o (yielded ops a.tmps)=true)
  {base lo:Nat} {g:Addr} {ax:Option Addr} {cx nx:Nat} {ys:List α} {S:Nat→Prop} (hs:a.eval s=.slice (some g) 0 0) (hown:OwnL E Te base lo w (.slice (some g) 0 0) []) (hx:a.eval x=.slice ax nx cx) (hr:RdL E S w (.slice ax nx cx) ys)
  (hS:∀ k,S k→lo≤k∧k<w.heap.size) (hbase:base≤w.heap.size)
  (h:∀ ad k cap w',OwnL E Te base lo w' (.slice ad k cap) ys→Below w.heap.size w w'→wpList P ops Q rest (a.put o.dst (.slice ad k cap)) w') (hlen:ys.length≤1073741824):wpList P ops Q (o::rest) a w :=
 BigFrame.wpList_want hgd fun _ hK=>wp_append_zeroL hP ho hs hown hx hr hS hbase (fun ad k cap w' h1 h2=>hK _ _ (h ad k cap w' h1 h2)) hlen
end
end Go.Proofs.YtlpfhgdnmjkngaaGreat
namespace Go.Proofs.YtlpfhgdnmjkngaaGreat
open Go.RowKit Go.Shelf
section
variable {α : Type} {E : Elt α} {P : Program} {T Te : TypeId} {ops : Array Oper} {rest : List Oper} {o : Oper} {a : Act} {Q : Exit → Act → World → Prop} {w : World}
theorem run_append_RL (hP:LoP P T Te E.size) (w:World) {base lo:Nat} (ty:TypeId) {ad ax:Option Addr} {n c cx nx:Nat} {xs ys:List α} {S:Nat→Prop} (hown:OwnL E Te base lo w (.slice ad n c) xs) (hx:RdL E S w (.slice ax nx cx) ys)
  (hS:∀ k,S k→lo≤k∧k<w.heap.size∧some k≠Value.ownBlock (.slice ad n c)) (hbase:base≤w.heap.size) (hlen:xs.length+ys.length≤1073741824) :
  ∃ v' w',(Builtin.append_ #[T,T] ty #[.slice ad n c,.slice ax nx cx]).run P w=.ok v' w'∧OwnL E Te base lo w' v' (xs++ys)∧w.grownBy w' (Value.ownBlock (.slice ad n c)):=by
 obtain⟨rfl,_,_⟩:=hx.len
 by_cases h0:ys=[]
 ·subst h0
  obtain⟨i,z,hi,hz,hsz,hby,hzs⟩:=hP.all
  have hsrc:Src P i.size T (.slice ax 0 cx) 0 [] w:=by
   cases ax with
   | none=>exact Src.ofNil w hP.hT cx
   | some p=>exact Src.ofSlice w hP.hT p 0 cx [] (by simp) (fun j u h=>by simp at h) (fun u h=>by cases h)
  have hle:n≤c:=hown.rdL.len.2.1
  exact⟨_,w,run_append_nothing w T T ty Te i hP.hT hi ad n c hle _ hsrc,by simpa using hown,⟨rfl,rfl,rfl,Nat.le_refl _,fun _ _ _=>rfl⟩⟩
 ·obtain⟨b,off,_,rfl,_⟩:=hx.at 0 (List.length_pos_iff.2 h0)
  obtain⟨ns,hn,hc⟩:=hx.flat
  obtain⟨v',w',h1,h2,h3,_⟩:=run_append_L hP w ty hown (fun j u hj=>by rw [Addr.add_lit];exact hc j u hj) hn hS hbase hlen
  exact⟨v',w',h1,h2,h3⟩
theorem wpList_appendRL (hP:LoP P T Te E.size) {s x:Operand} (ho:o.op=.call { callee:=.builtin .append,args:=#[s,x],argTypes:=#[T,T] }) (hgd:Region.wanted o (yielded ops a.tmps)=true)
  {base lo:Nat} {ad ax:Option Addr} {n c cx nx:Nat} {xs ys:List α} {S:Nat→Prop} (hs:a.eval s=.slice ad n c) (hown:OwnL E Te base lo w (.slice ad n c) xs) (hx:a.eval x=.slice ax nx cx) (hr:RdL E S w (.slice ax nx cx) ys)
  (hS:∀ k,S k→lo≤k∧k<w.heap.size∧some k≠Value.ownBlock (.slice ad n c)) (hbase:base≤w.heap.size)
  (h:∀ ad2 k cap w',OwnL E Te base lo w' (.slice ad2 k cap) (xs++ys)→w.grownBy w' (Value.ownBlock (.slice ad n c))→wpList P ops Q rest (a.put o.dst (.slice ad2 k cap)) w') (hlen:xs.length+ys.length≤1073741824):wpList P ops Q (o::rest) a w :=
 BigFrame.wpList_want hgd fun _ hK=>by
  obtain⟨v',w',hrun,h2,h3⟩:=run_append_RL hP w o.type hown hr hS hbase hlen
  obtain⟨ad2,cap,rfl⟩:=h2.shape
  unfold Oper.wp execOp
  simp only [ho,resolve,invoke,builtin,Sem.run_bind,Sem.run_pure,Result.andThen_ok,List.map_toArray,List.map_cons,List.map_nil,hs,hx,hrun]
  exact hK _ _ (h _ _ _ _ h2 h3)
theorem wpList_row7 (hP : LoP P T Te E.size) {x y : Operand} {base lo : Nat} {xs : List α} {S : Nat → Prop} {e : α} {us : List Value} {n g : Nat} {v : Value} (ho : o.op = .call { callee := .builtin .append,args := #[x,y],argTypes := #[T,T] }) (hgd : Region.wanted o (yielded ops a.tmps) = true) (hx : a.eval x = v) (hy : a.eval y = .slice (some ⟨g,0,none⟩) 1 1)
  (hO : OwnL E Te base lo w v xs) (hrow : w.heap[g]? = some (.cells us.toArray Te (0,0))) (hR : E.R S w e us) (hS : ∀ k,S k → lo ≤ k ∧ k < w.heap.size ∧ some k ≠ v.ownBlock) (hbase : base ≤ w.heap.size) (hlen : xs.length + 1 ≤ 1073741824) (hn : n = xs.length + 1)
  (h : ∀ ad cap w',OwnL E Te base lo w' (.slice ad n cap) (xs ++ [e]) → w.grownBy w' v.ownBlock → wpList P ops Q rest (a.put o.dst (.slice ad n cap)) w') : wpList P ops Q (o :: rest) a w := by
 refine wpList_appendL (E := E) (ys := [e]) hP ho hgd hx hO hy (fun j u hj => by rw [Addr.add_lit,World.cell?,hrow]; simpa using hj) (Flat.single hR) hS hbase (fun ad7 k7 cap7 w2 h2 hg h3 => ?_) hlen
 obtain rfl : k7 = n := by rw [h2.len,List.length_append,hn]; rfl
 exact h _ _ _ h2 hg
end
end Go.Proofs.YtlpfhgdnmjkngaaGreat
namespace Go.Proofs.YtlpfhgdnmjkngaaGreat
theorem scan_few (T:Sto) (x:Sp) (s:Int):(scanP (pickS T x.table) x s).length≤60:=by
 refine Nat.le_trans (List.length_filterMap_le _ _) ?_
 unfold pickS
 split
 ·rename_i h;exact (h.2.2 _ (by omega)).2
 ·simp
end Go.Proofs.YtlpfhgdnmjkngaaGreat
namespace Go.Proofs.YtlpfhgdnmjkngaaGreat
def putW (s:Int) (L:Tb) (x:Wr):Tb:=setT L x.table (putP (L x.table.toNat) x.key ((findP (L x.table.toNat) x.key).getD []++[verW x s]))
def putsW (s:Int):Tb→List Wr→Tb
 | L,[]=>L
 | L,x::r=>putsW s (putW s L x) r
def unlike(l:List Wr):Prop:=l.Pairwise fun a b=>¬(a.table=b.table∧a.key=b.key)
section
variable {s : Int} {L : Tb}
theorem putW_srt (h:∀ j,Srt (L j)) (x:Wr):∀ j,Srt (putW s L x j):=fun j=>by
 unfold putW setT
 split
 ·exact put_srt (h _)
 ·exact h j
theorem putW_find (h : ∀ j,Srt (L j)) {x : Wr} (hx : 0 ≤ x.table) (j : Nat) (k : List UInt8) : findP (putW s L x j) k = if (j : Int) = x.table ∧ x.key = k then some ((findP (L j) k).getD [] ++ [verW x s]) else findP (L j) k := by
 unfold putW setT
 by_cases e : (j : Int) = x.table
 ·have e2 : x.table.toNat = j := by omega
  rw [if_pos e,e2,put_find (h j)]
  by_cases ek : x.key = k
  ·rw [if_pos ek,if_pos ⟨e,ek⟩,ek]
  ·rw [if_neg ek,if_neg fun h => ek h.2]
 ·rw [if_neg e,if_neg fun h => e h.1]
theorem putW_len (h:∀ j,Srt (L j)) {x:Wr} (hx:0≤x.table) (j:Nat):(L j).length≤(putW s L x j).length:=by
 unfold putW setT
 by_cases e:(j:Int)=x.table
 ·have e2:x.table.toNat=j:=by omega
  rw [if_pos e,e2,put_len (h j)]
  split<;>omega
 ·rw [if_neg e];exact Nat.le_refl _
end
theorem putsW_srt {s:Int}:∀ {l:List Wr} {L:Tb},(∀ j,Srt (L j))→∀ j,Srt (putsW s L l j)
 | [],_,h,j=>h j
 | x::r,_,h,j=>putsW_srt (l:=r) (putW_srt h x) j
theorem putsW_len {s:Int}:∀ {l:List Wr} {L:Tb},(∀ j,Srt (L j))→(∀ x∈l,0≤x.table)→∀ j,(L j).length≤(putsW s L l j).length
 | [],_,_,_,_=>Nat.le_refl _
 | x::r,_,h,hx,j=>Nat.le_trans (putW_len h (hx x (by simp)) j) (putsW_len (l:=r) (putW_srt h x) (fun y hy=>hx y (by simp [hy])) j)
theorem putsW_no {s:Int}:∀ {l:List Wr} {L:Tb},(∀ j,Srt (L j))→(∀ x∈l,0≤x.table)→∀ {j:Nat} {k:List UInt8},(∀ x∈l,¬ ((j:Int)=x.table∧x.key=k))→findP (putsW s L l j) k=findP (L j) k
 | [],_,_,_,_,_,_=>rfl
 | x::r,L,h,hx,j,k,hn=>by
  show findP (putsW s (putW s L x) r j) k=_
  rw [putsW_no (l:=r) (putW_srt h x) (fun y hy=>hx y (by simp [hy])) fun y hy=>hn y (by simp [hy]),putW_find h (hx x (by simp)),if_neg (hn x (by simp))]
theorem putsW_yes {s : Int} : ∀ {l : List Wr} {L : Tb},(∀ j,Srt (L j)) → (∀ x ∈ l,0 ≤ x.table) → unlike l → ∀ {j : Nat} {x : Wr},x ∈ l → (j : Int) = x.table → findP (putsW s L l j) x.key = some ((findP (L j) x.key).getD [] ++ [verW x s])
 | y :: r,L,h,hx,hu,j,x,hm,hj => by
  have hu' := List.pairwise_cons.1 hu
  show findP (putsW s (putW s L y) r j) x.key = _
  have hy : ∀ z ∈ r,0 ≤ z.table := fun z hz => hx z (by simp [hz])
  rcases List.mem_cons.1 hm with rfl | hm
  ·rw [putsW_no (l := r) (putW_srt h x) hy fun z hz e => hu'.1 z hz ⟨by rw [← hj,e.1],e.2.symm⟩,putW_find h (hx x (by simp)),if_pos ⟨hj,rfl⟩]
  ·rw [putsW_yes (l := r) (putW_srt h y) hy hu'.2 hm hj,putW_find h (hx y (by simp)),if_neg fun e => hu'.1 x hm ⟨by rw [← hj,e.1],e.2⟩]
theorem unlike_rev {l : List Wr} (h : unlike l) : unlike l.reverse := by
 unfold unlike at h ⊢
 rw [List.pairwise_reverse]
 exact h.imp fun h e => h ⟨e.1.symm,e.2.symm⟩
theorem putsW_rev {s : Int} {l : List Wr} {L : Tb} (h : ∀ j,Srt (L j)) (hx : ∀ x ∈ l,0 ≤ x.table) (hu : unlike l) (j : Nat) : putsW s L l.reverse j = putsW s L l j := by
 have hx' : ∀ x ∈ l.reverse,0 ≤ x.table := fun x hm => hx x (List.mem_reverse.1 hm)
 refine srt_ext (putsW_srt h j) (putsW_srt h j) fun k => ?_
 by_cases he : ∃ x ∈ l,(j : Int) = x.table ∧ x.key = k
 ·obtain ⟨x,hm,e1,rfl⟩ := he
  rw [putsW_yes h hx hu hm e1,putsW_yes h hx' (unlike_rev hu) (List.mem_reverse.2 hm) e1]
 ·rw [putsW_no h hx fun x hm e => he ⟨x,hm,e⟩,putsW_no h hx' fun x hm e => he ⟨x,List.mem_reverse.1 hm,e⟩]
theorem inst1_iff {l:List Pr} {k:List UInt8} {v:Ver}:(inst1 l k v).2=0↔(instV ((findP l k).getD []) v).2=0∧(putP l k ((findP l k).getD []++[v])).length≤60:=by
 unfold inst1
 dsimp only
 rcases instV_cases ((findP l k).getD []) v with⟨er,h1,h2⟩|⟨h2,h3⟩
 ·rw [h2,if_pos h1];exact⟨fun h=>absurd h h1,fun h=>absurd h.1 h1⟩
 ·rw [h2,if_neg (by simp)]
  split
  ·rename_i h4
   exact⟨fun h=>(by cases h),fun h=>absurd h.2 (by show ¬ (putP l k ((findP l k).getD []++[v])).length≤60;have h5:60<(putP l k ((findP l k).getD []++[v])).length:=h4;omega)⟩
  ·rename_i h4
   exact⟨fun _=>⟨rfl,by have h5:¬ 60<(putP l k ((findP l k).getD []++[v])).length:=h4;omega⟩,fun _=>rfl⟩
theorem goI_val {L0:Tb} {s:Int}:∀ {l:List Wr} {L:Tb},(goI L0 L s l).2=0→(goI L0 L s l).1=putsW s L l
 | [],_,_=>rfl
 | x::r,L,h=>by
  unfold goI at h ⊢
  by_cases hn:(inst1 (L x.table.toNat) x.key (verW x s)).2=0
  ·rw [if_neg (by rw [hn];simp)] at h ⊢
   rw [(inst1_yes hn).1] at h ⊢
   exact goI_val h
  ·rw [if_pos hn] at h
   exact absurd h hn
theorem goI_iff {L0 : Tb} {s : Int} : ∀ {l : List Wr} {L : Tb},(∀ j,Srt (L j)) → (∀ x ∈ l,0 ≤ x.table ∧ x.table < 4) → unlike l → (∀ j,j < 4 → (L j).length ≤ 60) →
  ((goI L0 L s l).2 = 0 ↔ (∀ x ∈ l,(instV ((findP (L x.table.toNat) x.key).getD []) (verW x s)).2 = 0) ∧ ∀ j,j < 4 → (putsW s L l j).length ≤ 60)
 | [],_,_,_,_,hl => ⟨fun _ => ⟨fun _ h => (by cases h),hl⟩,fun _ => rfl⟩
 | x :: r,L,h,hx,hu,hl => by
  have hu' := List.pairwise_cons.1 hu
  obtain ⟨t1,t2⟩ := hx x (by simp)
  have hxr : ∀ y ∈ r,0 ≤ y.table ∧ y.table < 4 := fun y hy => hx y (by simp [hy])
  have hsame : ∀ y ∈ r,findP (putW s L x y.table.toNat) y.key = findP (L y.table.toNat) y.key := fun y hy => by
   rw [putW_find h t1,if_neg fun e => hu'.1 y hy ⟨by have := (hxr y hy).1; omega,e.2⟩]
  have hself : putW s L x x.table.toNat = putP (L x.table.toNat) x.key ((findP (L x.table.toNat) x.key).getD [] ++ [verW x s]) := by
   unfold putW setT
   rw [if_pos (by omega)]
  unfold goI
  by_cases hn : (inst1 (L x.table.toNat) x.key (verW x s)).2 = 0
  ·rw [if_neg (by rw [hn]; simp),(inst1_yes hn).1]
   obtain ⟨n1,n2⟩ := inst1_iff.1 hn
   have hl1 : ∀ j,j < 4 → (putW s L x j).length ≤ 60 := fun j hj => by
    unfold putW setT
    split
    ·exact n2
    ·exact hl j hj
   have ih := goI_iff (L0 := L0) (s := s) (l := r) (putW_srt (s := s) h x) hxr hu'.2 hl1
   refine ih.trans ⟨fun hh => ⟨fun y hy => ?_,hh.2⟩,fun hh => ⟨fun y hy => ?_,hh.2⟩⟩
   ·rcases List.mem_cons.1 hy with rfl | hy
    ·exact n1
    ·rw [← hsame y hy]; exact hh.1 y hy
   ·rw [hsame y hy]; exact hh.1 y (by simp [hy])
  ·rw [if_pos hn]
   refine ⟨fun hh => absurd hh hn,fun hh => absurd (inst1_iff.2 ⟨hh.1 x (by simp),?_⟩) hn⟩
   rw [← hself]
   exact Nat.le_trans (putsW_len (l := r) (putW_srt h x) (fun y hy => (hxr y hy).1) _) (hh.2 _ (by omega))
theorem turns_of {T A B : Sto} {s : Int} {l : List Wr} {K : Nat} (hu : unlike l) (hA : InT T s l K A) (hB : InT T s l.reverse K B) (hK : K + l.length ≤ 900) :
  ((instI T s l).2 = 0 ↔ (instI T s l.reverse).2 = 0) ∧ (∀ t,pickS A t = pickS B t) ∧ (okS A ↔ okS T) := by
 have hst : ∀ j,Srt (tabS T j) := fun t => prN_srt _
 have key : okS T → 1 ≤ s ∧ s < 2147483648 → l.any (badW s) = false → ((instI T s l).2 = 0 ↔ (instI T s l.reverse).2 = 0) := fun k1 k2 k3 => by
  have hb : ∀ x ∈ l,0 ≤ x.table ∧ x.table < 4 := fun x hx => by
   have := bad_no (List.any_eq_false.1 k3 x hx |> fun h => by simpa using h)
   exact ⟨this.1,this.2.1⟩
  have e1 : instI T s l = goI (tabS T) (tabS T) s l := by unfold instI; exact if_pos ⟨k1,k2.1,k2.2,k3⟩
  have e2 : instI T s l.reverse = goI (tabS T) (tabS T) s l.reverse := by unfold instI; exact if_pos ⟨k1,k2.1,k2.2,by rw [List.any_reverse]; exact k3⟩
  rw [e1,e2,goI_iff hst hb hu fun j hj => (k1 j hj).2,goI_iff hst (fun x hx => hb x (List.mem_reverse.1 hx)) (unlike_rev hu) fun j hj => (k1 j hj).2]
  refine ⟨fun h => ⟨fun x hx => h.1 x (List.mem_reverse.1 hx),fun j hj => ?_⟩,fun h => ⟨fun x hx => h.1 x (List.mem_reverse.2 hx),fun j hj => ?_⟩⟩
  ·rw [putsW_rev hst (fun x hx => (hb x hx).1) hu]; exact h.2 j hj
  ·rw [← putsW_rev hst (fun x hx => (hb x hx).1) hu]; exact h.2 j hj
 have hiff : (instI T s l).2 = 0 ↔ (instI T s l.reverse).2 = 0 := by
  by_cases hc : okS T ∧ 1 ≤ s ∧ s < 2147483648 ∧ l.any (badW s) = false
  ·exact key hc.1 ⟨hc.2.1,hc.2.2.1⟩ hc.2.2.2
  ·have e1 : (instI T s l).2 = 1 := by unfold instI; rw [if_neg hc]
   have e2 : (instI T s l.reverse).2 = 1 := by unfold instI; rw [if_neg (by rw [List.any_reverse]; exact hc)]
   rw [e1,e2]
 have hK' : K + l.reverse.length ≤ 900 := by simpa using hK
 refine ⟨hiff,fun t => ?_,?_⟩
 ·by_cases h0 : (instI T s l).2 = 0
  ·have h1 := hiff.1 h0
   obtain ⟨k1,k3,e1⟩ := instI_ok h0
   obtain ⟨_,_,e2⟩ := instI_ok h1
   have hb : ∀ x ∈ l,0 ≤ x.table := fun x hx => (bad_no (List.any_eq_false.1 k3 x hx |> fun h => by simpa using h)).1
   rw [hA.pick h0 hK,hB.pick h1 hK',e1,e2,goI_val (by rw [← e1]; exact h0),goI_val (by rw [← e2]; exact h1),putsW_rev hst hb hu]
  ·rw [hA.1 h0,hB.1 fun h => h0 (hiff.2 h)]
 ·by_cases h0 : (instI T s l).2 = 0
  ·exact ⟨fun _ => (instI_ok h0).1,fun _ => (hA.facts h0 hK).1⟩
  ·rw [hA.1 h0]
end Go.Proofs.YtlpfhgdnmjkngaaGreat
