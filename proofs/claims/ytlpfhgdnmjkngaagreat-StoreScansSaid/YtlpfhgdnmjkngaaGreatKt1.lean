/-
  TEXTS OF ONE PROOF, merged: Ell, Zro, StZ, StX.
-/
import Derived.Below
import Derived.BigFrame
import Derived.BigFrameIn
import Derived.BigQuiet
import Derived.ChangeAlike
import Derived.ChangeSame
import Derived.ChangeSlices
import Derived.Deep.AppendSrc
import Derived.Deep.Cut
import Derived.Deep.DeepCutAuto
import Derived.Deep.Draws
import Derived.Deep.LoopGhost
import Derived.Deep.Matrix
import Derived.Deep.QuietTactic
import Derived.Deep.Slices
import Derived.Deep.Strs
import Derived.Deep.Upon
import Derived.IntWalk
import Derived.Laws.AppendOwnNone
import Derived.Laws.Cells
import Derived.Laws.CopyRow
import Derived.Laws.Externs
import Derived.Laws.MakeOwn
import Derived.Laws.OwnMore
import Derived.Laws.Tables
import Derived.Lib.AppendZerosOnto
import Derived.Lib.Bytealg
import Derived.Lib.BytesEntry
import Derived.Lib.Hide
import Derived.Lib.Overlaps
import Derived.Lib.SlBytesConst
import Derived.Lib.SmallJoins
import Derived.LoopIn
import Derived.LoopN
import Derived.LoopNIn
import Derived.Maps.AppendAt
import Derived.OpenShut
import Derived.Orders
import Derived.OrdersIn
import Derived.OwnWalkIn
import Derived.ProofKit
import Derived.RangeFuncBound
import Derived.RangeFuncBox
import Derived.RangeFuncCalls
import Derived.RangeFuncFrom
import Derived.RangeFuncLeaves
import Derived.RangeFuncNested
import Derived.RegionTactic
import Derived.ScopeJumps
import Derived.Shelf.Abstract
import Derived.Shelf.RegionOpen
import Derived.Sort.CutIn
import Derived.TacticsIn
import Derived.TacticsInMore
import Derived.Test.YtlpfhgdnmjkngaaGreatProg
import Derived.WalkKit
import Derived.WalkLawsBesides
import Derived.WalkMore
import Derived.WalkSpells
import Derived.Test.YtlpfhgdnmjkngaaGreatKr1
import Derived.Test.YtlpfhgdnmjkngaaGreatKr2
import Derived.Test.YtlpfhgdnmjkngaaGreatKr3
import Derived.Test.YtlpfhgdnmjkngaaGreatKr4
import Derived.Test.YtlpfhgdnmjkngaaGreatKr5
import Derived.Test.YtlpfhgdnmjkngaaGreatKr6
import Derived.Test.YtlpfhgdnmjkngaaGreatKr7
import Derived.Test.YtlpfhgdnmjkngaaGreatKr8
import Derived.Test.YtlpfhgdnmjkngaaGreatKr9
import Derived.Test.YtlpfhgdnmjkngaaGreatKr10
import Derived.Test.YtlpfhgdnmjkngaaGreatKr11
import Derived.Test.YtlpfhgdnmjkngaaGreatKr12
import Derived.Test.YtlpfhgdnmjkngaaGreatKr13
import Derived.Test.YtlpfhgdnmjkngaaGreatKr14
import Derived.Test.YtlpfhgdnmjkngaaGreatKr15
import Derived.Test.YtlpfhgdnmjkngaaGreatKr16
import Derived.Test.YtlpfhgdnmjkngaaGreatKr17
namespace Go.Proofs.YtlpfhgdnmjkngaaGreat
open Go.RowKit
section
variable {α : Type} {E : Elt α} {T : TypeId} {base lo : Nat} {w w' : World} {v : Value} {xs : List α}
theorem OwnL.to {base' lo':Nat}(h:OwnL E T base lo w v xs)(hb:base'≤base)(hl:lo'≤lo):OwnL E T base' lo' w v xs:=by
 obtain⟨vs,h1,h2⟩:=h
 exact⟨vs,⟨h1.1,h1.2.imp id fun⟨g,cap,cur,a,b,c⟩=>⟨g,cap,cur,a,Nat.le_trans hb b,c⟩⟩,h2.weak fun k hk=>⟨Nat.le_trans hl hk.1,hk.2⟩⟩
end
section
variable {α : Type} {E : Elt α} {P : Program} {T Te : TypeId} {ops : Array Oper} {rest : List Oper} {o : Oper} {a : Act} {Q : Exit → Act → World → Prop} {w : World} {K : Act → World → Prop}
theorem run_append_zeroL (hP : LoP P T Te E.size) (w : World) {base lo : Nat} (ty : TypeId) {g : Addr} {ax : Option Addr} {cx nx : Nat} {ys : List α} {S : Nat → Prop} (hown : OwnL E Te base lo w (.slice (some g) 0 0) []) (hx : RdL E S w (.slice ax nx cx) ys)
  (hS : ∀ k,S k → lo ≤ k ∧ k < w.heap.size) (hbase : base ≤ w.heap.size) (hlen : ys.length ≤ 1073741824) :
  ∃ v' w',(Builtin.append_ #[T,T] ty #[.slice (some g) 0 0,.slice ax nx cx]).run P w = .ok v' w' ∧ OwnL E Te base lo w' v' ys ∧ Below w.heap.size w w' := by
 obtain ⟨i,z,hi,hz,hsz,hby,hzs⟩ := hP.all
 obtain ⟨rfl,_,_⟩ := hx.len
 by_cases h0 : ys = []
 ·subst h0
  have hsrc : Src P i.size T (.slice ax 0 cx) 0 [] w := by
   cases ax with
   | none => exact Src.ofNil w hP.hT cx
   | some p => exact Src.ofSlice w hP.hT p 0 cx [] (by simp) (fun j u h => by simp at h) (fun u h => by cases h)
  exact ⟨_,w,run_append_nothing w T T ty Te i hP.hT hi (some g) 0 0 (Nat.le_refl _) _ hsrc,hown,Below.refl _ _⟩
 ·have hpos : 0 < ys.length := List.length_pos_iff.2 h0
  obtain ⟨b,off,_,rfl,_⟩ := hx.at 0 hpos
  obtain ⟨ns,hn,hc⟩ := hx.flat
  have hnl := hn.len
  have hsrc : Src P i.size T (.slice (some ⟨b,off,none⟩) ys.length cx) ys.length ns w :=
   Src.ofSlice w hP.hT _ _ _ _ (by rw [hnl,hsz]) (fun j u hj => by rw [Addr.add_lit]; exact hc j u hj) hn.one
  have hbytes : (ys.length) * i.bytes ≤ 1073741824 * 4096 := Nat.mul_le_mul hlen hby
  have hr := run_append_grow_src (P := P) w T T ty Te i z hP.hT hi hz (some g) 0 0 [] (run_firstCells_some w.drew i.size 0 g 0 0 [] (by simp) (fun j u h => by simp at h)) _ _ _ hsrc (by omega) (by omega)
   (growslice_fits (by simp only [Nat.zero_add]; omega) (by simp only [Nat.zero_add]; omega))
  have hb : Below w.heap.size w (w.drew.alloc (.cells (([] ++ ns : List Value).toArray ++ Builtin.zeroCells z.cells (grownCap w (0 + ys.length) 0 Te - (0 + ys.length))) Te)) := ((Below.refl _ w).drew).alloc (Nat.le_refl _) _
  have hge := grownCap_ge w (0 + ys.length) 0 Te
  refine ⟨_,_,hr,⟨ns,⟨by rw [hnl],.inr ⟨w.heap.size,grownCap w (0 + ys.length) 0 Te,_,by rw [Nat.zero_add],hbase,heap_alloc_new w.drew _,by omega,grownCap_le_maxLen w _ _ _ (by unfold maxLen; omega),?_,?_⟩⟩,?_⟩,hb⟩
  ·rw [Nat.zero_add] at hge ⊢
   simp [size_zeroCells,hnl,hzs]
   rw [← Nat.add_mul]
   congr 1
   omega
  ·simp only [List.nil_append,Array.toList_append]
   rw [← hnl]
   simp
  ·refine ((hn.weak (S' := fun k => lo ≤ k ∧ k < w.heap.size) hS).keep (w' := _) (fun k hk => hb.block k hk.2)).weak fun k hk => ⟨hk.1,Nat.lt_of_lt_of_le hk.2 hb.size,?_⟩
   intro e
   have h5 := hk.2
   simp only [Value.ownBlock] at e
   injection e with e
   omega
theorem wp_append_zeroL (hP:LoP P T Te E.size) {s x:Operand} (ho:o.op=.call { callee:=.builtin .append,args:=#[s,x],argTypes:=#[T,T] })
  {base lo:Nat} {g:Addr} {ax:Option Addr} {cx nx:Nat} {ys:List α} {S:Nat→Prop} (hs:a.eval s=.slice (some g) 0 0) (hown:OwnL E Te base lo w (.slice (some g) 0 0) []) (hx:a.eval x=.slice ax nx cx) (hr:RdL E S w (.slice ax nx cx) ys)
  (hS:∀ k,S k→lo≤k∧k<w.heap.size) (hbase:base≤w.heap.size)
  (h:∀ ad k cap w',OwnL E Te base lo w' (.slice ad k cap) ys→Below w.heap.size w w'→K (a.put o.dst (.slice ad k cap)) w') (hlen:ys.length≤1073741824):o.wp P a w K Q:=by
 obtain⟨v',w',hrun,h2,h3⟩:=run_append_zeroL hP w o.type hown hr hS hbase hlen
 obtain⟨ad,cap,rfl⟩:=h2.shape
 unfold Oper.wp execOp
 simp only [ho,resolve,invoke,builtin,Sem.run_bind,Sem.run_pure,Result.andThen_ok,List.map_toArray,List.map_cons,List.map_nil,hs,hx,hrun]
 exact h _ _ _ _ h2 h3
end
end Go.Proofs.YtlpfhgdnmjkngaaGreat
namespace Go.Proofs.YtlpfhgdnmjkngaaGreat
open Go.RowKit
section
variable {α : Type} {E : Elt α} {P : Program} {T Te : TypeId} {ops : Array Oper} {rest : List Oper} {o : Oper} {a : Act} {Q : Exit → Act → World → Prop} {w : World} {K : Act → World → Prop}
theorem run_buildZero (hP : LoP P T Te E.size) (w : World) : (Instr.buildSlice T 0 #[]).run P w = .ok (.slice (some ⟨w.heap.size,0,none⟩) 0 0) (w.alloc (.cells #[] Te)) := by
 obtain ⟨i,z,hi,hz,hsz,hby,hzs⟩ := hP.all
 have e0 : Array.range 0 = #[] := by decide
 simp [Instr.buildSlice,run_underlying hP.hT,sizeOf,typeInfo,hi,newRow,Instr.fill,e0]
theorem ownL_zero (E : Elt α) (Te : TypeId) (w : World) : OwnL E Te w.heap.size w.heap.size (w.alloc (.cells #[] Te)) (.slice (some ⟨w.heap.size,0,none⟩) 0 0) [] := by
 refine ⟨[],⟨by simp,.inr ⟨w.heap.size,0,#[],rfl,Nat.le_refl _,?_,by simp,by unfold maxLen; omega,by simp,by simp⟩⟩,rfl⟩
 simp only [World.alloc,Array.getElem?_push_size]
theorem wp_buildZero (hP : LoP P T Te E.size) (ho : o.op = .buildSlice T 0 #[]) (h : ∀ w',Below w.heap.size w w' → OwnL E Te w.heap.size w.heap.size w' (.slice (some ⟨w.heap.size,0,none⟩) 0 0) [] → K (a.put o.dst (.slice (some ⟨w.heap.size,0,none⟩) 0 0)) w') : o.wp P a w K Q := by
 have hrun := run_buildZero (E := E) hP w
 unfold Oper.wp execOp
 simp only [ho,Sem.run_bind,Sem.run_pure,Result.andThen_ok,List.map_toArray,List.map_nil,hrun]
 exact h _ ((Below.refl _ _).alloc (Nat.le_refl _) _) (ownL_zero E Te w)
theorem wpList_buildZero (hP : LoP P T Te E.size) (ho : o.op = .buildSlice T 0 #[]) (hgd : Region.wanted o (yielded ops a.tmps) = true) (h : ∀ w',Below w.heap.size w w' → OwnL E Te w.heap.size w.heap.size w' (.slice (some ⟨w.heap.size,0,none⟩) 0 0) [] → wpList P ops Q rest (a.put o.dst (.slice (some ⟨w.heap.size,0,none⟩) 0 0)) w') : wpList P ops Q (o :: rest) a w :=
 BigFrame.wpList_want hgd fun _ hK => wp_buildZero hP ho fun w' h1 h2 => hK _ _ (h w' h1 h2)
theorem wpList_append_zeroL (hP:LoP P T Te E.size) {s x:Operand} (ho:o.op=.call { callee:=.builtin .append,args:=#[s,x],argTypes:=#[T,T] }) (hgd:Region.wanted o (yielded ops a.tmps)=true)
  {base lo:Nat} {g:Addr} {ax:Option Addr} {cx nx:Nat} {ys:List α} {S:Nat→Prop} (hs:a.eval s=.slice (some g) 0 0) (hown:OwnL E Te base lo w (.slice (some g) 0 0) []) (hx:a.eval x=.slice ax nx cx) (hr:RdL E S w (.slice ax nx cx) ys)
  (hS:∀ k,S k→lo≤k∧k<w.heap.size) (hbase:base≤w.heap.size)
  (h:∀ ad k cap w',OwnL E Te base lo w' (.slice ad k cap) ys→Below w.heap.size w w'→wpList P ops Q rest (a.put o.dst (.slice ad k cap)) w') (hlen:ys.length≤1073741824):wpList P ops Q (o::rest) a w :=
 BigFrame.wpList_want hgd fun _ hK=>wp_append_zeroL hP ho hs hown hx hr hS hbase (fun ad k cap w' h1 h2=>hK _ _ (h ad k cap w' h1 h2)) hlen
end
end Go.Proofs.YtlpfhgdnmjkngaaGreat
namespace Go.Proofs.YtlpfhgdnmjkngaaGreat
open Go.RowKit Go.Shelf
section
variable {α : Type} {E : Elt α} {P : Program} {T Te : TypeId} {ops : Array Oper} {rest : List Oper} {o : Oper} {a : Act} {Q : Exit → Act → World → Prop} {w : World}
theorem run_append_RL (hP:LoP P T Te E.size) (w:World) {base lo:Nat} (ty:TypeId) {ad ax:Option Addr} {n c cx nx:Nat} {xs ys:List α} {S:Nat→Prop} (hown:OwnL E Te base lo w (.slice ad n c) xs) (hx:RdL E S w (.slice ax nx cx) ys)
  (hS:∀ k,S k→lo≤k∧k<w.heap.size∧some k≠Value.ownBlock (.slice ad n c)) (hbase:base≤w.heap.size) (hlen:xs.length+ys.length≤1073741824) :
  ∃ v' w',(Builtin.append_ #[T,T] ty #[.slice ad n c,.slice ax nx cx]).run P w=.ok v' w'∧OwnL E Te base lo w' v' (xs++ys)∧w.grownBy w' (Value.ownBlock (.slice ad n c)):=by
 obtain⟨rfl,_,_⟩:=hx.len
 by_cases h0:ys=[]
 ·subst h0
  obtain⟨i,z,hi,hz,hsz,hby,hzs⟩:=hP.all
  have hsrc:Src P i.size T (.slice ax 0 cx) 0 [] w:=by
   cases ax with
   | none=>exact Src.ofNil w hP.hT cx
   | some p=>exact Src.ofSlice w hP.hT p 0 cx [] (by simp) (fun j u h=>by simp at h) (fun u h=>by cases h)
  have hle:n≤c:=hown.rdL.len.2.1
  exact⟨_,w,run_append_nothing w T T ty Te i hP.hT hi ad n c hle _ hsrc,by simpa using hown,⟨rfl,rfl,rfl,Nat.le_refl _,fun _ _ _=>rfl⟩⟩
 ·obtain⟨b,off,_,rfl,_⟩:=hx.at 0 (List.length_pos_iff.2 h0)
  obtain⟨ns,hn,hc⟩:=hx.flat
  obtain⟨v',w',h1,h2,h3,_⟩:=run_append_L hP w ty hown (fun j u hj=>by rw [Addr.add_lit];exact hc j u hj) hn hS hbase hlen
  exact⟨v',w',h1,h2,h3⟩
theorem wpList_appendRL (hP:LoP P T Te E.size) {s x:Operand} (ho:o.op=.call { callee:=.builtin .append,args:=#[s,x],argTypes:=#[T,T] }) (hgd:Region.wanted o (yielded ops a.tmps)=true)
  {base lo:Nat} {ad ax:Option Addr} {n c cx nx:Nat} {xs ys:List α} {S:Nat→Prop} (hs:a.eval s=.slice ad n c) (hown:OwnL E Te base lo w (.slice ad n c) xs) (hx:a.eval x=.slice ax nx cx) (hr:RdL E S w (.slice ax nx cx) ys)
  (hS:∀ k,S k→lo≤k∧k<w.heap.size∧some k≠Value.ownBlock (.slice ad n c)) (hbase:base≤w.heap.size)
  (h:∀ ad2 k cap w',OwnL E Te base lo w' (.slice ad2 k cap) (xs++ys)→w.grownBy w' (Value.ownBlock (.slice ad n c))→wpList P ops Q rest (a.put o.dst (.slice ad2 k cap)) w') (hlen:xs.length+ys.length≤1073741824):wpList P ops Q (o::rest) a w :=
 BigFrame.wpList_want hgd fun _ hK=>by
  obtain⟨v',w',hrun,h2,h3⟩:=run_append_RL hP w o.type hown hr hS hbase hlen
  obtain⟨ad2,cap,rfl⟩:=h2.shape
  unfold Oper.wp execOp
  simp only [ho,resolve,invoke,builtin,Sem.run_bind,Sem.run_pure,Result.andThen_ok,List.map_toArray,List.map_cons,List.map_nil,hs,hx,hrun]
  exact hK _ _ (h _ _ _ _ h2 h3)
end
end Go.Proofs.YtlpfhgdnmjkngaaGreat
namespace Go.Proofs.YtlpfhgdnmjkngaaGreat
theorem scan_few (T:Sto) (x:Sp) (s:Int):(scanP (pickS T x.table) x s).length≤60:=by
 refine Nat.le_trans (List.length_filterMap_le _ _) ?_
 unfold pickS
 split
 ·rename_i h;exact (h.2.2 _ (by omega)).2
 ·simp
end Go.Proofs.YtlpfhgdnmjkngaaGreat
