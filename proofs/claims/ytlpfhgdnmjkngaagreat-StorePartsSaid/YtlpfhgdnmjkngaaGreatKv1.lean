/-
  TEXTS OF ONE PROOF, merged: Byte, Elt, Soft, Ell, Ops, Tri, Ver, VerM, Ltb, TreM, Tre, Aux, VerR.
-/
import Derived.Below
import Derived.BigQuiet
import Derived.Deep.AppendSrc
import Derived.Deep.Cut
import Derived.Deep.Draws
import Derived.Deep.QuietTactic
import Derived.Deep.Upon
import Derived.IntWalk
import Derived.Laws.AppendOwnNone
import Derived.Laws.MakeOwn
import Derived.Laws.OwnMore
import Derived.Lib.Hide
import Derived.Lib.SlBytesConst
import Derived.Maps.AppendAt
import Derived.Orders
import Derived.RangeFuncBox
import Derived.Test.YtlpfhgdnmjkngaaGreatProg
import Derived.WalkKit
import Derived.WalkLawsBesides
import Derived.WalkSpells
namespace Go.Proofs.YtlpfhgdnmjkngaaGreat
open Go.RowKit
set_option maxRecDepth 100000
set_option maxHeartbeats 32000000
def bv (xs:List UInt8):List Value:=xs.map fun b=>Value.int .u8 (b.toNat:Int)
def zbk(xs:List UInt8):ByteArray:=⟨xs.toArray⟩
theorem zku(xs:List UInt8):(zbk xs).toList=xs:=by simp [zbk]
theorem zb7(xs:List UInt8):(bv xs).length=xs.length:=by simp [bv]
theorem zrz (xs ys:List UInt8):bv (xs++ys)=bv xs++bv ys:=by simp [bv]
theorem bv_get (xs:List UInt8) (k:Nat) (h:k<xs.length):(bv xs)[k]?=some (.int .u8 xs[k].toNat):=by simp [bv,h]
theorem bv_one {xs:List UInt8}:∀ u∈bv xs,u.oneCell'=true:=by
 intro u hu;obtain⟨b,_,rfl⟩:=List.mem_map.1 hu;rfl
structure ByP (P:Program) (T E S:TypeId):Prop where
 hT:P.underlying T=some (.slice E)
 hE:P.underlying E=some (.int .u8)
 hS:P.underlying S=some .string
 hi:(P.info? E).map (fun i=>(i.zero,i.size,i.bytes))=some (some (.int .u8 0),1,1)
theorem ByP.info {P:Program} {T E S:TypeId} (h:ByP P T E S):∃ i,P.info? E=some i∧i.zero=some (.int .u8 0)∧i.size=1∧i.bytes=1:=by
 have:=h.hi
 cases hi:P.info? E with
 | none=>simp [hi] at this
 | some i=>simp [hi] at this;exact⟨i,rfl,this⟩
def Rd (B : Nat) (w : World) (v : Value) (xs : List UInt8) : Prop :=
 (∃ a c,v = .slice a 0 c ∧ c ≤ maxLen ∧ xs = []) ∨
 ∃ b off cap,v = .slice (some ⟨b,off,none⟩) xs.length cap ∧ b < B ∧ xs.length ≤ cap ∧ cap ≤ maxLen ∧ ∀ j u,(bv xs)[j]? = some u → w.cell? ⟨b,off + j,none⟩ = some u
theorem Rd.nil (B : Nat) (w : World) : Rd B w (.slice none 0 0) [] := .inl ⟨none,0,rfl,by unfold maxLen; omega,rfl⟩
theorem Rd.below {B : Nat} {w w' : World} {v : Value} {xs : List UInt8} (h : Rd B w v xs) (hb : Below B w w') : Rd B w' v xs := by
 rcases h with h | ⟨b,off,cap,hv,hB,h1,h2,hc⟩
 ·exact .inl h
 ·exact .inr ⟨b,off,cap,hv,hB,h1,h2,fun j u hj => (hb.cell (p := ⟨b,off + j,none⟩) hB).trans (hc j u hj)⟩
theorem Below.drewN {B:Nat} {a w:World} (h:Below B a w) (q:Nat):Below B a (w.drewN q):=⟨h.os,h.tape,h.output,h.size,h.block⟩
theorem Rd.len {B:Nat} {w:World} {a:Option Addr} {n c:Nat} {xs:List UInt8} (h:Rd B w (.slice a n c) xs):n=xs.length∧n≤c∧c≤maxLen:=by
 rcases h with⟨a,c',h,hm,rfl⟩|⟨b,off,cap,h,_,h1,h2,_⟩
 ·cases h;exact⟨rfl,Nat.zero_le _,hm⟩
 ·cases h;exact⟨rfl,h1,h2⟩
def Own (E:TypeId) (base:Nat) (w:World) (v:Value) (xs:List UInt8):Prop:=∃ n,w.ownsRow base E 1 v n (bv xs)
def zpo(E:TypeId)(w w':World)(v:Value)(xs:List UInt8):Prop:=Below w.heap.size w w'∧Own E w.heap.size w' v xs
section
variable {E : TypeId} {base : Nat} {w w' : World} {v : Value} {xs : List UInt8}
theorem own_n {n:Nat} (h:w.ownsRow base E 1 v n (bv xs)):n=xs.length:=by have:=h.1;rw [zb7] at this;omega
theorem Own.rd (h : Own E base w v xs) : Rd w.heap.size w v xs := by
 obtain ⟨n,h⟩ := h
 obtain rfl := own_n h
 rcases h.2 with ⟨rfl,h0⟩ | ⟨g,cap,cur,rfl,hb,hg,hn,hc,hcs,ht⟩
 ·exact .inl ⟨none,0,rfl,by unfold maxLen; omega,List.eq_nil_of_length_eq_zero h0⟩
 ·refine .inr ⟨g,0,cap,rfl,(Array.getElem?_eq_some_iff.1 hg).1,hn,hc,fun j u hj => ?_⟩
  have := h.cells (g := g) rfl j u hj
  simpa [Addr.add_lit] using this
theorem Own.shape(h:Own E base w v xs):∃ a k cap,v=.slice a k cap:=by
 obtain⟨n,h⟩:=h
 rcases h.2 with⟨rfl,rfl⟩|⟨g,cap,cur,rfl,_,_,h1,h2,_⟩
 ·exact⟨none,0,0,rfl⟩
 ·exact⟨_,_,_,rfl⟩
theorem Own.nil (E:TypeId) (base:Nat) (w:World):Own E base w (.slice none 0 0) []:=⟨0,World.ownsRow_nil _ _ _ _⟩
theorem Own.grown_below {B:Nat} (hown:Own E base w v xs) (hg:w.grownBy w' v.ownBlock) (hB:B≤base) (hBw:B≤w.heap.size):Below B w w' :=
 (Below.refl B w).grown hg hBw (fun k hk=>by obtain⟨n,h⟩:=hown;have:=(h.lt k hk).1;omega)
theorem zpo.nil (E:TypeId) (w:World):zpo E w w (.slice none 0 0) []:=⟨Below.refl _ _,Own.nil _ _ _⟩
end
section
variable {P : Program} {T E S : TypeId}
theorem zrp:∀ (vs:List Value) (k:Nat) (cells:Array Value),(∀ v∈vs,v.cells=#[v])→k+vs.length≤cells.size →
  Instr.fill (fun i=>some (i*1,1)) cells ((vs.zipIdx k).map fun p=>(p.2,p.1))=some (cells.toList.take k++vs++cells.toList.drop (k+vs.length)).toArray:=by
 intro vs
 induction vs with
 | nil=>intro k cells _ _;simp [Instr.fill]
 | cons v vs ih =>
  intro k cells h1 hk
  simp only [List.length_cons] at hk
  have hv:v.cells=#[v]:=h1 v (by simp)
  simp only [List.zipIdx_cons,List.map_cons,Instr.fill,hv]
  rw [if_neg (by simp;omega)]
  rw [show (#[v].zipIdx.foldl (fun cs (p:Value×Nat)=>cs.setIfInBounds (k*1+p.2) p.1) cells)=cells.setIfInBounds k v by simp]
  rw [ih (k+1) _ (fun u hu=>h1 u (by simp [hu])) (by simp;omega)]
  congr 1
  apply Array.ext'
  have hlt:k<cells.toList.length:=by simp;omega
  have e1:(cells.toList.set k v).take (k+1)=cells.toList.take k++[v]:=by
   rw [List.take_succ_eq_append_getElem (by simpa using hlt),List.take_set_of_le (Nat.le_refl _)]
   simp
  have e2:(cells.toList.set k v).drop (k+1+vs.length)=cells.toList.drop (k+(vs.length+1)):=by
   rw [List.drop_set_of_lt (by omega)]
   congr 1;omega
  simp only [Array.toList_setIfInBounds,List.length_cons,e1,e2]
  simp
theorem zk3 (hP : ByP P T E S) (w : World) (xs : List UInt8) (hs : xs.length ≤ 16777216) :
  (Instr.buildSlice T xs.length ((bv xs).zipIdx.map fun p => (p.2,p.1)).toArray).run P w = .ok (.slice (some ⟨w.heap.size,0,none⟩) xs.length xs.length) (w.alloc (.cells (bv xs).toArray E)) := by
 obtain ⟨i,hi,hz,hsz,hby⟩ := hP.info
 have hfill : ∀ (cells : Array Value),cells.size = xs.length → Instr.fill (fun i => some (i * 1,1)) cells ((bv xs).zipIdx.map fun p => (p.2,p.1)) = some (bv xs).toArray := by
  intro cells hc
  rw [zrp (bv xs) 0 cells (fun v hv => by obtain ⟨b,_,rfl⟩ := List.mem_map.1 hv; rfl) (by rw [zb7]; omega)]
  simp [zb7]
  omega
 by_cases h0 : xs.length = 0
 ·obtain rfl : xs = [] := List.eq_nil_of_length_eq_zero h0
  simp [Instr.buildSlice,run_underlying hP.hT,sizeOf,typeInfo,hi,Instr.fill,bv,newRow,show Array.range 0 = #[] from rfl]
 ·have hf := hfill ((Array.range (xs.length * 1)).map (fun x => (#[Value.int .u8 0])[x % (#[Value.int .u8 0]).size]!)) (by simp)
  have hne : ¬ xs = [] := by intro h; apply h0; simp [h]
  have hbig : ¬ (16777216 < xs.length) := by omega
  simp [Instr.buildSlice,run_underlying hP.hT,sizeOf,typeInfo,zeroValue,hi,hz,hsz,newRow,hne,hbig,Value.cells] at hf ⊢
  simp [hf]
theorem znb (E : TypeId) (w : World) (xs : List UInt8) (hs : xs.length ≤ 16777216) : zpo E w (w.alloc (.cells (bv xs).toArray E)) (.slice (some ⟨w.heap.size,0,none⟩) xs.length xs.length) xs := by
 refine ⟨(Below.refl _ _).alloc (Nat.le_refl _) _,xs.length,by simp [zb7],.inr ⟨w.heap.size,xs.length,(bv xs).toArray,rfl,Nat.le_refl _,heap_alloc_new w _,Nat.le_refl _,by unfold maxLen; omega,by simp [zb7],?_⟩⟩
 rw [List.take_of_length_le (by simp [zb7])]
variable {ops : Array Oper} {rest : List Oper} {o : Oper} {a : Act} {Q : Exit → Act → World → Prop} {w : World}
theorem zkq (hP : ByP P T E S) {n : Nat} {parts : Array (Nat × Operand)} (ho : o.op = .buildSlice T n parts) (hgd : Region.wanted o (yielded ops a.tmps) = true) (xs : List UInt8)
  (hv : (parts.map fun p => (p.1,a.eval p.2)) = ((bv xs).zipIdx.map fun p => (p.2,p.1)).toArray) (hn : n = xs.length) (hs : xs.length ≤ 16777216)
  (h : ∀ g k w',zpo E w w' (.slice (some ⟨g,0,none⟩) k k) xs → wpList P ops Q rest (a.put o.dst (.slice (some ⟨g,0,none⟩) k k)) w') : wpList P ops Q (o :: rest) a w := by
 refine BigFrame.wpList_want hgd fun K hK => ?_
 have hrun := zk3 hP w xs hs
 subst hn
 unfold Oper.wp execOp
 simp only [ho,hv,Sem.run_bind,Sem.run_pure,Result.andThen_ok,hrun]
 exact hK _ _ (h _ _ _ (znb E w xs hs))
theorem zjh (hP : ByP P T E S) (w : World) {base B : Nat} (ty : TypeId) {v x : Value} {ys xs : List UInt8} (hown : Own E base w v ys) (hx : Rd B w x xs)
  (hbase : base ≤ w.heap.size) (hlen : ys.length + xs.length ≤ 1073741824) :
  ∃ v' w',(Builtin.append_ #[T,T] ty #[v,x]).run P w = .ok v' w' ∧ Own E base w' v' (ys ++ xs) ∧ w.grownBy w' v.ownBlock := by
 obtain ⟨i,hi,hz,hsz,hby⟩ := hP.info
 obtain ⟨n,hown⟩ := hown
 obtain rfl := own_n hown
 rcases hx with ⟨ax,cx,rfl,_,rfl⟩ | ⟨b,off,cap,rfl,_,_,_,hc⟩
 ·have hsrc : Src P i.size T (.slice ax 0 cx) 0 [] w := by
   cases ax with
   | none => exact Src.ofNil w hP.hT cx
   | some p => exact Src.ofSlice w hP.hT p 0 cx [] (by simp) (fun j u h => by simp at h) (fun u h => by cases h)
  obtain ⟨av,kv,cv,rfl⟩ : ∃ a k c,v = .slice a k c := Own.shape ⟨_,hown⟩
  have hle : kv ≤ cv := (Own.rd ⟨_,hown⟩).len.2.1
  refine ⟨_,w,run_append_nothing w T T ty E i hP.hT hi av kv cv hle _ hsrc,⟨ys.length,by simpa using hown⟩,⟨rfl,rfl,rfl,Nat.le_refl _,fun _ _ _ => rfl⟩⟩
 ·obtain ⟨v',w',h1,h2,h3,_⟩ := run_append_own (P := P) w base T ty E i (.int .u8 0) 1 1 hP.hT hi hz hsz hby rfl (by decide) v ys.length (bv ys) hown ⟨b,off,none⟩ xs.length cap (bv xs) (by simp [zb7])
   (fun j u hj => by simpa [Addr.add_lit] using hc j u hj) bv_one (by unfold maxLen; omega) (by omega) hbase
  exact ⟨v',w',h1,⟨_,by simpa [zrz] using h2⟩,h3⟩
theorem zkp (hP : ByP P T E S) {o' : Oper} {n : Nat} {parts : Array (Nat × Operand)} {d : Tmp} (ho : o.op = .buildSlice T n parts) (hgd' : ∀ u,Region.wanted o' (yielded ops (a.put o.dst u).tmps) = true) (hgd : Region.wanted o (yielded ops a.tmps) = true) (hd : o.dst = some d) (hlt : d < a.tmps.size)
  (ho' : o'.op = .convert T T (.tmp d)) (xs : List UInt8)
  (hv : (parts.map fun p => (p.1,a.eval p.2)) = ((bv xs).zipIdx.map fun p => (p.2,p.1)).toArray) (hn : n = xs.length) (hs : xs.length ≤ 16777216)
  (h : ∀ u g k w',Below w.heap.size w w' → Rd w'.heap.size w' (.slice (some ⟨g,0,none⟩) k k) xs → wpList P ops Q rest ((a.put (some d) u).put o'.dst (.slice (some ⟨g,0,none⟩) k k)) w') : wpList P ops Q (o :: o' :: rest) a w := by
 refine BigFrame.wpList_want hgd fun K hK => ?_
 have hrun := zk3 hP w xs hs
 subst hn
 unfold Oper.wp execOp
 simp only [ho,hv,Sem.run_bind,Sem.run_pure,Result.andThen_ok,hrun]
 refine hK _ _ ?_
 have hgd2 := hgd' (.slice (some ⟨w.heap.size,0,none⟩) xs.length xs.length)
 rw [hd] at hgd2 ⊢
 refine BigFrame.wpList_want hgd2 fun K' hK' => ?_
 have hrun2 := Lib.run_convert_bytes_const (P := P) w T E (bv xs).toArray xs.length xs.length hP.hT hP.hE
 have he : (a.put (some d) (.slice (some ⟨w.heap.size,0,none⟩) xs.length xs.length)).eval (.tmp d) = .slice (some ⟨w.heap.size,0,none⟩) xs.length xs.length := by simp [Act.eval,Act.put,hlt]
 unfold Oper.wp execOp
 simp only [ho',he,Sem.run_bind,Sem.run_pure,Result.andThen_ok,hrun2]
 refine hK' _ _ (h _ _ _ _ ((Below.refl _ _).alloc (Nat.le_refl _) _) (.inr ⟨w.heap.size,0,xs.length,rfl,by simp,Nat.le_refl _,by unfold maxLen; omega,fun j u hj => ?_⟩))
 rw [Nat.zero_add,World.cell?]
 simp only [World.alloc,Array.getElem?_push_size]
 simpa using hj
theorem zi8 (hP:ByP P T E S) {s x:Operand} (ho:o.op=.call { callee:=.builtin .append,args:=#[s,x],argTypes:=#[T,T] }) (hgd:Region.wanted o (yielded ops a.tmps)=true)
  {base B:Nat} {vs vx:Value} {ys xs:List UInt8} (hs:a.eval s=vs) (hown:Own E base w vs ys) (hx:a.eval x=vx) (hr:Rd B w vx xs)
  (hbase:base≤w.heap.size)
  (h:∀ ad k cap w',Own E base w' (.slice ad k cap) (ys++xs)→w.grownBy w' vs.ownBlock→Below base w w'→wpList P ops Q rest (a.put o.dst (.slice ad k cap)) w') (hlen:ys.length+xs.length≤1073741824):wpList P ops Q (o::rest) a w:=by
 refine BigFrame.wpList_want hgd fun K hK=>?_
 obtain⟨v',w',hrun,h2,h3⟩:=zjh hP w o.type hown hr hbase hlen
 obtain⟨ad,k,cap,rfl⟩:=Own.shape h2
 unfold Oper.wp execOp
 simp only [ho,resolve,invoke,builtin,Sem.run_bind,Sem.run_pure,Result.andThen_ok,List.map_toArray,List.map_cons,List.map_nil,hs,hx,hrun]
 exact hK _ _ (h _ _ _ _ h2 h3 (Own.grown_below hown h3 (Nat.le_refl _) hbase))
theorem znu (hP:ByP P T E S) {B:Nat} {w:World} {v:Value} {xs:List UInt8} (h:Rd B w v xs):(convert T S v).run P w=.ok (.string (zbk xs)) w:=by
 rcases h with⟨ax,cx,rfl,_,rfl⟩|⟨b,off,cap,rfl,_,_,_,hc⟩
 ·cases ax with
  | none=>exact run_convert_bytes_nil w T E hP.hT hP.hE 0 cx S hP.hS
  | some p =>
   rw [run_convert_bytes_string w T S E _ 0 cx hP.hT hP.hE hP.hS,run_bytesToString w p 0 cx [] (by simp [loadCells,loadCellsFrom])]
   rfl
 ·rw [run_convert_bytes_arg w T E hP.hT hP.hE b off xs.length cap (xs.map fun x=>(x.toNat:Int)) (by simp) (fun i hi=>by
   have:=hc i (.int .u8 (xs[i].toNat:Int)) (by simp [bv,hi])
   rw [this];simp [List.getD,hi]) S hP.hS]
  simp [strOfNums,zbk,Function.comp_def]
theorem zav (w:World) {n c l:Nat} (h:l≤n):(Instr.sliceBounds true n c (some (.int .i64 l)) none none).run P w=.ok (l,n,c) w:=by
 simp [Instr.sliceBounds,Instr.sliceBound,asIntOf,h]
theorem zal (w:World) {n c l:Nat} {i:Int} (hi:i=(l:Int)) (h:l≤n):(Instr.sliceBounds true n c (some (.int .i64 i)) none none).run P w=.ok (l,n,c) w:=by
 rw [hi];exact zav w h
theorem zat (w:World) {n c h:Nat} (hh:h≤c):(Instr.sliceBounds true n c none (some (.int .i64 h)) none).run P w=.ok (0,h,c) w:=by
 simp [Instr.sliceBounds,Instr.sliceBound,asIntOf,hh]
theorem za5 (w:World) {n c l h:Nat} (hl:l≤h) (hh:h≤c):(Instr.sliceBounds true n c (some (.int .i64 l)) (some (.int .i64 h)) none).run P w=.ok (l,h,c) w:=by
 simp [Instr.sliceBounds,Instr.sliceBound,asIntOf,hl,hh]
theorem zbg (w:World) {n c l h:Nat} {i j:Int} (hi:i=(l:Int)) (hj:j=(h:Int)) (hl:l≤h) (hh:h≤c):(Instr.sliceBounds true n c (some (.int .i64 i)) (some (.int .i64 j)) none).run P w=.ok (l,h,c) w:=by
 rw [hi,hj];exact za5 w hl hh
end
def RdS (S : Nat → Prop) (w : World) (v : Value) (xs : List UInt8) : Prop :=
 (∃ a c,v = .slice a 0 c ∧ c ≤ maxLen ∧ xs = []) ∨
 ∃ b off cap,v = .slice (some ⟨b,off,none⟩) xs.length cap ∧ S b ∧ xs.length ≤ cap ∧ cap ≤ maxLen ∧ ∀ j u,(bv xs)[j]? = some u → w.cell? ⟨b,off + j,none⟩ = some u
theorem Rd.s {B:Nat} {w:World} {v:Value} {xs:List UInt8} (h:Rd B w v xs):RdS (·<B) w v xs:=h
theorem zac {w w' : World} {b : Nat} (h : w'.heap[b]? = w.heap[b]?) (o : Nat) : w'.cell? ⟨b,o,none⟩ = w.cell? ⟨b,o,none⟩ := by simp [World.cell?,h]
theorem zaj {w : World} {b o : Nat} {u : Value} (h : w.cell? ⟨b,o,none⟩ = some u) : b < w.heap.size := World.block_lt_of_cell? w _ h
section
variable {S S' : Nat → Prop} {w w' : World} {v : Value} {xs : List UInt8}
theorem RdS.keep (h : RdS S w v xs) (hk : ∀ k,S k → w'.heap[k]? = w.heap[k]?) : RdS S w' v xs := by
 rcases h with h | ⟨b,off,cap,hv,hb,h1,h2,hc⟩
 ·exact .inl h
 ·exact .inr ⟨b,off,cap,hv,hb,h1,h2,fun j u hj => (zac (hk b hb) _).trans (hc j u hj)⟩
theorem RdS.weak (h : RdS S w v xs) (hs : ∀ k,S k → S' k) : RdS S' w v xs := by
 rcases h with h | ⟨b,off,cap,hv,hb,h1,h2,hc⟩
 ·exact .inl h
 ·exact .inr ⟨b,off,cap,hv,hs b hb,h1,h2,hc⟩
theorem RdS.fit (h : RdS S w v xs) : RdS (fun k => S k ∧ k < w.heap.size) w v xs := by
 rcases h with h | ⟨b,off,cap,hv,hb,h1,h2,hc⟩
 ·exact .inl h
 ·by_cases h0 : xs = []
  ·subst h0; exact .inl ⟨_,_,hv,h2,rfl⟩
  ·have hpos : 0 < xs.length := List.length_pos_iff.2 h0
   exact .inr ⟨b,off,cap,hv,⟨hb,zaj (hc 0 _ (bv_get xs 0 hpos))⟩,h1,h2,hc⟩
theorem RdS.rd (h:RdS S w v xs):Rd w.heap.size w v xs:=h.fit.weak (fun _ h=>h.2)
theorem RdS.shape(h:RdS S w v xs):∃ a c,v=.slice a xs.length c∧xs.length≤c∧c≤maxLen:=by
 rcases h with⟨a,c,rfl,hm,rfl⟩|⟨b,off,cap,rfl,_,h1,h2,_⟩
 ·exact⟨a,c,rfl,Nat.zero_le _,hm⟩
 ·exact⟨_,_,rfl,h1,h2⟩
theorem RdS.len {a:Option Addr} {n c:Nat} (h:RdS S w (.slice a n c) xs):n=xs.length∧n≤c∧c≤maxLen:=by
 obtain⟨_,_,e,h1,h2⟩:=h.shape
 cases e
 exact⟨rfl,h1,h2⟩
theorem RdS.below (h:RdS S w v xs) (hb:Below w.heap.size w w'):RdS S w' v xs :=
 (h.fit.keep fun k hk=>hb.block k hk.2).weak (fun _ h=>h.1)
theorem RdS.one(h:RdS S w v xs):v.oneCell'=true:=by
 obtain⟨_,_,rfl,_⟩:=h.shape;rfl
theorem RdS.nil (S : Nat → Prop) (w : World) : RdS S w (.slice none 0 0) [] := .inl ⟨none,0,rfl,by unfold maxLen; omega,rfl⟩
theorem Own.rdS {E : TypeId} {base : Nat} (h : Own E base w v xs) : RdS (fun k => base ≤ k ∧ k < w.heap.size) w v xs := by
 obtain ⟨n,h⟩ := h
 have hr := Own.rd ⟨n,h⟩
 rcases h.2 with ⟨rfl,h0⟩ | ⟨g,cap,cur,rfl,hb,hg,hn,hc,hcs,ht⟩
 ·obtain rfl := own_n h
  exact .inl ⟨none,0,rfl,by unfold maxLen; omega,List.eq_nil_of_length_eq_zero h0⟩
 ·rcases hr with h | ⟨b,off,cap',hv,hb',h1,h2,h3⟩
  ·exact .inl h
  ·cases hv
   exact .inr ⟨_,_,_,rfl,⟨hb,hb'⟩,h1,h2,h3⟩
end
structure Elt (α:Type) where
 size:Nat
 pos:0<size
 R:(Nat→Prop)→World→α→List Value→Prop
 len:∀ {S w x vs},R S w x vs→vs.length=size
 keep:∀ {S w w' x vs},R S w x vs→(∀ k,S k→w'.heap[k]?=w.heap[k]?)→R S w' x vs
 weak:∀ {S S' w x vs},R S w x vs→(∀ k,S k→S' k)→R S' w x vs
 fit:∀ {S w x vs},R S w x vs→R (fun k=>S k∧k<w.heap.size) w x vs
 one:∀ {S w x vs},R S w x vs→∀ u∈vs,u.oneCell'=true
section
variable {α : Type} {E : Elt α} {S S' : Nat → Prop} {w w' : World} {v : Value} {xs : List α}
def RdL (E : Elt α) (S : Nat → Prop) (w : World) (v : Value) (xs : List α) : Prop :=
 ∃ a cap,v = .slice a xs.length cap ∧ xs.length ≤ cap ∧ cap ≤ maxLen ∧ (xs = [] ∨ ∃ b off,a = some ⟨b,off,none⟩ ∧ S b ∧
  ∀ r (h : r < xs.length),∃ vs,E.R S w xs[r] vs ∧ ∀ j u,vs[j]? = some u → w.cell? ⟨b,off + r * E.size + j,none⟩ = some u)
theorem RdL.nil (E:Elt α) (S:Nat→Prop) (w:World):RdL E S w (.slice none 0 0) []:=⟨none,0,rfl,Nat.le_refl _,by unfold maxLen;omega,.inl rfl⟩
theorem RdL.shape(h:RdL E S w v xs):∃ a c,v=.slice a xs.length c∧xs.length≤c∧c≤maxLen:=let⟨a,c,h1,h2,h3,_⟩:=h;⟨a,c,h1,h2,h3⟩
theorem RdL.len {a:Option Addr} {n c:Nat} (h:RdL E S w (.slice a n c) xs):n=xs.length∧n≤c∧c≤maxLen:=by
 obtain⟨_,_,e,h1,h2⟩:=h.shape
 cases e
 exact⟨rfl,h1,h2⟩
theorem RdL.keep (h:RdL E S w v xs) (hk:∀ k,S k→w'.heap[k]?=w.heap[k]?):RdL E S w' v xs:=by
 obtain⟨a,cap,h1,h2,h3,h4⟩:=h
 refine⟨a,cap,h1,h2,h3,h4.imp id fun⟨b,off,e,hb,hr⟩=>⟨b,off,e,hb,fun r h=>?_⟩⟩
 obtain⟨vs,hR,hc⟩:=hr r h
 exact⟨vs,E.keep hR hk,fun j u hj=>(zac (hk b hb) _).trans (hc j u hj)⟩
theorem RdL.weak(h:RdL E S w v xs)(hs:∀ k,S k→S' k):RdL E S' w v xs:=by
 obtain⟨a,cap,h1,h2,h3,h4⟩:=h
 refine⟨a,cap,h1,h2,h3,h4.imp id fun⟨b,off,e,hb,hr⟩=>⟨b,off,e,hs b hb,fun r h=>?_⟩⟩
 obtain⟨vs,hR,hc⟩:=hr r h
 exact⟨vs,E.weak hR hs,hc⟩
theorem RdL.fit (h : RdL E S w v xs) : RdL E (fun k => S k ∧ k < w.heap.size) w v xs := by
 obtain ⟨a,cap,h1,h2,h3,h4⟩ := h
 by_cases h0 : xs = []
 ·exact ⟨a,cap,h1,h2,h3,.inl h0⟩
 obtain ⟨b,off,e,hb,hr⟩ := h4.resolve_left h0
 have hpos : 0 < xs.length := List.length_pos_iff.2 h0
 have hlt : b < w.heap.size := by
  obtain ⟨vs,hR,hc⟩ := hr 0 hpos
  have hl := E.len hR
  have hp := E.pos
  exact zaj (hc 0 vs[0] (List.getElem?_eq_getElem (by omega)))
 refine ⟨a,cap,h1,h2,h3,.inr ⟨b,off,e,⟨hb,hlt⟩,fun r h => ?_⟩⟩
 obtain ⟨vs,hR,hc⟩ := hr r h
 exact ⟨vs,E.fit hR,hc⟩
theorem RdL.below (h:RdL E S w v xs) (hb:Below w.heap.size w w'):RdL E S w' v xs:=(h.fit.keep fun k hk=>hb.block k hk.2).weak (fun _ h=>h.1)
theorem RdL.at {a : Option Addr} {n c : Nat} (h : RdL E S w (.slice a n c) xs) (r : Nat) (hr : r < xs.length) :
  ∃ b off vs,a = some ⟨b,off,none⟩ ∧ S b ∧ E.R S w xs[r] vs ∧ ∀ j u,vs[j]? = some u → w.cell? ⟨b,off + r * E.size + j,none⟩ = some u := by
 obtain ⟨a',cap,h1,h2,h3,h4⟩ := h
 cases h1
 rcases h4 with rfl | ⟨b,off,e,hb,hq⟩
 ·exact absurd hr (Nat.not_lt_zero _)
 ·obtain ⟨vs,hR,hc⟩ := hq r hr
  exact ⟨b,off,vs,e,hb,hR,hc⟩
theorem RdL.part {a : Option Addr} {n c : Nat} (h : RdL E S w (.slice a n c) xs) {l r : Nat} (hl : l ≤ r) (hr : r ≤ xs.length) :
  RdL E S w (.slice (if c = l then a else a.map (·.add (l * E.size))) (r - l) (c - l)) ((xs.drop l).take (r - l)) := by
 obtain ⟨a',cap,h1,h2,h3,h4⟩ := h
 cases h1
 have hlen : ((xs.drop l).take (r - l)).length = r - l := by simp; omega
 refine ⟨_,_,by rw [hlen],by omega,by omega,?_⟩
 by_cases h0 : r = l
 ·exact .inl (by subst h0; simp)
 rcases h4 with rfl | ⟨b,off,rfl,hb,hq⟩
 ·simp at hr; omega
 ·refine .inr ⟨b,off + l * E.size,?_,hb,fun i hi => ?_⟩
  ·rw [if_neg (by omega)]
   simp [Addr.add_lit]
  ·rw [hlen] at hi
   obtain ⟨vs,hR,hc⟩ := hq (l + i) (by omega)
   refine ⟨vs,by simpa using hR,fun j u hj => ?_⟩
   have := hc j u hj
   rw [show off + l * E.size + i * E.size + j = off + (l + i) * E.size + j by rw [Nat.add_mul]; omega]
   exact this
end
def Elt.list {α:Type} (E:Elt α):Elt (List α) where
 size:=1
 pos:=Nat.one_pos
 R S w xs vs:=∃ v,vs=[v]∧RdL E S w v xs
 len:=by rintro _ _ _ _⟨_,rfl,_⟩;rfl
 keep:=by rintro _ _ _ _ _⟨v,rfl,h⟩hk;exact⟨v,rfl,h.keep hk⟩
 weak:=by rintro _ _ _ _ _⟨v,rfl,h⟩hk;exact⟨v,rfl,h.weak hk⟩
 fit:=by rintro _ _ _ _⟨v,rfl,h⟩;exact⟨v,rfl,h.fit⟩
 one:=by
  rintro _ _ _ _⟨v,rfl,h⟩u hu
  obtain rfl:u=v:=by simpa using hu
  obtain⟨_,_,rfl,_⟩:=h.shape
  rfl
def Elt.bytes:Elt (List UInt8) where
 size:=1
 pos:=Nat.one_pos
 R S w xs vs:=∃ v,vs=[v]∧RdS S w v xs
 len:=by rintro _ _ _ _⟨_,rfl,_⟩;rfl
 keep:=by rintro _ _ _ _ _⟨v,rfl,h⟩hk;exact⟨v,rfl,h.keep hk⟩
 weak:=by rintro _ _ _ _ _⟨v,rfl,h⟩hk;exact⟨v,rfl,h.weak hk⟩
 fit:=by rintro _ _ _ _⟨v,rfl,h⟩;exact⟨v,rfl,h.fit⟩
 one:=by
  rintro _ _ _ _⟨v,rfl,h⟩u hu
  obtain rfl:u=v:=by simpa using hu
  exact h.one
section
variable {α : Type} {E : Elt α} {P : Program} {T Te : TypeId} {ops : Array Oper} {rest : List Oper} {o : Oper} {a : Act} {Q : Exit → Act → World → Prop} {w : World} {K : Act → World → Prop}
structure LsP (P:Program) (T Te:TypeId) (n:Nat):Prop where
 hT:P.underlying T=some (.slice Te)
 hn:(P.info? Te).map (·.size)=some n
theorem LsP.info {n:Nat}(h:LsP P T Te n):∃ i,P.info? Te=some i∧i.size=n:=by
 have:=h.hn
 cases hi:P.info? Te with
 | none=>simp [hi] at this
 | some i=>simp [hi] at this;exact⟨i,rfl,this⟩
theorem zgf {n:Nat} (hP:LsP P T Te n) {ad:Option Addr} {len c l r:Nat} {lo hi:Option Value} (hb:(Instr.sliceBounds true len c lo hi none).run P w=.ok (l,r,c) w) :
  (Instr.sliceAt T (.slice ad len c) lo hi none).run P w=.ok (.slice (if c=l then ad else ad.map (·.add (l*n))) (r - l) (c - l)) w:=by
 obtain⟨i,hi',hsz⟩:=hP.info
 simp [Instr.sliceAt,Instr.slice,run_underlying hP.hT,hb,sizeOf,typeInfo,hi',hsz]
theorem zeg (hP:LsP P T Te E.size) {x:Operand} {lo hi:Option Operand} (ho:o.op=.slice T x lo hi none) (hgd:Region.wanted o (yielded ops a.tmps)=true) {S:Nat→Prop} {ad:Option Addr} {n c:Nat} {xs:List α} (hx:a.eval x=.slice ad n c) (hr:RdL E S w (.slice ad n c) xs)
  {l r:Nat} (hb:(Instr.sliceBounds true n c (lo.map a.eval) (hi.map a.eval) none).run P w=.ok (l,r,c) w)
  (h:∀ ad' c',RdL E S w (.slice ad' (r - l) c') ((xs.drop l).take (r - l))→wpList P ops Q rest (a.put o.dst (.slice ad' (r - l) c')) w) (hl:l≤r) (hrn:r≤xs.length):wpList P ops Q (o::rest) a w:=by
 refine BigFrame.wpList_want hgd fun K hK=>?_
 unfold Oper.wp execOp
 simp only [ho,hx,Option.map_none,Sem.run_bind,Sem.run_pure,Result.andThen_ok,zgf hP hb]
 exact hK _ _ (h _ _ (hr.part hl hrn))
end
def zae (a:Act):List Oper→(Nat→Value)→Nat→Act
 | [],_,_=>a
 | o::rest,vs,k=>zae (a.put o.dst (vs k)) rest vs (k+1)
def upd(vs:Nat→Value)(i:Nat)(v:Value):Nat→Value:=fun j=>if j=i then v else vs j
theorem put_put(a:Act)(d:Option Tmp)(u v:Value):(a.put d u).put d v=a.put d v:=by
 cases d with
 | none=>rfl
 | some d=>simp [Act.put]
theorem put_comm (a : Act) {d d' : Option Tmp} (h : d = none ∨ d ≠ d') (u v : Value) : (a.put d u).put d' v = (a.put d' v).put d u := by
  cases d with
  | none => rfl
  | some d =>
    cases d' with
    | none => rfl
    | some d' =>
      have hne : d ≠ d' := by rcases h with h | h; · cases h
                              · exact fun e => h (by rw [e])
      simp only [Act.put]
      rw [Array.setIfInBounds_comm _ _ hne]
theorem put_self (a:Act) (d:Tmp):a.put (some d) (a.tmps.getD d undef)=a:=by
 cases a with
 | mk tmps defers =>
  simp only [Act.put]
  congr 1
  apply Array.ext
  ·simp
  ·intro i h1 h2
   rw [Array.getElem_setIfInBounds]
   split
   ·rename_i e;subst e;simp [Array.getD,h2]
   ·rfl
theorem zgv:∀ (l:List Oper) (a:Act) (vs us:Nat→Value) (k:Nat),(∀ j,j<l.length→vs (k+j)=us (k+j))→zae a l vs k=zae a l us k
 | [],_,_,_,_,_=>rfl
 | o::rest,a,vs,us,k,h=>by
  simp only [zae]
  have h0:=h 0 (by simp)
  rw [Nat.add_zero] at h0
  rw [h0]
  exact zgv rest _ vs us (k+1) (fun j hj=>by have:=h (j+1) (by simp;omega);rw [show k+1+j=k+(j+1) by omega];exact this)
theorem ziu:∀ (l:List Oper) (a:Act) (vs:Nat→Value) (k:Nat) (d:Option Tmp) (v:Value),(∀ o∈l,d=none∨o.dst=none∨o.dst≠d)→(zae a l vs k).put d v=zae (a.put d v) l vs k
 | [],_,_,_,_,_,_=>rfl
 | o::rest,a,vs,k,d,v,h=>by
  simp only [zae]
  rw [ziu rest _ vs (k+1) d v (fun o' ho=>h o' (List.mem_cons_of_mem _ ho))]
  congr 1
  rcases h o (List.mem_cons_self) with h | h | h
  ·subst h;rfl
  ·rw [h];rfl
  ·exact put_comm a (.inr h) _ _
def zky (l:List Oper):Bool:=(l.filterMap (·.dst)).Nodup
theorem zd6 : ∀ (l : List Oper) (a : Act) (vs : Nat → Value) (k j : Nat) (o : Oper) (v : Value),(l.filterMap (·.dst)).Nodup → l[j]? = some o →
  (zae a l vs k).put o.dst v = zae a l (upd vs (k + j) v) k
 | [],_,_,_,_,_,_,_,h => by simp at h
 | o' :: rest,a,vs,k,0,o,v,hn,h => by
  obtain rfl : o' = o := by simpa using h
  simp only [zae,Nat.add_zero]
  rw [ziu rest _ vs (k + 1) o'.dst v,put_put]
  ·rw [show upd vs k v k = v by simp [upd]]
   exact zgv rest _ _ _ _ (fun j _ => by simp [upd]; omega)
  ·intro o2 ho2
   cases hd : o'.dst with
   | none => exact .inl rfl
   | some d =>
    refine .inr ?_
    cases hd2 : o2.dst with
    | none => exact .inl rfl
    | some d2 =>
     refine .inr fun e => ?_
     cases e
     rw [List.filterMap_cons_some hd,List.nodup_cons] at hn
     exact hn.1 (List.mem_filterMap.2 ⟨o2,ho2,hd2⟩)
 | o' :: rest,a,vs,k,j + 1,o,v,hn,h => by
  simp only [zae]
  have hn' : (rest.filterMap (·.dst)).Nodup := by
   cases hd : o'.dst with
   | none => rwa [List.filterMap_cons_none hd] at hn
   | some d => rw [List.filterMap_cons_some hd,List.nodup_cons] at hn; exact hn.2
  rw [zd6 rest _ vs (k + 1) j o v hn' (by simpa using h),show k + 1 + j = k + (j + 1) by omega]
  rw [show upd vs (k + (j + 1)) v k = vs k by simp [upd]]
theorem zdn:∀ (l:List Oper) (a:Act) (vs:Nat→Value) (k:Nat),(∀ j o d,l[j]?=some o→o.dst=some d→vs (k+j)=a.tmps.getD d undef)→zae a l vs k=a
 | [],_,_,_,_=>rfl
 | o::rest,a,vs,k,h=>by
  simp only [zae]
  have e:a.put o.dst (vs k)=a:=by
   cases hd:o.dst with
   | none=>rfl
   | some d =>
    have q:=h 0 o d rfl hd
    rw [Nat.add_zero] at q
    rw [q];exact put_self a d
  rw [e]
  exact zdn rest a vs (k+1) (fun j o' d hj hd=>by rw [show k+1+j=k+(j+1) by omega];exact h (j+1) o' d (by simpa using hj) hd)
def zby:List Oper→Nat→Tmp→Option Nat
 | [],_,_=>none
 | o::rest,k,t=>if o.dst=some t then some k else zby rest (k+1) t
theorem zau(a:Act)(d:Option Tmp)(v:Value):(a.put d v).tmps.size=a.tmps.size:=by cases d<;>simp [Act.put]
theorem znd (a:Act) {d:Option Tmp} {t:Tmp} (h:d≠some t) (v:Value):(a.put d v).eval (.tmp t)=a.eval (.tmp t):=by
 cases d with
 | none=>rfl
 | some d =>
  have:d≠t:=fun e=>h (by rw [e])
  simp only [Act.eval,Act.put,Array.getD_eq_getD_getElem?,Array.getElem?_setIfInBounds_ne this]
theorem zne (a:Act) {t:Tmp} (h:t<a.tmps.size) (v:Value):(a.put (some t) v).eval (.tmp t)=v:=by
 simp [Act.eval,Act.put,h]
theorem zbb:∀ (l:List Oper) (a:Act) (vs:Nat→Value) (k:Nat) (t:Tmp),zby l k t=none→(zae a l vs k).eval (.tmp t)=a.eval (.tmp t)
 | [],_,_,_,_,_=>rfl
 | o::rest,a,vs,k,t,h=>by
  simp only [zby] at h
  split at h
  ·cases h
  ·rename_i hne
   simp only [zae]
   rw [zbb rest _ vs (k+1) t h,znd a hne]
theorem za8 : ∀ (l : List Oper) (a : Act) (vs : Nat → Value) (k : Nat) (t : Tmp) (j : Nat),(l.filterMap (·.dst)).Nodup → t < a.tmps.size → zby l k t = some j → (zae a l vs k).eval (.tmp t) = vs j
 | [],_,_,_,_,_,_,_,h => by simp [zby] at h
 | o :: rest,a,vs,k,t,j,hn,ht,h => by
  simp only [zby] at h
  simp only [zae]
  split at h
  ·rename_i he
   obtain rfl : k = j := by simpa using h
   have hout : ∀ (l : List Oper) (k : Nat),(∀ o ∈ l,o.dst ≠ some t) → zby l k t = none := by
    intro l
    induction l with
    | nil => intro _ _; rfl
    | cons o2 r ih => intro k hh; simp only [zby]; rw [if_neg (hh o2 (by simp))]; exact ih _ (fun o3 h3 => hh o3 (by simp [h3]))
   rw [List.filterMap_cons_some he,List.nodup_cons] at hn
   rw [zbb rest _ vs (k + 1) t (hout rest (k + 1) (fun o2 h2 e => hn.1 (List.mem_filterMap.2 ⟨o2,h2,e⟩))),he,zne a ht]
  ·have hn' : (rest.filterMap (·.dst)).Nodup := by
    cases hd : o.dst with
    | none => rwa [List.filterMap_cons_none hd] at hn
    | some d => rw [List.filterMap_cons_some hd,List.nodup_cons] at hn; exact hn.2
   exact za8 rest _ vs (k + 1) t j hn' (by rw [zau]; exact ht) h
section
variable {P : Program} {Q : Exit → Act → World → Prop}
def zl8 (P:Program) (Q:Exit→Act→World→Prop) (ops:Array Oper) (a:Act) (w:World) (G:Nat→World→Value→Prop) (i:Nat) (o:Oper):Prop :=
 ∀ (A:Act) (vs:Nat→Value) (w':World),(∀ t,zby ops.toList 0 t=none→A.eval (.tmp t)=a.eval (.tmp t))→(∀ t j,t<a.tmps.size→zby ops.toList 0 t=some j→A.eval (.tmp t)=vs j) →
  Below w.heap.size w w'→(∀ e∈o.after,Region.binds .any e=true→G e.on w' (vs e.on)) →
  o.wp P A w' (fun a2 w2=>∃ v,a2=A.put o.dst v∧G i w2 v∧Below w'.heap.size w' w2) Q
def zb0(n:Nat)(listed:Array Bool):List Nat:=(List.range n).filter fun i=>!listed.getD i true
theorem zdu {n : Nat} {listed : Array Bool} {i : Nat} (hn : listed.size = n) (hi : i < n) (hl : listed.getD i true = false) : (zb0 n (listed.setIfInBounds i true)).length < (zb0 n listed).length := by
  have key : ∀ (l : List Nat),l.Nodup → i ∈ l → (l.filter fun j => !(listed.setIfInBounds i true).getD j true).length < (l.filter fun j => !listed.getD j true).length ∨ False := by
    intro l
    induction l with
    | nil => intro _ h; cases h
    | cons x r ih =>
      intro hnd hm
      rw [List.nodup_cons] at hnd
      have same : ∀ j,j ≠ i → (listed.setIfInBounds i true).getD j true = listed.getD j true := by
        intro j hj
        simp only [Array.getD_eq_getD_getElem?,Array.getElem?_setIfInBounds_ne hj.symm]
      have here : (listed.setIfInBounds i true).getD i true = true := by
        simp only [Array.getD_eq_getD_getElem?,Array.getElem?_setIfInBounds_self_of_lt (by omega : i < listed.size)]; rfl
      by_cases hx : x = i
      · subst hx
        left
        rw [List.filter_cons_of_neg (by simp [here]),List.filter_cons_of_pos (by simp [hl])]
        have e : r.filter (fun j => !(listed.setIfInBounds x true).getD j true) = r.filter (fun j => !listed.getD j true) :=
          List.filter_congr (fun j hj => by rw [same j (fun e => hnd.1 (e ▸ hj))])
        rw [e]; simp
      · left
        have hm' : i ∈ r := by rcases List.mem_cons.1 hm with h | h; · exact absurd h.symm hx
                               · exact h
        have := (ih hnd.2 hm').resolve_right id
        by_cases hb : listed.getD x true = true
        · rw [List.filter_cons_of_neg (by simp [same x hx,hb]),List.filter_cons_of_neg (by simp [hb])]; exact this
        · have hb' : listed.getD x true = false := by simpa using hb
          rw [List.filter_cons_of_pos (by simp [same x hx,hb']),List.filter_cons_of_pos (by simp [hb'])]
          simp only [List.length_cons]; omega
  exact (key (List.range n) List.nodup_range (List.mem_range.2 hi)).resolve_right id
end
def StableG(G:World→Value→Prop):Prop:=∀ w v w',G w v→Below w.heap.size w w'→G w' v
abbrev SG:={ G:World→Value→Prop // StableG G }
def sgEq(u:Value):SG:=⟨fun _ v=>v=u,fun _ _ _ h _=>h⟩
def sgAny:SG:=⟨fun _ _=>True,fun _ _ _ h _=>h⟩
section
variable {P : Program} {T E S : TypeId} {o : Oper} {a : Act} {K : Act → World → Prop} {Q : Exit → Act → World → Prop} {w : World}
theorem zfl {v:Value} (hrun:(execOp a.eval o).run P w=.ok (.value v) w) (h:K (a.put o.dst v) w):o.wp P a w K Q:=by
 unfold Oper.wp
 rw [hrun]
 exact h
theorem zak {f:FuncId} {xs:Array Operand} {ts:Array TypeId} {args:Array Value} (ho:o.op=.call { callee:=.value (.func f),args:=xs,argTypes:=ts }) (eg:∀ args w,(callFunc f args).run P w=.ok (.enter f args) w)
  (hargs:xs.map a.eval=args) (hc:Calls P f args w (fun e w'=>∃ v,e=.returned v∧K (a.put o.dst v) w')):o.wp P a w K Q:=by
 have hrun:(execOp a.eval o).run P w=.ok (.enter f args) w:=by
  subst hargs
  simp [execOp,ho,resolve,BigFrame.eval_func,invoke,Deferred.ofValue,eg]
 unfold Oper.wp
 rw [hrun,Oper.upon_enter]
 refine hc.mono (fun e w' h=>?_)
 obtain⟨v,rfl,hk⟩:=h
 exact hk
end
def Flat {α:Type}(E:Elt α)(S:Nat→Prop)(w:World):List α→List Value→Prop
 | [],vs=>vs=[]
 | x::xs,vs=>∃ us ws,vs=us++ws∧E.R S w x us∧Flat E S w xs ws
section
variable {α : Type} {E : Elt α} {S S' : Nat → Prop} {w w' : World}
theorem Flat.len:∀ {xs:List α} {vs:List Value},Flat E S w xs vs→vs.length=xs.length*E.size
 | [],_,h=>by cases h;simp
 | x::xs,_,⟨us,ws,rfl,h1,h2⟩=>by rw [List.length_append,E.len h1,Flat.len h2,List.length_cons,Nat.add_mul];omega
theorem Flat.append:∀ {xs ys:List α} {vs us:List Value},Flat E S w xs vs→Flat E S w ys us→Flat E S w (xs++ys) (vs++us)
 | [],_,_,_,h,k=>by cases h;exact k
 | x::xs,_,_,_,⟨us,ws,rfl,h1,h2⟩,k=>⟨us,_,by rw [List.append_assoc],h1,Flat.append h2 k⟩
theorem Flat.keep:∀ {xs:List α} {vs:List Value},Flat E S w xs vs→(∀ k,S k→w'.heap[k]?=w.heap[k]?)→Flat E S w' xs vs
 | [],_,h,_=>h
 | _::_,_,⟨us,ws,e,h1,h2⟩,hk=>⟨us,ws,e,E.keep h1 hk,Flat.keep h2 hk⟩
theorem Flat.weak:∀ {xs:List α} {vs:List Value},Flat E S w xs vs→(∀ k,S k→S' k)→Flat E S' w xs vs
 | [],_,h,_=>h
 | _::_,_,⟨us,ws,e,h1,h2⟩,hk=>⟨us,ws,e,E.weak h1 hk,Flat.weak h2 hk⟩
theorem Flat.one:∀ {xs:List α} {vs:List Value},Flat E S w xs vs→∀ u∈vs,u.oneCell'=true
 | [],_,h=>by cases h;simp
 | _::_,_,⟨us,ws,e,h1,h2⟩=>by
  subst e
  intro u hu
  rcases List.mem_append.1 hu with hu|hu
  ·exact E.one h1 u hu
  ·exact Flat.one h2 u hu
theorem Flat.at:∀ {xs:List α} {vs:List Value} (_:Flat E S w xs vs) (r:Nat) (hr:r<xs.length),∃ us,E.R S w xs[r] us∧∀ j u,us[j]?=some u→vs[r*E.size+j]?=some u
 | [],_,_,_,hr=>absurd hr (Nat.not_lt_zero _)
 | x::xs,_,⟨us,ws,rfl,h1,h2⟩,0,_=>⟨us,h1,fun j u hj=>by
   rw [Nat.zero_mul,Nat.zero_add,List.getElem?_append_left (List.getElem?_eq_some_iff.1 hj).1];exact hj⟩
 | x::xs,_,⟨us,ws,rfl,h1,h2⟩,r+1,hr=>by
  obtain⟨us',h3,h4⟩:=Flat.at h2 r (by simpa using hr)
  refine⟨us',by simpa using h3,fun j u hj=>?_⟩
  have hl:=E.len h1
  rw [show (r+1)*E.size+j=us.length+(r*E.size+j) by rw [hl,Nat.add_mul];omega,List.getElem?_append_right (Nat.le_add_right _ _),Nat.add_sub_cancel_left]
  exact h4 j u hj
theorem Flat.take:∀ {xs:List α} {vs:List Value} (_:Flat E S w xs vs) (k:Nat),Flat E S w (xs.take k) (vs.take (k*E.size))
 | [],_,h,k=>by cases h;simp [Flat]
 | x::xs,_,⟨us,ws,rfl,h1,h2⟩,0=>by simp [Flat]
 | x::xs,_,⟨us,ws,rfl,h1,h2⟩,k+1=>by
  refine⟨us,ws.take (k*E.size),?_,h1,Flat.take h2 k⟩
  have hl:=E.len h1
  rw [show (k+1)*E.size=us.length+k*E.size by rw [hl,Nat.add_mul];omega,List.take_length_add_append]
theorem Flat.single {x:α} {us:List Value}(h:E.R S w x us):Flat E S w [x] us:=⟨us,[],by simp,h,rfl⟩
theorem zrl {b off : Nat} : ∀ (xs : List α) (k : Nat),(∀ r (h : r < xs.length),∃ vs,E.R S w xs[r] vs ∧ ∀ j u,vs[j]? = some u → w.cell? ⟨b,off + (k + r) * E.size + j,none⟩ = some u) →
  ∃ vs,Flat E S w xs vs ∧ ∀ j u,vs[j]? = some u → w.cell? ⟨b,off + k * E.size + j,none⟩ = some u
 | [],k,_ => ⟨[],rfl,fun j u h => by simp at h⟩
 | x :: xs,k,h => by
  obtain ⟨us,h1,h2⟩ := h 0 (by simp)
  obtain ⟨ws,h3,h4⟩ := zrl xs (k + 1) (fun r hr => by
   obtain ⟨vs,h5,h6⟩ := h (r + 1) (by simpa using hr)
   exact ⟨vs,by simpa using h5,fun j u hj => by rw [show k + 1 + r = k + (r + 1) by omega]; exact h6 j u hj⟩)
  refine ⟨us ++ ws,⟨us,ws,rfl,by simpa using h1,h3⟩,fun j u hj => ?_⟩
  have hl := E.len h1
  rcases Nat.lt_or_ge j us.length with hlt | hge
  ·rw [List.getElem?_append_left hlt] at hj
   exact h2 j u hj
  ·rw [List.getElem?_append_right hge] at hj
   have := h4 _ u hj
   rw [show off + (k + 1) * E.size + (j - us.length) = off + k * E.size + j by rw [Nat.add_mul]; omega] at this
   exact this
theorem RdL.flat {b off n c : Nat} {xs : List α} (h : RdL E S w (.slice (some ⟨b,off,none⟩) n c) xs) : ∃ vs,Flat E S w xs vs ∧ ∀ j u,vs[j]? = some u → w.cell? ⟨b,off + j,none⟩ = some u := by
 obtain ⟨a,cap,h1,h2,h3,h4⟩ := h
 cases h1
 rcases h4 with rfl | ⟨b',off',e,hb,hq⟩
 ·exact ⟨[],rfl,fun j u h => by simp at h⟩
 ·cases e
  obtain ⟨vs,h5,h6⟩ := zrl (b := b) (off := off) xs 0 (fun r hr => by
   obtain ⟨vs,h5,h6⟩ := hq r hr
   exact ⟨vs,h5,fun j u hj => by rw [Nat.zero_add]; exact h6 j u hj⟩)
  exact ⟨vs,h5,fun j u hj => by have := h6 j u hj; rwa [Nat.zero_mul,Nat.add_zero] at this⟩
end
def OwnL {α:Type} (E:Elt α) (T:TypeId) (base lo:Nat) (w:World) (v:Value) (xs:List α):Prop :=
 ∃ vs,w.ownsRow base T E.size v xs.length vs∧Flat E (fun k=>lo≤k∧k<w.heap.size∧some k≠v.ownBlock) w xs vs
section
variable {α : Type} {E : Elt α} {T : TypeId} {base lo : Nat} {w w' : World} {v : Value} {xs : List α}
theorem OwnL.nil (E:Elt α) (T:TypeId) (base lo:Nat) (w:World):OwnL E T base lo w (.slice none 0 0) []:=⟨[],World.ownsRow_nil _ _ _ _,rfl⟩
theorem OwnL.shape(h:OwnL E T base lo w v xs):∃ a cap,v=.slice a xs.length cap:=by
 obtain⟨vs,h,_⟩:=h
 rcases h.2 with⟨rfl,h0⟩|⟨g,cap,cur,rfl,_⟩
 ·rw [h0];exact⟨none,0,rfl⟩
 ·exact⟨_,_,rfl⟩
theorem OwnL.len {a:Option Addr} {k c:Nat} (h:OwnL E T base lo w (.slice a k c) xs):k=xs.length:=by
 obtain⟨_,_,e⟩:=h.shape
 cases e;rfl
theorem OwnL.block_lt(h:OwnL E T base lo w v xs):∀ k,v.ownBlock=some k→base≤k∧k<w.heap.size:=by
 obtain⟨vs,h1,_⟩:=h
 exact fun k hk=>h1.lt k hk
theorem OwnL.to {base' lo':Nat}(h:OwnL E T base lo w v xs)(hb:base'≤base)(hl:lo'≤lo):OwnL E T base' lo' w v xs:=by
 obtain⟨vs,h1,h2⟩:=h
 exact⟨vs,⟨h1.1,h1.2.imp id fun⟨g,cap,cur,a,b,c⟩=>⟨g,cap,cur,a,Nat.le_trans hb b,c⟩⟩,h2.weak fun k hk=>⟨Nat.le_trans hl hk.1,hk.2⟩⟩
theorem OwnL.kept (h : OwnL E T base lo w v xs) (hs : w.heap.size ≤ w'.heap.size) (hk : ∀ k,lo ≤ k ∨ base ≤ k → k < w.heap.size → w'.heap[k]? = w.heap[k]?) : OwnL E T base lo w' v xs := by
 obtain ⟨vs,h1,h2⟩ := h
 refine ⟨vs,⟨h1.1,?_⟩,(h2.keep fun k hk' => hk k (.inl hk'.1) hk'.2.1).weak fun k hk => ⟨hk.1,Nat.lt_of_lt_of_le hk.2.1 hs,hk.2.2⟩⟩
 rcases h1.2 with h | ⟨g,cap,cur,hv,hb,hg,r⟩
 ·exact .inl h
 ·exact .inr ⟨g,cap,cur,hv,hb,(hk g (.inr hb) (Array.getElem?_eq_some_iff.1 hg).1).trans hg,r⟩
theorem OwnL.below(h:OwnL E T base lo w v xs)(hb:Below w.heap.size w w'):OwnL E T base lo w' v xs:=h.kept hb.size fun k _ hk=>hb.block k hk
theorem OwnL.other (h:OwnL E T base lo w v xs) {g:Nat} (hg:w.grownBy w' (some g)) (h1:g<lo) (h2:g<base):OwnL E T base lo w' v xs :=
 h.kept hg.size fun k hk hl=>hg.block k hl (fun e=>by injection e with e;omega)
theorem OwnL.rdL (h : OwnL E T base lo w v xs) : RdL E (fun k => (lo ≤ k ∨ base ≤ k) ∧ k < w.heap.size) w v xs := by
 obtain ⟨vs,h1,h2⟩ := h
 have hx := h1
 rcases h1.2 with ⟨rfl,h0⟩ | ⟨g,cap,cur,rfl,hb,hg,hn,hc,hcs,ht⟩
 ·obtain rfl : xs = [] := List.eq_nil_of_length_eq_zero h0
  exact RdL.nil _ _ _
 ·refine ⟨_,cap,rfl,hn,hc,.inr ⟨g,0,rfl,⟨.inr hb,(Array.getElem?_eq_some_iff.1 hg).1⟩,fun r hr => ?_⟩⟩
  obtain ⟨us,h3,h4⟩ := h2.at r hr
  refine ⟨us,E.weak h3 fun k hk => ⟨.inl hk.1,hk.2.1⟩,fun j u hj => ?_⟩
  have := hx.cells (g := g) rfl _ u (h4 j u hj)
  simpa [Addr.add_lit] using this
theorem OwnL.rdS {S:Nat→Prop}(h:OwnL E T base lo w v xs)(hs:∀ k,lo≤k∨base≤k→k<w.heap.size→S k):RdL E S w v xs:=h.rdL.weak fun k hk=>hs k hk.1 hk.2
end
structure LoP (P:Program) (T Te:TypeId) (n:Nat):Prop extends LsP P T Te n where
 hz:∃ z by',(P.info? Te).map (fun i=>(i.zero,i.bytes))=some (some z,by')∧z.cells.size=n∧by'≤4096
section
variable {α : Type} {E : Elt α} {P : Program} {T Te : TypeId} {ops : Array Oper} {rest : List Oper} {o : Oper} {a : Act} {Q : Exit → Act → World → Prop} {w : World} {K : Act → World → Prop}
theorem LoP.all {n:Nat}(h:LoP P T Te n):∃ i z,P.info? Te=some i∧i.zero=some z∧i.size=n∧i.bytes≤4096∧z.cells.size=n:=by
 obtain⟨i,hi,hs⟩:=h.info
 obtain⟨z,by',h1,h2,h3⟩:=h.hz
 simp only [hi,Option.map_some,Option.some.injEq,Prod.mk.injEq] at h1
 exact⟨i,z,hi,h1.1,hs,by omega,h2⟩
theorem zk4 (hP:LoP P T Te E.size) (w:World) {base lo:Nat} (ty:TypeId) {v:Value} {xs ys:List α} {ns:List Value} (hown:OwnL E Te base lo w v xs) {p:Addr} {c:Nat} {S:Nat→Prop}
  (hcells:∀ j u,ns[j]?=some u→w.cell? (p.add j)=some u) (hn:Flat E S w ys ns) (hS:∀ k,S k→lo≤k∧k<w.heap.size∧some k≠v.ownBlock) (hbase:base≤w.heap.size) (hlen:xs.length+ys.length≤1073741824) :
  ∃ v' w',(Builtin.append_ #[T,T] ty #[v,.slice (some p) ys.length c]).run P w=.ok v' w'∧OwnL E Te base lo w' v' (xs++ys)∧w.grownBy w' v.ownBlock∧(v'.ownBlock=v.ownBlock∨v'.ownBlock=some w.heap.size):=by
 obtain⟨i,z,hi,hz,hsz,hby,hzs⟩:=hP.all
 obtain⟨us,h1,h2⟩:=hown
 obtain⟨v',w',hr,ho,hg,_,hb⟩:=run_append_own_at (P:=P) (w:=w) base T ty Te i z E.size i.bytes hP.hT hi hz hsz rfl hzs E.pos v xs.length us h1 p ys.length c ns hn.len hcells hn.one (by unfold maxLen;omega)
  (by have:=Nat.mul_le_mul hlen hby;omega) hbase
 refine⟨v',w',hr,⟨us++ns,by rw [List.length_append];exact ho,?_⟩,hg,hb⟩
 have hne:∀ k,k<w.heap.size→some k≠v.ownBlock→some k≠v'.ownBlock:=fun k h3 h4=>by
  rcases hb with e | e
  ·rw [e];exact h4
  ·rw [e];intro e2;injection e2 with e2;omega
 have hk:∀ k,lo≤k∧k<w.heap.size∧some k≠v.ownBlock→lo≤k∧k<w'.heap.size∧some k≠v'.ownBlock:=fun k hk=>⟨hk.1,Nat.lt_of_lt_of_le hk.2.1 hg.size,hne k hk.2.1 hk.2.2⟩
 have hsame:∀ k,lo≤k∧k<w.heap.size∧some k≠v.ownBlock→w'.heap[k]?=w.heap[k]?:=fun k hk=>hg.block k hk.2.1 hk.2.2
 exact ((h2.keep hsame).weak hk).append (((hn.weak hS).keep hsame).weak hk)
theorem fold_set:∀ (vs:List Value) (k:Nat) (cells:Array Value),k+vs.length≤cells.size→(vs.zipIdx k).foldl (fun cs (p:Value×Nat)=>cs.setIfInBounds p.2 p.1) cells=(cells.toList.take k++vs++cells.toList.drop (k+vs.length)).toArray:=by
 intro vs
 induction vs with
 | nil=>intro k cells _;simp
 | cons v vs ih =>
  intro k cells hk
  simp only [List.length_cons] at hk
  have hlt:k<cells.toList.length:=by simp;omega
  simp only [List.zipIdx_cons,List.foldl_cons]
  rw [ih (k+1) _ (by simp;omega)]
  congr 1
  have e1:(cells.toList.set k v).take (k+1)=cells.toList.take k++[v]:=by
   rw [List.take_succ_eq_append_getElem (by simpa using hlt),List.take_set_of_le (Nat.le_refl _)]
   simp
  have e2:(cells.toList.set k v).drop (k+1+vs.length)=cells.toList.drop (k+(vs.length+1)):=by
   rw [List.drop_set_of_lt (by omega)]
   congr 1;omega
  simp only [Array.toList_setIfInBounds,List.length_cons,e1,e2]
  simp
theorem zk2 {n : Nat} (hP : LoP P T Te n) (w : World) {v : Value} {us : List Value} (hv : v.cells = us.toArray) (hl : us.length = n) (h0 : 0 < n) (hn : n ≤ 4096) :
  (Instr.buildSlice T 1 #[(0,v)]).run P w = .ok (.slice (some ⟨w.heap.size,0,none⟩) 1 1) (w.alloc (.cells us.toArray Te)) := by
 obtain ⟨i,z,hi,hz,hsz,hby,hzs⟩ := hP.all
 have hf : ∀ cells : Array Value,cells.size = n → Instr.fill (fun i => some (i * n,n)) cells [(0,v)] = some us.toArray := by
  intro cells hc
  have h := fold_set us 0 cells (by omega)
  rw [show 0 + us.length = cells.toList.length by simp [hl,hc],List.drop_length] at h
  simp only [List.take_zero,List.nil_append,List.append_nil] at h
  simp [Instr.fill,hv,hl]
  exact ⟨by omega,by simpa using h⟩
 have hsz2 : ((Array.range (1 * n)).map (fun x => (z.cells)[x % (z.cells).size]!)).size = n := by simp
 have := hf _ hsz2
 simp [Instr.buildSlice,run_underlying hP.hT,sizeOf,typeInfo,zeroValue,hi,hz,hsz,newRow] at this ⊢
 rw [if_neg (by omega),if_neg (by omega),this]
 simp
theorem zb3 {n : Nat} (hP : LoP P T Te n) {y : Operand} {v : Value} {us : List Value} (ho : o.op = .buildSlice T 1 #[(0,y)]) (hy : a.eval y = v) (hv : v.cells = us.toArray) (hl : us.length = n) (h0 : 0 < n) (hn : n ≤ 4096)
  (h : K (a.put o.dst (.slice (some ⟨w.heap.size,0,none⟩) 1 1)) (w.alloc (.cells us.toArray Te))) : o.wp P a w K Q := by
 have hrun := zk2 hP w hv hl h0 hn
 unfold Oper.wp execOp
 simp only [ho,hy,Sem.run_bind,Sem.run_pure,Result.andThen_ok,List.map_toArray,List.map_cons,List.map_nil,hrun]
 exact h
theorem zry (w : World) (us : List Value) (t : TypeId) (j : Nat) (u : Value) (h : us[j]? = some u) : (w.alloc (.cells us.toArray t)).cell? (Addr.add ⟨w.heap.size,0,none⟩ j) = some u := by
 rw [Addr.add_lit,World.cell?]
 simp only [World.alloc,Array.getElem?_push_size]
 simpa using h
theorem zd1 (hP:LoP P T Te E.size) {s x:Operand} (ho:o.op=.call { callee:=.builtin .append,args:=#[s,x],argTypes:=#[T,T] })
  {base lo:Nat} {vs:Value} {xs ys:List α} {ns:List Value} {p:Addr} {c:Nat} {S:Nat→Prop} (hs:a.eval s=vs) (hown:OwnL E Te base lo w vs xs) (hx:a.eval x=.slice (some p) ys.length c)
  (hcells:∀ j u,ns[j]?=some u→w.cell? (p.add j)=some u) (hn:Flat E S w ys ns) (hS:∀ k,S k→lo≤k∧k<w.heap.size∧some k≠vs.ownBlock) (hbase:base≤w.heap.size)
  (h:∀ ad k cap w',OwnL E Te base lo w' (.slice ad k cap) (xs++ys)→w.grownBy w' vs.ownBlock→(Value.ownBlock (.slice ad k cap)=vs.ownBlock∨Value.ownBlock (.slice ad k cap)=some w.heap.size)→K (a.put o.dst (.slice ad k cap)) w') (hlen:xs.length+ys.length≤1073741824):o.wp P a w K Q:=by
 obtain⟨v',w',hrun,h2,h3,h4⟩:=zk4 hP w o.type hown hcells hn hS hbase hlen (c:=c)
 obtain⟨ad,cap,rfl⟩:=h2.shape
 unfold Oper.wp execOp
 simp only [ho,resolve,invoke,builtin,Sem.run_bind,Sem.run_pure,Result.andThen_ok,List.map_toArray,List.map_cons,List.map_nil,hs,hx,hrun]
 exact h _ _ _ _ h2 h3 h4
theorem zfc (hP:LoP P T Te E.size) {s x:Operand} (ho:o.op=.call { callee:=.builtin .append,args:=#[s,x],argTypes:=#[T,T] }) (hgd:Region.wanted o (yielded ops a.tmps)=true)
  {base lo:Nat} {vs:Value} {xs ys:List α} {ns:List Value} {p:Addr} {c:Nat} {S:Nat→Prop} (hs:a.eval s=vs) (hown:OwnL E Te base lo w vs xs) (hx:a.eval x=.slice (some p) ys.length c)
  (hcells:∀ j u,ns[j]?=some u→w.cell? (p.add j)=some u) (hn:Flat E S w ys ns) (hS:∀ k,S k→lo≤k∧k<w.heap.size∧some k≠vs.ownBlock) (hbase:base≤w.heap.size)
  (h:∀ ad k cap w',OwnL E Te base lo w' (.slice ad k cap) (xs++ys)→w.grownBy w' vs.ownBlock→(Value.ownBlock (.slice ad k cap)=vs.ownBlock∨Value.ownBlock (.slice ad k cap)=some w.heap.size)→wpList P ops Q rest (a.put o.dst (.slice ad k cap)) w') (hlen:xs.length+ys.length≤1073741824):wpList P ops Q (o::rest) a w :=
 BigFrame.wpList_want hgd fun _ hK=>zd1 hP ho hs hown hx hcells hn hS hbase (fun ad k cap w' h1 h2 h3=>hK _ _ (h ad k cap w' h1 h2 h3)) hlen
end
section
variable {P : Program} {T E S : TypeId} {o : Oper} {a : Act} {K : Act → World → Prop} {Q : Exit → Act → World → Prop} {w : World}
theorem zfm {t:TypeId} {x:Operand} {p:Addr} {v:Value} {k:IntKind} (ho:o.op=.load t x) (hx:a.eval x=.pointer (some p)) (hu:P.underlying t=some (.int k)) (hc:w.cell? p=some v) (h:K (a.put o.dst v) w):o.wp P a w K Q:=by
 refine zfl ?_ h
 simp only [execOp,ho,hx]
 simp [isAgg,run_underlying hu,hc,go_sem]
theorem zad {t e:TypeId} {x:Operand} {p:Addr} {v:Value} (ho:o.op=.load t x) (hx:a.eval x=.pointer (some p)) (hu:P.underlying t=some (.slice e)) (hc:w.cell? p=some v) (h:K (a.put o.dst v) w):o.wp P a w K Q:=by
 refine zfl ?_ h
 simp only [execOp,ho,hx]
 simp [isAgg,run_underlying hu,hc,go_sem]
theorem wp_eqlB {t t2:TypeId} {x y:Operand} {m n:Bool} (hu:P.underlying t=some .bool) (ho:o.op=.binOp .eql t x y t2) (hx:a.eval x=.bool m) (hy:a.eval y=.bool n) (h:K (a.put o.dst (.bool (m==n))) w):o.wp P a w K Q:=by
 refine zfl (v:=.bool (m==n)) ?_ h
 simp only [execOp,ho,hx,hy]
 simp [eqGuard,binOp,run_equal_bool w t m n hu,go_sem]
theorem wp_pk {x y z:Operand} {b:Bool} {u:Value} (ho:o.op=.pick x y z) (hx:a.eval x=.bool b) (hy:b=true→a.eval y=u) (hz:b=false→a.eval z=u) (h:K (a.put o.dst u) w):o.wp P a w K Q:=by
 refine zfl (v:=u) ?_ h
 cases b
 ·simp [execOp,ho,asBool,hx,hz rfl]
 ·simp [execOp,ho,asBool,hx,hy rfl]
theorem zbi {t t2 : TypeId} {x y : Operand} {m n : Int} (ho : o.op = .binOp .add t x y t2) (hx : a.eval x = .int .i64 m) (hy : a.eval y = .int .i64 n) (h0 : -9223372036854775808 ≤ m + n) (h1 : m + n ≤ 9223372036854775807) (h : K (a.put o.dst (.int .i64 (m + n))) w) : o.wp P a w K Q := by
 refine zfl (v := .int .i64 (m + n)) ?_ h
 simp only [execOp,ho,hx,hy]
 simp [binOp,go_sem,IntWalk.i64_in _ ⟨h0,h1⟩]
theorem zct {t e:TypeId} {x:Operand} {ad:Option Addr} {n c:Nat} (ho:o.op=.call { callee:=.builtin .len,args:=#[x],argTypes:=#[t] }) (hu:P.underlying t=some (.slice e)) (hx:a.eval x=.slice ad n c) (h:K (a.put o.dst (.int .i64 n)) w):o.wp P a w K Q:=by
 refine zfl (v:=.int .i64 n) ?_ h
 simp only [execOp,ho,resolve,invoke,builtin,Sem.run_bind,Sem.run_pure,Result.andThen_ok,List.map_toArray,List.map_cons,List.map_nil,hx]
 simp [Builtin.len_,run_underlying hu,goInt]
theorem wp_ex {x:Operand} {i:Nat} {vs:Array Value} {v:Value} (ho:o.op=.extract x i) (hx:a.eval x=.tuple vs) (hv:vs[i]?=some v) (h:K (a.put o.dst v) w):o.wp P a w K Q:=by
 refine zfl (v:=v) ?_ h
 simp only [execOp,ho,hx]
 simp [Instr.extract,hv]
theorem zps {t t2:TypeId} {x y:Operand} {k:IntKind} {m n:Int} (ho:o.op=.binOp .lss t x y t2) (hx:a.eval x=.int k m) (hy:a.eval y=.int k n) (h:K (a.put o.dst (.bool (decide (m<n)))) w):o.wp P a w K Q:=by
 refine zfl (v:=.bool (decide (m<n))) ?_ h
 simp only [execOp,ho,hx,hy]
 simp [binOp,Op.intCmp,go_sem]
end
def stB (P:Program) (t:TypeId) (n:Nat):Bool:=match P.underlying t with
 | some (.struct fs)=>fs.size==n&&((List.range n).all fun i=>match fs[i]? with
  | some f=>f.offset==i&&(P.info? f.type).map (·.size)==some 1
  | none=>false)&&((P.info? t).map (·.size)==some n)&&(match (P.info? t).bind (·.zero) with
  | some (.agg zs)=>zs.size==n
  | _=>false)
 | _=>false
structure StP (P:Program) (t:TypeId) (n:Nat):Prop where
 hu:∃ fs:Array Field,P.underlying t=some (.struct fs)∧fs.size=n∧∀ i,i<n→∃ f,fs[i]?=some f∧f.offset=i∧(P.info? f.type).map (·.size)=some 1
 hs:(P.info? t).map (·.size)=some n
 hz:∃ zs,(P.info? t).bind (·.zero)=some (.agg zs)∧zs.size=n
theorem StP.of {P:Program} {t:TypeId} {n:Nat}(h:stB P t n=true):StP P t n:=by
 unfold stB at h
 split at h
 ·rename_i fs hu
  simp only [Bool.and_eq_true,beq_iff_eq,List.all_eq_true,List.mem_range] at h
  obtain⟨⟨⟨h1,h2⟩,h3⟩,h4⟩:=h
  refine⟨⟨fs,hu,h1,fun i hi=>?_⟩,h3,?_⟩
  ·have:=h2 i hi
   split at this
   ·rename_i f hf
    simp only [Bool.and_eq_true,beq_iff_eq] at this
    exact⟨f,hf,this.1,this.2⟩
   ·cases this
  ·split at h4
   ·rename_i zs hz
    exact⟨zs,hz,by simpa using h4⟩
   ·cases h4
 ·cases h
theorem zab {P:Program} {ty:TypeId} {n:Nat} (h:(P.info? ty).map (·.size)=some n) (w:World):(sizeOf ty).run P w=.ok n w:=by
 cases hi:P.info? ty with
 | none=>simp [hi] at h
 | some i=>simp [hi] at h;simp [sizeOf,typeInfo,hi,h]
theorem StP.zero {P:Program} {t:TypeId} {n:Nat} (hP:StP P t n):∃ zs:Array Value,zs.size=n∧∀ w,(zeroValue t).run P w=.ok (.agg zs) w:=by
 obtain⟨zs,h,hs⟩:=hP.hz
 cases hi:P.info? t with
 | none=>simp [hi] at h
 | some i=>simp [hi] at h;exact⟨zs,hs,fun w=>by simp [zeroValue,typeInfo,hi,h]⟩
section
variable {P : Program} {t : TypeId} {n : Nat} {o : Oper} {a : Act} {K : Act → World → Prop} {Q : Exit → Act → World → Prop} {w : World}
theorem zdz {v:Value} (hrun:(execOp a.eval o).run P w=.ok (.value v) w) (h:K (a.put o.dst v) w):o.wp P a w K Q:=by
 unfold Oper.wp
 rw [hrun]
 exact h
theorem zai (hP : StP P t n) {x : Operand} {b off i : Nat} (ho : o.op = .fieldAddr t x i) (hx : a.eval x = .pointer (some ⟨b,off,none⟩)) (hi : i < n) (h : K (a.put o.dst (.pointer (some ⟨b,off + i,none⟩))) w) : o.wp P a w K Q := by
 obtain ⟨fs,hu,_,hf⟩ := hP.hu
 obtain ⟨f,hf,ho2,hs⟩ := hf i hi
 refine zdz ?_ h
 simp only [execOp,ho,hx]
 simp [Instr.fieldAt,run_underlying hu,fieldPlace,hf,ho2,zab hs,go_sem,Addr.add]
theorem zer (hP:StP P t 3) {x y z:Operand} {u v r:Value} (ho:o.op=.build t #[(0,x),(1,y),(2,z)]) (hx:a.eval x=u) (hy:a.eval y=v) (hz:a.eval z=r) (hu1:u.cells=#[u]) (hv1:v.cells=#[v]) (hr1:r.cells=#[r]) (h:K (a.put o.dst (.agg #[u,v,r])) w):o.wp P a w K Q:=by
 obtain⟨fs,hu,hfs,hf⟩:=hP.hu
 obtain⟨f0,g0,o0,s0⟩:=hf 0 (by omega)
 obtain⟨f1,g1,o1,s1⟩:=hf 1 (by omega)
 obtain⟨f2,g2,o2,s2⟩:=hf 2 (by omega)
 obtain⟨zs,hzs,hz0⟩:=hP.zero
 obtain⟨l⟩:=fs
 obtain⟨zl⟩:=zs
 match l,hfs with
 | [k0,k1,k2],_ =>
  match zl,hzs with
  | [z0,z1,z2],_ =>
   simp at g0 g1 g2
   subst g0;subst g1;subst g2
   refine zdz ?_ h
   simp only [execOp,ho,List.map_toArray,List.map_cons,List.map_nil,hx,hy,hz]
   simp [Instr.build,run_underlying hu,hz0,zab s0,zab s1,zab s2,Instr.fill,hu1,hv1,hr1,o0,o1,o2,show (Value.agg #[z0,z1,z2]).cells=#[z0,z1,z2] from rfl]
theorem zc0 (hP : StP P t 3) {x : Operand} {b off : Nat} {u v r : Value} (ho : o.op = .load t x) (hx : a.eval x = .pointer (some ⟨b,off,none⟩)) (h0 : w.cell? ⟨b,off,none⟩ = some u) (h1 : w.cell? ⟨b,off + 1,none⟩ = some v) (h2 : w.cell? ⟨b,off + 2,none⟩ = some r) (h : K (a.put o.dst (.agg #[u,v,r])) w) : o.wp P a w K Q := by
 obtain ⟨fs,hu,hfs,hf⟩ := hP.hu
 refine zdz ?_ h
 simp only [execOp,ho,hx]
 simp [Instr.loadAt,loadVar,isAgg,run_underlying hu,zab hP.hs,loadCellsFrom,Addr.add,h0,h1,h2,go_sem]
theorem zc1 {e : TypeId} {x i : Operand} {b off m c k : Nat} {kk : IntKind} {j : Int} (ho : o.op = .indexAddr t x i) (hu : P.underlying t = some (.slice e)) (hi : (P.info? e).map (·.size) = some n) (hx : a.eval x = .slice (some ⟨b,off,none⟩) m c) (hy : a.eval i = .int kk j) (hj : j = (k : Int)) (hk : k < m)
  (h : K (a.put o.dst (.pointer (some ⟨b,off + k * n,none⟩))) w) : o.wp P a w K Q := by
 subst hj
 refine zdz ?_ h
 obtain ⟨inf,hinf,hsz⟩ : ∃ inf,P.info? e = some inf ∧ inf.size = n := by
  cases h : P.info? e with
  | none => simp [h] at hi
  | some i => simp [h] at hi; exact ⟨i,rfl,hi⟩
 simp only [execOp,ho,hx,hy]
 simp [Instr.indexAt,run_underlying hu,asIntOf,hinf,hsz,sizeOf,typeInfo,go_sem,Addr.add]
 rw [if_pos hk]
 by_cases h0 : k = 0
 ·subst h0; simp
 ·simp
end
def TriV (W:World) (b:Nat) (t:TypeId) (u v r:Value):Prop:=W.heap[b]?=some (.cells #[u,v,r] t (0,0))
section
variable {W W' : World} {b : Nat} {t : TypeId} {u v r : Value}
theorem TriV.new (W:World) (t:TypeId) (u v r:Value):TriV (W.alloc (.cells #[u,v,r] t)) W.heap.size t u v r:=by unfold TriV;simp only [World.alloc,Array.getElem?_push_size]
theorem TriV.lt(h:TriV W b t u v r):b<W.heap.size:=(Array.getElem?_eq_some_iff.1 h).1
theorem TriV.cell0 (h : TriV W b t u v r) : W.cell? ⟨b,0,none⟩ = some u := by simp [World.cell?,show W.heap[b]? = _ from h]
theorem TriV.cell1 (h : TriV W b t u v r) : W.cell? ⟨b,1,none⟩ = some v := by simp [World.cell?,show W.heap[b]? = _ from h]
theorem TriV.cell2 (h : TriV W b t u v r) : W.cell? ⟨b,2,none⟩ = some r := by simp [World.cell?,show W.heap[b]? = _ from h]
theorem TriV.below {n:Nat}(h:TriV W b t u v r)(hb:Below n W W')(hn:b<n):TriV W' b t u v r:=(hb.block b hn).trans h
end
structure Ver where
 stamp:Int
 gone:Bool
 value:List UInt8
deriving DecidableEq
def I64'(s:Int):Prop:=-9223372036854775808≤s∧s≤9223372036854775807
def verC(x:Ver)(v:Value):List Value:=[.int .i64 x.stamp,.bool x.gone,v]
def Elt.ver:Elt Ver where
 size:=3
 pos:=by omega
 R S w x vs:=∃ v,vs=verC x v∧RdS S w v x.value∧I64' x.stamp
 len:=by rintro _ _ _ _⟨_,rfl,_⟩;rfl
 keep:=by rintro _ _ _ _ _⟨v,rfl,h,h2⟩hk;exact⟨v,rfl,h.keep hk,h2⟩
 weak:=by rintro _ _ _ _ _⟨v,rfl,h,h2⟩hk;exact⟨v,rfl,h.weak hk,h2⟩
 fit:=by rintro _ _ _ _⟨v,rfl,h,h2⟩;exact⟨v,rfl,h.fit,h2⟩
 one:=by
  rintro _ _ _ _⟨v,rfl,h,_⟩u hu
  have h1:=h.one
  simp only [verC,List.mem_cons,List.not_mem_nil,or_false] at hu
  rcases hu with rfl|rfl|rfl
  ·rfl
  ·rfl
  ·exact h1
theorem verP:LoP Tryz.prog 70 87 3:=⟨⟨by kernel_rfl,by kernel_rfl⟩,.agg #[.int .i64 0,.bool false,.slice none 0 0],40,by kernel_rfl,rfl,by omega⟩
theorem verS:StP Tryz.prog 87 3:=StP.of (by kernel_rfl)
theorem RdL.ver {S : Nat → Prop} {w : World} {a : Option Addr} {n c : Nat} {l : List Ver} (h : RdL Elt.ver S w (.slice a n c) l) (r : Nat) (hr : r < l.length) :
  ∃ b off A C,a = some ⟨b,off,none⟩ ∧ S b ∧ w.cell? ⟨b,off + r * 3,none⟩ = some (.int .i64 l[r].stamp) ∧ w.cell? ⟨b,off + r * 3 + 1,none⟩ = some (.bool l[r].gone) ∧ w.cell? ⟨b,off + r * 3 + 2,none⟩ = some (.slice A l[r].value.length C) ∧
   RdS S w (.slice A l[r].value.length C) l[r].value ∧ I64' l[r].stamp ∧ l[r].value.length ≤ C ∧ C ≤ maxLen := by
 obtain ⟨b,off,vs,rfl,hb,⟨v,rfl,hv,hi⟩,hc⟩ := h.at r hr
 obtain ⟨A,C,rfl,h1,h2⟩ := hv.shape
 exact ⟨b,off,A,C,rfl,hb,hc 0 _ rfl,hc 1 _ rfl,hc 2 _ rfl,hv,hi,h1,h2⟩
def mayV(x:Ver):Prop:=1≤x.stamp∧x.stamp<2147483648∧x.value.length≤32∧(x.gone=true→x.value.length=0)
instance (x:Ver):Decidable (mayV x):=by unfold mayV;infer_instance
def okV(l:List Ver):Prop:=∀ i(h:i<l.length),mayV l[i]∧(0<i→l[i-1].stamp<l[i].stamp)
instance (l:List Ver):Decidable (okV l):=by unfold okV;infer_instance
def zc5(l:List Ver)(s:Int):Nat→Nat
 | 0=>0
 | k+1=>if h:k<l.length then if l[k].stamp≤s then k+1 else zc5 l s k else zc5 l s k
theorem zpg {l:List Ver} {s:Int} {k:Nat} (h:k<l.length) (hs:l[k].stamp≤s):zc5 l s (k+1)=k+1:=by simp [zc5,h,hs]
theorem zlo {l:List Ver} {s:Int} {k:Nat} (h:k<l.length) (hs:¬ l[k].stamp≤s):zc5 l s (k+1)=zc5 l s k:=by simp [zc5,h,hs]
theorem zlp(l:List Ver)(s:Int):∀ k,zc5 l s k≤k
 | 0=>Nat.le_refl _
 | k+1=>by
  have:=zlp l s k
  unfold zc5
  split
  ·split<;>omega
  ·omega
def cntV(l:List Ver)(s:Int):Nat:=zc5 l s l.length
theorem zb6(l:List Ver)(s:Int):cntV l s≤l.length:=zlp l s _
def zcd (l:List Ver) (s:Int):Option (List UInt8) :=
 if okV l then if h:0<cntV l s then if (l[cntV l s - 1]'(by have:=zb6 l s;omega)).gone then none else some (l[cntV l s - 1]'(by have:=zb6 l s;omega)).value else none else none
def zcr (l:List Ver) (s:Int):Bool:=decide (okV l)&&(match l.getLast? with | some x=>decide (s<x.stamp) | none=>false)
def zcm(l:List Ver)(x:Ver):List Ver×Nat :=
 if okV l∧mayV x then(match l.getLast? with|some y=>if x.stamp≤y.stamp then(l,50)else(l++[x],0)|none=>(l++[x],0))else(l,1)
def vacV (l:List Ver) (s:Int):List Ver :=
 if okV l then if h:0<cntV l s then if (l[cntV l s - 1]'(by have:=zb6 l s;omega)).gone then l.drop (cntV l s) else l.drop (cntV l s - 1) else l else l
def ltB(a b:List UInt8):Bool:=Op.bytesLess a b
theorem ze7:∀ a,ltB a a=false
 | []=>rfl
 | x::a=>by
  have h:=ze7 a
  unfold ltB at h ⊢
  simp [Op.bytesLess,h]
theorem zb4 : ∀ {a b c},ltB a b = true → ltB b c = true → ltB a c = true
 | _,[],_,h,_ => by cases ‹List UInt8› <;> simp [ltB,Op.bytesLess] at h
 | _,_ :: _,[],_,h => by simp [ltB,Op.bytesLess] at h
 | [],_ :: _,_ :: _,_,_ => rfl
 | x :: a,y :: b,z :: c,h,k => by
  simp only [ltB,Op.bytesLess,Bool.or_eq_true,decide_eq_true_eq,Bool.and_eq_true,beq_iff_eq] at h k ⊢
  rcases h with h | ⟨rfl,h⟩
  ·rcases k with k | ⟨rfl,k⟩
   ·exact .inl (UInt8.lt_trans h k)
   ·exact .inl h
  ·rcases k with k | ⟨rfl,k⟩
   ·exact .inl k
   ·exact .inr ⟨rfl,zb4 (a := a) (b := b) (c := c) h k⟩
theorem zf1 : ∀ {a b},a ≠ b → ltB a b = false → ltB b a = true
 | [],[],h,_ => absurd rfl h
 | [],_ :: _,_,h => by simp [ltB,Op.bytesLess] at h
 | _ :: _,[],_,_ => rfl
 | x :: a,y :: b,hne,h => by
  simp only [ltB,Op.bytesLess,Bool.or_eq_false_iff,Bool.and_eq_false_iff,decide_eq_false_iff_not,beq_eq_false_iff_ne,Bool.or_eq_true,decide_eq_true_eq,Bool.and_eq_true,beq_iff_eq] at h ⊢
  obtain ⟨h1,h2⟩ := h
  by_cases hxy : x = y
  ·subst hxy
   rcases h2 with h2 | h2
   ·exact absurd rfl h2
   ·exact .inr ⟨rfl,zf1 (a := a) (b := b) (fun e => hne (by rw [e])) h2⟩
  ·refine .inl ?_
   rcases UInt8.lt_or_lt_of_ne (a := x) (b := y) hxy with h3 | h3
   ·exact absurd h3 h1
   ·exact h3
theorem zq4 {a b:List UInt8}(h:ltB a b=true):ltB b a=false:=by
 cases hb:ltB b a with
 | false=>rfl
 | true=>rw [← ze7 a];exact(zb4 h hb).symm
theorem zf2 {a b:List UInt8}(h:ltB a b=true):a≠b:=fun e=>by subst e;rw [ze7] at h;cases h
structure Pr where
 key:List UInt8
 chain:List Ver
deriving DecidableEq
inductive Nd where
 | mk:List (List UInt8)→List (List Ver)→List Nd→Nd
def Nd.keys:Nd→List (List UInt8) | .mk a _ _=>a
def Nd.chains:Nd→List (List Ver) | .mk _ b _=>b
def Nd.kids:Nd→List Nd|.mk _ _ c=>c
def allD:List Int→Int
 | []=>-1
 | d::r=>if(∀ x∈r,x=d)∧0≤d then d+1 else -1
mutual
def zax:Nd→Bool→Int
 | .mk ks cs ns,root=>if cs.length≠ks.length∨3<ks.length∨(root=false∧ks.length<1) then -1 else if ns.length=0 then 1 else if ns.length≠ks.length+1∨ks.length<1 then -1 else allD (zrk ns)
def zrk:List Nd→List Int
 | []=>[]
 | n::ns=>zax n false::zrk ns
end
def wv (ps:List (List Pr)) (ks:List (List UInt8)) (cs:List (List Ver)):Nat→List Pr
 | 0=>[]
 | i+1=>wv ps ks cs i++ps.getD i []++[⟨ks.getD i [],cs.getD i []⟩]
mutual
def zaa:Nd→List Pr
 | .mk ks cs ns=>wv (ziw ns) ks cs ks.length++(ziw ns).getD (ns.length - 1) []
def ziw:List Nd→List (List Pr)
 | []=>[]
 | n::ns=>zaa n::ziw ns
end
theorem zly:∀ ns,zrk ns=ns.map (zax · false)
 | []=>by simp [zrk]
 | n::ns=>by simp [zrk,zly ns]
theorem ziv:∀ ns,ziw ns=ns.map zaa
 | []=>by simp [ziw]
 | n::ns=>by simp [ziw,ziv ns]
def okP(l:List Pr):Prop:=∀ i(h:i<l.length),okV l[i].chain∧l[i].chain≠[]∧l[i].key.length≤16∧(0<i→ltB l[i-1].key l[i].key=true)
instance (l:List Pr):Decidable (okP l):=by unfold okP;infer_instance
def okN (n:Nd):Prop:=0≤zax n true∧okP (zaa n)
instance (n:Nd):Decidable (okN n):=by unfold okN;infer_instance
def prN(n:Nd):List Pr:=if okN n then zaa n else []
def depN(n:Nd):Int:=if okN n then zax n true else 0
def zij (k:List UInt8) (c:List Ver):Bool→List Pr→List Pr
 | true,[]=>[]
 | false,[]=>[⟨k,c⟩]
 | true,p::l=>(if k=p.key then [] else [p])++zij k c true l
 | false,p::l=>if ltB k p.key||decide (k=p.key) then⟨k,c⟩::((if k=p.key then [] else [p])++zij k c true l) else p::zij k c false l
def putP(l:List Pr)(k:List UInt8)(c:List Ver):List Pr:=zij k c false l
def delP (l:List Pr) (k:List UInt8):List Pr:=l.filter (fun p=>!decide (p.key=k))
def zaw (l:List Pr) (k:List UInt8):Option (List Ver):=(l.find? fun p=>decide (p.key=k)).map (·.chain)
theorem RdL.imp {α:Type} {E F:Elt α} {S:Nat→Prop} {w:World} {v:Value} {xs:List α} (h:RdL E S w v xs) (hs:F.size=E.size) (hi:∀ x∈xs,∀ vs,E.R S w x vs→F.R S w x vs):RdL F S w v xs:=by
 obtain⟨a,cap,h1,h2,h3,h4⟩:=h
 refine⟨a,cap,h1,h2,h3,h4.imp id fun⟨b,off,e,hb,hr⟩=>⟨b,off,e,hb,fun r h=>?_⟩⟩
 obtain⟨vs,hR,hc⟩:=hr r h
 exact⟨vs,hi _ (List.getElem_mem h) vs hR,by rw [hs];exact hc⟩
def Elt.pair:Elt Pr where
 size:=2
 pos:=by omega
 R S w x vs:=∃ u v,vs=[u,v]∧RdS S w u x.key∧RdL Elt.ver S w v x.chain
 len:=by rintro _ _ _ _⟨_,_,rfl,_⟩;rfl
 keep:=by rintro _ _ _ _ _⟨u,v,rfl,h,h2⟩hk;exact⟨u,v,rfl,h.keep hk,h2.keep hk⟩
 weak:=by rintro _ _ _ _ _⟨u,v,rfl,h,h2⟩hk;exact⟨u,v,rfl,h.weak hk,h2.weak hk⟩
 fit:=by rintro _ _ _ _⟨u,v,rfl,h,h2⟩;exact⟨u,v,rfl,h.fit,h2.fit⟩
 one:=by
  rintro _ _ _ _⟨u,v,rfl,h,h2⟩x hx
  have h1:=h.one
  obtain⟨_,_,rfl,_⟩:=h2.shape
  simp only [List.mem_cons,List.not_mem_nil,or_false] at hx
  rcases hx with rfl|rfl
  ·exact h1
  ·rfl
def Elt.node (E:Elt Nd):Elt Nd where
 size:=3
 pos:=by omega
 R S w n vs:=∃ v1 v2 v3,vs=[v1,v2,v3]∧RdL Elt.bytes S w v1 n.keys∧RdL (Elt.list Elt.ver) S w v2 n.chains∧RdL E S w v3 n.kids
 len:=by rintro _ _ _ _⟨_,_,_,rfl,_⟩;rfl
 keep:=by rintro _ _ _ _ _⟨v1,v2,v3,rfl,h1,h2,h3⟩hk;exact⟨v1,v2,v3,rfl,h1.keep hk,h2.keep hk,h3.keep hk⟩
 weak:=by rintro _ _ _ _ _⟨v1,v2,v3,rfl,h1,h2,h3⟩hk;exact⟨v1,v2,v3,rfl,h1.weak hk,h2.weak hk,h3.weak hk⟩
 fit:=by rintro _ _ _ _⟨v1,v2,v3,rfl,h1,h2,h3⟩;exact⟨v1,v2,v3,rfl,h1.fit,h2.fit,h3.fit⟩
 one:=by
  rintro _ _ _ _⟨v1,v2,v3,rfl,h1,h2,h3⟩u hu
  obtain⟨_,_,rfl,_⟩:=h1.shape
  obtain⟨_,_,rfl,_⟩:=h2.shape
  obtain⟨_,_,rfl,_⟩:=h3.shape
  simp only [List.mem_cons,List.not_mem_nil,or_false] at hu
  rcases hu with rfl | rfl | rfl<;>rfl
def eltN:Nat→Elt Nd
 | 0=>{ size:=3,pos:=by omega,R:=fun _ _ _ _=>False,len:=fun h=>h.elim,keep:=fun h _=>h,weak:=fun h _=>h,fit:=fun h=>h,one:=fun h=>h.elim }
 | d+1=>Elt.node (eltN d)
theorem ze0:∀ d,(eltN d).size=3
 | 0=>rfl
 | _+1=>rfl
theorem zl0 {S:Nat→Prop} {w:World}:∀ {d:Nat} {n:Nd} {vs:List Value},(eltN d).R S w n vs→(eltN (d+1)).R S w n vs
 | 0,_,_,h=>h.elim
 | d+1,n,vs,⟨v1,v2,v3,e,h1,h2,h3⟩=>⟨v1,v2,v3,e,h1,h2,h3.imp (by rw [ze0,ze0]) fun _ _ _ h=>zl0 h⟩
theorem zrr {S:Nat→Prop} {w:World} {d d':Nat}(hd:d≤d') {n:Nd} {vs:List Value}(h:(eltN d).R S w n vs):(eltN d').R S w n vs:=by
 induction hd with
 | refl=>exact h
 | step _ ih=>exact zl0 ih
def Elt.nd:Elt Nd where
 size:=3
 pos:=by omega
 R S w n vs:=∃ d,(eltN d).R S w n vs
 len:=by rintro _ _ _ _⟨d,h⟩;exact ((eltN d).len h).trans (ze0 d)
 keep:=by rintro _ _ _ _ _⟨d,h⟩hk;exact⟨d,(eltN d).keep h hk⟩
 weak:=by rintro _ _ _ _ _⟨d,h⟩hk;exact⟨d,(eltN d).weak h hk⟩
 fit:=by rintro _ _ _ _⟨d,h⟩;exact⟨d,(eltN d).fit h⟩
 one:=by rintro _ _ _ _⟨d,h⟩;exact (eltN d).one h
section
variable {S S' : Nat → Prop} {w w' : World} {n : Nd}
theorem nd_out {vs:List Value} (h:Elt.nd.R S w n vs):∃ v1 v2 v3,vs=[v1,v2,v3]∧RdL Elt.bytes S w v1 n.keys∧RdL (Elt.list Elt.ver) S w v2 n.chains∧RdL Elt.nd S w v3 n.kids:=by
 obtain⟨d,h⟩:=h
 cases d with
 | zero=>exact h.elim
 | succ d =>
  obtain⟨v1,v2,v3,e,h1,h2,h3⟩:=h
  exact⟨v1,v2,v3,e,h1,h2,h3.imp (by rw [ze0];rfl) fun _ _ _ h=>⟨d,h⟩⟩
theorem zq6 {v : Value} {xs : List Nd} (h : RdL Elt.nd S w v xs) : ∃ d,RdL (eltN d) S w v xs := by
 obtain ⟨a,cap,h1,h2,h3,h4⟩ := h
 rcases h4 with rfl | ⟨b,off,e,hb,hr⟩
 ·exact ⟨0,a,cap,h1,h2,h3,.inl rfl⟩
 ·have : ∀ m,m ≤ xs.length → ∃ d,∀ r (h : r < xs.length),r < m → ∃ vs,(eltN d).R S w xs[r] vs ∧ ∀ j u,vs[j]? = some u → w.cell? ⟨b,off + r * 3 + j,none⟩ = some u := by
   intro m
   induction m with
   | zero => exact fun _ => ⟨0,fun r _ h => absurd h (Nat.not_lt_zero _)⟩
   | succ m ih =>
    intro hm
    obtain ⟨d,hd⟩ := ih (by omega)
    obtain ⟨vs,⟨d2,hR⟩,hc⟩ := hr m (by omega)
    refine ⟨max d d2,fun r hr1 hr2 => ?_⟩
    rcases Nat.lt_or_ge r m with h5 | h5
    ·obtain ⟨vs',hR',hc'⟩ := hd r hr1 h5
     exact ⟨vs',zrr (Nat.le_max_left _ _) hR',hc'⟩
    ·obtain rfl : r = m := by omega
     exact ⟨vs,zrr (Nat.le_max_right _ _) hR,hc⟩
  obtain ⟨d,hd⟩ := this xs.length (Nat.le_refl _)
  refine ⟨d,a,cap,h1,h2,h3,.inr ⟨b,off,e,hb,fun r hr => ?_⟩⟩
  obtain ⟨vs,hR,hc⟩ := hd r hr hr
  exact ⟨vs,hR,by rw [ze0]; exact hc⟩
theorem nd_in {v1 v2 v3:Value} (h1:RdL Elt.bytes S w v1 n.keys) (h2:RdL (Elt.list Elt.ver) S w v2 n.chains) (h3:RdL Elt.nd S w v3 n.kids):Elt.nd.R S w n [v1,v2,v3]:=by
 obtain⟨d,h3⟩:=zq6 h3
 exact⟨d+1,v1,v2,v3,rfl,h1,h2,h3⟩
end
def RdN (S:Nat→Prop) (w:World) (v:Value) (n:Nd):Prop :=
 ∃ a1 c1 a2 c2 a3 c3,v=.agg #[.slice a1 n.keys.length c1,.slice a2 n.chains.length c2,.slice a3 n.kids.length c3]∧RdL Elt.bytes S w (.slice a1 n.keys.length c1) n.keys∧RdL (Elt.list Elt.ver) S w (.slice a2 n.chains.length c2) n.chains∧RdL Elt.nd S w (.slice a3 n.kids.length c3) n.kids
section
variable {S S' : Nat → Prop} {w w' : World} {n : Nd} {v : Value}
theorem RdN.below(h:RdN S w v n)(hb:Below w.heap.size w w'):RdN S w' v n:=by
 obtain⟨a1,c1,a2,c2,a3,c3,e,h1,h2,h3⟩:=h
 exact⟨a1,c1,a2,c2,a3,c3,e,h1.below hb,h2.below hb,h3.below hb⟩
theorem RdN.keep(h:RdN S w v n)(hk:∀ k,S k→w'.heap[k]?=w.heap[k]?):RdN S w' v n:=by
 obtain⟨a1,c1,a2,c2,a3,c3,e,h1,h2,h3⟩:=h
 exact⟨a1,c1,a2,c2,a3,c3,e,h1.keep hk,h2.keep hk,h3.keep hk⟩
theorem RdN.weak(h:RdN S w v n)(hk:∀ k,S k→S' k):RdN S' w v n:=by
 obtain⟨a1,c1,a2,c2,a3,c3,e,h1,h2,h3⟩:=h
 exact⟨a1,c1,a2,c2,a3,c3,e,h1.weak hk,h2.weak hk,h3.weak hk⟩
theorem RdN.fit (h:RdN S w v n):RdN (fun k=>S k∧k<w.heap.size) w v n:=by
 obtain⟨a1,c1,a2,c2,a3,c3,e,h1,h2,h3⟩:=h
 exact⟨a1,c1,a2,c2,a3,c3,e,h1.fit,h2.fit,h3.fit⟩
theorem RdN.of {vs:List Value} (h:Elt.nd.R S w n vs):RdN S w (.agg vs.toArray) n:=by
 obtain⟨v1,v2,v3,rfl,h1,h2,h3⟩:=nd_out h
 obtain⟨a1,c1,rfl,_,_⟩:=h1.shape
 obtain⟨a2,c2,rfl,_,_⟩:=h2.shape
 obtain⟨a3,c3,rfl,_,_⟩:=h3.shape
 exact⟨a1,c1,a2,c2,a3,c3,rfl,h1,h2,h3⟩
theorem RdL.kid {a : Option Addr} {m c : Nat} {ns : List Nd} (h : RdL Elt.nd S w (.slice a m c) ns) (r : Nat) (hr : r < ns.length) :
  ∃ b off a1 c1 a2 c2 a3 c3,a = some ⟨b,off,none⟩ ∧ w.cell? ⟨b,off + r * 3,none⟩ = some (.slice a1 ns[r].keys.length c1) ∧ w.cell? ⟨b,off + r * 3 + 1,none⟩ = some (.slice a2 ns[r].chains.length c2) ∧ w.cell? ⟨b,off + r * 3 + 2,none⟩ = some (.slice a3 ns[r].kids.length c3) ∧
   RdN S w (.agg #[.slice a1 ns[r].keys.length c1,.slice a2 ns[r].chains.length c2,.slice a3 ns[r].kids.length c3]) ns[r] := by
 obtain ⟨b,off,vs,rfl,hb,hR,hc⟩ := h.at r hr
 obtain ⟨v1,v2,v3,rfl,h1,h2,h3⟩ := nd_out hR
 obtain ⟨a1,c1,rfl,_,_⟩ := h1.shape
 obtain ⟨a2,c2,rfl,_,_⟩ := h2.shape
 obtain ⟨a3,c3,rfl,_,_⟩ := h3.shape
 exact ⟨b,off,a1,c1,a2,c2,a3,c3,rfl,hc 0 _ rfl,hc 1 _ rfl,hc 2 _ rfl,a1,c1,a2,c2,a3,c3,rfl,h1,h2,h3⟩
theorem RdL.byt {a : Option Addr} {m c : Nat} {ks : List (List UInt8)} (h : RdL Elt.bytes S w (.slice a m c) ks) (r : Nat) (hr : r < ks.length) :
  ∃ b off A C,a = some ⟨b,off,none⟩ ∧ w.cell? ⟨b,off + r,none⟩ = some (.slice A ks[r].length C) ∧ RdS S w (.slice A ks[r].length C) ks[r] := by
 obtain ⟨b,off,vs,rfl,hb,⟨v,rfl,hv⟩,hc⟩ := h.at r hr
 obtain ⟨A,C,rfl,_,_⟩ := hv.shape
 have := hc 0 _ rfl
 simp only [show Elt.bytes.size = 1 from rfl,Nat.mul_one,Nat.add_zero] at this
 exact ⟨b,off,A,C,rfl,this,hv⟩
theorem RdL.lst {α : Type} {E : Elt α} {a : Option Addr} {m c : Nat} {ks : List (List α)} (h : RdL (Elt.list E) S w (.slice a m c) ks) (r : Nat) (hr : r < ks.length) :
  ∃ b off A C,a = some ⟨b,off,none⟩ ∧ w.cell? ⟨b,off + r,none⟩ = some (.slice A ks[r].length C) ∧ RdL E S w (.slice A ks[r].length C) ks[r] := by
 obtain ⟨b,off,vs,rfl,hb,⟨v,rfl,hv⟩,hc⟩ := h.at r hr
 obtain ⟨A,C,rfl,_,_⟩ := hv.shape
 have := hc 0 _ rfl
 simp only [show (Elt.list E).size = 1 from rfl,Nat.mul_one,Nat.add_zero] at this
 exact ⟨b,off,A,C,rfl,this,hv⟩
theorem RdL.pr {a : Option Addr} {m c : Nat} {l : List Pr} (h : RdL Elt.pair S w (.slice a m c) l) (r : Nat) (hr : r < l.length) :
  ∃ b off A C B D,a = some ⟨b,off,none⟩ ∧ w.cell? ⟨b,off + r * 2,none⟩ = some (.slice A l[r].key.length C) ∧ w.cell? ⟨b,off + r * 2 + 1,none⟩ = some (.slice B l[r].chain.length D) ∧ RdS S w (.slice A l[r].key.length C) l[r].key ∧ RdL Elt.ver S w (.slice B l[r].chain.length D) l[r].chain := by
 obtain ⟨b,off,vs,rfl,hb,⟨u,v,rfl,hu,hv⟩,hc⟩ := h.at r hr
 obtain ⟨A,C,rfl,_,_⟩ := hu.shape
 obtain ⟨B,D,rfl,_,_⟩ := hv.shape
 exact ⟨b,off,A,C,B,D,rfl,hc 0 _ rfl,hc 1 _ rfl,hu,hv⟩
end
theorem prP:LoP Tryz.prog 36 77 2:=⟨⟨by kernel_rfl,by kernel_rfl⟩,.agg #[.slice none 0 0,.slice none 0 0],48,by kernel_rfl,rfl,by omega⟩
theorem prS:StP Tryz.prog 77 2:=StP.of (by kernel_rfl)
theorem ndP:LoP Tryz.prog 24 26 3:=⟨⟨by kernel_rfl,by kernel_rfl⟩,.agg #[.slice none 0 0,.slice none 0 0,.slice none 0 0],72,by kernel_rfl,rfl,by omega⟩
theorem ndS:StP Tryz.prog 26 3:=StP.of (by kernel_rfl)
theorem chsP:LoP Tryz.prog 23 70 1:=⟨⟨by kernel_rfl,by kernel_rfl⟩,.slice none 0 0,24,by kernel_rfl,rfl,by omega⟩
theorem kysP:LoP Tryz.prog 22 30 1:=⟨⟨by kernel_rfl,by kernel_rfl⟩,.slice none 0 0,24,by kernel_rfl,rfl,by omega⟩
theorem byP:ByP Tryz.prog 30 5 9:=⟨by kernel_rfl,by kernel_rfl,by kernel_rfl,by kernel_rfl⟩
theorem zpa (w : World) {S : Nat → Prop} {A : Option Addr} {n c : Nat} {s : Int} {g : Bool} {vs : List UInt8} (hv : RdS S w (.slice A n c) vs) :
  Calls Tryz.prog 71 #[.agg #[.int .i64 s,.bool g,.slice A n c]] w fun e w' => e = .returned (.bool (decide (mayV ⟨s,g,vs⟩))) ∧ Below w.heap.size w w' := by
 obtain ⟨rfl,hnc,hcm⟩ := hv.len
 have hlm : vs.length ≤ 9223372036854775807 := by unfold maxLen at hcm; omega
 by_cases h1 : 1 ≤ s
 ·by_cases h2 : s < 2147483648
  ·by_cases h3 : vs.length ≤ 32
   ·cases g
    ·have hk := Lib.hid (show decide (mayV ⟨s,false,vs⟩) = true from decide_eq_true ⟨h1,h2,h3,by simp⟩)
     go_enter Tryz.func71,Tryz.ntmps71
     go_wp2
     go_ret
     exact ⟨by rw [hk.out]; rfl,(Below.refl _ _).alloc (Nat.le_refl _) _⟩
    ·by_cases h4 : vs.length = 0
     ·have hk := Lib.hid (show decide (mayV ⟨s,true,vs⟩) = true from decide_eq_true ⟨h1,h2,h3,fun _ => h4⟩)
      have d4 : ((vs.length : Int) == 0) = true := by rw [beq_iff_eq]; omega
      go_enter Tryz.func71,Tryz.ntmps71
      go_wp2
      go_ret
      exact ⟨by rw [hk.out]; rfl,(Below.refl _ _).alloc (Nat.le_refl _) _⟩
     ·have hk := Lib.hid (show decide (mayV ⟨s,true,vs⟩) = false from decide_eq_false (fun h => h4 (h.2.2.2 rfl)))
      have d4 : ((vs.length : Int) == 0) = false := by rw [beq_eq_false_iff_ne]; omega
      go_enter Tryz.func71,Tryz.ntmps71
      go_wp2
      go_ret
      exact ⟨by rw [hk.out]; rfl,(Below.refl _ _).alloc (Nat.le_refl _) _⟩
   ·have hk := Lib.hid (show decide (mayV ⟨s,g,vs⟩) = false from decide_eq_false (fun h => h3 h.2.2.1))
    go_enter Tryz.func71,Tryz.ntmps71
    go_wp2
    go_ret
    exact ⟨by rw [hk.out]; rfl,(Below.refl _ _).alloc (Nat.le_refl _) _⟩
  ·have hk := Lib.hid (show decide (mayV ⟨s,g,vs⟩) = false from decide_eq_false (fun h => h2 h.2.1))
   go_enter Tryz.func71,Tryz.ntmps71
   go_wp2
   go_ret
   exact ⟨by rw [hk.out]; rfl,(Below.refl _ _).alloc (Nat.le_refl _) _⟩
 ·have hk := Lib.hid (show decide (mayV ⟨s,g,vs⟩) = false from decide_eq_false (fun h => h1 h.1))
  go_enter Tryz.func71,Tryz.ntmps71
  go_wp2
  go_ret
  exact ⟨by rw [hk.out]; rfl,(Below.refl _ _).alloc (Nat.le_refl _) _⟩
theorem zjs (w : World) {S : Nat → Prop} {a : Option Addr} {n c : Nat} {l : List Ver} (hl : RdL Elt.ver S w (.slice a n c) l) :
  Calls Tryz.prog 53 #[.slice a n c] w fun e w' => e = .returned (.bool (decide (okV l))) ∧ Below w.heap.size w w' := by
 obtain ⟨rfl,hnc,hcm⟩ := hl.len
 have hlm : l.length ≤ 9223372036854775807 := by unfold maxLen at hcm; omega
 have q := Below.refl w.heap.size w
 go_enter Tryz.func53,Tryz.ntmps53
 go_upto_region 2 with (fail)
 go_loopw [3] (fun iv wr => ∃ k : Nat,iv = .int .i64 k ∧ k ≤ l.length ∧ (∀ i (h : i < l.length),i < k → mayV l[i] ∧ (0 < i → l[i - 1].stamp < l[i].stamp)) ∧ Below w.heap.size w wr)
  (fun i _ => l.length - (intOf i).toNat)
 case atStart => exact ⟨0,rfl,Nat.zero_le _,fun i _ h => by omega,q⟩
 case round =>
  clear q
  obtain ⟨k,rfl,hkl,hok,q⟩ := hrel
  rcases Nat.lt_or_ge k l.length with hlt | hge
  ·have hl2 := hl.below q
   obtain ⟨b,off,A,C,rfl,hb,c0,c1,c2,hv,hi,hn1,hn2⟩ := hl2.ver k hlt
   go_wp2_with fail
   refine (zpa _ hv).mono ?_
   rintro e w1 ⟨rfl,hb1⟩
   have q1 := q.trans (hb1.mono q.size)
   replace hl2 := hl2.below hb1
   obtain ⟨b',off',A',C',e',hb',c0',c1',c2',hv',hi',hn1',hn2'⟩ := hl2.ver k hlt
   injection e' with e'; injection e' with e1 e2; subst e1; subst e2
   clear c0 c1 c2 hv hb1
   by_cases hm : mayV l[k]
   ·rw [show decide (mayV ⟨l[k].stamp,l[k].gone,l[k].value⟩) = true from decide_eq_true hm]
    cases k with
    | zero =>
     have hok' : ∀ i (h : i < l.length),i < 1 → mayV l[i] ∧ (0 < i → l[i - 1].stamp < l[i].stamp) := fun i h h1 => by
      obtain rfl : i = 0 := by omega
      exact ⟨hm,fun h => absurd h (Nat.lt_irrefl _)⟩
     have HK := Lib.hid hok'
     clear hok hok' hm
     go_upto_region 5 with (fail)
     go_quiet (fail)
     go_wp2_with fail
     go_roundw
     case rel => exact ⟨1,by go_num,by omega,HK.out,Below.drewN q1 _⟩
     case measure => simp [intOf]; omega
    | succ k =>
     obtain ⟨b2,off2,A2,C2,e2,hb2,d0,d1,d2,hv2,hi2,hn12,hn22⟩ := hl2.ver k (by omega)
     injection e2 with e2; injection e2 with e3 e4; subst e3; subst e4
     have hk1 : ((k + 1 : Nat) : Int) - 1 = (k : Int) := by omega
     by_cases hs : l[k].stamp < l[k + 1].stamp
     ·have hok' : ∀ i (h : i < l.length),i < k + 2 → mayV l[i] ∧ (0 < i → l[i - 1].stamp < l[i].stamp) := fun i h h1 => by
       rcases Nat.lt_or_ge i (k + 1) with h2 | h2
       ·exact hok i h h2
       ·obtain rfl : i = k + 1 := by omega
        exact ⟨hm,fun _ => hs⟩
      have HK := Lib.hid hok'
      have dS : decide (l[k + 1].stamp ≤ l[k].stamp) = false := by rw [decide_eq_false_iff_not]; omega
      clear hok hok' hm
      go_upto_region 5 with (fail)
      go_quiet (fail)
      go_wp2_with fail
      go_roundw
      case rel => exact ⟨k + 2,by go_num,by omega,HK.out,Below.drewN q1 _⟩
      case measure => simp [intOf]; omega
     ·have hk := Lib.hid (show decide (okV l) = false from decide_eq_false (fun h => hs ((h (k + 1) hlt).2 (Nat.succ_pos _))))
      have dS : decide (l[k + 1].stamp ≤ l[k].stamp) = true := by rw [decide_eq_true_iff]; omega
      clear hok hm
      go_upto_region 5 with (fail)
      go_quiet (fail)
      go_wp2_with fail
      go_ret
      exact ⟨by rw [hk.out]; rfl,Below.drewN q1 _⟩
   ·have hk := Lib.hid (show decide (okV l) = false from decide_eq_false (fun h => hm (h k hlt).1))
    rw [show decide (mayV ⟨l[k].stamp,l[k].gone,l[k].value⟩) = false from decide_eq_false hm]
    clear hok hm
    go_upto_region 5 with (fail)
    go_quiet (fail)
    go_wp2_with fail
    go_ret
    exact ⟨by rw [hk.out]; rfl,Below.drewN q1 _⟩
  ·obtain rfl : k = l.length := by omega
   have hk := Lib.hid (show decide (okV l) = true from decide_eq_true (fun i h => hok i h h))
   clear hok
   go_wp2_with fail
   go_ret
   exact ⟨by rw [hk.out]; rfl,q⟩
end Go.Proofs.YtlpfhgdnmjkngaaGreat
