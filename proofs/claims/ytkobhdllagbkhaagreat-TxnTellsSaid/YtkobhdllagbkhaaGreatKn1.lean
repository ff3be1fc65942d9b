/-
  TEXTS OF ONE PROOF, merged: Byte, Aux, Soft, Guard, Ops, Row, Kept, Sink, Line, Elt, Ell, Cpy, Quo, Bri.
-/
import Derived.Below
import Derived.ChangeAlike
import Derived.Deep.AppendSrc
import Derived.Deep.Draws
import Derived.Deep.Matrix
import Derived.Deep.Upon
import Derived.IntWalk
import Derived.Laws.AppendOwnNone
import Derived.Laws.CopyRow
import Derived.Laws.MakeOwn
import Derived.Laws.OwnMore
import Derived.Lib.AppendZerosOnto
import Derived.Lib.Hide
import Derived.Lib.Overlaps
import Derived.Lib.SlBytesConst
import Derived.Maps.AppendAt
import Derived.OpenShut
import Derived.Orders
import Derived.OrdersIn
import Derived.RangeFuncBox
import Derived.RangeFuncCalls
import Derived.RegionTactic
import Derived.TacticsIn
import Derived.Test.YtkobhdllagbkhaaGreatProg
import Derived.WalkKit
import Derived.WalkLawsBesides
import Derived.WalkSpells
namespace Go.Proofs.YtkobhdllagbkhaaGreat
open Go.RowKit
set_option maxRecDepth 100000
set_option maxHeartbeats 32000000
abbrev ze:=@Go.RowKit.Below.refl
abbrev zf:=@Nat.le_refl
abbrev zh:=@if_neg
abbrev zi:=@if_pos
abbrev zj:=@decide_eq_false
abbrev zk:=@decide_eq_true
abbrev zm:=@Nat.lt_of_lt_of_le
abbrev zn:=@List.map_cons
abbrev zo:=@List.map_nil
abbrev zp:=@List.length_take
abbrev zr:=@Go.run_underlying
abbrev zt:=@beq_eq_false_iff_ne
abbrev zu:=@Go.BigFrame.wp_move
abbrev zv:=@Nat.le_trans
abbrev zA:=@Nat.lt_or_ge
abbrev zB:=@List.getElem?_eq_getElem
abbrev zC:=@List.length_append
abbrev zD:=@Go.bodyPost_ret
abbrev zE:=@List.map_toArray
abbrev zF:=@List.length_drop
abbrev zG:=@List.append_assoc
abbrev zH:=@Nat.zero_le
abbrev zI:=@List.length_cons
abbrev zJ:=@Array.getElem?_eq_some_iff
abbrev zK:=@beq_iff_eq
abbrev zL:=@List.getElem_mem
abbrev zM:=@List.length_nil
abbrev zN:=@Go.Addr.add_lit
abbrev zP:=@List.count_pos_iff
abbrev zQ:=@Go.BigFrame.wpList_want
abbrev zR:=@Nat.zero_add
abbrev zT:=@Nat.add_mul
abbrev zU:=@List.mem_cons
abbrev zV:=@List.mem_append
abbrev zW:=@if_false
abbrev zX:=@List.length_map
abbrev zY:=@Bool.false_eq_true
abbrev zZ:=@Go.Sem.run_bind
abbrev yb:=@Go.Sem.run_pure
abbrev ye:=@Go.Result.andThen_ok
abbrev yf:=@Array.getElem?_push_size
abbrev yg:=@List.eq_nil_of_length_eq_zero
abbrev yh:=@List.pairwise_cons
abbrev yi:=@Nat.min_eq_left
abbrev yj:=@List.size_toArray
abbrev yk:=@Bool.and_eq_true
abbrev yl:=@if_true
abbrev ym:=@List.cons_append
abbrev yn:=@Option.some.inj
abbrev yo:=@Array.length_toList
abbrev yq:=@List.take_of_length_le
abbrev yr:=@List.append_nil
abbrev yt:=@Array.getD_eq_getD_getElem?
abbrev yu:=@List.getD_eq_getElem?_getD
abbrev yv:=@List.take_length
abbrev yw:=@List.nil_append
abbrev yx:=@Nat.eq_zero_or_pos
abbrev yy:=@List.mem_iff_getElem
abbrev yz:=@List.take_append_drop
abbrev yE:=@Nat.le_of_eq
abbrev yF:=@Array.getElem?_toList
abbrev yG:=@Go.World.size_alloc
abbrev yH:=@Nat.not_lt_zero
abbrev yI:=@List.getElem?_eq_some_iff
abbrev yJ:=@List.not_mem_nil
abbrev yK:=@or_false
abbrev yL:=@List.mem_singleton
abbrev yM:=@List.mem_of_mem_drop
abbrev yN:=@Nat.mul_le_mul_right
abbrev yO:=@Nat.add_zero
abbrev yP:=@decide_eq_true_eq
abbrev yQ:=@List.drop_eq_getElem_cons
abbrev yR:=@List.length_set
abbrev yS:=@Go.wpIn_wide
abbrev yT:=@List.take_add_one
abbrev yU:=@Array.getElem?_modify
abbrev yV:=@Go.BigFrame.wp_assign
abbrev yW:=@List.map_append
abbrev yX:=@List.count_append
abbrev yY:=@List.mem_range
abbrev yZ:=@List.take_succ_eq_append_getElem
abbrev y7:=@List.mem_of_mem_take
abbrev y8:=@Go.RowKit.Below.trans
abbrev y9:=@Go.RowKit.Below.size
abbrev xe:=@Go.Oper.semAt_some
abbrev xf:=@bne_eq_false_iff_eq
abbrev xg:=@Nat.lt_irrefl
abbrev xi:=@bne_iff_ne
abbrev xj:=@List.drop_of_length_le
abbrev xk:=@Option.getD_some
abbrev xm:=@Go.heap_setCell_other
abbrev xn:=@Go.run_store
abbrev xo:=@Option.toList_some
abbrev xp:=@List.take_append_of_le_length
abbrev xq:=@List.mem_of_getElem?
abbrev xr:=@List.all_eq_true
abbrev xt:=@Nat.add_sub_cancel
abbrev xu:=@List.getElem?_append_left
abbrev xw:=@List.getElem?_append_right
abbrev xx:=@List.takeWhile_cons
abbrev xy:=@List.pairwise_append
abbrev xz:=@Array.replicate_succ
abbrev xA:=@Array.replicate_zero
abbrev xB:=@List.push_toArray
abbrev xC:=@List.append_toArray
abbrev xD:=@List.mem_map
abbrev xE:=@List.mem_filterMap
abbrev xF:=@Option.map_some
abbrev xG:=@List.getElem?_take
abbrev xH:=@Nat.zero_mul
abbrev xI:=@List.mem_append_left
abbrev xJ:=@List.take_take
abbrev xK:=@Nat.sub_mul
abbrev xL:=@Go.callsIn_wide
abbrev xN:=@List.nodup_cons
abbrev xO:=@Go.Oper.wp_mono
abbrev xP:=@Nat.mul_le_mul
abbrev xQ:=@List.getElem_append_left
abbrev xR:=@List.getElem?_drop
abbrev xS:=@Nat.lt_succ_iff_lt_or_eq
abbrev xT:=@List.mem_filter
abbrev xU:=@Array.getElem?_eq_getElem
abbrev xV:=@List.length_pos_iff
abbrev xW:=@Nat.add_sub_cancel_left
abbrev xX:=@Nat.lt_succ_self
abbrev xY:=@Nat.le_of_lt
abbrev xZ:=@UInt8.lt_iff_toNat_lt
abbrev we:=@List.length_eq_zero_iff
abbrev wg:=@Array.size_push
abbrev wh:=@List.filterMap_cons_some
abbrev wi:=@List.length_filter_le
abbrev wj:=@Bool.or_eq_true
abbrev wk:=@Nat.sub_self
abbrev wl:=@Go.DataW.trod_int
abbrev wm:=@List.sum_cons
abbrev wn:=@List.length_zipWith
abbrev wo:=@List.getElem_map
abbrev wq:=@List.drop_zero
abbrev wt:=@of_decide_eq_true
abbrev wu:=@Array.getElem?_setIfInBounds_ne
abbrev ww:=@Array.all_eq_true'
abbrev wz:=@Array.getElem?_eq_none_iff
abbrev wA:=@Go.World.block_lt_of_cell?
abbrev wB:=@List.map_congr_left
abbrev wC:=@List.getElem_append_right
abbrev wD:=@decide_eq_false_iff_not
abbrev wE:=@List.filter_cons
abbrev wF:=@List.singleton_append
abbrev wG:=@Int.toNat_natCast
abbrev wH:=@Decidable.byContradiction
abbrev wI:=@List.sum_append
abbrev wJ:=@List.mem_append_right
abbrev wK:=@Go.run_storeCells_at
abbrev wM:=@Go.run_loadCells_list
abbrev wO:=@List.drop_left
abbrev wP:=@UInt8.lt_irrefl
abbrev wQ:=@Option.map_eq_some_iff
abbrev wR:=@Array.toList_setIfInBounds
abbrev wT:=@Go.BigFrame.eval_func
abbrev wU:=@List.filter_eq_nil_iff
abbrev wV:=@List.getElem?_eq_none
abbrev wW:=@Bool.and_eq_false_iff
abbrev wX:=@List.pairwise_iff_getElem
abbrev wY:=@List.getElem?_take_of_lt
abbrev wZ:=@List.drop_append_of_le_length
abbrev ve:=@Go.run_callFunc_extern
abbrev vf:=@List.set_append_right
abbrev vg:=@List.set_eq_take_append_cons_drop
abbrev vh:=@List.forall_mem_cons
abbrev vi:=@Array.getElem?_setIfInBounds_self_of_lt
abbrev vj:=@List.getLast?_eq_getElem?
def bv (xs:List UInt8):List Value:=xs.map λb=>Value.int .u8 (b.toNat:Int)
def zap (xs:List UInt8):ByteArray:=⟨xs.toArray⟩
theorem zcg(xs:List UInt8):(bv xs).length=xs.length:=by simp[bv]
theorem zve (xs ys:List UInt8):bv (xs++ys)=bv xs++bv ys:=by simp[bv]
theorem bv_get (xs:List UInt8)(k:Nat)(h:k<xs.length):(bv xs)[k]?=some (.int .u8 xs[k].toNat):=by simp[bv,h]
theorem bv_one{xs:List UInt8}:∀u∈bv xs,u.oneCell'=true:=by
 intro u hu;obtain⟨b,_,rfl⟩:=xD.1 hu;rfl
structure ByP (P:Program)(T E S:TypeId):Prop where
 hT:P.underlying T=some (.slice E)
 hE:P.underlying E=some (.int .u8)
 hS:P.underlying S=some .string
 hi:(P.info? E).map (λi=>(i.zero,i.size,i.bytes))=some (some (.int .u8 0),1,1)
theorem ByP.info{P:Program}{T E S:TypeId}(h:ByP P T E S):∃i,P.info? E=some i/\i.zero=some (.int .u8 0)/\i.size=1/\i.bytes=1:=by
 have:=h.hi;cases hi:P.info? E with
 |none=>simp[hi]at this
 |some i=>simp[hi]at this;exact⟨i,rfl,this⟩
def Rd (B:Nat)(w:World)(v:Value)(xs:List UInt8):Prop:=
 (∃a c,v=.slice a 0 c/\c<=maxLen/\xs=[])\/
 ∃b off cap,v=.slice (some ⟨b,off,none⟩) xs.length cap/\b<B/\xs.length<=cap/\cap<=maxLen/\∀j u,(bv xs)[j]?=some u->w.cell? ⟨b,off+j,none⟩=some u
theorem Rd.below{B:Nat}{w w':World}{v:Value}{xs:List UInt8}(h:Rd B w v xs)(hb:Below B w w'):Rd B w' v xs:=by
 rcases h with h|⟨b,off,cap,hv,hB,h1,h2,hc⟩
 ·exact .inl h
 ·exact .inr ⟨b,off,cap,hv,hB,h1,h2,λj u hj=>(hb.cell (p:=⟨b,off+j,none⟩) hB).trans (hc j u hj)⟩
theorem Below.drewN{B:Nat}{a w:World}(h:Below B a w)(q:Nat):Below B a (w.drewN q):=⟨h.os,h.tape,h.output,h.size,h.block⟩
theorem Rd.len{B:Nat}{w:World}{a:Option Addr}{n c:Nat}{xs:List UInt8}(h:Rd B w (.slice a n c) xs):n=xs.length/\n<=c/\c<=maxLen:=by
 rcases h with⟨a,c',h,hm,rfl⟩|⟨b,off,cap,h,_,h1,h2,_⟩
 ·cases h;exact⟨rfl,zH _,hm⟩
 ·cases h;exact⟨rfl,h1,h2⟩
def Own(E:TypeId)(base:Nat)(w:World)(v:Value)(xs:List UInt8):Prop:=∃n,w.ownsRow base E 1 v n (bv xs)
def zjn (E:TypeId)(w w':World)(v:Value)(xs:List UInt8):Prop:=Below w.heap.size w w'/\Own E w.heap.size w' v xs
section
variable {E : TypeId} {base : Nat} {w w' : World} {v : Value} {xs : List UInt8}
theorem own_n{n:Nat}(h:w.ownsRow base E 1 v n (bv xs)):n=xs.length:=by have:=h.1;rw[zcg]at this;omega
theorem Own.rd (h:Own E base w v xs):Rd w.heap.size w v xs:=by
  obtain⟨n,h⟩:=h;obtain rfl:=own_n h;rcases h.2 with⟨rfl,h0⟩|⟨g,cap,cur,rfl,hb,hg,hn,hc,hcs,ht⟩
  ·exact .inl ⟨none,0,rfl,by unfold maxLen;omega,yg h0⟩
  · refine .inr ⟨g,0,cap,rfl,(zJ.1 hg).1,hn,hc,λj u hj=>?_⟩
    have:=h.cells (g:=g) rfl j u hj;simpa[zN]using this
theorem zs8{n:Nat}{ys:List Value}(h:w.ownsRow base E 1 v n ys)(hb:Below w.heap.size w w'):w'.ownsRow base E 1 v n ys:=by
 refine⟨h.1,?_⟩;rcases h.2 with h|⟨g,cap,cur,hv,h1,hg,r⟩
 ·exact .inl h
 ·exact .inr ⟨g,cap,cur,hv,h1,(hb.block g (zJ.1 hg).1).trans hg,r⟩
theorem Own.below(h:Own E base w v xs)(hb:Below w.heap.size w w'):Own E base w' v xs:=let⟨n,h⟩:=h;⟨n,zs8 h hb⟩
theorem Own.shape (h:Own E base w v xs):∃a k cap,v=.slice a k cap:=by
 obtain⟨n,h⟩:=h;rcases h.2 with⟨rfl,rfl⟩|⟨g,cap,cur,rfl,_,_,h1,h2,_⟩
 ·exact⟨none,0,0,rfl⟩
 ·exact⟨_,_,_,rfl⟩
theorem Own.len{a:Option Addr}{k c:Nat}(h:Own E base w (.slice a k c) xs):k=xs.length:=(Own.rd h).len.1
theorem Own.nil (E:TypeId)(base:Nat)(w:World):Own E base w (.slice none 0 0) []:=⟨0,World.ownsRow_nil _ _ _ _⟩
theorem Own.grown_below{B:Nat}(hown:Own E base w v xs)(hg:w.grownBy w' v.ownBlock)(hB:B<=base)(hBw:B<=w.heap.size):Below B w w':=
 (ze B w).grown hg hBw (λk hk=>by obtain⟨n,h⟩:=hown;have:=(h.lt k hk).1;omega)
theorem zjn.rd(h:zjn E w w' v xs):Rd w'.heap.size w' v xs:=Own.rd h.2
theorem zjn.nil (E:TypeId)(w:World):zjn E w w (.slice none 0 0) []:=⟨ze _ _,Own.nil _ _ _⟩
theorem zjn.len{a:Option Addr}{k c:Nat}(h:zjn E w w' (.slice a k c) xs):k=xs.length:=Own.len h.2
end
section
variable {P : Program} {T E S : TypeId}
theorem zuv:∀(vs:List Value) (k:Nat) (cells:Array Value),(∀v∈vs,v.cells=#[v])->k+vs.length<=cells.size->Instr.fill (λi=>some (i*1,1)) cells ((vs.zipIdx k).map λp=>(p.2,p.1))=some (cells.toList.take k++vs++cells.toList.drop (k+vs.length)).toArray:=by
 intro vs;induction vs with
 |nil=>intro k cells _ _;simp[Instr.fill]
 |cons v vs ih=>
  intro k cells h1 hk;simp only[zI]at hk;have hv:v.cells=#[v]:=h1 v (by simp);simp only[List.zipIdx_cons,zn,Instr.fill,hv];rw[zh (by simp;omega)];rw[show(#[v].zipIdx.foldl (λcs (p:Value×Nat)=>cs.setIfInBounds (k*1+p.2) p.1) cells)=cells.setIfInBounds k v by simp];rw[ih (k+1) _ (λu hu=>h1 u (by simp[hu])) (by simp;omega)];congr 1;apply Array.ext';have hlt:k<cells.toList.length:=by simp;omega
  have e1:(cells.toList.set k v).take (k+1)=cells.toList.take k++[v]:=by
   rw[yZ (by simpa using hlt),List.take_set_of_le (zf _)];simp
  have e2:(cells.toList.set k v).drop (k+1+vs.length)=cells.toList.drop (k+(vs.length+1)):=by
   rw[List.drop_set_of_lt (by omega)];congr 1;omega
  simp only[wR,zI,e1,e2];simp
theorem zmh(hP:ByP P T E S) (w:World) (xs:List UInt8)(hs:xs.length<=16777216):(Instr.buildSlice T xs.length ((bv xs).zipIdx.map λp=>(p.2,p.1)).toArray).run P w=.ok (.slice (some ⟨w.heap.size,0,none⟩) xs.length xs.length) (w.alloc (.cells (bv xs).toArray E)):=by
  obtain⟨i,hi,hz,hsz,hby⟩:=hP.info;have hfill:∀(cells:Array Value),cells.size=xs.length->Instr.fill (λi=>some (i*1,1)) cells ((bv xs).zipIdx.map λp=>(p.2,p.1))=some (bv xs).toArray:=by
    intro cells hc;rw[zuv (bv xs) 0 cells (λv hv=>by obtain⟨b,_,rfl⟩:=xD.1 hv;rfl) (by rw[zcg];omega)];simp[zcg];omega
  by_cases h0:xs.length=0
  · obtain rfl:xs=[]:=yg h0
    simp[Instr.buildSlice,zr hP.hT,sizeOf,typeInfo,hi,Instr.fill,bv,newRow,show Array.range 0=#[]from rfl]
  · have hf:=hfill ((Array.range (xs.length*1)).map (λx=>(#[Value.int .u8 0])[x%(#[Value.int .u8 0]).size]!)) (by simp)
    have hne:¬xs=[]:=by intro h;apply h0;simp[h]
    have hbig:¬(16777216<xs.length):=by omega
    simp[Instr.buildSlice,zr hP.hT,sizeOf,typeInfo,zeroValue,hi,hz,hsz,newRow,hne,hbig,Value.cells]at hf⊢;simp[hf]
theorem zov (E:TypeId)(w:World)(xs:List UInt8)(hs:xs.length<=16777216):zjn E w (w.alloc (.cells (bv xs).toArray E)) (.slice (some ⟨w.heap.size,0,none⟩) xs.length xs.length) xs:=by
 refine⟨(ze _ _).alloc (zf _) _,xs.length,by simp[zcg],.inr ⟨w.heap.size,xs.length,(bv xs).toArray,rfl,zf _,heap_alloc_new w _,zf _,by unfold maxLen;omega,by simp[zcg],?_⟩⟩;rw[yq (by simp[zcg])]
variable {ops : Array Oper} {rest : List Oper} {o : Oper} {a : Act} {Q : Exit → Act → World → Prop} {w : World}
theorem zho (hP:ByP P T E S){n:Nat}{parts:Array (Nat×Operand)}(ho:o.op=.buildSlice T n parts)(hgd:Region.wanted o (yielded ops a.tmps)=true)(xs:List UInt8)(hv:(parts.map λp=>(p.1,a.eval p.2))=((bv xs).zipIdx.map λp=>(p.2,p.1)).toArray)(hn:n=xs.length)(hs:xs.length<=16777216)
  (h:∀g k w',zjn E w w' (.slice (some ⟨g,0,none⟩) k k) xs->wpList P ops Q rest (a.put o.dst (.slice (some ⟨g,0,none⟩) k k)) w'):wpList P ops Q (o::rest) a w:=by
 refine zQ hgd λK hK=>?_
 have hrun:=zmh hP w xs hs;subst hn;unfold Oper.wp execOp;simp only[ho,hv,zZ,yb,ye,hrun];exact hK _ _ (h _ _ _ (zov E w xs hs))
theorem zks (hP:ByP P T E S) (w:World){base B:Nat}(ty:TypeId){v x:Value}{ys xs:List UInt8}(hown:Own E base w v ys) (hx:Rd B w x xs)(hbase:base<=w.heap.size) (hlen:ys.length+xs.length<=1073741824):
    ∃v' w',(Builtin.append_ #[T,T] ty #[v,x]).run P w=.ok v' w'/\Own E base w' v' (ys++xs)/\w.grownBy w' v.ownBlock:=by
  obtain⟨i,hi,hz,hsz,hby⟩:=hP.info;obtain⟨n,hown⟩:=hown;obtain rfl:=own_n hown;rcases hx with⟨ax,cx,rfl,_,rfl⟩|⟨b,off,cap,rfl,_,_,_,hc⟩
  · have hsrc:Src P i.size T (.slice ax 0 cx) 0 [] w:=by
      cases ax with
      |none=>exact Src.ofNil w hP.hT cx
      |some p=>exact Src.ofSlice w hP.hT p 0 cx [] (by simp) (λj u h=>by simp at h) (λu h=>by cases h)
    obtain⟨av,kv,cv,rfl⟩:∃a k c,v=.slice a k c:=Own.shape ⟨_,hown⟩;have hle:kv<=cv:=(Own.rd ⟨_,hown⟩).len.2.1;refine⟨_,w,run_append_nothing w T T ty E i hP.hT hi av kv cv hle _ hsrc,⟨ys.length,by simpa using hown⟩,⟨rfl,rfl,rfl,zf _,λ_ _ _=>rfl⟩⟩
  · obtain⟨v',w',h1,h2,h3,_⟩:=run_append_own (P:=P) w base T ty E i (.int .u8 0) 1 1 hP.hT hi hz hsz hby rfl (by decide) v ys.length (bv ys) hown ⟨b,off,none⟩ xs.length cap (bv xs) (by simp[zcg])
      (λj u hj=>by simpa [zN]using hc j u hj) bv_one (by unfold maxLen;omega) (by omega) hbase
    exact⟨v',w',h1,⟨_,by simpa [zve]using h2⟩,h3⟩
theorem zl2 (hP:ByP P T E S){o':Oper}{n:Nat}{parts:Array (Nat×Operand)}{d:Tmp}(ho:o.op=.buildSlice T n parts) (hgd':∀u,Region.wanted o' (yielded ops (a.put o.dst u).tmps)=true) (hgd:Region.wanted o (yielded ops a.tmps)=true) (hd:o.dst=some d) (hlt:d<a.tmps.size)(ho':o'.op=.convert T T (.tmp d)) (xs:List UInt8)
  (hv:(parts.map λp=>(p.1,a.eval p.2))=((bv xs).zipIdx.map λp=>(p.2,p.1)).toArray)(hn:n=xs.length)(hs:xs.length<=16777216)
  (h:∀u g k w',Below w.heap.size w w'->Rd w'.heap.size w' (.slice (some ⟨g,0,none⟩) k k) xs->wpList P ops Q rest ((a.put (some d) u).put o'.dst (.slice (some ⟨g,0,none⟩) k k)) w'):wpList P ops Q (o::o'::rest) a w:=by
 refine zQ hgd λK hK=>?_
 have hrun:=zmh hP w xs hs;subst hn;unfold Oper.wp execOp;simp only[ho,hv,zZ,yb,ye,hrun];refine hK _ _ ?_;have hgd2:=hgd' (.slice (some ⟨w.heap.size,0,none⟩) xs.length xs.length);rw[hd]at hgd2⊢;refine zQ hgd2 λK' hK'=>?_
 have hrun2:=Lib.run_convert_bytes_const (P:=P) w T E (bv xs).toArray xs.length xs.length hP.hT hP.hE;have he:(a.put (some d) (.slice (some ⟨w.heap.size,0,none⟩) xs.length xs.length)).eval (.tmp d)=.slice (some ⟨w.heap.size,0,none⟩) xs.length xs.length:=by simp[Act.eval,Act.put,hlt]
 unfold Oper.wp execOp;simp only[ho',he,zZ,yb,ye,hrun2];refine hK' _ _ (h _ _ _ _ ((ze _ _).alloc (zf _) _) (.inr ⟨w.heap.size,0,xs.length,rfl,by simp,zf _,by unfold maxLen;omega,λj u hj=>?_⟩));rw[zR,World.cell?];simp only[World.alloc,yf];simpa using hj
theorem zgm(hP:ByP P T E S){s x:Operand}(ho:o.op=.call {callee:=.builtin .append,args:=#[s,x],argTypes:=#[T,T]}) (hgd:Region.wanted o (yielded ops a.tmps)=true){base B:Nat}{vs vx:Value}{ys xs:List UInt8}(hs:a.eval s=vs) (hown:Own E base w vs ys) (hx:a.eval x=vx) (hr:Rd B w vx xs)
  (hbase:base<=w.heap.size)
  (h:∀ad k cap w',Own E base w' (.slice ad k cap) (ys++xs)->w.grownBy w' vs.ownBlock->Below base w w'->wpList P ops Q rest (a.put o.dst (.slice ad k cap)) w') (hlen:ys.length+xs.length<=1073741824):wpList P ops Q (o::rest) a w:=by
 refine zQ hgd λK hK=>?_
 obtain⟨v',w',hrun,h2,h3⟩:=zks hP w o.type hown hr hbase hlen;obtain⟨ad,k,cap,rfl⟩:=Own.shape h2;unfold Oper.wp execOp;simp only[ho,resolve,invoke,builtin,zZ,yb,ye,zE,zn,zo,hs,hx,hrun];exact hK _ _ (h _ _ _ _ h2 h3 (Own.grown_below hown h3 (zf _) hbase))
theorem zjs(hP:ByP P T E S){o':Oper}{y s:Operand}{d:Tmp}(ho:o.op=.buildSlice T 1 #[(0,y)])(hgd':∀u,Region.wanted o' (yielded ops (a.put o.dst u).tmps)=true)(hgd:Region.wanted o (yielded ops a.tmps)=true)(hd:o.dst=some d)(hlt:d<a.tmps.size)(ho':o'.op=.call {callee:=.builtin .append,args:=#[s,.tmp d],argTypes:=#[T,T]})
  {base:Nat}{vs:Value}{ys:List UInt8}(c:UInt8)(hs:∀u,(a.put (some d) u).eval s=vs)(hy:a.eval y=.int .u8 (c.toNat:Int))(hown:Own E base w vs ys)
  (hbase:base<=w.heap.size)
  (h:∀u ad k cap w',Own E base w' (.slice ad k cap) (ys++[c])->Below base w w'->wpList P ops Q rest ((a.put (some d) u).put o'.dst (.slice ad k cap)) w')(hlen:ys.length<=1073741823):wpList P ops Q (o::o'::rest) a w:=by
 refine zho hP ho hgd [c] (by simp[bv,hy]) rfl (by simp) λg k w1 hf=>?_
 have hgd2:=hgd' (.slice (some ⟨g,0,none⟩) k k);rw[hd]at hgd2⊢;refine zgm hP ho' hgd2 (base:=base) (hs _) (hown.below hf.1) (x:=.tmp d) (vx:=.slice (some ⟨g,0,none⟩) k k) (by simp[Act.eval,Act.put,hlt]) hf.rd (zv hbase hf.1.size) (λad k cap w2 h2 _ hb=>h _ _ _ _ _ h2 ((hf.1.mono hbase).trans hb)) (by simp;omega)
theorem zpk (hP:ByP P T E S){B:Nat}{w:World}{v:Value}{xs:List UInt8}(h:Rd B w v xs):(convert T S v).run P w=.ok (.string (zap xs)) w:=by
  rcases h with⟨ax,cx,rfl,_,rfl⟩|⟨b,off,cap,rfl,_,_,_,hc⟩
  ·cases ax with
    |none=>exact run_convert_bytes_nil w T E hP.hT hP.hE 0 cx S hP.hS
    |some p=>
      rw[run_convert_bytes_string w T S E _ 0 cx hP.hT hP.hE hP.hS,run_bytesToString w p 0 cx [] (by simp[loadCells,loadCellsFrom])];rfl
  · rw[run_convert_bytes_arg w T E hP.hT hP.hE b off xs.length cap (xs.map λx=>(x.toNat:Int)) (by simp) (λi hi=>by
      have:=hc i (.int .u8 (xs[i].toNat:Int)) (by simp[bv,hi]);rw[this];simp[List.getD,hi]) S hP.hS]
    simp[strOfNums,zap,Function.comp_def]
theorem zc9 (hP:ByP P T E S){x:Operand}(ho:o.op=.convert T S x){B:Nat}{v:Value}{xs:List UInt8}(hx:a.eval x=v)(hgd:Region.wanted o (yielded ops a.tmps)=true)(hr:Rd B w v xs)(h:wpList P ops Q rest (a.put o.dst (.string (zap xs))) w):wpList P ops Q (o::rest) a w:=by
 refine zQ hgd λK hK=>?_
 unfold Oper.wp execOp;simp only[ho,hx,zZ,yb,ye,zpk hP hr];exact hK _ _ h
theorem za1(w:World){n c l:Nat}(h:l<=n):(Instr.sliceBounds true n c (some (.int .i64 l)) none none).run P w=.ok (l,n,c) w:=by
 simp[Instr.sliceBounds,Instr.sliceBound,asIntOf,h]
theorem zas (w:World){n c l:Nat}{i:Int}(hi:i=(l:Int))(h:l<=n):(Instr.sliceBounds true n c (some (.int .i64 i)) none none).run P w=.ok (l,n,c) w:=by
 rw[hi];exact za1 w h
theorem zax (w:World){n c h:Nat}(hh:h<=c):(Instr.sliceBounds true n c none (some (.int .i64 h)) none).run P w=.ok (0,h,c) w:=by
 simp[Instr.sliceBounds,Instr.sliceBound,asIntOf,hh]
theorem zbo (w:World){n c l h:Nat}(hl:l<=h)(hh:h<=c):(Instr.sliceBounds true n c (some (.int .i64 l)) (some (.int .i64 h)) none).run P w=.ok (l,h,c) w:=by
 simp[Instr.sliceBounds,Instr.sliceBound,asIntOf,hl,hh]
theorem zbj (w:World){n c l h:Nat}{i j:Int}(hi:i=(l:Int))(hj:j=(h:Int))(hl:l<=h)(hh:h<=c):(Instr.sliceBounds true n c (some (.int .i64 i)) (some (.int .i64 j)) none).run P w=.ok (l,h,c) w:=by
 rw[hi,hj];exact zbo w hl hh
end
theorem byP:ByP Tryz.prog 23 5 9:=⟨by kernel_rfl,by kernel_rfl,by kernel_rfl,by kernel_rfl⟩
def zaj (a:Act):List Oper->(Nat->Value)->Nat->Act
 |[],_,_=>a
 |o::rest,vs,k=>zaj (a.put o.dst (vs k)) rest vs (k+1)
def upd (vs:Nat->Value)(i:Nat)(v:Value):Nat->Value:=λj=>if j=i then v else vs j
theorem put_put(a:Act)(d:Option Tmp)(u v:Value):(a.put d u).put d v=a.put d v:=by
 cases d with
 |none=>rfl
 |some d=>simp[Act.put]
theorem put_comm(a:Act){d d':Option Tmp}(h:d=none\/d≠d')(u v:Value):(a.put d u).put d' v=(a.put d' v).put d u:=by
  cases d with
  |none=>rfl
  |some d=>
    cases d' with
    |none=>rfl
    |some d'=>
      have hne : d ≠ d' := by rcases h with h|h;·cases h
                              ·exactλe=>h (by rw[e])
      simp only[Act.put];rw[Array.setIfInBounds_comm _ _ hne]
theorem put_self(a:Act)(d:Tmp):a.put (some d) (a.tmps.getD d undef)=a:=by
  cases a with
  |mk tmps defers=>
    simp only[Act.put];congr 1;apply Array.ext
    ·simp
    · intro i h1 h2
      rw[Array.getElem_setIfInBounds];split
      · rename_i e;subst e;simp[Array.getD,h2]
      · rfl
theorem zhs:∀(l:List Oper)(a:Act)(vs us:Nat->Value)(k:Nat),(∀j,j<l.length->vs (k+j)=us (k+j))->zaj a l vs k=zaj a l us k
 |[],_,_,_,_,_=>rfl
 |o::rest,a,vs,us,k,h=>by
  simp only[zaj];have h0:=h 0 (by simp);rw[yO]at h0;rw[h0];exact zhs rest _ vs us (k+1) (λj hj=>by have:=h (j+1) (by simp;omega);rw[show k+1+j=k+(j+1)by omega];exact this)
theorem zj4:∀(l:List Oper)(a:Act)(vs:Nat->Value)(k:Nat)(d:Option Tmp)(v:Value),(∀o∈l,d=none\/o.dst=none\/o.dst≠d)->(zaj a l vs k).put d v=zaj (a.put d v) l vs k
 |[],_,_,_,_,_,_=>rfl
 |o::rest,a,vs,k,d,v,h=>by
  simp only[zaj];rw[zj4 rest _ vs (k+1) d v (λo' ho=>h o' (List.mem_cons_of_mem _ ho))];congr 1;rcases h o (List.mem_cons_self)with h|h|h
  ·subst h;rfl
  · rw[h];rfl
  ·exact put_comm a (.inr h) _ _
def zpf(l:List Oper):Bool:=(l.filterMap (·.dst)).Nodup
theorem zf0:∀(l:List Oper)(a:Act)(vs:Nat->Value)(k j:Nat)(o:Oper)(v:Value),(l.filterMap (·.dst)).Nodup->l[j]?=some o->(zaj a l vs k).put o.dst v=zaj a l (upd vs (k+j) v) k
  |[],_,_,_,_,_,_,_,h=>by simp at h
  |o'::rest,a,vs,k,0,o,v,hn,h=>by
    obtain rfl:o'=o:=by simpa using h
    simp only[zaj,yO];rw[zj4 rest _ vs (k+1) o'.dst v,put_put]
    · rw[show upd vs k v k=v by simp[upd]]
      exact zhs rest _ _ _ _ (λj _=>by simp[upd];omega)
    · intro o2 ho2
      cases hd:o'.dst with
      |none=>exact .inl rfl
      |some d=>
        refine .inr ?_;cases hd2:o2.dst with
        |none=>exact .inl rfl
        |some d2=>
          refine .inr λe=>?_
          cases e;rw[wh hd,xN]at hn;exact hn.1 (xE.2 ⟨o2,ho2,hd2⟩)
  |o'::rest,a,vs,k,j+1,o,v,hn,h=>by
    simp only[zaj];have hn':(rest.filterMap (·.dst)).Nodup:=by
      cases hd:o'.dst with
      |none=>rwa [List.filterMap_cons_none hd]at hn
      |some d=>rw[wh hd,xN]at hn;exact hn.2
    rw[zf0 rest _ vs (k+1) j o v hn' (by simpa using h),show k+1+j=k+(j+1)by omega];rw[show upd vs (k+(j+1)) v k=vs k by simp[upd]]
theorem ze3:∀(l:List Oper)(a:Act)(vs:Nat->Value)(k:Nat),(∀j o d,l[j]?=some o->o.dst=some d->vs (k+j)=a.tmps.getD d undef)->zaj a l vs k=a
 |[],_,_,_,_=>rfl
 |o::rest,a,vs,k,h=>by
  simp only[zaj];have e:a.put o.dst (vs k)=a:=by
   cases hd:o.dst with
   |none=>rfl
   |some d=>
    have q:=h 0 o d rfl hd;rw[yO]at q;rw[q];exact put_self a d
  rw[e];exact ze3 rest a vs (k+1) (λj o' d hj hd=>by rw[show k+1+j=k+(j+1)by omega];exact h (j+1) o' d (by simpa using hj) hd)
def zcj:List Oper->Nat->Tmp->Option Nat
 |[],_,_=>none
 |o::rest,k,t=>if o.dst=some t then some k else zcj rest (k+1) t
theorem zaz(a:Act)(d:Option Tmp)(v:Value):(a.put d v).tmps.size=a.tmps.size:=by cases d<;>simp[Act.put]
theorem zox (a:Act){d:Option Tmp}{t:Tmp}(h:d≠some t)(v:Value):(a.put d v).eval (.tmp t)=a.eval (.tmp t):=by
 cases d with
 |none=>rfl
 |some d=>
  have:d≠t:=λe=>h (by rw[e])
  simp only[Act.eval,Act.put,yt,wu this]
theorem zoy (a:Act){t:Tmp}(h:t<a.tmps.size)(v:Value):(a.put (some t) v).eval (.tmp t)=v:=by
 simp[Act.eval,Act.put,h]
theorem zbn:∀(l:List Oper)(a:Act)(vs:Nat->Value)(k:Nat)(t:Tmp),zcj l k t=none->(zaj a l vs k).eval (.tmp t)=a.eval (.tmp t)
  |[],_,_,_,_,_=>rfl
  |o::rest,a,vs,k,t,h=>by
    simp only[zcj]at h;split at h
    ·cases h
    · rename_i hne
      simp only[zaj];rw[zbn rest _ vs (k+1) t h,zox a hne]
theorem zbs:∀(l:List Oper)(a:Act)(vs:Nat->Value)(k:Nat)(t:Tmp)(j:Nat),(l.filterMap (·.dst)).Nodup->t<a.tmps.size->zcj l k t=some j->(zaj a l vs k).eval (.tmp t)=vs j
  |[],_,_,_,_,_,_,_,h=>by simp[zcj]at h
  |o::rest,a,vs,k,t,j,hn,ht,h=>by
    simp only[zcj]at h;simp only[zaj];split at h
    · rename_i he
      obtain rfl:k=j:=by simpa using h
      have hout:∀(l:List Oper)(k:Nat),(∀o∈l,o.dst≠some t)->zcj l k t=none:=by
        intro l;induction l with
        |nil=>intro _ _;rfl
        |cons o2 r ih=>intro k hh;simp only[zcj];rw[zh (hh o2 (by simp))];exact ih _ (λo3 h3=>hh o3 (by simp[h3]))
      rw[wh he,xN]at hn;rw[zbn rest _ vs (k+1) t (hout rest (k+1) (λo2 h2 e=>hn.1 (xE.2 ⟨o2,h2,e⟩))),he,zoy a ht]
    · have hn':(rest.filterMap (·.dst)).Nodup:=by
        cases hd:o.dst with
        |none=>rwa[List.filterMap_cons_none hd]at hn
        |some d=>rw[wh hd,xN]at hn;exact hn.2
      exact zbs rest _ vs (k+1) t j hn' (by rw[zaz];exact ht) h
section
variable {P : Program} {Q : Exit → Act → World → Prop}
def zqv(P:Program)(Q:Exit->Act->World->Prop)(ops:Array Oper)(a:Act)(w:World)(G:Nat->World->Value->Prop)(i:Nat)(o:Oper):Prop:=
 ∀(A:Act)(vs:Nat->Value)(w':World),(∀t,zcj ops.toList 0 t=none->A.eval (.tmp t)=a.eval (.tmp t))->(∀t j,t<a.tmps.size->zcj ops.toList 0 t=some j->A.eval (.tmp t)=vs j)->Below w.heap.size w w'->(∀e∈o.after,Region.binds .any e=true->G e.on w' (vs e.on))->
  o.wp P A w' (λa2 w2=>∃v,a2=A.put o.dst v/\G i w2 v/\Below w'.heap.size w' w2) Q
def zc2 (n:Nat)(listed:Array Bool):List Nat:=(List.range n).filter λi=>!listed.getD i true
theorem zfl{n:Nat}{listed:Array Bool}{i:Nat}(hn:listed.size=n)(hi:i<n)(hl:listed.getD i true=false):(zc2 n (listed.setIfInBounds i true)).length<(zc2 n listed).length:=by
  have key:∀(l:List Nat),l.Nodup->i∈l->(l.filter λj=>!(listed.setIfInBounds i true).getD j true).length<(l.filter λj=>!listed.getD j true).length\/False:=by
    intro l;induction l with
    |nil=>intro _ h;cases h
    |cons x r ih=>
      intro hnd hm;rw[xN]at hnd;have same:∀j,j≠i->(listed.setIfInBounds i true).getD j true=listed.getD j true:=by
        intro j hj;simp only[yt,wu hj.symm]
      have here:(listed.setIfInBounds i true).getD i true=true:=by
        simp only[yt,vi (by omega:i<listed.size)];rfl
      by_cases hx:x=i
      · subst hx
        left;rw[List.filter_cons_of_neg (by simp[here]),List.filter_cons_of_pos (by simp[hl])];have e:r.filter (λj=>!(listed.setIfInBounds x true).getD j true)=r.filter (λj=>!listed.getD j true):=
          List.filter_congr (λj hj=>by rw[same j (λe=>hnd.1 (e▸hj))])
        rw[e];simp
      · left
        have hm' : i ∈ r := by rcases zU.1 hm with h|h;·exact absurd h.symm hx
                               ·exact h
        have:=(ih hnd.2 hm').resolve_right id;by_cases hb:listed.getD x true=true
        · rw[List.filter_cons_of_neg (by simp[same x hx,hb]),List.filter_cons_of_neg (by simp[hb])];exact this
        · have hb':listed.getD x true=false:=by simpa using hb
          rw[List.filter_cons_of_pos (by simp[same x hx,hb']),List.filter_cons_of_pos (by simp[hb'])];simp only[zI];omega
  exact(key (List.range n) List.nodup_range (yY.2 hi)).resolve_right id
end
def StableG(G:World->Value->Prop):Prop:=∀w v w',G w v->Below w.heap.size w w'->G w' v
abbrev SG:={G:World->Value->Prop//StableG G}
def sgEq(u:Value):SG:=⟨λ_ v=>v=u,λ_ _ _ h _=>h⟩
def sgAny:SG:=⟨λ_ _=>True,λ_ _ _ h _=>h⟩
section
variable {P : Program} {T E S : TypeId} {o : Oper} {a : Act} {K : Act → World → Prop} {Q : Exit → Act → World → Prop} {w : World}
theorem zid{v:Value}(hrun:(execOp a.eval o).run P w=.ok (.value v) w)(h:K (a.put o.dst v) w):o.wp P a w K Q:=by
 unfold Oper.wp;rw[hrun];exact h
theorem zah{f:FuncId}{xs:Array Operand}{ts:Array TypeId}{args:Array Value}(ho:o.op=.call {callee:=.value (.func f),args:=xs,argTypes:=ts})(eg:∀args w,(callFunc f args).run P w=.ok (.enter f args) w)(hargs:xs.map a.eval=args)(hc:Calls P f args w (λe w'=>∃v,e=.returned v/\K (a.put o.dst v) w')):o.wp P a w K Q:=by
 have hrun:(execOp a.eval o).run P w=.ok (.enter f args) w:=by
  subst hargs;simp[execOp,ho,resolve,wT,invoke,Deferred.ofValue,eg]
 unfold Oper.wp;rw[hrun,Oper.upon_enter];refine hc.mono (λe w' h=>?_);obtain⟨v,rfl,hk⟩:=h;exact hk
end
theorem zmc:∀(l:List Oper)(k j:Nat)(o:Oper)(d:Tmp),(l.filterMap (·.dst)).Nodup->l[j]?=some o->o.dst=some d->zcj l k d=some (k+j)
 |[],_,_,_,_,_,h,_=>by simp at h
 |o2::r,k,0,o,d,_,hj,hd=>by
  obtain rfl:o2=o:=by simpa using hj
  simp[zcj,hd]
 |o2::r,k,j+1,o,d,hn,hj,hd=>by
  have hmem:d∈r.filterMap (·.dst):=xE.2 ⟨o,xq (by simpa using hj),hd⟩;have hne:o2.dst≠some d:=by
   intro e;rw[wh e,xN]at hn;exact hn.1 hmem
  have hn':(r.filterMap (·.dst)).Nodup:=by
   cases hd2:o2.dst with
   |none=>rwa[List.filterMap_cons_none hd2]at hn
   |some d2=>rw[wh hd2,xN]at hn;exact hn.2
  simp only[zcj,zh hne];rw[zmc r (k+1) j o d hn' (by simpa using hj) hd];congr 1;omega
def gdB (ops:Array Oper):Bool:=(ops.toList.zipIdx.all λp=>p.1.after.all λe=>!Region.binds .any e||decide (e.on<p.2))&&zpf ops.toList
theorem zfa{ops:Array Oper}{listed:Array Bool}(hs:gdB ops=true) (hr:Region.ready .any ops listed=[]):∀i,i<ops.size->listed.getD i true=true:=by
 intro i;induction i using Nat.strongRecOn with
 |ind i ih=>
  intro hi;cases hl:listed.getD i true with
  |true=>rfl
  |false=>
   exfalso;have hm:i∈Region.ready .any ops listed:=by
    unfold Region.ready;refine xT.2 ⟨yY.2 hi,?_⟩;have hdep:∀e∈(ops[i]'hi).after,Region.binds .any e=true->e.on<i:=by
     intro e he hb;simp only[gdB,yk,xr]at hs;have:=hs.1 ((ops[i]'hi),i) (by
      rw[List.mem_zipIdx_iff_getElem?];simp[hi])
     rw[ww]at this;have:=this e he;simpa[hb]using this
    simp only[hl,xU hi,xF,xk,Bool.not_false,Bool.true_and];rw[ww];intro e he;cases hb:Region.binds .any e with
    |false=>simp
    |true=>
     have hlt:=hdep e he hb;have:=ih e.on hlt (by omega);simp only[Bool.not_true,Bool.false_or];revert this;simp only[yt];cases hg:listed[e.on]? with
     |some b=>simp
     |none=>
      exfalso;rw[wz]at hg;simp only[yt,wz.2 (show listed.size<=i by omega)]at hl;cases hl
   rw[hr]at hm;cases hm
section
variable {P : Program} {Q : Exit → Act → World → Prop}
def GdOp(P:Program)(Q:Exit->Act->World->Prop)(ops:Array Oper)(a:Act)(w:World)(G:Nat->World->Value->Prop)(i:Nat)(o:Oper):Prop:=
 match o.guard with
 |none=>zqv P Q ops a w G i o
 |some (j,b)=>(∃oj d,ops[j]?=some oj/\oj.dst=some d/\d<a.tmps.size)/\(o.after.any λe=>e.on==j&&Region.binds .any e)=true/\(((∀w v,G j w v->v=.bool b)/\zqv P Q ops a w G i o)\/((∀w v,G j w v->v=.bool (!b)\/v=undef)/\∀w,G i w undef))
theorem GdOp.plain{ops:Array Oper}{a:Act}{w:World}{G:Nat->World->Value->Prop}{i:Nat}{o:Oper}(h:o.guard=none)(h2:zqv P Q ops a w G i o):GdOp P Q ops a w G i o:=by
 unfold GdOp;rw[h];exact h2
def zo7 (P:Program)(Q:Exit->Act->World->Prop)(ops:Array Oper)(a:Act)(w:World)(G:Nat->World->Value->Prop):Nat->List Oper->Prop
 |_,[]=>True
 |i,o::rest=>GdOp P Q ops a w G i o/\zo7 P Q ops a w G (i+1) rest
theorem zo7.get{ops:Array Oper}{a:Act}{w:World}{G:Nat->World->Value->Prop}:∀(l:List Oper)(k j:Nat)(o:Oper),zo7 P Q ops a w G k l->l[j]?=some o->GdOp P Q ops a w G (k+j) o
  |[],_,_,_,_,h=>by simp at h
  | o' :: rest, k, 0, o, h, hj => by obtain rfl:o'=o:=by simpa using hj
                                     exact h.1
  |o'::rest,k,j+1,o,h,hj=>by rw[show k+(j+1)=k+1+j by omega];exact zo7.get rest (k+1) j o h.2 (by simpa using hj)
theorem zlw{id:Nat}{ops:Array Oper}{a:Act}{w:World}(hm:P.follows .mixedOrders=true) (hs:gdB ops=true) (G:Nat->World->Value->Prop)(hst:∀i w v w',G i w v->Below w.heap.size w w'->G i w' v) (hop:zo7 P Q ops a w G 0 ops.toList)
    (hend:∀(vs:Nat->Value) (w':World),Below w.heap.size w w'->(∀i,i<ops.size->G i w' (vs i))->Q .normal (zaj a ops.toList vs 0) w'):(Code.region id ops true).wp P Q a w:=by
  refine wp_region_any hm ?_;have hnd:(ops.toList.filterMap (·.dst)).Nodup:=by simp only[gdB,zpf,yk,yP]at hs;exact hs.2
  have main:∀(fuel:Nat) (listed:Array Bool) (vs:Nat->Value) (w':World),listed.size=ops.size->(zc2 ops.size listed).length<=fuel->Below w.heap.size w w'->(∀i,i<ops.size->listed.getD i true=true->G i w' (vs i))->wpAny P .any ops Q fuel listed (zaj a ops.toList vs 0) w':=by
    intro fuel;induction fuel with
    |zero=>
      intro listed vs w' hsz hu hb hG;have hall:∀i,i<ops.size->listed.getD i true=true:=by
        intro i hi;cases hl:listed.getD i true with
        |true=>rfl
        |false=>
          have:i∈zc2 ops.size listed:=xT.2 ⟨yY.2 hi,by simp[hl]⟩;rw[yg (Nat.le_zero.1 hu)]at this;cases this
      refine⟨?_,hend vs w' hb (λi hi=>hG i hi (hall i hi))⟩;unfold Region.ready;rw[wU];intro i hi;simp[hall i (List.mem_range.1 hi)]
    |succ fuel ih=>
      intro listed vs w' hsz hu hb hG;refine⟨λhr=>hend vs w' hb (λi hi=>hG i hi (zfa hs hr i hi)),λi hi=>?_⟩;unfold Region.ready at hi;obtain⟨hi1,hi2⟩:=xT.1 hi;have hlt:=yY.1 hi1;rw[yk]at hi2;obtain⟨hl,hdep⟩:=hi2;have hl':listed.getD i true=false:=by simpa using hl
      obtain⟨o,ho⟩:∃o,ops[i]?=some o:=⟨_,xU hlt⟩;rw[ho]at hdep;simp only[xF,xk]at hdep;rw[ww]at hdep;have hgop:=zo7.get ops.toList 0 i o hop (by rw[yF];exact ho);rw[zR]at hgop;have hdepG:∀e∈o.after,Region.binds .any e=true->e.on<ops.size/\G e.on w' (vs e.on):=by
        intro e he hbn;have h:=hdep e he;rw[hbn]at h;simp only[Bool.not_true,Bool.false_or]at h;have hin:e.on<listed.size:=by
          rcases zA e.on listed.size with h'|h'
          ·exact h'
          ·simp[Array.getD_eq_getD_getElem?,wz.2 h']at h
        refine⟨by omega,hG e.on (by omega) ?_⟩;simp only[yt,xU hin,xk]at h⊢;exact h
      have step:∀(v:Value)(w2:World),Below w'.heap.size w' w2->G i w2 v->wpAny P .any ops Q fuel (listed.setIfInBounds i true) ((zaj a ops.toList vs 0).put o.dst v) w2:=by
        intro v w2 hb2 hg;rw[zf0 ops.toList a vs 0 i o v hnd (by rw[yF];exact ho),zR];refine ih _ _ _ (by simp[hsz]) (by have:=zfl hsz hlt hl';omega) (hb.trans (hb2.mono hb.size)) (λj hj hlj=>?_);by_cases hji:j=i
        ·subst hji;simpa[upd]using hg
        · have:upd vs i v j=vs j:=by simp[upd,hji]
          rw[this];refine hst j w' _ w2 (hG j hj ?_) hb2;simp only[yt,wu (Ne.symm hji)]at hlj⊢;exact hlj
      have run:zqv P Q ops a w G i o->o.wp P (zaj a ops.toList vs 0) w' (wpAny P .any ops Q fuel (listed.setIfInBounds i true)) Q:=by
        intro hsoft;have hwp:=hsoft (zaj a ops.toList vs 0) vs w' (λt h=>zbn _ _ _ _ _ h) (λt j ht h=>zbs _ _ _ _ _ _ hnd ht h) hb (λe he hbn=>(hdepG e he hbn).2);refine xO ?_ hwp;rintro a2 w2 ⟨v,rfl,hg,hb2⟩;exact step v w2 hb2 hg
      unfold wpOp;simp only[ho];unfold GdOp at hgop;cases hgd:o.guard with
      |none=>
        rw[hgd]at hgop;simp only[Region.wanted,hgd,yl];exact .inl (run hgop)
      |some p=>
        obtain⟨j,b⟩:=p;rw[hgd]at hgop;obtain⟨⟨oj,d,hoj,hd,hdlt⟩,hany,hcase⟩:=hgop;rw[Array.any_eq_true']at hany;obtain⟨e,he,hej⟩:=hany;rw[yk,zK]at hej;obtain⟨rfl,hbn⟩:=hej;have hgj:=(hdepG e he hbn).2;have hix:zcj ops.toList 0 d=some e.on:=by
          have:=zmc ops.toList 0 e.on oj d hnd (by rw[yF];exact hoj) hd;simpa using this
        have hev:=zbs ops.toList a vs 0 d e.on hnd hdlt hix;have hy:∀c,vs e.on=.bool c->yielded ops (zaj a ops.toList vs 0).tmps e.on=some c:=by
          intro c hc;have h1:(zaj a ops.toList vs 0).tmps.getD d undef=.bool c:=by
            have h2:(zaj a ops.toList vs 0).eval (.tmp d)=(zaj a ops.toList vs 0).tmps.getD d undef:=rfl;rw[<-h2,hev];exact hc
          rw[yt]at h1;cases hx:(zaj a ops.toList vs 0).tmps[d]? with
          |none=>rw[hx]at h1;exact absurd h1 (by simp[undef])
          |some u=>
            rw[hx]at h1;simp only[xk]at h1;simp[yielded,hoj,hd,hx,h1]
        rcases hcase with⟨hv,hsoft⟩|⟨hv,hun⟩
        · have hyes:=hy b (hv _ _ hgj)
          simp only[Region.wanted,hgd,hyes,beq_self_eq_true,yl];exact .inl (run hsoft)
        · have hw0:Region.wanted o (yielded ops (zaj a ops.toList vs 0).tmps)=false:=by
            rcases hv _ _ hgj with hv|hv
            ·simp only[Region.wanted,hgd,hy (!b) hv];cases b<;>rfl
            · have h1:(zaj a ops.toList vs 0).tmps.getD d undef=undef:=by
                have h2:(zaj a ops.toList vs 0).eval (.tmp d)=(zaj a ops.toList vs 0).tmps.getD d undef:=rfl;rw[<-h2,hev];exact hv
              have h3:yielded ops (zaj a ops.toList vs 0).tmps e.on=none:=by
                rw[yt]at h1;cases hx:(zaj a ops.toList vs 0).tmps[d]? with
                |none=>simp[yielded,hoj,hd,hx]
                |some u=>
                  rw[hx]at h1;simp only[xk]at h1;subst h1;simp[yielded,hoj,hd,hx,undef]
              simp only[Region.wanted,hgd,h3];cases b<;>rfl
          simp only[hw0];exact step undef w' (ze _ _) (hun w')
  have h0:=main ops.size (Array.replicate ops.size false) (λi=>((ops[i]?).bind (·.dst)).elim undef (λd=>a.tmps.getD d undef)) {w with drawn:=w.drawn+1} (by simp)
    (by have:=wi (λi=>!(Array.replicate ops.size false).getD i true) (List.range ops.size);simpa[zc2]using this) ⟨rfl,rfl,rfl,zf _,λ_ _=>rfl⟩
    (λi hi h=>by simp[Array.getD_eq_getD_getElem?,hi]at h)
  rw[ze3 ops.toList a _ 0 (λj o d hj hd=>by
    rw[yF]at hj;simp[hj,hd])]at h0
  exact h0
theorem zez{id:Nat}{ops:Array Oper}{a:Act}{w:World}(hm:P.follows .mixedOrders=true)(hs:gdB ops=true)(Gs:List SG)(hop:zo7 P Q ops a w (λi=>(Gs.getD i sgAny).1) 0 ops.toList)
  (hend:∀(vs:Nat->Value)(w':World),Below w.heap.size w w'->(∀i,i<ops.size->(Gs.getD i sgAny).1 w' (vs i))->Q .normal (zaj a ops.toList vs 0) w'):(Code.region id ops true).wp P Q a w:=
 zlw hm hs (λi=>(Gs.getD i sgAny).1) (λi=>(Gs.getD i sgAny).2) hop hend
end
section
variable {P : Program} {T E S : TypeId} {o : Oper} {a : Act} {K : Act → World → Prop} {Q : Exit → Act → World → Prop} {w : World}
theorem zbv{t:TypeId}{x:Operand}{p:Addr}{v:Value}{k:IntKind}(ho:o.op=.load t x)(hx:a.eval x=.pointer (some p))(hu:P.underlying t=some (.int k))(hc:w.cell? p=some v)(h:K (a.put o.dst v) w):o.wp P a w K Q:=by
 refine zid ?_ h;simp only[execOp,ho,hx];simp[isAgg,zr hu,hc,go_sem]
theorem zae{t e:TypeId}{x:Operand}{p:Addr}{v:Value}(ho:o.op=.load t x)(hx:a.eval x=.pointer (some p))(hu:P.underlying t=some (.slice e))(hc:w.cell? p=some v)(h:K (a.put o.dst v) w):o.wp P a w K Q:=by
 refine zid ?_ h;simp only[execOp,ho,hx];simp[isAgg,zr hu,hc,go_sem]
theorem zbq{t t2:TypeId}{x y:Operand}{m n:Int}(ho:o.op=.binOp .add t x y t2)(hx:a.eval x=.int .i64 m)(hy:a.eval y=.int .i64 n)(h0:-9223372036854775808<=m+n)(h1:m+n<=9223372036854775807)(h:K (a.put o.dst (.int .i64 (m+n))) w):o.wp P a w K Q:=by
 refine zid (v:=.int .i64 (m+n)) ?_ h;simp only[execOp,ho,hx,hy];simp[binOp,go_sem,IntWalk.i64_in _ ⟨h0,h1⟩]
theorem zdp{t e:TypeId}{x:Operand}{ad:Option Addr}{n c:Nat}(ho:o.op=.call {callee:=.builtin .len,args:=#[x],argTypes:=#[t]})(hu:P.underlying t=some (.slice e))(hx:a.eval x=.slice ad n c)(h:K (a.put o.dst (.int .i64 n)) w):o.wp P a w K Q:=by
 refine zid (v:=.int .i64 n) ?_ h;simp only[execOp,ho,resolve,invoke,builtin,zZ,yb,ye,zE,zn,zo,hx];simp[Builtin.len_,zr hu,goInt]
theorem zjp{x:Operand}{i:Nat}{vs:Array Value}{v:Value}(ho:o.op=.extract x i)(hx:a.eval x=.tuple vs)(hv:vs[i]?=some v)(h:K (a.put o.dst v) w):o.wp P a w K Q:=by
 refine zid (v:=v) ?_ h;simp only[execOp,ho,hx];simp[Instr.extract,hv]
end
theorem wf_u8{n:Int}(h:(Lit.int .u8 n).wf=true):0<=n/\n<256:=by
 simp[Lit.wf,IntKind.min,IntKind.max,IntKind.signed,IntKind.bits]at h;omega
theorem wf_u16{n:Int}(h:(Lit.int .u16 n).wf=true):0<=n/\n<65536:=by
 simp[Lit.wf,IntKind.min,IntKind.max,IntKind.signed,IntKind.bits]at h;omega
theorem wf_u32{n:Int}(h:(Lit.int .u32 n).wf=true):0<=n/\n<4294967296:=by
 simp[Lit.wf,IntKind.min,IntKind.max,IntKind.signed,IntKind.bits]at h;omega
def NotU8 (v:Value):Prop:=∀i,v≠.int .u8 i
def IsBox (w:World)(t:TypeId)(b:Nat):Prop:=∃x y,w.heap[b]?=some (.cells #[x,y] t (0,0))/\NotU8 x/\NotU8 y
def BoxK (ok:Nat->Prop)(t:TypeId)(A B:World):Prop:=A=B\/∃b,ok b/\A.grownBy B (some b)/\IsBox A t b/\IsBox B t b
abbrev SGk (ok:Nat->Prop)(t:TypeId):={G:World->Value->Prop//(∀w v w',G w v->Below w.heap.size w w'->G w' v)/\(∀w v w',G w v->BoxK ok t w w'->G w' v)}
section
variable {ok : Nat → Prop} {t : TypeId}
def kAny:SGk ok t:=⟨λ_ _=>True,λ_ _ _ h _=>h,λ_ _ _ h _=>h⟩
end
section
variable {P : Program} {Q : Exit → Act → World → Prop}
def kk (ok:Nat->Prop)(t:TypeId)(m:Nat)(i:Nat)(A B:World):Prop:=if i=m then BoxK ok t A B else Below A.heap.size A B
def gk{ok:Nat->Prop}{t:TypeId}(Gs:List (SGk ok t))(m:Nat)(Gm:SG)(i:Nat):World->Value->Prop:=if i=m then Gm.1 else(Gs.getD i kAny).1
end
section
variable {P : Program} {t : TypeId} {x0 y0 : Value} {o : Oper} {a : Act} {K : Act → World → Prop} {Q : Exit → Act → World → Prop} {w : World}
theorem zd6{ty:TypeId}{n:Nat}(h:(P.info? ty).map (·.size)=some n)(w:World):(sizeOf ty).run P w=.ok n w:=by
 cases hi:P.info? ty with
 |none=>simp[hi]at h
 |some i=>simp[hi]at h;simp[sizeOf,typeInfo,hi,h]
theorem zfg{w2:World}(hrun:(execOp a.eval o).run P w=.ok .skip w2)(h:K (a.put o.dst undef) w2):o.wp P a w K Q:=by
 unfold Oper.wp;rw[hrun];exact h
end
theorem zpg (W:World)(p:Addr)(z:Value):(W.setCell p z).heap.size=W.heap.size:=by simp[World.setCell]
section
variable {P : Program} {o : Oper} {a : Act} {K : Act → World → Prop} {Q : Exit → Act → World → Prop} {w : World}
theorem zcc{x:Operand}{p:Addr}(ho:o.op=.nilCheck x)(hx:a.eval x=.pointer (some p))(h:K (a.put o.dst (.pointer (some p))) w):o.wp P a w K Q:=by
 refine zid ?_ h;simp only[execOp,ho,hx];simp[go_sem]
end
theorem zbg{A B C:World}{r:Option Nat}(h:A.grownBy B r)(k:B.grownBy C r):A.grownBy C r:=
 ⟨k.os.trans h.os,k.tape.trans h.tape,k.output.trans h.output,zv h.size k.size,λi hi hn=>(k.block i (zm hi h.size) hn).trans (h.block i hi hn)⟩
theorem za4{A B:World}(h:Below A.heap.size A B)(r:Option Nat):A.grownBy B r:=⟨h.os,h.tape,h.output,h.size,λk hk _=>h.block k hk⟩
theorem zb0{A B:World}{n:Nat}(h:Below n A B)(hn:n=A.heap.size)(r:Option Nat):A.grownBy B r:=by subst hn;exact za4 h r
def zuj(ops:Array Oper)(j i:Nat):Bool:=(ops[j]?).any λo=>o.after.any λe=>e.on==i&&Region.binds .any e
theorem zm8{ops:Array Oper}{j i:Nat}(h:zuj ops j i=true):∃o,ops[j]?=some o/\∃e∈o.after,e.on=i/\Region.binds .any e=true:=by
 unfold zuj at h;cases ho:ops[j]? with
 |none=>rw[ho]at h;simp at h
 |some o=>
  rw[ho]at h;simp only[Option.any_some,Array.any_eq_true',yk,zK]at h;exact⟨o,rfl,h⟩
def incB:List Nat->Bool
 |[]=>true
 |[_]=>true
 |c::d::r=>decide (c<d)&&incB (d::r)
theorem zqh:∀{r:List Nat}{c q d:Nat},incB (c::r)=true->r[q]?=some d->c<d
 |[],_,_,_,_,h=>by simp at h
 |x::r,c,0,d,h,h2=>by
  simp only[incB,yk,yP]at h;obtain rfl:x=d:=by simpa using h2
  exact h.1
 |x::r,c,q+1,d,h,h2=>by
  simp only[incB,yk,yP]at h;exact Nat.lt_trans h.1 (zqh h.2 (by simpa using h2))
theorem zuh:∀{l:List Nat}{p q c d:Nat},incB l=true->l[p]?=some c->l[q]?=some d->p<q->c<d
 |[],_,_,_,_,_,h,_,_=>by simp at h
 |x::r,0,q+1,c,d,h,h1,h2,_=>by
  obtain rfl:x=c:=by simpa using h1
  exact zqh h (by simpa using h2)
 |x::r,p+1,q+1,c,d,h,h1,h2,h3=>by
  have h':incB r=true:=by
   cases r with
   |nil=>rfl
   |cons y r=>simp only[incB,yk]at h;exact h.2
  exact zuh h' (by simpa using h1) (by simpa using h2) (by omega)
 |_,_,0,_,_,_,_,_,h=>absurd h (yH _)
theorem inc_ix{l:List Nat}{p q c:Nat}(h:incB l=true)(h1:l[p]?=some c)(h2:l[q]?=some c):p=q:=by
 rcases Nat.lt_trichotomy p q with h3|h3|h3
 ·exact absurd (zuh h h1 h2 h3) (xg _)
 ·exact h3
 ·exact absurd (zuh h h2 h1 h3) (xg _)
def zom(ops:Array Oper)(ch:List Nat):Bool:=
 (ch.all λc=>decide (c<ops.size))&&incB ch&&(List.range ch.length).all λp=>p==0||zuj ops (ch.getD p 0) (ch.getD (p-1) 0)
theorem zol{ops:Array Oper}{ch:List Nat}(h:zom ops ch=true){p c:Nat}(hp:ch[p]?=some c):c<ops.size:=by
 simp only[zom,yk,xr,yP]at h;exact h.1.1 c (xq hp)
theorem zr2{ops:Array Oper}{ch:List Nat}(h:zom ops ch=true){p c d:Nat}(hp:ch[p+1]?=some d)(hc:ch[p]?=some c):zuj ops d c=true:=by
 simp only[zom,yk,xr,yY,wj,zK]at h;have:=(h.2 (p+1) (yI.1 hp).1).resolve_left (by omega);rwa[yu,hp,yu,xt,hc]at this
section
variable {P : Program} {Q : Exit → Act → World → Prop}
def LineOp (P:Program)(Q:Exit->Act->World->Prop)(ops:Array Oper)(a:Act)(ch:List Nat)(G:Nat->World->Value->Prop)(J:List Value->World->Prop)(K:World->World->Prop)(p:Nat)(o:Oper):Prop:=
 ∀(A:Act)(vs:Nat->Value)(w':World),(∀t,zcj ops.toList 0 t=none->A.eval (.tmp t)=a.eval (.tmp t))->(∀t j,t<a.tmps.size->zcj ops.toList 0 t=some j->A.eval (.tmp t)=vs j)->J ((ch.take p).map vs) w'->(∀q j d,p<=q->ch[q]?=some j->(ops[j]?).bind (·.dst)=some d->vs j=a.eval (.tmp d))->(∀e∈o.after,Region.binds .any e=true->ch.contains e.on=false->G e.on w' (vs e.on))->
  o.wp P A w' (λa2 w2=>∃v,a2=A.put o.dst v/\J ((ch.take p).map vs++[v]) w2/\K w' w2) Q
def SideOp (P:Program)(Q:Exit->Act->World->Prop)(ops:Array Oper)(a:Act)(ch:List Nat)(G:Nat->World->Value->Prop)(J:List Value->World->Prop)(i:Nat)(o:Oper):Prop:=
 ∀(A:Act)(vs:Nat->Value)(w':World)(k:Nat),(∀t,zcj ops.toList 0 t=none->A.eval (.tmp t)=a.eval (.tmp t))->(∀t j,t<a.tmps.size->zcj ops.toList 0 t=some j->A.eval (.tmp t)=vs j)->k<=ch.length->J ((ch.take k).map vs) w'->(∀p c,ch[p]?=some c->zuj ops c i=true->k<=p)->(∀q j d,k<=q->ch[q]?=some j->(ops[j]?).bind (·.dst)=some d->vs j=a.eval (.tmp d))->
  (∀e∈o.after,Region.binds .any e=true->∀p,ch[p]?=some e.on->p<k)->(∀e∈o.after,Region.binds .any e=true->ch.contains e.on=false->G e.on w' (vs e.on))->
  o.wp P A w' (λa2 w2=>∃v,a2=A.put o.dst v/\G i w2 v/\Below w'.heap.size w' w2) Q
def LnOp(P:Program)(Q:Exit->Act->World->Prop)(ops:Array Oper)(a:Act)(ch:List Nat)(G:Nat->World->Value->Prop)(J:List Value->World->Prop)(K:World->World->Prop)(i:Nat)(o:Oper):Prop:=
 o.guard=none/\((∃p,ch[p]?=some i/\LineOp P Q ops a ch G J K p o)\/(ch.contains i=false/\SideOp P Q ops a ch G J i o))
theorem LnOp.line{ops:Array Oper}{a:Act}{ch:List Nat}{G:Nat->World->Value->Prop}{J:List Value->World->Prop}{K:World->World->Prop}{i:Nat}{o:Oper}(p:Nat)(hg:o.guard=none)(hp:ch[p]?=some i)(h:LineOp P Q ops a ch G J K p o):LnOp P Q ops a ch G J K i o:=⟨hg,.inl ⟨p,hp,h⟩⟩
theorem LnOp.side{ops:Array Oper}{a:Act}{ch:List Nat}{G:Nat->World->Value->Prop}{J:List Value->World->Prop}{K:World->World->Prop}{i:Nat}{o:Oper}(hg:o.guard=none)(hp:ch.contains i=false)(h:SideOp P Q ops a ch G J i o):LnOp P Q ops a ch G J K i o:=⟨hg,.inr ⟨hp,h⟩⟩
def zo5 (P:Program)(Q:Exit->Act->World->Prop)(ops:Array Oper)(a:Act)(ch:List Nat)(G:Nat->World->Value->Prop)(J:List Value->World->Prop)(K:World->World->Prop):Nat->List Oper->Prop
 |_,[]=>True
 |i,o::rest=>LnOp P Q ops a ch G J K i o/\zo5 P Q ops a ch G J K (i+1) rest
theorem zo5.get{ops:Array Oper}{a:Act}{ch:List Nat}{G:Nat->World->Value->Prop}{J:List Value->World->Prop}{K:World->World->Prop}:∀(l:List Oper)(k j:Nat)(o:Oper),zo5 P Q ops a ch G J K k l->l[j]?=some o->LnOp P Q ops a ch G J K (k+j) o
  |[],_,_,_,_,h=>by simp at h
  | o' :: rest, k, 0, o, h, hj => by obtain rfl:o'=o:=by simpa using hj
                                     exact h.1
  |o'::rest,k,j+1,o,h,hj=>by rw[show k+(j+1)=k+1+j by omega];exact zo5.get rest (k+1) j o h.2 (by simpa using hj)
theorem zi6{l:List Nat}{vs:Nat->Value}{i:Nat}{v:Value}(h:i∉l):l.map (upd vs i v)=l.map vs:=by
 refine wB λj hj=>?_
 have:j≠i:=λe=>h (by rw[<-e];exact hj)
 simp[upd,this]
theorem zjo{id:Nat}{ops:Array Oper}{a:Act}{w:World}(hm:P.follows .mixedOrders=true)(hs:gdB ops=true)(ch:List Nat)(hch:zom ops ch=true)(G:Nat->World->Value->Prop)(J:List Value->World->Prop)(K:World->World->Prop)(hG:∀i w v w',G i w v->Below w.heap.size w w'->G i w' v)(hK:∀i w v w',G i w v->K w w'->G i w' v)(hJ:∀l w w',J l w->Below w.heap.size w w'->J l w')(h0:J [] w)
    (hop:zo5 P Q ops a ch G J K 0 ops.toList)
    (hend:∀(vs:Nat->Value)(w':World),J (ch.map vs) w'->(∀i,i<ops.size->ch.contains i=false->G i w' (vs i))->Q .normal (zaj a ops.toList vs 0) w'):(Code.region id ops true).wp P Q a w:=by
  refine wp_region_any hm ?_;have hnd:(ops.toList.filterMap (·.dst)).Nodup:=by simp only[gdB,zpf,yk,yP]at hs;exact hs.2
  have hinc:incB ch=true:=by simp only[zom,yk]at hch;exact hch.1.2
  have main:∀(fuel:Nat)(listed:Array Bool)(vs:Nat->Value)(w':World)(k:Nat),listed.size=ops.size->(zc2 ops.size listed).length<=fuel->k<=ch.length->(∀p c,ch[p]?=some c->(listed.getD c true=true↔p<k))->J ((ch.take k).map vs) w'->(∀i,i<ops.size->listed.getD i true=true->ch.contains i=false->G i w' (vs i))->(∀i o,ops[i]?=some o->listed.getD i true=true->∀e∈o.after,Region.binds .any e=true->e.on<ops.size/\listed.getD e.on true=true)->(∀j,j<ops.size->listed.getD j true=false->∀d,(ops[j]?).bind (·.dst)=some d->vs j=a.eval (.tmp d))->wpAny P .any ops Q fuel listed (zaj a ops.toList vs 0) w':=by
    intro fuel;have fin:∀(listed:Array Bool)(vs:Nat->Value)(w':World)(k:Nat),k<=ch.length->(∀p c,ch[p]?=some c->(listed.getD c true=true↔p<k))->J ((ch.take k).map vs) w'->(∀i,i<ops.size->listed.getD i true=true->ch.contains i=false->G i w' (vs i))->(∀i,i<ops.size->listed.getD i true=true)->Q .normal (zaj a ops.toList vs 0) w':=by
      intro listed vs w' k hk hlk hJ' hG' hall;have:k=ch.length:=by
        rcases zA k ch.length with h|h
        · have h1:=zB h
          have h2:=(hlk k _ h1).1 (hall _ (zol hch h1));omega
        ·omega
      subst this;rw[yv]at hJ';exact hend vs w' hJ' λi hi hc=>hG' i hi (hall i hi) hc
    induction fuel with
    |zero=>
      intro listed vs w' k hsz hu hk hlk hJ' hG' hcl hun;have hall:∀i,i<ops.size->listed.getD i true=true:=by
        intro i hi;cases hl:listed.getD i true with
        |true=>rfl
        |false=>
          have:i∈zc2 ops.size listed:=xT.2 ⟨yY.2 hi,by simp[hl]⟩;rw[yg (Nat.le_zero.1 hu)]at this;cases this
      refine⟨?_,fin listed vs w' k hk hlk hJ' hG' hall⟩;unfold Region.ready;rw[wU];intro i hi;simp[hall i (List.mem_range.1 hi)]
    |succ fuel ih=>
      intro listed vs w' k hsz hu hk hlk hJ' hG' hcl hun;refine⟨λhr=>fin listed vs w' k hk hlk hJ' hG' (λi hi=>zfa hs hr i hi),λi hi=>?_⟩;unfold Region.ready at hi;obtain⟨hi1,hi2⟩:=xT.1 hi;have hlt:=yY.1 hi1;rw[yk]at hi2;obtain⟨hl,hdep⟩:=hi2;have hl':listed.getD i true=false:=by simpa using hl
      obtain⟨o,ho⟩:∃o,ops[i]?=some o:=⟨_,xU hlt⟩;rw[ho]at hdep;simp only[xF,xk]at hdep;rw[ww]at hdep;have hgop:=zo5.get ops.toList 0 i o hop (by rw[yF];exact ho);rw[zR]at hgop;have hdepG:∀e∈o.after,Region.binds .any e=true->e.on<ops.size/\listed.getD e.on true=true:=by
        intro e he hbn;have h:=hdep e he;rw[hbn]at h;simp only[Bool.not_true,Bool.false_or]at h;have hin:e.on<listed.size:=by
          rcases zA e.on listed.size with h'|h'
          ·exact h'
          ·simp[Array.getD_eq_getD_getElem?,wz.2 h']at h
        have hl2:listed.getD e.on true=true:=by
          simp only[yt,xU hin,xk]at h⊢;exact h
        exact⟨by omega,hl2⟩
      have hdepS:∀e∈o.after,Region.binds .any e=true->ch.contains e.on=false->G e.on w' (vs e.on):=λe he hbn hc=>hG' e.on (hdepG e he hbn).1 (hdepG e he hbn).2 hc
      have hlate:∀q j d,k<=q->ch[q]?=some j->(ops[j]?).bind (·.dst)=some d->vs j=a.eval (.tmp d):=by
        intro q j d hq hj hd;refine hun j (zol hch hj) ?_ d hd;cases hlj:listed.getD j true with
        |false=>rfl
        |true=>have:=(hlk q j hj).1 hlj;omega
      have step:∀(v:Value)(w2:World)(k2:Nat),k2<=ch.length->(∀p c,ch[p]?=some c->((c=i\/p<k)↔p<k2))->J ((ch.take k2).map (upd vs i v)) w2->(ch.contains i=false->G i w2 v)->(∀j u,ch.contains j=false->G j w' u->G j w2 u)->wpAny P .any ops Q fuel (listed.setIfInBounds i true) ((zaj a ops.toList vs 0).put o.dst v) w2:=by
        intro v w2 k2 hk2 hlk2 hJ2 hGi hGs;rw[zf0 ops.toList a vs 0 i o v hnd (by rw[yF];exact ho),zR];have hset:∀j,(listed.setIfInBounds i true).getD j true=true↔j=i\/listed.getD j true=true:=λj=>by
          by_cases hji:j=i
          · subst hji
            simp[Array.getD_eq_getD_getElem?,Array.getElem?_setIfInBounds_self_of_lt (by omega:j<listed.size)]
          ·simp[Array.getD_eq_getD_getElem?,Array.getElem?_setIfInBounds_ne (Ne.symm hji),hji]
        refine ih _ _ _ k2 (by simp[hsz]) (by have:=zfl hsz hlt hl';omega) hk2 (λp c hp=>?_) hJ2 (λj hj hlj hc=>?_) (λj oj hoj hlj e he hbn=>?_) (λj hj hlj d hd=>?_)
        ·rw[hset,<-hlk2 p c hp,hlk p c hp]
        · by_cases hji:j=i
          · subst hji
            simpa[upd]using hGi hc
          · have hlj':=((hset j).1 hlj).resolve_left hji
            have hv:upd vs i v j=vs j:=by simp[upd,hji]
            rw[hv];exact hGs j _ hc (hG' j hj hlj' hc)
        · by_cases hji:j=i
          · subst hji
            obtain rfl:o=oj:=by rw[ho]at hoj;injection hoj
            have:=hdepG e he hbn;exact⟨this.1,(hset _).2 (.inr this.2)⟩
          · have hlj':=((hset j).1 hlj).resolve_left hji
            have:=hcl j oj hoj hlj' e he hbn;exact⟨this.1,(hset _).2 (.inr this.2)⟩
        · have hji:j≠i:=λe=>by
            have:=(hset j).2 (.inl e);rw[hlj]at this;cases this
          have hv:upd vs i v j=vs j:=by simp[upd,hji]
          rw[hv];refine hun j hj ?_ d hd;cases h:listed.getD j true with
          |false=>rfl
          |true=>have:=(hset j).2 (.inr h);rw[hlj]at this;cases this
      unfold wpOp;simp only[ho,Region.wanted,hgop.1,yl];left;rcases hgop.2 with⟨p,hp,hln⟩|⟨hc,hsd⟩
      · have hkp:k=p:=by
          have h1:¬p<k:=λh=>by have:=(hlk p i hp).2 h;rw[hl']at this;cases this
          cases p with
          |zero=>omega
          |succ p=>
            obtain⟨c,hcp⟩:∃c,ch[p]?=some c:=⟨_,zB (by have:=(yI.1 hp).1;omega)⟩;obtain⟨o2,ho2,e,he,rfl,hbn⟩:=zm8 (zr2 hch hp hcp);obtain rfl:o=o2:=by rw[ho]at ho2;injection ho2
            have:=(hlk p _ hcp).1 (hdepG e he hbn).2;omega
        subst hkp;have hkl:=(yI.1 hp).1;have hwp:=hln (zaj a ops.toList vs 0) vs w' (λt h=>zbn _ _ _ _ _ h) (λt j ht h=>zbs _ _ _ _ _ _ hnd ht h) hJ' hlate hdepS;refine xO ?_ hwp;rintro a2 w2 ⟨v,rfl,hJ2,hK2⟩;refine step v w2 (k+1) hkl (λp c hpc=>?_) ?_ (λhc=>?_) (λj u _ hg=>hK j w' u w2 hg hK2)
        · constructor
          · rintro(rfl|h)
            · have:=inc_ix hinc hpc hp;omega
            ·omega
          · intro h
            by_cases h3:p=k
            · subst h3
              rw[hp]at hpc;injection hpc with hpc;exact .inl hpc.symm
            ·exact .inr (by omega)
        · have e1:ch.take (k+1)=ch.take k++[i]:=by
            rw[yT,hp];rfl
          have e2:i∉ch.take k:=λhmem=>by
            obtain⟨q,hq⟩:=List.mem_iff_getElem?.1 hmem;rw[xG]at hq;split at hq
            · have:=inc_ix hinc hq hp;omega
            ·cases hq
          rw[e1,yW,zi6 e2];simpa[upd]using hJ2
        · rw[List.contains_iff_mem.2 (xq hp)]at hc
          cases hc
      · have hci:i∉ch:=λh=>by rw[List.contains_iff_mem.2 h]at hc;cases hc
        have hwp:=hsd (zaj a ops.toList vs 0) vs w' k (λt h=>zbn _ _ _ _ _ h) (λt j ht h=>zbs _ _ _ _ _ _ hnd ht h) hk hJ' (λp c hpc hh=>?_) hlate (λe he hbn p hp=>(hlk p e.on hp).1 (hdepG e he hbn).2) hdepS
        · refine xO ?_ hwp
          rintro a2 w2⟨v,rfl,hg,hb2⟩;refine step v w2 k hk (λp c hpc=>⟨λh=>?_,.inr⟩) ?_ (λ_=>hg) (λj u _ hgj=>hG j w' u w2 hgj hb2)
          · rcases h with rfl|h
            ·exact absurd (xq hpc) hci
            ·exact h
          · rw[zi6 (λhmem=>hci (y7 hmem))]
            exact hJ _ _ _ hJ' hb2
        · rcases zA p k with h|h
          · exfalso
            obtain⟨o2,ho2,e,he,hei,hbn⟩:=zm8 hh;have:=(hcl c o2 ho2 ((hlk p c hpc).2 h) e he hbn).2;rw[hei,hl']at this;cases this
          ·exact h
  have hbz:Below w.heap.size w {w with drawn:=w.drawn+1}:=⟨rfl,rfl,rfl,zf _,λ_ _=>rfl⟩;have h1:=main ops.size (Array.replicate ops.size false) (λi=>((ops[i]?).bind (·.dst)).elim undef (λd=>a.tmps.getD d undef)) {w with drawn:=w.drawn+1} 0 (by simp)
    (by have:=wi (λi=>!(Array.replicate ops.size false).getD i true) (List.range ops.size);simpa[zc2]using this) (zH _)
    (λp c hp=>by have:=zol hch hp;simp[Array.getD_eq_getD_getElem?,this]) (hJ _ _ _ h0 hbz)
    (λi hi h=>by simp[Array.getD_eq_getD_getElem?,hi]at h) (λi o ho h=>by
      have:i<ops.size:=(zJ.1 ho).1;simp[Array.getD_eq_getD_getElem?,this]at h)
    (λj hj _ d hd=>by simp only[hd,Option.elim];rfl)
  rw[ze3 ops.toList a _ 0 (λj o d hj hd=>by
    rw[yF]at hj;simp[hj,hd])]at h1
  exact h1
end
abbrev SGn(K:World->World->Prop):={G:World->Value->Prop//(∀w v w',G w v->Below w.heap.size w w'->G w' v)/\(∀w v w',G w v->K w w'->G w' v)}
section
variable {K : World → World → Prop}
def lEq(u:Value):SGn K:=⟨λ_ v=>v=u,λ_ _ _ h _=>h,λ_ _ _ h _=>h⟩
def lAny:SGn K:=⟨λ_ _=>True,λ_ _ _ h _=>h,λ_ _ _ h _=>h⟩
variable {P : Program} {Q : Exit → Act → World → Prop}
theorem zai{id:Nat}{ops:Array Oper}{a:Act}{w:World}(hm:P.follows .mixedOrders=true) (hs:gdB ops=true) (ch:List Nat) (hch:zom ops ch=true) (Gs:List (SGn K)) (J:List Value->World->Prop)(hJ:∀l w w',J l w->Below w.heap.size w w'->J l w')(h0:J [] w)
  (hop:zo5 P Q ops a ch (λi=>(Gs.getD i lAny).1) J K 0 ops.toList)
  (hend:∀(vs:Nat->Value)(w':World),J (ch.map vs) w'->(∀i,i<ops.size->ch.contains i=false->(Gs.getD i lAny).1 w' (vs i))->Q .normal (zaj a ops.toList vs 0) w'):(Code.region id ops true).wp P Q a w:=
 zjo hm hs ch hch (λi=>(Gs.getD i lAny).1) J K (λi=>(Gs.getD i lAny).2.1) (λi=>(Gs.getD i lAny).2.2) hJ h0 hop hend
end
def RdS(S:Nat->Prop)(w:World)(v:Value)(xs:List UInt8):Prop:=
 (∃a c,v=.slice a 0 c/\c<=maxLen/\xs=[])\/
 ∃b off cap,v=.slice (some ⟨b,off,none⟩) xs.length cap/\S b/\xs.length<=cap/\cap<=maxLen/\∀j u,(bv xs)[j]?=some u->w.cell? ⟨b,off+j,none⟩=some u
theorem Rd.s{B:Nat}{w:World}{v:Value}{xs:List UInt8}(h:Rd B w v xs):RdS (·<B) w v xs:=h
theorem zag{w w':World}{b:Nat}(h:w'.heap[b]?=w.heap[b]?)(o:Nat):w'.cell? ⟨b,o,none⟩=w.cell? ⟨b,o,none⟩:=by simp[World.cell?,h]
theorem zad{w:World}{b o:Nat}{u:Value}(h:w.cell? ⟨b,o,none⟩=some u):b<w.heap.size:=wA w _ h
section
variable {S S' : Nat → Prop} {w w' : World} {v : Value} {xs : List UInt8}
theorem RdS.keep (h:RdS S w v xs)(hk:∀k,S k->w'.heap[k]?=w.heap[k]?):RdS S w' v xs:=by
 rcases h with h|⟨b,off,cap,hv,hb,h1,h2,hc⟩
 ·exact .inl h
 ·exact .inr ⟨b,off,cap,hv,hb,h1,h2,λj u hj=>(zag (hk b hb) _).trans (hc j u hj)⟩
theorem RdS.weak(h:RdS S w v xs)(hs:∀k,S k->S' k):RdS S' w v xs:=by
 rcases h with h|⟨b,off,cap,hv,hb,h1,h2,hc⟩
 ·exact .inl h
 ·exact .inr ⟨b,off,cap,hv,hs b hb,h1,h2,hc⟩
theorem RdS.fit (h:RdS S w v xs):RdS (λk=>S k/\k<w.heap.size) w v xs:=by
  rcases h with h|⟨b,off,cap,hv,hb,h1,h2,hc⟩
  ·exact .inl h
  · by_cases h0:xs=[]
    · subst h0;exact .inl ⟨_,_,hv,h2,rfl⟩
    · have hpos:0<xs.length:=xV.2 h0
      exact .inr ⟨b,off,cap,hv,⟨hb,zad (hc 0 _ (bv_get xs 0 hpos))⟩,h1,h2,hc⟩
theorem RdS.rd(h:RdS S w v xs):Rd w.heap.size w v xs:=h.fit.weak (λ_ h=>h.2)
theorem RdS.shape (h:RdS S w v xs):∃a c,v=.slice a xs.length c/\xs.length<=c/\c<=maxLen:=by
 rcases h with⟨a,c,rfl,hm,rfl⟩|⟨b,off,cap,rfl,_,h1,h2,_⟩
 ·exact⟨a,c,rfl,zH _,hm⟩
 ·exact⟨_,_,rfl,h1,h2⟩
theorem RdS.len{a:Option Addr}{n c:Nat}(h:RdS S w (.slice a n c) xs):n=xs.length/\n<=c/\c<=maxLen:=by
 obtain⟨_,_,e,h1,h2⟩:=h.shape;cases e;exact⟨rfl,h1,h2⟩
theorem RdS.below (h:RdS S w v xs)(hb:Below w.heap.size w w'):RdS S w' v xs:=
 (h.fit.keep λk hk=>hb.block k hk.2).weak (λ_ h=>h.1)
theorem RdS.one(h:RdS S w v xs):v.oneCell'=true:=by
 obtain⟨_,_,rfl,_⟩:=h.shape;rfl
theorem RdS.nil(S:Nat->Prop)(w:World):RdS S w (.slice none 0 0) []:=.inl ⟨none,0,rfl,by unfold maxLen;omega,rfl⟩
theorem Own.rdS{E:TypeId}{base:Nat}(h:Own E base w v xs):RdS (λk=>base<=k/\k<w.heap.size) w v xs:=by
  obtain⟨n,h⟩:=h;have hr:=Own.rd ⟨n,h⟩;rcases h.2 with⟨rfl,h0⟩|⟨g,cap,cur,rfl,hb,hg,hn,hc,hcs,ht⟩
  · obtain rfl:=own_n h
    exact .inl ⟨none,0,rfl,by unfold maxLen;omega,yg h0⟩
  · rcases hr with h|⟨b,off,cap',hv,hb',h1,h2,h3⟩
    ·exact .inl h
    · cases hv
      exact .inr ⟨_,_,_,rfl,⟨hb,hb'⟩,h1,h2,h3⟩
end
structure Elt (α:Type) where
 size:Nat
 pos:0<size
 R:(Nat->Prop)->World->α->List Value->Prop
 len:∀{S w x vs},R S w x vs->vs.length=size
 keep:∀{S w w' x vs},R S w x vs->(∀k,S k->w'.heap[k]?=w.heap[k]?)->R S w' x vs
 weak:∀{S S' w x vs},R S w x vs->(∀k,S k->S' k)->R S' w x vs
 fit:∀{S w x vs},R S w x vs->R (λk=>S k/\k<w.heap.size) w x vs
 one:∀{S w x vs},R S w x vs->∀u∈vs,u.oneCell'=true
section
variable {α : Type} {E : Elt α} {S S' : Nat → Prop} {w w' : World} {v : Value} {xs : List α}
theorem Elt.below{x:α}{vs:List Value}(h:E.R S w x vs)(hb:Below w.heap.size w w'):E.R S w' x vs:=
 E.weak (E.keep (E.fit h) λk hk=>hb.block k hk.2) (λ_ h=>h.1)
def RdL(E:Elt α)(S:Nat->Prop)(w:World)(v:Value)(xs:List α):Prop:=
 ∃a cap,v=.slice a xs.length cap/\xs.length<=cap/\cap<=maxLen/\(xs=[]\/∃b off,a=some ⟨b,off,none⟩/\S b/\∀r(h:r<xs.length),∃vs,E.R S w xs[r] vs/\∀j u,vs[j]?=some u->w.cell? ⟨b,off+r*E.size+j,none⟩=some u)
theorem RdL.nil (E:Elt α)(S:Nat->Prop)(w:World):RdL E S w (.slice none 0 0) []:=⟨none,0,rfl,zf _,by unfold maxLen;omega,.inl rfl⟩
theorem RdL.shape(h:RdL E S w v xs):∃a c,v=.slice a xs.length c/\xs.length<=c/\c<=maxLen:=let⟨a,c,h1,h2,h3,_⟩:=h;⟨a,c,h1,h2,h3⟩
theorem RdL.len{a:Option Addr}{n c:Nat}(h:RdL E S w (.slice a n c) xs):n=xs.length/\n<=c/\c<=maxLen:=by
 obtain⟨_,_,e,h1,h2⟩:=h.shape;cases e;exact⟨rfl,h1,h2⟩
theorem RdL.keep(h:RdL E S w v xs)(hk:∀k,S k->w'.heap[k]?=w.heap[k]?):RdL E S w' v xs:=by
 obtain⟨a,cap,h1,h2,h3,h4⟩:=h;refine⟨a,cap,h1,h2,h3,h4.imp id λ⟨b,off,e,hb,hr⟩=>⟨b,off,e,hb,λr h=>?_⟩⟩;obtain⟨vs,hR,hc⟩:=hr r h;exact⟨vs,E.keep hR hk,λj u hj=>(zag (hk b hb) _).trans (hc j u hj)⟩
theorem RdL.weak (h:RdL E S w v xs)(hs:∀k,S k->S' k):RdL E S' w v xs:=by
 obtain⟨a,cap,h1,h2,h3,h4⟩:=h;refine⟨a,cap,h1,h2,h3,h4.imp id λ⟨b,off,e,hb,hr⟩=>⟨b,off,e,hs b hb,λr h=>?_⟩⟩;obtain⟨vs,hR,hc⟩:=hr r h;exact⟨vs,E.weak hR hs,hc⟩
theorem RdL.fit (h:RdL E S w v xs):RdL E (λk=>S k/\k<w.heap.size) w v xs:=by
 obtain⟨a,cap,h1,h2,h3,h4⟩:=h;by_cases h0:xs=[]
 ·exact⟨a,cap,h1,h2,h3,.inl h0⟩
 obtain⟨b,off,e,hb,hr⟩:=h4.resolve_left h0;have hpos:0<xs.length:=xV.2 h0;have hlt:b<w.heap.size:=by
  obtain⟨vs,hR,hc⟩:=hr 0 hpos;have hl:=E.len hR;have hp:=E.pos;exact zad (hc 0 vs[0] (zB (by omega)))
 refine⟨a,cap,h1,h2,h3,.inr ⟨b,off,e,⟨hb,hlt⟩,λr h=>?_⟩⟩;obtain⟨vs,hR,hc⟩:=hr r h;exact⟨vs,E.fit hR,hc⟩
theorem RdL.below(h:RdL E S w v xs)(hb:Below w.heap.size w w'):RdL E S w' v xs:=(h.fit.keep λk hk=>hb.block k hk.2).weak (λ_ h=>h.1)
theorem RdL.at{a:Option Addr}{n c:Nat}(h:RdL E S w (.slice a n c) xs)(r:Nat)(hr:r<xs.length):∃b off vs,a=some ⟨b,off,none⟩/\S b/\E.R S w xs[r] vs/\∀j u,vs[j]?=some u->w.cell? ⟨b,off+r*E.size+j,none⟩=some u:=by
  obtain⟨a',cap,h1,h2,h3,h4⟩:=h;cases h1;rcases h4 with rfl|⟨b,off,e,hb,hq⟩
  ·exact absurd hr (yH _)
  · obtain⟨vs,hR,hc⟩:=hq r hr
    exact⟨b,off,vs,e,hb,hR,hc⟩
theorem RdL.part{a:Option Addr}{n c:Nat}(h:RdL E S w (.slice a n c) xs){l r:Nat}(hl:l<=r)(hr:r<=xs.length):RdL E S w (.slice (if c=l then a else a.map (·.add (l*E.size))) (r-l) (c-l)) ((xs.drop l).take (r-l)):=by
  obtain⟨a',cap,h1,h2,h3,h4⟩:=h;cases h1;have hlen:((xs.drop l).take (r-l)).length=r-l:=by simp;omega
  refine⟨_,_,by rw[hlen],by omega,by omega,?_⟩;by_cases h0:r=l
  ·exact .inl (by subst h0;simp)
  rcases h4 with rfl|⟨b,off,rfl,hb,hq⟩
  ·simp at hr;omega
  · refine .inr ⟨b,off+l*E.size,?_,hb,λi hi=>?_⟩
    · rw[zh (by omega)]
      simp[zN]
    · rw[hlen]at hi
      obtain⟨vs,hR,hc⟩:=hq (l+i) (by omega);refine⟨vs,by simpa using hR,λj u hj=>?_⟩;have:=hc j u hj;rw[show off+l*E.size+i*E.size+j=off+(l+i)*E.size+j by rw[zT];omega];exact this
end
def Elt.list{α:Type}(E:Elt α):Elt (List α)where
 size:=1;pos:=Nat.one_pos;R S w xs vs:=∃v,vs=[v]/\RdL E S w v xs;len:=by rintro _ _ _ _⟨_,rfl,_⟩;rfl
 keep:=by rintro _ _ _ _ _⟨v,rfl,h⟩ hk;exact⟨v,rfl,h.keep hk⟩
 weak:=by rintro _ _ _ _ _⟨v,rfl,h⟩ hk;exact⟨v,rfl,h.weak hk⟩
 fit:=by rintro _ _ _ _⟨v,rfl,h⟩;exact⟨v,rfl,h.fit⟩
 one:=by
  rintro _ _ _ _⟨v,rfl,h⟩ u hu;obtain rfl:u=v:=by simpa using hu
  obtain⟨_,_,rfl,_⟩:=h.shape;rfl
def Elt.bytes:Elt (List UInt8) where
 size:=1;pos:=Nat.one_pos;R S w xs vs:=∃v,vs=[v]/\RdS S w v xs;len:=by rintro _ _ _ _ ⟨_,rfl,_⟩;rfl
 keep:=by rintro _ _ _ _ _ ⟨v,rfl,h⟩hk;exact⟨v,rfl,h.keep hk⟩
 weak:=by rintro _ _ _ _ _ ⟨v,rfl,h⟩hk;exact⟨v,rfl,h.weak hk⟩
 fit:=by rintro _ _ _ _ ⟨v,rfl,h⟩;exact⟨v,rfl,h.fit⟩
 one:=by
  rintro _ _ _ _ ⟨v,rfl,h⟩u hu;obtain rfl:u=v:=by simpa using hu
  exact h.one
section
variable {α : Type} {E : Elt α} {P : Program} {T Te : TypeId} {ops : Array Oper} {rest : List Oper} {o : Oper} {a : Act} {Q : Exit → Act → World → Prop} {w : World} {K : Act → World → Prop}
structure LsP (P:Program)(T Te:TypeId)(n:Nat):Prop where
 hT:P.underlying T=some (.slice Te)
 hn:(P.info? Te).map (·.size)=some n
theorem LsP.info{n:Nat}(h:LsP P T Te n):∃i,P.info? Te=some i/\i.size=n:=by
 have:=h.hn;cases hi:P.info? Te with
 |none=>simp[hi]at this
 |some i=>simp[hi]at this;exact⟨i,rfl,this⟩
theorem zfy{n:Nat}(hP:LsP P T Te n){ad:Option Addr}{len c l r:Nat}{lo hi:Option Value}(hb:(Instr.sliceBounds true len c lo hi none).run P w=.ok (l,r,c) w):(Instr.sliceAt T (.slice ad len c) lo hi none).run P w=.ok (.slice (if c=l then ad else ad.map (·.add (l*n))) (r-l) (c-l)) w:=by
 obtain⟨i,hi',hsz⟩:=hP.info;simp[Instr.sliceAt,Instr.slice,zr hP.hT,hb,sizeOf,typeInfo,hi',hsz]
theorem ze1 (hP:LsP P T Te E.size){x:Operand}{lo hi:Option Operand}(ho:o.op=.slice T x lo hi none) (hgd:Region.wanted o (yielded ops a.tmps)=true){S:Nat->Prop}{ad:Option Addr}{n c:Nat}{xs:List α}(hx:a.eval x=.slice ad n c) (hr:RdL E S w (.slice ad n c) xs){l r:Nat}(hb:(Instr.sliceBounds true n c (lo.map a.eval) (hi.map a.eval) none).run P w=.ok (l,r,c) w)
  (h:∀ad' c',RdL E S w (.slice ad' (r-l) c') ((xs.drop l).take (r-l))->wpList P ops Q rest (a.put o.dst (.slice ad' (r-l) c')) w) (hl:l<=r) (hrn:r<=xs.length):wpList P ops Q (o::rest) a w:=by
 refine zQ hgd λK hK=>?_
 unfold Oper.wp execOp;simp only[ho,hx,Option.map_none,zZ,yb,ye,zfy hP hb];exact hK _ _ (h _ _ (hr.part hl hrn))
theorem zlv (hP:LsP P T Te E.size){x:Operand}{lo hi:Option Operand}(ho:o.op=.slice T x lo hi none){S:Nat->Prop}{ad:Option Addr}{n c:Nat}{xs:List α}(hx:a.eval x=.slice ad n c)(hr:RdL E S w (.slice ad n c) xs){l r:Nat}{lov hiv:Option Value}(hlo:lo.map a.eval=lov)(hhi:hi.map a.eval=hiv)(hb:(Instr.sliceBounds true n c lov hiv none).run P w=.ok (l,r,c) w)
  (h:∀ad' c',RdL E S w (.slice ad' (r-l) c') ((xs.drop l).take (r-l))->K (a.put o.dst (.slice ad' (r-l) c')) w)(hl:l<=r)(hrn:r<=xs.length):o.wp P a w K Q:=by
 subst hlo;subst hhi;unfold Oper.wp execOp;simp only[ho,hx,Option.map_none,zZ,yb,ye,zfy hP hb];exact h _ _ (hr.part hl hrn)
end
def Flat{α:Type}(E:Elt α)(S:Nat->Prop)(w:World):List α->List Value->Prop
 |[],vs=>vs=[]
 |x::xs,vs=>∃us ws,vs=us++ws/\E.R S w x us/\Flat E S w xs ws
section
variable {α : Type} {E : Elt α} {S S' : Nat → Prop} {w w' : World}
theorem Flat.len:∀{xs:List α}{vs:List Value},Flat E S w xs vs->vs.length=xs.length*E.size
 |[],_,h=>by cases h;simp
 |x::xs,_,⟨us,ws,rfl,h1,h2⟩=>by rw[zC,E.len h1,Flat.len h2,zI,zT];omega
theorem Flat.append:∀{xs ys:List α}{vs us:List Value},Flat E S w xs vs->Flat E S w ys us->Flat E S w (xs++ys) (vs++us)
 |[],_,_,_,h,k=>by cases h;exact k
 |x::xs,_,_,_,⟨us,ws,rfl,h1,h2⟩,k=>⟨us,_,by rw[zG],h1,Flat.append h2 k⟩
theorem Flat.keep:∀{xs:List α}{vs:List Value},Flat E S w xs vs->(∀k,S k->w'.heap[k]?=w.heap[k]?)->Flat E S w' xs vs
 |[],_,h,_=>h
 |_::_,_,⟨us,ws,e,h1,h2⟩,hk=>⟨us,ws,e,E.keep h1 hk,Flat.keep h2 hk⟩
theorem Flat.weak:∀{xs:List α}{vs:List Value},Flat E S w xs vs->(∀k,S k->S' k)->Flat E S' w xs vs
 |[],_,h,_=>h
 |_::_,_,⟨us,ws,e,h1,h2⟩,hk=>⟨us,ws,e,E.weak h1 hk,Flat.weak h2 hk⟩
theorem Flat.one:∀{xs:List α}{vs:List Value},Flat E S w xs vs->∀u∈vs,u.oneCell'=true
 |[],_,h=>by cases h;simp
 |_::_,_,⟨us,ws,e,h1,h2⟩=>by
  subst e;intro u hu;rcases zV.1 hu with hu|hu
  ·exact E.one h1 u hu
  ·exact Flat.one h2 u hu
theorem Flat.at:∀{xs:List α}{vs:List Value}(_:Flat E S w xs vs)(r:Nat)(hr:r<xs.length),∃us,E.R S w xs[r] us/\∀j u,us[j]?=some u->vs[r*E.size+j]?=some u
 |[],_,_,_,hr=>absurd hr (yH _)
 |x::xs,_,⟨us,ws,rfl,h1,h2⟩,0,_=>⟨us,h1,λj u hj=>by
   rw[xH,zR,xu (yI.1 hj).1];exact hj⟩
 |x::xs,_,⟨us,ws,rfl,h1,h2⟩,r+1,hr=>by
  obtain⟨us',h3,h4⟩:=Flat.at h2 r (by simpa using hr);refine⟨us',by simpa using h3,λj u hj=>?_⟩;have hl:=E.len h1;rw[show(r+1)*E.size+j=us.length+(r*E.size+j)by rw[hl,zT];omega,xw (Nat.le_add_right _ _),xW];exact h4 j u hj
theorem Flat.take:∀{xs:List α}{vs:List Value}(_:Flat E S w xs vs)(k:Nat),Flat E S w (xs.take k) (vs.take (k*E.size))
 |[],_,h,k=>by cases h;simp[Flat]
 |x::xs,_,⟨us,ws,rfl,h1,h2⟩,0=>by simp[Flat]
 |x::xs,_,⟨us,ws,rfl,h1,h2⟩,k+1=>by
  refine⟨us,ws.take (k*E.size),?_,h1,Flat.take h2 k⟩;have hl:=E.len h1;rw[show(k+1)*E.size=us.length+k*E.size by rw[hl,zT];omega,List.take_length_add_append]
theorem Flat.single{x:α}{us:List Value}(h:E.R S w x us):Flat E S w [x] us:=⟨us,[],by simp,h,rfl⟩
theorem zuq{b off:Nat}:∀(xs:List α)(k:Nat),(∀r(h:r<xs.length),∃vs,E.R S w xs[r] vs/\∀j u,vs[j]?=some u->w.cell? ⟨b,off+(k+r)*E.size+j,none⟩=some u)->∃vs,Flat E S w xs vs/\∀j u,vs[j]?=some u->w.cell? ⟨b,off+k*E.size+j,none⟩=some u
  |[],k,_=>⟨[],rfl,λj u h=>by simp at h⟩
  |x::xs,k,h=>by
    obtain⟨us,h1,h2⟩:=h 0 (by simp);obtain⟨ws,h3,h4⟩:=zuq xs (k+1) (λr hr=>by
      obtain⟨vs,h5,h6⟩:=h (r+1) (by simpa using hr);exact⟨vs,by simpa using h5,λj u hj=>by rw[show k+1+r=k+(r+1)by omega];exact h6 j u hj⟩)
    refine⟨us++ws,⟨us,ws,rfl,by simpa using h1,h3⟩,λj u hj=>?_⟩;have hl:=E.len h1;rcases zA j us.length with hlt|hge
    · rw[xu hlt]at hj
      exact h2 j u hj
    · rw[xw hge]at hj
      have:=h4 _ u hj;rw[show off+(k+1)*E.size+(j-us.length)=off+k*E.size+j by rw[zT];omega]at this;exact this
theorem RdL.flat{b off n c:Nat}{xs:List α}(h:RdL E S w (.slice (some ⟨b,off,none⟩) n c) xs):∃vs,Flat E S w xs vs/\∀j u,vs[j]?=some u->w.cell? ⟨b,off+j,none⟩=some u:=by
  obtain⟨a,cap,h1,h2,h3,h4⟩:=h;cases h1;rcases h4 with rfl|⟨b',off',e,hb,hq⟩
  ·exact⟨[],rfl,λj u h=>by simp at h⟩
  · cases e
    obtain⟨vs,h5,h6⟩:=zuq (b:=b) (off:=off) xs 0 (λr hr=>by
      obtain⟨vs,h5,h6⟩:=hq r hr;exact⟨vs,h5,λj u hj=>by rw[zR];exact h6 j u hj⟩)
    exact⟨vs,h5,λj u hj=>by have:=h6 j u hj;rwa [xH,yO]at this⟩
end
def OwnL{α:Type}(E:Elt α)(T:TypeId)(base lo:Nat)(w:World)(v:Value)(xs:List α):Prop:=
 ∃vs,w.ownsRow base T E.size v xs.length vs/\Flat E (λk=>lo<=k/\k<w.heap.size/\some k≠v.ownBlock) w xs vs
section
variable {α : Type} {E : Elt α} {T : TypeId} {base lo : Nat} {w w' : World} {v : Value} {xs : List α}
theorem OwnL.nil(E:Elt α)(T:TypeId)(base lo:Nat)(w:World):OwnL E T base lo w (.slice none 0 0) []:=⟨[],World.ownsRow_nil _ _ _ _,rfl⟩
theorem OwnL.shape(h:OwnL E T base lo w v xs):∃a cap,v=.slice a xs.length cap:=by
 obtain⟨vs,h,_⟩:=h;rcases h.2 with⟨rfl,h0⟩|⟨g,cap,cur,rfl,_⟩
 ·rw[h0];exact⟨none,0,rfl⟩
 ·exact⟨_,_,rfl⟩
theorem OwnL.len{a:Option Addr}{k c:Nat}(h:OwnL E T base lo w (.slice a k c) xs):k=xs.length:=by
 obtain⟨_,_,e⟩:=h.shape;cases e;rfl
theorem OwnL.block_lt (h:OwnL E T base lo w v xs):∀k,v.ownBlock=some k->base<=k/\k<w.heap.size:=by
 obtain⟨vs,h1,_⟩:=h;exactλk hk=>h1.lt k hk
theorem OwnL.to{base' lo':Nat}(h:OwnL E T base lo w v xs)(hb:base'<=base)(hl:lo'<=lo):OwnL E T base' lo' w v xs:=by
 obtain⟨vs,h1,h2⟩:=h;exact⟨vs,⟨h1.1,h1.2.imp id λ⟨g,cap,cur,a,b,c⟩=>⟨g,cap,cur,a,zv hb b,c⟩⟩,h2.weak λk hk=>⟨zv hl hk.1,hk.2⟩⟩
theorem OwnL.kept (h:OwnL E T base lo w v xs)(hs:w.heap.size<=w'.heap.size)(hk:∀k,lo<=k\/base<=k->k<w.heap.size->w'.heap[k]?=w.heap[k]?):OwnL E T base lo w' v xs:=by
 obtain⟨vs,h1,h2⟩:=h;refine⟨vs,⟨h1.1,?_⟩,(h2.keep λk hk'=>hk k (.inl hk'.1) hk'.2.1).weak λk hk=>⟨hk.1,zm hk.2.1 hs,hk.2.2⟩⟩;rcases h1.2 with h|⟨g,cap,cur,hv,hb,hg,r⟩
 ·exact .inl h
 ·exact .inr ⟨g,cap,cur,hv,hb,(hk g (.inr hb) (zJ.1 hg).1).trans hg,r⟩
theorem OwnL.below (h:OwnL E T base lo w v xs)(hb:Below w.heap.size w w'):OwnL E T base lo w' v xs:=h.kept hb.size λk _ hk=>hb.block k hk
theorem OwnL.other(h:OwnL E T base lo w v xs){g:Nat}(hg:w.grownBy w' (some g))(h1:g<lo)(h2:g<base):OwnL E T base lo w' v xs:=
 h.kept hg.size λk hk hl=>hg.block k hl (λe=>by injection e with e;omega)
theorem OwnL.rdL (h:OwnL E T base lo w v xs):RdL E (λk=>(lo<=k\/base<=k)/\k<w.heap.size) w v xs:=by
  obtain⟨vs,h1,h2⟩:=h;have hx:=h1;rcases h1.2 with⟨rfl,h0⟩|⟨g,cap,cur,rfl,hb,hg,hn,hc,hcs,ht⟩
  · obtain rfl:xs=[]:=yg h0
    exact RdL.nil _ _ _
  · refine⟨_,cap,rfl,hn,hc,.inr ⟨g,0,rfl,⟨.inr hb,(zJ.1 hg).1⟩,λr hr=>?_⟩⟩
    obtain⟨us,h3,h4⟩:=h2.at r hr;refine⟨us,E.weak h3 λk hk=>⟨.inl hk.1,hk.2.1⟩,λj u hj=>?_⟩;have:=hx.cells (g:=g) rfl _ u (h4 j u hj);simpa [zN]using this
theorem OwnL.rdS{S:Nat->Prop}(h:OwnL E T base lo w v xs)(hs:∀k,lo<=k\/base<=k->k<w.heap.size->S k):RdL E S w v xs:=h.rdL.weak λk hk=>hs k hk.1 hk.2
end
structure LoP (P:Program)(T Te:TypeId)(n:Nat):Prop extends LsP P T Te n where
 hz:∃z by',(P.info? Te).map (λi=>(i.zero,i.bytes))=some (some z,by')/\z.cells.size=n/\by'<=4096
section
variable {α : Type} {E : Elt α} {P : Program} {T Te : TypeId} {ops : Array Oper} {rest : List Oper} {o : Oper} {a : Act} {Q : Exit → Act → World → Prop} {w : World} {K : Act → World → Prop}
theorem LoP.all{n:Nat}(h:LoP P T Te n):∃i z,P.info? Te=some i/\i.zero=some z/\i.size=n/\i.bytes<=4096/\z.cells.size=n:=by
 obtain⟨i,hi,hs⟩:=h.info;obtain⟨z,by',h1,h2,h3⟩:=h.hz;simp only[hi,xF,Option.some.injEq,Prod.mk.injEq]at h1;exact⟨i,z,hi,h1.1,hs,by omega,h2⟩
theorem zmi (hP:LoP P T Te E.size) (w:World){base lo:Nat}(ty:TypeId){v:Value}{xs ys:List α}{ns:List Value}(hown:OwnL E Te base lo w v xs){p:Addr}{c:Nat}{S:Nat->Prop}(hcells:∀j u,ns[j]?=some u->w.cell? (p.add j)=some u) (hn:Flat E S w ys ns) (hS:∀k,S k->lo<=k/\k<w.heap.size/\some k≠v.ownBlock)(hbase:base<=w.heap.size)(hlen:xs.length+ys.length<=1073741824):
  ∃v' w',(Builtin.append_ #[T,T] ty #[v,.slice (some p) ys.length c]).run P w=.ok v' w'/\OwnL E Te base lo w' v' (xs++ys)/\w.grownBy w' v.ownBlock/\(v'.ownBlock=v.ownBlock\/v'.ownBlock=some w.heap.size):=by
 obtain⟨i,z,hi,hz,hsz,hby,hzs⟩:=hP.all;obtain⟨us,h1,h2⟩:=hown;obtain⟨v',w',hr,ho,hg,_,hb⟩:=run_append_own_at (P:=P) (w:=w) base T ty Te i z E.size i.bytes hP.hT hi hz hsz rfl hzs E.pos v xs.length us h1 p ys.length c ns hn.len hcells hn.one (by unfold maxLen;omega)
  (by have:=xP hlen hby;omega) hbase
 refine⟨v',w',hr,⟨us++ns,by rw[zC];exact ho,?_⟩,hg,hb⟩;have hne:∀k,k<w.heap.size->some k≠v.ownBlock->some k≠v'.ownBlock:=λk h3 h4=>by
  rcases hb with e|e
  ·rw[e];exact h4
  ·rw[e];intro e2;injection e2 with e2;omega
 have hk:∀k,lo<=k/\k<w.heap.size/\some k≠v.ownBlock->lo<=k/\k<w'.heap.size/\some k≠v'.ownBlock:=λk hk=>⟨hk.1,zm hk.2.1 hg.size,hne k hk.2.1 hk.2.2⟩
 have hsame:∀k,lo<=k/\k<w.heap.size/\some k≠v.ownBlock->w'.heap[k]?=w.heap[k]?:=λk hk=>hg.block k hk.2.1 hk.2.2
 exact((h2.keep hsame).weak hk).append (((hn.weak hS).keep hsame).weak hk)
theorem fold_set:∀(vs:List Value)(k:Nat)(cells:Array Value),k+vs.length<=cells.size->(vs.zipIdx k).foldl (λcs (p:Value×Nat)=>cs.setIfInBounds p.2 p.1) cells=(cells.toList.take k++vs++cells.toList.drop (k+vs.length)).toArray:=by
 intro vs;induction vs with
 |nil=>intro k cells _;simp
 |cons v vs ih=>
  intro k cells hk;simp only[zI]at hk;have hlt:k<cells.toList.length:=by simp;omega
  simp only[List.zipIdx_cons,List.foldl_cons];rw[ih (k+1) _ (by simp;omega)];congr 1;have e1:(cells.toList.set k v).take (k+1)=cells.toList.take k++[v]:=by
   rw[yZ (by simpa using hlt),List.take_set_of_le (zf _)];simp
  have e2:(cells.toList.set k v).drop (k+1+vs.length)=cells.toList.drop (k+(vs.length+1)):=by
   rw[List.drop_set_of_lt (by omega)];congr 1;omega
  simp only[wR,zI,e1,e2];simp
theorem zmg{n:Nat}(hP:LoP P T Te n)(w:World){v:Value}{us:List Value}(hv:v.cells=us.toArray)(hl:us.length=n)(h0:0<n)(hn:n<=4096):(Instr.buildSlice T 1 #[(0,v)]).run P w=.ok (.slice (some ⟨w.heap.size,0,none⟩) 1 1) (w.alloc (.cells us.toArray Te)):=by
 obtain⟨i,z,hi,hz,hsz,hby,hzs⟩:=hP.all;have hf:∀cells:Array Value,cells.size=n->Instr.fill (λi=>some (i*n,n)) cells [(0,v)]=some us.toArray:=by
  intro cells hc;have h:=fold_set us 0 cells (by omega);rw[show 0+us.length=cells.toList.length by simp[hl,hc],List.drop_length]at h;simp only[List.take_zero,yw,yr]at h;simp[Instr.fill,hv,hl];exact⟨by omega,by simpa using h⟩
 have hsz2:((Array.range (1*n)).map (λx=>(z.cells)[x%(z.cells).size]!)).size=n:=by simp
 have:=hf _ hsz2;simp[Instr.buildSlice,zr hP.hT,sizeOf,typeInfo,zeroValue,hi,hz,hsz,newRow]at this⊢;rw[zh (by omega),zh (by omega),this];simp
theorem zba{n:Nat}(hP:LoP P T Te n){y:Operand}{v:Value}{us:List Value}(ho:o.op=.buildSlice T 1 #[(0,y)])(hy:a.eval y=v)(hv:v.cells=us.toArray)(hl:us.length=n)(h0:0<n)(hn:n<=4096)(h:K (a.put o.dst (.slice (some ⟨w.heap.size,0,none⟩) 1 1)) (w.alloc (.cells us.toArray Te))):o.wp P a w K Q:=by
 have hrun:=zmg hP w hv hl h0 hn;unfold Oper.wp execOp;simp only[ho,hy,zZ,yb,ye,zE,zn,zo,hrun];exact h
theorem zji(w:World)(us:List Value)(t:TypeId)(j:Nat)(u:Value)(h:us[j]?=some u):(w.alloc (.cells us.toArray t)).cell? (Addr.add ⟨w.heap.size,0,none⟩ j)=some u:=by
 rw[zN,World.cell?];simp only[World.alloc,yf];simpa using h
theorem zd4(hP:LoP P T Te E.size){s x:Operand}(ho:o.op=.call {callee:=.builtin .append,args:=#[s,x],argTypes:=#[T,T]}){base lo:Nat}{vs:Value}{xs ys:List α}{ns:List Value}{p:Addr}{c:Nat}{S:Nat->Prop}(hs:a.eval s=vs) (hown:OwnL E Te base lo w vs xs) (hx:a.eval x=.slice (some p) ys.length c)
  (hcells:∀j u,ns[j]?=some u->w.cell? (p.add j)=some u) (hn:Flat E S w ys ns) (hS:∀k,S k->lo<=k/\k<w.heap.size/\some k≠vs.ownBlock) (hbase:base<=w.heap.size)
  (h:∀ad k cap w',OwnL E Te base lo w' (.slice ad k cap) (xs++ys)->w.grownBy w' vs.ownBlock->(Value.ownBlock (.slice ad k cap)=vs.ownBlock\/Value.ownBlock (.slice ad k cap)=some w.heap.size)->K (a.put o.dst (.slice ad k cap)) w') (hlen:xs.length+ys.length<=1073741824):o.wp P a w K Q:=by
 obtain⟨v',w',hrun,h2,h3,h4⟩:=zmi hP w o.type hown hcells hn hS hbase hlen (c:=c);obtain⟨ad,cap,rfl⟩:=h2.shape;unfold Oper.wp execOp;simp only[ho,resolve,invoke,builtin,zZ,yb,ye,zE,zn,zo,hs,hx,hrun];exact h _ _ _ _ h2 h3 h4
theorem zf9(hP:LoP P T Te E.size){s x:Operand}(ho:o.op=.call {callee:=.builtin .append,args:=#[s,x],argTypes:=#[T,T]})(hgd:Region.wanted o (yielded ops a.tmps)=true){base lo:Nat}{vs:Value}{xs ys:List α}{ns:List Value}{p:Addr}{c:Nat}{S:Nat->Prop}(hs:a.eval s=vs)(hown:OwnL E Te base lo w vs xs)(hx:a.eval x=.slice (some p) ys.length c)
  (hcells:∀j u,ns[j]?=some u->w.cell? (p.add j)=some u)(hn:Flat E S w ys ns)(hS:∀k,S k->lo<=k/\k<w.heap.size/\some k≠vs.ownBlock)(hbase:base<=w.heap.size)
  (h:∀ad k cap w',OwnL E Te base lo w' (.slice ad k cap) (xs++ys)->w.grownBy w' vs.ownBlock->(Value.ownBlock (.slice ad k cap)=vs.ownBlock\/Value.ownBlock (.slice ad k cap)=some w.heap.size)->wpList P ops Q rest (a.put o.dst (.slice ad k cap)) w')(hlen:xs.length+ys.length<=1073741824):wpList P ops Q (o::rest) a w:=
 zQ hgd λ_ hK=>zd4 hP ho hs hown hx hcells hn hS hbase (λad k cap w' h1 h2 h3=>hK _ _ (h ad k cap w' h1 h2 h3)) hlen
theorem zh2(hP:LoP P T Te E.size) (w:World){base lo:Nat}(ty:TypeId){g:Addr}{ax:Option Addr}{cx nx:Nat}{ys:List α}{S:Nat->Prop}(hown:OwnL E Te base lo w (.slice (some g) 0 0) []) (hx:RdL E S w (.slice ax nx cx) ys)(hS:∀k,S k->lo<=k/\k<w.heap.size)(hbase:base<=w.heap.size)(hlen:ys.length<=1073741824):
    ∃v' w',(Builtin.append_ #[T,T] ty #[.slice (some g) 0 0,.slice ax nx cx]).run P w=.ok v' w'/\OwnL E Te base lo w' v' ys/\Below w.heap.size w w':=by
  obtain⟨i,z,hi,hz,hsz,hby,hzs⟩:=hP.all;obtain⟨rfl,_,_⟩:=hx.len;by_cases h0:ys=[]
  · subst h0
    have hsrc:Src P i.size T (.slice ax 0 cx) 0 [] w:=by
      cases ax with
      |none=>exact Src.ofNil w hP.hT cx
      |some p=>exact Src.ofSlice w hP.hT p 0 cx [] (by simp) (λj u h=>by simp at h) (λu h=>by cases h)
    exact⟨_,w,run_append_nothing w T T ty Te i hP.hT hi (some g) 0 0 (zf _) _ hsrc,hown,ze _ _⟩
  · have hpos:0<ys.length:=xV.2 h0
    obtain⟨b,off,_,rfl,_⟩:=hx.at 0 hpos;obtain⟨ns,hn,hc⟩:=hx.flat;have hnl:=hn.len;have hsrc:Src P i.size T (.slice (some ⟨b,off,none⟩) ys.length cx) ys.length ns w:=
      Src.ofSlice w hP.hT _ _ _ _ (by rw[hnl,hsz]) (λj u hj=>by rw[zN];exact hc j u hj) hn.one
    have hbytes:(ys.length)*i.bytes<=1073741824*4096:=xP hlen hby;have hr:=run_append_grow_src (P:=P) w T T ty Te i z hP.hT hi hz (some g) 0 0 [] (run_firstCells_some w.drew i.size 0 g 0 0 [] (by simp) (λj u h=>by simp at h)) _ _ _ hsrc (by omega) (by omega)
      (growslice_fits (by simp only[zR];omega) (by simp only[zR];omega))
    have hb:Below w.heap.size w (w.drew.alloc (.cells (([]++ns:List Value).toArray++Builtin.zeroCells z.cells (grownCap w (0+ys.length) 0 Te-(0+ys.length))) Te)):=((ze _ w).drew).alloc (zf _) _;have hge:=grownCap_ge w (0+ys.length) 0 Te;refine⟨_,_,hr,⟨ns,⟨by rw[hnl],.inr ⟨w.heap.size,grownCap w (0+ys.length) 0 Te,_,by rw[zR],hbase,heap_alloc_new w.drew _,by omega,grownCap_le_maxLen w _ _ _ (by unfold maxLen;omega),?_,?_⟩⟩,?_⟩,hb⟩
    · rw[zR]at hge⊢
      simp[size_zeroCells,hnl,hzs];rw[<-zT];congr 1;omega
    · simp only[yw,Array.toList_append]
      rw[<-hnl];simp
    · refine((hn.weak (S':=λk=>lo<=k/\k<w.heap.size) hS).keep (w':=_) (λk hk=>hb.block k hk.2)).weak λk hk=>⟨hk.1,zm hk.2 hb.size,?_⟩
      intro e;have h5:=hk.2;simp only[Value.ownBlock]at e;injection e with e;omega
theorem zie(hP:LoP P T Te E.size){s x:Operand}(ho:o.op=.call {callee:=.builtin .append,args:=#[s,x],argTypes:=#[T,T]}){base lo:Nat}{g:Addr}{ax:Option Addr}{cx nx:Nat}{ys:List α}{S:Nat->Prop}(hs:a.eval s=.slice (some g) 0 0) (hown:OwnL E Te base lo w (.slice (some g) 0 0) []) (hx:a.eval x=.slice ax nx cx) (hr:RdL E S w (.slice ax nx cx) ys)
  (hS:∀k,S k->lo<=k/\k<w.heap.size) (hbase:base<=w.heap.size)
  (h:∀ad k cap w',OwnL E Te base lo w' (.slice ad k cap) ys->Below w.heap.size w w'->K (a.put o.dst (.slice ad k cap)) w')(hlen:ys.length<=1073741824):o.wp P a w K Q:=by
 obtain⟨v',w',hrun,h2,h3⟩:=zh2 hP w o.type hown hr hS hbase hlen;obtain⟨ad,cap,rfl⟩:=h2.shape;unfold Oper.wp execOp;simp only[ho,resolve,invoke,builtin,zZ,yb,ye,zE,zn,zo,hs,hx,hrun];exact h _ _ _ _ h2 h3
end
theorem zel (w:World)(g:Nat)(cs:Array Value):w.grownBy (w.setRow g cs) (some g):=
 ⟨rfl,rfl,rfl,by unfold World.setRow;simp,λk _ hk=>setRow_other w g k cs (λe=>hk (by rw[e]))⟩
section
variable {α : Type} {E : Elt α} {P : Program} {T Te : TypeId} {ops : Array Oper} {rest : List Oper} {o : Oper} {a : Act} {Q : Exit → Act → World → Prop} {w : World} {S : Nat → Prop}
theorem zkq(hP:LsP P T Te E.size) (w:World) (ty:TypeId){ax:Option Addr}{nx cx:Nat}{l:List α}(hx:RdL E S w (.slice ax nx cx) l){g off dl dc:Nat}{cur:Array Value}{t:TypeId}(hg:w.heap[g]?=some (.cells cur t (0,0)))(hdl:l.length<=dl)(hfit:off+l.length*E.size<=cur.size):
    ∃cs,Flat E S w l cs/\(Builtin.copy_ #[T,T] ty #[.slice (some ⟨g,off,none⟩) dl dc,.slice ax nx cx]).run P w=.ok (.int .i64 (l.length:Nat)) (w.setRow g (cur.toList.take off++cs++cur.toList.drop (off+cs.length)).toArray):=by
  obtain⟨rfl,_,_⟩:=hx.len;obtain⟨i,hi,hsz⟩:=hP.info;have hn:Nat.min l.length dl=l.length:=yi hdl;have key:∀cs:List Value,cs.length=l.length*E.size->(∀u∈cs,u.oneCell'=true)->(Builtin.firstCells E.size l.length (.slice ax l.length cx)).run P w=.ok cs.toArray w->(Builtin.copy_ #[T,T] ty #[.slice (some ⟨g,off,none⟩) dl dc,.slice ax l.length cx]).run P w=.ok (.int .i64 (l.length:Nat)) (w.setRow g (cur.toList.take off++cs++cur.toList.drop (off+cs.length)).toArray):=by
    intro cs hcl h1 hfc;have hst:=wK P g off t cs 0 cur w hg (by rw[hcl];omega) h1;simp only[yO]at hst;simp[Builtin.copy_,zr hP.hT,Builtin.lenOf,sizeOf,typeInfo,hi,hsz,hn,hfc,hst,goInt]
  by_cases h0:l=[]
  · subst h0
    refine⟨[],rfl,key [] (by simp) (by simp) ?_⟩;cases ax with
    |none=>simp[Builtin.firstCells]
    |some p=>
      have:=wM (P:=P) w p [] (by simp);simpa [Builtin.firstCells]using this
  · obtain⟨b,o2,_,rfl,_⟩:=hx.at 0 (xV.2 h0)
    obtain⟨cs,hf,hc⟩:=hx.flat;have hcl:=hf.len;refine⟨cs,hf,key cs hcl hf.one ?_⟩;have:=wM (P:=P) w ⟨b,o2,none⟩ cs (λj u hj=>by rw[zN];exact hc j u hj);rw[hcl]at this;simpa [Builtin.firstCells]using this
theorem zfc(hP:LsP P T Te E.size){d s:Operand}(ho:o.op=.call {callee:=.builtin .copy,args:=#[d,s],argTypes:=#[T,T]})(hgd:Region.wanted o (yielded ops a.tmps)=true){ax:Option Addr}{nx cx:Nat}{l:List α}{g off dl dc:Nat}{cur:Array Value}{t:TypeId}(hd:a.eval d=.slice (some ⟨g,off,none⟩) dl dc)(hs:a.eval s=.slice ax nx cx)(hx:RdL E S w (.slice ax nx cx) l)(hg:w.heap[g]?=some (.cells cur t (0,0)))
  (h:∀cs w',Flat E S w l cs->w'.heap[g]?=some (.cells (cur.toList.take off++cs++cur.toList.drop (off+cs.length)).toArray t (0,0))->w.grownBy w' (some g)->wpList P ops Q rest (a.put o.dst (.int .i64 (l.length:Nat))) w')
  (hdl:l.length<=dl)(hfit:off+l.length*E.size<=cur.size):wpList P ops Q (o::rest) a w:=by
 obtain⟨cs,hf,hr⟩:=zkq hP w o.type hx hg hdl hfit (dc:=dc);refine zQ hgd λK hK=>?_
 unfold Oper.wp execOp;simp only[ho,resolve,invoke,builtin,zZ,yb,ye,zE,zn,zo,hd,hs,hr];exact hK _ _ (h cs _ hf (setRow_heap _ _ _ _ _ _ hg) (zel _ _ _))
theorem zd8{n:Nat}(hP:LsP P T Te n){x:Operand}{lo hi:Option Operand}(ho:o.op=.slice T x lo hi none)(hgd:Region.wanted o (yielded ops a.tmps)=true){ad:Option Addr}{k c:Nat}(hx:a.eval x=.slice ad k c){l r:Nat}(hb:(Instr.sliceBounds true k c (lo.map a.eval) (hi.map a.eval) none).run P w=.ok (l,r,c) w)
  (h:wpList P ops Q rest (a.put o.dst (.slice (if c=l then ad else ad.map (·.add (l*n))) (r-l) (c-l))) w):wpList P ops Q (o::rest) a w:=by
 refine zQ hgd λK hK=>?_
 unfold Oper.wp execOp;simp only[ho,hx,Option.map_none,zZ,yb,ye,zfy hP hb];exact hK _ _ h
theorem zl1 (hP:LoP P T Te E.size){x y:Operand}(ho:o.op=.makeSlice T x y) (hgd:Region.wanted o (yielded ops a.tmps)=true){k:Nat}{i:Int}{kl kc:IntKind}(hx:a.eval x=.int kl i) (hy:a.eval y=.int kc i)(h:∀cur:Array Value,cur.size=k*E.size->wpList P ops Q rest (a.put o.dst (.slice (some ⟨w.heap.size,0,none⟩) k k)) (w.alloc (.cells cur Te))) (hik:i=(k:Int)) (hk:k<=1073741824):wpList P ops Q (o::rest) a w:=by
 subst hik;refine zQ hgd λK hK=>?_
 obtain⟨i,z,hi,hz,hsz,hby,hzs⟩:=hP.all;have hbytes:i.bytes*k<=4096*1073741824:=xP hby hk;have hr:=run_make (P:=P) w T Te i z hP.hT hi hz kl kc (k:Int) (k:Int) (by omega) (Int.le_refl _) (by
  have:((i.bytes*k:Nat):Int)<=281474976710656:=by omega
  rwa [Int.natCast_mul]at this) (by omega)
 simp only[wG]at hr;unfold Oper.wp execOp;simp only[ho,hx,hy,zZ,yb,ye,hr];exact hK _ _ (h _ (by rw[size_madeCells,hsz]))
end
structure Trd(F:Nat->Prop)(w w':World):Prop where
 os:w'.os=w.os
 tape:w'.tape=w.tape
 output:w'.output=w.output
 size:w.heap.size<=w'.heap.size
 block:∀k,k<w.heap.size->¬F k->w'.heap[k]?=w.heap[k]?
section
variable {F F' : Nat → Prop} {a b c w w' : World}
theorem Trd.refl(F:Nat->Prop)(w:World):Trd F w w:=⟨rfl,rfl,rfl,zf _,λ_ _ _=>rfl⟩
theorem Trd.mono (h:Trd F w w')(hf:∀k,k<w.heap.size->F k->F' k):Trd F' w w':=⟨h.os,h.tape,h.output,h.size,λk hk hn=>h.block k hk λhF=>hn (hf k hk hF)⟩
theorem Trd.trans(h:Trd F a b)(k:Trd F' b c)(hf:∀k,k<a.heap.size->F' k->F k):Trd F a c:=
 ⟨k.os.trans h.os,k.tape.trans h.tape,k.output.trans h.output,zv h.size k.size,λi hi hn=>(k.block i (zm hi h.size) λhF=>hn (hf i hi hF)).trans (h.block i hi hn)⟩
theorem Trd.of(h:Below w.heap.size w w'):Trd F w w':=⟨h.os,h.tape,h.output,h.size,λk hk _=>h.block k hk⟩
theorem Trd.ofGrown{r:Option Nat}(h:w.grownBy w' r)(hr:∀k,r=some k->F k):Trd F w w':=⟨h.os,h.tape,h.output,h.size,λk hk hn=>h.block k hk λe=>hn (hr k e.symm)⟩
theorem Trd.below{n:Nat}(h:Trd F w w')(hn:n<=w.heap.size)(hf:∀k,k<n->¬F k):Below n w w':=⟨h.os,h.tape,h.output,h.size,λk hk=>h.block k (zm hk hn) (hf k hk)⟩
end
def RowQ(Te:TypeId)(sz:Nat)(w:World)(v:Value)(n:Nat)(vs:List Value):Prop:=w.ownsRow 0 Te sz v n vs/\∀u∈vs,u.oneCell'=true
section
variable {Te : TypeId} {sz n : Nat} {w w' : World} {v : Value} {vs : List Value}
theorem RowQ.len (h:RowQ Te sz w v n vs):vs.length=n*sz:=h.1.1
theorem RowQ.cases(h:RowQ Te sz w v n vs):(v=.slice none 0 0/\n=0/\vs=[])\/∃g cap cur,v=.slice (some ⟨g,0,none⟩) n cap/\w.heap[g]?=some (.cells cur Te (0,0))/\n<=cap/\cap<=maxLen/\cur.size=cap*sz/\cur.toList.take (n*sz)=vs:=by
  rcases h.1.2 with⟨h1,h2⟩|⟨g,cap,cur,h1,_,h2,h3,h4,h5,h6⟩
  · refine .inl ⟨h1,h2,yg ?_⟩
    rw[h.len,h2,xH]
  ·exact .inr ⟨g,cap,cur,h1,h2,h3,h4,h5,h6⟩
theorem RowQ.of{g cap:Nat}{cur:Array Value}(hg:w.heap[g]?=some (.cells cur Te (0,0)))(h1:n<=cap)(h2:cap<=maxLen)(h3:cur.size=cap*sz)(h4:cur.toList.take (n*sz)=vs)(h5:∀u∈vs,u.oneCell'=true):RowQ Te sz w (.slice (some ⟨g,0,none⟩) n cap) n vs:=by
 refine⟨⟨?_,.inr ⟨g,cap,cur,rfl,zH _,hg,h1,h2,h3,h4⟩⟩,h5⟩;rw[<-h4,zp,yo,h3];exact yi (yN _ h1)
theorem RowQ.nil(Te:TypeId)(sz:Nat)(w:World):RowQ Te sz w (.slice none 0 0) 0 []:=⟨World.ownsRow_nil _ _ _ _,λ_ h=>by cases h⟩
theorem RowQ.shape (h:RowQ Te sz w v n vs):∃a c,v=.slice a n c/\n<=c/\c<=maxLen:=by
 rcases h.cases with⟨rfl,rfl,_⟩|⟨g,cap,cur,rfl,_,h1,h2,_⟩
 ·exact⟨none,0,rfl,zf _,by unfold maxLen;omega⟩
 ·exact⟨_,_,rfl,h1,h2⟩
theorem RowQ.block(h:RowQ Te sz w v n vs){k:Nat}(hk:v.ownBlock=some k):∃cur,w.heap[k]?=some (.cells cur Te (0,0)):=by
  rcases h.cases with⟨rfl,_,_⟩|⟨g,cap,cur,rfl,hg,_⟩
  ·simp[Value.ownBlock]at hk
  · simp[Value.ownBlock]at hk
    subst hk;exact⟨_,hg⟩
theorem RowQ.lt (h:RowQ Te sz w v n vs){k:Nat}(hk:v.ownBlock=some k):k<w.heap.size:=by
 obtain⟨_,hg⟩:=h.block hk;exact(zJ.1 hg).1
theorem RowQ.kept (h:RowQ Te sz w v n vs)(hk:∀k,v.ownBlock=some k->w'.heap[k]?=w.heap[k]?):RowQ Te sz w' v n vs:=by
 refine⟨⟨h.1.1,?_⟩,h.2⟩;rcases h.1.2 with h|⟨g,cap,cur,rfl,h1,h2,h3⟩
 ·exact .inl h
 ·exact .inr ⟨g,cap,cur,rfl,h1,(hk g rfl).trans h2,h3⟩
theorem RowQ.trd{F:Nat->Prop}(h:RowQ Te sz w v n vs)(hb:Trd F w w')(hk:∀k,v.ownBlock=some k->¬F k):RowQ Te sz w' v n vs:=h.kept λk e=>hb.block k (h.lt e) (hk k e)
theorem RowQ.below(h:RowQ Te sz w v n vs)(hb:Below w.heap.size w w'):RowQ Te sz w' v n vs:=h.kept λk e=>hb.block k (h.lt e)
theorem RowQ.cell(h:RowQ Te sz w v n vs){g:Nat}(hg:v.ownBlock=some g){j:Nat}{u:Value}(hj:vs[j]?=some u):w.cell? ⟨g,j,none⟩=some u:=by
  rcases h.cases with⟨rfl,_,_⟩|⟨g',cap,cur,rfl,hb,_,_,_,ht⟩
  ·simp[Value.ownBlock]at hg
  · simp[Value.ownBlock]at hg
    subst hg;subst ht;rw[xG]at hj;split at hj;·simp[World.cell?,hb,<-Array.getElem?_toList,hj]
    ·cases hj
end
section
variable {P : Program} {T Te : TypeId} {n : Nat} {ops : Array Oper} {rest : List Oper} {o : Oper} {a : Act} {Q : Exit → Act → World → Prop} {w : World} {K : Act → World → Prop}
theorem zey (hP:LsP P T Te n){x:Operand}{lo hi:Option Operand}(ho:o.op=.slice T x lo hi none){ad:Option Addr}{k c:Nat}(hx:a.eval x=.slice ad k c){lov hiv:Option Value}(hlo:lo.map a.eval=lov)(hhi:hi.map a.eval=hiv){l r:Nat}(hb:(Instr.sliceBounds true k c lov hiv none).run P w=.ok (l,r,c) w)
  (h:K (a.put o.dst (.slice (if c=l then ad else ad.map (·.add (l*n))) (r-l) (c-l))) w):o.wp P a w K Q:=by
 subst hlo;subst hhi;unfold Oper.wp execOp;simp only[ho,hx,Option.map_none,zZ,yb,ye,zfy hP hb];exact h
theorem znu(hP:LsP P T Te n){x:Operand}{lo hi:Option Operand}(ho:o.op=.slice T x lo hi none){ad:Option Addr}{k c:Nat}(hx:a.eval x=.slice ad k c){lov hiv:Option Value}(hlo:lo.map a.eval=lov)(hhi:hi.map a.eval=hiv){l r:Nat}(hb:(Instr.sliceBounds true k c lov hiv none).run P w=.ok (l,r,c) w)
  (h:∀ad',K (a.put o.dst (.slice ad' (r-l) (c-l))) w):o.wp P a w K Q:=zey hP ho hx hlo hhi hb (h _)
theorem zav(hP:LsP P T Te n){x:Operand}{lo hi:Option Operand}(ho:o.op=.slice T x lo hi none){g off k c:Nat}(hx:a.eval x=.slice (some ⟨g,off,none⟩) k c){lov hiv:Option Value}(hlo:lo.map a.eval=lov)(hhi:hi.map a.eval=hiv){l r:Nat}(hb:(Instr.sliceBounds true k c lov hiv none).run P w=.ok (l,r,c) w)(hne:c≠l)
  (h:K (a.put o.dst (.slice (some ⟨g,off+l*n,none⟩) (r-l) (c-l))) w):o.wp P a w K Q:=by
 refine zey hP ho hx hlo hhi hb ?_;rw[zh hne];simpa [zN]using h
theorem zep (hP:LsP P T Te n){x:Operand}{hi:Option Operand}(ho:o.op=.slice T x none hi none){g off k c:Nat}(hx:a.eval x=.slice (some ⟨g,off,none⟩) k c){hiv:Option Value}(hhi:hi.map a.eval=hiv){r:Nat}(hb:(Instr.sliceBounds true k c none hiv none).run P w=.ok (0,r,c) w)
  (h:K (a.put o.dst (.slice (some ⟨g,off,none⟩) r c)) w):o.wp P a w K Q:=by
 refine zey hP ho hx rfl hhi hb ?_;simp only[Nat.sub_zero,xH,xF,zN,yO];split<;>exact h
theorem zbd(hP:LsP P T Te n){x:Operand}{lo hi:Option Operand}(ho:o.op=.slice T x lo hi none)(hgd:Region.wanted o (yielded ops a.tmps)=true){ad:Option Addr}{k c:Nat}(hx:a.eval x=.slice ad k c){l r:Nat}(hb:(Instr.sliceBounds true k c (lo.map a.eval) (hi.map a.eval) none).run P w=.ok (l,r,c) w)
  (h:∀ad',wpList P ops Q rest (a.put o.dst (.slice ad' (r-l) (c-l))) w):wpList P ops Q (o::rest) a w:=
 zQ hgd λ_ hK=>znu hP ho hx rfl rfl hb λad'=>hK _ _ (h ad')
theorem zam (hP:LsP P T Te n){x:Operand}{lo hi:Option Operand}(ho:o.op=.slice T x lo hi none)(hgd:Region.wanted o (yielded ops a.tmps)=true){g off k c:Nat}(hx:a.eval x=.slice (some ⟨g,off,none⟩) k c){l r:Nat}(hb:(Instr.sliceBounds true k c (lo.map a.eval) (hi.map a.eval) none).run P w=.ok (l,r,c) w)(hne:c≠l)
  (h:wpList P ops Q rest (a.put o.dst (.slice (some ⟨g,off+l*n,none⟩) (r-l) (c-l))) w):wpList P ops Q (o::rest) a w:=
 zQ hgd λ_ hK=>zav hP ho hx rfl rfl hb hne (hK _ _ h)
theorem zbi (hP:LsP P T Te n){x:Operand}{hi:Option Operand}(ho:o.op=.slice T x none hi none)(hgd:Region.wanted o (yielded ops a.tmps)=true){g off k c:Nat}(hx:a.eval x=.slice (some ⟨g,off,none⟩) k c){r:Nat}(hb:(Instr.sliceBounds true k c none (hi.map a.eval) none).run P w=.ok (0,r,c) w)
  (h:wpList P ops Q rest (a.put o.dst (.slice (some ⟨g,off,none⟩) r c)) w):wpList P ops Q (o::rest) a w:=
 zQ hgd λ_ hK=>zep hP ho hx rfl hb (hK _ _ h)
theorem zn5 (hP:LsP P T Te n)(w:World)(ty:TypeId){sa:Addr}{nx cx:Nat}{cs:List Value}{g off dl dc:Nat}{cur:Array Value}{t:TypeId}(hg:w.heap[g]?=some (.cells cur t (0,0)))(hl:cs.length=min nx dl*n)(hc:∀j u,cs[j]?=some u->w.cell? (sa.add j)=some u)(h1:∀u∈cs,u.oneCell'=true)(hfit:off+cs.length<=cur.size):
  (Builtin.copy_ #[T,T] ty #[.slice (some ⟨g,off,none⟩) dl dc,.slice (some sa) nx cx]).run P w=.ok (.int .i64 (min nx dl:Nat)) (w.setRow g (cur.toList.take off++cs++cur.toList.drop (off+cs.length)).toArray):=by
 obtain⟨i,hi,hsz⟩:=hP.info;have hst:=wK P g off t cs 0 cur w hg (by simpa using hfit) h1;simp only[yO]at hst;have hfc:(Builtin.firstCells n (Nat.min nx dl) (.slice (some sa) nx cx)).run P w=.ok cs.toArray w:=by
  have:=wM (P:=P) w sa cs hc;rw[hl]at this;simpa [Builtin.firstCells]using this
 simp[Builtin.copy_,zr hP.hT,Builtin.lenOf,sizeOf,typeInfo,hi,hsz,hfc,hst,goInt]
theorem zd3 (hP:LsP P T Te n){d s:Operand}(ho:o.op=.call {callee:=.builtin .copy,args:=#[d,s],argTypes:=#[T,T]}){sa:Addr}{nx cx:Nat}{cs:List Value}{g off dl dc:Nat}{cur:Array Value}{t:TypeId}(hd:a.eval d=.slice (some ⟨g,off,none⟩) dl dc) (hs:a.eval s=.slice (some sa) nx cx)(hg:w.heap[g]?=some (.cells cur t (0,0))) (hl:cs.length=min nx dl*n) (hc:∀j u,cs[j]?=some u->w.cell? (sa.add j)=some u) (h1:∀u∈cs,u.oneCell'=true) (hfit:off+cs.length<=cur.size)
  (h:∀w',w'.heap[g]?=some (.cells (cur.toList.take off++cs++cur.toList.drop (off+cs.length)).toArray t (0,0))->w.grownBy w' (some g)->K (a.put o.dst (.int .i64 (min nx dl:Nat))) w'):o.wp P a w K Q:=by
 have hr:=zn5 hP w o.type hg hl hc h1 hfit (dc:=dc) (cx:=cx);unfold Oper.wp execOp;simp only[ho,resolve,invoke,builtin,zZ,yb,ye,zE,zn,zo,hd,hs,hr];exact h _ (setRow_heap _ _ _ _ _ _ hg) (zel _ _ _)
theorem zco (hP:LsP P T Te n){d s:Operand}(ho:o.op=.call {callee:=.builtin .copy,args:=#[d,s],argTypes:=#[T,T]}) (hgd:Region.wanted o (yielded ops a.tmps)=true){sa:Addr}{nx cx:Nat}{cs:List Value}{g off dl dc:Nat}{cur:Array Value}{t:TypeId}(hd:a.eval d=.slice (some ⟨g,off,none⟩) dl dc) (hs:a.eval s=.slice (some sa) nx cx)
  (hg:w.heap[g]?=some (.cells cur t (0,0))) (hl:cs.length=min nx dl*n) (hc:∀j u,cs[j]?=some u->w.cell? (sa.add j)=some u) (h1:∀u∈cs,u.oneCell'=true) (hfit:off+cs.length<=cur.size)
  (h:∀w',w'.heap[g]?=some (.cells (cur.toList.take off++cs++cur.toList.drop (off+cs.length)).toArray t (0,0))->w.grownBy w' (some g)->wpList P ops Q rest (a.put o.dst (.int .i64 (min nx dl:Nat))) w'):wpList P ops Q (o::rest) a w:=
 zQ hgd λ_ hK=>zd3 hP ho hd hs hg hl hc h1 hfit λw' h2 h3=>hK _ _ (h w' h2 h3)
theorem zrs (hP:LsP P T Te n)(w:World)(ty:TypeId){g k cap:Nat}{cur:Array Value}{t:TypeId}{sa:Addr}{m c:Nat}{cs:List Value}(hg:w.heap[g]?=some (.cells cur t (0,0)))(hl:cs.length=m*n)(hc:∀j u,cs[j]?=some u->w.cell? (sa.add j)=some u)(h1:∀u∈cs,u.oneCell'=true)(hroom:k+m<=cap)(hfit:k*n+cs.length<=cur.size):
  (Builtin.append_ #[T,T] ty #[.slice (some ⟨g,0,none⟩) k cap,.slice (some sa) m c]).run P w=.ok (.slice (some ⟨g,0,none⟩) (k+m) cap) (w.setRow g (cur.toList.take (k*n)++cs++cur.toList.drop (k*n+cs.length)).toArray):=by
 obtain⟨i,hi,hsz⟩:=hP.info;have hst:=wK P g (k*n) t cs 0 cur w hg (by simpa using hfit) h1;simp only[yO]at hst;have hfc:(Builtin.firstCells n m (.slice (some sa) m c)).run P w=.ok cs.toArray w:=by
  have:=wM (P:=P) w sa cs hc;rw[hl]at this;simpa[Builtin.firstCells]using this
 simp[Builtin.append_,zr hP.hT,sizeOf,typeInfo,hi,hsz,Builtin.lenOf,hroom,hfc,zN,hst]
theorem zlz (hP:LsP P T Te n){s x:Operand}(ho:o.op=.call {callee:=.builtin .append,args:=#[s,x],argTypes:=#[T,T]}){g k cap:Nat}{cur:Array Value}{t:TypeId}{sa:Addr}{m c:Nat}{cs:List Value}(hs:a.eval s=.slice (some ⟨g,0,none⟩) k cap)(hx:a.eval x=.slice (some sa) m c)(hg:w.heap[g]?=some (.cells cur t (0,0)))(hl:cs.length=m*n)(hc:∀j u,cs[j]?=some u->w.cell? (sa.add j)=some u)
  (h1:∀u∈cs,u.oneCell'=true)(hroom:k+m<=cap)(hfit:k*n+cs.length<=cur.size)
  (h:∀w',w'.heap[g]?=some (.cells (cur.toList.take (k*n)++cs++cur.toList.drop (k*n+cs.length)).toArray t (0,0))->w.grownBy w' (some g)->K (a.put o.dst (.slice (some ⟨g,0,none⟩) (k+m) cap)) w'):o.wp P a w K Q:=by
 have hr:=zrs hP w o.type hg hl hc h1 hroom hfit (c:=c);unfold Oper.wp execOp;simp only[ho,resolve,invoke,builtin,zZ,yb,ye,zE,zn,zo,hs,hx,hr];exact h _ (setRow_heap _ _ _ _ _ _ hg) (zel _ _ _)
def zci (Te:TypeId)(sz:Nat)(w:World)(v:Value)(n':Nat)(vs':List Value)(v':Value)(w':World):Prop:=
 RowQ Te sz w' v' n' vs'/\w.grownBy w' v.ownBlock/\(v'.ownBlock=v.ownBlock\/∃k,v'.ownBlock=some k/\w.heap.size<=k)
theorem zpl (hP:LoP P T Te n)(h0:0<n)(w:World)(ty:TypeId){v:Value}{k:Nat}{vs:List Value}(hv:RowQ Te n w v k vs){p:Addr}{m c:Nat}{cs:List Value}(hl:cs.length=m*n)(hc:∀j u,cs[j]?=some u->w.cell? (p.add j)=some u)(h1:∀u∈cs,u.oneCell'=true)(hlen:k+m<=1073741824):∃v' w',(Builtin.append_ #[T,T] ty #[v,.slice (some p) m c]).run P w=.ok v' w'/\zci Te n w v (k+m) (vs++cs) v' w':=by
 obtain⟨i,z,hi,hz,hsz,hby,hzs⟩:=hP.all;obtain⟨v',w',hr,ho,hg,_,hb⟩:=run_append_own_at (P:=P) (w:=w) 0 T ty Te i z n i.bytes hP.hT hi hz hsz rfl hzs h0 v k vs hv.1 p m c cs hl hc h1 (by unfold maxLen;omega)
  (by have:=xP hlen hby;omega) (zH _)
 exact⟨v',w',hr,⟨ho,λu hu=>(zV.1 hu).elim (hv.2 u) (h1 u)⟩,hg,hb.imp id λe=>⟨_,e,zf _⟩⟩
theorem wp_appQ(hP:LoP P T Te n) (h0:0<n){s x:Operand}(ho:o.op=.call {callee:=.builtin .append,args:=#[s,x],argTypes:=#[T,T]}){v:Value}{k:Nat}{vs:List Value}(hs:a.eval s=v)(hv:RowQ Te n w v k vs){p:Addr}{m c:Nat}{cs:List Value}(hx:a.eval x=.slice (some p) m c)
  (hl:cs.length=m*n)(hc:∀j u,cs[j]?=some u->w.cell? (p.add j)=some u)(h1:∀u∈cs,u.oneCell'=true)(hlen:k+m<=1073741824)
  (h:∀ad cap w',zci Te n w v (k+m) (vs++cs) (.slice ad (k+m) cap) w'->K (a.put o.dst (.slice ad (k+m) cap)) w'):o.wp P a w K Q:=by
 obtain⟨v',w',hrun,h2⟩:=zpl hP h0 w o.type hv hl hc h1 hlen (c:=c);obtain⟨ad,cap,rfl,_⟩:=h2.1.shape;unfold Oper.wp execOp;simp only[ho,resolve,invoke,builtin,zZ,yb,ye,zE,zn,zo,hs,hx,hrun];exact h _ _ _ h2
theorem zea (hP:LoP P T Te n)(h0:0<n){s x:Operand}(ho:o.op=.call {callee:=.builtin .append,args:=#[s,x],argTypes:=#[T,T]})(hgd:Region.wanted o (yielded ops a.tmps)=true){v:Value}{k:Nat}{vs:List Value}(hs:a.eval s=v)(hv:RowQ Te n w v k vs){p:Addr}{m c:Nat}{cs:List Value}(hx:a.eval x=.slice (some p) m c)(hl:cs.length=m*n)(hc:∀j u,cs[j]?=some u->w.cell? (p.add j)=some u)(h1:∀u∈cs,u.oneCell'=true)(hlen:k+m<=1073741824)
  (h:∀ad cap w',zci Te n w v (k+m) (vs++cs) (.slice ad (k+m) cap) w'->wpList P ops Q rest (a.put o.dst (.slice ad (k+m) cap)) w'):wpList P ops Q (o::rest) a w:=
 zQ hgd λ_ hK=>wp_appQ hP h0 ho hs hv hx hl hc h1 hlen λad cap w' h2=>hK _ _ (h ad cap w' h2)
theorem run_appZ (hP:LoP P T Te n) (h0:0<n){Ti:TypeId}(hTi:P.underlying Ti=some (.int .i64)) (w:World) (ty:TypeId){p:Option Addr}{k cap:Nat}{cs:List Value}(hl:cs.length=k*n) (hc:∀q,p=some q->∀j u,cs[j]?=some u->w.cell? (q.add j)=some u) (hm:p=none->k=0){m:Nat}(hm0:0<m) (hg:cap<k+m) (hlen:k+m<=1073741824):∃(G:Nat)(cur:Array Value),k+m<=G/\G<=maxLen/\cur.size=G*n/\cur.toList.take (k*n)=cs/\(Builtin.append_ #[T,Ti] ty #[.slice p k cap,.int .i64 m]).run P w=.ok (.slice (some ⟨w.heap.size,0,none⟩) (k+m) G) (w.drew.alloc (.cells cur Te)):=by
  obtain⟨i,z,hi,hz,hsz,hby,hzs⟩:=hP.all;have hold:(Builtin.firstCells i.size k (.slice p k cap)).run P w.drew=.ok cs.toArray w.drew:=by
    rw[hsz];cases p with
    |none=>
      obtain rfl:=hm rfl;obtain rfl:cs=[]:=yg (by omega);simp[Builtin.firstCells]
    |some q=>exact run_firstCells_some w.drew n k q k cap cs hl (hc q rfl)
  have hbytes:(k+m)*i.bytes<=1073741824*4096:=xP hlen hby;have hmb:m*i.bytes<=1073741824*4096:=xP (by omega) hby;have hr:=Lib.run_append_grow_zeros w T Ti ty Te i z .i64 .i64 hP.hT hTi hi hz p k cap cs hold m hm0 (by omega) hg (by omega) (by omega) (growslice_fits hg (by omega));refine⟨_,_,grownCap_ge w (k+m) cap Te,grownCap_le_maxLen w _ _ _ (by unfold maxLen;omega),?_,?_,hr⟩
  · have hge:=grownCap_ge w (k+m) cap Te
    simp only[Array.size_append,yj,size_zeroCells,hzs,hl,<-zT];congr 1;omega
  · simp only[Array.toList_append,zG]
    rw[<-hl];exact List.take_left
theorem zgf(hP:LoP P T Te n)(h0:0<n){Ti:TypeId}(hTi:P.underlying Ti=some (.int .i64)){s x:Operand}(ho:o.op=.call {callee:=.builtin .append,args:=#[s,x],argTypes:=#[T,Ti]})(hgd:Region.wanted o (yielded ops a.tmps)=true){p:Option Addr}{k cap m:Nat}{i:Int}(hs:a.eval s=.slice p k cap)(hx:a.eval x=.int .i64 i)(him:i=(m:Int)){cs:List Value}(hl:cs.length=k*n)(hc:∀q,p=some q->∀j u,cs[j]?=some u->w.cell? (q.add j)=some u)(hm:p=none->k=0)(hm0:0<m)(hg:cap<k+m)(hlen:k+m<=1073741824)
  (h:∀(G:Nat)(cur:Array Value),k+m<=G->G<=maxLen->cur.size=G*n->cur.toList.take (k*n)=cs->wpList P ops Q rest (a.put o.dst (.slice (some ⟨w.heap.size,0,none⟩) (k+m) G)) (w.drew.alloc (.cells cur Te))):wpList P ops Q (o::rest) a w:=by
 subst him;refine zQ hgd λK hK=>?_
 obtain⟨G,cur,h1,h2,h3,h4,hr⟩:=run_appZ hP h0 hTi w o.type hl hc hm hm0 hg hlen;unfold Oper.wp execOp;simp only[ho,resolve,invoke,builtin,zZ,yb,ye,zE,zn,zo,hs,hx,hr];exact hK _ _ (h G cur h1 h2 h3 h4)
theorem zrr (hP:LoP P T Te n)(hz1:∀i z,P.info? Te=some i->i.zero=some z->∀u∈z.cells.toList,u.oneCell'=true)(w:World)(ty:TypeId){ad:Option Addr}{m c:Nat}{g off:Nat}{cur:Array Value}{t:TypeId}(hg:w.heap[g]?=some (.cells cur t (0,0)))(had:m=0\/ad=some ⟨g,off,none⟩)(hfit:m=0\/off+m*n<=cur.size):∃w' cur',(Builtin.clear_ #[T] ty #[.slice ad m c]).run P w=.ok (.tuple #[]) w'/\w'.heap[g]?=some (.cells cur' t (0,0))/\cur'.size=cur.size/\(m≠0->cur'.toList.take off=cur.toList.take off)/\(m=0->cur'=cur)/\w.grownBy w' (some g):=by
  obtain⟨i,z,hi,hz,hsz,hby,hzs⟩:=hP.all;by_cases h0:m=0
  · subst h0
    refine⟨w,cur,?_,hg,rfl,λ_=>rfl,λ_=>rfl,⟨rfl,rfl,rfl,zf _,λ_ _ _=>rfl⟩⟩;cases ad<;>simp[Builtin.clear_,zr hP.hT]
  · obtain rfl:=had.resolve_left h0
    have hfit:=hfit.resolve_left h0;have hzl:(Builtin.zeroCells z.cells m).toList.length=m*n:=by rw[yo,size_zeroCells,hzs]
    have h1:∀u∈(Builtin.zeroCells z.cells m).toList,u.oneCell'=true:=by
      intro u hu;simp only[Builtin.zeroCells,Array.toList_map,xD]at hu;obtain⟨j,hj,rfl⟩:=hu;simp only[Array.toList_range,yY]at hj;have h2:0<z.cells.size:=by
        rcases yx z.cells.size with h|h
        · rw[h,Nat.mul_zero]at hj;omega
        ·exact h
      have h3:=Nat.mod_lt j h2;rw[getElem!_pos z.cells _ h3];exact hz1 i z hi hz _ (by simp)
    have hst:=wK P g off t _ 0 cur w hg (by rw[hzl];simpa using hfit) h1;simp only[yO]at hst;refine⟨_,(cur.toList.take off++(Builtin.zeroCells z.cells m).toList++cur.toList.drop (off+(Builtin.zeroCells z.cells m).toList.length)).toArray,?_,setRow_heap w g cur _ t _ hg,?_,?_,λh=>absurd h h0,zel _ _ _⟩;rotate_left
    · simp only[yj,zC,zp,zF,hzl,yo]
      omega
    · intro _
      simp only[zG];rw[xp (by rw[zp,yo];omega),xJ,Nat.min_self]
    · obtain⟨m',rfl⟩:∃m',m=m'+1:=⟨m-1,by omega⟩
      have hzv:(zeroValue Te).run P w=.ok z w:=by simp[zeroValue,typeInfo,hi,hz]
      simp only[Builtin.clear_,List.getElem?_toArray,List.getElem?_cons_zero,zZ,zr hP.hT,ye,hzv,hst,yb]
end
section
variable {P : Program} {Q : Exit → Act → World → Prop}
def wpOpS(P:Program)(ops:Array Oper)(Q:Exit->Act->World->Prop)(i:Nat)(K:Act->World->Prop)(a:Act)(w:World):Prop:=
 match ops[i]? with
 |none=>K a w
 |some o=>if Region.wanted o (yielded ops a.tmps)then o.wp P a w K Q else K (a.put o.dst undef) w
def zhp (P:Program)(ops:Array Oper)(Q:Exit->Act->World->Prop):Nat->Array Bool->Act->World->Prop
 |0,listed,a,w=>Region.ready .any ops listed=[]/\Q .normal a w
 |fuel+1,listed,a,w=>
  (Region.ready .any ops listed=[]->Q .normal a w)/\
  ∀i∈Region.ready .any ops listed,wpOpS P ops Q i (zhp P ops Q fuel (listed.setIfInBounds i true)) a w
theorem zg4 {o:Oper}{l n:Nat}{a:Act}{w:World}{K K':Act->World->Prop}(hd:∀c,o.op≠.defer c)(hK:∀a w,K a w->K' a w)(h:o.wp P a w K Q):o.wpIn (Fence.wide.inRound l) n P a w K' Q:=by
 replace h:=xO hK h;unfold Oper.wp at h;unfold Oper.wpIn;refine⟨λ_ _=>trivial,?_⟩;rw[show(Fence.wide.inRound l).round=some l from rfl,xe l _ _ hd];generalize (execOp a.eval o).run P w=r at*;cases r with
 |ok x w'=>
  cases x<;>simp only[Oper.upon,Oper.uponIn]at h⊢<;>first
   |exact h
   |exact h.elim
   |exact⟨(λh=>by cases h),CallsIn.inRound l ((xL (n:=n-1)).2 h)⟩
   |exact⟨(λh=>by cases h),λc cs _=>let⟨v,w',r,s⟩:=h c cs;⟨v,w',r,stepsIn_wide.2 s⟩⟩
 |halt x w'=>cases x<;>simp only[Oper.upon,Oper.uponIn]at h⊢<;>first|exact h|exact h.elim
theorem zib{ops:Array Oper}:∀(fuel:Nat) (listed:Array Bool) (a:Act) (w:World),zhp P ops Q fuel listed a w->wpAny P .any ops Q fuel listed a w
  |0,_,_,_,h=>h
  |fuel+1,listed,a,w,⟨h1,h2⟩=>⟨h1,λi hi=>by
    have h:=h2 i hi;unfold wpOpS at h;unfold wpOp;split
    · rename_i ho
      rw[ho]at h;exact zib fuel _ _ _ h
    · rename_i o ho
      rw[ho]at h;dsimp only at h;split
      · rename_i hw
        rw[zi hw]at h;exact .inl (xO (λa w=>zib fuel _ a w) h)
      · rename_i hw
        rw[zh hw]at h;exact zib fuel _ _ _ h⟩
theorem zlr{ops:Array Oper}{l n:Nat}(hd:∀(i:Nat)(o:Oper),ops[i]?=some o->∀c,o.op≠.defer c):∀(fuel:Nat)(listed:Array Bool)(a:Act)(w:World),zhp P ops Q fuel listed a w->wpAnyIn (Fence.wide.inRound l) n P .any ops Q fuel listed a w
  |0,_,_,_,h=>h
  |fuel+1,listed,a,w,⟨h1,h2⟩=>⟨h1,λi hi=>by
    have h:=h2 i hi;unfold wpOpS at h;unfold wpOpIn;split
    · rename_i ho
      rw[ho]at h;exact zlr hd fuel _ _ _ h
    · rename_i o ho
      rw[ho]at h;dsimp only at h;split
      · rename_i hw
        rw[zi hw]at h;exact zg4 (hd i o ho) (λa w=>zlr hd fuel _ a w) h
      · rename_i hw
        rw[zh hw]at h;exact⟨λ_ _=>trivial,zlr hd fuel _ _ _ h⟩⟩
def zla (ops:Array Oper):Bool:=ops.toList.all λo=>match o.op with|.defer _=>false|_=>true
theorem zmu{ops:Array Oper}(h:zla ops=true):∀(i:Nat)(o:Oper),ops[i]?=some o->∀c,o.op≠.defer c:=λi o ho c e=>by
 have:=xr.1 h o (by rw[<-yF]at ho;exact xq ho);rw[e]at this;cases this
theorem znv{id:Nat}{ops:Array Oper}{a:Act}{w:World}(hm:P.follows .mixedOrders=true)(h:zhp P ops Q ops.size (Array.replicate ops.size false) a {w with drawn:=w.drawn+1}):(Code.region id ops true).wp P Q a w:=
 wp_region_any hm (zib _ _ _ _ h)
theorem zkk{id l n:Nat}{ops:Array Oper}{a:Act}{w:World}(hm:P.follows .mixedOrders=true)(hd:zla ops=true)(h:zhp P ops Q ops.size (Array.replicate ops.size false) a {w with drawn:=w.drawn+1}):(Code.region id ops true).wpIn (Fence.wide.inRound l) n P Q a w:=
 wpIn_region_any hm (zlr (zmu hd) _ _ _ _ h)
end
end Go.Proofs.YtkobhdllagbkhaaGreat
