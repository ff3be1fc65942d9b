/-
  TEXTS OF ONE PROOF, merged: TreH, StZ, Line, Cpy, Quo, Bri, Setr, Cbs, TreZ, OctB, VerP, VerQ, VerK.
-/
import Derived.Lib.AppendZerosOnto
import Derived.Lib.Overlaps
import Derived.OrdersIn
import Derived.RangeFuncCalls
import Derived.TacticsIn
import Derived.Test.YtlpfhgdnmjkngaaGreatKv3
namespace Go.Proofs.YtlpfhgdnmjkngaaGreat
open Go.ChangeShapes Go.WideShapes Go.ChangeAt Go.RowKit Go.Deep Go.Shelf
set_option maxRecDepth 100000
set_option maxHeartbeats 32000000
section
variable {P : Program} {t e : TypeId}
theorem zfi {α : Type} {E : Elt α} (ht : P.underlying t = some (.slice e)) (hc : P.cellsOf e = E.size) {H : Type} {enc : TypeId × Value → H} {w : World} {base : Nat} {held : Bool} {fuel : Nat} {cs : List Value} {x : DataW H × List MemPlace} (h : DataW.trod enc P w base (fun _ => true) held fuel t cs = some x)
  (hE : ∀ n,n < fuel → ∀ cs x,DataW.trod enc P w base (fun _ => true) held n e cs = some x → ∃ d,E.R (· < w.heap.size) w d cs) : ∃ l v,cs = [v] ∧ RdL E (· < w.heap.size) w v l := by
 rcases DataW.trod_slice ht h with ⟨rfl,_⟩ | ⟨a,len,cap,elems,rest,n,hf,rfl,_,hb,hl,hm,hlen,hel,_,_⟩
 ·exact ⟨[],_,rfl,RdL.nil _ _ _⟩
 ·obtain ⟨l,hll,hp⟩ := zfk (p := fun i d => ∃ cs',E.R (· < w.heap.size) w d cs' ∧ ∀ j,j < cs'.length → w.cell? (a.add (i * E.size + j)) = cs'[j]?) len (fun i hil => by
   have h1 := hel i hil
   rw [List.getElem?_eq_getElem (by omega)] at h1
   obtain ⟨cs',h2,h3⟩ := Option.bind_eq_some_iff.1 h1
   obtain ⟨d,hd⟩ := hE n (by omega) cs' _ h3
   obtain ⟨_,hcl,hat⟩ := World.cells?_some h2
   refine ⟨d,cs',hd,fun j hj => ?_⟩
   have := hat j (by omega)
   rw [add_add,hc] at this
   exact this)
  refine ⟨l,_,rfl,?_⟩
  rw [← hll] at hl ⊢
  refine ⟨some a,cap,rfl,hl,hm,?_⟩
  rcases Nat.eq_zero_or_pos l.length with h0 | h0
  ·exact .inl (List.eq_nil_of_length_eq_zero h0)
  ·obtain ⟨cs0,hR0,hc0⟩ := hp 0 h0
   have hl0 := E.len hR0
   have hpos := E.pos
   have hcell := hc0 0 (by omega)
   rw [List.getElem?_eq_getElem (by omega)] at hcell
   obtain ⟨b,off,spot⟩ := a
   have hspot : spot = none := by simpa [Addr.add] using World.cell?_spot hcell
   subst hspot
   have hblt := World.block_lt_of_cell? w _ hcell
   refine .inr ⟨b,off,rfl,by simpa [Addr.add_lit] using hblt,fun r hr => ?_⟩
   obtain ⟨cs',hR,hcs⟩ := hp r hr
   refine ⟨cs',hR,fun j u hj => ?_⟩
   have := hcs j (List.getElem?_eq_some_iff.1 hj).1
   rw [hj,Addr.add_lit,← Nat.add_assoc] at this
   exact this
end
theorem zmx:∀ (F:Nat) {H:Type} {enc:TypeId×Value→H} {w:World} {base:Nat} {held:Bool} {fuel:Nat} {cs:List Value} {x:DataW H×List MemPlace},fuel≤F→DataW.trod enc Tryz.prog w base (fun _=>true) held fuel 26 cs=some x→∃ d,Elt.nd.R (·<w.heap.size) w d cs:=by
 intro F
 induction F with
 | zero =>
  intro H enc w base held fuel cs x hF h
  obtain⟨xs,n,hn,_⟩:=DataW.trod_struct Tryz.underlying26 h
  omega
 | succ F ih =>
  intro H enc w base held fuel cs x hF h
  obtain⟨xs,n,hn,_,hl,hlen,hf⟩:=DataW.trod_struct Tryz.underlying26 h
  have hc:cs.length=3:=hl.trans (by kernel_rfl)
  match cs,hc,xs,hlen with
  | [u,v,r],_,[y0,y1,y2],_ =>
   have h0:DataW.trod enc Tryz.prog w base (fun _=>true) held n 22 [u]=some y0:=hf 0 _ rfl
   have h1:DataW.trod enc Tryz.prog w base (fun _=>true) held n 23 [v]=some y1:=hf 1 _ rfl
   have h2:DataW.trod enc Tryz.prog w base (fun _=>true) held n 24 [r]=some y2:=hf 2 _ rfl
   obtain⟨ks,u',hu,hku⟩:=zfi (E:=Elt.bytes) (P:=Tryz.prog) (t:=22) (e:=30) (by kernel_rfl) (by kernel_rfl) h0 (fun m _ cs x h=>zgo.bytes (P:=Tryz.prog) (t:=30) (e:=5) (by kernel_rfl) (by kernel_rfl) (by kernel_rfl) h)
   obtain⟨chs,v',hv,hcv⟩:=zfi (E:=Elt.list Elt.ver) (P:=Tryz.prog) (t:=23) (e:=70) (by kernel_rfl) (by kernel_rfl) h1 (fun m _ cs x h=>zpb h)
   obtain⟨ns,r',hr,hnr⟩:=zfi (E:=Elt.nd) (P:=Tryz.prog) (t:=24) (e:=26) (by kernel_rfl) (by kernel_rfl) h2 (fun m hm cs x h=>ih (by omega) h)
   cases hu;cases hv;cases hr
   exact⟨.mk ks chs ns,nd_in hku hcv hnr⟩
theorem zpc:zgo Tryz.prog 26 Elt.nd:=fun {_ _ _ _ _ fuel _ _} h=>zmx fuel (Nat.le_refl _) h
theorem wf_I64 {s:Int}(h:(Lit.int .i64 s).wf=true):I64' s:=by
 simp [Lit.wf,IntKind.min,IntKind.max,IntKind.signed,IntKind.bits] at h
 unfold I64'
 omega
theorem zmj (w:World) (t t2:TypeId) (us vs:List Value):∃ W,W=(w.alloc (.cells us.toArray t)).alloc (.cells vs.toArray t2)∧Below w.heap.size w W∧BoxN W w.heap.size t us∧BoxN W (w.heap.size+1) t2 vs∧W.heap.size=w.heap.size+1+1:=by
 have h1:Below w.heap.size w (w.alloc (.cells us.toArray t)):=(Below.refl _ _).alloc (Nat.le_refl _) _
 have hs:(w.alloc (.cells us.toArray t)).heap.size=w.heap.size+1:=by simp only [World.alloc,Array.size_push]
 have hb:=BoxN.new (w.alloc (.cells us.toArray t)) t2 vs
 rw [hs] at hb
 exact⟨_,rfl,h1.alloc h1.size _,(BoxN.new w t us).below ((Below.refl _ _).alloc (Nat.le_refl _) _) (by rw [hs];omega),hb,by simp only [World.alloc,Array.size_push]⟩
theorem spQ7:SgQ Tryz.prog 32 4:=⟨⟨_,Tryz.underlying32⟩,by kernel_rfl⟩
def sgVq (l:List Pq):SG:=⟨fun w v=>∃ a c,v=.slice a l.length c∧RdL Elt.pq (fun _=>True) w (.slice a l.length c) l,fun _ _ _⟨a,c,e,h⟩hb=>⟨a,c,e,h.below hb⟩⟩
theorem open_st {H:Type} {enc:TypeId×Value→H} {w:World} {base:Nat} {held:Bool} {fuel:Nat} {cs:Array Value} {x:DataW H×List MemPlace} (h:DataW.trod enc Tryz.prog w base (fun _=>true) held fuel 29 (Value.agg cs).cells.toList=some x):∃ T,RdSt (·<w.heap.size) w (.agg cs) T:=by
 have e0:(Value.agg cs).cells.toList=cs.toList:=by simp [Value.cells]
 rw [e0] at h
 obtain⟨xs,n,_,_,hl,hlen,hf⟩:=DataW.trod_struct Tryz.underlying29 h
 have hc:cs.toList.length=12:=hl.trans (by kernel_rfl)
 obtain⟨l⟩:=cs
 match l,hc,xs,hlen with
 | [u0,u1,u2,u3,u4,u5,u6,u7,u8,u9,u10,u11],_,[y0],_ =>
  have h0:DataW.trod enc Tryz.prog w base (fun _=>true) held n 27 [u0,u1,u2,u3,u4,u5,u6,u7,u8,u9,u10,u11]=some y0:=hf 0 _ rfl
  obtain⟨ys,m,_,_,_,hn,hi⟩:=DataW.trod_array Tryz.underlying27 h0
  have hce:Tryz.prog.cellsOf 26=3:=by kernel_rfl
  have key:∀ i,i<4→∃ d,RdN (·<w.heap.size) w (.agg (List.take 3 (List.drop (i*3) [u0,u1,u2,u3,u4,u5,u6,u7,u8,u9,u10,u11])).toArray) d:=fun i h4=>by
   obtain⟨y,hy⟩:∃ y,ys[i]?=some y:=⟨_,List.getElem?_eq_getElem (by omega)⟩
   have h5:=hi i h4
   rw [hce,hy] at h5
   obtain⟨d,hR⟩:=zpc h5
   exact⟨d,RdN.of hR⟩
  obtain⟨n0,r0⟩:=key 0 (by omega)
  replace r0:RdN (·<w.heap.size) w (.agg #[u0,u1,u2]) n0:=r0
  have q0:=r0
  obtain⟨a0,c0,a1,c1,a2,c2,e0,_⟩:=q0
  injection e0 with e0
  injection e0 with e0
  injection e0 with x0 e0
  injection e0 with x1 e0
  injection e0 with x2 e0
  subst x0 x1 x2
  clear e0
  obtain⟨n1,r1⟩:=key 1 (by omega)
  replace r1:RdN (·<w.heap.size) w (.agg #[u3,u4,u5]) n1:=r1
  have q1:=r1
  obtain⟨a3,c3,a4,c4,a5,c5,e1,_⟩:=q1
  injection e1 with e1
  injection e1 with e1
  injection e1 with x3 e1
  injection e1 with x4 e1
  injection e1 with x5 e1
  subst x3 x4 x5
  clear e1
  obtain⟨n2,r2⟩:=key 2 (by omega)
  replace r2:RdN (·<w.heap.size) w (.agg #[u6,u7,u8]) n2:=r2
  have q2:=r2
  obtain⟨a6,c6,a7,c7,a8,c8,e2,_⟩:=q2
  injection e2 with e2
  injection e2 with e2
  injection e2 with x6 e2
  injection e2 with x7 e2
  injection e2 with x8 e2
  subst x6 x7 x8
  clear e2
  obtain⟨n3,r3⟩:=key 3 (by omega)
  replace r3:RdN (·<w.heap.size) w (.agg #[u9,u10,u11]) n3:=r3
  have q3:=r3
  obtain⟨a9,c9,a10,c10,a11,c11,e3,_⟩:=q3
  injection e3 with e3
  injection e3 with e3
  injection e3 with x9 e3
  injection e3 with x10 e3
  injection e3 with x11 e3
  subst x9 x10 x11
  clear e3
  exact⟨fun i=>[n0,n1,n2,n3].getD i (.mk [] [] []),fun i=>[a0,a1,a2,a3,a4,a5,a6,a7,a8,a9,a10,a11].getD i none,fun i=>[n0.keys.length,n0.chains.length,n0.kids.length,n1.keys.length,n1.chains.length,n1.kids.length,n2.keys.length,n2.chains.length,n2.kids.length,n3.keys.length,n3.chains.length,n3.kids.length].getD i 0,fun i=>[c0,c1,c2,c3,c4,c5,c6,c7,c8,c9,c10,c11].getD i 0,rfl,fun i h4=>match i,h4 with
   | 0,_=>r0
   | 1,_=>r1
   | 2,_=>r2
   | 3,_=>r3⟩
def zre(ops:Array Oper)(j i:Nat):Bool:=(ops[j]?).any fun o=>o.after.any fun e=>e.on==i&&Region.binds .any e
theorem zlw {ops:Array Oper} {j i:Nat}(h:zre ops j i=true):∃ o,ops[j]?=some o∧∃ e∈o.after,e.on=i∧Region.binds .any e=true:=by
 unfold zre at h
 cases ho:ops[j]? with
 | none=>rw [ho] at h;simp at h
 | some o =>
  rw [ho] at h
  simp only [Option.any_some,Array.any_eq_true',Bool.and_eq_true,beq_iff_eq] at h
  exact⟨o,rfl,h⟩
def incB:List Nat→Bool
 | []=>true
 | [_]=>true
 | c::d::r=>decide (c<d)&&incB (d::r)
theorem zod:∀ {r:List Nat} {c q d:Nat},incB (c::r)=true→r[q]?=some d→c<d
 | [],_,_,_,_,h=>by simp at h
 | x::r,c,0,d,h,h2=>by
  simp only [incB,Bool.and_eq_true,decide_eq_true_eq] at h
  obtain rfl:x=d:=by simpa using h2
  exact h.1
 | x::r,c,q+1,d,h,h2=>by
  simp only [incB,Bool.and_eq_true,decide_eq_true_eq] at h
  exact Nat.lt_trans h.1 (zod h.2 (by simpa using h2))
theorem zrb:∀ {l:List Nat} {p q c d:Nat},incB l=true→l[p]?=some c→l[q]?=some d→p<q→c<d
 | [],_,_,_,_,_,h,_,_=>by simp at h
 | x::r,0,q+1,c,d,h,h1,h2,_=>by
  obtain rfl:x=c:=by simpa using h1
  exact zod h (by simpa using h2)
 | x::r,p+1,q+1,c,d,h,h1,h2,h3=>by
  have h':incB r=true:=by
   cases r with
   | nil=>rfl
   | cons y r=>simp only [incB,Bool.and_eq_true] at h;exact h.2
  exact zrb h' (by simpa using h1) (by simpa using h2) (by omega)
 | _,_,0,_,_,_,_,_,h=>absurd h (Nat.not_lt_zero _)
theorem inc_ix {l:List Nat} {p q c:Nat} (h:incB l=true) (h1:l[p]?=some c) (h2:l[q]?=some c):p=q:=by
 rcases Nat.lt_trichotomy p q with h3 | h3 | h3
 ·exact absurd (zrb h h1 h2 h3) (Nat.lt_irrefl _)
 ·exact h3
 ·exact absurd (zrb h h2 h1 h3) (Nat.lt_irrefl _)
def zm2 (ops:Array Oper) (ch:List Nat):Bool :=
 (ch.all fun c=>decide (c<ops.size))&&incB ch&&(List.range ch.length).all fun p=>p==0||zre ops (ch.getD p 0) (ch.getD (p - 1) 0)
theorem zm1 {ops:Array Oper} {ch:List Nat} (h:zm2 ops ch=true) {p c:Nat} (hp:ch[p]?=some c):c<ops.size:=by
 simp only [zm2,Bool.and_eq_true,List.all_eq_true,decide_eq_true_eq] at h
 exact h.1.1 c (List.mem_of_getElem? hp)
theorem zpe {ops:Array Oper} {ch:List Nat} (h:zm2 ops ch=true) {p c d:Nat} (hp:ch[p+1]?=some d) (hc:ch[p]?=some c):zre ops d c=true:=by
 simp only [zm2,Bool.and_eq_true,List.all_eq_true,List.mem_range,Bool.or_eq_true,beq_iff_eq] at h
 have:=(h.2 (p+1) (List.getElem?_eq_some_iff.1 hp).1).resolve_left (by omega)
 rwa [List.getD_eq_getElem?_getD,hp,List.getD_eq_getElem?_getD,Nat.add_sub_cancel,hc] at this
section
variable {P : Program} {Q : Exit → Act → World → Prop}
def LineOp (P:Program) (Q:Exit→Act→World→Prop) (ops:Array Oper) (a:Act) (ch:List Nat) (G:Nat→World→Value→Prop) (J:List Value→World→Prop) (K:World→World→Prop) (p:Nat) (o:Oper):Prop :=
 ∀ (A:Act) (vs:Nat→Value) (w':World),(∀ t,zby ops.toList 0 t=none→A.eval (.tmp t)=a.eval (.tmp t))→(∀ t j,t<a.tmps.size→zby ops.toList 0 t=some j→A.eval (.tmp t)=vs j)→J ((ch.take p).map vs) w' →
  (∀ q j d,p≤q→ch[q]?=some j→(ops[j]?).bind (·.dst)=some d→vs j=a.eval (.tmp d))→(∀ e∈o.after,Region.binds .any e=true→ch.contains e.on=false→G e.on w' (vs e.on)) →
  o.wp P A w' (fun a2 w2=>∃ v,a2=A.put o.dst v∧J ((ch.take p).map vs++[v]) w2∧K w' w2) Q
def SideOp (P:Program) (Q:Exit→Act→World→Prop) (ops:Array Oper) (a:Act) (ch:List Nat) (G:Nat→World→Value→Prop) (J:List Value→World→Prop) (i:Nat) (o:Oper):Prop :=
 ∀ (A:Act) (vs:Nat→Value) (w':World) (k:Nat),(∀ t,zby ops.toList 0 t=none→A.eval (.tmp t)=a.eval (.tmp t))→(∀ t j,t<a.tmps.size→zby ops.toList 0 t=some j→A.eval (.tmp t)=vs j)→k≤ch.length→J ((ch.take k).map vs) w' →
  (∀ p c,ch[p]?=some c→zre ops c i=true→k≤p)→(∀ q j d,k≤q→ch[q]?=some j→(ops[j]?).bind (·.dst)=some d→vs j=a.eval (.tmp d)) →
  (∀ e∈o.after,Region.binds .any e=true→∀ p,ch[p]?=some e.on→p<k)→(∀ e∈o.after,Region.binds .any e=true→ch.contains e.on=false→G e.on w' (vs e.on)) →
  o.wp P A w' (fun a2 w2=>∃ v,a2=A.put o.dst v∧G i w2 v∧Below w'.heap.size w' w2) Q
def LnOp(P:Program)(Q:Exit→Act→World→Prop)(ops:Array Oper)(a:Act)(ch:List Nat)(G:Nat→World→Value→Prop)(J:List Value→World→Prop)(K:World→World→Prop)(i:Nat)(o:Oper):Prop :=
 o.guard=none∧((∃ p,ch[p]?=some i∧LineOp P Q ops a ch G J K p o)∨(ch.contains i=false∧SideOp P Q ops a ch G J i o))
theorem LnOp.line {ops : Array Oper} {a : Act} {ch : List Nat} {G : Nat → World → Value → Prop} {J : List Value → World → Prop} {K : World → World → Prop} {i : Nat} {o : Oper} (p : Nat) (hg : o.guard = none) (hp : ch[p]? = some i) (h : LineOp P Q ops a ch G J K p o) : LnOp P Q ops a ch G J K i o := ⟨hg,.inl ⟨p,hp,h⟩⟩
theorem LnOp.side {ops : Array Oper} {a : Act} {ch : List Nat} {G : Nat → World → Value → Prop} {J : List Value → World → Prop} {K : World → World → Prop} {i : Nat} {o : Oper} (hg : o.guard = none) (hp : ch.contains i = false) (h : SideOp P Q ops a ch G J i o) : LnOp P Q ops a ch G J K i o := ⟨hg,.inr ⟨hp,h⟩⟩
def znj (P:Program) (Q:Exit→Act→World→Prop) (ops:Array Oper) (a:Act) (ch:List Nat) (G:Nat→World→Value→Prop) (J:List Value→World→Prop) (K:World→World→Prop):Nat→List Oper→Prop
 | _,[]=>True
 | i,o::rest=>LnOp P Q ops a ch G J K i o∧znj P Q ops a ch G J K (i+1) rest
theorem znj.get {ops : Array Oper} {a : Act} {ch : List Nat} {G : Nat → World → Value → Prop} {J : List Value → World → Prop} {K : World → World → Prop} : ∀ (l : List Oper) (k j : Nat) (o : Oper), znj P Q ops a ch G J K k l → l[j]? = some o → LnOp P Q ops a ch G J K (k + j) o
  | [], _, _, _, _, h => by simp at h
  | o' :: rest, k, 0, o, h, hj => by obtain rfl : o' = o := by simpa using hj
                                     exact h.1
  | o' :: rest, k, j + 1, o, h, hj => by rw [show k + (j + 1) = k + 1 + j by omega]; exact znj.get rest (k + 1) j o h.2 (by simpa using hj)
theorem zh0 {l:List Nat} {vs:Nat→Value} {i:Nat} {v:Value} (h:i ∉ l):l.map (upd vs i v)=l.map vs:=by
 refine List.map_congr_left fun j hj=>?_
 have:j≠i:=fun e=>h (by rw [← e];exact hj)
 simp [upd,this]
theorem zii {id : Nat} {ops : Array Oper} {a : Act} {w : World} (hm : P.follows .mixedOrders = true) (hs : gdB ops = true) (ch : List Nat) (hch : zm2 ops ch = true) (G : Nat → World → Value → Prop) (J : List Value → World → Prop) (K : World → World → Prop)
  (hG : ∀ i w v w',G i w v → Below w.heap.size w w' → G i w' v) (hK : ∀ i w v w',G i w v → K w w' → G i w' v) (hJ : ∀ l w w',J l w → Below w.heap.size w w' → J l w') (h0 : J [] w)
  (hop : znj P Q ops a ch G J K 0 ops.toList)
  (hend : ∀ (vs : Nat → Value) (w' : World),J (ch.map vs) w' → (∀ i,i < ops.size → ch.contains i = false → G i w' (vs i)) → Q .normal (zae a ops.toList vs 0) w') : (Code.region id ops true).wp P Q a w := by
 refine wp_region_any hm ?_
 have hnd : (ops.toList.filterMap (·.dst)).Nodup := by simp only [gdB,zky,Bool.and_eq_true,decide_eq_true_eq] at hs; exact hs.2
 have hinc : incB ch = true := by simp only [zm2,Bool.and_eq_true] at hch; exact hch.1.2
 have main : ∀ (fuel : Nat) (listed : Array Bool) (vs : Nat → Value) (w' : World) (k : Nat),listed.size = ops.size → (zb0 ops.size listed).length ≤ fuel → k ≤ ch.length → (∀ p c,ch[p]? = some c → (listed.getD c true = true ↔ p < k)) → J ((ch.take k).map vs) w' →
   (∀ i,i < ops.size → listed.getD i true = true → ch.contains i = false → G i w' (vs i)) → (∀ i o,ops[i]? = some o → listed.getD i true = true → ∀ e ∈ o.after,Region.binds .any e = true → e.on < ops.size ∧ listed.getD e.on true = true) → (∀ j,j < ops.size → listed.getD j true = false → ∀ d,(ops[j]?).bind (·.dst) = some d → vs j = a.eval (.tmp d)) → wpAny P .any ops Q fuel listed (zae a ops.toList vs 0) w' := by
  intro fuel
  have fin : ∀ (listed : Array Bool) (vs : Nat → Value) (w' : World) (k : Nat),k ≤ ch.length → (∀ p c,ch[p]? = some c → (listed.getD c true = true ↔ p < k)) → J ((ch.take k).map vs) w' →
    (∀ i,i < ops.size → listed.getD i true = true → ch.contains i = false → G i w' (vs i)) → (∀ i,i < ops.size → listed.getD i true = true) → Q .normal (zae a ops.toList vs 0) w' := by
   intro listed vs w' k hk hlk hJ' hG' hall
   have : k = ch.length := by
    rcases Nat.lt_or_ge k ch.length with h | h
    ·have h1 := List.getElem?_eq_getElem h
     have h2 := (hlk k _ h1).1 (hall _ (zm1 hch h1))
     omega
    ·omega
   subst this
   rw [List.take_length] at hJ'
   exact hend vs w' hJ' fun i hi hc => hG' i hi (hall i hi) hc
  induction fuel with
  | zero =>
   intro listed vs w' k hsz hu hk hlk hJ' hG' hcl hun
   have hall : ∀ i,i < ops.size → listed.getD i true = true := by
    intro i hi
    cases hl : listed.getD i true with
    | true => rfl
    | false =>
     have : i ∈ zb0 ops.size listed := List.mem_filter.2 ⟨List.mem_range.2 hi,by simp [hl]⟩
     rw [List.eq_nil_of_length_eq_zero (Nat.le_zero.1 hu)] at this
     cases this
   refine ⟨?_,fin listed vs w' k hk hlk hJ' hG' hall⟩
   unfold Region.ready
   rw [List.filter_eq_nil_iff]
   intro i hi
   simp [hall i (List.mem_range.1 hi)]
  | succ fuel ih =>
   intro listed vs w' k hsz hu hk hlk hJ' hG' hcl hun
   refine ⟨fun hr => fin listed vs w' k hk hlk hJ' hG' (fun i hi => zdb hs hr i hi),fun i hi => ?_⟩
   unfold Region.ready at hi
   obtain ⟨hi1,hi2⟩ := List.mem_filter.1 hi
   have hlt := List.mem_range.1 hi1
   rw [Bool.and_eq_true] at hi2
   obtain ⟨hl,hdep⟩ := hi2
   have hl' : listed.getD i true = false := by simpa using hl
   obtain ⟨o,ho⟩ : ∃ o,ops[i]? = some o := ⟨_,Array.getElem?_eq_getElem hlt⟩
   rw [ho] at hdep
   simp only [Option.map_some,Option.getD_some] at hdep
   rw [Array.all_eq_true'] at hdep
   have hgop := znj.get ops.toList 0 i o hop (by rw [Array.getElem?_toList]; exact ho)
   rw [Nat.zero_add] at hgop
   have hdepG : ∀ e ∈ o.after,Region.binds .any e = true → e.on < ops.size ∧ listed.getD e.on true = true := by
    intro e he hbn
    have h := hdep e he
    rw [hbn] at h
    simp only [Bool.not_true,Bool.false_or] at h
    have hin : e.on < listed.size := by
     rcases Nat.lt_or_ge e.on listed.size with h' | h'
     ·exact h'
     ·simp [Array.getD_eq_getD_getElem?,Array.getElem?_eq_none_iff.2 h'] at h
    have hl2 : listed.getD e.on true = true := by
     simp only [Array.getD_eq_getD_getElem?,Array.getElem?_eq_getElem hin,Option.getD_some] at h ⊢
     exact h
    exact ⟨by omega,hl2⟩
   have hdepS : ∀ e ∈ o.after,Region.binds .any e = true → ch.contains e.on = false → G e.on w' (vs e.on) := fun e he hbn hc => hG' e.on (hdepG e he hbn).1 (hdepG e he hbn).2 hc
   have hlate : ∀ q j d,k ≤ q → ch[q]? = some j → (ops[j]?).bind (·.dst) = some d → vs j = a.eval (.tmp d) := by
    intro q j d hq hj hd
    refine hun j (zm1 hch hj) ?_ d hd
    cases hlj : listed.getD j true with
    | false => rfl
    | true => have := (hlk q j hj).1 hlj; omega
   have step : ∀ (v : Value) (w2 : World) (k2 : Nat),k2 ≤ ch.length → (∀ p c,ch[p]? = some c → ((c = i ∨ p < k) ↔ p < k2)) → J ((ch.take k2).map (upd vs i v)) w2 → (ch.contains i = false → G i w2 v) → (∀ j u,ch.contains j = false → G j w' u → G j w2 u) → wpAny P .any ops Q fuel (listed.setIfInBounds i true) ((zae a ops.toList vs 0).put o.dst v) w2 := by
    intro v w2 k2 hk2 hlk2 hJ2 hGi hGs
    rw [zd6 ops.toList a vs 0 i o v hnd (by rw [Array.getElem?_toList]; exact ho),Nat.zero_add]
    have hset : ∀ j,(listed.setIfInBounds i true).getD j true = true ↔ j = i ∨ listed.getD j true = true := fun j => by
     by_cases hji : j = i
     ·subst hji
      simp [Array.getD_eq_getD_getElem?,Array.getElem?_setIfInBounds_self_of_lt (by omega : j < listed.size)]
     ·simp [Array.getD_eq_getD_getElem?,Array.getElem?_setIfInBounds_ne (Ne.symm hji),hji]
    refine ih _ _ _ k2 (by simp [hsz]) (by have := zdu hsz hlt hl'; omega) hk2 (fun p c hp => ?_) hJ2 (fun j hj hlj hc => ?_) (fun j oj hoj hlj e he hbn => ?_) (fun j hj hlj d hd => ?_)
    ·rw [hset,← hlk2 p c hp,hlk p c hp]
    ·by_cases hji : j = i
     ·subst hji
      simpa [upd] using hGi hc
     ·have hlj' := ((hset j).1 hlj).resolve_left hji
      have hv : upd vs i v j = vs j := by simp [upd,hji]
      rw [hv]
      exact hGs j _ hc (hG' j hj hlj' hc)
    ·by_cases hji : j = i
     ·subst hji
      obtain rfl : o = oj := by rw [ho] at hoj; injection hoj
      have := hdepG e he hbn
      exact ⟨this.1,(hset _).2 (.inr this.2)⟩
     ·have hlj' := ((hset j).1 hlj).resolve_left hji
      have := hcl j oj hoj hlj' e he hbn
      exact ⟨this.1,(hset _).2 (.inr this.2)⟩
    ·have hji : j ≠ i := fun e => by
      have := (hset j).2 (.inl e)
      rw [hlj] at this; cases this
     have hv : upd vs i v j = vs j := by simp [upd,hji]
     rw [hv]
     refine hun j hj ?_ d hd
     cases h : listed.getD j true with
     | false => rfl
     | true => have := (hset j).2 (.inr h); rw [hlj] at this; cases this
   unfold wpOp
   simp only [ho,Region.wanted,hgop.1,if_true]
   left
   rcases hgop.2 with ⟨p,hp,hln⟩ | ⟨hc,hsd⟩
   ·have hkp : k = p := by
     have h1 : ¬ p < k := fun h => by have := (hlk p i hp).2 h; rw [hl'] at this; cases this
     cases p with
     | zero => omega
     | succ p =>
      obtain ⟨c,hcp⟩ : ∃ c,ch[p]? = some c := ⟨_,List.getElem?_eq_getElem (by have := (List.getElem?_eq_some_iff.1 hp).1; omega)⟩
      obtain ⟨o2,ho2,e,he,rfl,hbn⟩ := zlw (zpe hch hp hcp)
      obtain rfl : o = o2 := by rw [ho] at ho2; injection ho2
      have := (hlk p _ hcp).1 (hdepG e he hbn).2
      omega
    subst hkp
    have hkl := (List.getElem?_eq_some_iff.1 hp).1
    have hwp := hln (zae a ops.toList vs 0) vs w' (fun t h => zbb _ _ _ _ _ h) (fun t j ht h => za8 _ _ _ _ _ _ hnd ht h) hJ' hlate hdepS
    refine Oper.wp_mono ?_ hwp
    rintro a2 w2 ⟨v,rfl,hJ2,hK2⟩
    refine step v w2 (k + 1) hkl (fun p c hpc => ?_) ?_ (fun hc => ?_) (fun j u _ hg => hK j w' u w2 hg hK2)
    ·constructor
     ·rintro (rfl | h)
      ·have := inc_ix hinc hpc hp; omega
      ·omega
     ·intro h
      by_cases h3 : p = k
      ·subst h3
       rw [hp] at hpc
       injection hpc with hpc
       exact .inl hpc.symm
      ·exact .inr (by omega)
    ·have e1 : ch.take (k + 1) = ch.take k ++ [i] := by
      rw [List.take_add_one,hp]; rfl
     have e2 : i ∉ ch.take k := fun hmem => by
      obtain ⟨q,hq⟩ := List.mem_iff_getElem?.1 hmem
      rw [List.getElem?_take] at hq
      split at hq
      ·have := inc_ix hinc hq hp; omega
      ·cases hq
     rw [e1,List.map_append,zh0 e2]
     simpa [upd] using hJ2
    ·rw [List.contains_iff_mem.2 (List.mem_of_getElem? hp)] at hc
     cases hc
   ·have hci : i ∉ ch := fun h => by rw [List.contains_iff_mem.2 h] at hc; cases hc
    have hwp := hsd (zae a ops.toList vs 0) vs w' k (fun t h => zbb _ _ _ _ _ h) (fun t j ht h => za8 _ _ _ _ _ _ hnd ht h) hk hJ' (fun p c hpc hh => ?_) hlate (fun e he hbn p hp => (hlk p e.on hp).1 (hdepG e he hbn).2) hdepS
    ·refine Oper.wp_mono ?_ hwp
     rintro a2 w2 ⟨v,rfl,hg,hb2⟩
     refine step v w2 k hk (fun p c hpc => ⟨fun h => ?_,.inr⟩) ?_ (fun _ => hg) (fun j u _ hgj => hG j w' u w2 hgj hb2)
     ·rcases h with rfl | h
      ·exact absurd (List.mem_of_getElem? hpc) hci
      ·exact h
     ·rw [zh0 (fun hmem => hci (List.mem_of_mem_take hmem))]
      exact hJ _ _ _ hJ' hb2
    ·rcases Nat.lt_or_ge p k with h | h
     ·exfalso
      obtain ⟨o2,ho2,e,he,hei,hbn⟩ := zlw hh
      have := (hcl c o2 ho2 ((hlk p c hpc).2 h) e he hbn).2
      rw [hei,hl'] at this
      cases this
     ·exact h
 have hbz : Below w.heap.size w { w with drawn := w.drawn + 1 } := ⟨rfl,rfl,rfl,Nat.le_refl _,fun _ _ => rfl⟩
 have h1 := main ops.size (Array.replicate ops.size false) (fun i => ((ops[i]?).bind (·.dst)).elim undef (fun d => a.tmps.getD d undef)) { w with drawn := w.drawn + 1 } 0 (by simp)
  (by have := List.length_filter_le (fun i => !(Array.replicate ops.size false).getD i true) (List.range ops.size); simpa [zb0] using this) (Nat.zero_le _)
  (fun p c hp => by have := zm1 hch hp; simp [Array.getD_eq_getD_getElem?,this]) (hJ _ _ _ h0 hbz)
  (fun i hi h => by simp [Array.getD_eq_getD_getElem?,hi] at h) (fun i o ho h => by
   have : i < ops.size := (Array.getElem?_eq_some_iff.1 ho).1
   simp [Array.getD_eq_getD_getElem?,this] at h)
  (fun j hj _ d hd => by simp only [hd,Option.elim]; rfl)
 rw [zdn ops.toList a _ 0 (fun j o d hj hd => by
  rw [Array.getElem?_toList] at hj
  simp [hj,hd])] at h1
 exact h1
end
abbrev SGn(K:World→World→Prop):={ G:World→Value→Prop //(∀ w v w',G w v→Below w.heap.size w w'→G w' v)∧(∀ w v w',G w v→K w w'→G w' v) }
section
variable {K : World → World → Prop}
def lEq(u:Value):SGn K:=⟨fun _ v=>v=u,fun _ _ _ h _=>h,fun _ _ _ h _=>h⟩
def lAny:SGn K:=⟨fun _ _=>True,fun _ _ _ h _=>h,fun _ _ _ h _=>h⟩
variable {P : Program} {Q : Exit → Act → World → Prop}
theorem zao {id:Nat} {ops:Array Oper} {a:Act} {w:World} (hm:P.follows .mixedOrders=true) (hs:gdB ops=true) (ch:List Nat) (hch:zm2 ops ch=true) (Gs:List (SGn K)) (J:List Value→World→Prop)
  (hJ:∀ l w w',J l w→Below w.heap.size w w'→J l w') (h0:J [] w)
  (hop:znj P Q ops a ch (fun i=>(Gs.getD i lAny).1) J K 0 ops.toList)
  (hend:∀ (vs:Nat→Value) (w':World),J (ch.map vs) w'→(∀ i,i<ops.size→ch.contains i=false→(Gs.getD i lAny).1 w' (vs i))→Q .normal (zae a ops.toList vs 0) w'):(Code.region id ops true).wp P Q a w :=
 zii hm hs ch hch (fun i=>(Gs.getD i lAny).1) J K (fun i=>(Gs.getD i lAny).2.1) (fun i=>(Gs.getD i lAny).2.2) hJ h0 hop hend
end
theorem zdx (w:World) (g:Nat) (cs:Array Value):w.grownBy (w.setRow g cs) (some g) :=
 ⟨rfl,rfl,rfl,by unfold World.setRow;simp,fun k _ hk=>setRow_other w g k cs (fun e=>hk (by rw [e]))⟩
section
variable {α : Type} {E : Elt α} {P : Program} {T Te : TypeId} {ops : Array Oper} {rest : List Oper} {o : Oper} {a : Act} {Q : Exit → Act → World → Prop} {w : World} {S : Nat → Prop}
theorem zjg (hP : LsP P T Te E.size) (w : World) (ty : TypeId) {ax : Option Addr} {nx cx : Nat} {l : List α} (hx : RdL E S w (.slice ax nx cx) l) {g off dl dc : Nat} {cur : Array Value} {t : TypeId}
  (hg : w.heap[g]? = some (.cells cur t (0,0))) (hdl : l.length ≤ dl) (hfit : off + l.length * E.size ≤ cur.size) :
  ∃ cs,Flat E S w l cs ∧ (Builtin.copy_ #[T,T] ty #[.slice (some ⟨g,off,none⟩) dl dc,.slice ax nx cx]).run P w = .ok (.int .i64 (l.length : Nat)) (w.setRow g (cur.toList.take off ++ cs ++ cur.toList.drop (off + cs.length)).toArray) := by
 obtain ⟨rfl,_,_⟩ := hx.len
 obtain ⟨i,hi,hsz⟩ := hP.info
 have hn : Nat.min l.length dl = l.length := Nat.min_eq_left hdl
 have key : ∀ cs : List Value,cs.length = l.length * E.size → (∀ u ∈ cs,u.oneCell' = true) → (Builtin.firstCells E.size l.length (.slice ax l.length cx)).run P w = .ok cs.toArray w →
   (Builtin.copy_ #[T,T] ty #[.slice (some ⟨g,off,none⟩) dl dc,.slice ax l.length cx]).run P w = .ok (.int .i64 (l.length : Nat)) (w.setRow g (cur.toList.take off ++ cs ++ cur.toList.drop (off + cs.length)).toArray) := by
  intro cs hcl h1 hfc
  have hst := run_storeCells_at P g off t cs 0 cur w hg (by rw [hcl]; omega) h1
  simp only [Nat.add_zero] at hst
  simp [Builtin.copy_,run_underlying hP.hT,Builtin.lenOf,sizeOf,typeInfo,hi,hsz,hn,hfc,hst,goInt]
 by_cases h0 : l = []
 ·subst h0
  refine ⟨[],rfl,key [] (by simp) (by simp) ?_⟩
  cases ax with
  | none => simp [Builtin.firstCells]
  | some p =>
   have := run_loadCells_list (P := P) w p [] (by simp)
   simpa [Builtin.firstCells] using this
 ·obtain ⟨b,o2,_,rfl,_⟩ := hx.at 0 (List.length_pos_iff.2 h0)
  obtain ⟨cs,hf,hc⟩ := hx.flat
  have hcl := hf.len
  refine ⟨cs,hf,key cs hcl hf.one ?_⟩
  have := run_loadCells_list (P := P) w ⟨b,o2,none⟩ cs (fun j u hj => by rw [Addr.add_lit]; exact hc j u hj)
  rw [hcl] at this
  simpa [Builtin.firstCells] using this
theorem zen (hP : LsP P T Te E.size) {d s : Operand} (ho : o.op = .call { callee := .builtin .copy,args := #[d,s],argTypes := #[T,T] }) (hgd : Region.wanted o (yielded ops a.tmps) = true)
  {ax : Option Addr} {nx cx : Nat} {l : List α} {g off dl dc : Nat} {cur : Array Value} {t : TypeId} (hd : a.eval d = .slice (some ⟨g,off,none⟩) dl dc) (hs : a.eval s = .slice ax nx cx) (hx : RdL E S w (.slice ax nx cx) l) (hg : w.heap[g]? = some (.cells cur t (0,0)))
  (h : ∀ cs w',Flat E S w l cs → w'.heap[g]? = some (.cells (cur.toList.take off ++ cs ++ cur.toList.drop (off + cs.length)).toArray t (0,0)) → w.grownBy w' (some g) → wpList P ops Q rest (a.put o.dst (.int .i64 (l.length : Nat))) w')
  (hdl : l.length ≤ dl) (hfit : off + l.length * E.size ≤ cur.size) : wpList P ops Q (o :: rest) a w := by
 obtain ⟨cs,hf,hr⟩ := zjg hP w o.type hx hg hdl hfit (dc := dc)
 refine BigFrame.wpList_want hgd fun K hK => ?_
 unfold Oper.wp execOp
 simp only [ho,resolve,invoke,builtin,Sem.run_bind,Sem.run_pure,Result.andThen_ok,List.map_toArray,List.map_cons,List.map_nil,hd,hs,hr]
 exact hK _ _ (h cs _ hf (setRow_heap _ _ _ _ _ _ hg) (zdx _ _ _))
theorem zdh {n:Nat} (hP:LsP P T Te n) {x:Operand} {lo hi:Option Operand} (ho:o.op=.slice T x lo hi none) (hgd:Region.wanted o (yielded ops a.tmps)=true) {ad:Option Addr} {k c:Nat} (hx:a.eval x=.slice ad k c)
  {l r:Nat} (hb:(Instr.sliceBounds true k c (lo.map a.eval) (hi.map a.eval) none).run P w=.ok (l,r,c) w)
  (h:wpList P ops Q rest (a.put o.dst (.slice (if c=l then ad else ad.map (·.add (l*n))) (r - l) (c - l))) w):wpList P ops Q (o::rest) a w:=by
 refine BigFrame.wpList_want hgd fun K hK=>?_
 unfold Oper.wp execOp
 simp only [ho,hx,Option.map_none,Sem.run_bind,Sem.run_pure,Result.andThen_ok,zgf hP hb]
 exact hK _ _ h
theorem zko (hP : LoP P T Te E.size) {x y : Operand} (ho : o.op = .makeSlice T x y) (hgd : Region.wanted o (yielded ops a.tmps) = true) {k : Nat} {i : Int} {kl kc : IntKind} (hx : a.eval x = .int kl i) (hy : a.eval y = .int kc i)
  (h : ∀ cur : Array Value,cur.size = k * E.size → wpList P ops Q rest (a.put o.dst (.slice (some ⟨w.heap.size,0,none⟩) k k)) (w.alloc (.cells cur Te))) (hik : i = (k : Int)) (hk : k ≤ 1073741824) : wpList P ops Q (o :: rest) a w := by
 subst hik
 refine BigFrame.wpList_want hgd fun K hK => ?_
 obtain ⟨i,z,hi,hz,hsz,hby,hzs⟩ := hP.all
 have hbytes : i.bytes * k ≤ 4096 * 1073741824 := Nat.mul_le_mul hby hk
 have hr := run_make (P := P) w T Te i z hP.hT hi hz kl kc (k : Int) (k : Int) (by omega) (Int.le_refl _) (by
  have : ((i.bytes * k : Nat) : Int) ≤ 281474976710656 := by omega
  rwa [Int.natCast_mul] at this) (by omega)
 simp only [Int.toNat_natCast] at hr
 unfold Oper.wp execOp
 simp only [ho,hx,hy,Sem.run_bind,Sem.run_pure,Result.andThen_ok,hr]
 exact hK _ _ (h _ (by rw [size_madeCells,hsz]))
end
structure Trd(F:Nat→Prop)(w w':World):Prop where
 os:w'.os=w.os
 tape:w'.tape=w.tape
 output:w'.output=w.output
 size:w.heap.size≤w'.heap.size
 block:∀ k,k<w.heap.size→¬ F k→w'.heap[k]?=w.heap[k]?
section
variable {F F' : Nat → Prop} {a b c w w' : World}
theorem Trd.refl(F:Nat→Prop)(w:World):Trd F w w:=⟨rfl,rfl,rfl,Nat.le_refl _,fun _ _ _=>rfl⟩
theorem Trd.mono (h:Trd F w w') (hf:∀ k,k<w.heap.size→F k→F' k):Trd F' w w':=⟨h.os,h.tape,h.output,h.size,fun k hk hn=>h.block k hk fun hF=>hn (hf k hk hF)⟩
theorem Trd.trans (h:Trd F a b) (k:Trd F' b c) (hf:∀ k,k<a.heap.size→F' k→F k):Trd F a c :=
 ⟨k.os.trans h.os,k.tape.trans h.tape,k.output.trans h.output,Nat.le_trans h.size k.size,fun i hi hn=>(k.block i (Nat.lt_of_lt_of_le hi h.size) fun hF=>hn (hf i hi hF)).trans (h.block i hi hn)⟩
theorem Trd.of(h:Below w.heap.size w w'):Trd F w w':=⟨h.os,h.tape,h.output,h.size,fun k hk _=>h.block k hk⟩
theorem Trd.ofGrown {r:Option Nat} (h:w.grownBy w' r) (hr:∀ k,r=some k→F k):Trd F w w':=⟨h.os,h.tape,h.output,h.size,fun k hk hn=>h.block k hk fun e=>hn (hr k e.symm)⟩
theorem Trd.below {n:Nat} (h:Trd F w w') (hn:n≤w.heap.size) (hf:∀ k,k<n→¬ F k):Below n w w':=⟨h.os,h.tape,h.output,h.size,fun k hk=>h.block k (Nat.lt_of_lt_of_le hk hn) (hf k hk)⟩
end
def RowQ(Te:TypeId)(sz:Nat)(w:World)(v:Value)(n:Nat)(vs:List Value):Prop:=w.ownsRow 0 Te sz v n vs∧∀ u∈vs,u.oneCell'=true
section
variable {Te : TypeId} {sz n : Nat} {w w' : World} {v : Value} {vs : List Value}
theorem RowQ.len(h:RowQ Te sz w v n vs):vs.length=n*sz:=h.1.1
theorem RowQ.cases (h : RowQ Te sz w v n vs) : (v = .slice none 0 0 ∧ n = 0 ∧ vs = []) ∨ ∃ g cap cur,v = .slice (some ⟨g,0,none⟩) n cap ∧ w.heap[g]? = some (.cells cur Te (0,0)) ∧ n ≤ cap ∧ cap ≤ maxLen ∧ cur.size = cap * sz ∧ cur.toList.take (n * sz) = vs := by
 rcases h.1.2 with ⟨h1,h2⟩ | ⟨g,cap,cur,h1,_,h2,h3,h4,h5,h6⟩
 ·refine .inl ⟨h1,h2,List.eq_nil_of_length_eq_zero ?_⟩
  rw [h.len,h2,Nat.zero_mul]
 ·exact .inr ⟨g,cap,cur,h1,h2,h3,h4,h5,h6⟩
theorem RowQ.of {g cap : Nat} {cur : Array Value} (hg : w.heap[g]? = some (.cells cur Te (0,0))) (h1 : n ≤ cap) (h2 : cap ≤ maxLen) (h3 : cur.size = cap * sz) (h4 : cur.toList.take (n * sz) = vs) (h5 : ∀ u ∈ vs,u.oneCell' = true) : RowQ Te sz w (.slice (some ⟨g,0,none⟩) n cap) n vs := by
 refine ⟨⟨?_,.inr ⟨g,cap,cur,rfl,Nat.zero_le _,hg,h1,h2,h3,h4⟩⟩,h5⟩
 rw [← h4,List.length_take,Array.length_toList,h3]
 exact Nat.min_eq_left (Nat.mul_le_mul_right _ h1)
theorem RowQ.nil (Te:TypeId) (sz:Nat) (w:World):RowQ Te sz w (.slice none 0 0) 0 []:=⟨World.ownsRow_nil _ _ _ _,fun _ h=>by cases h⟩
theorem RowQ.shape(h:RowQ Te sz w v n vs):∃ a c,v=.slice a n c∧n≤c∧c≤maxLen:=by
 rcases h.cases with⟨rfl,rfl,_⟩|⟨g,cap,cur,rfl,_,h1,h2,_⟩
 ·exact⟨none,0,rfl,Nat.le_refl _,by unfold maxLen;omega⟩
 ·exact⟨_,_,rfl,h1,h2⟩
theorem RowQ.block (h:RowQ Te sz w v n vs) {k:Nat} (hk:v.ownBlock=some k):∃ cur,w.heap[k]?=some (.cells cur Te (0,0)):=by
 rcases h.cases with⟨rfl,_,_⟩|⟨g,cap,cur,rfl,hg,_⟩
 ·simp [Value.ownBlock] at hk
 ·simp [Value.ownBlock] at hk
  subst hk
  exact⟨_,hg⟩
theorem RowQ.lt(h:RowQ Te sz w v n vs) {k:Nat}(hk:v.ownBlock=some k):k<w.heap.size:=by
 obtain⟨_,hg⟩:=h.block hk
 exact(Array.getElem?_eq_some_iff.1 hg).1
theorem RowQ.kept (h : RowQ Te sz w v n vs) (hk : ∀ k,v.ownBlock = some k → w'.heap[k]? = w.heap[k]?) : RowQ Te sz w' v n vs := by
 refine ⟨⟨h.1.1,?_⟩,h.2⟩
 rcases h.1.2 with h | ⟨g,cap,cur,rfl,h1,h2,h3⟩
 ·exact .inl h
 ·exact .inr ⟨g,cap,cur,rfl,h1,(hk g rfl).trans h2,h3⟩
theorem RowQ.trd {F:Nat→Prop} (h:RowQ Te sz w v n vs) (hb:Trd F w w') (hk:∀ k,v.ownBlock=some k→¬ F k):RowQ Te sz w' v n vs:=h.kept fun k e=>hb.block k (h.lt e) (hk k e)
theorem RowQ.below (h:RowQ Te sz w v n vs) (hb:Below w.heap.size w w'):RowQ Te sz w' v n vs:=h.kept fun k e=>hb.block k (h.lt e)
theorem RowQ.cell (h : RowQ Te sz w v n vs) {g : Nat} (hg : v.ownBlock = some g) {j : Nat} {u : Value} (hj : vs[j]? = some u) : w.cell? ⟨g,j,none⟩ = some u := by
 rcases h.cases with ⟨rfl,_,_⟩ | ⟨g',cap,cur,rfl,hb,_,_,_,ht⟩
 ·simp [Value.ownBlock] at hg
 ·simp [Value.ownBlock] at hg
  subst hg
  subst ht
  rw [List.getElem?_take] at hj
  split at hj
  ·simp [World.cell?,hb,← Array.getElem?_toList,hj]
  ·cases hj
end
section
variable {P : Program} {T Te : TypeId} {n : Nat} {ops : Array Oper} {rest : List Oper} {o : Oper} {a : Act} {Q : Exit → Act → World → Prop} {w : World} {K : Act → World → Prop}
theorem zdg (hP:LsP P T Te n) {x:Operand} {lo hi:Option Operand} (ho:o.op=.slice T x lo hi none) {ad:Option Addr} {k c:Nat} (hx:a.eval x=.slice ad k c) {lov hiv:Option Value} (hlo:lo.map a.eval=lov) (hhi:hi.map a.eval=hiv)
  {l r:Nat} (hb:(Instr.sliceBounds true k c lov hiv none).run P w=.ok (l,r,c) w)
  (h:K (a.put o.dst (.slice (if c=l then ad else ad.map (·.add (l*n))) (r - l) (c - l))) w):o.wp P a w K Q:=by
 subst hlo;subst hhi
 unfold Oper.wp execOp
 simp only [ho,hx,Option.map_none,Sem.run_bind,Sem.run_pure,Result.andThen_ok,zgf hP hb]
 exact h
theorem zmb (hP:LsP P T Te n) {x:Operand} {lo hi:Option Operand} (ho:o.op=.slice T x lo hi none) {ad:Option Addr} {k c:Nat} (hx:a.eval x=.slice ad k c) {lov hiv:Option Value} (hlo:lo.map a.eval=lov) (hhi:hi.map a.eval=hiv)
  {l r:Nat} (hb:(Instr.sliceBounds true k c lov hiv none).run P w=.ok (l,r,c) w)
  (h:∀ ad',K (a.put o.dst (.slice ad' (r - l) (c - l))) w):o.wp P a w K Q:=zdg hP ho hx hlo hhi hb (h _)
theorem zas (hP : LsP P T Te n) {x : Operand} {lo hi : Option Operand} (ho : o.op = .slice T x lo hi none) {g off k c : Nat} (hx : a.eval x = .slice (some ⟨g,off,none⟩) k c) {lov hiv : Option Value} (hlo : lo.map a.eval = lov) (hhi : hi.map a.eval = hiv)
  {l r : Nat} (hb : (Instr.sliceBounds true k c lov hiv none).run P w = .ok (l,r,c) w) (hne : c ≠ l)
  (h : K (a.put o.dst (.slice (some ⟨g,off + l * n,none⟩) (r - l) (c - l))) w) : o.wp P a w K Q := by
 refine zdg hP ho hx hlo hhi hb ?_
 rw [if_neg hne]
 simpa [Addr.add_lit] using h
theorem zdc (hP : LsP P T Te n) {x : Operand} {hi : Option Operand} (ho : o.op = .slice T x none hi none) {g off k c : Nat} (hx : a.eval x = .slice (some ⟨g,off,none⟩) k c) {hiv : Option Value} (hhi : hi.map a.eval = hiv)
  {r : Nat} (hb : (Instr.sliceBounds true k c none hiv none).run P w = .ok (0,r,c) w)
  (h : K (a.put o.dst (.slice (some ⟨g,off,none⟩) r c)) w) : o.wp P a w K Q := by
 refine zdg hP ho hx rfl hhi hb ?_
 simp only [Nat.sub_zero,Nat.zero_mul,Option.map_some,Addr.add_lit,Nat.add_zero]
 split <;> exact h
theorem za0 (hP:LsP P T Te n) {x:Operand} {lo hi:Option Operand} (ho:o.op=.slice T x lo hi none) (hgd:Region.wanted o (yielded ops a.tmps)=true) {ad:Option Addr} {k c:Nat} (hx:a.eval x=.slice ad k c)
  {l r:Nat} (hb:(Instr.sliceBounds true k c (lo.map a.eval) (hi.map a.eval) none).run P w=.ok (l,r,c) w)
  (h:∀ ad',wpList P ops Q rest (a.put o.dst (.slice ad' (r - l) (c - l))) w):wpList P ops Q (o::rest) a w :=
 BigFrame.wpList_want hgd fun _ hK=>zmb hP ho hx rfl rfl hb fun ad'=>hK _ _ (h ad')
theorem zag (hP : LsP P T Te n) {x : Operand} {lo hi : Option Operand} (ho : o.op = .slice T x lo hi none) (hgd : Region.wanted o (yielded ops a.tmps) = true) {g off k c : Nat} (hx : a.eval x = .slice (some ⟨g,off,none⟩) k c)
  {l r : Nat} (hb : (Instr.sliceBounds true k c (lo.map a.eval) (hi.map a.eval) none).run P w = .ok (l,r,c) w) (hne : c ≠ l)
  (h : wpList P ops Q rest (a.put o.dst (.slice (some ⟨g,off + l * n,none⟩) (r - l) (c - l))) w) : wpList P ops Q (o :: rest) a w :=
 BigFrame.wpList_want hgd fun _ hK => zas hP ho hx rfl rfl hb hne (hK _ _ h)
theorem za2 (hP : LsP P T Te n) {x : Operand} {hi : Option Operand} (ho : o.op = .slice T x none hi none) (hgd : Region.wanted o (yielded ops a.tmps) = true) {g off k c : Nat} (hx : a.eval x = .slice (some ⟨g,off,none⟩) k c)
  {r : Nat} (hb : (Instr.sliceBounds true k c none (hi.map a.eval) none).run P w = .ok (0,r,c) w)
  (h : wpList P ops Q rest (a.put o.dst (.slice (some ⟨g,off,none⟩) r c)) w) : wpList P ops Q (o :: rest) a w :=
 BigFrame.wpList_want hgd fun _ hK => zdc hP ho hx rfl hb (hK _ _ h)
theorem zmo (hP : LsP P T Te n) (w : World) (ty : TypeId) {sa : Addr} {nx cx : Nat} {cs : List Value} {g off dl dc : Nat} {cur : Array Value} {t : TypeId}
  (hg : w.heap[g]? = some (.cells cur t (0,0))) (hl : cs.length = min nx dl * n) (hc : ∀ j u,cs[j]? = some u → w.cell? (sa.add j) = some u) (h1 : ∀ u ∈ cs,u.oneCell' = true) (hfit : off + cs.length ≤ cur.size) :
  (Builtin.copy_ #[T,T] ty #[.slice (some ⟨g,off,none⟩) dl dc,.slice (some sa) nx cx]).run P w = .ok (.int .i64 (min nx dl : Nat)) (w.setRow g (cur.toList.take off ++ cs ++ cur.toList.drop (off + cs.length)).toArray) := by
 obtain ⟨i,hi,hsz⟩ := hP.info
 have hst := run_storeCells_at P g off t cs 0 cur w hg (by simpa using hfit) h1
 simp only [Nat.add_zero] at hst
 have hfc : (Builtin.firstCells n (Nat.min nx dl) (.slice (some sa) nx cx)).run P w = .ok cs.toArray w := by
  have := run_loadCells_list (P := P) w sa cs hc
  rw [hl] at this
  simpa [Builtin.firstCells] using this
 simp [Builtin.copy_,run_underlying hP.hT,Builtin.lenOf,sizeOf,typeInfo,hi,hsz,hfc,hst,goInt]
theorem zch (hP : LsP P T Te n) {d s : Operand} (ho : o.op = .call { callee := .builtin .copy,args := #[d,s],argTypes := #[T,T] }) {sa : Addr} {nx cx : Nat} {cs : List Value} {g off dl dc : Nat} {cur : Array Value} {t : TypeId} (hd : a.eval d = .slice (some ⟨g,off,none⟩) dl dc) (hs : a.eval s = .slice (some sa) nx cx)
  (hg : w.heap[g]? = some (.cells cur t (0,0))) (hl : cs.length = min nx dl * n) (hc : ∀ j u,cs[j]? = some u → w.cell? (sa.add j) = some u) (h1 : ∀ u ∈ cs,u.oneCell' = true) (hfit : off + cs.length ≤ cur.size)
  (h : ∀ w',w'.heap[g]? = some (.cells (cur.toList.take off ++ cs ++ cur.toList.drop (off + cs.length)).toArray t (0,0)) → w.grownBy w' (some g) → K (a.put o.dst (.int .i64 (min nx dl : Nat))) w') : o.wp P a w K Q := by
 have hr := zmo hP w o.type hg hl hc h1 hfit (dc := dc) (cx := cx)
 unfold Oper.wp execOp
 simp only [ho,resolve,invoke,builtin,Sem.run_bind,Sem.run_pure,Result.andThen_ok,List.map_toArray,List.map_cons,List.map_nil,hd,hs,hr]
 exact h _ (setRow_heap _ _ _ _ _ _ hg) (zdx _ _ _)
theorem zbo (hP : LsP P T Te n) {d s : Operand} (ho : o.op = .call { callee := .builtin .copy,args := #[d,s],argTypes := #[T,T] }) (hgd : Region.wanted o (yielded ops a.tmps) = true) {sa : Addr} {nx cx : Nat} {cs : List Value} {g off dl dc : Nat} {cur : Array Value} {t : TypeId} (hd : a.eval d = .slice (some ⟨g,off,none⟩) dl dc) (hs : a.eval s = .slice (some sa) nx cx)
  (hg : w.heap[g]? = some (.cells cur t (0,0))) (hl : cs.length = min nx dl * n) (hc : ∀ j u,cs[j]? = some u → w.cell? (sa.add j) = some u) (h1 : ∀ u ∈ cs,u.oneCell' = true) (hfit : off + cs.length ≤ cur.size)
  (h : ∀ w',w'.heap[g]? = some (.cells (cur.toList.take off ++ cs ++ cur.toList.drop (off + cs.length)).toArray t (0,0)) → w.grownBy w' (some g) → wpList P ops Q rest (a.put o.dst (.int .i64 (min nx dl : Nat))) w') : wpList P ops Q (o :: rest) a w :=
 BigFrame.wpList_want hgd fun _ hK => zch hP ho hd hs hg hl hc h1 hfit fun w' h2 h3 => hK _ _ (h w' h2 h3)
theorem zo8 (hP : LsP P T Te n) (w : World) (ty : TypeId) {g k cap : Nat} {cur : Array Value} {t : TypeId} {sa : Addr} {m c : Nat} {cs : List Value} (hg : w.heap[g]? = some (.cells cur t (0,0))) (hl : cs.length = m * n) (hc : ∀ j u,cs[j]? = some u → w.cell? (sa.add j) = some u)
  (h1 : ∀ u ∈ cs,u.oneCell' = true) (hroom : k + m ≤ cap) (hfit : k * n + cs.length ≤ cur.size) :
  (Builtin.append_ #[T,T] ty #[.slice (some ⟨g,0,none⟩) k cap,.slice (some sa) m c]).run P w = .ok (.slice (some ⟨g,0,none⟩) (k + m) cap) (w.setRow g (cur.toList.take (k * n) ++ cs ++ cur.toList.drop (k * n + cs.length)).toArray) := by
 obtain ⟨i,hi,hsz⟩ := hP.info
 have hst := run_storeCells_at P g (k * n) t cs 0 cur w hg (by simpa using hfit) h1
 simp only [Nat.add_zero] at hst
 have hfc : (Builtin.firstCells n m (.slice (some sa) m c)).run P w = .ok cs.toArray w := by
  have := run_loadCells_list (P := P) w sa cs hc
  rw [hl] at this
  simpa [Builtin.firstCells] using this
 simp [Builtin.append_,run_underlying hP.hT,sizeOf,typeInfo,hi,hsz,Builtin.lenOf,hroom,hfc,Addr.add_lit,hst]
theorem zhc (hP : LsP P T Te n) {s x : Operand} (ho : o.op = .call { callee := .builtin .append,args := #[s,x],argTypes := #[T,T] }) {g k cap : Nat} {cur : Array Value} {t : TypeId} {sa : Addr} {m c : Nat} {cs : List Value} (hs : a.eval s = .slice (some ⟨g,0,none⟩) k cap) (hx : a.eval x = .slice (some sa) m c)
  (hg : w.heap[g]? = some (.cells cur t (0,0))) (hl : cs.length = m * n) (hc : ∀ j u,cs[j]? = some u → w.cell? (sa.add j) = some u)
  (h1 : ∀ u ∈ cs,u.oneCell' = true) (hroom : k + m ≤ cap) (hfit : k * n + cs.length ≤ cur.size)
  (h : ∀ w',w'.heap[g]? = some (.cells (cur.toList.take (k * n) ++ cs ++ cur.toList.drop (k * n + cs.length)).toArray t (0,0)) → w.grownBy w' (some g) → K (a.put o.dst (.slice (some ⟨g,0,none⟩) (k + m) cap)) w') : o.wp P a w K Q := by
 have hr := zo8 hP w o.type hg hl hc h1 hroom hfit (c := c)
 unfold Oper.wp execOp
 simp only [ho,resolve,invoke,builtin,Sem.run_bind,Sem.run_pure,Result.andThen_ok,List.map_toArray,List.map_cons,List.map_nil,hs,hx,hr]
 exact h _ (setRow_heap _ _ _ _ _ _ hg) (zdx _ _ _)
def zcc(Te:TypeId)(sz:Nat)(w:World)(v:Value)(n':Nat)(vs':List Value)(v':Value)(w':World):Prop :=
 RowQ Te sz w' v' n' vs'∧w.grownBy w' v.ownBlock∧(v'.ownBlock=v.ownBlock∨∃ k,v'.ownBlock=some k∧w.heap.size≤k)
theorem znv (hP:LoP P T Te n) (h0:0<n) (w:World) (ty:TypeId) {v:Value} {k:Nat} {vs:List Value} (hv:RowQ Te n w v k vs) {p:Addr} {m c:Nat} {cs:List Value} (hl:cs.length=m*n) (hc:∀ j u,cs[j]?=some u→w.cell? (p.add j)=some u) (h1:∀ u∈cs,u.oneCell'=true) (hlen:k+m≤1073741824) :
  ∃ v' w',(Builtin.append_ #[T,T] ty #[v,.slice (some p) m c]).run P w=.ok v' w'∧zcc Te n w v (k+m) (vs++cs) v' w':=by
 obtain⟨i,z,hi,hz,hsz,hby,hzs⟩:=hP.all
 obtain⟨v',w',hr,ho,hg,_,hb⟩:=run_append_own_at (P:=P) (w:=w) 0 T ty Te i z n i.bytes hP.hT hi hz hsz rfl hzs h0 v k vs hv.1 p m c cs hl hc h1 (by unfold maxLen;omega)
  (by have:=Nat.mul_le_mul hlen hby;omega) (Nat.zero_le _)
 exact⟨v',w',hr,⟨ho,fun u hu=>(List.mem_append.1 hu).elim (hv.2 u) (h1 u)⟩,hg,hb.imp id fun e=>⟨_,e,Nat.le_refl _⟩⟩
theorem wp_appQ (hP:LoP P T Te n) (h0:0<n) {s x:Operand} (ho:o.op=.call { callee:=.builtin .append,args:=#[s,x],argTypes:=#[T,T] }) {v:Value} {k:Nat} {vs:List Value} (hs:a.eval s=v) (hv:RowQ Te n w v k vs) {p:Addr} {m c:Nat} {cs:List Value} (hx:a.eval x=.slice (some p) m c)
  (hl:cs.length=m*n) (hc:∀ j u,cs[j]?=some u→w.cell? (p.add j)=some u) (h1:∀ u∈cs,u.oneCell'=true) (hlen:k+m≤1073741824)
  (h:∀ ad cap w',zcc Te n w v (k+m) (vs++cs) (.slice ad (k+m) cap) w'→K (a.put o.dst (.slice ad (k+m) cap)) w'):o.wp P a w K Q:=by
 obtain⟨v',w',hrun,h2⟩:=znv hP h0 w o.type hv hl hc h1 hlen (c:=c)
 obtain⟨ad,cap,rfl,_⟩:=h2.1.shape
 unfold Oper.wp execOp
 simp only [ho,resolve,invoke,builtin,Sem.run_bind,Sem.run_pure,Result.andThen_ok,List.map_toArray,List.map_cons,List.map_nil,hs,hx,hrun]
 exact h _ _ _ h2
theorem zcw (hP:LoP P T Te n) (h0:0<n) {s x:Operand} (ho:o.op=.call { callee:=.builtin .append,args:=#[s,x],argTypes:=#[T,T] }) (hgd:Region.wanted o (yielded ops a.tmps)=true) {v:Value} {k:Nat} {vs:List Value} (hs:a.eval s=v) (hv:RowQ Te n w v k vs) {p:Addr} {m c:Nat} {cs:List Value} (hx:a.eval x=.slice (some p) m c)
  (hl:cs.length=m*n) (hc:∀ j u,cs[j]?=some u→w.cell? (p.add j)=some u) (h1:∀ u∈cs,u.oneCell'=true) (hlen:k+m≤1073741824)
  (h:∀ ad cap w',zcc Te n w v (k+m) (vs++cs) (.slice ad (k+m) cap) w'→wpList P ops Q rest (a.put o.dst (.slice ad (k+m) cap)) w'):wpList P ops Q (o::rest) a w :=
 BigFrame.wpList_want hgd fun _ hK=>wp_appQ hP h0 ho hs hv hx hl hc h1 hlen fun ad cap w' h2=>hK _ _ (h ad cap w' h2)
theorem run_appZ (hP : LoP P T Te n) (h0 : 0 < n) {Ti : TypeId} (hTi : P.underlying Ti = some (.int .i64)) (w : World) (ty : TypeId) {p : Option Addr} {k cap : Nat} {cs : List Value} (hl : cs.length = k * n) (hc : ∀ q,p = some q → ∀ j u,cs[j]? = some u → w.cell? (q.add j) = some u) (hm : p = none → k = 0) {m : Nat} (hm0 : 0 < m) (hg : cap < k + m) (hlen : k + m ≤ 1073741824) :
  ∃ (G : Nat) (cur : Array Value),k + m ≤ G ∧ G ≤ maxLen ∧ cur.size = G * n ∧ cur.toList.take (k * n) = cs ∧
   (Builtin.append_ #[T,Ti] ty #[.slice p k cap,.int .i64 m]).run P w = .ok (.slice (some ⟨w.heap.size,0,none⟩) (k + m) G) (w.drew.alloc (.cells cur Te)) := by
 obtain ⟨i,z,hi,hz,hsz,hby,hzs⟩ := hP.all
 have hold : (Builtin.firstCells i.size k (.slice p k cap)).run P w.drew = .ok cs.toArray w.drew := by
  rw [hsz]
  cases p with
  | none =>
   obtain rfl := hm rfl
   obtain rfl : cs = [] := List.eq_nil_of_length_eq_zero (by omega)
   simp [Builtin.firstCells]
  | some q => exact run_firstCells_some w.drew n k q k cap cs hl (hc q rfl)
 have hbytes : (k + m) * i.bytes ≤ 1073741824 * 4096 := Nat.mul_le_mul hlen hby
 have hmb : m * i.bytes ≤ 1073741824 * 4096 := Nat.mul_le_mul (by omega) hby
 have hr := Lib.run_append_grow_zeros w T Ti ty Te i z .i64 .i64 hP.hT hTi hi hz p k cap cs hold m hm0 (by omega) hg (by omega) (by omega) (growslice_fits hg (by omega))
 refine ⟨_,_,grownCap_ge w (k + m) cap Te,grownCap_le_maxLen w _ _ _ (by unfold maxLen; omega),?_,?_,hr⟩
 ·have hge := grownCap_ge w (k + m) cap Te
  simp only [Array.size_append,List.size_toArray,size_zeroCells,hzs,hl,← Nat.add_mul]
  congr 1
  omega
 ·simp only [Array.toList_append,List.append_assoc]
  rw [← hl]
  exact List.take_left
theorem zcu (hP : LoP P T Te n) (h0 : 0 < n) {Ti : TypeId} (hTi : P.underlying Ti = some (.int .i64)) {s x : Operand} (ho : o.op = .call { callee := .builtin .append,args := #[s,x],argTypes := #[T,Ti] }) (hgd : Region.wanted o (yielded ops a.tmps) = true) {p : Option Addr} {k cap m : Nat} {i : Int} (hs : a.eval s = .slice p k cap) (hx : a.eval x = .int .i64 i) (him : i = (m : Int))
  {cs : List Value} (hl : cs.length = k * n) (hc : ∀ q,p = some q → ∀ j u,cs[j]? = some u → w.cell? (q.add j) = some u) (hm : p = none → k = 0) (hm0 : 0 < m) (hg : cap < k + m) (hlen : k + m ≤ 1073741824)
  (h : ∀ (G : Nat) (cur : Array Value),k + m ≤ G → G ≤ maxLen → cur.size = G * n → cur.toList.take (k * n) = cs → wpList P ops Q rest (a.put o.dst (.slice (some ⟨w.heap.size,0,none⟩) (k + m) G)) (w.drew.alloc (.cells cur Te))) : wpList P ops Q (o :: rest) a w := by
 subst him
 refine BigFrame.wpList_want hgd fun K hK => ?_
 obtain ⟨G,cur,h1,h2,h3,h4,hr⟩ := run_appZ hP h0 hTi w o.type hl hc hm hm0 hg hlen
 unfold Oper.wp execOp
 simp only [ho,resolve,invoke,builtin,Sem.run_bind,Sem.run_pure,Result.andThen_ok,List.map_toArray,List.map_cons,List.map_nil,hs,hx,hr]
 exact hK _ _ (h G cur h1 h2 h3 h4)
theorem zo7 (hP : LoP P T Te n) (hz1 : ∀ i z,P.info? Te = some i → i.zero = some z → ∀ u ∈ z.cells.toList,u.oneCell' = true) (w : World) (ty : TypeId) {ad : Option Addr} {m c : Nat} {g off : Nat} {cur : Array Value} {t : TypeId} (hg : w.heap[g]? = some (.cells cur t (0,0))) (had : m = 0 ∨ ad = some ⟨g,off,none⟩) (hfit : m = 0 ∨ off + m * n ≤ cur.size) :
  ∃ w' cur',(Builtin.clear_ #[T] ty #[.slice ad m c]).run P w = .ok (.tuple #[]) w' ∧ w'.heap[g]? = some (.cells cur' t (0,0)) ∧ cur'.size = cur.size ∧ (m ≠ 0 → cur'.toList.take off = cur.toList.take off) ∧ (m = 0 → cur' = cur) ∧ w.grownBy w' (some g) := by
 obtain ⟨i,z,hi,hz,hsz,hby,hzs⟩ := hP.all
 by_cases h0 : m = 0
 ·subst h0
  refine ⟨w,cur,?_,hg,rfl,fun _ => rfl,fun _ => rfl,⟨rfl,rfl,rfl,Nat.le_refl _,fun _ _ _ => rfl⟩⟩
  cases ad <;> simp [Builtin.clear_,run_underlying hP.hT]
 ·obtain rfl := had.resolve_left h0
  have hfit := hfit.resolve_left h0
  have hzl : (Builtin.zeroCells z.cells m).toList.length = m * n := by rw [Array.length_toList,size_zeroCells,hzs]
  have h1 : ∀ u ∈ (Builtin.zeroCells z.cells m).toList,u.oneCell' = true := by
   intro u hu
   simp only [Builtin.zeroCells,Array.toList_map,List.mem_map] at hu
   obtain ⟨j,hj,rfl⟩ := hu
   simp only [Array.toList_range,List.mem_range] at hj
   have h2 : 0 < z.cells.size := by
    rcases Nat.eq_zero_or_pos z.cells.size with h | h
    ·rw [h,Nat.mul_zero] at hj; omega
    ·exact h
   have h3 := Nat.mod_lt j h2
   rw [getElem!_pos z.cells _ h3]
   exact hz1 i z hi hz _ (by simp)
  have hst := run_storeCells_at P g off t _ 0 cur w hg (by rw [hzl]; simpa using hfit) h1
  simp only [Nat.add_zero] at hst
  refine ⟨_,(cur.toList.take off ++ (Builtin.zeroCells z.cells m).toList ++ cur.toList.drop (off + (Builtin.zeroCells z.cells m).toList.length)).toArray,?_,setRow_heap w g cur _ t _ hg,?_,?_,fun h => absurd h h0,zdx _ _ _⟩
  rotate_left
  ·simp only [List.size_toArray,List.length_append,List.length_take,List.length_drop,hzl,Array.length_toList]
   omega
  ·intro _
   simp only [List.append_assoc]
   rw [List.take_append_of_le_length (by rw [List.length_take,Array.length_toList]; omega),List.take_take,Nat.min_self]
  ·obtain ⟨m',rfl⟩ : ∃ m',m = m' + 1 := ⟨m - 1,by omega⟩
   have hzv : (zeroValue Te).run P w = .ok z w := by simp [zeroValue,typeInfo,hi,hz]
   simp only [Builtin.clear_,List.getElem?_toArray,List.getElem?_cons_zero,Sem.run_bind,run_underlying hP.hT,Result.andThen_ok,hzv,hst,Sem.run_pure]
end
section
variable {P : Program} {Q : Exit → Act → World → Prop}
def wpOpS (P:Program) (ops:Array Oper) (Q:Exit→Act→World→Prop) (i:Nat) (K:Act→World→Prop) (a:Act) (w:World):Prop :=
 match ops[i]? with
 | none=>K a w
 | some o=>if Region.wanted o (yielded ops a.tmps) then o.wp P a w K Q else K (a.put o.dst undef) w
def zgq (P:Program) (ops:Array Oper) (Q:Exit→Act→World→Prop):Nat→Array Bool→Act→World→Prop
 | 0,listed,a,w=>Region.ready .any ops listed=[]∧Q .normal a w
 | fuel+1,listed,a,w =>
  (Region.ready .any ops listed=[]→Q .normal a w) ∧
  ∀ i∈Region.ready .any ops listed,wpOpS P ops Q i (zgq P ops Q fuel (listed.setIfInBounds i true)) a w
theorem zme {o:Oper} {l n:Nat} {a:Act} {w:World} {K K':Act→World→Prop} (hd:∀ c,o.op≠.defer c) (hK:∀ a w,K a w→K' a w) (h:o.wp P a w K Q):o.wpIn (Fence.wide.inRound l) n P a w K' Q:=by
 replace h:=Oper.wp_mono hK h
 unfold Oper.wp at h
 unfold Oper.wpIn
 refine⟨fun _ _=>trivial,?_⟩
 rw [show (Fence.wide.inRound l).round=some l from rfl,Oper.semAt_some l _ _ hd]
 generalize (execOp a.eval o).run P w=r at *
 cases r with
 | ok x w' =>
  cases x<;>simp only [Oper.upon,Oper.uponIn] at h ⊢<;>first
   | exact h
   | exact h.elim
   | exact⟨(fun h=>by cases h),CallsIn.inRound l ((callsIn_wide (n:=n - 1)).2 h)⟩
   | exact⟨(fun h=>by cases h),fun c cs _=>let⟨v,w',r,s⟩:=h c cs;⟨v,w',r,stepsIn_wide.2 s⟩⟩
 | halt x w'=>cases x<;>simp only [Oper.upon,Oper.uponIn] at h ⊢<;>first | exact h | exact h.elim
theorem zg8 {ops:Array Oper}:∀ (fuel:Nat) (listed:Array Bool) (a:Act) (w:World),zgq P ops Q fuel listed a w→wpAny P .any ops Q fuel listed a w
 | 0,_,_,_,h=>h
 | fuel+1,listed,a,w,⟨h1,h2⟩=>⟨h1,fun i hi=>by
  have h:=h2 i hi
  unfold wpOpS at h
  unfold wpOp
  split
  ·rename_i ho
   rw [ho] at h
   exact zg8 fuel _ _ _ h
  ·rename_i o ho
   rw [ho] at h
   dsimp only at h
   split
   ·rename_i hw
    rw [if_pos hw] at h
    exact .inl (Oper.wp_mono (fun a w=>zg8 fuel _ a w) h)
   ·rename_i hw
    rw [if_neg hw] at h
    exact zg8 fuel _ _ _ h⟩
theorem zke {ops:Array Oper} {l n:Nat} (hd:∀ (i:Nat) (o:Oper),ops[i]?=some o→∀ c,o.op≠.defer c):∀ (fuel:Nat) (listed:Array Bool) (a:Act) (w:World),zgq P ops Q fuel listed a w→wpAnyIn (Fence.wide.inRound l) n P .any ops Q fuel listed a w
 | 0,_,_,_,h=>h
 | fuel+1,listed,a,w,⟨h1,h2⟩=>⟨h1,fun i hi=>by
  have h:=h2 i hi
  unfold wpOpS at h
  unfold wpOpIn
  split
  ·rename_i ho
   rw [ho] at h
   exact zke hd fuel _ _ _ h
  ·rename_i o ho
   rw [ho] at h
   dsimp only at h
   split
   ·rename_i hw
    rw [if_pos hw] at h
    exact zme (hd i o ho) (fun a w=>zke hd fuel _ a w) h
   ·rename_i hw
    rw [if_neg hw] at h
    exact⟨fun _ _=>trivial,zke hd fuel _ _ _ h⟩⟩
def zj3(ops:Array Oper):Bool:=ops.toList.all fun o=>match o.op with|.defer _=>false|_=>true
theorem zll {ops:Array Oper} (h:zj3 ops=true):∀ (i:Nat) (o:Oper),ops[i]?=some o→∀ c,o.op≠.defer c:=fun i o ho c e=>by
 have:=List.all_eq_true.1 h o (by rw [← Array.getElem?_toList] at ho;exact List.mem_of_getElem? ho)
 rw [e] at this
 cases this
theorem zmd {id:Nat} {ops:Array Oper} {a:Act} {w:World} (hm:P.follows .mixedOrders=true) (h:zgq P ops Q ops.size (Array.replicate ops.size false) a { w with drawn:=w.drawn+1 }):(Code.region id ops true).wp P Q a w :=
 wp_region_any hm (zg8 _ _ _ _ h)
theorem zja {id l n:Nat} {ops:Array Oper} {a:Act} {w:World} (hm:P.follows .mixedOrders=true) (hd:zj3 ops=true) (h:zgq P ops Q ops.size (Array.replicate ops.size false) a { w with drawn:=w.drawn+1 }):(Code.region id ops true).wpIn (Fence.wide.inRound l) n P Q a w :=
 wpIn_region_any hm (zke (zll hd) _ _ _ _ h)
end
section
variable {P : Program} {Q : Exit → Act → World → Prop}
def don(D:Nat→Bool)(i:Nat):Nat→Bool:=fun j=>if j=i then true else D j
def told (S:List Nat) (D:Nat→Bool) (vs:Nat→Value):List (Option Value):=S.map fun j=>if D j then some (vs j) else none
def SetOp (P:Program) (Q:Exit→Act→World→Prop) (ops:Array Oper) (a:Act) (S:List Nat) (G:Nat→World→Value→Prop) (E:List (Option Value)→World→Prop) (K:World→World→Prop) (i:Nat) (o:Oper):Prop :=
 ∀ (A:Act) (va:Nat→Value) (D:Nat→Bool) (w':World),(∀ t,zby ops.toList 0 t=none→A.eval (.tmp t)=a.eval (.tmp t))→(∀ t j,t<a.tmps.size→zby ops.toList 0 t=some j→A.eval (.tmp t)=va j)→D i=false→E (told S D va) w' →
  (∀ e∈o.after,Region.binds .any e=true→D e.on=true)→(∀ j d,D j=false→(ops[j]?).bind (·.dst)=some d→va j=a.eval (.tmp d))→(∀ e∈o.after,Region.binds .any e=true→S.contains e.on=false→G e.on w' (va e.on)) →
  o.wp P A w' (fun a2 w2=>∃ v,a2=A.put o.dst v∧E (told S (don D i) (upd va i v)) w2∧K w' w2) Q
def FreeOp (P:Program) (Q:Exit→Act→World→Prop) (ops:Array Oper) (a:Act) (S:List Nat) (G:Nat→World→Value→Prop) (E:List (Option Value)→World→Prop) (i:Nat) (o:Oper):Prop :=
 ∀ (A:Act) (va:Nat→Value) (D:Nat→Bool) (w':World),(∀ t,zby ops.toList 0 t=none→A.eval (.tmp t)=a.eval (.tmp t))→(∀ t j,t<a.tmps.size→zby ops.toList 0 t=some j→A.eval (.tmp t)=va j)→D i=false→E (told S D va) w' →
  (∀ e∈o.after,Region.binds .any e=true→D e.on=true)→(∀ j d,D j=false→(ops[j]?).bind (·.dst)=some d→va j=a.eval (.tmp d))→(∀ e∈o.after,Region.binds .any e=true→S.contains e.on=false→G e.on w' (va e.on)) →
  o.wp P A w' (fun a2 w2=>∃ v,a2=A.put o.dst v∧G i w2 v∧Below w'.heap.size w' w2) Q
def StOp (P:Program) (Q:Exit→Act→World→Prop) (ops:Array Oper) (a:Act) (S:List Nat) (G:Nat→World→Value→Prop) (E:List (Option Value)→World→Prop) (K:World→World→Prop) (i:Nat) (o:Oper):Prop :=
 o.guard=none∧((S.contains i=true∧SetOp P Q ops a S G E K i o)∨(S.contains i=false∧FreeOp P Q ops a S G E i o))
theorem StOp.set {ops : Array Oper} {a : Act} {S : List Nat} {G : Nat → World → Value → Prop} {E : List (Option Value) → World → Prop} {K : World → World → Prop} {i : Nat} {o : Oper} (hg : o.guard = none) (hp : S.contains i = true) (h : SetOp P Q ops a S G E K i o) : StOp P Q ops a S G E K i o := ⟨hg,.inl ⟨hp,h⟩⟩
theorem StOp.free {ops : Array Oper} {a : Act} {S : List Nat} {G : Nat → World → Value → Prop} {E : List (Option Value) → World → Prop} {K : World → World → Prop} {i : Nat} {o : Oper} (hg : o.guard = none) (hp : S.contains i = false) (h : FreeOp P Q ops a S G E i o) : StOp P Q ops a S G E K i o := ⟨hg,.inr ⟨hp,h⟩⟩
def zil (P:Program) (Q:Exit→Act→World→Prop) (ops:Array Oper) (a:Act) (S:List Nat) (G:Nat→World→Value→Prop) (E:List (Option Value)→World→Prop) (K:World→World→Prop):Nat→List Oper→Prop
 | _,[]=>True
 | i,o::rest=>StOp P Q ops a S G E K i o∧zil P Q ops a S G E K (i+1) rest
theorem zil.get {ops : Array Oper} {a : Act} {S : List Nat} {G : Nat → World → Value → Prop} {E : List (Option Value) → World → Prop} {K : World → World → Prop} : ∀ (l : List Oper) (k j : Nat) (o : Oper), zil P Q ops a S G E K k l → l[j]? = some o → StOp P Q ops a S G E K (k + j) o
  | [], _, _, _, _, h => by simp at h
  | o' :: rest, k, 0, o, h, hj => by obtain rfl : o' = o := by simpa using hj
                                     exact h.1
  | o' :: rest, k, j + 1, o, h, hj => by rw [show k + (j + 1) = k + 1 + j by omega]; exact zil.get rest (k + 1) j o h.2 (by simpa using hj)
theorem told_out {S:List Nat} {D:Nat→Bool} {vs:Nat→Value} {i:Nat} {v:Value} (h:i ∉ S):told S (don D i) (upd vs i v)=told S D vs:=by
 refine List.map_congr_left fun j hj=>?_
 have:j≠i:=fun e=>h (by rw [← e];exact hj)
 simp [upd,don,this]
theorem zoq {ops : Array Oper} {a : Act} {w : World} (hs : gdB ops = true) (S : List Nat) (hS : (S.all fun c => decide (c < ops.size)) = true) (G : Nat → World → Value → Prop) (E : List (Option Value) → World → Prop) (K : World → World → Prop)
  (hG : ∀ i w v w',G i w v → Below w.heap.size w w' → G i w' v) (hK : ∀ i w v w',G i w v → K w w' → G i w' v) (hE : ∀ l w w',E l w → Below w.heap.size w w' → E l w') (h0 : E (S.map fun _ => none) w)
  (hop : zil P Q ops a S G E K 0 ops.toList)
  (hend : ∀ (vs : Nat → Value) (w' : World),E (S.map fun j => some (vs j)) w' → (∀ i,i < ops.size → S.contains i = false → G i w' (vs i)) → Q .normal (zae a ops.toList vs 0) w') : zgq P ops Q ops.size (Array.replicate ops.size false) a { w with drawn := w.drawn + 1 } := by
 have hnd : (ops.toList.filterMap (·.dst)).Nodup := by simp only [gdB,zky,Bool.and_eq_true,decide_eq_true_eq] at hs; exact hs.2
 have hSl : ∀ c ∈ S,c < ops.size := fun c hc => by simpa using List.all_eq_true.1 hS c hc
 have main : ∀ (fuel : Nat) (listed : Array Bool) (vs : Nat → Value) (w' : World),listed.size = ops.size → (zb0 ops.size listed).length ≤ fuel → E (told S (fun j => listed.getD j true) vs) w' →
   (∀ i,i < ops.size → listed.getD i true = true → S.contains i = false → G i w' (vs i)) → (∀ j,j < ops.size → listed.getD j true = false → ∀ d,(ops[j]?).bind (·.dst) = some d → vs j = a.eval (.tmp d)) → zgq P ops Q fuel listed (zae a ops.toList vs 0) w' := by
  intro fuel
  have fin : ∀ (listed : Array Bool) (vs : Nat → Value) (w' : World),E (told S (fun j => listed.getD j true) vs) w' →
    (∀ i,i < ops.size → listed.getD i true = true → S.contains i = false → G i w' (vs i)) → (∀ i,i < ops.size → listed.getD i true = true) → Q .normal (zae a ops.toList vs 0) w' := by
   intro listed vs w' hE' hG' hall
   refine hend vs w' ?_ fun i hi hc => hG' i hi (hall i hi) hc
   have : told S (fun j => listed.getD j true) vs = S.map fun j => some (vs j) := List.map_congr_left fun j hj => by simp [hall j (hSl j hj)]
   rw [← this]; exact hE'
  induction fuel with
  | zero =>
   intro listed vs w' hsz hu hE' hG' hun
   have hall : ∀ i,i < ops.size → listed.getD i true = true := by
    intro i hi
    cases hl : listed.getD i true with
    | true => rfl
    | false =>
     have : i ∈ zb0 ops.size listed := List.mem_filter.2 ⟨List.mem_range.2 hi,by simp [hl]⟩
     rw [List.eq_nil_of_length_eq_zero (Nat.le_zero.1 hu)] at this
     cases this
   refine ⟨?_,fin listed vs w' hE' hG' hall⟩
   unfold Region.ready
   rw [List.filter_eq_nil_iff]
   intro i hi
   simp [hall i (List.mem_range.1 hi)]
  | succ fuel ih =>
   intro listed vs w' hsz hu hE' hG' hun
   refine ⟨fun hr => fin listed vs w' hE' hG' (fun i hi => zdb hs hr i hi),fun i hi => ?_⟩
   unfold Region.ready at hi
   obtain ⟨hi1,hi2⟩ := List.mem_filter.1 hi
   have hlt := List.mem_range.1 hi1
   rw [Bool.and_eq_true] at hi2
   obtain ⟨hl,hdep⟩ := hi2
   have hl' : listed.getD i true = false := by simpa using hl
   obtain ⟨o,ho⟩ : ∃ o,ops[i]? = some o := ⟨_,Array.getElem?_eq_getElem hlt⟩
   rw [ho] at hdep
   simp only [Option.map_some,Option.getD_some] at hdep
   rw [Array.all_eq_true'] at hdep
   have hgop := zil.get ops.toList 0 i o hop (by rw [Array.getElem?_toList]; exact ho)
   rw [Nat.zero_add] at hgop
   have hdepG : ∀ e ∈ o.after,Region.binds .any e = true → e.on < ops.size ∧ listed.getD e.on true = true := by
    intro e he hbn
    have h := hdep e he
    rw [hbn] at h
    simp only [Bool.not_true,Bool.false_or] at h
    have hin : e.on < listed.size := by
     rcases Nat.lt_or_ge e.on listed.size with h' | h'
     ·exact h'
     ·simp [Array.getD_eq_getD_getElem?,Array.getElem?_eq_none_iff.2 h'] at h
    have hl2 : listed.getD e.on true = true := by
     simp only [Array.getD_eq_getD_getElem?,Array.getElem?_eq_getElem hin,Option.getD_some] at h ⊢
     exact h
    exact ⟨by omega,hl2⟩
   have hdepS : ∀ e ∈ o.after,Region.binds .any e = true → S.contains e.on = false → G e.on w' (vs e.on) := fun e he hbn hc => hG' e.on (hdepG e he hbn).1 (hdepG e he hbn).2 hc
   have hdepD : ∀ e ∈ o.after,Region.binds .any e = true → (fun j => listed.getD j true) e.on = true := fun e he hbn => (hdepG e he hbn).2
   have hlate : ∀ j d,(fun j => listed.getD j true) j = false → (ops[j]?).bind (·.dst) = some d → vs j = a.eval (.tmp d) := by
    intro j d hj hd
    refine hun j ?_ hj d hd
    rcases Nat.lt_or_ge j ops.size with h | h
    ·exact h
    ·rw [Array.getElem?_eq_none h] at hd; simp at hd
   have hset : ∀ j,(listed.setIfInBounds i true).getD j true = don (fun j => listed.getD j true) i j := fun j => by
    by_cases hji : j = i
    ·subst hji
     simp [don,Array.getD_eq_getD_getElem?,Array.getElem?_setIfInBounds_self_of_lt (by omega : j < listed.size)]
    ·simp [don,hji,Array.getD_eq_getD_getElem?,Array.getElem?_setIfInBounds_ne (Ne.symm hji)]
   have step : ∀ (v : Value) (w2 : World),E (told S (don (fun j => listed.getD j true) i) (upd vs i v)) w2 → (S.contains i = false → G i w2 v) → (∀ j u,S.contains j = false → G j w' u → G j w2 u) → zgq P ops Q fuel (listed.setIfInBounds i true) ((zae a ops.toList vs 0).put o.dst v) w2 := by
    intro v w2 hE2 hGi hGs
    rw [zd6 ops.toList a vs 0 i o v hnd (by rw [Array.getElem?_toList]; exact ho),Nat.zero_add]
    refine ih _ _ _ (by simp [hsz]) (by have := zdu hsz hlt hl'; omega) ?_ (fun j hj hlj hc => ?_) (fun j hj hlj d hd => ?_)
    ·rw [show (fun j => (listed.setIfInBounds i true).getD j true) = don (fun j => listed.getD j true) i from funext hset]
     exact hE2
    ·by_cases hji : j = i
     ·subst hji
      simpa [upd] using hGi hc
     ·have hlj' : listed.getD j true = true := by rw [hset] at hlj; simpa [don,hji] using hlj
      have hv : upd vs i v j = vs j := by simp [upd,hji]
      rw [hv]
      exact hGs j _ hc (hG' j hj hlj' hc)
    ·have hji : j ≠ i := fun e => by
      rw [hset,e] at hlj
      simp [don] at hlj
     have hv : upd vs i v j = vs j := by simp [upd,hji]
     rw [hv]
     rw [hset] at hlj
     exact hun j hj (by simpa [don,hji] using hlj) d hd
   unfold wpOpS
   simp only [ho,Region.wanted,hgop.1,if_true]
   rcases hgop.2 with ⟨hc,hln⟩ | ⟨hc,hsd⟩
   ·have hwp := hln (zae a ops.toList vs 0) vs (fun j => listed.getD j true) w' (fun t h => zbb _ _ _ _ _ h) (fun t j ht h => za8 _ _ _ _ _ _ hnd ht h) hl' hE' hdepD hlate hdepS
    refine Oper.wp_mono ?_ hwp
    rintro a2 w2 ⟨v,rfl,hE2,hK2⟩
    exact step v w2 hE2 (fun h => by rw [hc] at h; cases h) (fun j u _ hg => hK j w' u w2 hg hK2)
   ·have hci : i ∉ S := fun h => by rw [List.contains_iff_mem.2 h] at hc; cases hc
    have hwp := hsd (zae a ops.toList vs 0) vs (fun j => listed.getD j true) w' (fun t h => zbb _ _ _ _ _ h) (fun t j ht h => za8 _ _ _ _ _ _ hnd ht h) hl' hE' hdepD hlate hdepS
    refine Oper.wp_mono ?_ hwp
    rintro a2 w2 ⟨v,rfl,hg,hb2⟩
    refine step v w2 ?_ (fun _ => hg) (fun j u _ hgj => hG j w' u w2 hgj hb2)
    rw [told_out hci]
    exact hE _ _ _ hE' hb2
 have hbz : Below w.heap.size w { w with drawn := w.drawn + 1 } := ⟨rfl,rfl,rfl,Nat.le_refl _,fun _ _ => rfl⟩
 have hno : ∀ j,j < ops.size → (Array.replicate ops.size false).getD j true = false := fun j hj => by simp [Array.getD_eq_getD_getElem?,hj]
 have h1 := main ops.size (Array.replicate ops.size false) (fun i => ((ops[i]?).bind (·.dst)).elim undef (fun d => a.tmps.getD d undef)) { w with drawn := w.drawn + 1 } (by simp)
  (by have := List.length_filter_le (fun i => !(Array.replicate ops.size false).getD i true) (List.range ops.size); simpa [zb0] using this)
  (by
   have : told S (fun j => (Array.replicate ops.size false).getD j true) (fun i => ((ops[i]?).bind (·.dst)).elim undef (fun d => a.tmps.getD d undef)) = S.map fun _ => none := List.map_congr_left fun j hj => by simp [hno j (hSl j hj)]
   rw [this]
   exact hE _ _ _ h0 hbz)
  (fun i hi h => by rw [hno i hi] at h; cases h)
  (fun j hj _ d hd => by simp only [hd,Option.elim]; rfl)
 rw [zdn ops.toList a _ 0 (fun j o d hj hd => by
  rw [Array.getElem?_toList] at hj
  simp [hj,hd])] at h1
 exact h1
theorem zi5 {id:Nat} {ops:Array Oper} {a:Act} {w:World} (hm:P.follows .mixedOrders=true) (hs:gdB ops=true) (S:List Nat) (hS:(S.all fun c=>decide (c<ops.size))=true) (G:Nat→World→Value→Prop) (E:List (Option Value)→World→Prop) (K:World→World→Prop)
  (hG:∀ i w v w',G i w v→Below w.heap.size w w'→G i w' v) (hK:∀ i w v w',G i w v→K w w'→G i w' v) (hE:∀ l w w',E l w→Below w.heap.size w w'→E l w') (h0:E (S.map fun _=>none) w)
  (hop:zil P Q ops a S G E K 0 ops.toList)
  (hend:∀ (vs:Nat→Value) (w':World),E (S.map fun j=>some (vs j)) w'→(∀ i,i<ops.size→S.contains i=false→G i w' (vs i))→Q .normal (zae a ops.toList vs 0) w'):(Code.region id ops true).wp P Q a w:=zmd hm (zoq hs S hS G E K hG hK hE h0 hop hend)
theorem zhf {l n:Nat} {id:Nat} {ops:Array Oper} {a:Act} {w:World} (hm:P.follows .mixedOrders=true) (hd:zj3 ops=true) (hs:gdB ops=true) (S:List Nat) (hS:(S.all fun c=>decide (c<ops.size))=true) (G:Nat→World→Value→Prop) (E:List (Option Value)→World→Prop) (K:World→World→Prop)
  (hG:∀ i w v w',G i w v→Below w.heap.size w w'→G i w' v) (hK:∀ i w v w',G i w v→K w w'→G i w' v) (hE:∀ l w w',E l w→Below w.heap.size w w'→E l w') (h0:E (S.map fun _=>none) w)
  (hop:zil P Q ops a S G E K 0 ops.toList)
  (hend:∀ (vs:Nat→Value) (w':World),E (S.map fun j=>some (vs j)) w'→(∀ i,i<ops.size→S.contains i=false→G i w' (vs i))→Q .normal (zae a ops.toList vs 0) w'):(Code.region id ops true).wpIn (Fence.wide.inRound l) n P Q a w:=zja hm hd (zoq hs S hS G E K hG hK hE h0 hop hend)
end
section
variable {P : Program} {Q : Exit → Act → World → Prop} {K : World → World → Prop}
theorem zd0 {id:Nat} {ops:Array Oper} {a:Act} {w:World} (hm:P.follows .mixedOrders=true) (hs:gdB ops=true) (S:List Nat) (hS:(S.all fun c=>decide (c<ops.size))=true) (Gs:List (SGn K)) (E:List (Option Value)→World→Prop)
  (hE:∀ l w w',E l w→Below w.heap.size w w'→E l w') (h0:E (S.map fun _=>none) w)
  (hop:zil P Q ops a S (fun i=>(Gs.getD i lAny).1) E K 0 ops.toList)
  (hend:∀ (vs:Nat→Value) (w':World),E (S.map fun j=>some (vs j)) w'→(∀ i,i<ops.size→S.contains i=false→(Gs.getD i lAny).1 w' (vs i))→Q .normal (zae a ops.toList vs 0) w'):(Code.region id ops true).wp P Q a w :=
 zi5 hm hs S hS (fun i=>(Gs.getD i lAny).1) E K (fun i=>(Gs.getD i lAny).2.1) (fun i=>(Gs.getD i lAny).2.2) hE h0 hop hend
theorem zg0 {l n:Nat} {id:Nat} {ops:Array Oper} {a:Act} {w:World} (hm:P.follows .mixedOrders=true) (hd:zj3 ops=true) (hs:gdB ops=true) (S:List Nat) (hS:(S.all fun c=>decide (c<ops.size))=true) (Gs:List (SGn K)) (E:List (Option Value)→World→Prop)
  (hE:∀ l w w',E l w→Below w.heap.size w w'→E l w') (h0:E (S.map fun _=>none) w)
  (hop:zil P Q ops a S (fun i=>(Gs.getD i lAny).1) E K 0 ops.toList)
  (hend:∀ (vs:Nat→Value) (w':World),E (S.map fun j=>some (vs j)) w'→(∀ i,i<ops.size→S.contains i=false→(Gs.getD i lAny).1 w' (vs i))→Q .normal (zae a ops.toList vs 0) w'):(Code.region id ops true).wpIn (Fence.wide.inRound l) n P Q a w :=
 zhf hm hd hs S hS (fun i=>(Gs.getD i lAny).1) E K (fun i=>(Gs.getD i lAny).2.1) (fun i=>(Gs.getD i lAny).2.2) hE h0 hop hend
end
def newB (W : World) (z : Option Value) (w : World) (g : Nat) : Prop := W.heap.size ≤ g ∧ g < w.heap.size ∧ ∀ b,z = some (.pointer (some ⟨b,0,none⟩)) → g ≠ b
def newC (W : World) (o0 z : Option Value) (w : World) (g : Nat) : Prop := newB W z w g ∧ ∀ b n m,o0 = some (.slice (some ⟨b,0,none⟩) n m) → g ≠ b
structure RdP(R:(Nat→Prop)→World→Value→Value→Prop):Prop where
 keep:∀ {S w w' v e},R S w v e→(∀ k,S k→w'.heap[k]?=w.heap[k]?)→R S w' v e
 weak:∀ {S S' w v e},R S w v e→(∀ k,S k→S' k)→R S' w v e
structure CbS (hk : Bool) (C0 : Array Value) (E0 : TypeId) (R : (Nat → Prop) → World → Value → Value → Prop) (Z : Obj) (Bx : World → Nat → Value → Prop) (K1 K2 : (Nat → Prop) → World → Value → Prop) (W : World) (o0 o1 o2 c m x y z s : Option Value) (w : World) : Prop where
 be : Below W.heap.size W w
 k0 : ∀ u,o0 = some u → ∃ g,u = .slice (some ⟨g,0,none⟩) C0.size C0.size ∧ newB W z w g ∧ (o1 = none → w.heap[g]? = some (.cells C0 E0 (0,0)))
 k1 : ∀ u,o1 = some u → K1 (newB W z w) w u
 k2 : ∀ u,o2 = some u → K2 (newC W o0 z w) w u
 rr : ∀ u,c = some u → ∃ v e,u = .tuple #[v,e] ∧ R (newC W o0 z w) w v e
 mv : ∀ u,m = some u → c = some u
 mx : ∀ u,x = some u → ∃ e,m = some (.tuple #[u,e])
 my : ∀ u,y = some u → ∃ v,m = some (.tuple #[v,u])
 zz : ∀ u,z = some u → ∃ b,u = .pointer (some ⟨b,0,none⟩) ∧ W.heap.size ≤ b ∧ b < w.heap.size ∧ (s = none → w.heap[b]? = some Z)
 sc : s ≠ none → c ≠ none
 dk : hk = true → c ≠ none → o0 ≠ none ∧ o1 ≠ none
 d1 : hk = true → o1 ≠ none → o0 ≠ none
 ss : ∀ u,s = some u → ∃ b v,z = some (.pointer (some ⟨b,0,none⟩)) ∧ x = some v ∧ Bx w b v
section
variable {hk : Bool} {C0 : Array Value} {E0 : TypeId} {R : (Nat → Prop) → World → Value → Value → Prop} {Z : Obj} {Bx : World → Nat → Value → Prop} {K1 K2 : (Nat → Prop) → World → Value → Prop} {W w w' : World} {o0 o1 o2 c m x y z s : Option Value}
theorem CbS.start(W:World):CbS hk C0 E0 R Z Bx K1 K2 W none none none none none none none none none W where
 be:=Below.refl _ _
 k0 _ h:=by cases h
 k1 _ h:=by cases h
 k2 _ h:=by cases h
 rr _ h:=by cases h
 mv _ h:=by cases h
 mx _ h:=by cases h
 my _ h:=by cases h
 zz _ h:=by cases h
 sc h:=absurd rfl h
 dk _ h:=absurd rfl h
 d1 _ h:=absurd rfl h
 ss _ h:=by cases h
structure zpm(R:(Nat→Prop)→World→Value→Value→Prop)(Bx:World→Nat→Value→Prop)(K1 K2:(Nat→Prop)→World→Value→Prop):Prop extends RdP R where
 bx:∀ {w w' b v},Bx w b v→Below w.heap.size w w'→Bx w' b v
 s1:∀ {S w w' u},K1 S w u→(∀ k,S k→w'.heap[k]?=w.heap[k]?)→K1 S w' u
 w1:∀ {S S' w u},K1 S w u→(∀ k,S k→S' k)→K1 S' w u
 s2:∀ {S w w' u},K2 S w u→(∀ k,S k→w'.heap[k]?=w.heap[k]?)→K2 S w' u
 w2:∀ {S S' w u},K2 S w u→(∀ k,S k→S' k)→K2 S' w u
theorem CbS.more (hS:zpm R Bx K1 K2) (h:CbS hk C0 E0 R Z Bx K1 K2 W o0 o1 o2 c m x y z s w) (hb:Below w.heap.size w w'):CbS hk C0 E0 R Z Bx K1 K2 W o0 o1 o2 c m x y z s w' where
 be:=h.be.trans (hb.mono h.be.size)
 k0 u hu:=by
  obtain⟨g,e,h1,h2⟩:=h.k0 u hu
  exact⟨g,e,⟨h1.1,Nat.lt_of_lt_of_le h1.2.1 hb.size,h1.2.2⟩,fun h3=>(hb.block g h1.2.1).trans (h2 h3)⟩
 k1 u hu:=hS.w1 (hS.s1 (h.k1 u hu) fun k hk=>hb.block k hk.2.1) fun k hk=>⟨hk.1,Nat.lt_of_lt_of_le hk.2.1 hb.size,hk.2.2⟩
 k2 u hu:=hS.w2 (hS.s2 (h.k2 u hu) fun k hk=>hb.block k hk.1.2.1) fun k hk=>⟨⟨hk.1.1,Nat.lt_of_lt_of_le hk.1.2.1 hb.size,hk.1.2.2⟩,hk.2⟩
 rr u hu:=by
  obtain⟨v,e,e1,h1⟩:=h.rr u hu
  exact⟨v,e,e1,hS.weak (hS.keep h1 fun k hk=>hb.block k hk.1.2.1) fun k hk=>⟨⟨hk.1.1,Nat.lt_of_lt_of_le hk.1.2.1 hb.size,hk.1.2.2⟩,hk.2⟩⟩
 mv:=h.mv
 mx:=h.mx
 my:=h.my
 zz u hu:=by
  obtain⟨b,e,h1,h2,h3⟩:=h.zz u hu
  exact⟨b,e,h1,Nat.lt_of_lt_of_le h2 hb.size,fun hs=>(hb.block b h2).trans (h3 hs)⟩
 sc:=h.sc
 dk:=h.dk
 d1:=h.d1
 ss u hu:=by
  obtain⟨b,v,e1,e2,h1⟩:=h.ss u hu
  exact⟨b,v,e1,e2,hS.bx h1 hb⟩
theorem CbS.new(h:CbS hk C0 E0 R Z Bx K1 K2 W o0 o1 o2 c m x y z s w) {w':World} {g:Nat}(hg:w.heap.size≤g∧g<w'.heap.size):newB W z w' g :=
 ⟨Nat.le_trans h.be.size hg.1,hg.2,fun b hz=>by
  obtain⟨b',e',_,h4,_⟩:=h.zz _ hz
  injection e' with e'
  injection e' with e'
  injection e' with e'
  omega⟩
theorem CbS.newOwn(h:CbS hk C0 E0 R Z Bx K1 K2 W o0 o1 o2 c m x y z s w) {w':World} {g:Nat}(hg:w.heap.size≤g∧g<w'.heap.size):newC W o0 z w' g :=
 ⟨h.new hg,fun b n' m' e=>by
  obtain⟨g',e',h1,_⟩:=h.k0 _ e
  injection e' with e'
  injection e' with e'
  injection e' with e'
  have:=h1.2.1
  omega⟩
theorem CbS.call (hS:zpm R Bx K1 K2) (h:CbS hk C0 E0 R Z Bx K1 K2 W o0 o1 o2 none m x y z s w) (hd:hk=true→o1≠none) {v e:Value} (hb:Below w.heap.size w w') (hr:R (fun g=>w.heap.size≤g∧g<w'.heap.size) w' v e):CbS hk C0 E0 R Z Bx K1 K2 W o0 o1 o2 (some (.tuple #[v,e])) m x y z s w':=by
 have h2:=h.more hS hb
 have hm:m=none:=by
  cases hm:m with
  | none=>rfl
  | some u=>have:=h.mv u hm;cases this
 exact { h2 with
  rr:=fun u hu=>by
   injection hu with hu
   exact⟨v,e,hu.symm,hS.weak hr fun g hg=>h.newOwn hg⟩
  mv:=fun u hu=>by rw [hm] at hu;cases hu
  sc:=fun _=>by simp
  dk:=fun h1 _=>⟨h.d1 h1 (hd h1),hd h1⟩}
theorem CbS.move {u:Value} (h:CbS hk C0 E0 R Z Bx K1 K2 W o0 o1 o2 (some u) none x y z s w):CbS hk C0 E0 R Z Bx K1 K2 W o0 o1 o2 (some u) (some u) x y z s w :=
 { h with
  mv:=fun _ e=>e
  mx:=fun u' hu=>by obtain⟨e,h2⟩:=h.mx u' hu;cases h2
  my:=fun u' hu=>by obtain⟨e,h2⟩:=h.my u' hu;cases h2 }
theorem CbS.tup {u:Value} (h:CbS hk C0 E0 R Z Bx K1 K2 W o0 o1 o2 c (some u) x y z s w):∃ v e,u=.tuple #[v,e]:=by
 obtain⟨v,e,h1,_⟩:=h.rr u (h.mv u rfl)
 exact⟨v,e,h1⟩
theorem CbS.ex0 {v e:Value} (h:CbS hk C0 E0 R Z Bx K1 K2 W o0 o1 o2 c (some (.tuple #[v,e])) none y z s w):CbS hk C0 E0 R Z Bx K1 K2 W o0 o1 o2 c (some (.tuple #[v,e])) (some v) y z s w :=
 { h with
  mx:=fun u hu=>by injection hu with hu;exact⟨e,by rw [hu]⟩
  ss:=fun u hu=>by obtain⟨b,v',_,e2,_⟩:=h.ss u hu;cases e2 }
theorem CbS.ex1 {v e:Value} (h:CbS hk C0 E0 R Z Bx K1 K2 W o0 o1 o2 c (some (.tuple #[v,e])) x none z s w):CbS hk C0 E0 R Z Bx K1 K2 W o0 o1 o2 c (some (.tuple #[v,e])) x (some e) z s w :=
 { h with my:=fun u hu=>by injection hu with hu;exact⟨v,by rw [hu]⟩}
theorem CbS.alloc (hS : zpm R Bx K1 K2) (h : CbS hk C0 E0 R Z Bx K1 K2 W o0 o1 o2 c m x y none s w) (hb : Below w.heap.size w w') (hz : w'.heap[w.heap.size]? = some Z) : CbS hk C0 E0 R Z Bx K1 K2 W o0 o1 o2 c m x y (some (.pointer (some ⟨w.heap.size,0,none⟩))) s w' := by
 have h2 := h.more hS hb
 have hn : ∀ k,newB W none w k → newB W (some (.pointer (some ⟨w.heap.size,0,none⟩))) w' k := fun k hk => ⟨hk.1,Nat.lt_of_lt_of_le hk.2.1 hb.size,fun b e2 => by
  injection e2 with e2
  injection e2 with e2
  injection e2 with e2
  injection e2 with e2
  have := hk.2.1
  omega⟩
 have hn2 : ∀ k,newC W o0 none w k → newC W o0 (some (.pointer (some ⟨w.heap.size,0,none⟩))) w' k := fun k hk => ⟨hn k hk.1,hk.2⟩
 exact { h2 with
  k0 := fun u hu => by
   obtain ⟨g,e,h1,h3⟩ := h.k0 u hu
   exact ⟨g,e,hn g h1,fun h4 => (hb.block g h1.2.1).trans (h3 h4)⟩
  k1 := fun u hu => hS.w1 (hS.s1 (h.k1 u hu) fun k hk => hb.block k hk.2.1) hn
  k2 := fun u hu => hS.w2 (hS.s2 (h.k2 u hu) fun k hk => hb.block k hk.1.2.1) hn2
  rr := fun u hu => by
   obtain ⟨v,e,e1,h1⟩ := h.rr u hu
   exact ⟨v,e,e1,hS.weak (hS.keep h1 fun k hk => hb.block k hk.1.2.1) hn2⟩
  zz := fun u hu => by
   injection hu with hu
   exact ⟨_,hu.symm,h.be.size,(Array.getElem?_eq_some_iff.1 hz).1,fun _ => hz⟩
  ss := fun u hu => by obtain ⟨b,v',e1,_,_⟩ := h.ss u hu; cases e1 }
theorem CbS.box {p : Value} (h : CbS hk C0 E0 R Z Bx K1 K2 W o0 o1 o2 c m x y (some p) none w) : ∃ b,p = .pointer (some ⟨b,0,none⟩) ∧ w.heap[b]? = some Z := by
 obtain ⟨b,e,_,_,h3⟩ := h.zz p rfl
 exact ⟨b,e,h3 rfl⟩
theorem CbS.sto (hS : zpm R Bx K1 K2) {v u : Value} {b : Nat} (h : CbS hk C0 E0 R Z Bx K1 K2 W o0 o1 o2 c m (some v) y (some (.pointer (some ⟨b,0,none⟩))) none w) (hg : w.grownBy w' (some b)) (hx : Bx w' b v) : CbS hk C0 E0 R Z Bx K1 K2 W o0 o1 o2 c m (some v) y (some (.pointer (some ⟨b,0,none⟩))) (some u) w' := by
 obtain ⟨b',e,hb1,hb2,_⟩ := h.zz _ rfl
 injection e with e
 injection e with e
 injection e with e
 subst e
 obtain ⟨e0,hm⟩ := h.mx v rfl
 have hc := h.mv _ hm
 have hne : c ≠ none := by rw [hc]; simp
 have hbe : Below W.heap.size W w' := h.be.grown hg h.be.size fun k e => by injection e with e; omega
 have hkb : ∀ k,newB W (some (.pointer (some ⟨b,0,none⟩))) w k → w'.heap[k]? = w.heap[k]? := fun k hk => hg.block k hk.2.1 fun e2 => by injection e2 with e2; exact hk.2.2 _ rfl e2
 have hsz : ∀ k,newB W (some (.pointer (some ⟨b,0,none⟩))) w k → newB W (some (.pointer (some ⟨b,0,none⟩))) w' k := fun k hk => ⟨hk.1,Nat.lt_of_lt_of_le hk.2.1 hg.size,hk.2.2⟩
 exact { h with
  be := hbe
  k0 := fun u hu => by
   obtain ⟨g,e,h1,h3⟩ := h.k0 u hu
   exact ⟨g,e,hsz g h1,fun h4 => (hkb g h1).trans (h3 h4)⟩
  k1 := fun u hu => hS.w1 (hS.s1 (h.k1 u hu) hkb) hsz
  k2 := fun u hu => hS.w2 (hS.s2 (h.k2 u hu) fun k hk => hkb k hk.1) fun k hk => ⟨hsz k hk.1,hk.2⟩
  rr := fun u hu => by
   obtain ⟨v,e,e1,h1⟩ := h.rr u hu
   exact ⟨v,e,e1,hS.weak (hS.keep h1 fun k hk => hkb k hk.1) fun k hk => ⟨hsz k hk.1,hk.2⟩⟩
  zz := fun u hu => by
   injection hu with hu
   exact ⟨b,hu.symm,hb1,Nat.lt_of_lt_of_le hb2 hg.size,fun e => by cases e⟩
  sc := fun _ => hne
  ss := fun _ _ => ⟨b,v,rfl,rfl,hx⟩ }
theorem CbS.done (hR : RdP R) {u1 u2 u3 u4 u5 : Value} (h : CbS hk C0 E0 R Z Bx K1 K2 W o0 o1 o2 (some u1) (some u2) (some u3) (some u4) (some u5) s w) (hs : s ≠ none) : ∃ b,u5 = .pointer (some ⟨b,0,none⟩) ∧ u2 = .tuple #[u3,u4] ∧ u1 = .tuple #[u3,u4] ∧ W.heap.size ≤ b ∧ Bx w b u3 ∧ R (fun g => W.heap.size ≤ g ∧ g < w.heap.size ∧ g ≠ b) w u3 u4 ∧ Below W.heap.size W w := by
 obtain ⟨u,rfl⟩ := Option.ne_none_iff_exists'.1 hs
 obtain ⟨b,v,e1,e2,h1⟩ := h.ss u rfl
 obtain ⟨e,h2⟩ := h.mx u3 rfl
 obtain ⟨e',h3⟩ := h.my u4 rfl
 have h4 := h.mv _ h2
 injection e1 with e1
 injection e2 with e2
 injection h2 with h2
 injection h3 with h3
 subst e1 e2
 rw [h2] at h3
 injection h3 with h3
 injection h3 with h3
 injection h3 with e5 h3
 injection h3 with e6 _
 subst e5 e6 h2
 injection h4 with h4
 subst h4
 obtain ⟨v',e',e7,h5⟩ := h.rr _ rfl
 injection e7 with e7
 injection e7 with e7
 injection e7 with e8 e7
 injection e7 with e9 _
 subst e8 e9
 obtain ⟨b',e,hb1,_,_⟩ := h.zz _ rfl
 injection e with e
 injection e with e
 injection e with e
 subst e
 exact ⟨b,rfl,rfl,rfl,hb1,h1,hR.weak h5 fun k hk => ⟨hk.1.1,hk.1.2.1,hk.1.2.2 _ rfl⟩,h.be⟩
def CbL (C0:Array Value) (E0:TypeId) (R:(Nat→Prop)→World→Value→Value→Prop) (Z:Obj) (Bx:World→Nat→Value→Prop) (K1 K2:(Nat→Prop)→World→Value→Prop) (W:World):List (Option Value)→World→Prop
 | [c,m,x,y,z,s],w=>CbS false C0 E0 R Z Bx K1 K2 W none none none c m x y z s w
 | [o0,o1,o2,c,m,x,y,z,s],w=>CbS true C0 E0 R Z Bx K1 K2 W o0 o1 o2 c m x y z s w
 | _,_=>False
theorem CbL.below:∀ {l:List (Option Value)} {w:World},CbL C0 E0 R Z Bx K1 K2 W l w→Below W.heap.size W w
 | [_,_,_,_,_,_],_,h=>CbS.be h
 | [_,_,_,_,_,_,_,_,_],_,h=>CbS.be h
theorem CbL.more (hS:zpm R Bx K1 K2):∀ (l:List (Option Value)) (w w':World),CbL C0 E0 R Z Bx K1 K2 W l w→Below w.heap.size w w'→CbL C0 E0 R Z Bx K1 K2 W l w'
 | [_,_,_,_,_,_],_,_,h,hb=>CbS.more hS h hb
 | [_,_,_,_,_,_,_,_,_],_,_,h,hb=>CbS.more hS h hb
end
theorem zes {o : Oper} {a : Act} {K : Act → World → Prop} {Q : Exit → Act → World → Prop} {w : World} (ho : o.op = .alloc 26) (h : ∀ w',Below w.heap.size w w' → w'.heap[w.heap.size]? = some zf8 → K (a.put o.dst (.pointer (some ⟨w.heap.size,0,none⟩))) w') : o.wp Tryz.prog a w K Q := by
 obtain ⟨i,z,hi,hz,hsz,_,_⟩ := ndP.all
 have hz2 : z = .agg #[.slice none 0 0,.slice none 0 0,.slice none 0 0] := by
  have h1 : (Tryz.prog.info? 26).bind (·.zero) = some (.agg #[.slice none 0 0,.slice none 0 0,.slice none 0 0]) := by kernel_rfl
  rw [hi] at h1
  simp only [Option.bind_some,hz] at h1
  injection h1
 subst hz2
 have hrun : (execOp a.eval o).run Tryz.prog w = .ok (.value (.pointer (some ⟨w.heap.size,0,none⟩))) (w.alloc zf8) := by
  simp [execOp,ho,newVar,zeroValue,typeInfo,hi,hz,zf8,Value.cells,go_sem]
 unfold Oper.wp
 rw [hrun]
 exact h _ ((Below.refl _ _).alloc (Nat.le_refl _) _) (by simp only [World.alloc,Array.getElem?_push_size])
theorem ze1 (w:World) {B:Nat} {ad:Option Addr} {n c:Nat} {xs:List UInt8} (hr:Rd B w (.slice ad n c) xs) (hB:B≤w.heap.size) (hx:xs.length≤1000000) :
  Calls Tryz.prog 57 #[.slice ad n c] w fun e w'=>∃ ad' k c',e=.returned (.slice ad' k c')∧zpo 5 w w' (.slice ad' k c') xs:=by
 have he:=fun (w:World) (ad:Option Addr) (n c:Nat)=>Lib.run_eql_slice_nil (P:=Tryz.prog) w 30 5 ad n c 0 0 byP.hT
 obtain⟨rfl,_,_⟩:=hr.len
 cases ad with
 | none =>
  have hr':=hr
  rcases hr with⟨_,_,h,_,rfl⟩|⟨_,_,_,h,_⟩
  ·go_enter Tryz.func57,Tryz.ntmps57
   go_wp2
   go_ret
   exact⟨_,_,_,rfl,zpo.nil _ _⟩
  ·cases h
 | some p =>
  go_enter Tryz.func57,Tryz.ntmps57
  go_wp2_with (first
   | (refine zkq byP rfl rfl [] (by kernel_rfl) rfl (by simp) ?_;intro g k1 w1 hF)
   | (at_builtin;refine zi8 byP rfl rfl rfl hF.2 rfl (hr.below (hF.1.mono hB)) hF.1.size ?_ ?hlen;intro ad' k' c' w2 hO hg hb))
  case hlen=>simp;omega
  go_ret
  exact⟨_,_,_,rfl,hF.1.trans hb,hO⟩
theorem zl5 (w : World) {S : Nat → Prop} {A : Option Addr} {n c : Nat} {s : Int} {g : Bool} {vs : List UInt8} (hv : RdS S w (.slice A n c) vs) :
  Calls Tryz.prog 64 #[.agg #[.int .i64 s,.bool g,.slice A n c]] w fun e w' => e = .returned (.bool (decide (mayV ⟨s,g,vs⟩))) ∧ Below w.heap.size w w' := by
 obtain ⟨rfl,hnc,hcm⟩ := hv.len
 have hlm : vs.length ≤ 9223372036854775807 := by unfold maxLen at hcm; omega
 cases g
 ·
  by_cases h1 : 1 ≤ s
  ·have d1 : decide ((1 : Int) ≤ s) = true := decide_eq_true h1
   by_cases h2 : s < 2147483648
   ·have d2 : decide (s ≤ (2147483647 : Int)) = true := decide_eq_true (by omega)
    by_cases h3 : vs.length ≤ 32
    ·have d3 : decide ((vs.length : Int) ≤ 32) = true := decide_eq_true (by omega)
     have hk := Lib.hid (show decide (mayV ⟨s,false,vs⟩) = true from decide_eq_true ⟨h1,h2,h3,by simp⟩)
     clear h1 h2 h3
     go_enter Tryz.func64,Tryz.ntmps64
     go_wp2
     go_ret
     exact ⟨by rw [hk.out]; rfl,(Below.refl _ _).alloc (Nat.le_refl _) _⟩
    ·have d3 : decide ((vs.length : Int) ≤ 32) = false := decide_eq_false (by omega)
     have hk := Lib.hid (show decide (mayV ⟨s,false,vs⟩) = false from decide_eq_false (fun h => h3 h.2.2.1))
     clear h1 h2 h3
     go_enter Tryz.func64,Tryz.ntmps64
     go_wp2
     go_ret
     exact ⟨by rw [hk.out]; rfl,(Below.refl _ _).alloc (Nat.le_refl _) _⟩
   ·have d2 : decide (s ≤ (2147483647 : Int)) = false := decide_eq_false (by omega)
    have hk := Lib.hid (show decide (mayV ⟨s,false,vs⟩) = false from decide_eq_false (fun h => h2 h.2.1))
    clear h1 h2
    go_enter Tryz.func64,Tryz.ntmps64
    go_wp2
    go_ret
    exact ⟨by rw [hk.out]; rfl,(Below.refl _ _).alloc (Nat.le_refl _) _⟩
  ·have d1 : decide ((1 : Int) ≤ s) = false := decide_eq_false h1
   have hk := Lib.hid (show decide (mayV ⟨s,false,vs⟩) = false from decide_eq_false (fun h => h1 h.1))
   clear h1
   go_enter Tryz.func64,Tryz.ntmps64
   go_wp2
   go_ret
   exact ⟨by rw [hk.out]; rfl,(Below.refl _ _).alloc (Nat.le_refl _) _⟩
 ·by_cases h4 : 0 < vs.length
  ·have hk := Lib.hid (show decide (mayV ⟨s,true,vs⟩) = false from decide_eq_false (fun h => by have : vs.length = 0 := h.2.2.2 rfl; omega))
   go_enter Tryz.func64,Tryz.ntmps64
   go_wp2
   go_ret
   exact ⟨by rw [hk.out]; rfl,(Below.refl _ _).alloc (Nat.le_refl _) _⟩
  ·
   by_cases h1 : 1 ≤ s
   ·have d1 : decide ((1 : Int) ≤ s) = true := decide_eq_true h1
    by_cases h2 : s < 2147483648
    ·have d2 : decide (s ≤ (2147483647 : Int)) = true := decide_eq_true (by omega)
     by_cases h3 : vs.length ≤ 32
     ·have d3 : decide ((vs.length : Int) ≤ 32) = true := decide_eq_true (by omega)
      have hk := Lib.hid (show decide (mayV ⟨s,true,vs⟩) = true from decide_eq_true ⟨h1,h2,h3,fun _ => by show vs.length = 0; omega⟩)
      clear h1 h2 h3
      go_enter Tryz.func64,Tryz.ntmps64
      go_wp2
      go_ret
      exact ⟨by rw [hk.out]; rfl,(Below.refl _ _).alloc (Nat.le_refl _) _⟩
     ·have d3 : decide ((vs.length : Int) ≤ 32) = false := decide_eq_false (by omega)
      have hk := Lib.hid (show decide (mayV ⟨s,true,vs⟩) = false from decide_eq_false (fun h => h3 h.2.2.1))
      clear h1 h2 h3
      go_enter Tryz.func64,Tryz.ntmps64
      go_wp2
      go_ret
      exact ⟨by rw [hk.out]; rfl,(Below.refl _ _).alloc (Nat.le_refl _) _⟩
    ·have d2 : decide (s ≤ (2147483647 : Int)) = false := decide_eq_false (by omega)
     have hk := Lib.hid (show decide (mayV ⟨s,true,vs⟩) = false from decide_eq_false (fun h => h2 h.2.1))
     clear h1 h2
     go_enter Tryz.func64,Tryz.ntmps64
     go_wp2
     go_ret
     exact ⟨by rw [hk.out]; rfl,(Below.refl _ _).alloc (Nat.le_refl _) _⟩
   ·have d1 : decide ((1 : Int) ≤ s) = false := decide_eq_false h1
    have hk := Lib.hid (show decide (mayV ⟨s,true,vs⟩) = false from decide_eq_false (fun h => h1 h.1))
    clear h1
    go_enter Tryz.func64,Tryz.ntmps64
    go_wp2
    go_ret
    exact ⟨by rw [hk.out]; rfl,(Below.refl _ _).alloc (Nat.le_refl _) _⟩
theorem zcy (w : World) {S : Nat → Prop} {a : Option Addr} {n c : Nat} {l : List Ver} (hl : RdL Elt.ver S w (.slice a n c) l) :
  Calls Tryz.prog 44 #[.slice a n c] w fun e w' => e = .returned (.bool (decide (okV l))) ∧ Below w.heap.size w w' := by
 obtain ⟨rfl,hnc,hcm⟩ := hl.len
 have hlm : l.length ≤ 9223372036854775807 := by unfold maxLen at hcm; omega
 have q := Below.refl w.heap.size w
 go_enter Tryz.func44,Tryz.ntmps44
 go_upto_region 3 with (fail)
 go_loopw [3,8] (fun lv iv wr => ∃ (k : Nat) (z : Int),iv = .int .i64 k ∧ lv = .int .i64 z ∧ k ≤ l.length ∧ (k = 0 → z = 0) ∧ (∀ h : k - 1 < l.length,0 < k → z = l[k - 1].stamp) ∧ (∀ i (h : i < l.length),i < k → mayV l[i] ∧ (0 < i → l[i - 1].stamp < l[i].stamp)) ∧ Below w.heap.size w wr)
  (fun _ i _ => l.length - (intOf i).toNat)
 case atStart => exact ⟨0,0,rfl,rfl,Nat.zero_le _,fun _ => rfl,fun _ h => absurd h (Nat.lt_irrefl _),fun i _ h => by omega,q⟩
 case round =>
  clear q
  obtain ⟨k,z,rfl,rfl,hkl,hz0,hz1,hok,q⟩ := hrel
  rcases Nat.lt_or_ge k l.length with hlt | hge
  ·have hl2 := hl.below q
   obtain ⟨b,off,A,C,rfl,hb,c0,c1,c2,hv,hi,hn1,hn2⟩ := hl2.ver k hlt
   by_cases hs : l[k].stamp ≤ z
   ·have hno : decide (okV l) = false := decide_eq_false fun h => by
     rcases Nat.eq_zero_or_pos k with h0 | h0
     ·have := (h k hlt).1.1
      have := hz0 h0
      omega
     ·have h1 := (h k hlt).2 h0
      have h2 := hz1 (by omega) h0
      omega
    have HK := Lib.hid hno
    have dS : decide (l[k].stamp ≤ z) = true := decide_eq_true hs
    clear hno hok hz0 hz1 hs
    go_wp2_with fail
    go_ret
    exact ⟨by rw [HK.out]; rfl,q.alloc q.size _⟩
   ·have dS : decide (l[k].stamp ≤ z) = false := decide_eq_false hs
    go_wp2_with fail
    have hT := TriV.new wr 87 (.int .i64 l[k].stamp) (.bool l[k].gone) (.slice A l[k].value.length C)
    have hq0 : Below wr.heap.size wr (wr.alloc (.cells #[.int .i64 l[k].stamp,.bool l[k].gone,.slice A l[k].value.length C] 87)) := (Below.refl _ _).alloc (Nat.le_refl _) _
    generalize hW : wr.alloc (.cells #[.int .i64 l[k].stamp,.bool l[k].gone,.slice A l[k].value.length C] 87) = W at hT hq0 ⊢
    clear hW
    refine (zl5 _ (hv.below hq0)).mono ?_
    rintro e w1 ⟨rfl,hb1⟩
    have q1 := q.trans (hq0.mono q.size)
    replace q1 := q1.trans (hb1.mono q1.size)
    replace hT := hT.below hb1 hT.lt
    have t0 := hT.cell0
    clear c0 c1 c2 hv hb1 hq0 hT
    by_cases hm : mayV l[k]
    ·rw [show decide (mayV ⟨l[k].stamp,l[k].gone,l[k].value⟩) = true from decide_eq_true hm]
     have hok' : ∀ i (h : i < l.length),i < k + 1 → mayV l[i] ∧ (0 < i → l[i - 1].stamp < l[i].stamp) := fun i h h1 => by
      rcases Nat.lt_or_ge i k with h2 | h2
      ·exact hok i h h2
      ·obtain rfl : i = k := by omega
       refine ⟨hm,fun h0 => ?_⟩
       have h3 := hz1 (by omega) h0
       omega
     have HK := Lib.hid hok'
     clear hok hok' hm hz0 hz1 hs
     go_wp2_with fail
     go_roundw
     case rel => exact ⟨k + 1,l[k].stamp,by go_num,rfl,by omega,fun h => by omega,fun h _ => by simp,HK.out,q1⟩
     case measure => simp [intOf]; omega
    ·have hk := Lib.hid (show decide (okV l) = false from decide_eq_false (fun h => hm (h k hlt).1))
     rw [show decide (mayV ⟨l[k].stamp,l[k].gone,l[k].value⟩) = false from decide_eq_false hm]
     clear hok hm hz0 hz1 hs
     go_wp2_with fail
     go_ret
     exact ⟨by rw [hk.out]; rfl,q1⟩
  ·obtain rfl : k = l.length := by omega
   have hk := Lib.hid (show decide (okV l) = true from decide_eq_true (fun i h => hok i h h))
   clear hok hz0 hz1
   go_wp2_with fail
   go_ret
   exact ⟨by rw [hk.out]; rfl,q⟩
theorem zo4 (w:World) {n:Nat} (F:FuncId) (caps:Array Value) (hE:Enters Tryz.prog F) (hn:n≤1000000) (m:Nat) (hm:m≤n)
  (hF:∀ (W:World) (i:Nat),i<n→Below w.heap.size w W→Calls Tryz.prog F (#[.int .i64 i]++caps) W fun e W'=>e=.returned (.bool (decide (m≤i)))∧Below w.heap.size W W') :
  Calls Tryz.prog 74 #[.int .i64 n,.func (.func F) #[] caps] w fun e w'=>e=.returned (.int .i64 m)∧Below w.heap.size w w':=by
 have q:=Below.refl w.heap.size w
 have hEE:=hE
 unfold Enters at hEE
 go_enter Tryz.func74,Tryz.ntmps74
 go_upto_region 2 with (fail)
 go_loopw [5,6] (fun iv jv wr=>∃ (i j:Nat),iv=.int .i64 i∧jv=.int .i64 j∧i≤m∧m≤j∧j≤n∧Below w.heap.size w wr)
  (fun i j _=>(intOf j).toNat - (intOf i).toNat)
 case atStart=>exact⟨0,n,rfl,rfl,Nat.zero_le _,hm,Nat.le_refl _,q⟩
 case round =>
  clear q
  obtain⟨i,j,rfl,rfl,him,hmj,hjn,q⟩:=hrel
  rcases Nat.lt_or_ge i j with hlt | hge
  ·obtain⟨h,hh⟩:∃ h:Nat,h=(i+j) / 2:=⟨_,rfl⟩
   have e:((i:Int)+(j:Int)) / 2=(h:Int):=by omega
   have hih:i≤h:=by omega
   have hhj:h<j:=by omega
   clear hh
   go_wp2_with fail
   clear e
   refine (hF wr h (by omega) q).mono ?_
   rintro e w1⟨rfl,hb1⟩
   have q1:=q.trans hb1
   clear q hb1
   rcases Nat.lt_or_ge h m with h1 | h1
   ·rw [show decide (m≤h)=false from decide_eq_false (by omega)]
    go_wp2_with fail
    go_roundw
    case rel=>exact⟨h+1,j,by go_num,rfl,by omega,hmj,hjn,q1⟩
    case measure=>simp [intOf];omega
   ·rw [show decide (m≤h)=true from decide_eq_true h1]
    go_wp2_with fail
    go_roundw
    case rel=>exact⟨i,h,rfl,rfl,him,by omega,by omega,q1⟩
    case measure=>simp [intOf];omega
  ·obtain rfl:i=m:=by omega
   go_wp2_with fail
   go_ret
   exact⟨rfl,q⟩
theorem zp4 (w : World) {S : Nat → Prop} {a : Option Addr} {n c : Nat} {l : List Ver} {s : Int} (hl : RdL Elt.ver S w (.slice a n c) l) (b1 b2 i : Nat) (hi : i < l.length)
  (h1 : w.cell? ⟨b1,0,none⟩ = some (.slice a n c)) (h2 : w.cell? ⟨b2,0,none⟩ = some (.int .i64 s)) :
  Calls Tryz.prog 75 #[.int .i64 i,.pointer (some ⟨b1,0,none⟩),.pointer (some ⟨b2,0,none⟩)] w fun e w' => e = .returned (.bool (decide (s < l[i].stamp))) ∧ Below w.heap.size w w' := by
 obtain ⟨rfl,hnc,hcm⟩ := hl.len
 have hlm : l.length ≤ 9223372036854775807 := by unfold maxLen at hcm; omega
 obtain ⟨b,off,A,C,rfl,hb,c0,c1,c2,hv,hi2,hn1,hn2⟩ := hl.ver i hi
 go_enter Tryz.func75,Tryz.ntmps75
 go_upto_region 1 with (fail)
 go_quiet (fail)
 go_wp2_with fail
 go_ret
 exact ⟨rfl,Below.drewN (Below.refl _ _) _⟩
theorem zl3 (w : World) (t : TypeId) (v : Value) : (w.alloc (.cells #[v] t)).cell? ⟨w.heap.size,0,none⟩ = some v := by
 have h : (w.alloc (.cells #[v] t)).heap[w.heap.size]? = some (.cells #[v] t (0,0)) := by simp only [World.alloc,Array.getElem?_push_size]
 generalize w.alloc (.cells #[v] t) = W at h ⊢
 simp [World.cell?,h]
theorem upBoxes (w : World) (t u : TypeId) (x y : Value) : Below w.heap.size w ((w.alloc (.cells #[x] t)).alloc (.cells #[y] u)) ∧ ((w.alloc (.cells #[x] t)).alloc (.cells #[y] u)).cell? ⟨w.heap.size,0,none⟩ = some x ∧ ((w.alloc (.cells #[x] t)).alloc (.cells #[y] u)).cell? ⟨w.heap.size + 1,0,none⟩ = some y := by
 have h1 : Below w.heap.size w (w.alloc (.cells #[x] t)) := (Below.refl _ _).alloc (Nat.le_refl _) _
 have hs : (w.alloc (.cells #[x] t)).heap.size = w.heap.size + 1 := World.size_alloc _ _
 have h2 : Below (w.alloc (.cells #[x] t)).heap.size (w.alloc (.cells #[x] t)) ((w.alloc (.cells #[x] t)).alloc (.cells #[y] u)) := (Below.refl _ _).alloc (Nat.le_refl _) _
 refine ⟨h1.trans (h2.mono h1.size),(zac (h2.block _ (by omega)) _).trans (zl3 w t x),?_⟩
 have := zl3 (w.alloc (.cells #[x] t)) u y
 rw [hs] at this
 exact this
theorem zg4 (w:World) {S:Nat→Prop} {a:Option Addr} {n c:Nat} {l:List Ver} {s:Int} (hl:RdL Elt.ver S w (.slice a n c) l) (hk:okV l) (hx:l.length≤1000) :
  Calls Tryz.prog 56 #[.slice a n c,.int .i64 s] w fun e w'=>e=.returned (.int .i64 (cntV l s:Nat))∧Below w.heap.size w w':=by
 obtain⟨rfl,hnc,hcm⟩:=hl.len
 have hb2:=upBoxes w 70 3 (.slice a l.length c) (.int .i64 s)
 go_enter Tryz.func56,Tryz.ntmps56
 go_wp2_with fail
 obtain⟨q0,hc0,hc1⟩:=hb2
 generalize (w.alloc (.cells #[.slice a l.length c] 70)).alloc (.cells #[.int .i64 s] 3)=W at *
 refine (zo4 W 75 _ (enters_of Tryz.func75 (by kernel_rfl) rfl) (by omega) (cntV l s) (zb6 l s) (fun W2 i hi hb=>?_)).mono ?_
 ·refine (zp4 (s:=s) W2 (hl.below (q0.trans (hb.mono q0.size))) (w.heap.size) (w.heap.size+1) i hi ?_ ?_).mono ?_
  ·exact (zac (hb.block _ (zaj hc0)) _).trans hc0
  ·exact (zac (hb.block _ (zaj hc1)) _).trans hc1
  ·rintro e w2⟨rfl,hb2⟩
   refine⟨?_,hb2.mono hb.size⟩
   have:=zdr hk s hi
   rw [show decide (s<l[i].stamp)=decide (cntV l s≤i) from by rw [decide_eq_decide];omega]
 ·rintro e w2⟨rfl,hb2⟩
  go_wp2_with fail
  go_ret
  exact⟨rfl,q0.trans (hb2.mono q0.size)⟩
def zg2 (w:World) (g:Nat) (xs:List Ver) (k:Nat) (W:World):Prop :=
 ∃ vs us,W.heap[g]?=some (.cells (vs++us).toArray 87 (0,0))∧Flat Elt.ver (fun j=>w.heap.size≤j∧j<W.heap.size∧j≠g) W (xs.take k) vs∧Flat Elt.ver (fun j=>j<w.heap.size) W (xs.drop k) us∧w.heap.size≤g∧Below w.heap.size w W
theorem zg2.lt {w W:World} {g k:Nat} {xs:List Ver}(h:zg2 w g xs k W):g<W.heap.size:=by
 obtain⟨vs,us,hg,_⟩:=h
 exact(Array.getElem?_eq_some_iff.1 hg).1
theorem zg2.at {w W : World} {g k : Nat} {xs : List Ver} (h : zg2 w g xs k W) (hk : k < xs.length) :
  ∃ A C,W.cell? ⟨g,k * 3 + 2,none⟩ = some (.slice A xs[k].value.length C) ∧ RdS (fun j => j < w.heap.size) W (.slice A xs[k].value.length C) xs[k].value ∧
   ∀ W2 v2,Below W.heap.size W W2 → RdS (fun j => W.heap.size ≤ j ∧ j < W2.heap.size) W2 v2 xs[k].value →
    W2.cell? ⟨g,k * 3 + 2,none⟩ = some (.slice A xs[k].value.length C) ∧ W2.frozen? ⟨g,k * 3 + 2,none⟩ = false ∧ zg2 w g xs (k + 1) (W2.setCell ⟨g,k * 3 + 2,none⟩ v2) := by
 have hlt := h.lt
 obtain ⟨vs,us,hg,hv,hu,hwg,hb⟩ := h
 have hvl := hv.len
 rw [List.length_take,Nat.min_eq_left (Nat.le_of_lt hk)] at hvl
 rw [List.drop_eq_getElem_cons hk] at hu
 obtain ⟨cs,us',rfl,⟨v,rfl,hrv,hi⟩,hu'⟩ := hu
 obtain ⟨A,C,rfl,_,_⟩ := hrv.shape
 have hvl' : vs.length = k * 3 := hvl
 have hget : (vs ++ (verC xs[k] (.slice A xs[k].value.length C) ++ us'))[k * 3 + 2]? = some (.slice A xs[k].value.length C) := by
  rw [List.getElem?_append_right (by omega),show k * 3 + 2 - vs.length = 2 by omega]
  rfl
 have hcell : ∀ X : World,X.heap[g]? = some (.cells (vs ++ (verC xs[k] (.slice A xs[k].value.length C) ++ us')).toArray 87 (0,0)) → X.cell? ⟨g,k * 3 + 2,none⟩ = some (.slice A xs[k].value.length C) := fun X hX => by
  simp only [World.cell?,hX,List.getElem?_toArray]
  exact hget
 refine ⟨A,C,hcell W hg,hrv,fun W2 v2 hb2 hr2 => ?_⟩
 have hg2 := (hb2.block g hlt).trans hg
 refine ⟨hcell W2 hg2,by simp [World.frozen?,hg2],vs ++ verC xs[k] v2,us',?_,?_,?_,hwg,?_⟩
 ·rw [show (W2.setCell ⟨g,k * 3 + 2,none⟩ v2).heap[g]? = some (.cells ((vs ++ (verC xs[k] (.slice A xs[k].value.length C) ++ us')).toArray.setIfInBounds (k * 3 + 2) v2) 87 (0,0)) by simp [World.setCell,Array.getElem?_modify,hg2]]
  congr 2
  apply Array.ext'
  simp only [Array.toList_setIfInBounds]
  rw [List.set_append_right _ _ (by omega),show k * 3 + 2 - vs.length = 2 by omega]
  simp [verC,List.append_assoc]
 ·rw [List.take_add_one,List.getElem?_eq_getElem hk]
  have hkeep : ∀ j,j ≠ g → j < W.heap.size → (W2.setCell ⟨g,k * 3 + 2,none⟩ v2).heap[j]? = W.heap[j]? := fun j hj h1 => (heap_setCell_other W2 ⟨g,k * 3 + 2,none⟩ j v2 hj).trans (hb2.block j h1)
  refine Flat.append ?_ ?_
  ·refine (hv.keep (w' := W2.setCell ⟨g,k * 3 + 2,none⟩ v2) fun j hj => hkeep j hj.2.2 hj.2.1).weak fun j hj => ⟨hj.1,?_,hj.2.2⟩
   have := hb2.size
   rw [znt]; omega
  ·refine ⟨verC xs[k] v2,[],by simp,⟨v2,rfl,?_,hi⟩,rfl⟩
   refine (hr2.keep (w' := W2.setCell ⟨g,k * 3 + 2,none⟩ v2) fun j hj => heap_setCell_other W2 ⟨g,k * 3 + 2,none⟩ j v2 (by have h1 : W.heap.size ≤ j := hj.1; show j ≠ g; omega)).weak fun j hj => ⟨Nat.le_trans hb.size hj.1,?_,by have h1 : W.heap.size ≤ j := hj.1; omega⟩
   rw [znt]; exact hj.2
 ·exact hu'.keep fun j hj => (heap_setCell_other W2 ⟨g,k * 3 + 2,none⟩ j v2 (by have h1 : j < w.heap.size := hj; show j ≠ g; omega)).trans (hb2.block j (Nat.lt_of_lt_of_le hj hb.size))
 ·exact (hb.trans (hb2.mono hb.size)).setCell (p := ⟨g,k * 3 + 2,none⟩) hwg _
theorem zg2.done {w W : World} {g : Nat} {xs : List Ver} (h : zg2 w g xs xs.length W) (hm : xs.length ≤ maxLen) : RdL Elt.ver (fun k => w.heap.size ≤ k ∧ k < W.heap.size) W (.slice (some ⟨g,0,none⟩) xs.length xs.length) xs := by
 have hlt := h.lt
 obtain ⟨vs,us,hg,hv,hu,hwg,hb⟩ := h
 rw [List.take_length] at hv
 refine ⟨some ⟨g,0,none⟩,xs.length,rfl,Nat.le_refl _,hm,.inr ⟨g,0,rfl,⟨hwg,hlt⟩,fun r hr => ?_⟩⟩
 obtain ⟨cs,h1,h2⟩ := hv.at r hr
 refine ⟨cs,Elt.ver.weak h1 fun j hj => ⟨hj.1,hj.2.1⟩,fun j u hj => ?_⟩
 have h3 := h2 j u hj
 rw [Nat.zero_add]
 simp only [World.cell?,hg,List.getElem?_toArray]
 rw [List.getElem?_append_left (List.getElem?_eq_some_iff.1 h3).1]
 exact h3
theorem zmq {cur:Array Value} {cs cs2:List Value} {off2 p q:Nat} (hcur:cur.size=p+q) (h1:cs.length=p) (h2:cs2.length=q) (ho:(q=0∧off2=0)∨off2=p) :
  (cur.toList.take 0++cs++cur.toList.drop (0+cs.length)).toArray.toList.take off2++cs2++(cur.toList.take 0++cs++cur.toList.drop (0+cs.length)).toArray.toList.drop (off2+cs2.length)=cs++cs2:=by
 simp only [List.take_zero,List.nil_append,Nat.zero_add]
 rcases ho with⟨rfl,rfl⟩| rfl
 ·obtain rfl:cs2=[]:=List.eq_nil_of_length_eq_zero h2
  have:cur.toList.drop cs.length=[]:=List.drop_eq_nil_of_le (by simp;omega)
  simp [this]
 ·have e1:(cs++cur.toList.drop cs.length).take off2=cs:=by rw [← h1];simp
  have e2:(cs++cur.toList.drop cs.length).drop (off2+cs2.length)=[]:=List.drop_eq_nil_of_le (by simp;omega)
  rw [e1,e2]
  simp
theorem off_of (G n m : Nat) : ∃ off,(if n + m = n then some (⟨G,0,none⟩ : Addr) else (some (⟨G,0,none⟩ : Addr)).map (·.add (n * 3))) = some ⟨G,off,none⟩ ∧ ((m * 3 = 0 ∧ off = 0) ∨ off = n * 3) := by
 by_cases h : n + m = n
 ·exact ⟨0,by rw [if_pos h],.inl ⟨by omega,rfl⟩⟩
 ·refine ⟨n * 3,?_,.inr rfl⟩
  rw [if_neg h]
  simp [Addr.add_lit]
theorem zg2.start {w W:World} {G:Nat} {cs cs2:List Value} {l m:List Ver} (hg:W.heap[G]?=some (.cells (cs++cs2).toArray 87 (0,0))) (hb:Below w.heap.size w W) (hG:w.heap.size≤G)
  (h1:Flat Elt.ver (·<w.heap.size) W l cs) (h2:Flat Elt.ver (·<w.heap.size) W m cs2):zg2 w G (l++m) 0 W :=
 ⟨[],cs++cs2,hg,rfl,h1.append h2,hG,hb⟩
theorem zcl (w:World) {S S2:Nat→Prop} {a a2:Option Addr} {n c n2 c2:Nat} {l m:List Ver} (hl:RdL Elt.ver S w (.slice a n c) l) (hm:RdL Elt.ver S2 w (.slice a2 n2 c2) m) (hln:l.length≤1000000) (hmn:m.length≤1000000) (hx:∀ x∈l++m,x.value.length≤1000000) :
  Calls Tryz.prog 84 #[.slice a n c,.slice a2 n2 c2] w (zcq w (l++m)):=by
 obtain⟨rfl,hnc,hcm⟩:=hl.len
 obtain⟨rfl,hnc2,hcm2⟩:=hm.len
 obtain⟨off,hoff,ho⟩:=off_of w.heap.size l.length m.length
 have hl0:=hl.fit.weak (S':=fun k=>k<w.heap.size) (fun _ h=>h.2)
 have hm0:=hm.fit.weak (S':=fun k=>k<w.heap.size) (fun _ h=>h.2)
 clear hl hm
 go_enter Tryz.func84,Tryz.ntmps84
 go_upto_region 2 with (first
  | (refine zko (E:=Elt.ver) verP rfl rfl (k:=l.length+m.length) rfl rfl ?_ (by omega) (by omega);intro cur hcur)
  | fail)
 have hg1:(w.alloc (.cells cur 87)).heap[w.heap.size]?=some (.cells cur 87 (0,0)):=by simp only [World.alloc,Array.getElem?_push_size]
 have q1:Below w.heap.size w (w.alloc (.cells cur 87)):=(Below.refl _ _).alloc (Nat.le_refl _) _
 generalize w.alloc (.cells cur 87)=W at *
 have hl1:=hl0.below q1
 have hfit1:0+l.length*Elt.ver.size≤cur.size:=by rw [hcur,Nat.add_mul];omega
 clear hl0
 go_wp2_with (first
  | (refine zen (E:=Elt.ver) verP.toLsP rfl rfl rfl rfl hl1 hg1 ?_ (by omega) hfit1;intro cs W2 hcs hg2 hgr2;have q2:=q1.grown hgr2 q1.size (fun k hk=>by injection hk with hk;omega);have hm2:=hm0.below q2;have hcl:=hcs.len;clear hl1 hm0)
  | (refine zen (E:=Elt.ver) verP.toLsP rfl rfl rfl rfl hm2 hg2 ?_ (by omega) ?hfit2;intro cs2 W3 hcs2 hg3 hgr3;have q3:=q2.grown hgr3 q2.size (fun k hk=>by injection hk with hk;omega);clear hm2)
  | (refine zdh verP.toLsP rfl rfl rfl (l:=l.length) (r:=l.length+m.length) (zav _ (by omega)) ?_;rw [hoff])
  | fail)
 case hfit2 =>
  have e3:Elt.ver.size=3:=rfl
  simp only [e3] at hcl hcur ⊢
  simp
  rcases ho with⟨h1,h2⟩| h1<;>omega
 have e:=zmq (cur:=cur) (cs:=cs) (cs2:=cs2) (off2:=off) (p:=l.length*3) (q:=m.length*3) (by rw [hcur,Nat.add_mul];rfl) hcl hcs2.len ho
 rw [e] at hg3
 have H0:zg2 w w.heap.size (l++m) 0 W3:=zg2.start hg3 q3 (Nat.le_refl _)
  (hcs.keep fun k hk=>(hgr3.block k (Nat.lt_of_lt_of_le hk q2.size) (fun e=>by injection e with e;exact Nat.lt_irrefl _ (e▸hk))).trans (hgr2.block k (Nat.lt_of_lt_of_le hk q1.size) (fun e=>by injection e with e;exact Nat.lt_irrefl _ (e▸hk))))
  (hcs2.keep fun k hk=>hgr3.block k (Nat.lt_of_lt_of_le hk q2.size) (fun e=>by injection e with e;exact Nat.lt_irrefl _ (e▸hk)))
 clear e hcs hcs2 hg2 hg3 hgr2 hgr3 q1 q2 q3 hcl hg1 hfit1 hoff ho hcur
 have hN:l.length+m.length=(l++m).length:=by simp
 have hNs:(l++m).length≤2000000:=by omega
 have hNI:(l.length:Int)+(m.length:Int)=((l++m).length:Int):=by omega
 rw [hN,hNI]
 clear hN hNI
 generalize l++m=xs at *
 go_upto_region 4 with (fail)
 go_loopw [22] (fun iv wr=>∃ k:Nat,iv=.int .i64 k∧k≤xs.length∧zg2 w w.heap.size xs k wr) (fun i _=>xs.length - (intOf i).toNat)
 case atStart=>exact⟨0,rfl,Nat.zero_le _,H0⟩
 case round =>
  clear H0
  obtain⟨k,rfl,hkl,H⟩:=hrel
  rcases Nat.lt_or_ge k xs.length with hlt | hge
  ·obtain⟨A,C,c0,hr,hnext⟩:=H.at hlt
   have hv:=hx _ (List.getElem_mem hlt)
   go_wp2_with fail
   refine (ze1 wr hr.rd (Nat.le_refl _) hv).mono ?_
   rintro e w2⟨A2,k2,C2,rfl,hF⟩
   obtain⟨c2',f2,H2⟩:=hnext w2 _ hF.1 (Own.rdS hF.2)
   clear hnext hr c0 hv
   go_wp2_with fail
   go_roundw
   case rel=>exact⟨k+1,by go_num,by omega,H2⟩
   case measure=>simp [intOf];omega
  ·obtain rfl:k=xs.length:=by omega
   go_wp2_with fail
   go_ret
   have h1:=H.done (by unfold maxLen;omega)
   obtain⟨_,_,_,_,_,_,hb⟩:=H
   exact⟨_,_,rfl,h1,hb⟩
end Go.Proofs.YtlpfhgdnmjkngaaGreat
