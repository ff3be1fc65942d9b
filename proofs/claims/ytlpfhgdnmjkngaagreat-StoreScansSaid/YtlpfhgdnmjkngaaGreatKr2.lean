/-
  TEXTS OF ONE PROOF, merged: Guard, Row, Kept, Sink, VerC, VerE, VerN, VerX, TreN, TreO, TreF, TreP, TreX.
-/
import Derived.ChangeAlike
import Derived.Deep.Matrix
import Derived.OpenShut
import Derived.RegionTactic
import Derived.Shelf.Abstract
import Derived.Test.YtlpfhgdnmjkngaaGreatKr1
namespace Go.Proofs.YtlpfhgdnmjkngaaGreat
open Go.RowKit
theorem slotIx_at : ∀ (l : List Oper) (k j : Nat) (o : Oper) (d : Tmp),(l.filterMap (·.dst)).Nodup → l[j]? = some o → o.dst = some d → slotIx l k d = some (k + j)
 | [],_,_,_,_,_,h,_ => by simp at h
 | o2 :: r,k,0,o,d,_,hj,hd => by
  obtain rfl : o2 = o := by simpa using hj
  simp [slotIx,hd]
 | o2 :: r,k,j + 1,o,d,hn,hj,hd => by
  have hmem : d ∈ r.filterMap (·.dst) := List.mem_filterMap.2 ⟨o,List.mem_of_getElem? (by simpa using hj),hd⟩
  have hne : o2.dst ≠ some d := by
   intro e
   rw [List.filterMap_cons_some e,List.nodup_cons] at hn
   exact hn.1 hmem
  have hn' : (r.filterMap (·.dst)).Nodup := by
   cases hd2 : o2.dst with
   | none => rwa [List.filterMap_cons_none hd2] at hn
   | some d2 => rw [List.filterMap_cons_some hd2,List.nodup_cons] at hn; exact hn.2
  simp only [slotIx,if_neg hne]
  rw [slotIx_at r (k + 1) j o d hn' (by simpa using hj) hd]
  congr 1; omega
def gdB (ops:Array Oper):Bool:=(ops.toList.zipIdx.all fun p=>p.1.after.all fun e=>!Region.binds .any e||decide (e.on<p.2))&&slotsB ops.toList
theorem all_listed_gd {ops : Array Oper} {listed : Array Bool} (hs : gdB ops = true) (hr : Region.ready .any ops listed = []) : ∀ i,i < ops.size → listed.getD i true = true := by
 intro i
 induction i using Nat.strongRecOn with
 | ind i ih =>
  intro hi
  cases hl : listed.getD i true with
  | true => rfl
  | false =>
   exfalso
   have hm : i ∈ Region.ready .any ops listed := by
    unfold Region.ready
    refine List.mem_filter.2 ⟨List.mem_range.2 hi,?_⟩
    have hdep : ∀ e ∈ (ops[i]'hi).after,Region.binds .any e = true → e.on < i := by
     intro e he hb
     simp only [gdB,Bool.and_eq_true,List.all_eq_true] at hs
     have := hs.1 ((ops[i]'hi),i) (by
      rw [List.mem_zipIdx_iff_getElem?]; simp [hi])
     rw [Array.all_eq_true'] at this
     have := this e he
     simpa [hb] using this
    simp only [hl,Array.getElem?_eq_getElem hi,Option.map_some,Option.getD_some,Bool.not_false,Bool.true_and]
    rw [Array.all_eq_true']
    intro e he
    cases hb : Region.binds .any e with
    | false => simp
    | true =>
     have hlt := hdep e he hb
     have := ih e.on hlt (by omega)
     simp only [Bool.not_true,Bool.false_or]
     revert this
     simp only [Array.getD_eq_getD_getElem?]
     cases hg : listed[e.on]? with
     | some b => simp
     | none =>
      exfalso
      rw [Array.getElem?_eq_none_iff] at hg
      simp only [Array.getD_eq_getD_getElem?,Array.getElem?_eq_none_iff.2 (show listed.size ≤ i by omega)] at hl
      cases hl
   rw [hr] at hm
   cases hm
section
variable {P : Program} {Q : Exit → Act → World → Prop}
def GdOp (P:Program) (Q:Exit→Act→World→Prop) (ops:Array Oper) (a:Act) (w:World) (G:Nat→World→Value→Prop) (i:Nat) (o:Oper):Prop :=
 match o.guard with
 | none=>SoftOp P Q ops a w G i o
 | some (j,b)=>(∃ oj d,ops[j]?=some oj∧oj.dst=some d∧d<a.tmps.size)∧(o.after.any fun e=>e.on==j&&Region.binds .any e)=true ∧
   (((∀ w v,G j w v→v=.bool b)∧SoftOp P Q ops a w G i o)∨((∀ w v,G j w v→v=.bool (!b)∨v=undef)∧∀ w,G i w undef))
theorem GdOp.plain {ops:Array Oper} {a:Act} {w:World} {G:Nat→World→Value→Prop} {i:Nat} {o:Oper}(h:o.guard=none)(h2:SoftOp P Q ops a w G i o):GdOp P Q ops a w G i o:=by
 unfold GdOp;rw [h];exact h2
theorem GdOp.taken {ops : Array Oper} {a : Act} {w : World} {G : Nat → World → Value → Prop} {i : Nat} {o : Oper} {j : Nat} {b : Bool} (h : o.guard = some (j,b)) (h1 : ∃ oj d,ops[j]? = some oj ∧ oj.dst = some d ∧ d < a.tmps.size)
  (h2 : (o.after.any fun e => e.on == j && Region.binds .any e) = true) (h3 : ∀ w v,G j w v → v = .bool b) (h4 : SoftOp P Q ops a w G i o) : GdOp P Q ops a w G i o := by
 unfold GdOp; rw [h]; exact ⟨h1,h2,.inl ⟨h3,h4⟩⟩
def GdAll (P:Program) (Q:Exit→Act→World→Prop) (ops:Array Oper) (a:Act) (w:World) (G:Nat→World→Value→Prop):Nat→List Oper→Prop
 | _,[]=>True
 | i,o::rest=>GdOp P Q ops a w G i o∧GdAll P Q ops a w G (i+1) rest
theorem GdAll.get {ops : Array Oper} {a : Act} {w : World} {G : Nat → World → Value → Prop} : ∀ (l : List Oper) (k j : Nat) (o : Oper), GdAll P Q ops a w G k l → l[j]? = some o → GdOp P Q ops a w G (k + j) o
  | [], _, _, _, _, h => by simp at h
  | o' :: rest, k, 0, o, h, hj => by obtain rfl : o' = o := by simpa using hj
                                     exact h.1
  | o' :: rest, k, j + 1, o, h, hj => by rw [show k + (j + 1) = k + 1 + j by omega]; exact GdAll.get rest (k + 1) j o h.2 (by simpa using hj)
theorem wp_region_gd {id : Nat} {ops : Array Oper} {a : Act} {w : World} (hm : P.follows .mixedOrders = true) (hs : gdB ops = true) (G : Nat → World → Value → Prop)
  (hst : ∀ i w v w',G i w v → Below w.heap.size w w' → G i w' v) (hop : GdAll P Q ops a w G 0 ops.toList)
  (hend : ∀ (vs : Nat → Value) (w' : World),Below w.heap.size w w' → (∀ i,i < ops.size → G i w' (vs i)) → Q .normal (putAll a ops.toList vs 0) w') : (Code.region id ops true).wp P Q a w := by
 refine wp_region_any hm ?_
 have hnd : (ops.toList.filterMap (·.dst)).Nodup := by simp only [gdB,slotsB,Bool.and_eq_true,decide_eq_true_eq] at hs; exact hs.2
 have main : ∀ (fuel : Nat) (listed : Array Bool) (vs : Nat → Value) (w' : World),listed.size = ops.size → (unlisted ops.size listed).length ≤ fuel → Below w.heap.size w w' →
   (∀ i,i < ops.size → listed.getD i true = true → G i w' (vs i)) → wpAny P .any ops Q fuel listed (putAll a ops.toList vs 0) w' := by
  intro fuel
  induction fuel with
  | zero =>
   intro listed vs w' hsz hu hb hG
   have hall : ∀ i,i < ops.size → listed.getD i true = true := by
    intro i hi
    cases hl : listed.getD i true with
    | true => rfl
    | false =>
     have : i ∈ unlisted ops.size listed := List.mem_filter.2 ⟨List.mem_range.2 hi,by simp [hl]⟩
     rw [List.eq_nil_of_length_eq_zero (Nat.le_zero.1 hu)] at this
     cases this
   refine ⟨?_,hend vs w' hb (fun i hi => hG i hi (hall i hi))⟩
   unfold Region.ready
   rw [List.filter_eq_nil_iff]
   intro i hi
   simp [hall i (List.mem_range.1 hi)]
  | succ fuel ih =>
   intro listed vs w' hsz hu hb hG
   refine ⟨fun hr => hend vs w' hb (fun i hi => hG i hi (all_listed_gd hs hr i hi)),fun i hi => ?_⟩
   unfold Region.ready at hi
   obtain ⟨hi1,hi2⟩ := List.mem_filter.1 hi
   have hlt := List.mem_range.1 hi1
   rw [Bool.and_eq_true] at hi2
   obtain ⟨hl,hdep⟩ := hi2
   have hl' : listed.getD i true = false := by simpa using hl
   obtain ⟨o,ho⟩ : ∃ o,ops[i]? = some o := ⟨_,Array.getElem?_eq_getElem hlt⟩
   rw [ho] at hdep
   simp only [Option.map_some,Option.getD_some] at hdep
   rw [Array.all_eq_true'] at hdep
   have hgop := GdAll.get ops.toList 0 i o hop (by rw [Array.getElem?_toList]; exact ho)
   rw [Nat.zero_add] at hgop
   have hdepG : ∀ e ∈ o.after,Region.binds .any e = true → e.on < ops.size ∧ G e.on w' (vs e.on) := by
    intro e he hbn
    have h := hdep e he
    rw [hbn] at h
    simp only [Bool.not_true,Bool.false_or] at h
    have hin : e.on < listed.size := by
     rcases Nat.lt_or_ge e.on listed.size with h' | h'
     ·exact h'
     ·simp [Array.getD_eq_getD_getElem?,Array.getElem?_eq_none_iff.2 h'] at h
    refine ⟨by omega,hG e.on (by omega) ?_⟩
    simp only [Array.getD_eq_getD_getElem?,Array.getElem?_eq_getElem hin,Option.getD_some] at h ⊢
    exact h
   have step : ∀ (v : Value) (w2 : World),Below w'.heap.size w' w2 → G i w2 v → wpAny P .any ops Q fuel (listed.setIfInBounds i true) ((putAll a ops.toList vs 0).put o.dst v) w2 := by
    intro v w2 hb2 hg
    rw [putAll_put ops.toList a vs 0 i o v hnd (by rw [Array.getElem?_toList]; exact ho),Nat.zero_add]
    refine ih _ _ _ (by simp [hsz]) (by have := unlisted_set hsz hlt hl'; omega) (hb.trans (hb2.mono hb.size)) (fun j hj hlj => ?_)
    by_cases hji : j = i
    ·subst hji; simpa [upd] using hg
    ·have : upd vs i v j = vs j := by simp [upd,hji]
     rw [this]
     refine hst j w' _ w2 (hG j hj ?_) hb2
     simp only [Array.getD_eq_getD_getElem?,Array.getElem?_setIfInBounds_ne (Ne.symm hji)] at hlj ⊢
     exact hlj
   have run : SoftOp P Q ops a w G i o → o.wp P (putAll a ops.toList vs 0) w' (wpAny P .any ops Q fuel (listed.setIfInBounds i true)) Q := by
    intro hsoft
    have hwp := hsoft (putAll a ops.toList vs 0) vs w' (fun t h => eval_putAll_out _ _ _ _ _ h) (fun t j ht h => eval_putAll_in _ _ _ _ _ _ hnd ht h) hb (fun e he hbn => (hdepG e he hbn).2)
    refine Oper.wp_mono ?_ hwp
    rintro a2 w2 ⟨v,rfl,hg,hb2⟩
    exact step v w2 hb2 hg
   unfold wpOp
   simp only [ho]
   unfold GdOp at hgop
   cases hgd : o.guard with
   | none =>
    rw [hgd] at hgop
    simp only [Region.wanted,hgd,if_true]
    exact .inl (run hgop)
   | some p =>
    obtain ⟨j,b⟩ := p
    rw [hgd] at hgop
    obtain ⟨⟨oj,d,hoj,hd,hdlt⟩,hany,hcase⟩ := hgop
    rw [Array.any_eq_true'] at hany
    obtain ⟨e,he,hej⟩ := hany
    rw [Bool.and_eq_true,beq_iff_eq] at hej
    obtain ⟨rfl,hbn⟩ := hej
    have hgj := (hdepG e he hbn).2
    have hix : slotIx ops.toList 0 d = some e.on := by
     have := slotIx_at ops.toList 0 e.on oj d hnd (by rw [Array.getElem?_toList]; exact hoj) hd
     simpa using this
    have hev := eval_putAll_in ops.toList a vs 0 d e.on hnd hdlt hix
    have hy : ∀ c,vs e.on = .bool c → yielded ops (putAll a ops.toList vs 0).tmps e.on = some c := by
     intro c hc
     have h1 : (putAll a ops.toList vs 0).tmps.getD d undef = .bool c := by
      have h2 : (putAll a ops.toList vs 0).eval (.tmp d) = (putAll a ops.toList vs 0).tmps.getD d undef := rfl
      rw [← h2,hev]; exact hc
     rw [Array.getD_eq_getD_getElem?] at h1
     cases hx : (putAll a ops.toList vs 0).tmps[d]? with
     | none => rw [hx] at h1; exact absurd h1 (by simp [undef])
     | some u =>
      rw [hx] at h1
      simp only [Option.getD_some] at h1
      simp [yielded,hoj,hd,hx,h1]
    rcases hcase with ⟨hv,hsoft⟩ | ⟨hv,hun⟩
    ·have hyes := hy b (hv _ _ hgj)
     simp only [Region.wanted,hgd,hyes,beq_self_eq_true,if_true]
     exact .inl (run hsoft)
    ·have hw0 : Region.wanted o (yielded ops (putAll a ops.toList vs 0).tmps) = false := by
      rcases hv _ _ hgj with hv | hv
      ·simp only [Region.wanted,hgd,hy (!b) hv]; cases b <;> rfl
      ·have h1 : (putAll a ops.toList vs 0).tmps.getD d undef = undef := by
        have h2 : (putAll a ops.toList vs 0).eval (.tmp d) = (putAll a ops.toList vs 0).tmps.getD d undef := rfl
        rw [← h2,hev]; exact hv
       have h3 : yielded ops (putAll a ops.toList vs 0).tmps e.on = none := by
        rw [Array.getD_eq_getD_getElem?] at h1
        cases hx : (putAll a ops.toList vs 0).tmps[d]? with
        | none => simp [yielded,hoj,hd,hx]
        | some u =>
         rw [hx] at h1
         simp only [Option.getD_some] at h1
         subst h1
         simp [yielded,hoj,hd,hx,undef]
       simp only [Region.wanted,hgd,h3]; cases b <;> rfl
     simp only [hw0]
     exact step undef w' (Below.refl _ _) (hun w')
 have h0 := main ops.size (Array.replicate ops.size false) (fun i => ((ops[i]?).bind (·.dst)).elim undef (fun d => a.tmps.getD d undef)) { w with drawn := w.drawn + 1 } (by simp)
  (by have := List.length_filter_le (fun i => !(Array.replicate ops.size false).getD i true) (List.range ops.size); simpa [unlisted] using this) ⟨rfl,rfl,rfl,Nat.le_refl _,fun _ _ => rfl⟩
  (fun i hi h => by simp [Array.getD_eq_getD_getElem?,hi] at h)
 rw [putAll_orig ops.toList a _ 0 (fun j o d hj hd => by
  rw [Array.getElem?_toList] at hj
  simp [hj,hd])] at h0
 exact h0
theorem wp_region_gsg {id:Nat} {ops:Array Oper} {a:Act} {w:World} (hm:P.follows .mixedOrders=true) (hs:gdB ops=true) (Gs:List SG)
  (hop:GdAll P Q ops a w (fun i=>(Gs.getD i sgAny).1) 0 ops.toList)
  (hend:∀ (vs:Nat→Value) (w':World),Below w.heap.size w w'→(∀ i,i<ops.size→(Gs.getD i sgAny).1 w' (vs i))→Q .normal (putAll a ops.toList vs 0) w'):(Code.region id ops true).wp P Q a w :=
 wp_region_gd hm hs (fun i=>(Gs.getD i sgAny).1) (fun i=>(Gs.getD i sgAny).2) hop hend
theorem putAll_size:∀(l:List Oper)(a:Act)(vs:Nat→Value)(k:Nat),(putAll a l vs k).tmps.size=a.tmps.size
 | [],_,_,_=>rfl
 | o::rest,a,vs,k=>by simp only [putAll];rw [putAll_size rest,size_put]
theorem defers_put(a:Act)(d:Option Tmp)(v:Value):(a.put d v).defers=a.defers:=by cases d<;>rfl
theorem putAll_defers:∀(l:List Oper)(a:Act)(vs:Nat→Value)(k:Nat),(putAll a l vs k).defers=a.defers
 | [],_,_,_=>rfl
 | o::rest,a,vs,k=>by simp only [putAll];rw [putAll_defers rest,defers_put]
def Behind (ops:List Oper) (a:Act) (vs:Nat→Value) (A:Act):Prop :=
 A.defers=a.defers∧A.tmps.size=a.tmps.size∧(∀ t,slotIx ops 0 t=none→A.eval (.tmp t)=a.eval (.tmp t))∧(∀ t j,t<a.tmps.size→slotIx ops 0 t=some j→A.eval (.tmp t)=vs j)
theorem wp_region_gsa {id : Nat} {ops : Array Oper} {a : Act} {w : World} (hm : P.follows .mixedOrders = true) (hs : gdB ops = true) (Gs : List SG)
  (hop : GdAll P Q ops a w (fun i => (Gs.getD i sgAny).1) 0 ops.toList)
  (hend : ∀ (A : Act) (vs : Nat → Value) (w' : World),Behind ops.toList a vs A → Below w.heap.size w w' → (∀ i,i < ops.size → (Gs.getD i sgAny).1 w' (vs i)) → Q .normal A w') : (Code.region id ops true).wp P Q a w := by
 have hnd : (ops.toList.filterMap (·.dst)).Nodup := by simp only [gdB,slotsB,Bool.and_eq_true,decide_eq_true_eq] at hs; exact hs.2
 exact wp_region_gsg hm hs Gs hop fun vs w' hb hG => hend _ vs w' ⟨putAll_defers _ _ _ _,putAll_size _ _ _ _,fun t h => eval_putAll_out _ _ _ _ _ h,fun t j ht h => eval_putAll_in _ _ _ _ _ _ hnd ht h⟩ hb hG
end
end Go.Proofs.YtlpfhgdnmjkngaaGreat
namespace Go.Proofs.YtlpfhgdnmjkngaaGreat
open Go.RowKit
theorem Rd.of_row {w : World} {a : Option Addr} {len cap : Nat} {zs : List Int} (h : (a = none ∧ len = 0 ∧ cap = 0 ∧ zs = []) ∨
  ∃ x,a = some x ∧ len ≤ cap ∧ cap ≤ maxLen ∧ zs.length = cap ∧ (∀ i,i < zs.length → w.cell? (x.add i) = some (.int .u8 (zs.getD i 0))) ∧ ∀ n ∈ zs,(Lit.int .u8 n).wf = true) :
  Rd w.heap.size w (.slice a len cap) ((zs.take len).map fun n => UInt8.ofNat n.toNat) := by
 rcases h with ⟨rfl,rfl,rfl,rfl⟩ | ⟨x,rfl,hl,hm,hz,hc,hw⟩
 ·exact Rd.nil _ _
 ·by_cases h0 : len = 0
  ·subst h0
   exact .inl ⟨_,cap,rfl,hm,by simp⟩
  ·have hlen : ((zs.take len).map fun n => UInt8.ofNat n.toNat).length = len := by simp; omega
   obtain ⟨b,off,spot⟩ := x
   have h1 := hc 0 (by omega)
   have hspot : spot = none := by simpa [Addr.add] using World.cell?_spot h1
   subst hspot
   have hb := World.block_lt_of_cell? w _ h1
   refine .inr ⟨b,off,cap,by rw [hlen],by simpa [Addr.add] using hb,by rw [hlen]; exact hl,hm,fun j u hj => ?_⟩
   have hjl : j < len := by
    rcases Nat.lt_or_ge j len with h | h
    ·exact h
    ·rw [List.getElem?_eq_none (by rw [bv_length,hlen]; exact h)] at hj; cases hj
   have hcj := hc j (by omega)
   rw [Addr.add_lit] at hcj
   rw [hcj]
   have hjz : j < zs.length := by omega
   have hwf := hw zs[j] (List.getElem_mem hjz)
   have hr : 0 ≤ zs[j] ∧ zs[j] ≤ 255 := by
    simp [Lit.wf,IntKind.min,IntKind.max,IntKind.signed,IntKind.bits] at hwf; omega
   simp [bv,hjl,hjz] at hj
   rw [← hj]
   simp [List.getD,hjz]
   omega
theorem wf_u8 {n:Int}(h:(Lit.int .u8 n).wf=true):0≤n∧n<256:=by
 simp [Lit.wf,IntKind.min,IntKind.max,IntKind.signed,IntKind.bits] at h;omega
theorem wf_u16 {n:Int}(h:(Lit.int .u16 n).wf=true):0≤n∧n<65536:=by
 simp [Lit.wf,IntKind.min,IntKind.max,IntKind.signed,IntKind.bits] at h;omega
theorem wf_u32 {n:Int}(h:(Lit.int .u32 n).wf=true):0≤n∧n<4294967296:=by
 simp [Lit.wf,IntKind.min,IntKind.max,IntKind.signed,IntKind.bits] at h;omega
end Go.Proofs.YtlpfhgdnmjkngaaGreat
namespace Go.Proofs.YtlpfhgdnmjkngaaGreat
open Go.RowKit
def NotU8(v:Value):Prop:=∀ i,v≠.int .u8 i
def IsBox (w:World) (t:TypeId) (b:Nat):Prop:=∃ x y,w.heap[b]?=some (.cells #[x,y] t (0,0))∧NotU8 x∧NotU8 y
def BoxK (ok:Nat→Prop) (t:TypeId) (A B:World):Prop:=A=B∨∃ b,ok b∧A.grownBy B (some b)∧IsBox A t b∧IsBox B t b
abbrev SGk(ok:Nat→Prop)(t:TypeId):={ G:World→Value→Prop //(∀ w v w',G w v→Below w.heap.size w w'→G w' v)∧(∀ w v w',G w v→BoxK ok t w w'→G w' v) }
section
variable {ok : Nat → Prop} {t : TypeId}
def kAny:SGk ok t:=⟨fun _ _=>True,fun _ _ _ h _=>h,fun _ _ _ h _=>h⟩
end
section
variable {P : Program} {Q : Exit → Act → World → Prop}
def kk(ok:Nat→Prop)(t:TypeId)(m:Nat)(i:Nat)(A B:World):Prop:=if i=m then BoxK ok t A B else Below A.heap.size A B
def gk {ok:Nat→Prop} {t:TypeId} (Gs:List (SGk ok t)) (m:Nat) (Gm:SG) (i:Nat):World→Value→Prop:=if i=m then Gm.1 else (Gs.getD i kAny).1
end
section
variable {P : Program} {t : TypeId} {x0 y0 : Value} {o : Oper} {a : Act} {K : Act → World → Prop} {Q : Exit → Act → World → Prop} {w : World}
theorem run_sizeOf {ty:TypeId} {n:Nat} (h:(P.info? ty).map (·.size)=some n) (w:World):(sizeOf ty).run P w=.ok n w:=by
 cases hi:P.info? ty with
 | none=>simp [hi] at h
 | some i=>simp [hi] at h;simp [sizeOf,typeInfo,hi,h]
theorem wp_skip {w2:World} (hrun:(execOp a.eval o).run P w=.ok .skip w2) (h:K (a.put o.dst undef) w2):o.wp P a w K Q:=by
 unfold Oper.wp
 rw [hrun]
 exact h
end
theorem size_set(W:World)(p:Addr)(z:Value):(W.setCell p z).heap.size=W.heap.size:=by simp [World.setCell]
end Go.Proofs.YtlpfhgdnmjkngaaGreat
namespace Go.Proofs.YtlpfhgdnmjkngaaGreat
open Go.RowKit
section
variable {P : Program} {o : Oper} {a : Act} {K : Act → World → Prop} {Q : Exit → Act → World → Prop} {w : World}
theorem wp_maxI {x y:Operand} {ts:Array TypeId} {m n k:Int} (ho:o.op=.call { callee:=.builtin .max,args:=#[x,y],argTypes:=ts }) (hx:a.eval x=.int .i64 m) (hy:a.eval y=.int .i64 n) (hk:k=max m n)
  (h:K (a.put o.dst (.int .i64 k)) w):o.wp P a w K Q:=by
 have hrun:(Builtin.max_ ts o.type #[.int .i64 m,.int .i64 n]).run P w=.ok (.int .i64 k) w:=by
  subst hk
  simp [Builtin.max_,Builtin.max2]
  omega
 refine wp_run ?_ h
 simp only [execOp,ho,resolve,invoke,builtin,Sem.run_bind,Sem.run_pure,Result.andThen_ok,List.map_toArray,List.map_cons,List.map_nil,hx,hy,hrun]
end
end Go.Proofs.YtlpfhgdnmjkngaaGreat
namespace Go.Proofs.YtlpfhgdnmjkngaaGreat
open Go.RowKit Go.Shelf
theorem cells_at {w : World} {b : Nat} {t : TypeId} {us : List Value} (h : w.heap[b]? = some (.cells us.toArray t (0,0))) (j : Nat) (u : Value) (hj : us[j]? = some u) : w.cell? (Addr.add ⟨b,0,none⟩ j) = some u := by
 rw [Addr.add_lit,World.cell?,h]
 simpa using hj
end Go.Proofs.YtlpfhgdnmjkngaaGreat
namespace Go.Proofs.YtlpfhgdnmjkngaaGreat
open Go.RowKit Go.Shelf
theorem vacV_zero {l:List Ver} {s:Int}(h:cntV l s=0):vacV l s=l:=by unfold vacV;split<;>simp [h]
theorem vacV_gone {l:List Ver} {s:Int} {m:Nat} (hk:okV l) (h:cntV l s=m+1) (hm:m<l.length) (hg:l[m].gone=true):vacV l s=l.drop (m+1):=by
 unfold vacV
 rw [if_pos hk,dif_pos (by omega)]
 simp only [h,Nat.add_sub_cancel,hg,if_true]
theorem vacV_some {l:List Ver} {s:Int} {m:Nat} (hk:okV l) (h:cntV l s=m+1) (hm:m<l.length) (hg:l[m].gone=false):vacV l s=l.drop m:=by
 unfold vacV
 rw [if_pos hk,dif_pos (by omega)]
 simp only [h,Nat.add_sub_cancel,hg,Bool.false_eq_true,if_false]
theorem instV_arg {l:List Ver} {x:Ver}(h:¬(okV l∧mayV x)):instV l x=(l,1):=by unfold instV;rw [if_neg h]
theorem instV_nil {l : List Ver} {x : Ver} (h0 : l.length = 0) (h : mayV x) : instV l x = (l ++ [x],0) := by
 obtain rfl : l = [] := List.eq_nil_of_length_eq_zero h0
 unfold instV
 rw [if_pos ⟨fun i h => absurd h (Nat.not_lt_zero _),h⟩]
 rfl
theorem instV_old {l : List Ver} {x : Ver} {m : Nat} (hk : okV l) (h : mayV x) (hm : l.length = m + 1) (hs : x.stamp ≤ (l[m]'(by omega)).stamp) : instV l x = (l,50) := by
 unfold instV
 rw [if_pos ⟨hk,h⟩,List.getLast?_eq_getElem?,show l.length - 1 = m by omega,List.getElem?_eq_getElem (by omega)]
 simp only [if_pos hs]
theorem instV_new {l : List Ver} {x : Ver} {m : Nat} (hk : okV l) (h : mayV x) (hm : l.length = m + 1) (hs : ¬ x.stamp ≤ (l[m]'(by omega)).stamp) : instV l x = (l ++ [x],0) := by
 unfold instV
 rw [if_pos ⟨hk,h⟩,List.getLast?_eq_getElem?,show l.length - 1 = m by omega,List.getElem?_eq_getElem (by omega)]
 simp only [if_neg hs]
end Go.Proofs.YtlpfhgdnmjkngaaGreat
namespace Go.Proofs.YtlpfhgdnmjkngaaGreat
theorem lastAt_spec (l : List Ver) (s : Int) : ∀ k, k ≤ l.length → (∀ i (h : i < l.length), lastAt l s k ≤ i → i < k → ¬ l[i].stamp ≤ s) ∧ (∀ m (h : m < l.length), lastAt l s k = m + 1 → l[m].stamp ≤ s)
  | 0, _ => ⟨fun i _ _ h => absurd h (Nat.not_lt_zero _), fun m _ h => by simp [lastAt] at h⟩
  | k + 1, hk => by
    obtain ⟨h1, h2⟩ := lastAt_spec l s k (by omega)
    by_cases hs : l[k].stamp ≤ s
    · rw [lastAt_yes (by omega) hs]
      exact ⟨fun i _ h3 h4 => by omega, fun m hm e => by obtain rfl : m = k := by omega
                                                         exact hs⟩
    · rw [lastAt_no (by omega) hs]
      refine ⟨fun i hi h3 h4 => ?_, h2⟩
      rcases Nat.lt_or_ge i k with h5 | h5
      · exact h1 i hi h3 h5
      · obtain rfl : i = k := by omega
        exact hs
theorem okV_lt {l:List Ver} (hk:okV l):∀ d i (h:i+d<l.length),0<d→l[i].stamp<l[i+d].stamp
 | 0,_,_,h=>absurd h (Nat.lt_irrefl _)
 | d+1,i,h,_=>by
  have h1:=(hk (i+d+1) h).2 (by omega)
  simp only [Nat.add_sub_cancel] at h1
  rcases Nat.eq_zero_or_pos d with rfl | h2
  ·exact h1
  ·have:=okV_lt hk d i (by omega) h2
   exact Int.lt_trans this h1
theorem okV_mono {l:List Ver} (hk:okV l) {i j:Nat} (hij:i<j) (hj:j<l.length):(l[i]'(by omega)).stamp<l[j].stamp:=by
 have:=okV_lt hk (j - i) i (by omega) (by omega)
 simpa [show i+(j - i)=j by omega] using this
theorem cnt_iff {l:List Ver} (hk:okV l) (s:Int) {i:Nat} (h:i<l.length):l[i].stamp≤s↔i<cntV l s:=by
 obtain⟨h1,h2⟩:=lastAt_spec l s l.length (Nat.le_refl _)
 constructor
 ·intro hs
  rcases Nat.lt_or_ge i (cntV l s) with h3 | h3
  ·exact h3
  ·exact absurd hs (h1 i h h3 h)
 ·intro hi
  have hle:=cntV_le l s
  obtain⟨m,hm⟩:∃ m,cntV l s=m+1:=⟨cntV l s - 1,by omega⟩
  have hms:=h2 m (by omega) hm
  rcases Nat.lt_or_ge i m with h3 | h3
  ·have:=okV_mono hk h3 (by omega)
   omega
  ·obtain rfl:i=m:=by omega
   exact hms
theorem cnt_eq {l:List Ver} (hk:okV l) {s:Int} {c:Nat} (hc:c≤l.length) (h:∀ i (h:i<l.length),l[i].stamp≤s↔i<c):cntV l s=c:=by
 have hle:=cntV_le l s
 rcases Nat.lt_trichotomy (cntV l s) c with h1 | h1 | h1
 ·have h2:=(h (cntV l s) (by omega)).2 h1
  have:=(cnt_iff hk s (by omega)).1 h2
  omega
 ·exact h1
 ·have h2:=(cnt_iff hk s (i:=c) (by omega)).2 h1
  have:=(h c (by omega)).1 h2
  omega
theorem okV_drop {l:List Ver} (hk:okV l) (k:Nat):okV (l.drop k):=fun i h=>by
 have hl:k+i<l.length:=by rw [List.length_drop] at h;omega
 rw [List.getElem_drop]
 refine⟨(hk _ hl).1,fun h0=>?_⟩
 rw [List.getElem_drop]
 exact okV_mono hk (by omega) hl
theorem okV_snoc {l:List Ver} (hk:okV l) {x:Ver} (hx:mayV x) (hs:∀ y∈l,y.stamp<x.stamp):okV (l++[x]):=fun i h=>by
 rw [List.length_append] at h
 simp only [List.length_cons,List.length_nil] at h
 rcases Nat.lt_or_ge i l.length with h1 | h1
 ·rw [List.getElem_append_left h1]
  refine⟨(hk i h1).1,fun h0=>?_⟩
  rw [List.getElem_append_left (by omega)]
  exact (hk i h1).2 h0
 ·obtain rfl:i=l.length:=by omega
  rw [List.getElem_append_right (Nat.le_refl _)]
  simp only [Nat.sub_self,List.getElem_cons_zero]
  refine⟨hx,fun h0=>?_⟩
  rw [List.getElem_append_left (by omega)]
  exact hs _ (List.getElem_mem _)
theorem cnt_snoc {l:List Ver} (hk:okV l) {x:Ver} (hx:mayV x) (hs:∀ y∈l,y.stamp<x.stamp) (s:Int):cntV (l++[x]) s=if x.stamp≤s then l.length+1 else cntV l s:=by
 have hle:=cntV_le l s
 refine cnt_eq (okV_snoc hk hx hs) ?_ (fun i h=>?_)
 ·rw [List.length_append];simp;split<;>omega
 ·rw [List.length_append] at h
  simp only [List.length_cons,List.length_nil] at h
  rcases Nat.lt_or_ge i l.length with h1 | h1
  ·rw [List.getElem_append_left h1,cnt_iff hk s h1]
   split
   ·rename_i hxs
    have h2:=hs _ (List.getElem_mem h1)
    have:=(cnt_iff hk s h1).1 (by omega)
    omega
   ·exact Iff.rfl
  ·obtain rfl:i=l.length:=by omega
   rw [List.getElem_append_right (Nat.le_refl _)]
   simp only [Nat.sub_self,List.getElem_cons_zero]
   split
   ·rename_i hxs;exact⟨fun _=>Nat.lt_succ_self _,fun _=>hxs⟩
   ·rename_i hxs;exact⟨fun h=>absurd h hxs,fun h=>by omega⟩
def readC (l:List Ver) (c:Nat):Option (List UInt8):=match l[c - 1]? with
 | some x=>if c=0 then none else if x.gone then none else some x.value
 | none=>none
theorem readV_cnt {l:List Ver} (hk:okV l) (s:Int):readV l s=readC l (cntV l s):=by
 have hle:=cntV_le l s
 unfold readC
 cases hc:cntV l s with
 | zero=>rw [readV_zero hc];simp;cases l[0]?<;>rfl
 | succ m =>
  have hm:m<l.length:=by omega
  rw [Nat.add_sub_cancel,List.getElem?_eq_getElem hm]
  simp only [Nat.add_eq_zero_iff,Nat.one_ne_zero,and_false,if_false]
  cases hg:l[m].gone with
  | true=>rw [readV_gone hc hm hg];rfl
  | false=>rw [readV_some hk hc hm hg];rfl
theorem newer_cnt {l:List Ver} (hk:okV l) (s:Int):newerV l s=decide (cntV l s<l.length):=by
 have hle:=cntV_le l s
 rcases Nat.eq_zero_or_pos l.length with h0 | h0
 ·obtain rfl:l=[]:=List.eq_nil_of_length_eq_zero h0
  rw [newerV_nil];rfl
 ·obtain⟨m,hm⟩:∃ m,l.length=m+1:=⟨l.length - 1,by omega⟩
  rw [newerV_last hm,decide_eq_true hk,Bool.true_and]
  have:=cnt_iff hk s (i:=m) (by omega)
  rw [decide_eq_decide]
  constructor
  ·intro h;have:=mt this.2 (by omega);omega
  ·intro h;have:=mt this.1 (by omega);omega
theorem vacV_ok {l:List Ver} (hk:okV l) (s:Int):okV (vacV l s)∧∀ y∈vacV l s,y∈l:=by
 cases hc:cntV l s with
 | zero=>rw [vacV_zero hc];exact⟨hk,fun _ h=>h⟩
 | succ m =>
  have hm:m<l.length:=by have:=cntV_le l s;omega
  cases hg:l[m].gone with
  | true=>rw [vacV_gone hk hc hm hg];exact⟨okV_drop hk _,fun _ h=>List.mem_of_mem_drop h⟩
  | false=>rw [vacV_some hk hc hm hg];exact⟨okV_drop hk _,fun _ h=>List.mem_of_mem_drop h⟩
theorem vacV_len(l:List Ver)(s:Int):(vacV l s).length≤l.length:=by
 unfold vacV
 split
 ·split
  ·split<;>simp
  ·exact Nat.le_refl _
 ·exact Nat.le_refl _
theorem instV_yes {l:List Ver} {x:Ver} (hk:okV l) (hm:mayV x) (hs:∀ y∈l,y.stamp<x.stamp):instV l x=(l++[x],0):=by
 rcases Nat.eq_zero_or_pos l.length with h0 | h0
 ·exact instV_nil h0 hm
 ·obtain⟨m,hml⟩:∃ m,l.length=m+1:=⟨l.length - 1,by omega⟩
  have:=hs (l[m]'(by omega)) (List.getElem_mem _)
  exact instV_new hk hm hml (by omega)
theorem instV_cases (l : List Ver) (x : Ver) : (∃ er,er ≠ 0 ∧ instV l x = (l,er)) ∨ (instV l x = (l ++ [x],0) ∧ okV l ∧ mayV x ∧ ∀ y ∈ l,y.stamp < x.stamp) := by
 by_cases h : okV l ∧ mayV x
 ·obtain ⟨hk,hm⟩ := h
  rcases Nat.eq_zero_or_pos l.length with h0 | h0
  ·refine .inr ⟨instV_nil h0 hm,hk,hm,?_⟩
   obtain rfl : l = [] := List.eq_nil_of_length_eq_zero h0
   simp
  ·obtain ⟨m,hml⟩ : ∃ m,l.length = m + 1 := ⟨l.length - 1,by omega⟩
   by_cases hs : x.stamp ≤ (l[m]'(by omega)).stamp
   ·exact .inl ⟨50,by omega,instV_old hk hm hml hs⟩
   ·refine .inr ⟨instV_new hk hm hml hs,hk,hm,fun y hy => ?_⟩
    obtain ⟨r,hr,rfl⟩ := List.mem_iff_getElem.1 hy
    rcases Nat.lt_or_ge r m with h3 | h3
    ·have := okV_mono hk h3 (by omega); omega
    ·obtain rfl : r = m := by omega
     omega
 ·exact .inl ⟨1,by omega,instV_arg h⟩
section
variable {l : List Ver} {x : Ver} (hk : okV l) (hx : mayV x) (hs : ∀ y ∈ l, y.stamp < x.stamp)
include hk hx hs
theorem read_snoc_gone {s:Int} (h:x.stamp≤s) (hg:x.gone=true):readV (l++[x]) s=none:=by
 have hc:=cnt_snoc hk hx hs s
 rw [if_pos h] at hc
 exact readV_gone hc (by simp) (by simp [hg])
theorem read_snoc_some {s:Int} (h:x.stamp≤s) (hg:x.gone=false):readV (l++[x]) s=some x.value:=by
 have hc:=cnt_snoc hk hx hs s
 rw [if_pos h] at hc
 rw [readV_some (okV_snoc hk hx hs) hc (by simp) (by simp [hg])]
 simp
theorem read_snoc_old {s:Int} (h:¬ x.stamp≤s):readV (l++[x]) s=readV l s:=by
 have hc:=cnt_snoc hk hx hs s
 rw [if_neg h] at hc
 rw [readV_cnt (okV_snoc hk hx hs),readV_cnt hk,hc]
 have hle:=cntV_le l s
 unfold readC
 rcases Nat.lt_or_ge (cntV l s - 1) l.length with h1 | h1
 ·rw [List.getElem?_append_left h1]
 ·have h0:cntV l s=0:=by omega
  have hl0:l=[]:=List.eq_nil_of_length_eq_zero (by omega)
  subst hl0
  simp [h0]
end
end Go.Proofs.YtlpfhgdnmjkngaaGreat
namespace Go.Proofs.YtlpfhgdnmjkngaaGreat
open Go.RowKit
def smallV(l:List Ver):Prop:=l.length≤1000∧∀ x∈l,x.value.length≤1000
def VersNew (w:World) (l:List Ver) (e:Ending) (w':World):Prop :=
 ∃ a c,e=.returned (.slice a l.length c)∧RdL Elt.ver (fun k=>w.heap.size≤k∧k<w'.heap.size) w' (.slice a l.length c) l∧Below w.heap.size w w'
def InstNew (w:World) (l:List Ver) (x:Ver) (e:Ending) (w':World):Prop :=
 ∃ a c,e=.returned (.tuple #[.slice a (instV l x).1.length c,.int .i64 ((instV l x).2:Nat)])∧RdL Elt.ver (fun k=>w.heap.size≤k∧k<w'.heap.size) w' (.slice a (instV l x).1.length c) (instV l x).1∧Below w.heap.size w w'
theorem ReadVEnd.none {w w':World} {l:List Ver} {s:Int} {e:Ending} (h:readV l s=none) (h2:ReadVEnd w l s e w'):∃ a c,e=.returned (.tuple #[.slice a 0 c,.bool false])∧RdS (fun k=>w.heap.size≤k∧k<w'.heap.size) w' (.slice a 0 c) []∧Below w.heap.size w w':=by
 unfold ReadVEnd at h2;rw [h] at h2;exact h2
theorem ReadVEnd.some {w w':World} {l:List Ver} {s:Int} {e:Ending} {xs:List UInt8} (h:readV l s=some xs) (h2:ReadVEnd w l s e w'):∃ a c,e=.returned (.tuple #[.slice a xs.length c,.bool true])∧RdS (fun k=>w.heap.size≤k∧k<w'.heap.size) w' (.slice a xs.length c) xs∧Below w.heap.size w w':=by
 unfold ReadVEnd at h2;rw [h] at h2;exact h2
theorem okV_small {l:List Ver}(hk:okV l)(hn:l.length≤1000):smallV l:=⟨hn,fun x hx=>by
 obtain⟨r,hr,rfl⟩:=List.mem_iff_getElem.1 hx
 have:=(hk r hr).1.2.2.1
 omega⟩
theorem i64w {n:Int}(h:(Lit.int .i64 n).wf=true):I64' n:=by
 simp [Lit.wf,IntKind.min,IntKind.max,IntKind.signed,IntKind.bits] at h
 exact⟨by omega,by omega⟩
theorem mayV_i64 {x:Ver}(h:mayV x):I64' x.stamp:=⟨by have:=h.1;omega,by have:=h.2.1;omega⟩
end Go.Proofs.YtlpfhgdnmjkngaaGreat
namespace Go.Proofs.YtlpfhgdnmjkngaaGreat
def Srt(l:List Pr):Prop:=l.Pairwise fun a b=>ltB a.key b.key=true
def goodP(p:Pr):Prop:=okV p.chain∧p.chain≠[]∧p.key.length≤16
theorem srt_get {l:List Pr} (h:Srt l) {i j:Nat} (hij:i<j) (hj:j<l.length):ltB (l[i]'(by omega)).key l[j].key=true:=List.pairwise_iff_getElem.1 h i j (by omega) hj hij
theorem okP_iff (l:List Pr):okP l↔(∀ p∈l,goodP p)∧Srt l:=by
 constructor
 ·intro h
  refine⟨fun p hp=>?_,List.pairwise_iff_getElem.2 ?_⟩
  ·obtain⟨i,hi,rfl⟩:=List.mem_iff_getElem.1 hp
   have:=h i hi
   exact⟨this.1,this.2.1,this.2.2.1⟩
  ·have key:∀ d i (h2:i+d+1<l.length),ltB (l[i]'(by omega)).key l[i+d+1].key=true:=by
    intro d
    induction d with
    | zero=>intro i h2;exact (h (i+1) h2).2.2.2 (by omega)
    | succ d ih=>intro i h2;exact ltB_trans (ih i (by omega)) ((h (i+(d+1)+1) h2).2.2.2 (by omega))
   intro i j hi hj hij
   have:=key (j - i - 1) i (by omega)
   simpa [show i+(j - i - 1)+1=j by omega] using this
 ·rintro⟨h1,h2⟩i hi
  have:=h1 _ (List.getElem_mem hi)
  exact⟨this.1,this.2.1,this.2.2,fun h0=>srt_get h2 (by omega) hi⟩
theorem findP_nil(k:List UInt8):findP [] k=none:=rfl
theorem findP_cons (p:Pr) (l:List Pr) (k:List UInt8):findP (p::l) k=if p.key=k then some p.chain else findP l k:=by
 unfold findP
 by_cases h:p.key=k<;>simp [h]
theorem findP_lt {l:List Pr} {k:List UInt8} (h:∀ p∈l,ltB k p.key=true):findP l k=none:=by
 induction l with
 | nil=>rfl
 | cons p l ih =>
  rw [findP_cons,if_neg (fun e=>ltB_ne (h p (by simp)) e.symm)]
  exact ih fun q hq=>h q (by simp [hq])
theorem findP_some {l:List Pr} {k:List UInt8} {c:List Ver}(h:findP l k=some c):∃ p∈l,p.key=k∧p.chain=c:=by
 induction l with
 | nil=>cases h
 | cons p l ih =>
  rw [findP_cons] at h
  by_cases e:p.key=k
  ·rw [if_pos e] at h;injection h with h;exact⟨p,by simp,e,h⟩
  ·rw [if_neg e] at h
   obtain⟨q,hq,h2⟩:=ih h
   exact⟨q,by simp [hq],h2⟩
theorem findP_mem {l:List Pr} (hs:Srt l) {p:Pr} (hp:p∈l):findP l p.key=some p.chain:=by
 induction l with
 | nil=>cases hp
 | cons q l ih =>
  have hs':=List.pairwise_cons.1 hs
  rw [findP_cons]
  rcases List.mem_cons.1 hp with rfl | h
  ·rw [if_pos rfl]
  ·rw [if_neg (ltB_ne (hs'.1 p h)),ih hs'.2 h]
def insP(k:List UInt8)(c:List Ver):List Pr→List Pr
 | []=>[⟨k,c⟩]
 | p::l=>if k=p.key then⟨k,c⟩::l else if ltB k p.key then⟨k,c⟩::p::l else p::insP k c l
theorem putGo_true {k:List UInt8} {c:List Ver}:∀ {l:List Pr},(∀ p∈l,k≠p.key)→putGo k c true l=l
 | [],_=>by simp [putGo]
 | p::l,h=>by
  rw [putGo,if_neg (h p (by simp)),putGo_true fun q hq=>h q (by simp [hq])]
  rfl
theorem putP_ins {k:List UInt8} {c:List Ver}:∀ {l:List Pr},Srt l→putP l k c=insP k c l
 | [],_=>by simp [putP,putGo,insP]
 | p::l,hs=>by
  have hs':=List.pairwise_cons.1 hs
  have ih:=putP_ins (k:=k) (c:=c) hs'.2
  unfold putP at ih ⊢
  rw [putGo,insP]
  by_cases h:k=p.key
  ·subst h
   rw [if_pos (by simp),if_pos rfl,if_pos rfl,putGo_true fun q hq=>ltB_ne (hs'.1 q hq)]
   rfl
  ·rw [if_neg h,if_neg h]
   by_cases h2:ltB k p.key=true
   ·rw [if_pos (by simp [h2]),if_pos h2,putGo_true fun q hq=>ltB_ne (ltB_trans h2 (hs'.1 q hq))]
    rfl
   ·rw [if_neg (by simp [h2,h]),if_neg h2,ih]
theorem ins_find {k k':List UInt8} {c:List Ver}:∀ (l:List Pr),findP (insP k c l) k'=if k=k' then some c else findP l k'
 | []=>by rw [insP,findP_cons]
 | p::l=>by
  have ih:=ins_find (k:=k) (k':=k') (c:=c) l
  rw [insP]
  by_cases h:k=p.key
  ·rw [if_pos h,findP_cons,findP_cons]
   by_cases h2:k=k'
   ·simp [h2]
   ·rw [if_neg h2,if_neg h2,if_neg (by rw [← h];exact h2)]
  ·rw [if_neg h]
   by_cases h2:ltB k p.key=true
   ·rw [if_pos h2,findP_cons]
   ·rw [if_neg h2,findP_cons,ih,findP_cons]
    by_cases h3:p.key=k'
    ·rw [if_pos h3,if_pos h3,if_neg (fun e=>h (by rw [e,h3]))]
    ·rw [if_neg h3,if_neg h3]
theorem ins_mem {k:List UInt8} {c:List Ver}:∀ {l:List Pr} {q:Pr},q∈insP k c l→q=⟨k,c⟩∨q∈l
 | [],q,h=>by simp [insP] at h;exact .inl h
 | p::l,q,h=>by
  rw [insP] at h
  by_cases h1:k=p.key
  ·rw [if_pos h1] at h
   rcases List.mem_cons.1 h with h | h
   ·exact .inl h
   ·exact .inr (by simp [h])
  ·rw [if_neg h1] at h
   by_cases h2:ltB k p.key=true
   ·rw [if_pos h2] at h
    rcases List.mem_cons.1 h with h | h
    ·exact .inl h
    ·exact .inr h
   ·rw [if_neg h2] at h
    rcases List.mem_cons.1 h with h | h
    ·exact .inr (by simp [h])
    ·rcases ins_mem h with h | h
     ·exact .inl h
     ·exact .inr (by simp [h])
theorem ins_srt {k : List UInt8} {c : List Ver} : ∀ {l : List Pr},Srt l → Srt (insP k c l)
 | [],_ => by simp [insP,Srt]
 | p :: l,hs => by
  have hs' := List.pairwise_cons.1 hs
  rw [insP]
  by_cases h : k = p.key
  ·rw [if_pos h]
   exact List.pairwise_cons.2 ⟨fun q hq => by rw [show (Pr.mk k c).key = p.key from h]; exact hs'.1 q hq,hs'.2⟩
  ·rw [if_neg h]
   by_cases h2 : ltB k p.key = true
   ·rw [if_pos h2]
    refine List.pairwise_cons.2 ⟨fun q hq => ?_,hs⟩
    rcases List.mem_cons.1 hq with rfl | hq
    ·exact h2
    ·exact ltB_trans h2 (hs'.1 q hq)
   ·rw [if_neg h2]
    refine List.pairwise_cons.2 ⟨fun q hq => ?_,ins_srt hs'.2⟩
    rcases ins_mem hq with rfl | hq
    ·exact ltB_total h (by simpa using h2)
    ·exact hs'.1 q hq
theorem ins_len {k:List UInt8} {c:List Ver}:∀ {l:List Pr},Srt l→(insP k c l).length=if (findP l k).isSome then l.length else l.length+1
 | [],_=>by simp [insP,findP_nil]
 | p::l,hs=>by
  have hs':=List.pairwise_cons.1 hs
  have ih:=ins_len (k:=k) (c:=c) hs'.2
  rw [insP,findP_cons]
  by_cases h:k=p.key
  ·rw [if_pos h,if_pos h.symm];simp
  ·have h':¬ p.key=k:=fun e=>h e.symm
   rw [if_neg h,if_neg h']
   by_cases h2:ltB k p.key=true
   ·rw [if_pos h2,findP_lt fun q hq=>ltB_trans h2 (hs'.1 q hq)];simp
   ·rw [if_neg h2,List.length_cons,ih,List.length_cons];split<;>omega
theorem del_find {k k':List UInt8}:∀ (l:List Pr),findP (delP l k) k'=if k=k' then none else findP l k'
 | []=>by simp [delP,findP_nil]
 | p::l=>by
  have ih:=del_find (k:=k) (k':=k') l
  unfold delP at ih ⊢
  rw [List.filter_cons]
  by_cases h:p.key=k
  ·simp only [h,decide_true,Bool.not_true,Bool.false_eq_true,if_false]
   rw [ih,findP_cons]
   by_cases h2:k=k'
   ·rw [if_pos h2,if_pos h2]
   ·rw [if_neg h2,if_neg h2,if_neg (by rw [h];exact h2)]
  ·simp only [h,decide_false,Bool.not_false,if_true]
   rw [findP_cons,findP_cons,ih]
   by_cases h2:k=k'
   ·rw [if_pos h2,if_pos h2,if_neg (by rw [← h2];exact h)]
   ·rw [if_neg h2,if_neg h2]
theorem del_srt {k:List UInt8} {l:List Pr} (h:Srt l):Srt (delP l k):=List.Pairwise.filter _ h
theorem del_mem {k:List UInt8} {l:List Pr} {q:Pr}(h:q∈delP l k):q∈l:=(List.mem_filter.1 h).1
theorem del_none {k:List UInt8}:∀ {l:List Pr},findP l k=none→delP l k=l
 | [],_=>rfl
 | p::l,h=>by
  rw [findP_cons] at h
  by_cases e:p.key=k
  ·rw [if_pos e] at h;cases h
  ·rw [if_neg e] at h
   have ih:=del_none h
   unfold delP at ih ⊢
   rw [List.filter_cons,ih]
   simp [e]
theorem srt_ext:∀ {a b:List Pr},Srt a→Srt b→(∀ k,findP a k=findP b k)→a=b
 | [],[],_,_,_=>rfl
 | [],q::b,_,_,h=>by have:=h q.key;rw [findP_nil,findP_cons,if_pos rfl] at this;cases this
 | p::a,[],_,_,h=>by have:=h p.key;rw [findP_nil,findP_cons,if_pos rfl] at this;cases this
 | p::a,q::b,ha,hb,h=>by
  have ha':=List.pairwise_cons.1 ha
  have hb':=List.pairwise_cons.1 hb
  have hk:p.key=q.key:=by
   have h1:=h p.key
   have h2:=h q.key
   rw [findP_cons,if_pos rfl] at h1
   rw [findP_cons q b q.key,if_pos rfl] at h2
   obtain⟨x,hx,hx2,_⟩:=findP_some h1.symm
   obtain⟨y,hy,hy2,_⟩:=findP_some h2
   rcases List.mem_cons.1 hx with rfl | hx
   ·exact hx2.symm
   ·rcases List.mem_cons.1 hy with rfl | hy
    ·exact hy2
    ·have e1:=hb'.1 x hx
     have e2:=ha'.1 y hy
     rw [hx2] at e1
     rw [hy2] at e2
     rw [ltB_asymm e1] at e2
     cases e2
  have hc:p.chain=q.chain:=by
   have:=h p.key
   rw [findP_cons,if_pos rfl,findP_cons,if_pos hk.symm] at this
   injection this
  have ht:a=b:=srt_ext ha'.2 hb'.2 fun k=>by
   by_cases e:p.key=k
   ·rw [findP_lt fun x hx=>by rw [← e];exact ha'.1 x hx,findP_lt fun x hx=>by rw [← e,hk];exact hb'.1 x hx]
   ·have:=h k
    rw [findP_cons,if_neg e,findP_cons,if_neg (by rw [← hk];exact e)] at this
    exact this
  subst ht
  cases p;cases q
  simp only at hk hc
  subst hk;subst hc
  rfl
theorem put_okP {l : List Pr} (h : okP l) {k : List UInt8} {c : List Ver} (hk : k.length ≤ 16) (hc : okV c) (hc0 : c ≠ []) : okP (putP l k c) := by
 obtain ⟨h1,h2⟩ := (okP_iff l).1 h
 rw [putP_ins h2]
 refine (okP_iff _).2 ⟨fun p hp => ?_,ins_srt h2⟩
 rcases ins_mem hp with rfl | hp
 ·exact ⟨hc,hc0,hk⟩
 ·exact h1 p hp
theorem put_find {l:List Pr} (h:Srt l) {k k':List UInt8} {c:List Ver}:findP (putP l k c) k'=if k=k' then some c else findP l k':=by rw [putP_ins h,ins_find]
theorem put_len {l:List Pr}(h:Srt l) {k:List UInt8} {c:List Ver}:(putP l k c).length=if(findP l k).isSome then l.length else l.length+1:=by rw [putP_ins h,ins_len h]
theorem put_srt {l:List Pr} (h:Srt l) {k:List UInt8} {c:List Ver}:Srt (putP l k c):=by rw [putP_ins h];exact ins_srt h
theorem ltB_nil(a:List UInt8):ltB a []=false:=by cases a<;>rfl
theorem okN_srt {n:Nd} (h:okN n):Srt (pairsN n):=((okP_iff _).1 h.2).2
theorem prN_srt (n:Nd):Srt (prN n):=by
 unfold prN
 split
 ·exact okN_srt ‹_›
 ·exact List.Pairwise.nil
end Go.Proofs.YtlpfhgdnmjkngaaGreat
namespace Go.Proofs.YtlpfhgdnmjkngaaGreat
mutual
def wN:Nd→Nat
 | .mk ks cs ns=>1+ks.length+cs.length+ns.length+wL ns
def wL:List Nd→Nat
 | []=>0
 | n::ns=>wN n+wL ns
end
theorem wL_get:∀ {ns:List Nd} {n:Nd},n∈ns→wN n≤wL ns
 | m::ns,n,h=>by
  rw [wL]
  rcases List.mem_cons.1 h with rfl|h
  ·omega
  ·have:=wL_get h;omega
theorem wN_kid {n m:Nd} (h:m∈n.kids):wN m<wN n:=by
 cases n with
 | mk ks cs ns =>
  have:=wL_get (show m∈ns from h)
  rw [wN];omega
theorem wN_pos(n:Nd):0<wN n:=by cases n;rw [wN];omega
theorem wN_parts(n:Nd):n.keys.length≤wN n∧n.chains.length≤wN n∧n.kids.length≤wN n:=by
 cases n with
 | mk ks cs ns=>simp only [wN,Nd.keys,Nd.chains,Nd.kids];omega
theorem formI_def (n:Nd) (root:Bool):formI n root=if n.chains.length≠n.keys.length∨3<n.keys.length∨(root=false∧n.keys.length<1) then -1 else if n.kids.length=0 then 1 else if n.kids.length≠n.keys.length+1∨n.keys.length<1 then -1 else allD (n.kids.map (formI · false)):=by
 cases n with
 | mk ks cs ns=>rw [formI,formL_map];rfl
theorem pairsN_def (n:Nd):pairsN n=wv (n.kids.map pairsN) n.keys n.chains n.keys.length++(n.kids.map pairsN).getD (n.kids.length - 1) []:=by
 cases n with
 | mk ks cs ns=>rw [pairsN,pairsL_map];rfl
theorem allD_spec {l:List Int} {d:Int}(h:allD l=d)(hd:0≤d):l≠[]∧1≤d∧∀ x∈l,x=d-1:=by
 cases l with
 | nil=>simp [allD] at h;omega
 | cons y r =>
  simp only [allD] at h
  by_cases hc:(∀ x∈r,x=y)∧0≤y
  ·rw [if_pos hc] at h
   refine⟨by simp,by omega,fun x hx=>?_⟩
   rcases List.mem_cons.1 hx with rfl|hx
   ·omega
   ·have:=hc.1 x hx;omega
  ·rw [if_neg hc] at h;omega
theorem form_inv {n : Nd} {root : Bool} {d : Int} (h : formI n root = d) (hd : 0 ≤ d) : n.chains.length = n.keys.length ∧ n.keys.length ≤ 3 ∧ (root = false → 1 ≤ n.keys.length) ∧ ((n.kids = [] ∧ d = 1) ∨ (n.kids.length = n.keys.length + 1 ∧ 1 ≤ n.keys.length ∧ 2 ≤ d ∧ ∀ m ∈ n.kids,formI m false = d - 1)) := by
 rw [formI_def] at h
 by_cases h1 : n.chains.length ≠ n.keys.length ∨ 3 < n.keys.length ∨ (root = false ∧ n.keys.length < 1)
 ·rw [if_pos h1] at h; omega
 ·rw [if_neg h1] at h
  have h1' : n.chains.length = n.keys.length ∧ n.keys.length ≤ 3 ∧ (root = false → 1 ≤ n.keys.length) := by
   refine ⟨?_,?_,fun hr => ?_⟩
   ·exact Decidable.byContradiction fun h => h1 (.inl h)
   ·exact Decidable.byContradiction fun h => h1 (.inr (.inl (by omega)))
   ·exact Decidable.byContradiction fun h => h1 (.inr (.inr ⟨hr,by omega⟩))
  refine ⟨h1'.1,h1'.2.1,h1'.2.2,?_⟩
  by_cases h2 : n.kids.length = 0
  ·rw [if_pos h2] at h
   exact .inl ⟨List.eq_nil_of_length_eq_zero h2,h.symm⟩
  ·rw [if_neg h2] at h
   by_cases h3 : n.kids.length ≠ n.keys.length + 1 ∨ n.keys.length < 1
   ·rw [if_pos h3] at h; omega
   ·rw [if_neg h3] at h
    obtain ⟨_,h4,h5⟩ := allD_spec h hd
    have h6 : ∀ m ∈ n.kids,formI m false = d - 1 := fun m hm => h5 _ (List.mem_map.2 ⟨m,hm,rfl⟩)
    have h7 : 2 ≤ d := by
     cases hk : n.kids with
     | nil => rw [hk] at h2; exact absurd rfl h2
     | cons m r =>
      have h8 := h6 m (by rw [hk]; simp)
      rcases Int.lt_or_le d 2 with h9 | h9
      ·exfalso
       have e : d - 1 = 0 := by omega
       rw [e] at h8
       rw [formI_def] at h8
       split at h8
       ·omega
       ·split at h8
        ·omega
        ·split at h8
         ·omega
         ·obtain ⟨_,h10,_⟩ := allD_spec h8 (Int.le_refl _)
          omega
      ·exact h9
    exact .inr ⟨by omega,by omega,h7,h6⟩
theorem wv_len (ps:List (List Pr)) (ks:List (List UInt8)) (cs:List (List Ver)):∀ i,(wv ps ks cs i).length=i+((List.range i).map fun j=>(ps.getD j []).length).sum
 | 0=>rfl
 | i+1=>by
  rw [wv,List.length_append,List.length_append,wv_len ps ks cs i,List.range_succ,List.map_append,List.sum_append]
  simp
  omega
theorem sum_between {a b:Nat}:∀ {l:List Nat},(∀ x∈l,a≤x∧x≤b)→l.length*a≤l.sum∧l.sum≤l.length*b
 | [],_=>by simp
 | x::l,h=>by
  have h1:=h x (by simp)
  have h2:=sum_between (a:=a) (b:=b) (l:=l) fun y hy=>h y (by simp [hy])
  rw [List.length_cons,List.sum_cons,Nat.add_mul,Nat.add_mul]
  omega
theorem pairs_len (n:Nd) (h:n.kids.length=n.keys.length+1):(pairsN n).length=n.keys.length+(n.kids.map fun m=>(pairsN m).length).sum:=by
 rw [pairsN_def,List.length_append,wv_len,h,Nat.add_sub_cancel]
 have e:((n.kids.map fun m=>(pairsN m).length))=(List.range (n.keys.length+1)).map fun j=>((n.kids.map pairsN).getD j []).length:=by
  apply List.ext_getElem
  ·simp [h]
  ·intro i h1 h2
   simp at h1
   simp [List.getElem?_eq_getElem h1]
 rw [e,List.range_succ,List.map_append,List.sum_append]
 simp
 omega
theorem pairs_leaf(n:Nd)(h:n.kids=[]):(pairsN n).length=n.keys.length:=by
 rw [pairsN_def,h,List.length_append,wv_len]
 have:∀ i,((List.range i).map fun j=>((([]:List Nd).map pairsN).getD j []).length).sum=0:=by
  intro i
  induction i with
  | zero=>rfl
  | succ i ih=>rw [List.range_succ,List.map_append,List.sum_append,ih];simp
 rw [this]
 simp
theorem pairs_bounds : ∀ (d : Nat) {n : Nd} {root : Bool},formI n root = (d : Int) → 1 ≤ d ∧ (pairsN n).length ≤ 4 ^ d - 1 ∧ (2 ^ d - 1 ≤ (pairsN n).length ∨ (root = true ∧ d = 1 ∧ (pairsN n).length = 0))
 | 0,n,root,h => by
  obtain ⟨_,_,_,h1 | h1⟩ := form_inv h (Int.le_refl _)
  ·omega
  ·omega
 | d + 1,n,root,h => by
  obtain ⟨hc,hk,hr,h1 | h1⟩ := form_inv h (by omega)
  ·obtain ⟨h2,h3⟩ := h1
   have hd : d = 0 := by omega
   subst hd
   rw [pairs_leaf n h2]
   refine ⟨Nat.le_refl _,by simpa using hk,?_⟩
   cases root with
   | false => have := hr rfl; left; simpa using this
   | true =>
    rcases Nat.eq_zero_or_pos n.keys.length with h4 | h4
    ·exact .inr ⟨rfl,rfl,h4⟩
    ·left; simp only [Nat.zero_add,Nat.pow_one]; omega
  ·obtain ⟨h2,h3,h4,h5⟩ := h1
   rw [pairs_len n h2]
   have hb := sum_between (a := 2 ^ d - 1) (b := 4 ^ d - 1) (l := n.kids.map fun m => (pairsN m).length) (fun x hx => by
    obtain ⟨m,hm,rfl⟩ := List.mem_map.1 hx
    have h6 := h5 m hm
    obtain ⟨h7,h8,h9⟩ := pairs_bounds d (root := false) (h6.trans (by omega))
    refine ⟨?_,h8⟩
    rcases h9 with h9 | ⟨h9,_⟩
    ·exact h9
    ·cases h9)
   rw [List.length_map,h2] at hb
   have p2 : 0 < 2 ^ d := Nat.pow_pos (by omega)
   have p4 : 0 < 4 ^ d := Nat.pow_pos (by omega)
   have e2 : 2 ^ (d + 1) = 2 * 2 ^ d := by rw [Nat.pow_succ]; omega
   have e4 : 4 ^ (d + 1) = 4 * 4 ^ d := by rw [Nat.pow_succ]; omega
   refine ⟨by omega,?_,.inl ?_⟩
   ·have := Nat.mul_le_mul_right (4 ^ d - 1) (show n.keys.length + 1 ≤ 4 by omega)
    omega
   ·have := Nat.mul_le_mul_right (2 ^ d - 1) (show 2 ≤ n.keys.length + 1 by omega)
    omega
theorem weight_pairs:∀ (N:Nat) {n:Nd} {root:Bool},wN n≤N→0≤formI n root→wN n≤5*(pairsN n).length+1∧(root=false→wN n+2≤5*(pairsN n).length)
 | 0,n,_,h,_=>by have:=wN_pos n;omega
 | N+1,n,root,hN,hd=>by
  obtain⟨hc,hk,hr,h1 | h1⟩:=form_inv rfl hd
  ·rw [pairs_leaf n h1.1]
   have hw:wN n=1+n.keys.length+n.chains.length:=by
    cases n with
    | mk ks cs ns =>
     have:ns=[]:=h1.1
     subst this
     simp [wN,wL,Nd.keys,Nd.chains]
   rw [hw,hc]
   refine⟨by omega,fun h=>?_⟩
   have:=hr h
   omega
  ·obtain⟨h2,h3,h4,h5⟩:=h1
   rw [pairs_len n h2]
   have hw:wN n=1+n.keys.length+n.chains.length+n.kids.length+wL n.kids:=by cases n;rw [wN];rfl
   have hs:∀ ns:List Nd,(∀ m∈ns,m∈n.kids)→wL ns+2*ns.length≤5*(ns.map fun m=>(pairsN m).length).sum:=by
    intro ns
    induction ns with
    | nil=>intro _;simp [wL]
    | cons m r ih =>
     intro hm
     have h6:=ih fun x hx=>hm x (by simp [hx])
     have h7:=hm m (by simp)
     have h8:=wN_kid h7
     have h9:=(weight_pairs N (n:=m) (root:=false) (by omega) (by rw [h5 m h7];omega)).2 rfl
     rw [wL,List.map_cons,List.sum_cons,List.length_cons]
     omega
   have h6:=hs n.kids fun _ h=>h
   rw [hw,hc]
   refine⟨by omega,fun _=>by omega⟩
def smallB:Nat→Nd→Bool
 | 0,_=>false
 | t+1,n=>decide (n.keys.length≤6)&&decide (n.chains.length≤6)&&decide (n.kids.length≤6)&&n.keys.all (fun k=>decide (k.length≤100))&&n.chains.all (fun c=>decide (c.length≤20)&&c.all fun x=>decide (x.value.length≤100))&&n.kids.all (smallB t)
end Go.Proofs.YtlpfhgdnmjkngaaGreat
namespace Go.Proofs.YtlpfhgdnmjkngaaGreat
open Go.RowKit
theorem RdN.lens {S:Nat→Prop} {w:World} {v:Value} {n:Nd}(h:RdN S w v n):n.keys.length≤9223372036854775807∧n.chains.length≤9223372036854775807∧n.kids.length≤9223372036854775807:=by
 obtain⟨a1,c1,a2,c2,a3,c3,e,h1,h2,h3⟩:=h
 have e1:=h1.len
 have e2:=h2.len
 have e3:=h3.len
 unfold maxLen at e1 e2 e3
 omega
theorem lenEq {a b:Nat}(h:a=b):((a:Int) !=(b:Int))=false:=by simp [h]
theorem lenNe {a b:Nat}(h:¬ a=b):((a:Int) !=(b:Int))=true:=by rw [bne_iff_ne];omega
theorem allD_yes {d : Int} {r : List Int} (h : ∀ x ∈ r,x = d) (hd : 0 ≤ d) : allD (d :: r) = d + 1 := by
 simp only [allD]
 exact if_pos ⟨h,hd⟩
theorem form_range:∀ (N:Nat) {n:Nd} {root:Bool},wN n≤N→-1≤formI n root∧formI n root≤(wN n:Int)
 | 0,n,_,h=>by have:=wN_pos n;omega
 | N+1,n,root,h=>by
  rcases Int.lt_or_le (formI n root) 0 with h0 | h0
  ·refine⟨?_,by omega⟩
   rw [formI_def] at h0 ⊢
   split
   ·omega
   ·split
    ·omega
    ·split
     ·omega
     ·cases hm:n.kids.map (formI · false) with
      | nil=>simp [allD]
      | cons d r =>
       simp only [allD]
       split<;>omega
  ·obtain⟨_,_,_,h1 | h1⟩:=form_inv rfl h0
   ·have:=wN_pos n;omega
   ·obtain⟨h2,h3,h4,h5⟩:=h1
    cases hk:n.kids with
    | nil=>rw [hk] at h2;simp at h2
    | cons m r =>
     have hm:m∈n.kids:=by rw [hk];simp
     have h6:=h5 m hm
     have h7:=wN_kid hm
     have h8:=(form_range N (n:=m) (root:=false) (by omega)).2
     omega
end Go.Proofs.YtlpfhgdnmjkngaaGreat
namespace Go.Proofs.YtlpfhgdnmjkngaaGreat
open Go.RowKit Go.Shelf
theorem pairs_le:∀ (N:Nat) {n:Nd} {root:Bool},wN n≤N→0≤formI n root→(pairsN n).length≤wN n
 | 0,n,_,h,_=>by have:=wN_pos n;omega
 | N+1,n,root,hN,hd=>by
  obtain⟨hc,hk,hr,h1 | h1⟩:=form_inv rfl hd
  ·rw [pairs_leaf n h1.1];exact (wN_parts n).1
  ·obtain⟨h2,h3,h4,h5⟩:=h1
   rw [pairs_len n h2]
   have hw:wN n=1+n.keys.length+n.chains.length+n.kids.length+wL n.kids:=by cases n;rw [wN];rfl
   have hs:∀ ns:List Nd,(∀ m∈ns,m∈n.kids)→(ns.map fun m=>(pairsN m).length).sum≤wL ns:=by
    intro ns
    induction ns with
    | nil=>intro _;simp
    | cons m r ih =>
     intro hm
     have h6:=ih fun x hx=>hm x (by simp [hx])
     have h7:=hm m (by simp)
     have h8:=wN_kid h7
     have h9:=pairs_le N (n:=m) (root:=false) (by omega) (by rw [h5 m h7];omega)
     rw [wL,List.map_cons,List.sum_cons]
     omega
   have h6:=hs n.kids fun _ h=>h
   omega
theorem map_get {ns:List Nd} {i:Nat}(h:i<ns.length):(ns.map pairsN).getD i []=pairsN ns[i]:=by
 rw [List.getD_eq_getElem?_getD,List.getElem?_map,List.getElem?_eq_getElem h];rfl
end Go.Proofs.YtlpfhgdnmjkngaaGreat
namespace Go.Proofs.YtlpfhgdnmjkngaaGreat
open Go.RowKit
mutual
def bndN:Nd→Prop
 | .mk ks cs ns=>(∀ k∈ks,k.length≤1000)∧(∀ c∈cs,smallV c)∧bndL ns
def bndL:List Nd→Prop
 | []=>True
 | n::ns=>bndN n∧bndL ns
end
theorem bndL_iff:∀(ns:List Nd),bndL ns↔∀ m∈ns,bndN m
 | []=>by simp [bndL]
 | n::ns=>by simp [bndL,bndL_iff ns]
theorem bndN_def(n:Nd):bndN n↔(∀ k∈n.keys,k.length≤1000)∧(∀ c∈n.chains,smallV c)∧∀ m∈n.kids,bndN m:=by
 cases n with
 | mk ks cs ns=>rw [bndN,bndL_iff];rfl
def fitN(n:Nd):Prop:=wN n≤100000∧bndN n
theorem wL_le {K:Nat}:∀ {ns:List Nd},(∀ m∈ns,5*wN m+19≤K)→5*wL ns+19*ns.length≤ns.length*K
 | [],_=>by simp [wL]
 | n::ns,h=>by
  have h1:=h n (by simp)
  have h2:=wL_le (ns:=ns) fun m hm=>h m (by simp [hm])
  rw [wL,List.length_cons,Nat.add_mul]
  omega
theorem small_fit : ∀ (t : Nat) {n : Nd},smallB t n = true → bndN n ∧ 5 * wN n + 19 ≤ 19 * 6 ^ t
 | 0,n,h => by simp [smallB] at h
 | t + 1,n,h => by
  simp only [smallB,Bool.and_eq_true,decide_eq_true_eq,List.all_eq_true] at h
  obtain ⟨⟨⟨⟨⟨h1,h2⟩,h3⟩,h4⟩,h5⟩,h6⟩ := h
  refine ⟨(bndN_def n).2 ⟨fun k hk => by have := h4 k hk; omega,fun c hc => ?_,fun m hm => (small_fit t (h6 m hm)).1⟩,?_⟩
  ·obtain ⟨h7,h8⟩ := h5 c hc
   exact ⟨by omega,fun x hx => by have := h8 x hx; omega⟩
  ·have h7 := wL_le (K := 19 * 6 ^ t) fun m hm => (small_fit t (h6 m hm)).2
   have h8 : wN n = 1 + n.keys.length + n.chains.length + n.kids.length + wL n.kids := by cases n; rw [wN]; rfl
   have h10 : 6 ^ (t + 1) = 6 * 6 ^ t := by rw [Nat.pow_succ]; omega
   have h11 : 0 < 6 ^ t := Nat.pow_pos (by omega)
   rcases (show n.kids.length = 0 ∨ n.kids.length = 1 ∨ n.kids.length = 2 ∨ n.kids.length = 3 ∨ n.kids.length = 4 ∨ n.kids.length = 5 ∨ n.kids.length = 6 by omega) with h12 | h12 | h12 | h12 | h12 | h12 | h12
   all_goals rw [h12] at h7 h8; omega
theorem small5_fit {n:Nd}(h:smallB 5 n=true):fitN n:=by
 obtain⟨h1,h2⟩:=small_fit 5 h
 exact⟨by omega,h1⟩
theorem wv_mem {ps : List (List Pr)} {ks : List (List UInt8)} {cs : List (List Ver)} : ∀ {i : Nat} {p : Pr},p ∈ wv ps ks cs i → (∃ j,j < i ∧ p ∈ ps.getD j []) ∨ ∃ j,j < i ∧ p = ⟨ks.getD j [],cs.getD j []⟩
 | 0,p,h => by cases h
 | i + 1,p,h => by
  rw [wv] at h
  rcases List.mem_append.1 h with h | h
  ·rcases List.mem_append.1 h with h | h
   ·rcases wv_mem h with ⟨j,hj,h⟩ | ⟨j,hj,h⟩
    ·exact .inl ⟨j,by omega,h⟩
    ·exact .inr ⟨j,by omega,h⟩
   ·exact .inl ⟨i,by omega,h⟩
  ·exact .inr ⟨i,by omega,by simpa using h⟩
theorem mem_wv {ps:List (List Pr)} {ks:List (List UInt8)} {cs:List (List Ver)}:∀ {i j:Nat},j<i→(⟨ks.getD j [],cs.getD j []⟩:Pr)∈wv ps ks cs i∧∀ p∈ps.getD j [],p∈wv ps ks cs i
 | 0,_,h=>absurd h (Nat.not_lt_zero _)
 | i+1,j,h=>by
  rw [wv]
  rcases Nat.lt_or_ge j i with h1 | h1
  ·obtain⟨h2,h3⟩:=mem_wv (ps:=ps) (ks:=ks) (cs:=cs) h1
   exact⟨List.mem_append_left _ (List.mem_append_left _ h2),fun p hp=>List.mem_append_left _ (List.mem_append_left _ (h3 p hp))⟩
  ·obtain rfl:j=i:=by omega
   exact⟨List.mem_append_right _ (List.mem_singleton.2 rfl),fun p hp=>List.mem_append_left _ (List.mem_append_right _ hp)⟩
theorem bnd_pairs : ∀ (N : Nat) {n : Nd} {root : Bool},wN n ≤ N → 0 ≤ formI n root → (∀ p ∈ pairsN n,p.key.length ≤ 1000 ∧ smallV p.chain) → bndN n
 | 0,n,_,h,_,_ => by have := wN_pos n; omega
 | N + 1,n,root,hN,hd,hp => by
  obtain ⟨hc,_,_,hsh⟩ := form_inv rfl hd
  have hpd := pairsN_def n
  have hin : ∀ j,j < n.keys.length → (⟨n.keys.getD j [],n.chains.getD j []⟩ : Pr) ∈ pairsN n := fun j hj => by
   rw [hpd]; exact List.mem_append_left _ (mem_wv hj).1
  refine (bndN_def n).2 ⟨fun k hk => ?_,fun c hc2 => ?_,fun m hm => ?_⟩
  ·obtain ⟨j,hj,rfl⟩ := List.mem_iff_getElem.1 hk
   have := (hp _ (hin j hj)).1
   rw [List.getD_eq_getElem?_getD,List.getElem?_eq_getElem hj] at this
   exact this
  ·obtain ⟨j,hj,rfl⟩ := List.mem_iff_getElem.1 hc2
   have := (hp _ (hin j (by omega))).2
   simp only [List.getD_eq_getElem?_getD,List.getElem?_eq_getElem hj] at this
   exact this
  ·rcases hsh with ⟨h1,_⟩ | ⟨h1,h2,h3,h4⟩
   ·rw [h1] at hm; cases hm
   ·have h5 := wN_kid hm
    have h6 := h4 m hm
    refine bnd_pairs N (n := m) (root := false) (by omega) (by omega) fun p hpm => hp p ?_
    obtain ⟨j,hj,rfl⟩ := List.mem_iff_getElem.1 hm
    rw [hpd]
    rcases Nat.lt_or_ge j n.keys.length with h7 | h7
    ·exact List.mem_append_left _ ((mem_wv h7).2 p (by rw [map_get hj]; exact hpm))
    ·obtain rfl : j = n.kids.length - 1 := by omega
     exact List.mem_append_right _ (by rw [map_get hj]; exact hpm)
def fewP(l:List Pr):Prop:=l.length≤2000∧∀ p∈l,smallV p.chain
theorem ok_fit {n:Nd} (h:okN n) (hf:fewP (pairsN n)):fitN n:=by
 have h1:=(weight_pairs (wN n) (Nat.le_refl _) h.1).1
 have h2:=hf.1
 refine⟨by omega,bnd_pairs (wN n) (Nat.le_refl _) h.1 fun p hp=>⟨?_,hf.2 p hp⟩⟩
 have:=((okP_iff _).1 h.2).1 p hp
 have:=this.2.2
 omega
theorem few_put {l:List Pr}(hs:Srt l)(hf:∀ p∈l,smallV p.chain) {k:List UInt8} {c:List Ver}(hc:smallV c):∀ p∈putP l k c,smallV p.chain:=fun p hp=>by
 rw [putP_ins hs] at hp
 rcases ins_mem hp with rfl|hp
 ·exact hc
 ·exact hf p hp
def KeysEnd (w:World) (l:List (List UInt8)) (e:Ending) (w':World):Prop :=
 ∃ a c,e=.returned (.slice a l.length c)∧RdL Elt.bytes (fun k=>w.heap.size≤k∧k<w'.heap.size) w' (.slice a l.length c) l∧Below w.heap.size w w'
def FindEnd (w:World) (r:Option (List Ver)) (e:Ending) (w':World):Prop :=
 ∃ a c,e=.returned (.tuple #[.slice a (r.getD []).length c,.bool r.isSome])∧RdL Elt.ver (fun k=>w.heap.size≤k∧k<w'.heap.size) w' (.slice a (r.getD []).length c) (r.getD [])∧Below w.heap.size w w'
def NextEnd (w:World) (r:Option (List UInt8)) (e:Ending) (w':World):Prop :=
 ∃ a c,e=.returned (.tuple #[.slice a (r.getD []).length c,.bool r.isSome])∧RdS (fun k=>w.heap.size≤k∧k<w'.heap.size) w' (.slice a (r.getD []).length c) (r.getD [])∧Below w.heap.size w w'
def NodeEnd (w:World) (Q:Nd→Nat→Prop) (e:Ending) (w':World):Prop :=
 ∃ v n er,e=.returned (.tuple #[v,.int .i64 (er:Nat)])∧Q n er∧RdN (fun k=>w.heap.size≤k∧k<w'.heap.size) w' v n∧Below w.heap.size w w'
def zNode:Obj:=.cells #[.slice none 0 0,.slice none 0 0,.slice none 0 0] 26 (0,0)
def PutIs (n:Nd) (k:List UInt8) (c:List Ver) (m:Nd) (er:Nat):Prop :=
 if okN n∧k.length≤16∧okV c∧c≠[] then er=0∧okN m∧pairsN m=putP (pairsN n) k c else er=1∧m=n
def DelIs (n:Nd) (k:List UInt8) (m:Nd) (er:Nat):Prop :=
 if okN n then (if (findP (pairsN n) k).isSome then er=0∧okN m∧pairsN m=delP (pairsN n) k else er=61∧m=n) else er=1∧m=n
end Go.Proofs.YtlpfhgdnmjkngaaGreat
