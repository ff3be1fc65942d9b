/-
  TEXTS OF ONE PROOF, merged: VerD, Guard, Row, Kept, Sink, VerC, VerE, VerN, VerX, TreN, TreO, TreF.
-/
import Derived.ChangeAlike
import Derived.Deep.Matrix
import Derived.OpenShut
import Derived.RegionTactic
import Derived.Shelf.Abstract
import Derived.Test.YtlpfhgdnmjkngaaGreatKv1
namespace Go.Proofs.YtlpfhgdnmjkngaaGreat
open Go.RowKit Go.Shelf
set_option maxRecDepth 100000
set_option maxHeartbeats 32000000
theorem zm0 {l:List Ver} {m:Nat} (hm:l.length=m+1) (s:Int):zcr l s=(decide (okV l)&&decide (s<(l[m]'(by omega)).stamp)):=by
 unfold zcr
 rw [List.getLast?_eq_getElem?,show l.length - 1=m by omega,List.getElem?_eq_getElem (by omega)]
theorem ziz(s:Int):zcr [] s=false:=by simp [zcr]
def za9 (w:World) (l:List Ver) (s:Int) (e:Ending) (w':World):Prop :=
 ∃ a c,e=.returned (.tuple #[.slice a ((zcd l s).getD []).length c,.bool (zcd l s).isSome])∧RdS (fun k=>w.heap.size≤k∧k<w'.heap.size) w' (.slice a ((zcd l s).getD []).length c) ((zcd l s).getD [])∧Below w.heap.size w w'
theorem za9.no {w w':World} {l:List Ver} {s:Int} (h:zcd l s=none) (hb:Below w.heap.size w w'):za9 w l s (.returned (.tuple #[.slice none 0 0,.bool false])) w':=by
 unfold za9
 rw [h]
 exact⟨none,0,rfl,RdS.nil _ _,hb⟩
theorem za9.yes {w w':World} {l:List Ver} {s:Int} {xs:List UInt8} {a:Option Addr} {c:Nat} (h:zcd l s=some xs) (hr:RdS (fun k=>w.heap.size≤k∧k<w'.heap.size) w' (.slice a xs.length c) xs) (hb:Below w.heap.size w w'):za9 w l s (.returned (.tuple #[.slice a xs.length c,.bool true])) w':=by
 unfold za9
 rw [h]
 exact⟨a,c,rfl,hr,hb⟩
theorem zgh {l:List Ver} {s:Int}(h:cntV l s=0):zcd l s=none:=by unfold zcd;split<;>simp [h]
theorem zgi {l:List Ver} {s:Int} {m:Nat} (h:cntV l s=m+1) (hm:m<l.length) (hg:l[m].gone=true):zcd l s=none:=by
 unfold zcd
 split
 ·rw [dif_pos (by omega)]
  simp only [h,Nat.add_sub_cancel,hg,if_true]
 ·rfl
theorem zit {l:List Ver} {s:Int} {m:Nat} (hk:okV l) (h:cntV l s=m+1) (hm:m<l.length) (hg:l[m].gone=false):zcd l s=some l[m].value:=by
 unfold zcd
 rw [if_pos hk,dif_pos (by omega)]
 simp only [h,Nat.add_sub_cancel,hg,Bool.false_eq_true,if_false]
theorem zho : ∀ (l : List Oper) (k j : Nat) (o : Oper) (d : Tmp),(l.filterMap (·.dst)).Nodup → l[j]? = some o → o.dst = some d → zby l k d = some (k + j)
 | [],_,_,_,_,_,h,_ => by simp at h
 | o2 :: r,k,0,o,d,_,hj,hd => by
  obtain rfl : o2 = o := by simpa using hj
  simp [zby,hd]
 | o2 :: r,k,j + 1,o,d,hn,hj,hd => by
  have hmem : d ∈ r.filterMap (·.dst) := List.mem_filterMap.2 ⟨o,List.mem_of_getElem? (by simpa using hj),hd⟩
  have hne : o2.dst ≠ some d := by
   intro e
   rw [List.filterMap_cons_some e,List.nodup_cons] at hn
   exact hn.1 hmem
  have hn' : (r.filterMap (·.dst)).Nodup := by
   cases hd2 : o2.dst with
   | none => rwa [List.filterMap_cons_none hd2] at hn
   | some d2 => rw [List.filterMap_cons_some hd2,List.nodup_cons] at hn; exact hn.2
  simp only [zby,if_neg hne]
  rw [zho r (k + 1) j o d hn' (by simpa using hj) hd]
  congr 1; omega
def gdB (ops:Array Oper):Bool:=(ops.toList.zipIdx.all fun p=>p.1.after.all fun e=>!Region.binds .any e||decide (e.on<p.2))&&zky ops.toList
theorem zdb {ops : Array Oper} {listed : Array Bool} (hs : gdB ops = true) (hr : Region.ready .any ops listed = []) : ∀ i,i < ops.size → listed.getD i true = true := by
 intro i
 induction i using Nat.strongRecOn with
 | ind i ih =>
  intro hi
  cases hl : listed.getD i true with
  | true => rfl
  | false =>
   exfalso
   have hm : i ∈ Region.ready .any ops listed := by
    unfold Region.ready
    refine List.mem_filter.2 ⟨List.mem_range.2 hi,?_⟩
    have hdep : ∀ e ∈ (ops[i]'hi).after,Region.binds .any e = true → e.on < i := by
     intro e he hb
     simp only [gdB,Bool.and_eq_true,List.all_eq_true] at hs
     have := hs.1 ((ops[i]'hi),i) (by
      rw [List.mem_zipIdx_iff_getElem?]; simp [hi])
     rw [Array.all_eq_true'] at this
     have := this e he
     simpa [hb] using this
    simp only [hl,Array.getElem?_eq_getElem hi,Option.map_some,Option.getD_some,Bool.not_false,Bool.true_and]
    rw [Array.all_eq_true']
    intro e he
    cases hb : Region.binds .any e with
    | false => simp
    | true =>
     have hlt := hdep e he hb
     have := ih e.on hlt (by omega)
     simp only [Bool.not_true,Bool.false_or]
     revert this
     simp only [Array.getD_eq_getD_getElem?]
     cases hg : listed[e.on]? with
     | some b => simp
     | none =>
      exfalso
      rw [Array.getElem?_eq_none_iff] at hg
      simp only [Array.getD_eq_getD_getElem?,Array.getElem?_eq_none_iff.2 (show listed.size ≤ i by omega)] at hl
      cases hl
   rw [hr] at hm
   cases hm
section
variable {P : Program} {Q : Exit → Act → World → Prop}
def GdOp (P:Program) (Q:Exit→Act→World→Prop) (ops:Array Oper) (a:Act) (w:World) (G:Nat→World→Value→Prop) (i:Nat) (o:Oper):Prop :=
 match o.guard with
 | none=>zl8 P Q ops a w G i o
 | some (j,b)=>(∃ oj d,ops[j]?=some oj∧oj.dst=some d∧d<a.tmps.size)∧(o.after.any fun e=>e.on==j&&Region.binds .any e)=true ∧
   (((∀ w v,G j w v→v=.bool b)∧zl8 P Q ops a w G i o)∨((∀ w v,G j w v→v=.bool (!b)∨v=undef)∧∀ w,G i w undef))
theorem GdOp.plain {ops:Array Oper} {a:Act} {w:World} {G:Nat→World→Value→Prop} {i:Nat} {o:Oper}(h:o.guard=none)(h2:zl8 P Q ops a w G i o):GdOp P Q ops a w G i o:=by
 unfold GdOp;rw [h];exact h2
theorem GdOp.taken {ops : Array Oper} {a : Act} {w : World} {G : Nat → World → Value → Prop} {i : Nat} {o : Oper} {j : Nat} {b : Bool} (h : o.guard = some (j,b)) (h1 : ∃ oj d,ops[j]? = some oj ∧ oj.dst = some d ∧ d < a.tmps.size)
  (h2 : (o.after.any fun e => e.on == j && Region.binds .any e) = true) (h3 : ∀ w v,G j w v → v = .bool b) (h4 : zl8 P Q ops a w G i o) : GdOp P Q ops a w G i o := by
 unfold GdOp; rw [h]; exact ⟨h1,h2,.inl ⟨h3,h4⟩⟩
theorem GdOp.left {ops : Array Oper} {a : Act} {w : World} {G : Nat → World → Value → Prop} {i : Nat} {o : Oper} {j : Nat} {b : Bool} (h : o.guard = some (j,b)) (h1 : ∃ oj d,ops[j]? = some oj ∧ oj.dst = some d ∧ d < a.tmps.size)
  (h2 : (o.after.any fun e => e.on == j && Region.binds .any e) = true) (h3 : ∀ w v,G j w v → v = .bool (!b) ∨ v = undef) (h4 : ∀ w,G i w undef) : GdOp P Q ops a w G i o := by
 unfold GdOp; rw [h]; exact ⟨h1,h2,.inr ⟨h3,h4⟩⟩
def znl (P:Program) (Q:Exit→Act→World→Prop) (ops:Array Oper) (a:Act) (w:World) (G:Nat→World→Value→Prop):Nat→List Oper→Prop
 | _,[]=>True
 | i,o::rest=>GdOp P Q ops a w G i o∧znl P Q ops a w G (i+1) rest
theorem znl.get {ops : Array Oper} {a : Act} {w : World} {G : Nat → World → Value → Prop} : ∀ (l : List Oper) (k j : Nat) (o : Oper), znl P Q ops a w G k l → l[j]? = some o → GdOp P Q ops a w G (k + j) o
  | [], _, _, _, _, h => by simp at h
  | o' :: rest, k, 0, o, h, hj => by obtain rfl : o' = o := by simpa using hj
                                     exact h.1
  | o' :: rest, k, j + 1, o, h, hj => by rw [show k + (j + 1) = k + 1 + j by omega]; exact znl.get rest (k + 1) j o h.2 (by simpa using hj)
theorem zkl {id : Nat} {ops : Array Oper} {a : Act} {w : World} (hm : P.follows .mixedOrders = true) (hs : gdB ops = true) (G : Nat → World → Value → Prop)
  (hst : ∀ i w v w',G i w v → Below w.heap.size w w' → G i w' v) (hop : znl P Q ops a w G 0 ops.toList)
  (hend : ∀ (vs : Nat → Value) (w' : World),Below w.heap.size w w' → (∀ i,i < ops.size → G i w' (vs i)) → Q .normal (zae a ops.toList vs 0) w') : (Code.region id ops true).wp P Q a w := by
 refine wp_region_any hm ?_
 have hnd : (ops.toList.filterMap (·.dst)).Nodup := by simp only [gdB,zky,Bool.and_eq_true,decide_eq_true_eq] at hs; exact hs.2
 have main : ∀ (fuel : Nat) (listed : Array Bool) (vs : Nat → Value) (w' : World),listed.size = ops.size → (zb0 ops.size listed).length ≤ fuel → Below w.heap.size w w' →
   (∀ i,i < ops.size → listed.getD i true = true → G i w' (vs i)) → wpAny P .any ops Q fuel listed (zae a ops.toList vs 0) w' := by
  intro fuel
  induction fuel with
  | zero =>
   intro listed vs w' hsz hu hb hG
   have hall : ∀ i,i < ops.size → listed.getD i true = true := by
    intro i hi
    cases hl : listed.getD i true with
    | true => rfl
    | false =>
     have : i ∈ zb0 ops.size listed := List.mem_filter.2 ⟨List.mem_range.2 hi,by simp [hl]⟩
     rw [List.eq_nil_of_length_eq_zero (Nat.le_zero.1 hu)] at this
     cases this
   refine ⟨?_,hend vs w' hb (fun i hi => hG i hi (hall i hi))⟩
   unfold Region.ready
   rw [List.filter_eq_nil_iff]
   intro i hi
   simp [hall i (List.mem_range.1 hi)]
  | succ fuel ih =>
   intro listed vs w' hsz hu hb hG
   refine ⟨fun hr => hend vs w' hb (fun i hi => hG i hi (zdb hs hr i hi)),fun i hi => ?_⟩
   unfold Region.ready at hi
   obtain ⟨hi1,hi2⟩ := List.mem_filter.1 hi
   have hlt := List.mem_range.1 hi1
   rw [Bool.and_eq_true] at hi2
   obtain ⟨hl,hdep⟩ := hi2
   have hl' : listed.getD i true = false := by simpa using hl
   obtain ⟨o,ho⟩ : ∃ o,ops[i]? = some o := ⟨_,Array.getElem?_eq_getElem hlt⟩
   rw [ho] at hdep
   simp only [Option.map_some,Option.getD_some] at hdep
   rw [Array.all_eq_true'] at hdep
   have hgop := znl.get ops.toList 0 i o hop (by rw [Array.getElem?_toList]; exact ho)
   rw [Nat.zero_add] at hgop
   have hdepG : ∀ e ∈ o.after,Region.binds .any e = true → e.on < ops.size ∧ G e.on w' (vs e.on) := by
    intro e he hbn
    have h := hdep e he
    rw [hbn] at h
    simp only [Bool.not_true,Bool.false_or] at h
    have hin : e.on < listed.size := by
     rcases Nat.lt_or_ge e.on listed.size with h' | h'
     ·exact h'
     ·simp [Array.getD_eq_getD_getElem?,Array.getElem?_eq_none_iff.2 h'] at h
    refine ⟨by omega,hG e.on (by omega) ?_⟩
    simp only [Array.getD_eq_getD_getElem?,Array.getElem?_eq_getElem hin,Option.getD_some] at h ⊢
    exact h
   have step : ∀ (v : Value) (w2 : World),Below w'.heap.size w' w2 → G i w2 v → wpAny P .any ops Q fuel (listed.setIfInBounds i true) ((zae a ops.toList vs 0).put o.dst v) w2 := by
    intro v w2 hb2 hg
    rw [zd6 ops.toList a vs 0 i o v hnd (by rw [Array.getElem?_toList]; exact ho),Nat.zero_add]
    refine ih _ _ _ (by simp [hsz]) (by have := zdu hsz hlt hl'; omega) (hb.trans (hb2.mono hb.size)) (fun j hj hlj => ?_)
    by_cases hji : j = i
    ·subst hji; simpa [upd] using hg
    ·have : upd vs i v j = vs j := by simp [upd,hji]
     rw [this]
     refine hst j w' _ w2 (hG j hj ?_) hb2
     simp only [Array.getD_eq_getD_getElem?,Array.getElem?_setIfInBounds_ne (Ne.symm hji)] at hlj ⊢
     exact hlj
   have run : zl8 P Q ops a w G i o → o.wp P (zae a ops.toList vs 0) w' (wpAny P .any ops Q fuel (listed.setIfInBounds i true)) Q := by
    intro hsoft
    have hwp := hsoft (zae a ops.toList vs 0) vs w' (fun t h => zbb _ _ _ _ _ h) (fun t j ht h => za8 _ _ _ _ _ _ hnd ht h) hb (fun e he hbn => (hdepG e he hbn).2)
    refine Oper.wp_mono ?_ hwp
    rintro a2 w2 ⟨v,rfl,hg,hb2⟩
    exact step v w2 hb2 hg
   unfold wpOp
   simp only [ho]
   unfold GdOp at hgop
   cases hgd : o.guard with
   | none =>
    rw [hgd] at hgop
    simp only [Region.wanted,hgd,if_true]
    exact .inl (run hgop)
   | some p =>
    obtain ⟨j,b⟩ := p
    rw [hgd] at hgop
    obtain ⟨⟨oj,d,hoj,hd,hdlt⟩,hany,hcase⟩ := hgop
    rw [Array.any_eq_true'] at hany
    obtain ⟨e,he,hej⟩ := hany
    rw [Bool.and_eq_true,beq_iff_eq] at hej
    obtain ⟨rfl,hbn⟩ := hej
    have hgj := (hdepG e he hbn).2
    have hix : zby ops.toList 0 d = some e.on := by
     have := zho ops.toList 0 e.on oj d hnd (by rw [Array.getElem?_toList]; exact hoj) hd
     simpa using this
    have hev := za8 ops.toList a vs 0 d e.on hnd hdlt hix
    have hy : ∀ c,vs e.on = .bool c → yielded ops (zae a ops.toList vs 0).tmps e.on = some c := by
     intro c hc
     have h1 : (zae a ops.toList vs 0).tmps.getD d undef = .bool c := by
      have h2 : (zae a ops.toList vs 0).eval (.tmp d) = (zae a ops.toList vs 0).tmps.getD d undef := rfl
      rw [← h2,hev]; exact hc
     rw [Array.getD_eq_getD_getElem?] at h1
     cases hx : (zae a ops.toList vs 0).tmps[d]? with
     | none => rw [hx] at h1; exact absurd h1 (by simp [undef])
     | some u =>
      rw [hx] at h1
      simp only [Option.getD_some] at h1
      simp [yielded,hoj,hd,hx,h1]
    rcases hcase with ⟨hv,hsoft⟩ | ⟨hv,hun⟩
    ·have hyes := hy b (hv _ _ hgj)
     simp only [Region.wanted,hgd,hyes,beq_self_eq_true,if_true]
     exact .inl (run hsoft)
    ·have hw0 : Region.wanted o (yielded ops (zae a ops.toList vs 0).tmps) = false := by
      rcases hv _ _ hgj with hv | hv
      ·simp only [Region.wanted,hgd,hy (!b) hv]; cases b <;> rfl
      ·have h1 : (zae a ops.toList vs 0).tmps.getD d undef = undef := by
        have h2 : (zae a ops.toList vs 0).eval (.tmp d) = (zae a ops.toList vs 0).tmps.getD d undef := rfl
        rw [← h2,hev]; exact hv
       have h3 : yielded ops (zae a ops.toList vs 0).tmps e.on = none := by
        rw [Array.getD_eq_getD_getElem?] at h1
        cases hx : (zae a ops.toList vs 0).tmps[d]? with
        | none => simp [yielded,hoj,hd,hx]
        | some u =>
         rw [hx] at h1
         simp only [Option.getD_some] at h1
         subst h1
         simp [yielded,hoj,hd,hx,undef]
       simp only [Region.wanted,hgd,h3]; cases b <;> rfl
     simp only [hw0]
     exact step undef w' (Below.refl _ _) (hun w')
 have h0 := main ops.size (Array.replicate ops.size false) (fun i => ((ops[i]?).bind (·.dst)).elim undef (fun d => a.tmps.getD d undef)) { w with drawn := w.drawn + 1 } (by simp)
  (by have := List.length_filter_le (fun i => !(Array.replicate ops.size false).getD i true) (List.range ops.size); simpa [zb0] using this) ⟨rfl,rfl,rfl,Nat.le_refl _,fun _ _ => rfl⟩
  (fun i hi h => by simp [Array.getD_eq_getD_getElem?,hi] at h)
 rw [zdn ops.toList a _ 0 (fun j o d hj hd => by
  rw [Array.getElem?_toList] at hj
  simp [hj,hd])] at h0
 exact h0
theorem zbu {id:Nat} {ops:Array Oper} {a:Act} {w:World} (hm:P.follows .mixedOrders=true) (hs:gdB ops=true) (Gs:List SG)
  (hop:znl P Q ops a w (fun i=>(Gs.getD i sgAny).1) 0 ops.toList)
  (hend:∀ (vs:Nat→Value) (w':World),Below w.heap.size w w'→(∀ i,i<ops.size→(Gs.getD i sgAny).1 w' (vs i))→Q .normal (zae a ops.toList vs 0) w'):(Code.region id ops true).wp P Q a w :=
 zkl hm hs (fun i=>(Gs.getD i sgAny).1) (fun i=>(Gs.getD i sgAny).2) hop hend
end
theorem Rd.of_row {w : World} {a : Option Addr} {len cap : Nat} {zs : List Int} (h : (a = none ∧ len = 0 ∧ cap = 0 ∧ zs = []) ∨
  ∃ x,a = some x ∧ len ≤ cap ∧ cap ≤ maxLen ∧ zs.length = cap ∧ (∀ i,i < zs.length → w.cell? (x.add i) = some (.int .u8 (zs.getD i 0))) ∧ ∀ n ∈ zs,(Lit.int .u8 n).wf = true) :
  Rd w.heap.size w (.slice a len cap) ((zs.take len).map fun n => UInt8.ofNat n.toNat) := by
 rcases h with ⟨rfl,rfl,rfl,rfl⟩ | ⟨x,rfl,hl,hm,hz,hc,hw⟩
 ·exact Rd.nil _ _
 ·by_cases h0 : len = 0
  ·subst h0
   exact .inl ⟨_,cap,rfl,hm,by simp⟩
  ·have hlen : ((zs.take len).map fun n => UInt8.ofNat n.toNat).length = len := by simp; omega
   obtain ⟨b,off,spot⟩ := x
   have h1 := hc 0 (by omega)
   have hspot : spot = none := by simpa [Addr.add] using World.cell?_spot h1
   subst hspot
   have hb := World.block_lt_of_cell? w _ h1
   refine .inr ⟨b,off,cap,by rw [hlen],by simpa [Addr.add] using hb,by rw [hlen]; exact hl,hm,fun j u hj => ?_⟩
   have hjl : j < len := by
    rcases Nat.lt_or_ge j len with h | h
    ·exact h
    ·rw [List.getElem?_eq_none (by rw [zb7,hlen]; exact h)] at hj; cases hj
   have hcj := hc j (by omega)
   rw [Addr.add_lit] at hcj
   rw [hcj]
   have hjz : j < zs.length := by omega
   have hwf := hw zs[j] (List.getElem_mem hjz)
   have hr : 0 ≤ zs[j] ∧ zs[j] ≤ 255 := by
    simp [Lit.wf,IntKind.min,IntKind.max,IntKind.signed,IntKind.bits] at hwf; omega
   simp [bv,hjl,hjz] at hj
   rw [← hj]
   simp [List.getD,hjz]
   omega
theorem wf_u8 {n:Int}(h:(Lit.int .u8 n).wf=true):0≤n∧n<256:=by
 simp [Lit.wf,IntKind.min,IntKind.max,IntKind.signed,IntKind.bits] at h;omega
theorem wf_u16 {n:Int}(h:(Lit.int .u16 n).wf=true):0≤n∧n<65536:=by
 simp [Lit.wf,IntKind.min,IntKind.max,IntKind.signed,IntKind.bits] at h;omega
theorem wf_u32 {n:Int}(h:(Lit.int .u32 n).wf=true):0≤n∧n<4294967296:=by
 simp [Lit.wf,IntKind.min,IntKind.max,IntKind.signed,IntKind.bits] at h;omega
def NotU8(v:Value):Prop:=∀ i,v≠.int .u8 i
def IsBox (w:World) (t:TypeId) (b:Nat):Prop:=∃ x y,w.heap[b]?=some (.cells #[x,y] t (0,0))∧NotU8 x∧NotU8 y
def BoxK (ok:Nat→Prop) (t:TypeId) (A B:World):Prop:=A=B∨∃ b,ok b∧A.grownBy B (some b)∧IsBox A t b∧IsBox B t b
abbrev SGk(ok:Nat→Prop)(t:TypeId):={ G:World→Value→Prop //(∀ w v w',G w v→Below w.heap.size w w'→G w' v)∧(∀ w v w',G w v→BoxK ok t w w'→G w' v) }
section
variable {ok : Nat → Prop} {t : TypeId}
def kAny:SGk ok t:=⟨fun _ _=>True,fun _ _ _ h _=>h,fun _ _ _ h _=>h⟩
end
section
variable {P : Program} {Q : Exit → Act → World → Prop}
def kk(ok:Nat→Prop)(t:TypeId)(m:Nat)(i:Nat)(A B:World):Prop:=if i=m then BoxK ok t A B else Below A.heap.size A B
def gk {ok:Nat→Prop} {t:TypeId} (Gs:List (SGk ok t)) (m:Nat) (Gm:SG) (i:Nat):World→Value→Prop:=if i=m then Gm.1 else (Gs.getD i kAny).1
end
structure PrP (P:Program) (t:TypeId) (x0 y0:Value):Prop where
 hu:∃ f0 f1,P.underlying t=some (.struct #[f0,f1])∧f0.offset=0∧f1.offset=1∧(P.info? f0.type).map (·.size)=some 1∧(P.info? f1.type).map (·.size)=some 1
 hi:(P.info? t).map (fun i=>(i.zero,i.size))=some (some (.agg #[x0,y0]),2)
section
variable {P : Program} {t : TypeId} {x0 y0 : Value} {o : Oper} {a : Act} {K : Act → World → Prop} {Q : Exit → Act → World → Prop} {w : World}
theorem zck {ty:TypeId} {n:Nat} (h:(P.info? ty).map (·.size)=some n) (w:World):(sizeOf ty).run P w=.ok n w:=by
 cases hi:P.info? ty with
 | none=>simp [hi] at h
 | some i=>simp [hi] at h;simp [sizeOf,typeInfo,hi,h]
theorem PrP.zero (hP:PrP P t x0 y0) (w:World):(zeroValue t).run P w=.ok (.agg #[x0,y0]) w:=by
 have h:=hP.hi
 cases hi:P.info? t with
 | none=>simp [hi] at h
 | some i=>simp [hi] at h;simp [zeroValue,typeInfo,hi,h.1]
theorem zkm (hP:PrP P t x0 y0) {x y:Operand} {u v:Value} (ho:o.op=.build t #[(0,x),(1,y)]) (hx:a.eval x=u) (hy:a.eval y=v) (hu1:u.cells=#[u]) (hv1:v.cells=#[v]) (h:K (a.put o.dst (.agg #[u,v])) w):o.wp P a w K Q:=by
 obtain⟨f0,f1,hu,e0,e1,s0,s1⟩:=hP.hu
 refine zfl ?_ h
 simp only [execOp,ho,List.map_toArray,List.map_cons,List.map_nil,hx,hy]
 simp [Instr.build,run_underlying hu,hP.zero,zck s0,zck s1,Instr.fill,hu1,hv1,e0,e1,show (Value.agg #[x0,y0]).cells=#[x0,y0] from rfl]
theorem zep {w2:World} (hrun:(execOp a.eval o).run P w=.ok .skip w2) (h:K (a.put o.dst undef) w2):o.wp P a w K Q:=by
 unfold Oper.wp
 rw [hrun]
 exact h
end
theorem znt(W:World)(p:Addr)(z:Value):(W.setCell p z).heap.size=W.heap.size:=by simp [World.setCell]
def preB (ops:Array Oper) (m:Nat) (pre:Nat→Bool):Bool :=
 (List.range ops.size).all fun i=>!pre i||(decide (m<ops.size)&&(List.range ops.size).any fun j=>decide (i<j)&&(j==m||pre j)&&(ops[j]?).any fun o=>o.after.any fun e=>e.on==i&&Region.binds .any e)
theorem zn1 {ops:Array Oper} {m:Nat} {pre:Nat→Bool}(h:preB ops m pre=true) {i:Nat}(hi:i<ops.size)(hp:pre i=true) :
  m<ops.size∧∃ j o,i<j∧j<ops.size∧(j=m∨pre j=true)∧ops[j]?=some o∧∃ e∈o.after,e.on=i∧Region.binds .any e=true:=by
 simp only [preB,List.all_eq_true,List.mem_range] at h
 have h1:=h i hi
 simp only [hp,Bool.not_true,Bool.false_or,Bool.and_eq_true,decide_eq_true_eq,List.any_eq_true,List.mem_range,Bool.or_eq_true,beq_iff_eq] at h1
 obtain⟨hm,j,hj,⟨hij,hjm⟩,ho⟩:=h1
 cases hoj:ops[j]? with
 | none=>rw [hoj] at ho;simp at ho
 | some o =>
  rw [hoj] at ho
  simp only [Option.any_some,Array.any_eq_true',Bool.and_eq_true,beq_iff_eq] at ho
  exact⟨hm,j,o,hij,hj,hjm,hoj,ho⟩
theorem preB_lt {ops:Array Oper} {m:Nat} {pre:Nat→Bool}(h:preB ops m pre=true) {i:Nat}(hi:i<ops.size)(hp:pre i=true):m<ops.size:=(zn1 h hi hp).1
theorem zgk {ops:Array Oper} {m:Nat} {pre:Nat→Bool} {listed:Array Bool} (h:preB ops m pre=true)
  (hcl:∀ j o,ops[j]?=some o→listed.getD j true=true→∀ e∈o.after,Region.binds .any e=true→listed.getD e.on true=true) (hm:listed.getD m true=true):∀ i,i<ops.size→pre i=true→listed.getD i true=true:=by
 have key:∀ (d i:Nat),ops.size - i≤d→i<ops.size→pre i=true→listed.getD i true=true:=by
  intro d
  induction d with
  | zero=>intro i hd hi _;omega
  | succ d ih =>
   intro i hd hi hp
   obtain⟨_,j,o,hij,hj,hjm,hoj,e,he,rfl,hbn⟩:=zn1 h hi hp
   refine hcl j o hoj ?_ e he hbn
   rcases hjm with rfl | hpj
   ·exact hm
   ·exact ih j (by omega) hj hpj
 exact fun i hi hp=>key _ i (Nat.le_refl _) hi hp
def zqt (ops:Array Oper) (m:Nat) (post:Nat→Bool):Bool :=
 (List.range ops.size).all fun i=>!post i||(ops[i]?).any fun o=>o.after.any fun e=>Region.binds .any e&&(e.on==m||(decide (e.on<i)&&post e.on))
theorem zfh {ops:Array Oper} {m:Nat} {post:Nat→Bool} {listed:Array Bool} (h:zqt ops m post=true)
  (hcl:∀ j o,ops[j]?=some o→listed.getD j true=true→∀ e∈o.after,Region.binds .any e=true→listed.getD e.on true=true):∀ i,i<ops.size→post i=true→listed.getD i true=true→listed.getD m true=true:=by
 intro i
 induction i using Nat.strongRecOn with
 | ind i ih =>
  intro hi hp hl
  simp only [zqt,List.all_eq_true,List.mem_range] at h
  have h1:=h i hi
  simp only [hp,Bool.not_true,Bool.false_or] at h1
  cases ho:ops[i]? with
  | none=>rw [ho] at h1;simp at h1
  | some o =>
   rw [ho] at h1
   simp only [Option.any_some,Array.any_eq_true',Bool.and_eq_true,Bool.or_eq_true,beq_iff_eq,decide_eq_true_eq] at h1
   obtain⟨e,he,hbn,hm |⟨hlt,hpe⟩⟩:=h1
   ·rw [← hm];exact hcl i o ho hl e he hbn
   ·exact ih e.on hlt (by omega) hpe (hcl i o ho hl e he hbn)
section
variable {P : Program} {Q : Exit → Act → World → Prop}
def zkg (P:Program) (Q:Exit→Act→World→Prop) (ops:Array Oper) (a:Act) (K:Nat→World→World→Prop) (R R0:World→Prop) (m:Nat) (pre post drop:Nat→Bool) (G:(Nat→Value)→Nat→World→Value→Prop) (i:Nat) (o:Oper):Prop :=
 ∀ (A:Act) (vs:Nat→Value) (w':World),(∀ t,zby ops.toList 0 t=none→A.eval (.tmp t)=a.eval (.tmp t))→(∀ t j,t<a.tmps.size→zby ops.toList 0 t=some j→A.eval (.tmp t)=vs j)→R w'→(pre i=true∨i=m→R0 w')→(pre i=true∨i=m→∀ j d,post j=true→(ops[j]?).bind (·.dst)=some d→vs j=a.eval (.tmp d)) →
  (∀ e∈o.after,(Region.binds .any e&&(pre i||i==m||!drop e.on))=true→G vs e.on w' (vs e.on))→o.wp P A w' (fun a2 w2=>∃ v,a2=A.put o.dst v∧G vs i w2 v∧K i w' w2) Q
def zb1 (P:Program) (Q:Exit→Act→World→Prop) (ops:Array Oper) (a:Act) (K:Nat→World→World→Prop) (R R0:World→Prop) (m:Nat) (pre post drop:Nat→Bool) (G:(Nat→Value)→Nat→World→Value→Prop) (i:Nat) (o:Oper):Prop :=
 match o.guard with
 | none=>zkg P Q ops a K R R0 m pre post drop G i o
 | some (j,b)=>(∃ oj d,ops[j]?=some oj∧oj.dst=some d∧d<a.tmps.size)∧(o.after.any fun e=>e.on==j&&(Region.binds .any e&&!drop e.on))=true ∧
   (((∀ vs w v,G vs j w v→v=.bool b)∧zkg P Q ops a K R R0 m pre post drop G i o)∨((∀ vs w v,G vs j w v→v=.bool (!b)∨v=undef)∧∀ vs w,G vs i w undef))
theorem zb1.plain {ops:Array Oper} {a:Act} {K:Nat→World→World→Prop} {R R0:World→Prop} {m:Nat} {pre post drop:Nat→Bool} {G:(Nat→Value)→Nat→World→Value→Prop} {i:Nat} {o:Oper}(h:o.guard=none)(h2:zkg P Q ops a K R R0 m pre post drop G i o):zb1 P Q ops a K R R0 m pre post drop G i o:=by
 unfold zb1;rw [h];exact h2
def zih (P:Program) (Q:Exit→Act→World→Prop) (ops:Array Oper) (a:Act) (K:Nat→World→World→Prop) (R R0:World→Prop) (m:Nat) (pre post drop:Nat→Bool) (G:(Nat→Value)→Nat→World→Value→Prop):Nat→List Oper→Prop
 | _,[]=>True
 | i,o::rest=>zb1 P Q ops a K R R0 m pre post drop G i o∧zih P Q ops a K R R0 m pre post drop G (i+1) rest
theorem zih.get {ops : Array Oper} {a : Act} {K : Nat → World → World → Prop} {R R0 : World → Prop} {m : Nat} {pre post drop : Nat → Bool} {G : (Nat → Value) → Nat → World → Value → Prop} : ∀ (l : List Oper) (k j : Nat) (o : Oper), zih P Q ops a K R R0 m pre post drop G k l → l[j]? = some o → zb1 P Q ops a K R R0 m pre post drop G (k + j) o
  | [], _, _, _, _, h => by simp at h
  | o' :: rest, k, 0, o, h, hj => by obtain rfl : o' = o := by simpa using hj
                                     exact h.1
  | o' :: rest, k, j + 1, o, h, hj => by rw [show k + (j + 1) = k + 1 + j by omega]; exact zih.get rest (k + 1) j o h.2 (by simpa using hj)
theorem zmc {id : Nat} {ops : Array Oper} {a : Act} {w : World} (hm : P.follows .mixedOrders = true) (hs : gdB ops = true) (K : Nat → World → World → Prop) (R R0 : World → Prop) (m : Nat) (pre post drop : Nat → Bool) (G : (Nat → Value) → Nat → World → Value → Prop)
  (hpre : preB ops m pre = true) (hKr : ∀ i w,K i w w) (hR0 : R { w with drawn := w.drawn + 1 }) (hR00 : R0 { w with drawn := w.drawn + 1 }) (hRs : ∀ i A B,R A → K i A B → R B) (hR0s : ∀ i A B,i ≠ m → post i = false → R0 A → K i A B → R0 B) (hpost : zqt ops m post = true) (hst : ∀ vs i j w v w',i ≠ j → (j = m → post i = false ∧ drop i = false) → G vs i w v → K j w w' → G vs i w' v)
  (hlnk : ∀ (vs us : Nat → Value) i w v,(∀ o,ops[i]? = some o → ∀ e ∈ o.after,Region.binds .any e = true → vs e.on = us e.on) → G vs i w v → G us i w v) (hop : zih P Q ops a K R R0 m pre post drop G 0 ops.toList)
  (hend : ∀ (vs : Nat → Value) (w' : World),R w' → (∀ i,i < ops.size → drop i = false → G vs i w' (vs i)) → Q .normal (zae a ops.toList vs 0) w') : (Code.region id ops true).wp P Q a w := by
 refine wp_region_any hm ?_
 have hnd : (ops.toList.filterMap (·.dst)).Nodup := by simp only [gdB,zky,Bool.and_eq_true,decide_eq_true_eq] at hs; exact hs.2
 have main : ∀ (fuel : Nat) (listed : Array Bool) (vs : Nat → Value) (w' : World),listed.size = ops.size → (zb0 ops.size listed).length ≤ fuel → R w' →
   (∀ i,i < ops.size → listed.getD i true = true → (drop i = true → listed.getD m true = false) → G vs i w' (vs i)) → (∀ i o,ops[i]? = some o → listed.getD i true = true → ∀ e ∈ o.after,Region.binds .any e = true → e.on < ops.size ∧ listed.getD e.on true = true) → (m < ops.size → listed.getD m true = false → R0 w') → (∀ j,j < ops.size → listed.getD j true = false → ∀ d,(ops[j]?).bind (·.dst) = some d → vs j = a.eval (.tmp d)) → wpAny P .any ops Q fuel listed (zae a ops.toList vs 0) w' := by
  intro fuel
  induction fuel with
  | zero =>
   intro listed vs w' hsz hu hb hG hcl hR0m hun
   have hall : ∀ i,i < ops.size → listed.getD i true = true := by
    intro i hi
    cases hl : listed.getD i true with
    | true => rfl
    | false =>
     have : i ∈ zb0 ops.size listed := List.mem_filter.2 ⟨List.mem_range.2 hi,by simp [hl]⟩
     rw [List.eq_nil_of_length_eq_zero (Nat.le_zero.1 hu)] at this
     cases this
   refine ⟨?_,hend vs w' hb (fun i hi hdi => hG i hi (hall i hi) (fun h => by rw [hdi] at h; cases h))⟩
   unfold Region.ready
   rw [List.filter_eq_nil_iff]
   intro i hi
   simp [hall i (List.mem_range.1 hi)]
  | succ fuel ih =>
   intro listed vs w' hsz hu hb hG hcl hR0m hun
   refine ⟨fun hr => hend vs w' hb (fun i hi hdi => hG i hi (zdb hs hr i hi) (fun h => by rw [hdi] at h; cases h)),fun i hi => ?_⟩
   unfold Region.ready at hi
   obtain ⟨hi1,hi2⟩ := List.mem_filter.1 hi
   have hlt := List.mem_range.1 hi1
   rw [Bool.and_eq_true] at hi2
   obtain ⟨hl,hdep⟩ := hi2
   have hl' : listed.getD i true = false := by simpa using hl
   obtain ⟨o,ho⟩ : ∃ o,ops[i]? = some o := ⟨_,Array.getElem?_eq_getElem hlt⟩
   rw [ho] at hdep
   simp only [Option.map_some,Option.getD_some] at hdep
   rw [Array.all_eq_true'] at hdep
   have hgop := zih.get ops.toList 0 i o hop (by rw [Array.getElem?_toList]; exact ho)
   rw [Nat.zero_add] at hgop
   have hdepG : ∀ e ∈ o.after,Region.binds .any e = true → e.on < ops.size ∧ listed.getD e.on true = true ∧ ((pre i = true ∨ i = m ∨ drop e.on = false) → G vs e.on w' (vs e.on)) := by
    intro e he hbn
    have h := hdep e he
    rw [hbn] at h
    simp only [Bool.not_true,Bool.false_or] at h
    have hin : e.on < listed.size := by
     rcases Nat.lt_or_ge e.on listed.size with h' | h'
     ·exact h'
     ·simp [Array.getD_eq_getD_getElem?,Array.getElem?_eq_none_iff.2 h'] at h
    have hl2 : listed.getD e.on true = true := by
     simp only [Array.getD_eq_getD_getElem?,Array.getElem?_eq_getElem hin,Option.getD_some] at h ⊢
     exact h
    refine ⟨by omega,hl2,fun hpm => hG e.on (by omega) hl2 (fun hde => ?_)⟩
    cases hlm : listed.getD m true with
    | false => rfl
    | true =>
     rcases hpm with h3 | rfl | h3
     ·have := zgk hpre (fun j oj hoj hlj e he hbn => (hcl j oj hoj hlj e he hbn).2) hlm i hlt h3
      rw [hl'] at this
      cases this
     ·rw [hl'] at hlm; cases hlm
     ·rw [hde] at h3; cases h3
   have hR0i : pre i = true ∨ i = m → R0 w' := by
    rintro (h | rfl)
    ·refine hR0m (preB_lt hpre hlt h) ?_
     cases hlm : listed.getD m true with
     | false => rfl
     | true =>
      have := zgk hpre (fun j oj hoj hlj e he hbn => (hcl j oj hoj hlj e he hbn).2) hlm i hlt h
      rw [hl'] at this
      cases this
    ·exact hR0m hlt hl'
   have hUi : pre i = true ∨ i = m → ∀ j d,post j = true → (ops[j]?).bind (·.dst) = some d → vs j = a.eval (.tmp d) := by
    intro h j d hpj hd
    have hjs : j < ops.size := by
     rcases Nat.lt_or_ge j ops.size with h' | h'
     ·exact h'
     ·rw [Array.getElem?_eq_none_iff.2 h'] at hd; cases hd
    refine hun j hjs ?_ d hd
    cases hlj : listed.getD j true with
    | false => rfl
    | true =>
     have hml := zfh hpost (fun j2 oj hoj hlj2 e he hbn => (hcl j2 oj hoj hlj2 e he hbn).2) j hjs hpj hlj
     rcases h with h | rfl
     ·have := zgk hpre (fun j oj hoj hlj e he hbn => (hcl j oj hoj hlj e he hbn).2) hml i hlt h
      rw [hl'] at this
      cases this
     ·rw [hl'] at hml; cases hml
   have step : ∀ (v : Value) (w2 : World),K i w' w2 → G vs i w2 v → wpAny P .any ops Q fuel (listed.setIfInBounds i true) ((zae a ops.toList vs 0).put o.dst v) w2 := by
    intro v w2 hb2 hg
    rw [zd6 ops.toList a vs 0 i o v hnd (by rw [Array.getElem?_toList]; exact ho),Nat.zero_add]
    have hne : ∀ e : Edge,listed.getD e.on true = true → e.on ≠ i := fun e h e2 => by rw [e2,hl'] at h; cases h
    have hkeep : ∀ j,listed.getD j true = true → (listed.setIfInBounds i true).getD j true = true := fun j h => by
     by_cases hji : j = i
     ·subst hji; rw [hl'] at h; cases h
     ·simp only [Array.getD_eq_getD_getElem?,Array.getElem?_setIfInBounds_ne (Ne.symm hji)] at h ⊢; exact h
    have hback : ∀ j,j ≠ i → (listed.setIfInBounds i true).getD j true = true → listed.getD j true = true := fun j hji h => by
     simp only [Array.getD_eq_getD_getElem?,Array.getElem?_setIfInBounds_ne (Ne.symm hji)] at h ⊢; exact h
    refine ih _ _ _ (by simp [hsz]) (by have := zdu hsz hlt hl'; omega) (hRs i _ _ hb hb2) (fun j hj hlj hdj => ?_) (fun j oj hoj hlj e he hbn => ?_) (fun hm1 hm2 => ?_) (fun j hj hlj d hd => ?_)
    ·by_cases hji : j = i
     ·subst hji
      refine hlnk vs _ j w2 _ (fun o2 ho2 e he hbn => ?_) (by simpa [upd] using hg)
      obtain rfl : o = o2 := by rw [ho] at ho2; injection ho2
      have := hne e (hdepG e he hbn).2.1
      simp [upd,this]
     ·have hlj' := hback j hji hlj
      have hv : upd vs i v j = vs j := by simp [upd,hji]
      rw [hv]
      refine hlnk vs _ j w2 _ (fun o2 ho2 e he hbn => ?_) (hst vs j i w' _ w2 hji (fun him => ?_) (hG j hj hlj' (fun hdt => ?_)) hb2)
      rotate_left
      ·constructor
       ·cases hpj : post j with
        | false => rfl
        | true =>
         have := zfh hpost (fun j2 oj hoj hlj2 e he hbn => (hcl j2 oj hoj hlj2 e he hbn).2) j hj hpj hlj'
         rw [← him,hl'] at this
         cases this
       ·cases hdr : drop j with
        | false => rfl
        | true =>
         have := hdj hdr
         rw [← him] at this
         simp only [Array.getD_eq_getD_getElem?,Array.getElem?_setIfInBounds_self_of_lt (by omega : i < listed.size)] at this
         cases this
      ·have := hdj hdt
       by_cases him : i = m
       ·rw [← him]; exact hl'
       ·simp only [Array.getD_eq_getD_getElem?,Array.getElem?_setIfInBounds_ne him] at this ⊢
        exact this
      have := hne e (hcl j o2 ho2 hlj' e he hbn).2
      simp [upd,this]
    ·by_cases hji : j = i
     ·subst hji
      obtain rfl : o = oj := by rw [ho] at hoj; injection hoj
      exact ⟨(hdepG e he hbn).1,hkeep _ (hdepG e he hbn).2.1⟩
     ·have := hcl j oj hoj (hback j hji hlj) e he hbn
      exact ⟨this.1,hkeep _ this.2⟩
    ·have him : i ≠ m := by
      intro e
      subst e
      simp only [Array.getD_eq_getD_getElem?,Array.getElem?_setIfInBounds_self_of_lt (by omega : i < listed.size)] at hm2
      cases hm2
     have hml : listed.getD m true = false := by
      simp only [Array.getD_eq_getD_getElem?,Array.getElem?_setIfInBounds_ne him] at hm2 ⊢
      exact hm2
     have hpi : post i = false := by
      cases hpi : post i with
      | false => rfl
      | true =>
       have h := hpost
       simp only [zqt,List.all_eq_true,List.mem_range] at h
       have h1 := h i hlt
       simp only [hpi,Bool.not_true,Bool.false_or,ho,Option.any_some,Array.any_eq_true',Bool.and_eq_true,Bool.or_eq_true,beq_iff_eq,decide_eq_true_eq] at h1
       obtain ⟨e,he,hbn,h2 | ⟨_,hpe⟩⟩ := h1
       ·have := (hdepG e he hbn).2.1
        rw [h2,hml] at this
        cases this
       ·have := zfh hpost (fun j2 oj hoj hlj2 e he hbn => (hcl j2 oj hoj hlj2 e he hbn).2) e.on (hdepG e he hbn).1 hpe (hdepG e he hbn).2.1
        rw [hml] at this
        cases this
     exact hR0s i _ _ him hpi (hR0m hm1 hml) hb2
    ·have hji : j ≠ i := by
      intro e
      subst e
      simp only [Array.getD_eq_getD_getElem?,Array.getElem?_setIfInBounds_self_of_lt (by omega : j < listed.size)] at hlj
      cases hlj
     rw [show upd vs i v j = vs j by simp [upd,hji]]
     refine hun j hj ?_ d hd
     simp only [Array.getD_eq_getD_getElem?,Array.getElem?_setIfInBounds_ne (Ne.symm hji)] at hlj ⊢
     exact hlj
   have run : zkg P Q ops a K R R0 m pre post drop G i o → o.wp P (zae a ops.toList vs 0) w' (wpAny P .any ops Q fuel (listed.setIfInBounds i true)) Q := by
    intro hsoft
    have hwp := hsoft (zae a ops.toList vs 0) vs w' (fun t h => zbb _ _ _ _ _ h) (fun t j ht h => za8 _ _ _ _ _ _ hnd ht h) hb hR0i hUi (fun e he hbn => by
     simp only [Bool.and_eq_true,Bool.or_eq_true,beq_iff_eq,Bool.not_eq_true'] at hbn
     exact (hdepG e he hbn.1).2.2 (hbn.2.elim (fun h => h.elim .inl (fun h => .inr (.inl h))) (fun h => .inr (.inr h))))
    refine Oper.wp_mono ?_ hwp
    rintro a2 w2 ⟨v,rfl,hg,hb2⟩
    exact step v w2 hb2 hg
   unfold wpOp
   simp only [ho]
   unfold zb1 at hgop
   cases hgd : o.guard with
   | none =>
    rw [hgd] at hgop
    simp only [Region.wanted,hgd,if_true]
    exact .inl (run hgop)
   | some p =>
    obtain ⟨j,b⟩ := p
    rw [hgd] at hgop
    obtain ⟨⟨oj,d,hoj,hd,hdlt⟩,hany,hcase⟩ := hgop
    rw [Array.any_eq_true'] at hany
    obtain ⟨e,he,hej⟩ := hany
    simp only [Bool.and_eq_true,beq_iff_eq,Bool.not_eq_true'] at hej
    obtain ⟨rfl,hbn,hde⟩ := hej
    have hgj := (hdepG e he hbn).2.2 (.inr (.inr hde))
    have hix : zby ops.toList 0 d = some e.on := by
     have := zho ops.toList 0 e.on oj d hnd (by rw [Array.getElem?_toList]; exact hoj) hd
     simpa using this
    have hev := za8 ops.toList a vs 0 d e.on hnd hdlt hix
    have hy : ∀ c,vs e.on = .bool c → yielded ops (zae a ops.toList vs 0).tmps e.on = some c := by
     intro c hc
     have h1 : (zae a ops.toList vs 0).tmps.getD d undef = .bool c := by
      have h2 : (zae a ops.toList vs 0).eval (.tmp d) = (zae a ops.toList vs 0).tmps.getD d undef := rfl
      rw [← h2,hev]; exact hc
     rw [Array.getD_eq_getD_getElem?] at h1
     cases hx : (zae a ops.toList vs 0).tmps[d]? with
     | none => rw [hx] at h1; exact absurd h1 (by simp [undef])
     | some u =>
      rw [hx] at h1
      simp only [Option.getD_some] at h1
      simp [yielded,hoj,hd,hx,h1]
    rcases hcase with ⟨hv,hsoft⟩ | ⟨hv,hun⟩
    ·have hyes := hy b (hv _ _ _ hgj)
     simp only [Region.wanted,hgd,hyes,beq_self_eq_true,if_true]
     exact .inl (run hsoft)
    ·have hw0 : Region.wanted o (yielded ops (zae a ops.toList vs 0).tmps) = false := by
      rcases hv _ _ _ hgj with hv | hv
      ·simp only [Region.wanted,hgd,hy (!b) hv]; cases b <;> rfl
      ·have h1 : (zae a ops.toList vs 0).tmps.getD d undef = undef := by
        have h2 : (zae a ops.toList vs 0).eval (.tmp d) = (zae a ops.toList vs 0).tmps.getD d undef := rfl
        rw [← h2,hev]; exact hv
       have h3 : yielded ops (zae a ops.toList vs 0).tmps e.on = none := by
        rw [Array.getD_eq_getD_getElem?] at h1
        cases hx : (zae a ops.toList vs 0).tmps[d]? with
        | none => simp [yielded,hoj,hd,hx]
        | some u =>
         rw [hx] at h1
         simp only [Option.getD_some] at h1
         subst h1
         simp [yielded,hoj,hd,hx,undef]
       simp only [Region.wanted,hgd,h3]; cases b <;> rfl
     simp only [hw0]
     exact step undef w' (hKr i w') (hun vs w')
 have h0 := main ops.size (Array.replicate ops.size false) (fun i => ((ops[i]?).bind (·.dst)).elim undef (fun d => a.tmps.getD d undef)) { w with drawn := w.drawn + 1 } (by simp)
  (by have := List.length_filter_le (fun i => !(Array.replicate ops.size false).getD i true) (List.range ops.size); simpa [zb0] using this) hR0
  (fun i hi h => by simp [Array.getD_eq_getD_getElem?,hi] at h)
  (fun i o ho h => by
   have hi : i < ops.size := (Array.getElem?_eq_some_iff.1 ho).1
   simp [Array.getD_eq_getD_getElem?,hi] at h) (fun _ _ => hR00)
  (fun j hj _ d hd => by simp only [hd,Option.elim_some]; rfl)
 rw [zdn ops.toList a _ 0 (fun j o d hj hd => by
  rw [Array.getElem?_toList] at hj
  simp [hj,hd])] at h0
 exact h0
end
abbrev SGm(Km:World→World→Prop):={ G:World→Value→Prop //(∀ w v w',G w v→Below w.heap.size w w'→G w' v)∧(∀ w v w',G w v→Km w w'→G w' v) }
section
variable {Km : World → World → Prop}
def mEq(u:Value):SGm Km:=⟨fun _ v=>v=u,fun _ _ _ h _=>h,fun _ _ _ h _=>h⟩
def mAny:SGm Km:=⟨fun _ _=>True,fun _ _ _ h _=>h,fun _ _ _ h _=>h⟩
def km(Km:World→World→Prop)(m i:Nat)(A B:World):Prop:=if i=m then Km A B else Below A.heap.size A B
end
def gq {Km:World→World→Prop} (Gs:List (SGm Km)) (m:Nat) (Gm:SG) (post:Nat→Bool) (Gp:Nat→SG) (drop:Nat→Bool) (_:Nat→Value) (i:Nat):World→Value→Prop:=if i=m then Gm.1 else if (post i||drop i)=true then (Gp i).1 else (Gs.getD i mAny).1
section
variable {P : Program} {Q : Exit → Act → World → Prop}
theorem zeq {id : Nat} {ops : Array Oper} {a : Act} {w : World} (hm : P.follows .mixedOrders = true) (hs : gdB ops = true) (Km : World → World → Prop) (m : Nat) (pre : Nat → Bool) (hpre : preB ops m pre = true) (post : Nat → Bool) (hpost : zqt ops m post = true) (drop : Nat → Bool) (R : World → Prop) (hR : ∀ A,Below w.heap.size w A → R A)
  (hKr : ∀ w,Km w w) (hRb : ∀ A B,R A → Below A.heap.size A B → R B) (hRk : ∀ A B,R A → Km A B → R B) (Gs : List (SGm Km)) (Gm : SG) (Gp : Nat → SG)
  (hop : zih P Q ops a (km Km m) R (Below w.heap.size w) m pre post drop (gq Gs m Gm post Gp drop) 0 ops.toList)
  (hend : ∀ (vs : Nat → Value) (w' : World),R w' → (∀ i,i < ops.size → drop i = false → gq Gs m Gm post Gp drop vs i w' (vs i)) → Q .normal (zae a ops.toList vs 0) w') : (Code.region id ops true).wp P Q a w := by
 refine zmc hm hs (km Km m) R (Below w.heap.size w) m pre post drop (gq Gs m Gm post Gp drop) hpre ?_ (hR _ ⟨rfl,rfl,rfl,Nat.le_refl _,fun _ _ => rfl⟩) ⟨rfl,rfl,rfl,Nat.le_refl _,fun _ _ => rfl⟩ ?_ ?_ hpost ?_ ?_ hop hend
 ·intro i w
  unfold km
  split
  ·exact hKr w
  ·exact Below.refl _ _
 ·intro i A B h k
  unfold km at k
  split at k
  ·exact hRk _ _ h k
  ·exact hRb _ _ h k
 ·intro i A B hi _ h k
  unfold km at k
  rw [if_neg hi] at k
  exact h.trans (k.mono h.size)
 ·intro vs i j w v w' hij hpo hG hK
  unfold km at hK
  unfold gq at hG ⊢
  split at hK
  ·rename_i hj
   rw [if_neg (by omega),if_neg (by rw [(hpo hj).1,(hpo hj).2]; simp)] at hG ⊢
   exact (Gs.getD i mAny).2.2 w v w' hG hK
  ·split
   ·rename_i hi
    rw [if_pos hi] at hG
    exact Gm.2 w v w' hG hK
   ·rename_i hi
    rw [if_neg hi] at hG
    split
    ·rename_i hp
     rw [if_pos hp] at hG
     exact (Gp i).2 w v w' hG hK
    ·rename_i hp
     rw [if_neg hp] at hG
     exact (Gs.getD i mAny).2.1 w v w' hG hK
 ·intro vs us i w v _ hG
  exact hG
end
theorem zei {A B C:World} {r:Option Nat} (h:A.grownBy B r) (k:B.grownBy C r):A.grownBy C r :=
 ⟨k.os.trans h.os,k.tape.trans h.tape,k.output.trans h.output,Nat.le_trans h.size k.size,fun i hi hn=>(k.block i (Nat.lt_of_lt_of_le hi h.size) hn).trans (h.block i hi hn)⟩
theorem zi0(A:World)(r:Option Nat):A.grownBy A r:=⟨rfl,rfl,rfl,Nat.le_refl _,fun _ _ _=>rfl⟩
theorem zdy {A B:World}(h:Below A.heap.size A B)(r:Option Nat):A.grownBy B r:=⟨h.os,h.tape,h.output,h.size,fun k hk _=>h.block k hk⟩
theorem zkd {w : World} {b : Nat} {t : TypeId} {us : List Value} (h : w.heap[b]? = some (.cells us.toArray t (0,0))) (j : Nat) (u : Value) (hj : us[j]? = some u) : w.cell? (Addr.add ⟨b,0,none⟩ j) = some u := by
 rw [Addr.add_lit,World.cell?,h]
 simpa using hj
theorem zd2 {l:List Ver} {s:Int}(h:cntV l s=0):vacV l s=l:=by unfold vacV;split<;>simp [h]
theorem zhi {l:List Ver} {s:Int} {m:Nat} (hk:okV l) (h:cntV l s=m+1) (hm:m<l.length) (hg:l[m].gone=true):vacV l s=l.drop (m+1):=by
 unfold vacV
 rw [if_pos hk,dif_pos (by omega)]
 simp only [h,Nat.add_sub_cancel,hg,if_true]
theorem zfo {l:List Ver} {s:Int} {m:Nat} (hk:okV l) (h:cntV l s=m+1) (hm:m<l.length) (hg:l[m].gone=false):vacV l s=l.drop m:=by
 unfold vacV
 rw [if_pos hk,dif_pos (by omega)]
 simp only [h,Nat.add_sub_cancel,hg,Bool.false_eq_true,if_false]
theorem zh5 {l:List Ver} {x:Ver}(h:¬(okV l∧mayV x)):zcm l x=(l,1):=by unfold zcm;rw [if_neg h]
theorem zh3 {l : List Ver} {x : Ver} (h0 : l.length = 0) (h : mayV x) : zcm l x = (l ++ [x],0) := by
 obtain rfl : l = [] := List.eq_nil_of_length_eq_zero h0
 unfold zcm
 rw [if_pos ⟨fun i h => absurd h (Nat.not_lt_zero _),h⟩]
 rfl
theorem zlr {l : List Ver} {x : Ver} {m : Nat} (hk : okV l) (h : mayV x) (hm : l.length = m + 1) (hs : x.stamp ≤ (l[m]'(by omega)).stamp) : zcm l x = (l,50) := by
 unfold zcm
 rw [if_pos ⟨hk,h⟩,List.getLast?_eq_getElem?,show l.length - 1 = m by omega,List.getElem?_eq_getElem (by omega)]
 simp only [if_pos hs]
theorem zh4 {l : List Ver} {x : Ver} {m : Nat} (hk : okV l) (h : mayV x) (hm : l.length = m + 1) (hs : ¬ x.stamp ≤ (l[m]'(by omega)).stamp) : zcm l x = (l ++ [x],0) := by
 unfold zcm
 rw [if_pos ⟨hk,h⟩,List.getLast?_eq_getElem?,show l.length - 1 = m by omega,List.getElem?_eq_getElem (by omega)]
 simp only [if_neg hs]
theorem zh1 (l : List Ver) (s : Int) : ∀ k, k ≤ l.length → (∀ i (h : i < l.length), zc5 l s k ≤ i → i < k → ¬ l[i].stamp ≤ s) ∧ (∀ m (h : m < l.length), zc5 l s k = m + 1 → l[m].stamp ≤ s)
  | 0, _ => ⟨fun i _ _ h => absurd h (Nat.not_lt_zero _), fun m _ h => by simp [zc5] at h⟩
  | k + 1, hk => by
    obtain ⟨h1, h2⟩ := zh1 l s k (by omega)
    by_cases hs : l[k].stamp ≤ s
    · rw [zpg (by omega) hs]
      exact ⟨fun i _ h3 h4 => by omega, fun m hm e => by obtain rfl : m = k := by omega
                                                         exact hs⟩
    · rw [zlo (by omega) hs]
      refine ⟨fun i hi h3 h4 => ?_, h2⟩
      rcases Nat.lt_or_ge i k with h5 | h5
      · exact h1 i hi h3 h5
      · obtain rfl : i = k := by omega
        exact hs
theorem okV_lt {l:List Ver} (hk:okV l):∀ d i (h:i+d<l.length),0<d→l[i].stamp<l[i+d].stamp
 | 0,_,_,h=>absurd h (Nat.lt_irrefl _)
 | d+1,i,h,_=>by
  have h1:=(hk (i+d+1) h).2 (by omega)
  simp only [Nat.add_sub_cancel] at h1
  rcases Nat.eq_zero_or_pos d with rfl | h2
  ·exact h1
  ·have:=okV_lt hk d i (by omega) h2
   exact Int.lt_trans this h1
theorem zj2 {l:List Ver} (hk:okV l) {i j:Nat} (hij:i<j) (hj:j<l.length):(l[i]'(by omega)).stamp<l[j].stamp:=by
 have:=okV_lt hk (j - i) i (by omega) (by omega)
 simpa [show i+(j - i)=j by omega] using this
theorem zdr {l:List Ver} (hk:okV l) (s:Int) {i:Nat} (h:i<l.length):l[i].stamp≤s↔i<cntV l s:=by
 obtain⟨h1,h2⟩:=zh1 l s l.length (Nat.le_refl _)
 constructor
 ·intro hs
  rcases Nat.lt_or_ge i (cntV l s) with h3 | h3
  ·exact h3
  ·exact absurd hs (h1 i h h3 h)
 ·intro hi
  have hle:=zb6 l s
  obtain⟨m,hm⟩:∃ m,cntV l s=m+1:=⟨cntV l s - 1,by omega⟩
  have hms:=h2 m (by omega) hm
  rcases Nat.lt_or_ge i m with h3 | h3
  ·have:=zj2 hk h3 (by omega)
   omega
  ·obtain rfl:i=m:=by omega
   exact hms
theorem cnt_eq {l:List Ver} (hk:okV l) {s:Int} {c:Nat} (hc:c≤l.length) (h:∀ i (h:i<l.length),l[i].stamp≤s↔i<c):cntV l s=c:=by
 have hle:=zb6 l s
 rcases Nat.lt_trichotomy (cntV l s) c with h1 | h1 | h1
 ·have h2:=(h (cntV l s) (by omega)).2 h1
  have:=(zdr hk s (by omega)).1 h2
  omega
 ·exact h1
 ·have h2:=(zdr hk s (i:=c) (by omega)).2 h1
  have:=(h c (by omega)).1 h2
  omega
theorem ze6 {l:List Ver} (hk:okV l) (k:Nat):okV (l.drop k):=fun i h=>by
 have hl:k+i<l.length:=by rw [List.length_drop] at h;omega
 rw [List.getElem_drop]
 refine⟨(hk _ hl).1,fun h0=>?_⟩
 rw [List.getElem_drop]
 exact zj2 hk (by omega) hl
theorem okV_snoc {l:List Ver} (hk:okV l) {x:Ver} (hx:mayV x) (hs:∀ y∈l,y.stamp<x.stamp):okV (l++[x]):=fun i h=>by
 rw [List.length_append] at h
 simp only [List.length_cons,List.length_nil] at h
 rcases Nat.lt_or_ge i l.length with h1 | h1
 ·rw [List.getElem_append_left h1]
  refine⟨(hk i h1).1,fun h0=>?_⟩
  rw [List.getElem_append_left (by omega)]
  exact (hk i h1).2 h0
 ·obtain rfl:i=l.length:=by omega
  rw [List.getElem_append_right (Nat.le_refl _)]
  simp only [Nat.sub_self,List.getElem_cons_zero]
  refine⟨hx,fun h0=>?_⟩
  rw [List.getElem_append_left (by omega)]
  exact hs _ (List.getElem_mem _)
theorem zf5 {l:List Ver} (hk:okV l) (k:Nat) (s:Int):cntV (l.drop k) s=cntV l s - k:=by
 have hle:=zb6 l s
 refine cnt_eq (ze6 hk k) (by rw [List.length_drop];omega) (fun i h=>?_)
 rw [List.length_drop] at h
 rw [List.getElem_drop,zdr hk s (by omega)]
 omega
def readC (l:List Ver) (c:Nat):Option (List UInt8):=match l[c - 1]? with
 | some x=>if c=0 then none else if x.gone then none else some x.value
 | none=>none
theorem zlf {l:List Ver} (hk:okV l) (s:Int):zcd l s=readC l (cntV l s):=by
 have hle:=zb6 l s
 unfold readC
 cases hc:cntV l s with
 | zero=>rw [zgh hc];simp;cases l[0]?<;>rfl
 | succ m =>
  have hm:m<l.length:=by omega
  rw [Nat.add_sub_cancel,List.getElem?_eq_getElem hm]
  simp only [Nat.add_eq_zero_iff,Nat.one_ne_zero,and_false,if_false]
  cases hg:l[m].gone with
  | true=>rw [zgi hc hm hg];rfl
  | false=>rw [zit hk hc hm hg];rfl
theorem zhx {l:List Ver} (hk:okV l) (s:Int):zcr l s=decide (cntV l s<l.length):=by
 have hle:=zb6 l s
 rcases Nat.eq_zero_or_pos l.length with h0 | h0
 ·obtain rfl:l=[]:=List.eq_nil_of_length_eq_zero h0
  rw [ziz];rfl
 ·obtain⟨m,hm⟩:∃ m,l.length=m+1:=⟨l.length - 1,by omega⟩
  rw [zm0 hm,decide_eq_true hk,Bool.true_and]
  have:=zdr hk s (i:=m) (by omega)
  rw [decide_eq_decide]
  constructor
  ·intro h;have:=mt this.2 (by omega);omega
  ·intro h;have:=mt this.1 (by omega);omega
theorem zp2 {l:List Ver} (hk:okV l) (s:Int):okV (vacV l s)∧∀ y∈vacV l s,y∈l:=by
 cases hc:cntV l s with
 | zero=>rw [zd2 hc];exact⟨hk,fun _ h=>h⟩
 | succ m =>
  have hm:m<l.length:=by have:=zb6 l s;omega
  cases hg:l[m].gone with
  | true=>rw [zhi hk hc hm hg];exact⟨ze6 hk _,fun _ h=>List.mem_of_mem_drop h⟩
  | false=>rw [zfo hk hc hm hg];exact⟨ze6 hk _,fun _ h=>List.mem_of_mem_drop h⟩
theorem zno(l:List Ver)(s:Int):(vacV l s).length≤l.length:=by
 unfold vacV
 split
 ·split
  ·split<;>simp
  ·exact Nat.le_refl _
 ·exact Nat.le_refl _
theorem instV_yes {l:List Ver} {x:Ver} (hk:okV l) (hm:mayV x) (hs:∀ y∈l,y.stamp<x.stamp):zcm l x=(l++[x],0):=by
 rcases Nat.eq_zero_or_pos l.length with h0 | h0
 ·exact zh3 h0 hm
 ·obtain⟨m,hml⟩:∃ m,l.length=m+1:=⟨l.length - 1,by omega⟩
  have:=hs (l[m]'(by omega)) (List.getElem_mem _)
  exact zh4 hk hm hml (by omega)
theorem zfj (l : List Ver) (x : Ver) : (∃ er,er ≠ 0 ∧ zcm l x = (l,er)) ∨ (zcm l x = (l ++ [x],0) ∧ okV l ∧ mayV x ∧ ∀ y ∈ l,y.stamp < x.stamp) := by
 by_cases h : okV l ∧ mayV x
 ·obtain ⟨hk,hm⟩ := h
  rcases Nat.eq_zero_or_pos l.length with h0 | h0
  ·refine .inr ⟨zh3 h0 hm,hk,hm,?_⟩
   obtain rfl : l = [] := List.eq_nil_of_length_eq_zero h0
   simp
  ·obtain ⟨m,hml⟩ : ∃ m,l.length = m + 1 := ⟨l.length - 1,by omega⟩
   by_cases hs : x.stamp ≤ (l[m]'(by omega)).stamp
   ·exact .inl ⟨50,by omega,zlr hk hm hml hs⟩
   ·refine .inr ⟨zh4 hk hm hml hs,hk,hm,fun y hy => ?_⟩
    obtain ⟨r,hr,rfl⟩ := List.mem_iff_getElem.1 hy
    rcases Nat.lt_or_ge r m with h3 | h3
    ·have := zj2 hk h3 (by omega); omega
    ·obtain rfl : r = m := by omega
     omega
 ·exact .inl ⟨1,by omega,zh5 h⟩
theorem zld {l:List Ver} (hk:okV l) {k:Nat} {s:Int} (h:k<cntV l s):zcd (l.drop k) s=zcd l s:=by
 have hle:=zb6 l s
 rw [zlf (ze6 hk k),zlf hk,zf5 hk]
 unfold readC
 rw [List.getElem?_drop,show k+(cntV l s - k - 1)=cntV l s - 1 by omega]
 rw [List.getElem?_eq_getElem (by omega)]
 simp only [show ¬ cntV l s - k=0 by omega,show ¬ cntV l s=0 by omega,if_false]
theorem zju {l:List Ver} (hk:okV l) {s:Int}:zcd (l.drop (cntV l s)) s=none:=by
 refine zgh ?_
 rw [zf5 hk];omega
theorem ziy {l:List Ver} (hk:okV l) {k:Nat} {s:Int} (h:k≤cntV l s):zcr (l.drop k) s=zcr l s:=by
 have hle:=zb6 l s
 rw [zhx (ze6 hk k),zhx hk,zf5 hk,List.length_drop,decide_eq_decide]
 omega
theorem zoo {l:List Ver} (hk:okV l) {s t:Int} (h:s≤t):cntV l s≤cntV l t:=by
 have h1:=zb6 l s
 rcases Nat.eq_zero_or_pos (cntV l s) with h0 | h0
 ·omega
 ·have h2:=(zdr hk s (i:=cntV l s - 1) (by omega)).2 (by omega)
  have:=(zdr hk t (i:=cntV l s - 1) (by omega)).1 (by omega)
  omega
theorem zmg {l:List Ver} (hk:okV l) (o:Int):vacV (vacV l o) o=vacV l o∧(∀ h:1<(vacV l o).length,o<(vacV l o)[1].stamp)∧∀ s,o≤s→zcd (vacV l o) s=zcd l s∧zcr (vacV l o) s=zcr l s:=by
 have hkv:=(zp2 hk o).1
 cases hc:cntV l o with
 | zero =>
  rw [zd2 hc]
  refine⟨zd2 hc,fun h=>?_,fun s _=>⟨rfl,rfl⟩⟩
  have:=mt (zdr hk o h).1 (by omega)
  omega
 | succ m =>
  have hml:m<l.length:=by have:=zb6 l o;omega
  cases hg:l[m].gone with
  | true =>
   have e:=zhi hk hc hml hg
   have hz:cntV (l.drop (m+1)) o=0:=by rw [zf5 hk,hc];omega
   simp only [e]
   refine⟨zd2 hz,fun h=>?_,fun s hs=>?_⟩
   ·rw [List.length_drop] at h
    rw [List.getElem_drop]
    have:=mt (zdr hk o (i:=m+1+1) (by omega)).1 (by omega)
    omega
   ·have hm:=zoo hk hs
    refine⟨?_,ziy hk (by omega)⟩
    rcases Nat.lt_or_ge (m+1) (cntV l s) with h1 | h1
    ·exact zld hk h1
    ·have h2:cntV l s=m+1:=by omega
     rw [← h2,zju hk,zgi h2 hml hg]
  | false =>
   have e:=zfo hk hc hml hg
   have hz:cntV (l.drop m) o=0+1:=by rw [zf5 hk,hc];omega
   simp only [e]
   refine⟨?_,fun h=>?_,fun s hs=>?_⟩
   ·rw [zfo (ze6 hk m) hz (by rw [List.length_drop];omega) (by rw [List.getElem_drop];simpa using hg)]
    rfl
   ·rw [List.length_drop] at h
    rw [List.getElem_drop]
    have:=mt (zdr hk o (i:=m+1) (by omega)).1 (by omega)
    omega
   ·have hm:=zoo hk hs
    exact⟨zld hk (by omega),ziy hk (by omega)⟩
def zbq(l:List Ver):Prop:=l.length≤1000∧∀ x∈l,x.value.length≤1000
def zcq (w:World) (l:List Ver) (e:Ending) (w':World):Prop :=
 ∃ a c,e=.returned (.slice a l.length c)∧RdL Elt.ver (fun k=>w.heap.size≤k∧k<w'.heap.size) w' (.slice a l.length c) l∧Below w.heap.size w w'
def zds (w:World) (l:List Ver) (x:Ver) (e:Ending) (w':World):Prop :=
 ∃ a c,e=.returned (.tuple #[.slice a (zcm l x).1.length c,.int .i64 ((zcm l x).2:Nat)])∧RdL Elt.ver (fun k=>w.heap.size≤k∧k<w'.heap.size) w' (.slice a (zcm l x).1.length c) (zcm l x).1∧Below w.heap.size w w'
theorem za9.none {w w':World} {l:List Ver} {s:Int} {e:Ending} (h:zcd l s=none) (h2:za9 w l s e w'):∃ a c,e=.returned (.tuple #[.slice a 0 c,.bool false])∧RdS (fun k=>w.heap.size≤k∧k<w'.heap.size) w' (.slice a 0 c) []∧Below w.heap.size w w':=by
 unfold za9 at h2;rw [h] at h2;exact h2
theorem za9.some {w w':World} {l:List Ver} {s:Int} {e:Ending} {xs:List UInt8} (h:zcd l s=some xs) (h2:za9 w l s e w'):∃ a c,e=.returned (.tuple #[.slice a xs.length c,.bool true])∧RdS (fun k=>w.heap.size≤k∧k<w'.heap.size) w' (.slice a xs.length c) xs∧Below w.heap.size w w':=by
 unfold za9 at h2;rw [h] at h2;exact h2
theorem zlk {l:List Ver}(hk:okV l)(hn:l.length≤1000):zbq l:=⟨hn,fun x hx=>by
 obtain⟨r,hr,rfl⟩:=List.mem_iff_getElem.1 hx
 have:=(hk r hr).1.2.2.1
 omega⟩
theorem i64w {n:Int}(h:(Lit.int .i64 n).wf=true):I64' n:=by
 simp [Lit.wf,IntKind.min,IntKind.max,IntKind.signed,IntKind.bits] at h
 exact⟨by omega,by omega⟩
theorem zj4 {x:Ver}(h:mayV x):I64' x.stamp:=⟨by have:=h.1;omega,by have:=h.2.1;omega⟩
def Srt(l:List Pr):Prop:=l.Pairwise fun a b=>ltB a.key b.key=true
def zik(p:Pr):Prop:=okV p.chain∧p.chain≠[]∧p.key.length≤16
theorem srt_get {l:List Pr} (h:Srt l) {i j:Nat} (hij:i<j) (hj:j<l.length):ltB (l[i]'(by omega)).key l[j].key=true:=List.pairwise_iff_getElem.1 h i j (by omega) hj hij
theorem zco (l:List Pr):okP l↔(∀ p∈l,zik p)∧Srt l:=by
 constructor
 ·intro h
  refine⟨fun p hp=>?_,List.pairwise_iff_getElem.2 ?_⟩
  ·obtain⟨i,hi,rfl⟩:=List.mem_iff_getElem.1 hp
   have:=h i hi
   exact⟨this.1,this.2.1,this.2.2.1⟩
  ·have key:∀ d i (h2:i+d+1<l.length),ltB (l[i]'(by omega)).key l[i+d+1].key=true:=by
    intro d
    induction d with
    | zero=>intro i h2;exact (h (i+1) h2).2.2.2 (by omega)
    | succ d ih=>intro i h2;exact zb4 (ih i (by omega)) ((h (i+(d+1)+1) h2).2.2.2 (by omega))
   intro i j hi hj hij
   have:=key (j - i - 1) i (by omega)
   simpa [show i+(j - i - 1)+1=j by omega] using this
 ·rintro⟨h1,h2⟩i hi
  have:=h1 _ (List.getElem_mem hi)
  exact⟨this.1,this.2.1,this.2.2,fun h0=>srt_get h2 (by omega) hi⟩
theorem zf3(k:List UInt8):zaw [] k=none:=rfl
theorem zap (p:Pr) (l:List Pr) (k:List UInt8):zaw (p::l) k=if p.key=k then some p.chain else zaw l k:=by
 unfold zaw
 by_cases h:p.key=k<;>simp [h]
theorem zf4 {l:List Pr} {k:List UInt8} (h:∀ p∈l,ltB k p.key=true):zaw l k=none:=by
 induction l with
 | nil=>rfl
 | cons p l ih =>
  rw [zap,if_neg (fun e=>zf2 (h p (by simp)) e.symm)]
  exact ih fun q hq=>h q (by simp [hq])
theorem zdf {l:List Pr} {k:List UInt8} {c:List Ver}(h:zaw l k=some c):∃ p∈l,p.key=k∧p.chain=c:=by
 induction l with
 | nil=>cases h
 | cons p l ih =>
  rw [zap] at h
  by_cases e:p.key=k
  ·rw [if_pos e] at h;injection h with h;exact⟨p,by simp,e,h⟩
  ·rw [if_neg e] at h
   obtain⟨q,hq,h2⟩:=ih h
   exact⟨q,by simp [hq],h2⟩
theorem zh7 {l:List Pr} (hs:Srt l) {p:Pr} (hp:p∈l):zaw l p.key=some p.chain:=by
 induction l with
 | nil=>cases hp
 | cons q l ih =>
  have hs':=List.pairwise_cons.1 hs
  rw [zap]
  rcases List.mem_cons.1 hp with rfl | h
  ·rw [if_pos rfl]
  ·rw [if_neg (zf2 (hs'.1 p h)),ih hs'.2 h]
def insP(k:List UInt8)(c:List Ver):List Pr→List Pr
 | []=>[⟨k,c⟩]
 | p::l=>if k=p.key then⟨k,c⟩::l else if ltB k p.key then⟨k,c⟩::p::l else p::insP k c l
theorem zgj {k:List UInt8} {c:List Ver}:∀ {l:List Pr},(∀ p∈l,k≠p.key)→zij k c true l=l
 | [],_=>by simp [zij]
 | p::l,h=>by
  rw [zij,if_neg (h p (by simp)),zgj fun q hq=>h q (by simp [hq])]
  rfl
theorem zdw {k:List UInt8} {c:List Ver}:∀ {l:List Pr},Srt l→putP l k c=insP k c l
 | [],_=>by simp [putP,zij,insP]
 | p::l,hs=>by
  have hs':=List.pairwise_cons.1 hs
  have ih:=zdw (k:=k) (c:=c) hs'.2
  unfold putP at ih ⊢
  rw [zij,insP]
  by_cases h:k=p.key
  ·subst h
   rw [if_pos (by simp),if_pos rfl,if_pos rfl,zgj fun q hq=>zf2 (hs'.1 q hq)]
   rfl
  ·rw [if_neg h,if_neg h]
   by_cases h2:ltB k p.key=true
   ·rw [if_pos (by simp [h2]),if_pos h2,zgj fun q hq=>zf2 (zb4 h2 (hs'.1 q hq))]
    rfl
   ·rw [if_neg (by simp [h2,h]),if_neg h2,ih]
theorem zoc {k k':List UInt8} {c:List Ver}:∀ (l:List Pr),zaw (insP k c l) k'=if k=k' then some c else zaw l k'
 | []=>by rw [insP,zap]
 | p::l=>by
  have ih:=zoc (k:=k) (k':=k') (c:=c) l
  rw [insP]
  by_cases h:k=p.key
  ·rw [if_pos h,zap,zap]
   by_cases h2:k=k'
   ·simp [h2]
   ·rw [if_neg h2,if_neg h2,if_neg (by rw [← h];exact h2)]
  ·rw [if_neg h]
   by_cases h2:ltB k p.key=true
   ·rw [if_pos h2,zap]
   ·rw [if_neg h2,zap,ih,zap]
    by_cases h3:p.key=k'
    ·rw [if_pos h3,if_pos h3,if_neg (fun e=>h (by rw [e,h3]))]
    ·rw [if_neg h3,if_neg h3]
theorem zgm {k:List UInt8} {c:List Ver}:∀ {l:List Pr} {q:Pr},q∈insP k c l→q=⟨k,c⟩∨q∈l
 | [],q,h=>by simp [insP] at h;exact .inl h
 | p::l,q,h=>by
  rw [insP] at h
  by_cases h1:k=p.key
  ·rw [if_pos h1] at h
   rcases List.mem_cons.1 h with h | h
   ·exact .inl h
   ·exact .inr (by simp [h])
  ·rw [if_neg h1] at h
   by_cases h2:ltB k p.key=true
   ·rw [if_pos h2] at h
    rcases List.mem_cons.1 h with h | h
    ·exact .inl h
    ·exact .inr h
   ·rw [if_neg h2] at h
    rcases List.mem_cons.1 h with h | h
    ·exact .inr (by simp [h])
    ·rcases zgm h with h | h
     ·exact .inl h
     ·exact .inr (by simp [h])
theorem zm9 {k : List UInt8} {c : List Ver} : ∀ {l : List Pr},Srt l → Srt (insP k c l)
 | [],_ => by simp [insP,Srt]
 | p :: l,hs => by
  have hs' := List.pairwise_cons.1 hs
  rw [insP]
  by_cases h : k = p.key
  ·rw [if_pos h]
   exact List.pairwise_cons.2 ⟨fun q hq => by rw [show (Pr.mk k c).key = p.key from h]; exact hs'.1 q hq,hs'.2⟩
  ·rw [if_neg h]
   by_cases h2 : ltB k p.key = true
   ·rw [if_pos h2]
    refine List.pairwise_cons.2 ⟨fun q hq => ?_,hs⟩
    rcases List.mem_cons.1 hq with rfl | hq
    ·exact h2
    ·exact zb4 h2 (hs'.1 q hq)
   ·rw [if_neg h2]
    refine List.pairwise_cons.2 ⟨fun q hq => ?_,zm9 hs'.2⟩
    rcases zgm hq with rfl | hq
    ·exact zf1 h (by simpa using h2)
    ·exact hs'.1 q hq
theorem zra {k:List UInt8} {c:List Ver}:∀ {l:List Pr},Srt l→(insP k c l).length=if (zaw l k).isSome then l.length else l.length+1
 | [],_=>by simp [insP,zf3]
 | p::l,hs=>by
  have hs':=List.pairwise_cons.1 hs
  have ih:=zra (k:=k) (c:=c) hs'.2
  rw [insP,zap]
  by_cases h:k=p.key
  ·rw [if_pos h,if_pos h.symm];simp
  ·have h':¬ p.key=k:=fun e=>h e.symm
   rw [if_neg h,if_neg h']
   by_cases h2:ltB k p.key=true
   ·rw [if_pos h2,zf4 fun q hq=>zb4 h2 (hs'.1 q hq)];simp
   ·rw [if_neg h2,List.length_cons,ih,List.length_cons];split<;>omega
theorem zon {k k':List UInt8}:∀ (l:List Pr),zaw (delP l k) k'=if k=k' then none else zaw l k'
 | []=>by simp [delP,zf3]
 | p::l=>by
  have ih:=zon (k:=k) (k':=k') l
  unfold delP at ih ⊢
  rw [List.filter_cons]
  by_cases h:p.key=k
  ·simp only [h,decide_true,Bool.not_true,Bool.false_eq_true,if_false]
   rw [ih,zap]
   by_cases h2:k=k'
   ·rw [if_pos h2,if_pos h2]
   ·rw [if_neg h2,if_neg h2,if_neg (by rw [h];exact h2)]
  ·simp only [h,decide_false,Bool.not_false,if_true]
   rw [zap,zap,ih]
   by_cases h2:k=k'
   ·rw [if_pos h2,if_pos h2,if_neg (by rw [← h2];exact h)]
   ·rw [if_neg h2,if_neg h2]
theorem zrv {k:List UInt8} {l:List Pr} (h:Srt l):Srt (delP l k):=List.Pairwise.filter _ h
theorem zrw {k:List UInt8} {l:List Pr} {q:Pr}(h:q∈delP l k):q∈l:=(List.mem_filter.1 h).1
theorem zom {k:List UInt8}:∀ {l:List Pr},zaw l k=none→delP l k=l
 | [],_=>rfl
 | p::l,h=>by
  rw [zap] at h
  by_cases e:p.key=k
  ·rw [if_pos e] at h;cases h
  ·rw [if_neg e] at h
   have ih:=zom h
   unfold delP at ih ⊢
   rw [List.filter_cons,ih]
   simp [e]
theorem zmk:∀ {a b:List Pr},Srt a→Srt b→(∀ k,zaw a k=zaw b k)→a=b
 | [],[],_,_,_=>rfl
 | [],q::b,_,_,h=>by have:=h q.key;rw [zf3,zap,if_pos rfl] at this;cases this
 | p::a,[],_,_,h=>by have:=h p.key;rw [zf3,zap,if_pos rfl] at this;cases this
 | p::a,q::b,ha,hb,h=>by
  have ha':=List.pairwise_cons.1 ha
  have hb':=List.pairwise_cons.1 hb
  have hk:p.key=q.key:=by
   have h1:=h p.key
   have h2:=h q.key
   rw [zap,if_pos rfl] at h1
   rw [zap q b q.key,if_pos rfl] at h2
   obtain⟨x,hx,hx2,_⟩:=zdf h1.symm
   obtain⟨y,hy,hy2,_⟩:=zdf h2
   rcases List.mem_cons.1 hx with rfl | hx
   ·exact hx2.symm
   ·rcases List.mem_cons.1 hy with rfl | hy
    ·exact hy2
    ·have e1:=hb'.1 x hx
     have e2:=ha'.1 y hy
     rw [hx2] at e1
     rw [hy2] at e2
     rw [zq4 e1] at e2
     cases e2
  have hc:p.chain=q.chain:=by
   have:=h p.key
   rw [zap,if_pos rfl,zap,if_pos hk.symm] at this
   injection this
  have ht:a=b:=zmk ha'.2 hb'.2 fun k=>by
   by_cases e:p.key=k
   ·rw [zf4 fun x hx=>by rw [← e];exact ha'.1 x hx,zf4 fun x hx=>by rw [← e,hk];exact hb'.1 x hx]
   ·have:=h k
    rw [zap,if_neg e,zap,if_neg (by rw [← hk];exact e)] at this
    exact this
  subst ht
  cases p;cases q
  simp only at hk hc
  subst hk;subst hc
  rfl
theorem put_okP {l : List Pr} (h : okP l) {k : List UInt8} {c : List Ver} (hk : k.length ≤ 16) (hc : okV c) (hc0 : c ≠ []) : okP (putP l k c) := by
 obtain ⟨h1,h2⟩ := (zco l).1 h
 rw [zdw h2]
 refine (zco _).2 ⟨fun p hp => ?_,zm9 h2⟩
 rcases zgm hp with rfl | hp
 ·exact ⟨hc,hc0,hk⟩
 ·exact h1 p hp
theorem zg5 {l:List Pr} (h:Srt l) {k k':List UInt8} {c:List Ver}:zaw (putP l k c) k'=if k=k' then some c else zaw l k':=by rw [zdw h,zoc]
theorem zqo {l:List Pr}(h:Srt l) {k:List UInt8} {c:List Ver}:(putP l k c).length=if(zaw l k).isSome then l.length else l.length+1:=by rw [zdw h,zra h]
theorem zjw {l:List Pr} (h:Srt l) {k:List UInt8} {c:List Ver}:Srt (putP l k c):=by rw [zdw h];exact zm9 h
theorem zq3(a:List UInt8):ltB a []=false:=by cases a<;>rfl
theorem zmz {n:Nd} (h:okN n):Srt (zaa n):=((zco _).1 h.2).2
theorem prN_srt (n:Nd):Srt (prN n):=by
 unfold prN
 split
 ·exact zmz ‹_›
 ·exact List.Pairwise.nil
mutual
def wN:Nd→Nat
 | .mk ks cs ns=>1+ks.length+cs.length+ns.length+wL ns
def wL:List Nd→Nat
 | []=>0
 | n::ns=>wN n+wL ns
end
theorem wL_get:∀ {ns:List Nd} {n:Nd},n∈ns→wN n≤wL ns
 | m::ns,n,h=>by
  rw [wL]
  rcases List.mem_cons.1 h with rfl|h
  ·omega
  ·have:=wL_get h;omega
theorem zev {n m:Nd} (h:m∈n.kids):wN m<wN n:=by
 cases n with
 | mk ks cs ns =>
  have:=wL_get (show m∈ns from h)
  rw [wN];omega
theorem zfn(n:Nd):0<wN n:=by cases n;rw [wN];omega
theorem zg3(n:Nd):n.keys.length≤wN n∧n.chains.length≤wN n∧n.kids.length≤wN n:=by
 cases n with
 | mk ks cs ns=>simp only [wN,Nd.keys,Nd.chains,Nd.kids];omega
theorem zb5 (n:Nd) (root:Bool):zax n root=if n.chains.length≠n.keys.length∨3<n.keys.length∨(root=false∧n.keys.length<1) then -1 else if n.kids.length=0 then 1 else if n.kids.length≠n.keys.length+1∨n.keys.length<1 then -1 else allD (n.kids.map (zax · false)):=by
 cases n with
 | mk ks cs ns=>rw [zax,zly];rfl
theorem zd8 (n:Nd):zaa n=wv (n.kids.map zaa) n.keys n.chains n.keys.length++(n.kids.map zaa).getD (n.kids.length - 1) []:=by
 cases n with
 | mk ks cs ns=>rw [zaa,ziv];rfl
theorem zl6 {l:List Int} {d:Int}(h:allD l=d)(hd:0≤d):l≠[]∧1≤d∧∀ x∈l,x=d-1:=by
 cases l with
 | nil=>simp [allD] at h;omega
 | cons y r =>
  simp only [allD] at h
  by_cases hc:(∀ x∈r,x=y)∧0≤y
  ·rw [if_pos hc] at h
   refine⟨by simp,by omega,fun x hx=>?_⟩
   rcases List.mem_cons.1 hx with rfl|hx
   ·omega
   ·have:=hc.1 x hx;omega
  ·rw [if_neg hc] at h;omega
theorem zcb {n : Nd} {root : Bool} {d : Int} (h : zax n root = d) (hd : 0 ≤ d) : n.chains.length = n.keys.length ∧ n.keys.length ≤ 3 ∧ (root = false → 1 ≤ n.keys.length) ∧ ((n.kids = [] ∧ d = 1) ∨ (n.kids.length = n.keys.length + 1 ∧ 1 ≤ n.keys.length ∧ 2 ≤ d ∧ ∀ m ∈ n.kids,zax m false = d - 1)) := by
 rw [zb5] at h
 by_cases h1 : n.chains.length ≠ n.keys.length ∨ 3 < n.keys.length ∨ (root = false ∧ n.keys.length < 1)
 ·rw [if_pos h1] at h; omega
 ·rw [if_neg h1] at h
  have h1' : n.chains.length = n.keys.length ∧ n.keys.length ≤ 3 ∧ (root = false → 1 ≤ n.keys.length) := by
   refine ⟨?_,?_,fun hr => ?_⟩
   ·exact Decidable.byContradiction fun h => h1 (.inl h)
   ·exact Decidable.byContradiction fun h => h1 (.inr (.inl (by omega)))
   ·exact Decidable.byContradiction fun h => h1 (.inr (.inr ⟨hr,by omega⟩))
  refine ⟨h1'.1,h1'.2.1,h1'.2.2,?_⟩
  by_cases h2 : n.kids.length = 0
  ·rw [if_pos h2] at h
   exact .inl ⟨List.eq_nil_of_length_eq_zero h2,h.symm⟩
  ·rw [if_neg h2] at h
   by_cases h3 : n.kids.length ≠ n.keys.length + 1 ∨ n.keys.length < 1
   ·rw [if_pos h3] at h; omega
   ·rw [if_neg h3] at h
    obtain ⟨_,h4,h5⟩ := zl6 h hd
    have h6 : ∀ m ∈ n.kids,zax m false = d - 1 := fun m hm => h5 _ (List.mem_map.2 ⟨m,hm,rfl⟩)
    have h7 : 2 ≤ d := by
     cases hk : n.kids with
     | nil => rw [hk] at h2; exact absurd rfl h2
     | cons m r =>
      have h8 := h6 m (by rw [hk]; simp)
      rcases Int.lt_or_le d 2 with h9 | h9
      ·exfalso
       have e : d - 1 = 0 := by omega
       rw [e] at h8
       rw [zb5] at h8
       split at h8
       ·omega
       ·split at h8
        ·omega
        ·split at h8
         ·omega
         ·obtain ⟨_,h10,_⟩ := zl6 h8 (Int.le_refl _)
          omega
      ·exact h9
    exact .inr ⟨by omega,by omega,h7,h6⟩
theorem zpq (ps:List (List Pr)) (ks:List (List UInt8)) (cs:List (List Ver)):∀ i,(wv ps ks cs i).length=i+((List.range i).map fun j=>(ps.getD j []).length).sum
 | 0=>rfl
 | i+1=>by
  rw [wv,List.length_append,List.length_append,zpq ps ks cs i,List.range_succ,List.map_append,List.sum_append]
  simp
  omega
theorem zhj {a b:Nat}:∀ {l:List Nat},(∀ x∈l,a≤x∧x≤b)→l.length*a≤l.sum∧l.sum≤l.length*b
 | [],_=>by simp
 | x::l,h=>by
  have h1:=h x (by simp)
  have h2:=zhj (a:=a) (b:=b) (l:=l) fun y hy=>h y (by simp [hy])
  rw [List.length_cons,List.sum_cons,Nat.add_mul,Nat.add_mul]
  omega
theorem zhv (n:Nd) (h:n.kids.length=n.keys.length+1):(zaa n).length=n.keys.length+(n.kids.map fun m=>(zaa m).length).sum:=by
 rw [zd8,List.length_append,zpq,h,Nat.add_sub_cancel]
 have e:((n.kids.map fun m=>(zaa m).length))=(List.range (n.keys.length+1)).map fun j=>((n.kids.map zaa).getD j []).length:=by
  apply List.ext_getElem
  ·simp [h]
  ·intro i h1 h2
   simp at h1
   simp [List.getElem?_eq_getElem h1]
 rw [e,List.range_succ,List.map_append,List.sum_append]
 simp
 omega
theorem zd7(n:Nd)(h:n.kids=[]):(zaa n).length=n.keys.length:=by
 rw [zd8,h,List.length_append,zpq]
 have:∀ i,((List.range i).map fun j=>((([]:List Nd).map zaa).getD j []).length).sum=0:=by
  intro i
  induction i with
  | zero=>rfl
  | succ i ih=>rw [List.range_succ,List.map_append,List.sum_append,ih];simp
 rw [this]
 simp
theorem zey : ∀ (d : Nat) {n : Nd} {root : Bool},zax n root = (d : Int) → 1 ≤ d ∧ (zaa n).length ≤ 4 ^ d - 1 ∧ (2 ^ d - 1 ≤ (zaa n).length ∨ (root = true ∧ d = 1 ∧ (zaa n).length = 0))
 | 0,n,root,h => by
  obtain ⟨_,_,_,h1 | h1⟩ := zcb h (Int.le_refl _)
  ·omega
  ·omega
 | d + 1,n,root,h => by
  obtain ⟨hc,hk,hr,h1 | h1⟩ := zcb h (by omega)
  ·obtain ⟨h2,h3⟩ := h1
   have hd : d = 0 := by omega
   subst hd
   rw [zd7 n h2]
   refine ⟨Nat.le_refl _,by simpa using hk,?_⟩
   cases root with
   | false => have := hr rfl; left; simpa using this
   | true =>
    rcases Nat.eq_zero_or_pos n.keys.length with h4 | h4
    ·exact .inr ⟨rfl,rfl,h4⟩
    ·left; simp only [Nat.zero_add,Nat.pow_one]; omega
  ·obtain ⟨h2,h3,h4,h5⟩ := h1
   rw [zhv n h2]
   have hb := zhj (a := 2 ^ d - 1) (b := 4 ^ d - 1) (l := n.kids.map fun m => (zaa m).length) (fun x hx => by
    obtain ⟨m,hm,rfl⟩ := List.mem_map.1 hx
    have h6 := h5 m hm
    obtain ⟨h7,h8,h9⟩ := zey d (root := false) (h6.trans (by omega))
    refine ⟨?_,h8⟩
    rcases h9 with h9 | ⟨h9,_⟩
    ·exact h9
    ·cases h9)
   rw [List.length_map,h2] at hb
   have p2 : 0 < 2 ^ d := Nat.pow_pos (by omega)
   have p4 : 0 < 4 ^ d := Nat.pow_pos (by omega)
   have e2 : 2 ^ (d + 1) = 2 * 2 ^ d := by rw [Nat.pow_succ]; omega
   have e4 : 4 ^ (d + 1) = 4 * 4 ^ d := by rw [Nat.pow_succ]; omega
   refine ⟨by omega,?_,.inl ?_⟩
   ·have := Nat.mul_le_mul_right (4 ^ d - 1) (show n.keys.length + 1 ≤ 4 by omega)
    omega
   ·have := Nat.mul_le_mul_right (2 ^ d - 1) (show 2 ≤ n.keys.length + 1 by omega)
    omega
theorem zgs:∀ (N:Nat) {n:Nd} {root:Bool},wN n≤N→0≤zax n root→wN n≤5*(zaa n).length+1∧(root=false→wN n+2≤5*(zaa n).length)
 | 0,n,_,h,_=>by have:=zfn n;omega
 | N+1,n,root,hN,hd=>by
  obtain⟨hc,hk,hr,h1 | h1⟩:=zcb rfl hd
  ·rw [zd7 n h1.1]
   have hw:wN n=1+n.keys.length+n.chains.length:=by
    cases n with
    | mk ks cs ns =>
     have:ns=[]:=h1.1
     subst this
     simp [wN,wL,Nd.keys,Nd.chains]
   rw [hw,hc]
   refine⟨by omega,fun h=>?_⟩
   have:=hr h
   omega
  ·obtain⟨h2,h3,h4,h5⟩:=h1
   rw [zhv n h2]
   have hw:wN n=1+n.keys.length+n.chains.length+n.kids.length+wL n.kids:=by cases n;rw [wN];rfl
   have hs:∀ ns:List Nd,(∀ m∈ns,m∈n.kids)→wL ns+2*ns.length≤5*(ns.map fun m=>(zaa m).length).sum:=by
    intro ns
    induction ns with
    | nil=>intro _;simp [wL]
    | cons m r ih =>
     intro hm
     have h6:=ih fun x hx=>hm x (by simp [hx])
     have h7:=hm m (by simp)
     have h8:=zev h7
     have h9:=(zgs N (n:=m) (root:=false) (by omega) (by rw [h5 m h7];omega)).2 rfl
     rw [wL,List.map_cons,List.sum_cons,List.length_cons]
     omega
   have h6:=hs n.kids fun _ h=>h
   rw [hw,hc]
   refine⟨by omega,fun _=>by omega⟩
def zcj:Nat→Nd→Bool
 | 0,_=>false
 | t+1,n=>decide (n.keys.length≤6)&&decide (n.chains.length≤6)&&decide (n.kids.length≤6)&&n.keys.all (fun k=>decide (k.length≤100))&&n.chains.all (fun c=>decide (c.length≤20)&&c.all fun x=>decide (x.value.length≤100))&&n.kids.all (zcj t)
theorem RdN.lens {S:Nat→Prop} {w:World} {v:Value} {n:Nd}(h:RdN S w v n):n.keys.length≤9223372036854775807∧n.chains.length≤9223372036854775807∧n.kids.length≤9223372036854775807:=by
 obtain⟨a1,c1,a2,c2,a3,c3,e,h1,h2,h3⟩:=h
 have e1:=h1.len
 have e2:=h2.len
 have e3:=h3.len
 unfold maxLen at e1 e2 e3
 omega
theorem zpf {a b:Nat}(h:a=b):((a:Int) !=(b:Int))=false:=by simp [h]
theorem lenNe {a b:Nat}(h:¬ a=b):((a:Int) !=(b:Int))=true:=by rw [bne_iff_ne];omega
theorem zq5 {a b:Nat}(h:a=b+1):((a:Int) !=(b:Int)+1)=false:=by rw [h];simp
theorem lenNe1 {a b:Nat}(h:¬ a=b+1):((a:Int) !=(b:Int)+1)=true:=by rw [bne_iff_ne];omega
theorem zr0 {d:Int} {r:List Int} (h:∃ x∈r,¬ x=d):allD (d::r)=-1:=by
 simp only [allD]
 obtain⟨x,hx,h⟩:=h
 exact if_neg fun hh=>h (hh.1 x hx)
theorem zor {d:Int} {r:List Int} (h:d<0):allD (d::r)=-1:=by
 simp only [allD]
 exact if_neg fun hh=>by omega
theorem zkf {d : Int} {r : List Int} (h : ∀ x ∈ r,x = d) (hd : 0 ≤ d) : allD (d :: r) = d + 1 := by
 simp only [allD]
 exact if_pos ⟨h,hd⟩
theorem zfa:∀ (N:Nat) {n:Nd} {root:Bool},wN n≤N→-1≤zax n root∧zax n root≤(wN n:Int)
 | 0,n,_,h=>by have:=zfn n;omega
 | N+1,n,root,h=>by
  rcases Int.lt_or_le (zax n root) 0 with h0 | h0
  ·refine⟨?_,by omega⟩
   rw [zb5] at h0 ⊢
   split
   ·omega
   ·split
    ·omega
    ·split
     ·omega
     ·cases hm:n.kids.map (zax · false) with
      | nil=>simp [allD]
      | cons d r =>
       simp only [allD]
       split<;>omega
  ·obtain⟨_,_,_,h1 | h1⟩:=zcb rfl h0
   ·have:=zfn n;omega
   ·obtain⟨h2,h3,h4,h5⟩:=h1
    cases hk:n.kids with
    | nil=>rw [hk] at h2;simp at h2
    | cons m r =>
     have hm:m∈n.kids:=by rw [hk];simp
     have h6:=h5 m hm
     have h7:=zev hm
     have h8:=(zfa N (n:=m) (root:=false) (by omega)).2
     omega
def zos (N:Nat):Prop:=∀ (n:Nd) (root:Bool) (w:World) (S:Nat→Prop) (v:Value),wN n≤N→N≤1000000000→RdN S w v n →
  Calls Tryz.prog 51 #[v,.bool root] w fun e w'=>e=.returned (.int .i64 (zax n root))∧Below w.heap.size w w'
theorem zlb (N : Nat) (ih : zos N) : zos (N + 1) := by
  intro n root w S v hN hbig hr
  unfold zos at ih
  obtain ⟨l1,l2,l3⟩ := hr.lens
  obtain ⟨a1,c1,a2,c2,a3,c3,rfl,r1,r2,r3⟩ := hr
  have hfd := Lib.hid (zb5 n root)
  have hT := TriV.new w 26 (.slice a1 n.keys.length c1) (.slice a2 n.chains.length c2) (.slice a3 n.kids.length c3)
  have q : Below w.heap.size w (w.alloc (.cells #[.slice a1 n.keys.length c1,.slice a2 n.chains.length c2,.slice a3 n.kids.length c3] 26)) := (Below.refl _ _).alloc (Nat.le_refl _) _
  go_enter Tryz.func51,Tryz.ntmps51
  go_upto_region 1 with (fail)
  generalize hW : w.alloc (.cells #[.slice a1 n.keys.length c1,.slice a2 n.chains.length c2,.slice a3 n.kids.length c3] 26) = W at *
  clear hW
  have t0 := hT.cell0
  have t1 := hT.cell1
  have t2 := hT.cell2
  by_cases h1 : n.chains.length = n.keys.length
  ·by_cases h2 : 3 < n.keys.length
   ·have hv := Lib.hid (show zax n root = -1 from hfd.out.trans (if_pos (.inr (.inl h2))))
    have d1 := zpf h1
    clear h1
    go_wp2_with fail
    go_ret
    exact ⟨by rw [hv.out]; rfl,q⟩
   ·by_cases h3 : root = false ∧ n.keys.length < 1
    ·obtain ⟨rfl,h3⟩ := h3
     have hv := Lib.hid (show zax n false = -1 from hfd.out.trans (if_pos (.inr (.inr ⟨rfl,h3⟩))))
     have d1 := zpf h1
     clear h1
     go_wp2_with fail
     go_ret
     exact ⟨by rw [hv.out]; rfl,q⟩
    ·have hc : ¬ (n.chains.length ≠ n.keys.length ∨ 3 < n.keys.length ∨ (root = false ∧ n.keys.length < 1)) := fun h => by
      rcases h with h | h | h
      ·exact h h1
      ·exact h2 h
      ·exact h3 h
     have hfd2 := Lib.hid (hfd.out.trans (if_neg hc))
     clear hc
     have d1 := zpf h1
     have hroot : root = true ∨ ¬ n.keys.length < 1 := by
      cases root with
      | true => exact .inl rfl
      | false => exact .inr fun h => h3 ⟨rfl,h⟩
     have HR := Lib.hid hroot
     have hm0 := Lib.hid h1
     clear h1 hroot h3 hfd
     cases root with
     | true =>
      go_upto_region 3 with (fail)
      by_cases hz : n.kids.length = 0
      ·have hv := Lib.hid (hfd2.out.trans (if_pos hz))
       have d2 : (((n.kids.length : Nat) : Int) == 0) = true := by rw [beq_iff_eq]; omega
       clear hz
       go_wp2_with fail
       go_ret
       exact ⟨by rw [hv.out]; rfl,q⟩
      ·have hfd3 := Lib.hid (hfd2.out.trans (if_neg hz))
       have d2 : (((n.kids.length : Nat) : Int) == 0) = false := by rw [beq_eq_false_iff_ne]; omega
       by_cases h4 : n.kids.length = n.keys.length + 1
       ·by_cases h5 : n.keys.length < 1
        ·have hv := Lib.hid (hfd3.out.trans (if_pos (.inr h5)))
         have d3 := zq5 h4
         clear hz h4
         go_wp2_with fail
         go_ret
         exact ⟨by rw [hv.out]; rfl,q⟩
        ·have hfd4 := Lib.hid (hfd3.out.trans (if_neg (fun h => h.elim (fun h => h h4) h5)))
         have d3 := zq5 h4
         have HZ := Lib.hid hz
         have H4 := Lib.hid h4
         clear hz h4
         go_upto_region 7 with (fail)
         have hpos : 0 < n.kids.length := by have := HZ.out; omega
         have hwk := fun (m : Nd) (hm : m ∈ n.kids) => zev hm
         generalize hns : n.kids = ns at *
         have r3' := r3.below q
         have hk0 := r3'.kid 0 hpos
         obtain ⟨b,off,x1,y1,x2,y2,x3,y3,rfl,k0,k1,k2,hkr⟩ := hk0
         simp only [Nat.zero_mul,Nat.add_zero] at k0 k1 k2
         clear r3'
         go_wp2_with fail
         refine (ih ns[0] false W S _ (by have := hwk _ (List.getElem_mem hpos); omega) (by omega) hkr).mono ?_
         rintro e w1 ⟨rfl,hb⟩
         replace q := q.trans (hb.mono q.size)
         replace hT := hT.below hb hT.lt
         clear hb k0 k1 k2 hkr t0 t1 t2
         have hfr := zfa N (n := ns[0]) (root := false) (by have := hwk _ (List.getElem_mem hpos); omega)
         have hfw := hwk _ (List.getElem_mem hpos)
         have HF := Lib.hid (hfd4.out.trans (show allD (ns.map (zax · false)) = allD (zax ns[0] false :: (ns.drop 1).map (zax · false)) by
          congr 1
          cases ns with
          | nil => exact absurd hpos (Nat.lt_irrefl _)
          | cons m r => rfl))
         clear hfd2 hfd3 hfd4
         generalize hD : zax ns[0] false = D at *
         have hall0 : ∀ j (h : j < ns.length),j < 1 → zax ns[j] false = D := by
          intro j h hj
          obtain rfl : j = 0 := by omega
          exact hD
         go_upto_region 9 with (fail)
         go_loopw [6] (fun iv wr => ∃ i : Nat,iv = .int .i64 i ∧ 1 ≤ i ∧ i ≤ ns.length ∧ (∀ j (h : j < ns.length),j < i → zax ns[j] false = D) ∧ TriV wr w.heap.size 26 (.slice a1 n.keys.length c1) (.slice a2 n.chains.length c2) (.slice (some ⟨b,off,none⟩) ns.length c3) ∧ Below w.heap.size w wr) (fun i _ => ns.length - (intOf i).toNat)
         case atStart => exact ⟨1,rfl,Nat.le_refl _,hpos,hall0,hT,q⟩
         case round =>
          clear hT q hall0
          obtain ⟨i,rfl,hi1,hil,hall,hT,q⟩ := hrel
          have t0 := hT.cell0
          have t1 := hT.cell1
          have t2 := hT.cell2
          rcases Nat.lt_or_ge i ns.length with hlt | hge
          ·have hki := (r3.below q).kid i hlt
           obtain ⟨b',off',x1,y1,x2,y2,x3,y3,e',k0,k1,k2,hkr⟩ := hki
           injection e' with e'; injection e' with e1 e2; subst e1; subst e2
           go_wp2_with fail
           refine (ih ns[i] false wr S _ (by have := hwk _ (List.getElem_mem hlt); omega) (by omega) hkr).mono ?_
           rintro e w2 ⟨rfl,hb⟩
           replace q := q.trans (hb.mono q.size)
           replace hT := hT.below hb hT.lt
           clear hb k0 k1 k2 hkr t0 t1 t2
           by_cases hq : zax ns[i] false = D
           ·rw [hq]
            have hall' : ∀ j (h : j < ns.length),j < i + 1 → zax ns[j] false = D := fun j h hj => by
             rcases Nat.lt_or_ge j i with h6 | h6
             ·exact hall j h h6
             ·obtain rfl : j = i := by omega
              exact hq
            have HA := Lib.hid hall'
            have dq : (D != D) = false := by simp
            clear hall hall' hq hD
            go_wp2_with fail
            go_roundw
            case rel => exact ⟨i + 1,by go_num,by omega,by omega,HA.out,hT,q⟩
            case measure => simp [intOf]; omega
           ·have hv := Lib.hid (HF.out.trans (zr0 ⟨zax ns[i] false,List.mem_map.2 ⟨ns[i],by
             rw [show ns[i] = (ns.drop 1)[i - 1]'(by rw [List.length_drop]; omega) by rw [List.getElem_drop]; congr 1; omega]
             exact List.getElem_mem _,rfl⟩,hq⟩))
            have dq : (zax ns[i] false != D) = true := bne_iff_ne.2 hq
            clear hall hq hD
            go_wp2_with fail
            go_ret
            exact ⟨by rw [hv.out]; rfl,q⟩
          ·obtain rfl : i = ns.length := by omega
           have hA := Lib.hid hall
           clear hall
           by_cases hneg : D < 0
           ·have hv := Lib.hid (HF.out.trans (zor hneg))
            have dn : decide (D < 0) = true := decide_eq_true hneg
            clear hneg hD
            go_wp2_with fail
            go_ret
            exact ⟨by rw [hv.out]; rfl,q⟩
           ·have hv := Lib.hid (HF.out.trans (zkf (fun x hx => by
             obtain ⟨m,hm,rfl⟩ := List.mem_map.1 hx
             obtain ⟨j,hj,rfl⟩ := List.mem_iff_getElem.1 (List.mem_of_mem_drop hm)
             exact hA.out j hj hj) (by omega)))
            have dn : decide (D < 0) = false := decide_eq_false hneg
            clear hD
            go_wp2_with fail
            go_ret
            exact ⟨by rw [hv.out]; rfl,q⟩
       ·have hv := Lib.hid (hfd3.out.trans (if_pos (.inl h4)))
        have d3 := lenNe1 h4
        clear hz h4
        go_wp2_with fail
        go_ret
        exact ⟨by rw [hv.out]; rfl,q⟩
     | false =>
      have hk1 : ¬ n.keys.length < 1 := by
       rcases HR.out with h | h
       ·cases h
       ·exact h
      go_upto_region 3 with (fail)
      by_cases hz : n.kids.length = 0
      ·have hv := Lib.hid (hfd2.out.trans (if_pos hz))
       have d2 : (((n.kids.length : Nat) : Int) == 0) = true := by rw [beq_iff_eq]; omega
       clear hz
       go_wp2_with fail
       go_ret
       exact ⟨by rw [hv.out]; rfl,q⟩
      ·have hfd3 := Lib.hid (hfd2.out.trans (if_neg hz))
       have d2 : (((n.kids.length : Nat) : Int) == 0) = false := by rw [beq_eq_false_iff_ne]; omega
       by_cases h4 : n.kids.length = n.keys.length + 1
       ·by_cases h5 : n.keys.length < 1
        ·exact absurd h5 hk1
        ·have hfd4 := Lib.hid (hfd3.out.trans (if_neg (fun h => h.elim (fun h => h h4) h5)))
         have d3 := zq5 h4
         have HZ := Lib.hid hz
         have H4 := Lib.hid h4
         clear hz h4
         go_upto_region 7 with (fail)
         have hpos : 0 < n.kids.length := by have := HZ.out; omega
         have hwk := fun (m : Nd) (hm : m ∈ n.kids) => zev hm
         generalize hns : n.kids = ns at *
         have r3' := r3.below q
         have hk0 := r3'.kid 0 hpos
         obtain ⟨b,off,x1,y1,x2,y2,x3,y3,rfl,k0,k1,k2,hkr⟩ := hk0
         simp only [Nat.zero_mul,Nat.add_zero] at k0 k1 k2
         clear r3'
         go_wp2_with fail
         refine (ih ns[0] false W S _ (by have := hwk _ (List.getElem_mem hpos); omega) (by omega) hkr).mono ?_
         rintro e w1 ⟨rfl,hb⟩
         replace q := q.trans (hb.mono q.size)
         replace hT := hT.below hb hT.lt
         clear hb k0 k1 k2 hkr t0 t1 t2
         have hfr := zfa N (n := ns[0]) (root := false) (by have := hwk _ (List.getElem_mem hpos); omega)
         have hfw := hwk _ (List.getElem_mem hpos)
         have HF := Lib.hid (hfd4.out.trans (show allD (ns.map (zax · false)) = allD (zax ns[0] false :: (ns.drop 1).map (zax · false)) by
          congr 1
          cases ns with
          | nil => exact absurd hpos (Nat.lt_irrefl _)
          | cons m r => rfl))
         clear hfd2 hfd3 hfd4
         generalize hD : zax ns[0] false = D at *
         have hall0 : ∀ j (h : j < ns.length),j < 1 → zax ns[j] false = D := by
          intro j h hj
          obtain rfl : j = 0 := by omega
          exact hD
         go_upto_region 9 with (fail)
         go_loopw [6] (fun iv wr => ∃ i : Nat,iv = .int .i64 i ∧ 1 ≤ i ∧ i ≤ ns.length ∧ (∀ j (h : j < ns.length),j < i → zax ns[j] false = D) ∧ TriV wr w.heap.size 26 (.slice a1 n.keys.length c1) (.slice a2 n.chains.length c2) (.slice (some ⟨b,off,none⟩) ns.length c3) ∧ Below w.heap.size w wr) (fun i _ => ns.length - (intOf i).toNat)
         case atStart => exact ⟨1,rfl,Nat.le_refl _,hpos,hall0,hT,q⟩
         case round =>
          clear hT q hall0
          obtain ⟨i,rfl,hi1,hil,hall,hT,q⟩ := hrel
          have t0 := hT.cell0
          have t1 := hT.cell1
          have t2 := hT.cell2
          rcases Nat.lt_or_ge i ns.length with hlt | hge
          ·have hki := (r3.below q).kid i hlt
           obtain ⟨b',off',x1,y1,x2,y2,x3,y3,e',k0,k1,k2,hkr⟩ := hki
           injection e' with e'; injection e' with e1 e2; subst e1; subst e2
           go_wp2_with fail
           refine (ih ns[i] false wr S _ (by have := hwk _ (List.getElem_mem hlt); omega) (by omega) hkr).mono ?_
           rintro e w2 ⟨rfl,hb⟩
           replace q := q.trans (hb.mono q.size)
           replace hT := hT.below hb hT.lt
           clear hb k0 k1 k2 hkr t0 t1 t2
           by_cases hq : zax ns[i] false = D
           ·rw [hq]
            have hall' : ∀ j (h : j < ns.length),j < i + 1 → zax ns[j] false = D := fun j h hj => by
             rcases Nat.lt_or_ge j i with h6 | h6
             ·exact hall j h h6
             ·obtain rfl : j = i := by omega
              exact hq
            have HA := Lib.hid hall'
            have dq : (D != D) = false := by simp
            clear hall hall' hq hD
            go_wp2_with fail
            go_roundw
            case rel => exact ⟨i + 1,by go_num,by omega,by omega,HA.out,hT,q⟩
            case measure => simp [intOf]; omega
           ·have hv := Lib.hid (HF.out.trans (zr0 ⟨zax ns[i] false,List.mem_map.2 ⟨ns[i],by
             rw [show ns[i] = (ns.drop 1)[i - 1]'(by rw [List.length_drop]; omega) by rw [List.getElem_drop]; congr 1; omega]
             exact List.getElem_mem _,rfl⟩,hq⟩))
            have dq : (zax ns[i] false != D) = true := bne_iff_ne.2 hq
            clear hall hq hD
            go_wp2_with fail
            go_ret
            exact ⟨by rw [hv.out]; rfl,q⟩
          ·obtain rfl : i = ns.length := by omega
           have hA := Lib.hid hall
           clear hall
           by_cases hneg : D < 0
           ·have hv := Lib.hid (HF.out.trans (zor hneg))
            have dn : decide (D < 0) = true := decide_eq_true hneg
            clear hneg hD
            go_wp2_with fail
            go_ret
            exact ⟨by rw [hv.out]; rfl,q⟩
           ·have hv := Lib.hid (HF.out.trans (zkf (fun x hx => by
             obtain ⟨m,hm,rfl⟩ := List.mem_map.1 hx
             obtain ⟨j,hj,rfl⟩ := List.mem_iff_getElem.1 (List.mem_of_mem_drop hm)
             exact hA.out j hj hj) (by omega)))
            have dn : decide (D < 0) = false := decide_eq_false hneg
            clear hD
            go_wp2_with fail
            go_ret
            exact ⟨by rw [hv.out]; rfl,q⟩
       ·have hv := Lib.hid (hfd3.out.trans (if_pos (.inl h4)))
        have d3 := lenNe1 h4
        clear hz h4
        go_wp2_with fail
        go_ret
        exact ⟨by rw [hv.out]; rfl,q⟩
  ·have hv := Lib.hid (show zax n root = -1 from hfd.out.trans (if_pos (.inl h1)))
   have d1 := lenNe h1
   clear h1
   go_wp2_with fail
   go_ret
   exact ⟨by rw [hv.out]; rfl,q⟩
theorem zmt(N:Nat):zos N:=by
 induction N with
 | zero =>
  intro n root w S v h
  have:=zfn n
  omega
 | succ N ih=>exact zlb N ih
end Go.Proofs.YtlpfhgdnmjkngaaGreat
