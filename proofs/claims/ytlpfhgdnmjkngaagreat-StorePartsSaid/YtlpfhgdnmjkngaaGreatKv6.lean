/-
  TEXTS OF ONE PROOF, merged: SlC, Nod, TraA, TraB, TrbG, TraC, Cmp, TraD.
-/
import Derived.Lib.Bytealg
import Derived.Lib.BytesEntry
import Derived.Test.YtlpfhgdnmjkngaaGreatKv5
namespace Go.Proofs.YtlpfhgdnmjkngaaGreat
open Go.RowKit
set_option maxRecDepth 100000
set_option maxHeartbeats 32000000
def SrcC (sz:Nat) (w:World) (ad:Option Addr) (m:Nat) (cs:List Value):Prop :=
 cs.length=m*sz∧(ad=none→m=0)∧(∀ p,ad=some p→∀ j u,cs[j]?=some u→w.cell? (p.add j)=some u)∧∀ u∈cs,u.oneCell'=true
section
variable {Te : TypeId} {sz n m : Nat} {w w' : World} {ad : Option Addr} {cs vs : List Value} {v : Value}
theorem SrcC.below (h:SrcC sz w ad m cs) (hb:Below w.heap.size w w'):SrcC sz w' ad m cs :=
 ⟨h.1,h.2.1,fun p hp j u hj=>by
  have h1:=h.2.2.1 p hp j u hj
  have h2:(p.add j).block<w.heap.size:=World.block_lt_of_cell? w _ h1
  exact (World.cell?_of_block (w:=w) (hb.block _ h2)).trans h1,h.2.2.2⟩
theorem RowQ.part (h:RowQ Te sz w v n vs) {l r:Nat} (hl:l≤r) (hr:r≤n):∃ ad c,v=.slice ad n c∧n≤c∧SrcC sz w (if c=l then ad else ad.map (·.add (l*sz))) (r - l) ((vs.take (r*sz)).drop (l*sz)):=by
 have hlen:((vs.take (r*sz)).drop (l*sz)).length=(r - l)*sz:=by
  rw [List.length_drop,List.length_take,h.len,Nat.min_eq_left (Nat.mul_le_mul_right _ hr),Nat.sub_mul]
 have h1:∀ u∈(vs.take (r*sz)).drop (l*sz),u.oneCell'=true:=fun u hu=>h.2 u (List.mem_of_mem_take (List.mem_of_mem_drop hu))
 rcases h.cases with⟨rfl,rfl,rfl⟩|⟨g,cap,cur,rfl,hg,hnc,hcm,hcs,hct⟩
 ·obtain rfl:r=0:=by omega
  obtain rfl:l=0:=by omega
  exact⟨none,0,rfl,Nat.le_refl _,hlen,fun _=>rfl,fun p hp=>by simp at hp,h1⟩
 ·refine⟨_,cap,rfl,hnc,hlen,fun hn=>by split at hn<;>simp at hn,fun p hp j u hj=>?_,h1⟩
  rw [List.getElem?_drop,List.getElem?_take] at hj
  split at hj
  ·rename_i hlt
   have hne:¬ cap=l:=fun e=>by
    have:r*sz≤l*sz:=Nat.mul_le_mul_right _ (by omega)
    omega
   rw [if_neg hne] at hp
   simp only [Option.map_some,Addr.add_lit] at hp
   injection hp with hp
   subst hp
   rw [Addr.add_lit,Nat.zero_add]
   exact h.cell rfl hj
  ·cases hj
theorem RowQ.src(h:RowQ Te sz w v n vs):∃ ad c,v=.slice ad n c∧n≤c∧SrcC sz w ad n vs:=by
 rcases h.cases with⟨rfl,rfl,rfl⟩|⟨g,cap,cur,rfl,hg,hnc,hcm,hcs,hct⟩
 ·exact⟨none,0,rfl,Nat.le_refl _,by simp,fun _=>rfl,fun p hp=>by simp at hp,fun _ h=>by cases h⟩
 ·refine⟨_,cap,rfl,hnc,h.len,(fun hn=>by cases hn),fun p hp j u hj=>?_,h.2⟩
  injection hp with hp
  subst hp
  rw [Addr.add_lit,Nat.zero_add]
  exact h.cell rfl hj
end
def zaz(Te:TypeId)(sz:Nat)(w:World)(v:Value)(n:Nat)(vs:List Value)(W:World):Prop:=RowQ Te sz W v n vs∧(∀ k,v.ownBlock=some k→w.heap.size≤k)∧Below w.heap.size w W
def zcs(Te:TypeId)(sz:Nat)(w:World)(n:Nat)(vs:List Value)(e:Ending)(W:World):Prop:=∃ v,e=.returned v∧zaz Te sz w v n vs W
section
variable {Te : TypeId} {sz n n' : Nat} {w W W' : World} {v v' : Value} {vs vs' : List Value}
theorem zaz.nil (Te:TypeId) (sz:Nat) {w W:World} (hb:Below w.heap.size w W):zaz Te sz w (.slice none 0 0) 0 [] W:=⟨RowQ.nil _ _ _,(fun k h=>by cases h),hb⟩
theorem zaz.to (h:zaz Te sz w v n vs W) (h2:zcc Te sz W v n' vs' v' W'):zaz Te sz w v' n' vs' W' :=
 ⟨h2.1,fun k hk=>by
  rcases h2.2.2 with h3 |⟨q,h3,h4⟩
  ·exact h.2.1 k (h3▸hk)
  ·rw [h3] at hk;injection hk with hk;subst hk;exact Nat.le_trans h.2.2.size h4,h.2.2.grown h2.2.1 h.2.2.size h.2.1⟩
theorem zaz.below (h:zaz Te sz w v n vs W) (hb:Below W.heap.size W W'):zaz Te sz w v n vs W':=⟨h.1.below hb,h.2.1,h.2.2.trans (hb.mono h.2.2.size)⟩
end
section
variable {P : Program} {T Te : TypeId} {n : Nat} {ops : Array Oper} {rest : List Oper} {o : Oper} {a : Act} {Q : Exit → Act → World → Prop} {w : World} {K : Act → World → Prop}
theorem zdk (hP : LsP P T Te n) (ho : o.op = .buildSlice T 0 #[]) (hgd : Region.wanted o (yielded ops a.tmps) = true)
  (h : ∀ w',RowQ Te n w' (.slice (some ⟨w.heap.size,0,none⟩) 0 0) 0 [] → Below w.heap.size w w' → wpList P ops Q rest (a.put o.dst (.slice (some ⟨w.heap.size,0,none⟩) 0 0)) w') : wpList P ops Q (o :: rest) a w := by
 refine BigFrame.wpList_want hgd fun K hK => ?_
 obtain ⟨i,hi,hsz⟩ := hP.info
 have hrun : (Instr.buildSlice T 0 #[]).run P w = .ok (.slice (some ⟨w.heap.size,0,none⟩) 0 0) (w.alloc (.cells #[] Te)) := by
  simp [Instr.buildSlice,run_underlying hP.hT,sizeOf,typeInfo,hi,Instr.fill,newRow,show Array.range 0 = #[] from rfl]
 unfold Oper.wp execOp
 simp only [ho,Sem.run_bind,Sem.run_pure,Result.andThen_ok,hrun,List.map_toArray,List.map_nil]
 refine hK _ _ (h _ (RowQ.of (cur := #[]) (by simp only [World.alloc,Array.getElem?_push_size]) (Nat.le_refl _) (by unfold maxLen; omega) (by simp) (by simp) (fun _ h => by cases h)) ((Below.refl _ _).alloc (Nat.le_refl _) _))
theorem run_appS (hP:LoP P T Te n) (h0:0<n) (w:World) (ty:TypeId) {v:Value} {k:Nat} {vs:List Value} (hv:RowQ Te n w v k vs) {ad:Option Addr} {m c:Nat} {cs:List Value} (hs:SrcC n w ad m cs) (hlen:k+m≤1073741824) :
  ∃ v' w',(Builtin.append_ #[T,T] ty #[v,.slice ad m c]).run P w=.ok v' w'∧zcc Te n w v (k+m) (vs++cs) v' w':=by
 cases ad with
 | some p=>exact znv hP h0 w ty hv hs.1 (hs.2.2.1 p rfl) hs.2.2.2 hlen
 | none =>
  obtain rfl:=hs.2.1 rfl
  obtain rfl:cs=[]:=List.eq_nil_of_length_eq_zero (by rw [hs.1,Nat.zero_mul])
  obtain⟨i,z,hi,_⟩:=hP.all
  obtain⟨a,c',rfl,h1,_⟩:=hv.shape
  refine⟨_,w,run_append_nothing w T T ty Te i hP.hT hi a k c' h1 _ (Src.ofNil w hP.hT c),?_⟩
  rw [List.append_nil,Nat.add_zero]
  exact⟨hv,⟨rfl,rfl,rfl,Nat.le_refl _,fun _ _ _=>rfl⟩,.inl rfl⟩
theorem wp_appS (hP:LoP P T Te n) (h0:0<n) {s x:Operand} (ho:o.op=.call { callee:=.builtin .append,args:=#[s,x],argTypes:=#[T,T] }) {v:Value} {k:Nat} {vs:List Value} (hs:a.eval s=v) (hv:RowQ Te n w v k vs) {ad:Option Addr} {m c:Nat} {cs:List Value} (hx:a.eval x=.slice ad m c)
  (hsr:SrcC n w ad m cs) (hlen:k+m≤1073741824)
  (h:∀ ad cap w',zcc Te n w v (k+m) (vs++cs) (.slice ad (k+m) cap) w'→K (a.put o.dst (.slice ad (k+m) cap)) w'):o.wp P a w K Q:=by
 obtain⟨v',w',hrun,h2⟩:=run_appS hP h0 w o.type hv hsr hlen (c:=c)
 obtain⟨ad,cap,rfl,_⟩:=h2.1.shape
 unfold Oper.wp execOp
 simp only [ho,resolve,invoke,builtin,Sem.run_bind,Sem.run_pure,Result.andThen_ok,List.map_toArray,List.map_cons,List.map_nil,hs,hx,hrun]
 exact h _ _ _ h2
theorem zcv (hP:LoP P T Te n) (h0:0<n) {s x:Operand} (ho:o.op=.call { callee:=.builtin .append,args:=#[s,x],argTypes:=#[T,T] }) (hgd:Region.wanted o (yielded ops a.tmps)=true) {v:Value} {k:Nat} {vs:List Value} (hs:a.eval s=v) (hv:RowQ Te n w v k vs) {ad:Option Addr} {m c:Nat} {cs:List Value} (hx:a.eval x=.slice ad m c)
  (hsr:SrcC n w ad m cs) (hlen:k+m≤1073741824)
  (h:∀ ad cap w',zcc Te n w v (k+m) (vs++cs) (.slice ad (k+m) cap) w'→wpList P ops Q rest (a.put o.dst (.slice ad (k+m) cap)) w'):wpList P ops Q (o::rest) a w :=
 BigFrame.wpList_want hgd fun _ hK=>wp_appS hP h0 ho hs hv hx hsr hlen fun ad cap w' h2=>hK _ _ (h ad cap w' h2)
theorem zc3 (hP:LsP P T Te n) {x:Operand} {lo hi:Option Operand} (ho:o.op=.slice T x lo hi none) (hgd:Region.wanted o (yielded ops a.tmps)=true) {v:Value} {k:Nat} {vs:List Value} (hv:RowQ Te n w v k vs) (hx:a.eval x=v)
  {l r:Nat} (hl:l≤r) (hr:r≤k) (hb:∀ c,k≤c→(Instr.sliceBounds true k c (lo.map a.eval) (hi.map a.eval) none).run P w=.ok (l,r,c) w)
  (h:∀ ad' c',SrcC n w ad' (r - l) ((vs.take (r*n)).drop (l*n))→wpList P ops Q rest (a.put o.dst (.slice ad' (r - l) c')) w):wpList P ops Q (o::rest) a w:=by
 obtain⟨ad,c,rfl,hnc,hs⟩:=hv.part hl hr
 exact zdh hP ho hgd hx (hb c hnc) (h _ _ hs)
theorem zdi (hP:LsP P T Te n) {x:Operand} {hi:Option Operand} (ho:o.op=.slice T x none hi none) (hgd:Region.wanted o (yielded ops a.tmps)=true) (hx:a.eval x=.slice none 0 0)
  (hb:(Instr.sliceBounds true 0 0 none (hi.map a.eval) none).run P w=.ok (0,0,0) w)
  (h:wpList P ops Q rest (a.put o.dst (.slice none 0 0)) w):wpList P ops Q (o::rest) a w :=
 zdh hP ho hgd hx hb (by simpa using h)
end
structure Pc where
 ad:Option Addr
 m:Nat
 c:Nat
 cs:List Value
def Pc.v(p:Pc):Value:=.slice p.ad p.m p.c
def sumC (ps:List Pc):Nat:=(ps.map (·.m)).sum
def allC (ps:List Pc):List Value:=(ps.map (·.cs)).flatten
theorem zd4 {ps:List Pc} {k:Nat} (h:k<ps.length):sumC (ps.take (k+1))=sumC (ps.take k)+ps[k].m:=by
 unfold sumC
 rw [List.take_add_one,List.getElem?_eq_getElem h,Option.toList_some,List.map_append,List.sum_append]
 simp only [List.map_cons,List.map_nil,List.sum_cons,List.sum_nil,Nat.add_zero]
theorem zid {ps:List Pc} {k:Nat} (h:k<ps.length):allC (ps.take (k+1))=allC (ps.take k)++ps[k].cs:=by
 unfold allC
 rw [List.take_add_one,List.getElem?_eq_getElem h,Option.toList_some,List.map_append,List.flatten_append]
 simp only [List.map_cons,List.map_nil,List.flatten_cons,List.flatten_nil,List.append_nil]
theorem zga {ps:List Pc}:∀ (k:Nat),sumC (ps.take k)≤sumC ps:=fun k=>by
 have:sumC ps=sumC (ps.take k)+sumC (ps.drop k):=by
  unfold sumC
  rw [← List.sum_append,← List.map_append,List.take_append_drop]
 omega
theorem clone_k (w : World) {ad : Option Addr} {m c : Nat} {cs : List Value} (hs : SrcC 1 w ad m cs) (hm : m ≤ 1000000) :
  Calls Tryz.prog 125 #[.slice ad m c] w (zcs 30 1 w m cs) := by
 have he := fun (w : World) (ad : Option Addr) (n c : Nat) => Lib.run_eql_slice_nil (P := Tryz.prog) w 22 30 ad n c 0 0 kysP.hT
 cases ad with
 | none =>
  obtain rfl := hs.2.1 rfl
  obtain rfl : cs = [] := List.eq_nil_of_length_eq_zero (by rw [hs.1,Nat.zero_mul])
  go_enter Tryz.func125,Tryz.ntmps125
  go_wp2
  go_ret
  exact ⟨_,rfl,zaz.nil _ _ (Below.refl _ _)⟩
 | some p =>
  go_enter Tryz.func125,Tryz.ntmps125
  go_wp2_with (go_big_may; first
   | (refine zdk kysP.toLsP rfl rfl ?_; intro w1 hr1 hb1)
   | (refine zcv kysP (by omega) rfl rfl (v := .slice (some ⟨w.heap.size,0,none⟩) 0 0) rfl hr1 rfl (hs.below hb1) (by omega) ?_; intro ad' cap' w2 hR)
   | fail)
  go_ret
  rw [List.nil_append,Nat.zero_add] at hR
  refine ⟨_,rfl,zaz.to (v := .slice (some ⟨w.heap.size,0,none⟩) 0 0) ⟨hr1,fun k hk => ?_,hb1⟩ ?_⟩
  ·simp [Value.ownBlock] at hk; omega
  ·simpa using hR
theorem cut_k (w:World) {v:Value} {n i j:Nat} {jz:Int} {vs:List Value} (hv:RowQ 30 1 w v n vs) (hj:jz=(j:Int)) (hij:i≤j) (hn:n≤1000000) :
  Calls Tryz.prog 114 #[v,.int .i64 i,.int .i64 jz] w (zcs 30 1 w (min j n - min i n) ((vs.take (min j n*1)).drop (min i n*1))):=by
 subst hj
 obtain⟨x,hx⟩:∃ x,x=min i n:=⟨_,rfl⟩
 obtain⟨y,hy⟩:∃ y,y=min j n:=⟨_,rfl⟩
 have hxy:x≤y:=by omega
 have hyn:y≤n:=by omega
 have hxi:(x:Int)=min (i:Int) (n:Int):=by omega
 have hyi:(y:Int)=min (j:Int) (n:Int):=by omega
 rw [← hx,← hy]
 obtain⟨ad,c,rfl,hnc,_⟩:=hv.shape
 have Hx:=Lib.hid hxi
 have Hy:=Lib.hid hyi
 clear hx hy hxi hyi
 go_enter Tryz.func114,Tryz.ntmps114
 go_wp2_with (go_big_may;first
  | (refine zdd rfl rfl rfl rfl ?_ Hx.out)
  | (refine zdd rfl rfl rfl rfl ?_ Hy.out)
  | (refine zc3 kysP.toLsP rfl rfl hv rfl hxy hyn (fun c hc=>za5 _ hxy (by omega)) ?_;intro ad' c' hs)
  | fail)
 refine (clone_k w hs (by omega)).mono ?_
 rintro e w1⟨v,rfl,h⟩
 obtain⟨_,_,rfl,_⟩:=h.1.shape
 go_wp2_with fail
 go_ret
 exact⟨_,rfl,h⟩
theorem grow_k (w:World) {n:Nat} (hn:n≤1000000) :
  Calls Tryz.prog 130 #[.slice none 0 0,.int .i64 n] w (zcs 30 1 w 0 []):=by
 have d:decide ((n:Int)<0)=false:=decide_eq_false (by omega)
 rcases Nat.eq_zero_or_pos n with h0 | h0
 ·subst h0
  go_enter Tryz.func130,Tryz.ntmps130
  go_wp2
  go_ret
  exact⟨_,rfl,zaz.nil _ _ (Below.refl _ _)⟩
 ·have d2:decide (0<(n:Int))=true:=decide_eq_true (by omega)
  go_enter Tryz.func130,Tryz.ntmps130
  go_wp2_with (go_big_may;first
   | (refine zdi kysP.toLsP rfl rfl rfl (zat _ (Nat.le_refl _)) ?_)
   | (refine zcu kysP (by omega) (by kernel_rfl) rfl rfl rfl (k:=0) (m:=n) rfl (by omega) (cs:=[]) (by simp) (fun q hq=>by cases hq) (fun _=>rfl) (by omega) (by omega) (by omega) ?_;intro G cr hG1 hG2 hG3 hG4)
   | (refine za2 kysP.toLsP rfl rfl rfl (r:=0) (zat _ (by omega)) ?_)
   | fail)
  go_ret
  have hg1:((w.alloc (.cells cr 30)).drew).heap[w.heap.size]?=some (.cells cr 30 (0,0)):=by simp only [World.alloc,World.drew,Array.getElem?_push_size]
  exact⟨_,rfl,RowQ.of hg1 (Nat.zero_le _) hG2 hG3 (by simp) (fun _ h=>by cases h),fun k hk=>by simp [Value.ownBlock] at hk;omega,((Below.refl _ _).alloc (Nat.le_refl _) _).drew⟩
theorem concat_k (w : World) {B m : Nat} {ps : List Pc} (hB : ∀ k (h : k < ps.length),w.cell? ⟨B,k,none⟩ = some ps[k].v) (hm : ps.length = m) (hm3 : m ≤ 1000) (hs : ∀ p ∈ ps,SrcC 1 w p.ad p.m p.cs) (hsum : sumC ps ≤ 1000000) :
  Calls Tryz.prog 119 #[.slice (some ⟨B,0,none⟩) m m] w (zcs 30 1 w (sumC ps) (allC ps)) := by
 have hBlt : ∀ k,k < ps.length → B < w.heap.size := fun k h => zaj (hB k h)
 go_enter Tryz.func119,Tryz.ntmps119
 go_upto_region 3 with (fail)
 go_loopw [3,11] (fun sv iv wr => ∃ k : Nat,k ≤ m ∧ iv = .int .i64 k ∧ sv = .int .i64 (sumC (ps.take k) : Nat) ∧ Below w.heap.size w wr) (fun _ i _ => m - (intOf i).toNat)
 case atStart => exact ⟨0,Nat.zero_le _,rfl,rfl,Below.refl _ _⟩
 case round =>
  obtain ⟨k,hk,rfl,rfl,q⟩ := hrel
  rcases Nat.lt_or_ge k m with hlt | hge
  ·have hkl : k < ps.length := by omega
   have hc := (zac (q.block B (hBlt k hkl)) k).trans (hB k hkl)
   unfold Pc.v at hc
   have e1 := zd4 hkl
   have e2 := zga (ps := ps) (k + 1)
   obtain ⟨A,hA⟩ : ∃ A,A = ps[k].m := ⟨_,rfl⟩
   rw [← hA] at e1 hc
   obtain ⟨Z,hZ⟩ : ∃ Z,Z = sumC (ps.take k) := ⟨_,rfl⟩
   rw [← hZ] at e1 ⊢
   have d : decide ((Z : Int) + (A : Int) < 0) = false := decide_eq_false (by omega)
   have hZA : Z + A ≤ 1000000 := by omega
   have H1 := Lib.hid e1
   clear hA hZ e1 e2
   go_wp2_with fail
   go_roundw
   case rel => exact ⟨k + 1,by omega,by go_num,by rw [H1.out]; go_num,q⟩
   case measure => simp [intOf]; omega
  ·obtain rfl : k = m := by omega
   have e0 : ps.take k = ps := List.take_of_length_le (by omega)
   rw [e0]
   clear hge hk
   go_upto_region 9 with (fail)
   go_wp2_with fail
   refine (grow_k wr hsum).mono ?_
   rintro e w1 ⟨v0,rfl,hr0⟩
   have hr1 : zaz 30 1 w v0 (sumC (ps.take 0)) (allC (ps.take 0)) w1 := ⟨hr0.1,fun k hk => Nat.le_trans q.size (hr0.2.1 k hk),q.trans (hr0.2.2.mono q.size)⟩
   clear hr0 q e0
   go_upto_region 11 with (fail)
   go_loopw [6,27] (fun vv iv wr => ∃ j : Nat,j ≤ k ∧ iv = .int .i64 j ∧ zaz 30 1 w vv (sumC (ps.take j)) (allC (ps.take j)) wr) (fun _ i _ => k - (intOf i).toNat)
   case atStart => exact ⟨0,Nat.zero_le _,rfl,hr1⟩
   case round =>
    clear hr1
    obtain ⟨j,hj,rfl,hr⟩ := hrel
    rename_i wr2 _ _
    rcases Nat.lt_or_ge j k with hlt | hge
    ·have hkl : j < ps.length := by omega
     obtain ⟨_,c2,rfl,hn2,_⟩ := hr.1.shape
     have hc := (zac (hr.2.2.block B (hBlt j hkl)) j).trans (hB j hkl)
     unfold Pc.v at hc
     have e1 := zd4 hkl
     have e2 := zid hkl
     have e3 := zga (ps := ps) (j + 1)
     have hsr := (hs ps[j] (List.getElem_mem hkl)).below hr.2.2
     obtain ⟨Y,hY⟩ : ∃ Y,Y = allC (ps.take j) := ⟨_,rfl⟩
     obtain ⟨Z,hZ⟩ : ∃ Z,Z = sumC (ps.take j) := ⟨_,rfl⟩
     rw [← hZ] at hr hn2 e1 ⊢
     rw [← hY] at hr e2
     have hZA : Z + ps[j].m ≤ 1000000 := by omega
     generalize ps[j] = p at hc e1 e2 hsr hZA
     have H1 := Lib.hid e1
     have H2 := Lib.hid e2
     clear e1 e2 e3 hZ hY
     go_wp2_with (go_big_may; first
      | (refine zcv kysP (by omega) rfl rfl (v := .slice _ Z c2) rfl hr.1 rfl hsr (by omega) ?_; intro ad' cap' w2 hR)
      | fail)
     go_roundw
     case rel => exact ⟨j + 1,by omega,by go_num,by rw [H1.out,H2.out]; exact hr.to hR⟩
     case measure => simp [intOf]; omega
    ·obtain rfl : j = k := by omega
     rw [List.take_of_length_le (by omega)] at hr
     obtain ⟨_,c2,rfl,hn2,_⟩ := hr.1.shape
     go_wp2_with fail
     go_ret
     exact ⟨_,rfl,hr⟩
theorem clone_c (w : World) {ad : Option Addr} {m c : Nat} {cs : List Value} (hs : SrcC 1 w ad m cs) (hm : m ≤ 1000000) :
  Calls Tryz.prog 126 #[.slice ad m c] w (zcs 70 1 w m cs) := by
 have he := fun (w : World) (ad : Option Addr) (n c : Nat) => Lib.run_eql_slice_nil (P := Tryz.prog) w 23 70 ad n c 0 0 chsP.hT
 cases ad with
 | none =>
  obtain rfl := hs.2.1 rfl
  obtain rfl : cs = [] := List.eq_nil_of_length_eq_zero (by rw [hs.1,Nat.zero_mul])
  go_enter Tryz.func126,Tryz.ntmps126
  go_wp2
  go_ret
  exact ⟨_,rfl,zaz.nil _ _ (Below.refl _ _)⟩
 | some p =>
  go_enter Tryz.func126,Tryz.ntmps126
  go_wp2_with (go_big_may; first
   | (refine zdk chsP.toLsP rfl rfl ?_; intro w1 hr1 hb1)
   | (refine zcv chsP (by omega) rfl rfl (v := .slice (some ⟨w.heap.size,0,none⟩) 0 0) rfl hr1 rfl (hs.below hb1) (by omega) ?_; intro ad' cap' w2 hR)
   | fail)
  go_ret
  rw [List.nil_append,Nat.zero_add] at hR
  refine ⟨_,rfl,zaz.to (v := .slice (some ⟨w.heap.size,0,none⟩) 0 0) ⟨hr1,fun k hk => ?_,hb1⟩ ?_⟩
  ·simp [Value.ownBlock] at hk; omega
  ·simpa using hR
theorem cut_c (w:World) {v:Value} {n i j:Nat} {jz:Int} {vs:List Value} (hv:RowQ 70 1 w v n vs) (hj:jz=(j:Int)) (hij:i≤j) (hn:n≤1000000) :
  Calls Tryz.prog 115 #[v,.int .i64 i,.int .i64 jz] w (zcs 70 1 w (min j n - min i n) ((vs.take (min j n*1)).drop (min i n*1))):=by
 subst hj
 obtain⟨x,hx⟩:∃ x,x=min i n:=⟨_,rfl⟩
 obtain⟨y,hy⟩:∃ y,y=min j n:=⟨_,rfl⟩
 have hxy:x≤y:=by omega
 have hyn:y≤n:=by omega
 have hxi:(x:Int)=min (i:Int) (n:Int):=by omega
 have hyi:(y:Int)=min (j:Int) (n:Int):=by omega
 rw [← hx,← hy]
 obtain⟨ad,c,rfl,hnc,_⟩:=hv.shape
 have Hx:=Lib.hid hxi
 have Hy:=Lib.hid hyi
 clear hx hy hxi hyi
 go_enter Tryz.func115,Tryz.ntmps115
 go_wp2_with (go_big_may;first
  | (refine zdd rfl rfl rfl rfl ?_ Hx.out)
  | (refine zdd rfl rfl rfl rfl ?_ Hy.out)
  | (refine zc3 chsP.toLsP rfl rfl hv rfl hxy hyn (fun c hc=>za5 _ hxy (by omega)) ?_;intro ad' c' hs)
  | fail)
 refine (clone_c w hs (by omega)).mono ?_
 rintro e w1⟨v,rfl,h⟩
 obtain⟨_,_,rfl,_⟩:=h.1.shape
 go_wp2_with fail
 go_ret
 exact⟨_,rfl,h⟩
theorem grow_c (w:World) {n:Nat} (hn:n≤1000000) :
  Calls Tryz.prog 131 #[.slice none 0 0,.int .i64 n] w (zcs 70 1 w 0 []):=by
 have d:decide ((n:Int)<0)=false:=decide_eq_false (by omega)
 rcases Nat.eq_zero_or_pos n with h0 | h0
 ·subst h0
  go_enter Tryz.func131,Tryz.ntmps131
  go_wp2
  go_ret
  exact⟨_,rfl,zaz.nil _ _ (Below.refl _ _)⟩
 ·have d2:decide (0<(n:Int))=true:=decide_eq_true (by omega)
  go_enter Tryz.func131,Tryz.ntmps131
  go_wp2_with (go_big_may;first
   | (refine zdi chsP.toLsP rfl rfl rfl (zat _ (Nat.le_refl _)) ?_)
   | (refine zcu chsP (by omega) (by kernel_rfl) rfl rfl rfl (k:=0) (m:=n) rfl (by omega) (cs:=[]) (by simp) (fun q hq=>by cases hq) (fun _=>rfl) (by omega) (by omega) (by omega) ?_;intro G cr hG1 hG2 hG3 hG4)
   | (refine za2 chsP.toLsP rfl rfl rfl (r:=0) (zat _ (by omega)) ?_)
   | fail)
  go_ret
  have hg1:((w.alloc (.cells cr 70)).drew).heap[w.heap.size]?=some (.cells cr 70 (0,0)):=by simp only [World.alloc,World.drew,Array.getElem?_push_size]
  exact⟨_,rfl,RowQ.of hg1 (Nat.zero_le _) hG2 hG3 (by simp) (fun _ h=>by cases h),fun k hk=>by simp [Value.ownBlock] at hk;omega,((Below.refl _ _).alloc (Nat.le_refl _) _).drew⟩
theorem concat_c (w : World) {B m : Nat} {ps : List Pc} (hB : ∀ k (h : k < ps.length),w.cell? ⟨B,k,none⟩ = some ps[k].v) (hm : ps.length = m) (hm3 : m ≤ 1000) (hs : ∀ p ∈ ps,SrcC 1 w p.ad p.m p.cs) (hsum : sumC ps ≤ 1000000) :
  Calls Tryz.prog 120 #[.slice (some ⟨B,0,none⟩) m m] w (zcs 70 1 w (sumC ps) (allC ps)) := by
 have hBlt : ∀ k,k < ps.length → B < w.heap.size := fun k h => zaj (hB k h)
 go_enter Tryz.func120,Tryz.ntmps120
 go_upto_region 3 with (fail)
 go_loopw [3,11] (fun sv iv wr => ∃ k : Nat,k ≤ m ∧ iv = .int .i64 k ∧ sv = .int .i64 (sumC (ps.take k) : Nat) ∧ Below w.heap.size w wr) (fun _ i _ => m - (intOf i).toNat)
 case atStart => exact ⟨0,Nat.zero_le _,rfl,rfl,Below.refl _ _⟩
 case round =>
  obtain ⟨k,hk,rfl,rfl,q⟩ := hrel
  rcases Nat.lt_or_ge k m with hlt | hge
  ·have hkl : k < ps.length := by omega
   have hc := (zac (q.block B (hBlt k hkl)) k).trans (hB k hkl)
   unfold Pc.v at hc
   have e1 := zd4 hkl
   have e2 := zga (ps := ps) (k + 1)
   obtain ⟨A,hA⟩ : ∃ A,A = ps[k].m := ⟨_,rfl⟩
   rw [← hA] at e1 hc
   obtain ⟨Z,hZ⟩ : ∃ Z,Z = sumC (ps.take k) := ⟨_,rfl⟩
   rw [← hZ] at e1 ⊢
   have d : decide ((Z : Int) + (A : Int) < 0) = false := decide_eq_false (by omega)
   have hZA : Z + A ≤ 1000000 := by omega
   have H1 := Lib.hid e1
   clear hA hZ e1 e2
   go_wp2_with fail
   go_roundw
   case rel => exact ⟨k + 1,by omega,by go_num,by rw [H1.out]; go_num,q⟩
   case measure => simp [intOf]; omega
  ·obtain rfl : k = m := by omega
   have e0 : ps.take k = ps := List.take_of_length_le (by omega)
   rw [e0]
   clear hge hk
   go_upto_region 9 with (fail)
   go_wp2_with fail
   refine (grow_c wr hsum).mono ?_
   rintro e w1 ⟨v0,rfl,hr0⟩
   have hr1 : zaz 70 1 w v0 (sumC (ps.take 0)) (allC (ps.take 0)) w1 := ⟨hr0.1,fun k hk => Nat.le_trans q.size (hr0.2.1 k hk),q.trans (hr0.2.2.mono q.size)⟩
   clear hr0 q e0
   go_upto_region 11 with (fail)
   go_loopw [6,27] (fun vv iv wr => ∃ j : Nat,j ≤ k ∧ iv = .int .i64 j ∧ zaz 70 1 w vv (sumC (ps.take j)) (allC (ps.take j)) wr) (fun _ i _ => k - (intOf i).toNat)
   case atStart => exact ⟨0,Nat.zero_le _,rfl,hr1⟩
   case round =>
    clear hr1
    obtain ⟨j,hj,rfl,hr⟩ := hrel
    rename_i wr2 _ _
    rcases Nat.lt_or_ge j k with hlt | hge
    ·have hkl : j < ps.length := by omega
     obtain ⟨_,c2,rfl,hn2,_⟩ := hr.1.shape
     have hc := (zac (hr.2.2.block B (hBlt j hkl)) j).trans (hB j hkl)
     unfold Pc.v at hc
     have e1 := zd4 hkl
     have e2 := zid hkl
     have e3 := zga (ps := ps) (j + 1)
     have hsr := (hs ps[j] (List.getElem_mem hkl)).below hr.2.2
     obtain ⟨Y,hY⟩ : ∃ Y,Y = allC (ps.take j) := ⟨_,rfl⟩
     obtain ⟨Z,hZ⟩ : ∃ Z,Z = sumC (ps.take j) := ⟨_,rfl⟩
     rw [← hZ] at hr hn2 e1 ⊢
     rw [← hY] at hr e2
     have hZA : Z + ps[j].m ≤ 1000000 := by omega
     generalize ps[j] = p at hc e1 e2 hsr hZA
     have H1 := Lib.hid e1
     have H2 := Lib.hid e2
     clear e1 e2 e3 hZ hY
     go_wp2_with (go_big_may; first
      | (refine zcv chsP (by omega) rfl rfl (v := .slice _ Z c2) rfl hr.1 rfl hsr (by omega) ?_; intro ad' cap' w2 hR)
      | fail)
     go_roundw
     case rel => exact ⟨j + 1,by omega,by go_num,by rw [H1.out,H2.out]; exact hr.to hR⟩
     case measure => simp [intOf]; omega
    ·obtain rfl : j = k := by omega
     rw [List.take_of_length_le (by omega)] at hr
     obtain ⟨_,c2,rfl,hn2,_⟩ := hr.1.shape
     go_wp2_with fail
     go_ret
     exact ⟨_,rfl,hr⟩
theorem clone_n (w : World) {ad : Option Addr} {m c : Nat} {cs : List Value} (hs : SrcC 3 w ad m cs) (hm : m ≤ 1000000) :
  Calls Tryz.prog 127 #[.slice ad m c] w (zcs 26 3 w m cs) := by
 have he := fun (w : World) (ad : Option Addr) (n c : Nat) => Lib.run_eql_slice_nil (P := Tryz.prog) w 24 26 ad n c 0 0 ndP.hT
 cases ad with
 | none =>
  obtain rfl := hs.2.1 rfl
  obtain rfl : cs = [] := List.eq_nil_of_length_eq_zero (by rw [hs.1,Nat.zero_mul])
  go_enter Tryz.func127,Tryz.ntmps127
  go_wp2
  go_ret
  exact ⟨_,rfl,zaz.nil _ _ (Below.refl _ _)⟩
 | some p =>
  go_enter Tryz.func127,Tryz.ntmps127
  go_wp2_with (go_big_may; first
   | (refine zdk ndP.toLsP rfl rfl ?_; intro w1 hr1 hb1)
   | (refine zcv ndP (by omega) rfl rfl (v := .slice (some ⟨w.heap.size,0,none⟩) 0 0) rfl hr1 rfl (hs.below hb1) (by omega) ?_; intro ad' cap' w2 hR)
   | fail)
  go_ret
  rw [List.nil_append,Nat.zero_add] at hR
  refine ⟨_,rfl,zaz.to (v := .slice (some ⟨w.heap.size,0,none⟩) 0 0) ⟨hr1,fun k hk => ?_,hb1⟩ ?_⟩
  ·simp [Value.ownBlock] at hk; omega
  ·simpa using hR
theorem cut_n (w:World) {v:Value} {n i j:Nat} {jz:Int} {vs:List Value} (hv:RowQ 26 3 w v n vs) (hj:jz=(j:Int)) (hij:i≤j) (hn:n≤1000000) :
  Calls Tryz.prog 116 #[v,.int .i64 i,.int .i64 jz] w (zcs 26 3 w (min j n - min i n) ((vs.take (min j n*3)).drop (min i n*3))):=by
 subst hj
 obtain⟨x,hx⟩:∃ x,x=min i n:=⟨_,rfl⟩
 obtain⟨y,hy⟩:∃ y,y=min j n:=⟨_,rfl⟩
 have hxy:x≤y:=by omega
 have hyn:y≤n:=by omega
 have hxi:(x:Int)=min (i:Int) (n:Int):=by omega
 have hyi:(y:Int)=min (j:Int) (n:Int):=by omega
 rw [← hx,← hy]
 obtain⟨ad,c,rfl,hnc,_⟩:=hv.shape
 have Hx:=Lib.hid hxi
 have Hy:=Lib.hid hyi
 clear hx hy hxi hyi
 go_enter Tryz.func116,Tryz.ntmps116
 go_wp2_with (go_big_may;first
  | (refine zdd rfl rfl rfl rfl ?_ Hx.out)
  | (refine zdd rfl rfl rfl rfl ?_ Hy.out)
  | (refine zc3 ndP.toLsP rfl rfl hv rfl hxy hyn (fun c hc=>za5 _ hxy (by omega)) ?_;intro ad' c' hs)
  | fail)
 refine (clone_n w hs (by omega)).mono ?_
 rintro e w1⟨v,rfl,h⟩
 obtain⟨_,_,rfl,_⟩:=h.1.shape
 go_wp2_with fail
 go_ret
 exact⟨_,rfl,h⟩
theorem grow_n (w:World) {n:Nat} (hn:n≤1000000) :
  Calls Tryz.prog 132 #[.slice none 0 0,.int .i64 n] w (zcs 26 3 w 0 []):=by
 have d:decide ((n:Int)<0)=false:=decide_eq_false (by omega)
 rcases Nat.eq_zero_or_pos n with h0 | h0
 ·subst h0
  go_enter Tryz.func132,Tryz.ntmps132
  go_wp2
  go_ret
  exact⟨_,rfl,zaz.nil _ _ (Below.refl _ _)⟩
 ·have d2:decide (0<(n:Int))=true:=decide_eq_true (by omega)
  go_enter Tryz.func132,Tryz.ntmps132
  go_wp2_with (go_big_may;first
   | (refine zdi ndP.toLsP rfl rfl rfl (zat _ (Nat.le_refl _)) ?_)
   | (refine zcu ndP (by omega) (by kernel_rfl) rfl rfl rfl (k:=0) (m:=n) rfl (by omega) (cs:=[]) (by simp) (fun q hq=>by cases hq) (fun _=>rfl) (by omega) (by omega) (by omega) ?_;intro G cr hG1 hG2 hG3 hG4)
   | (refine za2 ndP.toLsP rfl rfl rfl (r:=0) (zat _ (by omega)) ?_)
   | fail)
  go_ret
  have hg1:((w.alloc (.cells cr 26)).drew).heap[w.heap.size]?=some (.cells cr 26 (0,0)):=by simp only [World.alloc,World.drew,Array.getElem?_push_size]
  exact⟨_,rfl,RowQ.of hg1 (Nat.zero_le _) hG2 hG3 (by simp) (fun _ h=>by cases h),fun k hk=>by simp [Value.ownBlock] at hk;omega,((Below.refl _ _).alloc (Nat.le_refl _) _).drew⟩
theorem concat_n (w : World) {B m : Nat} {ps : List Pc} (hB : ∀ k (h : k < ps.length),w.cell? ⟨B,k,none⟩ = some ps[k].v) (hm : ps.length = m) (hm3 : m ≤ 1000) (hs : ∀ p ∈ ps,SrcC 3 w p.ad p.m p.cs) (hsum : sumC ps ≤ 1000000) :
  Calls Tryz.prog 121 #[.slice (some ⟨B,0,none⟩) m m] w (zcs 26 3 w (sumC ps) (allC ps)) := by
 have hBlt : ∀ k,k < ps.length → B < w.heap.size := fun k h => zaj (hB k h)
 go_enter Tryz.func121,Tryz.ntmps121
 go_upto_region 3 with (fail)
 go_loopw [3,11] (fun sv iv wr => ∃ k : Nat,k ≤ m ∧ iv = .int .i64 k ∧ sv = .int .i64 (sumC (ps.take k) : Nat) ∧ Below w.heap.size w wr) (fun _ i _ => m - (intOf i).toNat)
 case atStart => exact ⟨0,Nat.zero_le _,rfl,rfl,Below.refl _ _⟩
 case round =>
  obtain ⟨k,hk,rfl,rfl,q⟩ := hrel
  rcases Nat.lt_or_ge k m with hlt | hge
  ·have hkl : k < ps.length := by omega
   have hc := (zac (q.block B (hBlt k hkl)) k).trans (hB k hkl)
   unfold Pc.v at hc
   have e1 := zd4 hkl
   have e2 := zga (ps := ps) (k + 1)
   obtain ⟨A,hA⟩ : ∃ A,A = ps[k].m := ⟨_,rfl⟩
   rw [← hA] at e1 hc
   obtain ⟨Z,hZ⟩ : ∃ Z,Z = sumC (ps.take k) := ⟨_,rfl⟩
   rw [← hZ] at e1 ⊢
   have d : decide ((Z : Int) + (A : Int) < 0) = false := decide_eq_false (by omega)
   have hZA : Z + A ≤ 1000000 := by omega
   have H1 := Lib.hid e1
   clear hA hZ e1 e2
   go_wp2_with fail
   go_roundw
   case rel => exact ⟨k + 1,by omega,by go_num,by rw [H1.out]; go_num,q⟩
   case measure => simp [intOf]; omega
  ·obtain rfl : k = m := by omega
   have e0 : ps.take k = ps := List.take_of_length_le (by omega)
   rw [e0]
   clear hge hk
   go_upto_region 9 with (fail)
   go_wp2_with fail
   refine (grow_n wr hsum).mono ?_
   rintro e w1 ⟨v0,rfl,hr0⟩
   have hr1 : zaz 26 3 w v0 (sumC (ps.take 0)) (allC (ps.take 0)) w1 := ⟨hr0.1,fun k hk => Nat.le_trans q.size (hr0.2.1 k hk),q.trans (hr0.2.2.mono q.size)⟩
   clear hr0 q e0
   go_upto_region 11 with (fail)
   go_loopw [6,27] (fun vv iv wr => ∃ j : Nat,j ≤ k ∧ iv = .int .i64 j ∧ zaz 26 3 w vv (sumC (ps.take j)) (allC (ps.take j)) wr) (fun _ i _ => k - (intOf i).toNat)
   case atStart => exact ⟨0,Nat.zero_le _,rfl,hr1⟩
   case round =>
    clear hr1
    obtain ⟨j,hj,rfl,hr⟩ := hrel
    rename_i wr2 _ _
    rcases Nat.lt_or_ge j k with hlt | hge
    ·have hkl : j < ps.length := by omega
     obtain ⟨_,c2,rfl,hn2,_⟩ := hr.1.shape
     have hc := (zac (hr.2.2.block B (hBlt j hkl)) j).trans (hB j hkl)
     unfold Pc.v at hc
     have e1 := zd4 hkl
     have e2 := zid hkl
     have e3 := zga (ps := ps) (j + 1)
     have hsr := (hs ps[j] (List.getElem_mem hkl)).below hr.2.2
     obtain ⟨Y,hY⟩ : ∃ Y,Y = allC (ps.take j) := ⟨_,rfl⟩
     obtain ⟨Z,hZ⟩ : ∃ Z,Z = sumC (ps.take j) := ⟨_,rfl⟩
     rw [← hZ] at hr hn2 e1 ⊢
     rw [← hY] at hr e2
     have hZA : Z + ps[j].m ≤ 1000000 := by omega
     generalize ps[j] = p at hc e1 e2 hsr hZA
     have H1 := Lib.hid e1
     have H2 := Lib.hid e2
     clear e1 e2 e3 hZ hY
     go_wp2_with (go_big_may; first
      | (refine zcv ndP (by omega) rfl rfl (v := .slice _ Z c2) rfl hr.1 rfl hsr (by omega) ?_; intro ad' cap' w2 hR)
      | fail)
     go_roundw
     case rel => exact ⟨j + 1,by omega,by go_num,by rw [H1.out,H2.out]; exact hr.to hR⟩
     case measure => simp [intOf]; omega
    ·obtain rfl : j = k := by omega
     rw [List.take_of_length_le (by omega)] at hr
     obtain ⟨_,c2,rfl,hn2,_⟩ := hr.1.shape
     go_wp2_with fail
     go_ret
     exact ⟨_,rfl,hr⟩
def zah(v:Value):List Nat:=v.ownBlock.toList
theorem zb8 {v:Value} {k:Nat}:k∈zah v↔v.ownBlock=some k:=by
 unfold zah
 cases v.ownBlock with
 | none=>simp
 | some j=>simp [eq_comm]
theorem zic(v:Value):(zah v).Nodup:=by
 unfold zah
 cases v.ownBlock<;>simp
section
variable {α : Type} {E : Elt α} {S : Nat → Prop} {w : World}
theorem Flat.drop:∀ {xs:List α} {vs:List Value} (_:Flat E S w xs vs) (k:Nat),Flat E S w (xs.drop k) (vs.drop (k*E.size))
 | [],_,h,k=>by cases h;simp [Flat]
 | x::xs,_,h,0=>by simpa using h
 | x::xs,_,⟨us,ws,rfl,h1,h2⟩,k+1=>by
  have hl:=E.len h1
  have e:(us++ws).drop ((k+1)*E.size)=ws.drop (k*E.size):=by
   rw [show (k+1)*E.size=us.length+k*E.size by rw [hl,Nat.add_mul];omega,List.drop_length_add_append]
  rw [e]
  exact Flat.drop h2 k
end
mutual
def OwnN (D:Nat→Prop) (w:World):Nd→List Value→List Nat→Prop
 | .mk ks cs ns,vs,F=>∃ v1 v2 v3 us1 us2 us3 F3,vs=[v1,v2,v3]∧F=zah v1++zah v2++zah v3++F3 ∧
   RowQ 30 1 w v1 ks.length us1∧Flat Elt.bytes D w ks us1∧RowQ 70 1 w v2 cs.length us2∧Flat (Elt.list Elt.ver) D w cs us2∧RowQ 26 3 w v3 ns.length us3∧zbc D w ns us3 F3
def zbc (D:Nat→Prop) (w:World):List Nd→List Value→List Nat→Prop
 | [],vs,F=>vs=[]∧F=[]
 | n::ns,vs,F=>∃ us ws F1 F2,vs=us++ws∧F=F1++F2∧OwnN D w n us F1∧zbc D w ns ws F2
end
theorem zel (D:Nat→Prop) (w:World) (n:Nd) (vs:List Value) (F:List Nat):OwnN D w n vs F↔∃ v1 v2 v3 us1 us2 us3 F3,vs=[v1,v2,v3]∧F=zah v1++zah v2++zah v3++F3 ∧
   RowQ 30 1 w v1 n.keys.length us1∧Flat Elt.bytes D w n.keys us1∧RowQ 70 1 w v2 n.chains.length us2∧Flat (Elt.list Elt.ver) D w n.chains us2∧RowQ 26 3 w v3 n.kids.length us3∧zbc D w n.kids us3 F3:=by
 cases n with
 | mk ks cs ns=>rw [OwnN];rfl
section
variable {D : Nat → Prop} {w w' : World}
mutual
theorem zg6:∀ (n:Nd) {vs:List Value} {F:List Nat},OwnN D w n vs F→(∀ k∈F,w'.heap[k]?=w.heap[k]?)→(∀ k,D k→w'.heap[k]?=w.heap[k]?)→OwnN D w' n vs F
 | .mk ks cs ns,vs,F,h,hF,hD=>by
  rw [OwnN] at h ⊢
  obtain⟨v1,v2,v3,us1,us2,us3,F3,e1,rfl,h1,h2,h3,h4,h5,h6⟩:=h
  refine⟨v1,v2,v3,us1,us2,us3,F3,e1,rfl,h1.kept fun k hk=>hF k ?_,h2.keep hD,h3.kept fun k hk=>hF k ?_,h4.keep hD,h5.kept fun k hk=>hF k ?_,zbe ns h6 (fun k hk=>hF k ?_) hD⟩
  ·simp [zb8,hk]
  ·simp [zb8,hk]
  ·simp [zb8,hk]
  ·simp [hk]
theorem zbe:∀ (ns:List Nd) {vs:List Value} {F:List Nat},zbc D w ns vs F→(∀ k∈F,w'.heap[k]?=w.heap[k]?)→(∀ k,D k→w'.heap[k]?=w.heap[k]?)→zbc D w' ns vs F
 | [],vs,F,h,_,_=>by rw [zbc] at h ⊢;exact h
 | n::ns,vs,F,h,hF,hD=>by
  rw [zbc] at h ⊢
  obtain⟨us,ws,F1,F2,e1,rfl,h1,h2⟩:=h
  exact⟨us,ws,F1,F2,e1,rfl,zg6 n h1 (fun k hk=>hF k (List.mem_append_left _ hk)) hD,zbe ns h2 (fun k hk=>hF k (List.mem_append_right _ hk)) hD⟩
end
mutual
theorem zn6:∀(n:Nd) {vs:List Value} {F:List Nat},OwnN D w n vs F→∀ k∈F,k<w.heap.size
 | .mk ks cs ns,vs,F,h,k,hk=>by
  rw [OwnN] at h
  obtain⟨v1,v2,v3,us1,us2,us3,F3,e1,rfl,h1,h2,h3,h4,h5,h6⟩:=h
  simp only [List.mem_append,zb8] at hk
  rcases hk with((hk|hk)|hk)|hk
  ·exact h1.lt hk
  ·exact h3.lt hk
  ·exact h5.lt hk
  ·exact zgl ns h6 k hk
theorem zgl:∀(ns:List Nd) {vs:List Value} {F:List Nat},zbc D w ns vs F→∀ k∈F,k<w.heap.size
 | [],vs,F,h,k,hk=>by rw [zbc] at h;rw [h.2] at hk;cases hk
 | n::ns,vs,F,h,k,hk=>by
  rw [zbc] at h
  obtain⟨us,ws,F1,F2,e1,rfl,h1,h2⟩:=h
  rcases List.mem_append.1 hk with hk|hk
  ·exact zn6 n h1 k hk
  ·exact zgl ns h2 k hk
end
theorem zmw {n:Nd} {vs:List Value} {F:List Nat}(h:OwnN D w n vs F):vs.length=3:=by
 rw [zel] at h
 obtain⟨v1,v2,v3,_,_,_,_,rfl,_⟩:=h
 rfl
theorem zfz:∀ {ns:List Nd} {vs:List Value} {F:List Nat},zbc D w ns vs F→vs.length=ns.length*3
 | [],vs,F,h=>by rw [zbc] at h;rw [h.1];rfl
 | n::ns,vs,F,h=>by
  rw [zbc] at h
  obtain⟨us,ws,F1,F2,rfl,_,h1,h2⟩:=h
  rw [List.length_append,zmw h1,zfz h2,List.length_cons,Nat.add_mul]
  omega
theorem zbv:∀ {ns ms:List Nd} {vs us:List Value} {F G:List Nat},zbc D w ns vs F→zbc D w ms us G→zbc D w (ns++ms) (vs++us) (F++G)
 | [],ms,vs,us,F,G,h,k=>by
  rw [zbc] at h
  rw [h.1,h.2]
  exact k
 | n::ns,ms,vs,us,F,G,h,k=>by
  rw [zbc] at h
  obtain⟨u1,w1,F1,F2,rfl,rfl,h1,h2⟩:=h
  rw [List.cons_append,zbc]
  exact⟨u1,w1++us,F1,F2++G,by rw [List.append_assoc],by rw [List.append_assoc],h1,zbv h2 k⟩
theorem zea:∀ {ns ms:List Nd} {vs:List Value} {F:List Nat},zbc D w (ns++ms) vs F→∃ us ws F1 F2,vs=us++ws∧F=F1++F2∧zbc D w ns us F1∧zbc D w ms ws F2
 | [],ms,vs,F,h=>⟨[],vs,[],F,rfl,rfl,by rw [zbc];exact⟨rfl,rfl⟩,h⟩
 | n::ns,ms,vs,F,h=>by
  rw [List.cons_append,zbc] at h
  obtain⟨u1,w1,F1,F2,rfl,rfl,h1,h2⟩:=h
  obtain⟨us,ws,G1,G2,rfl,rfl,h3,h4⟩:=zea h2
  refine⟨u1++us,ws,F1++G1,G2,by rw [List.append_assoc],by rw [List.append_assoc],?_,h4⟩
  rw [zbc]
  exact⟨u1,us,F1,G1,rfl,rfl,h1,h3⟩
theorem ze5 {n:Nd} {vs:List Value} {F:List Nat}:zbc D w [n] vs F↔OwnN D w n vs F:=by
 rw [zbc]
 constructor
 ·rintro⟨us,ws,F1,F2,rfl,rfl,h1,h2⟩
  rw [zbc] at h2
  rw [h2.1,h2.2,List.append_nil,List.append_nil]
  exact h1
 ·intro h
  exact⟨vs,[],F,[],by simp,by simp,h,by rw [zbc];exact⟨rfl,rfl⟩⟩
theorem owns_nil:zbc D w [] [] []:=by rw [zbc];exact⟨rfl,rfl⟩
theorem zmv {ns:List Nd} {vs:List Value} {F:List Nat} (h:zbc D w ns vs F) (i:Nat) (hi:i<ns.length) :
  ∃ us ms ws F1 F2 F3,vs=us++ms++ws∧F=F1++F2++F3∧us.length=i*3∧ms.length=3∧zbc D w (ns.take i) us F1∧OwnN D w ns[i] ms F2∧zbc D w (ns.drop (i+1)) ws F3:=by
 have e:ns=ns.take i++([ns[i]]++ns.drop (i+1)):=by
  rw [List.singleton_append,← List.drop_eq_getElem_cons hi,List.take_append_drop]
 rw [e] at h
 obtain⟨us,ws,F1,F2,rfl,rfl,h1,h2⟩:=zea h
 obtain⟨ms,xs,G1,G2,rfl,rfl,h3,h4⟩:=zea h2
 have h3':=ze5.1 h3
 have hl:=zfz h1
 rw [List.length_take,Nat.min_eq_left (Nat.le_of_lt hi)] at hl
 exact⟨us,ms,xs,F1,G1,G2,by rw [List.append_assoc],by rw [List.append_assoc],hl,zmw h3',h1,h3',h4⟩
theorem RowQ.rdL {α : Type} {E : Elt α} {S : Nat → Prop} {Te : TypeId} {v : Value} {xs : List α} {us : List Value} (h : RowQ Te E.size w v xs.length us) (hf : ∀ r (hr : r < xs.length),∃ cs,E.R S w xs[r] cs ∧ ∀ j u,cs[j]? = some u → us[r * E.size + j]? = some u) (hS : ∀ k,v.ownBlock = some k → S k) : RdL E S w v xs := by
 rcases h.cases with ⟨rfl,h2,rfl⟩ | ⟨g,cap,cur,rfl,hg,hnc,hcm,_⟩
 ·obtain rfl : xs = [] := List.eq_nil_of_length_eq_zero h2
  exact RdL.nil _ _ _
 ·refine ⟨_,cap,rfl,hnc,hcm,.inr ⟨g,0,rfl,hS g rfl,fun r hr => ?_⟩⟩
  obtain ⟨cs,h1,h2⟩ := hf r hr
  refine ⟨cs,h1,fun j u hj => ?_⟩
  rw [Nat.zero_add]
  exact h.cell rfl (h2 j u hj)
theorem zn4:∀ {ns:List Nd} {vs:List Value} {F:List Nat},zbc D w ns vs F→∀ r (hr:r<ns.length),∃ cs G,OwnN D w ns[r] cs G∧(∀ k∈G,k∈F)∧∀ j u,cs[j]?=some u→vs[r*3+j]?=some u:=by
 intro ns vs F h r hr
 obtain⟨us,ms,ws,F1,F2,F3,rfl,rfl,h1,h2,_,h3,_⟩:=zmv h r hr
 refine⟨ms,F2,h3,fun k hk=>by simp [hk],fun j u hj=>?_⟩
 have hjl:=(List.getElem?_eq_some_iff.1 hj).1
 rw [List.append_assoc,List.getElem?_append_right (by omega),h1,Nat.add_sub_cancel_left,List.getElem?_append_left hjl]
 exact hj
theorem zj0:∀ (N:Nat) {n:Nd},wN n≤N→∀ {vs:List Value} {F:List Nat} {S:Nat→Prop},OwnN D w n vs F→(∀ k,D k→S k)→(∀ k∈F,S k)→Elt.nd.R S w n vs
 | 0,n,hN,_,_,_,_,_,_=>by have:=zfn n;omega
 | N+1,n,hN,vs,F,S,h,hD,hF=>by
  rw [zel] at h
  obtain⟨v1,v2,v3,us1,us2,us3,F3,rfl,rfl,h1,h2,h3,h4,h5,h6⟩:=h
  refine nd_in ?_ ?_ ?_
  ·refine RowQ.rdL (E:=Elt.bytes) h1 (fun r hr=>?_) (fun k hk=>hF k (by simp [zb8,hk]))
   obtain⟨cs,h7,h8⟩:=h2.at r hr
   exact⟨cs,Elt.bytes.weak h7 hD,h8⟩
  ·refine RowQ.rdL (E:=Elt.list Elt.ver) h3 (fun r hr=>?_) (fun k hk=>hF k (by simp [zb8,hk]))
   obtain⟨cs,h7,h8⟩:=h4.at r hr
   exact⟨cs,(Elt.list Elt.ver).weak h7 hD,h8⟩
  ·refine RowQ.rdL (E:=Elt.nd) h5 (fun r hr=>?_) (fun k hk=>hF k (by simp [zb8,hk]))
   obtain⟨cs,G,h7,h8,h9⟩:=zn4 h6 r hr
   have hm:n.kids[r]∈n.kids:=List.getElem_mem hr
   have:=zev hm
   exact⟨cs,zj0 N (n:=n.kids[r]) (by omega) h7 hD (fun k hk=>hF k (by simp [h8 k hk])),h9⟩
end
structure NdAt(D:Nat→Prop)(w:World)(v:Value)(n:Nd)(F:List Nat):Prop where
 ex:∃ vs,v=.agg vs.toArray∧OwnN D w n vs F
 nodup:F.Nodup
 free:∀ k∈F,¬ D k
 data:∀ k,D k→k<w.heap.size
section
variable {D : Nat → Prop} {w w' : World} {v : Value} {n : Nd} {F : List Nat}
theorem NdAt.lt(h:NdAt D w v n F):∀ k∈F,k<w.heap.size:=by
 obtain⟨vs,_,h1⟩:=h.ex
 exact zn6 n h1
theorem NdAt.keep (h:NdAt D w v n F) (hs:w.heap.size≤w'.heap.size) (hk:∀ k,k<w.heap.size→(D k∨k∈F)→w'.heap[k]?=w.heap[k]?):NdAt D w' v n F:=by
 obtain⟨vs,e,h1⟩:=h.ex
 exact⟨⟨vs,e,zg6 n h1 (fun k hF=>hk k (h.lt k hF) (.inr hF)) (fun k hD=>hk k (h.data k hD) (.inl hD))⟩,h.nodup,h.free,fun k hD=>Nat.lt_of_lt_of_le (h.data k hD) hs⟩
theorem NdAt.below(h:NdAt D w v n F)(hb:Below w.heap.size w w'):NdAt D w' v n F:=h.keep hb.size fun k hk _=>hb.block k hk
theorem NdAt.rdN (h:NdAt D w v n F):RdN (fun k=>D k∨k∈F) w v n:=by
 obtain⟨vs,rfl,h1⟩:=h.ex
 exact RdN.of (zj0 (wN n) (Nat.le_refl _) h1 (fun _ h=>.inl h) (fun _ h=>.inr h))
end
def NdTo (D:Nat→Prop) (w:World) (F:List Nat) (Q:Nd→Prop) (e:Ending) (w':World):Prop :=
 ∃ v' n' F',e=.returned v'∧Q n'∧NdAt D w' v' n' F'∧(∀ k∈F',k∈F∨w.heap.size≤k)∧Trd (·∈F) w w'
section
variable {P : Program} {T Te : TypeId} {n : Nat} {ops : Array Oper} {rest : List Oper} {o : Oper} {a : Act} {Q : Exit → Act → World → Prop} {w : World} {K : Act → World → Prop}
theorem zet (hP : LoP P T Te n) {x y : Operand} (ho : o.op = .makeSlice T x y) (hgd : Region.wanted o (yielded ops a.tmps) = true) {m : Nat} {i : Int} {kl kc : IntKind} (hx : a.eval x = .int kl 0) (hy : a.eval y = .int kc i) (him : i = (m : Int)) (hm : m ≤ 1073741824)
  (h : ∀ w',RowQ Te n w' (.slice (some ⟨w.heap.size,0,none⟩) 0 m) 0 [] → Below w.heap.size w w' → wpList P ops Q rest (a.put o.dst (.slice (some ⟨w.heap.size,0,none⟩) 0 m)) w') : wpList P ops Q (o :: rest) a w := by
 subst him
 refine BigFrame.wpList_want hgd fun K hK => ?_
 obtain ⟨i,z,hi,hz,hsz,hby,hzs⟩ := hP.all
 have hbytes : i.bytes * m ≤ 4096 * 1073741824 := Nat.mul_le_mul hby hm
 have hr := run_make (P := P) w T Te i z hP.hT hi hz kl kc 0 (m : Int) (Int.le_refl _) (by omega) (by
  have : ((i.bytes * m : Nat) : Int) ≤ 281474976710656 := by omega
  rwa [Int.natCast_mul] at this) (by omega)
 simp only [Int.toNat_natCast,Int.toNat_zero] at hr
 unfold Oper.wp execOp
 simp only [ho,hx,hy,Sem.run_bind,Sem.run_pure,Result.andThen_ok,hr]
 exact hK _ _ (h _ (RowQ.of (cur := madeCells z.cells (m * i.size)) (by simp only [World.alloc,Array.getElem?_push_size]) (Nat.zero_le _) (by unfold maxLen; omega) (by rw [size_madeCells,hsz]) (by simp) (fun _ h => by cases h)) ((Below.refl _ _).alloc (Nat.le_refl _) _))
theorem zdj (hP : LoP P T Te n) {y : Operand} {v : Value} {us : List Value} (ho : o.op = .buildSlice T 1 #[(0,y)]) (hgd : Region.wanted o (yielded ops a.tmps) = true) (hy : a.eval y = v) (hv : v.cells = us.toArray) (hl : us.length = n) (h0 : 0 < n) (hn : n ≤ 4096)
  (h : ∀ w',w'.heap[w.heap.size]? = some (.cells us.toArray Te (0,0)) → Below w.heap.size w w' → wpList P ops Q rest (a.put o.dst (.slice (some ⟨w.heap.size,0,none⟩) 1 1)) w') : wpList P ops Q (o :: rest) a w :=
 BigFrame.wpList_want hgd fun _ hK => zb3 hP ho hy hv hl h0 hn (hK _ _ (h _ (by simp only [World.alloc,Array.getElem?_push_size]) ((Below.refl _ _).alloc (Nat.le_refl _) _)))
end
theorem cnt_none {l:List Ver} (hk:okV l):cntV l 0=0:=by
 have:∀ k,zc5 l 0 k=0:=by
  intro k
  induction k with
  | zero=>rfl
  | succ k ih =>
   by_cases h:k<l.length
   ·rw [zlo h (by have:=(hk k h).1.1;omega),ih]
   ·unfold zc5
    rw [dif_neg h,ih]
 exact this _
theorem vac_none (l:List Ver):vacV l 0=l:=by
 by_cases hk:okV l
 ·exact zd2 (cnt_none hk)
 ·unfold vacV;rw [if_neg hk]
theorem zew (w:World) {S:Nat→Prop} {a:Option Addr} {n c:Nat} {l:List Ver} (hl:RdL Elt.ver S w (.slice a n c) l) (hsm:zbq l) :
  Calls Tryz.prog 55 #[.slice a n c] w (zcq w l):=by
 go_enter Tryz.func55,Tryz.ntmps55
 go_wp2_with fail
 refine (zgz w (s:=0) hl hsm).mono ?_
 rw [vac_none]
 rintro e w1⟨a1,c1,rfl,h1,h2⟩
 go_wp2_with fail
 go_ret
 exact⟨a1,c1,rfl,h1,h2⟩
def CpK {α:Type} (E:Elt α) (Te:TypeId) (w:World) (v:Value) (xs:List α) (W:World):Prop :=
 ∃ us,zaz Te E.size w v xs.length us W∧Flat E (fun k=>w.heap.size≤k∧k<W.heap.size∧v.ownBlock≠some k) W xs us
theorem CpK.shape {α:Type} {E:Elt α} {Te:TypeId} {w:World} {v:Value} {xs:List α} {W:World}(h:CpK E Te w v xs W) {m:Nat}(hm:xs.length=m):∃ ad cp,v=.slice ad m cp∧m≤cp:=by
 obtain⟨us,h1,_⟩:=h
 obtain⟨ad,cp,h2,h3,_⟩:=h1.1.shape
 exact⟨ad,cp,hm▸h2,hm▸h3⟩
theorem CpK.row {α:Type} {E:Elt α} {Te:TypeId} {w:World} {v:Value} {xs:List α} {W:World} (h:CpK E Te w v xs W) {m:Nat} (hm:xs.length=m):∃ vs,zaz Te E.size w v m vs W∧Flat E (fun k=>w.heap.size≤k∧k<W.heap.size∧v.ownBlock≠some k) W xs vs:=by
 obtain⟨us,h1,h2⟩:=h
 exact⟨us,hm▸h1,h2⟩
theorem CpK.next {α:Type} {E:Elt α} {Te:TypeId} {w:World} {v v':Value} {xs:List α} {x:α} {us vs:List Value} {W W1 W2:World} {m:Nat} (hm:xs.length=m) (h1:zaz Te E.size w v m vs W) (h2:Flat E (fun k=>w.heap.size≤k∧k<W.heap.size∧v.ownBlock≠some k) W xs vs) (hb:Below W.heap.size W W1)
  (hx:E.R (fun k=>W.heap.size≤k∧k<W1.heap.size) W1 x us) (h4:zcc Te E.size W1 v (m+1) (vs++us) v' W2):CpK E Te w v' (xs++[x]) W2:=by
 subst hm
 have h3:=h1.below hb
 refine⟨vs++us,by simpa using h3.to h4,?_⟩
 have hnb:∀ k,k<W1.heap.size→v.ownBlock≠some k→W2.heap[k]?=W1.heap[k]?:=fun k hk hn=>h4.2.1.block k hk (fun e=>hn e.symm)
 have hnew:∀ k,k<W1.heap.size→v.ownBlock≠some k→v'.ownBlock≠some k:=fun k hk hn e=>by
  rcases h4.2.2 with h5 |⟨q,h5,h6⟩
  ·exact hn (by rw [← h5];exact e)
  ·rw [h5] at e;injection e with e;omega
 have hs:=h4.2.1.size
 have hWW:=hb.size
 refine Flat.append ?_ (Flat.single ?_)
 ·refine ((h2.keep (w':=W1) fun k hk=>hb.block k hk.2.1).keep (w':=W2) fun k hk=>hnb k (by omega) hk.2.2).weak fun k hk=>⟨hk.1,by omega,hnew k (by omega) hk.2.2⟩
 ·have hvW:∀ k,W.heap.size≤k→v.ownBlock≠some k:=fun k hk e=>by
   have:=h1.1.lt e
   omega
  have hw:=h1.2.2.size
  exact E.weak (E.keep hx fun k hk=>hnb k hk.2 (hvW k hk.1)) fun k hk=>⟨by omega,by omega,hnew k hk.2 (hvW k hk.1)⟩
theorem each_k (w : World) {S : Nat → Prop} {a : Option Addr} {n c : Nat} {xs : List (List UInt8)} (hl : RdL Elt.bytes S w (.slice a n c) xs) (hn : n ≤ 1000000) (F : FuncId) (hE : Enters Tryz.prog F)
  (hF : ∀ (W : World) (r : Nat) (hr : r < xs.length) (A : Option Addr) (C : Nat),Below w.heap.size w W → RdS S W (.slice A xs[r].length C) xs[r] → Calls Tryz.prog F #[.slice A xs[r].length C] W (fun e W' => ∃ A' C',e = .returned (.slice A' xs[r].length C') ∧ RdS (fun k => W.heap.size ≤ k ∧ k < W'.heap.size) W' (.slice A' xs[r].length C') xs[r] ∧ Below W.heap.size W W')) :
  Calls Tryz.prog 90 #[.slice a n c,.func (.func F) #[] #[]] w fun e W => ∃ v,e = .returned v ∧ CpK Elt.bytes 30 w v xs W := by
 obtain ⟨rfl,hnc,hcm⟩ := hl.len
 have hlm : xs.length ≤ 1073741824 := by omega
 have hEE := hE
 unfold Enters at hEE
 go_enter Tryz.func90,Tryz.ntmps90
 go_upto_region 3 with (go_big_may; first
  | (refine zet kysP rfl rfl rfl rfl rfl hlm ?_; intro w1 hr1 hb1)
  | fail)
 have hc1 : CpK Elt.bytes 30 w (.slice (some ⟨w.heap.size,0,none⟩) 0 xs.length) (xs.take 0) w1 := ⟨[],⟨hr1,fun k hk => by simp [Value.ownBlock] at hk; omega,hb1⟩,rfl⟩
 clear hr1
 go_loopw [5,13] (fun vv iv wr => ∃ k : Nat,k ≤ xs.length ∧ iv = .int .i64 k ∧ CpK Elt.bytes 30 w vv (xs.take k) wr) (fun _ i _ => xs.length - (intOf i).toNat)
 case atStart => exact ⟨0,Nat.zero_le _,rfl,hc1⟩
 case round =>
  clear hc1 hb1
  obtain ⟨k,hk,rfl,hC⟩ := hrel
  have hkl : (xs.take k).length = k := by rw [List.length_take]; omega
  obtain ⟨vs,h1,h2⟩ := hC.row hkl
  have hbw := h1.2.2
  obtain ⟨ad,cp,rfl,hcp⟩ := hC.shape hkl
  rcases Nat.lt_or_ge k xs.length with hlt | hge
  ·obtain ⟨b,off,A,C,rfl,hc,hr⟩ := (hl.below hbw).byt k hlt
   have H := Lib.hid hkl
   clear hkl hC
   go_wp2_with fail
   refine (hF wr k hlt A C hbw hr).mono ?_
   rintro e w2 ⟨A',C',rfl,hr2,hb2⟩
   have h3 := (h1.below hb2).1
   go_wp2_with (go_big_may; first
    | (refine zdj kysP rfl rfl rfl (us := [.slice A' xs[k].length C']) rfl rfl (by omega) (by omega) ?_; intro w3 hg3 hb3)
    | (refine zcw kysP (by omega) rfl rfl (v := .slice ad k cp) rfl (h3.below hb3) rfl (m := 1) (cs := [.slice A' xs[k].length C']) rfl (zba hg3) (fun u hu => by rw [List.mem_singleton.1 hu]; rfl) (by omega) ?_; intro ad' cap' w4 hR)
    | fail)
   go_roundw
   case rel =>
    refine ⟨k + 1,by omega,by go_num,?_⟩
    rw [List.take_add_one,List.getElem?_eq_getElem hlt,Option.toList_some]
    refine CpK.next H.out h1 h2 (hb2.trans (hb3.mono hb2.size)) ⟨_,rfl,?_⟩ hR
    exact (hr2.below hb3).weak fun k hk => ⟨hk.1,Nat.lt_of_lt_of_le hk.2 hb3.size⟩
   case measure => simp [intOf]; omega
  ·obtain rfl : k = xs.length := by omega
   rw [List.take_length] at hC
   go_wp2_with fail
   go_ret
   exact ⟨_,rfl,hC⟩
theorem each_c (w : World) {S : Nat → Prop} {a : Option Addr} {n c : Nat} {xs : List (List Ver)} (hl : RdL (Elt.list Elt.ver) S w (.slice a n c) xs) (hn : n ≤ 1000000) (F : FuncId) (hE : Enters Tryz.prog F)
  (hF : ∀ (W : World) (r : Nat) (hr : r < xs.length) (A : Option Addr) (C : Nat),Below w.heap.size w W → RdL Elt.ver S W (.slice A xs[r].length C) xs[r] → Calls Tryz.prog F #[.slice A xs[r].length C] W (fun e W' => ∃ A' C',e = .returned (.slice A' xs[r].length C') ∧ RdL Elt.ver (fun k => W.heap.size ≤ k ∧ k < W'.heap.size) W' (.slice A' xs[r].length C') xs[r] ∧ Below W.heap.size W W')) :
  Calls Tryz.prog 91 #[.slice a n c,.func (.func F) #[] #[]] w fun e W => ∃ v,e = .returned v ∧ CpK (Elt.list Elt.ver) 70 w v xs W := by
 obtain ⟨rfl,hnc,hcm⟩ := hl.len
 have hlm : xs.length ≤ 1073741824 := by omega
 have hEE := hE
 unfold Enters at hEE
 go_enter Tryz.func91,Tryz.ntmps91
 go_upto_region 3 with (go_big_may; first
  | (refine zet chsP rfl rfl rfl rfl rfl hlm ?_; intro w1 hr1 hb1)
  | fail)
 have hc1 : CpK (Elt.list Elt.ver) 70 w (.slice (some ⟨w.heap.size,0,none⟩) 0 xs.length) (xs.take 0) w1 := ⟨[],⟨hr1,fun k hk => by simp [Value.ownBlock] at hk; omega,hb1⟩,rfl⟩
 clear hr1
 go_loopw [5,13] (fun vv iv wr => ∃ k : Nat,k ≤ xs.length ∧ iv = .int .i64 k ∧ CpK (Elt.list Elt.ver) 70 w vv (xs.take k) wr) (fun _ i _ => xs.length - (intOf i).toNat)
 case atStart => exact ⟨0,Nat.zero_le _,rfl,hc1⟩
 case round =>
  clear hc1 hb1
  obtain ⟨k,hk,rfl,hC⟩ := hrel
  have hkl : (xs.take k).length = k := by rw [List.length_take]; omega
  obtain ⟨vs,h1,h2⟩ := hC.row hkl
  have hbw := h1.2.2
  obtain ⟨ad,cp,rfl,hcp⟩ := hC.shape hkl
  rcases Nat.lt_or_ge k xs.length with hlt | hge
  ·obtain ⟨b,off,A,C,rfl,hc,hr⟩ := (hl.below hbw).lst k hlt
   have H := Lib.hid hkl
   clear hkl hC
   go_wp2_with fail
   refine (hF wr k hlt A C hbw hr).mono ?_
   rintro e w2 ⟨A',C',rfl,hr2,hb2⟩
   have h3 := (h1.below hb2).1
   go_wp2_with (go_big_may; first
    | (refine zdj chsP rfl rfl rfl (us := [.slice A' xs[k].length C']) rfl rfl (by omega) (by omega) ?_; intro w3 hg3 hb3)
    | (refine zcw chsP (by omega) rfl rfl (v := .slice ad k cp) rfl (h3.below hb3) rfl (m := 1) (cs := [.slice A' xs[k].length C']) rfl (zba hg3) (fun u hu => by rw [List.mem_singleton.1 hu]; rfl) (by omega) ?_; intro ad' cap' w4 hR)
    | fail)
   go_roundw
   case rel =>
    refine ⟨k + 1,by omega,by go_num,?_⟩
    rw [List.take_add_one,List.getElem?_eq_getElem hlt,Option.toList_some]
    refine CpK.next H.out h1 h2 (hb2.trans (hb3.mono hb2.size)) ⟨_,rfl,?_⟩ hR
    exact (hr2.below hb3).weak fun k hk => ⟨hk.1,Nat.lt_of_lt_of_le hk.2 hb3.size⟩
   case measure => simp [intOf]; omega
  ·obtain rfl : k = xs.length := by omega
   rw [List.take_length] at hC
   go_wp2_with fail
   go_ret
   exact ⟨_,rfl,hC⟩
section
variable {D D' : Nat → Prop} {w : World}
mutual
theorem zf0(hD:∀ k,D k→D' k):∀(n:Nd) {vs:List Value} {F:List Nat},OwnN D w n vs F→OwnN D' w n vs F
 | .mk ks cs ns,vs,F,h=>by
  rw [OwnN] at h ⊢
  obtain⟨v1,v2,v3,us1,us2,us3,F3,e1,e2,h1,h2,h3,h4,h5,h6⟩:=h
  exact⟨v1,v2,v3,us1,us2,us3,F3,e1,e2,h1,h2.weak hD,h3,h4.weak hD,h5,zd9 hD ns h6⟩
theorem zd9(hD:∀ k,D k→D' k):∀(ns:List Nd) {vs:List Value} {F:List Nat},zbc D w ns vs F→zbc D' w ns vs F
 | [],vs,F,h=>by rw [zbc] at h ⊢;exact h
 | n::ns,vs,F,h=>by
  rw [zbc] at h ⊢
  obtain⟨us,ws,F1,F2,e1,e2,h1,h2⟩:=h
  exact⟨us,ws,F1,F2,e1,e2,zf0 hD n h1,zd9 hD ns h2⟩
end
end
def zr3 (w:World) (n:Nd) (v:Value) (W:World):Prop :=
 ∃ F,NdAt (fun k=>w.heap.size≤k∧k<W.heap.size∧k ∉ F) W v n F∧(∀ k∈F,w.heap.size≤k)∧Below w.heap.size w W
def CpN (w:World) (v:Value) (xs:List Nd) (W:World):Prop :=
 ∃ us F,zaz 26 3 w v xs.length us W∧zbc (fun k=>w.heap.size≤k∧k<W.heap.size∧k ∉ F∧v.ownBlock≠some k) W xs us F∧F.Nodup∧∀ k∈F,w.heap.size≤k∧v.ownBlock≠some k
theorem CpN.shape {w:World} {v:Value} {xs:List Nd} {W:World}(h:CpN w v xs W) {m:Nat}(hm:xs.length=m):∃ ad cp,v=.slice ad m cp∧m≤cp:=by
 obtain⟨us,F,h1,_⟩:=h
 obtain⟨ad,cp,h2,h3,_⟩:=h1.1.shape
 exact⟨ad,cp,hm▸h2,hm▸h3⟩
theorem CpN.next {w:World} {v v' xv:Value} {xs:List Nd} {x:Nd} {us vs:List Value} {F:List Nat} {W W1 W2 W3:World} {m:Nat} (hm:xs.length=m) (h1:zaz 26 3 w v m vs W) (h2:zbc (fun k=>w.heap.size≤k∧k<W.heap.size∧k ∉ F∧v.ownBlock≠some k) W xs vs F)
  (hF:F.Nodup) (hF2:∀ k∈F,w.heap.size≤k∧v.ownBlock≠some k) (hx:zr3 W x xv W1) (hxu:xv=.agg us.toArray) (hb:Below W1.heap.size W1 W2) (h4:zcc 26 3 W2 v (m+1) (vs++us) v' W3):CpN w v' (xs++[x]) W3:=by
 subst hm
 obtain⟨G,hG1,hG2,hb1⟩:=hx
 obtain⟨us',e,hG3⟩:=hG1.ex
 rw [hxu] at e
 obtain rfl:us'=us:=by injection e with e;simpa using congrArg Array.toList e.symm
 have hb2:Below W.heap.size W W2:=hb1.trans (hb.mono hb1.size)
 have h3:=h1.below hb2
 have s1:=hb1.size
 have s2:=hb.size
 have s3:=h4.2.1.size
 have s0:=h1.2.2.size
 have hFW:=zgl xs h2
 have hGW:=zn6 x hG3
 have hvW:∀ k,W.heap.size≤k→v.ownBlock≠some k:=fun k hk e=>by
  have:=h1.1.lt e
  omega
 have hk3:∀ k,k<W2.heap.size→v.ownBlock≠some k→W3.heap[k]?=W2.heap[k]?:=fun k hk hn=>h4.2.1.block k hk (fun e=>hn e.symm)
 have hnew:∀ k,k<W2.heap.size→v.ownBlock≠some k→v'.ownBlock≠some k:=fun k hk hn e=>by
  rcases h4.2.2 with h5 |⟨q,h5,h6⟩
  ·exact hn (by rw [← h5];exact e)
  ·rw [h5] at e;injection e with e;omega
 refine⟨vs++us',F++G,by simpa using h3.to h4,zbv ?_ (ze5.2 ?_),?_,?_⟩
 ·refine zd9 (D:=fun k=>w.heap.size≤k∧k<W.heap.size∧k ∉ F∧v.ownBlock≠some k) (fun k hk=>⟨hk.1,by omega,fun hm=>?_,hnew k (by omega) hk.2.2.2⟩) xs (zbe (w:=W) xs h2 (fun k hk=>?_) fun k hk=>?_)
  ·exact (hk3 k (by have:=hFW k hk;omega) (hF2 k hk).2).trans (hb2.block k (hFW k hk))
  ·exact (hk3 k (by omega) hk.2.2.2).trans (hb2.block k hk.2.1)
  ·rcases List.mem_append.1 hm with h | h
   ·exact hk.2.2.1 h
   ·have:=hG2 k h;omega
 ·refine zf0 (D:=fun k=>W.heap.size≤k∧k<W1.heap.size∧k ∉ G) (fun k hk=>⟨by omega,by omega,fun hm=>?_,hnew k (by omega) (hvW k hk.1)⟩) x (zg6 (w:=W1) x hG3 (fun k hk=>?_) fun k hk=>?_)
  ·exact (hk3 k (by have:=hGW k hk;omega) (hvW k (hG2 k hk))).trans (hb.block k (hGW k hk))
  ·exact (hk3 k (by omega) (hvW k hk.1)).trans (hb.block k hk.2.1)
  ·rcases List.mem_append.1 hm with h | h
   ·have:=hFW k h;omega
   ·exact hk.2.2 h
 ·rw [List.nodup_append]
  exact⟨hF,hG1.nodup,fun a ha b hb e=>by have:=hFW a ha;have:=hG2 b hb;omega⟩
 ·intro k hk
  rcases List.mem_append.1 hk with h | h
  ·have:=hFW k h
   exact⟨(hF2 k h).1,hnew k (by omega) (hF2 k h).2⟩
  ·have h5:=hG2 k h
   have:=hGW k h
   exact⟨by omega,hnew k (by omega) (hvW k h5)⟩
section
variable {ops : Array Oper} {rest : List Oper} {o : Oper} {a : Act} {Q : Exit → Act → World → Prop} {w : World} {K : Act → World → Prop}
theorem zcn (ho : o.op = .alloc 26) (hgd : Region.wanted o (yielded ops a.tmps) = true) (h : ∀ w',Below w.heap.size w w' → TriV w' w.heap.size 26 (.slice none 0 0) (.slice none 0 0) (.slice none 0 0) → wpList Tryz.prog ops Q rest (a.put o.dst (.pointer (some ⟨w.heap.size,0,none⟩))) w') : wpList Tryz.prog ops Q (o :: rest) a w :=
 BigFrame.wpList_want hgd fun _ hK => zes ho fun w' h1 h2 => hK _ _ (h w' h1 h2)
theorem zb2 {x y : Operand} {b : Nat} {u v r p q s : Value} (ho : o.op = .store 26 x y) (hx : a.eval x = .pointer (some ⟨b,0,none⟩)) (hy : a.eval y = .agg #[u,v,r]) (hu1 : u.oneCell' = true) (hv1 : v.oneCell' = true) (hr1 : r.oneCell' = true)
  (t0 : TriV w b 26 p q s) (h : ∀ w',w.grownBy w' (some b) → TriV w' b 26 u v r → K (a.put o.dst undef) w') : o.wp Tryz.prog a w K Q := by
 have hs : (Tryz.prog.info? 26).map (·.size) = some 3 := ndS.hs
 have g0 : ∀ (W : World) (j : Nat) (e : Value) (p q s : Value),TriV W b 26 p q s → W.frozen? ⟨b,j,none⟩ = false := fun W j e p q s h => by simp [World.frozen?,show W.heap[b]? = _ from h]
 have t1 : TriV (w.setCell ⟨b,0,none⟩ u) b 26 u q s := by
  unfold TriV at t0 ⊢
  simp only [World.setCell,Array.getElem?_modify,t0]
  simp
 have t2 : TriV ((w.setCell ⟨b,0,none⟩ u).setCell ⟨b,1,none⟩ v) b 26 u v s := by
  unfold TriV at t1 ⊢
  rw [World.setCell]
  simp only [Array.getElem?_modify,t1]
  simp
 have t3 : TriV (((w.setCell ⟨b,0,none⟩ u).setCell ⟨b,1,none⟩ v).setCell ⟨b,2,none⟩ r) b 26 u v r := by
  unfold TriV at t2 ⊢
  rw [World.setCell]
  simp only [Array.getElem?_modify,t2]
  simp
 have hg : w.grownBy (((w.setCell ⟨b,0,none⟩ u).setCell ⟨b,1,none⟩ v).setCell ⟨b,2,none⟩ r) (some b) := ⟨rfl,rfl,rfl,by simp [World.setCell],fun k _ hk => by
  have hkb : k ≠ b := fun e => hk (by rw [e])
  exact (heap_setCell_other _ ⟨b,2,none⟩ k r hkb).trans ((heap_setCell_other _ ⟨b,1,none⟩ k v hkb).trans (heap_setCell_other _ ⟨b,0,none⟩ k u hkb))⟩
 refine zep ?_ (h _ hg t3)
 simp only [execOp,ho,hx,hy]
 simp [Instr.storeAt,storeVar,zck hs,storeCells,Value.cells,run_store _ _ _ _ _ hu1,run_store _ _ _ _ _ hv1,run_store _ _ _ _ _ hr1,t0.cell0,t1.cell1,t2.cell2,g0 _ _ u _ _ _ t0,g0 _ _ u _ _ _ t1,g0 _ _ u _ _ _ t2,Addr.add,go_sem]
theorem zaf {x y : Operand} {b : Nat} {u v r p q s : Value} (ho : o.op = .store 26 x y) (hd : o.dst = none) (hgd : Region.wanted o (yielded ops a.tmps) = true) (hx : a.eval x = .pointer (some ⟨b,0,none⟩)) (hy : a.eval y = .agg #[u,v,r]) (hu1 : u.oneCell' = true) (hv1 : v.oneCell' = true) (hr1 : r.oneCell' = true)
  (t0 : TriV w b 26 p q s) (h : ∀ w',w.grownBy w' (some b) → TriV w' b 26 u v r → wpList Tryz.prog ops Q rest a w') : wpList Tryz.prog ops Q (o :: rest) a w :=
 BigFrame.wpList_want hgd fun _ hK => zb2 ho hx hy hu1 hv1 hr1 t0 fun w' h1 h2 => hK _ _ (by rw [hd]; exact h w' h1 h2)
end
theorem each_n (w : World) {S : Nat → Prop} {a : Option Addr} {n c : Nat} {xs : List Nd} (hl : RdL Elt.nd S w (.slice a n c) xs) (hn : n ≤ 1000000) (F : FuncId) (hE : Enters Tryz.prog F)
  (hF : ∀ (W : World) (r : Nat) (hr : r < xs.length) (v : Value),Below w.heap.size w W → RdN S W v xs[r] → Calls Tryz.prog F #[v] W (fun e W' => ∃ v',e = .returned v' ∧ zr3 W xs[r] v' W')) :
  Calls Tryz.prog 92 #[.slice a n c,.func (.func F) #[] #[]] w fun e W => ∃ v,e = .returned v ∧ CpN w v xs W := by
 obtain ⟨rfl,hnc,hcm⟩ := hl.len
 have hlm : xs.length ≤ 1073741824 := by omega
 have hEE := hE
 unfold Enters at hEE
 go_enter Tryz.func92,Tryz.ntmps92
 go_upto_region 3 with (go_big_may; first
  | (refine zet ndP rfl rfl rfl rfl rfl hlm ?_; intro w1 hr1 hb1)
  | fail)
 have hc1 : CpN w (.slice (some ⟨w.heap.size,0,none⟩) 0 xs.length) (xs.take 0) w1 := ⟨[],[],⟨hr1,fun k hk => by simp [Value.ownBlock] at hk; omega,hb1⟩,owns_nil,List.nodup_nil,fun _ h => by cases h⟩
 clear hr1
 go_loopw [5,13] (fun vv iv wr => ∃ k : Nat,k ≤ xs.length ∧ iv = .int .i64 k ∧ CpN w vv (xs.take k) wr) (fun _ i _ => xs.length - (intOf i).toNat)
 case atStart => exact ⟨0,Nat.zero_le _,rfl,hc1⟩
 case round =>
  clear hc1 hb1
  obtain ⟨k,hk,rfl,hC⟩ := hrel
  have hkl : (xs.take k).length = k := by rw [List.length_take]; omega
  obtain ⟨ad,cp,rfl,hcp⟩ := hC.shape hkl
  obtain ⟨vs,F1,h1,h2,h3,h4⟩ := hC
  rw [hkl] at h1
  have hbw := h1.2.2
  rcases Nat.lt_or_ge k xs.length with hlt | hge
  ·obtain ⟨b,off,a1,c1,a2,c2,a3,c3,rfl,hc0,hc1,hc2,hr⟩ := (hl.below hbw).kid k hlt
   have H := Lib.hid hkl
   clear hkl
   go_wp2_with (go_big_may; first
    | (refine zcn rfl rfl ?_; intro w2 hb2 ht2)
    | (refine zaf rfl rfl rfl rfl rfl rfl rfl rfl ht2 ?_; intro w3 hg3 ht3; have ht30 := ht3.cell0; have ht31 := ht3.cell1; have ht32 := ht3.cell2)
    | fail)
   have hb3 : Below wr.heap.size wr w3 := hb2.grown hg3 hb2.size fun k hk => by injection hk with hk; omega
   have q3 := hbw.trans (hb3.mono hbw.size)
   refine (hF w3 k hlt _ q3 (hr.below hb3)).mono ?_
   rintro e w4 ⟨v4,rfl,hN⟩
   obtain ⟨G,hG1,hG2,hb4⟩ := hN
   obtain ⟨us4,rfl,hG3⟩ := hG1.ex
   have hN : zr3 w3 xs[k] (.agg us4.toArray) w4 := ⟨G,hG1,hG2,hb4⟩
   have h1' := h1.below hb3
   have h5 := (h1'.below hb4).1
   have hul := zmw hG3
   have huo := (zj0 (wN xs[k]) (Nat.le_refl _) hG3 (S := fun _ => True) (fun _ _ => trivial) (fun _ _ => trivial))
   have huo := Elt.nd.one huo
   have huc : (Value.agg us4.toArray).cells = us4.toArray := rfl
   clear ht30 ht31 ht32
   go_wp2_with (go_big_may; first
    | (refine zdj ndP rfl rfl rfl (us := us4) huc hul (by omega) (by omega) ?_; intro w5 hg5 hb5)
    | (refine zcw ndP (by omega) rfl rfl (v := .slice ad k cp) rfl (h5.below hb5) rfl (m := 1) (cs := us4) (by rw [hul]) (zba hg5) huo (by omega) ?_; intro ad' cap' w6 hR)
    | fail)
   go_roundw
   case rel =>
    refine ⟨k + 1,by omega,by go_num,?_⟩
    rw [List.take_add_one,List.getElem?_eq_getElem hlt,Option.toList_some]
    refine CpN.next H.out h1' ?_ h3 h4 hN rfl hb5 hR
    exact zd9 (fun k hk => ⟨hk.1,Nat.lt_of_lt_of_le hk.2.1 hb3.size,hk.2.2⟩) _ (zbe _ h2 (fun k hk => hb3.block k (zgl _ h2 k hk)) fun k hk => hb3.block k hk.2.1)
   case measure => simp [intOf]; omega
  ·obtain rfl : k = xs.length := by omega
   rw [List.take_length] at h2
   go_wp2_with fail
   go_ret
   exact ⟨_,rfl,vs,F1,h1,h2,h3,h4⟩
def NodeR (Q:Nd→Nat→Prop) (S:Nat→Prop) (w:World) (v e:Value):Prop:=∃ n er,e=.int .i64 (er:Nat)∧Q n er∧RdN S w v n
def NodeB (w:World) (b:Nat) (v:Value):Prop:=∃ x y z,v=.agg #[x,y,z]∧TriV w b 26 x y z
theorem nodeR (Q:Nd→Nat→Prop):RdP (NodeR Q) where
 keep:=fun⟨n,er,e,hq,h⟩hk=>⟨n,er,e,hq,h.keep hk⟩
 weak:=fun⟨n,er,e,hq,h⟩hk=>⟨n,er,e,hq,h.weak hk⟩
def KeyW (k:List UInt8) (S:Nat→Prop) (w:World) (u:Value):Prop:=∃ a c,u=.slice a k.length c∧RdS S w (.slice a k.length c) k
def VerW (l:List Ver) (S:Nat→Prop) (w:World) (u:Value):Prop:=∃ a c,u=.slice a l.length c∧RdL Elt.ver S w (.slice a l.length c) l
theorem stays (Q:Nd→Nat→Prop) (k:List UInt8) (l:List Ver):zpm (NodeR Q) NodeB (KeyW k) (VerW l) where
 toRdP:=nodeR Q
 bx:=fun⟨x,y,z,e,h⟩hb=>⟨x,y,z,e,h.below hb h.lt⟩
 s1:=fun⟨a,c,e,h⟩hb=>⟨a,c,e,h.keep hb⟩
 w1:=fun⟨a,c,e,h⟩hb=>⟨a,c,e,h.weak hb⟩
 s2:=fun⟨a,c,e,h⟩hb=>⟨a,c,e,h.keep hb⟩
 w2:=fun⟨a,c,e,h⟩hb=>⟨a,c,e,h.weak hb⟩
theorem CbS.err {hk:Bool} {C0:Array Value} {E0:TypeId} {Q:Nd→Nat→Prop} {Z:Obj} {Bx:World→Nat→Value→Prop} {K1 K2:(Nat→Prop)→World→Value→Prop} {W w:World} {o0 o1 o2 c m x z s:Option Value} {u:Value} {e0:Nat}
  (h:CbS hk C0 E0 (NodeR Q) Z Bx K1 K2 W o0 o1 o2 c m x (some u) z s w) (hq:∀ n er,Q n er→er=e0):u=.int .i64 (e0:Nat):=by
 obtain⟨v,e1⟩:=h.my u rfl
 obtain⟨v',e',e2,n,er,e3,hQ,_⟩:=h.rr _ (h.mv _ e1)
 injection e2 with e2
 injection e2 with e2
 injection e2 with _ e2
 injection e2 with e2 _
 rw [e2,e3,hq n er hQ]
theorem zbx (w:World) (t:TypeId) (u v r u' v' r':Value):∃ W,W=(w.alloc (.cells #[u,v,r] t)).alloc (.cells #[u',v',r'] t)∧Below w.heap.size w W∧TriV W w.heap.size t u v r∧TriV W (w.heap.size+1) t u' v' r'∧W.heap.size=w.heap.size+1+1:=by
 have h1:Below w.heap.size w (w.alloc (.cells #[u,v,r] t)):=(Below.refl _ _).alloc (Nat.le_refl _) _
 have s1:(w.alloc (.cells #[u,v,r] t)).heap.size=w.heap.size+1:=World.size_alloc _ _
 have b1:=TriV.new w t u v r
 generalize w.alloc (.cells #[u,v,r] t)=w1 at *
 have h2:Below w1.heap.size w1 (w1.alloc (.cells #[u',v',r'] t)):=(Below.refl _ _).alloc (Nat.le_refl _) _
 have s2:(w1.alloc (.cells #[u',v',r'] t)).heap.size=w1.heap.size+1:=World.size_alloc _ _
 have b2:=TriV.new w1 t u' v' r'
 rw [s1] at b2 s2
 exact⟨_,rfl,h1.trans (h2.mono h1.size),b1.below h2 b1.lt,b2,s2⟩
theorem CpK.below {α:Type} {E:Elt α} {Te:TypeId} {w:World} {v:Value} {xs:List α} {W W':World}(h:CpK E Te w v xs W)(hb:Below W.heap.size W W'):CpK E Te w v xs W':=by
 obtain⟨us,h1,h2⟩:=h
 exact⟨us,h1.below hb,(h2.keep fun k hk=>hb.block k hk.2.1).weak fun k hk=>⟨hk.1,Nat.lt_of_lt_of_le hk.2.1 hb.size,hk.2.2⟩⟩
theorem CpN.below {w:World} {v:Value} {xs:List Nd} {W W':World} (h:CpN w v xs W) (hb:Below W.heap.size W W'):CpN w v xs W':=by
 obtain⟨us,F,h1,h2,h3,h4⟩:=h
 refine⟨us,F,h1.below hb,?_,h3,h4⟩
 exact zd9 (fun k hk=>⟨hk.1,Nat.lt_of_lt_of_le hk.2.1 hb.size,hk.2.2⟩) _ (zbe _ h2 (fun k hk=>hb.block k (zgl _ h2 k hk)) fun k hk=>hb.block k hk.2.1)
def zcz (lo:Nat) (W:World) (n:Nd) (v:Value):Prop:=∃ F,NdAt (fun k=>lo≤k∧k<W.heap.size∧k ∉ F) W v n F∧∀ k∈F,lo≤k
theorem zcz.keep {lo:Nat} {W W':World} {n:Nd} {v:Value} (h:zcz lo W n v) (hs:W.heap.size≤W'.heap.size) (hk:∀ k,lo≤k→k<W.heap.size→W'.heap[k]?=W.heap[k]?):zcz lo W' n v:=by
 obtain⟨F,h1,h2⟩:=h
 obtain⟨vs,e,h3⟩:=h1.ex
 have hF:=zn6 n h3
 refine⟨F,⟨⟨vs,e,zf0 (fun k hk=>⟨hk.1,Nat.lt_of_lt_of_le hk.2.1 hs,hk.2.2⟩) n (zg6 n h3 (fun k hm=>hk k (h2 k hm) (hF k hm)) fun k hd=>hk k hd.1 hd.2.1)⟩,h1.nodup,fun k hm hd=>hd.2.2 hm,fun k hd=>hd.2.1⟩,h2⟩
theorem zcz.of {w1 Wa Wb W:World} {n:Nd} {a b c:Value} (ha:CpK Elt.bytes 30 w1 a n.keys Wa) (hb:CpK (Elt.list Elt.ver) 70 Wa b n.chains Wb) (hc:CpN Wb c n.kids W):zcz w1.heap.size W n (.agg #[a,b,c]):=by
 obtain⟨ua,ha1,ha2⟩:=ha
 obtain⟨ub,hb1,hb2⟩:=hb
 obtain⟨uc,F,hc1,hc2,hc3,hc4⟩:=hc
 have sa:=ha1.2.2.size
 have sb:=hb1.2.2.size
 have sc:=hc1.2.2.size
 have qa:∀ k,k<Wa.heap.size→W.heap[k]?=Wa.heap[k]?:=fun k hk=>(hc1.2.2.block k (by omega)).trans (hb1.2.2.block k hk)
 have qb:∀ k,k<Wb.heap.size→W.heap[k]?=Wb.heap[k]?:=fun k hk=>hc1.2.2.block k hk
 have hF:=zgl _ hc2
 have la:∀ k,a.ownBlock=some k→w1.heap.size≤k∧k<Wa.heap.size:=fun k hk=>⟨ha1.2.1 k hk,ha1.1.lt hk⟩
 have lb:∀ k,b.ownBlock=some k→Wa.heap.size≤k∧k<Wb.heap.size:=fun k hk=>⟨hb1.2.1 k hk,hb1.1.lt hk⟩
 have lc:∀ k,c.ownBlock=some k→Wb.heap.size≤k∧k<W.heap.size:=fun k hk=>⟨hc1.2.1 k hk,hc1.1.lt hk⟩
 have lF:∀ k∈F,Wb.heap.size≤k∧k<W.heap.size:=fun k hk=>⟨(hc4 k hk).1,hF k hk⟩
 have hm:∀ k,k∈zah a++zah b++zah c++F↔(a.ownBlock=some k∨b.ownBlock=some k∨c.ownBlock=some k∨k∈F):=fun k=>by
  simp only [List.mem_append,zb8]
  constructor
  ·rintro (((h | h) | h) | h)
   ·exact .inl h
   ·exact .inr (.inl h)
   ·exact .inr (.inr (.inl h))
   ·exact .inr (.inr (.inr h))
  ·rintro (h | h | h | h)
   ·exact .inl (.inl (.inl h))
   ·exact .inl (.inl (.inr h))
   ·exact .inl (.inr h)
   ·exact .inr h
 refine⟨zah a++zah b++zah c++F,⟨⟨[a,b,c],rfl,?_⟩,?_,fun k hk hd=>hd.2.2 hk,fun k hd=>hd.2.1⟩,fun k hk=>?_⟩
 ·rw [zel]
  refine⟨a,b,c,ua,ub,uc,F,rfl,rfl,ha1.1.kept fun k hk=>qa k (la k hk).2,(ha2.keep fun k hk=>qa k hk.2.1).weak fun k hk=>⟨hk.1,by omega,?_⟩,hb1.1.kept fun k hk=>qb k (lb k hk).2,(hb2.keep fun k hk=>qb k hk.2.1).weak fun k hk=>⟨by omega,by omega,?_⟩,hc1.1,zd9 (fun k hk=>⟨by omega,hk.2.1,?_⟩) _ hc2⟩
  ·rw [hm]
   rintro (h | h | h | h)
   ·exact hk.2.2 h
   ·have:=lb k h;omega
   ·have:=lc k h;omega
   ·have:=lF k h;omega
  ·rw [hm]
   rintro (h | h | h | h)
   ·have:=la k h;omega
   ·exact hk.2.2 h
   ·have:=lc k h;omega
   ·have:=lF k h;omega
  ·rw [hm]
   rintro (h | h | h | h)
   ·have:=la k h;omega
   ·have:=lb k h;omega
   ·exact hk.2.2.2 h
   ·exact hk.2.2.1 h
 ·simp only [List.nodup_append,zic,hc3,List.mem_append,zb8,true_and]
  refine⟨⟨fun x hx y hy e=>?_,fun x hx y hy e=>?_⟩,fun x hx y hy e=>?_⟩
  ·have:=la x hx;have:=lb y hy;omega
  ·have:=lc y hy
   rcases hx with hx | hx
   ·have:=la x hx;omega
   ·have:=lb x hx;omega
  ·subst e
   rcases hx with (hx | hx) | hx
   ·have:=la x hx;have:=lF x hy;omega
   ·have:=lb x hx;have:=lF x hy;omega
   ·exact (hc4 x hy).2 hx
 ·rw [hm] at hk
  rcases hk with h | h | h | h
  ·exact (la k h).1
  ·have:=lb k h;omega
  ·have:=lc k h;omega
  ·have:=lF k h;omega
def zha (N:Nat):Prop:=∀ (n:Nd) (w:World) {S:Nat→Prop} {v:Value},wN n≤N→wN n≤100000→bndN n→RdN S w v n→Calls Tryz.prog 80 #[v] w fun e W=>∃ v',e=.returned v'∧zr3 w n v' W
def CopJ (w1:World) (n:Nd) (bx:Nat):List Value→World→Prop
 | [],W=>Below w1.heap.size w1 W
 | [a],W=>CpK Elt.bytes 30 w1 a n.keys W
 | [a,b],W=>∃ Wa,CpK Elt.bytes 30 w1 a n.keys Wa∧CpK (Elt.list Elt.ver) 70 Wa b n.chains W
 | [a,b,c],W=>∃ Wa Wb,CpK Elt.bytes 30 w1 a n.keys Wa∧CpK (Elt.list Elt.ver) 70 Wa b n.chains Wb∧CpN Wb c n.kids W
 | _,W=>∃ x y z,TriV W bx 26 x y z∧zcz w1.heap.size W n (.agg #[x,y,z])∧Trd (·=bx) w1 W
theorem CpK.from {α:Type} {E:Elt α} {Te:TypeId} {w0 w:World} {v:Value} {xs:List α} {W:World} (h:CpK E Te w v xs W) (hb:Below w0.heap.size w0 w):CpK E Te w0 v xs W:=by
 obtain⟨us,h1,h2⟩:=h
 exact⟨us,⟨h1.1,fun k hk=>Nat.le_trans hb.size (h1.2.1 k hk),hb.trans (h1.2.2.mono hb.size)⟩,h2.weak fun k hk=>⟨Nat.le_trans hb.size hk.1,hk.2⟩⟩
theorem zcz.tri {lo:Nat} {W:World} {n:Nd} {v:Value} (h:zcz lo W n v):∃ x y z,v=.agg #[x,y,z]∧(x.oneCell'=true∧y.oneCell'=true∧z.oneCell'=true)∧x.cells=#[x]∧y.cells=#[y]∧z.cells=#[z]:=by
 obtain⟨F,h1,_⟩:=h
 obtain⟨vs,rfl,h2⟩:=h1.ex
 rw [zel] at h2
 obtain⟨x,y,z,_,_,_,_,rfl,_,h3,_,h4,_,h5,_⟩:=h2
 obtain⟨_,_,rfl,_⟩:=h3.shape
 obtain⟨_,_,rfl,_⟩:=h4.shape
 obtain⟨_,_,rfl,_⟩:=h5.shape
 exact⟨_,_,_,rfl,⟨rfl,rfl,rfl⟩,rfl,rfl,rfl⟩
theorem zcz.nd {w W:World} {lo:Nat} {n:Nd} {v:Value} (h:zcz lo W n v) (hlo:w.heap.size≤lo) (hb:Below w.heap.size w W):zr3 w n v W:=by
 obtain⟨F,h1,h2⟩:=h
 obtain⟨vs,e,h3⟩:=h1.ex
 exact⟨F,⟨⟨vs,e,zf0 (fun k hk=>⟨by omega,hk.2⟩) n h3⟩,h1.nodup,fun k hm hd=>hd.2.2 hm,fun k hd=>hd.2.1⟩,fun k hk=>Nat.le_trans hlo (h2 k hk),hb⟩
theorem CpK.base {α:Type} {E:Elt α} {Te:TypeId} {w:World} {v:Value} {xs:List α} {W:World}(h:CpK E Te w v xs W):Below w.heap.size w W:=by
 obtain⟨us,h1,_⟩:=h
 exact h1.2.2
theorem CpN.base {w:World} {v:Value} {xs:List Nd} {W:World}(h:CpN w v xs W):Below w.heap.size w W:=by
 obtain⟨us,F,h1,_⟩:=h
 exact h1.2.2
theorem CopJ.trd {w1:World} {n:Nd} {bx:Nat}:∀ {l:List Value} {W:World},CopJ w1 n bx l W→Trd (·=bx) w1 W
 | [],_,h=>Trd.of h
 | [_],_,h=>Trd.of (CpK.base h)
 | [_,_],_,⟨_,h1,h2⟩=>Trd.of (h1.base.trans (h2.base.mono h1.base.size))
 | [_,_,_],_,⟨_,_,h1,h2,h3⟩=>Trd.of ((h1.base.trans (h2.base.mono h1.base.size)).trans (h3.base.mono (h1.base.trans (h2.base.mono h1.base.size)).size))
 | _::_::_::_::_,_,⟨_,_,_,_,_,h⟩=>h
theorem CopJ.below {w1:World} {n:Nd} {bx:Nat}:∀ (l:List Value) (W W':World),CopJ w1 n bx l W→Below W.heap.size W W'→CopJ w1 n bx l W'
 | [],_,_,h,hb=>Below.trans h (hb.mono (Below.size h))
 | [_],_,_,h,hb=>CpK.below h hb
 | [_,_],_,_,⟨Wa,h1,h2⟩,hb=>⟨Wa,h1,h2.below hb⟩
 | [_,_,_],_,_,⟨Wa,Wb,h1,h2,h3⟩,hb=>⟨Wa,Wb,h1,h2,h3.below hb⟩
 | _::_::_::_::_,_,_,⟨x,y,z,h1,h2,h3⟩,hb=>⟨x,y,z,h1.below hb h1.lt,h2.keep hb.size fun k _ hk=>hb.block k hk,h3.trans (Trd.of (F:=(·=bx)) hb) fun _ _ h=>h⟩
def cNew (w1:World) (n:Nd) (bx:Nat) (hbx:bx<w1.heap.size):SGn (fun A B=>Trd (·=bx) A B) :=
 ⟨fun W v=>zcz w1.heap.size W n v,fun _ _ _ h hb=>h.keep hb.size fun k _ hk=>hb.block k hk,fun _ _ _ h hk=>h.keep hk.size fun k hl hlt=>hk.block k hlt (by omega)⟩
theorem znf (N : Nat) (ih : zha N) : zha (N + 1) := by
 intro n w S v hN hbig hbd hr
 unfold zha at ih
 have hwp := zg3 n
 obtain ⟨hbk,hbc,hbn⟩ := (zfb n).1 hbd
 obtain ⟨a1,c1,a2,c2,a3,c3,rfl,r1,r2,r3⟩ := hr
 obtain ⟨W,hW,q,bn,bz,hsz⟩ := zbx w 26 (.slice a1 n.keys.length c1) (.slice a2 n.chains.length c2) (.slice a3 n.kids.length c3) (.slice none 0 0) (.slice none 0 0) (.slice none 0 0)
 have ekk : ∀ args w,(callFunc 90 args).run Tryz.prog w = .ok (.enter 90 args) w := enters_of Tryz.func90 (by kernel_rfl) rfl
 have ekc : ∀ args w,(callFunc 91 args).run Tryz.prog w = .ok (.enter 91 args) w := enters_of Tryz.func91 (by kernel_rfl) rfl
 have ekn : ∀ args w,(callFunc 92 args).run Tryz.prog w = .ok (.enter 92 args) w := enters_of Tryz.func92 (by kernel_rfl) rfl
 have ef1 : Enters Tryz.prog 57 := enters_of Tryz.func57 (by kernel_rfl) rfl
 have ef2 : Enters Tryz.prog 55 := enters_of Tryz.func55 (by kernel_rfl) rfl
 have ef3 : Enters Tryz.prog 80 := enters_of Tryz.func80 (by kernel_rfl) rfl
 go_enter Tryz.func80,Tryz.ntmps80
 go_upto_region 1 with (fail)
 rw [← hW]
 clear hW
 have hbx : w.heap.size + 1 < W.heap.size := by omega
 have r1' := r1.below q
 have r2' := r2.below q
 have r3' := r3.below q
 have hRD : ∀ l W',CopJ W n (w.heap.size + 1) l W' → TriV W' w.heap.size 26 (.slice a1 n.keys.length c1) (.slice a2 n.chains.length c2) (.slice a3 n.kids.length c3) := fun l W' h => (h.trd.block _ (by omega) (by omega)).trans bn
 refine zao (K := fun A B => Trd (· = w.heap.size + 1) A B) (by kernel_rfl) (by kernel_rfl) [2,5,8,10] (by kernel_rfl) [lEq (.pointer (some ⟨w.heap.size,0 + 0,none⟩)),lEq (.slice a1 n.keys.length c1),lAny,lEq (.pointer (some ⟨w.heap.size,0 + 1,none⟩)),lEq (.slice a2 n.chains.length c2),lAny,lEq (.pointer (some ⟨w.heap.size,0 + 2,none⟩)),lEq (.slice a3 n.kids.length c3),lAny,cNew W n (w.heap.size + 1) hbx,lAny] (CopJ W n (w.heap.size + 1)) CopJ.below (show Below W.heap.size W W from Below.refl _ _)
  ⟨?o0,?o1,?o2,?o3,?o4,?o5,?o6,?o7,?o8,?o9,?o10,trivial⟩ ?fin
 case o0 =>
  refine LnOp.side rfl (by kernel_rfl) (fun A va w' k hF hT hk hJ hb hu hp hd => ?_)
  have e1 : A.eval (.tmp 1) = .pointer (some ⟨w.heap.size,0,none⟩) := hF 1 rfl
  exact zai ndS rfl (e1) (by omega) ⟨_,rfl,rfl,Below.refl _ _⟩
 case o1 =>
  refine LnOp.side rfl (by kernel_rfl) (fun A va w' k hF hT hk hJ hb hu hp hd => ?_)
  have e1 : A.eval (.tmp 3) = .pointer (some ⟨w.heap.size,0 + 0,none⟩) := (hT 3 0 (by simp) rfl).trans (hd ⟨0,.data⟩ (by simp) rfl rfl)
  exact zad (e := 30) rfl (e1) (by kernel_rfl) ((hRD _ _ hJ).cell0) ⟨_,rfl,rfl,Below.refl _ _⟩
 case o2 =>
  refine LnOp.line 0 rfl rfl (fun A va w' hF hT hJ hu hd => ?_)
  have e1 : A.eval (.tmp 4) = .slice a1 n.keys.length c1 := (hT 4 1 (by simp) rfl).trans (hd ⟨1,.data⟩ (by simp) rfl rfl)
  refine zak rfl ekk (by simp only [List.map_toArray,List.map_cons,List.map_nil,e1,BigFrame.eval_func]) ((each_k w' (r1'.below hJ) (by omega) 57 ef1 (fun W3 r hr A C hb3 hrd => ?_)).mono ?_)
  ·refine (ze1 W3 hrd.rd (Nat.le_refl _) (by have := hbk _ (List.getElem_mem hr); omega)).mono ?_
   rintro e W4 ⟨ad',k',c',rfl,hf⟩
   have hrs := hf.2.rdS
   obtain ⟨rfl,_,_⟩ := hrs.len
   exact ⟨_,_,rfl,hrs,hf.1⟩
  ·rintro e W4 ⟨v,rfl,hc⟩
   have hJ' : Below W.heap.size W w' := hJ
   exact ⟨_,rfl,_,rfl,hc.from hJ',Trd.of hc.base⟩
 case o3 =>
  refine LnOp.side rfl (by kernel_rfl) (fun A va w' k hF hT hk hJ hb hu hp hd => ?_)
  have e1 : A.eval (.tmp 1) = .pointer (some ⟨w.heap.size,0,none⟩) := hF 1 rfl
  exact zai ndS rfl (e1) (by omega) ⟨_,rfl,rfl,Below.refl _ _⟩
 case o4 =>
  refine LnOp.side rfl (by kernel_rfl) (fun A va w' k hF hT hk hJ hb hu hp hd => ?_)
  have e1 : A.eval (.tmp 6) = .pointer (some ⟨w.heap.size,0 + 1,none⟩) := (hT 6 3 (by simp) rfl).trans (hd ⟨3,.data⟩ (by simp) rfl rfl)
  exact zad (e := 70) rfl (e1) (by kernel_rfl) ((hRD _ _ hJ).cell1) ⟨_,rfl,rfl,Below.refl _ _⟩
 case o5 =>
  refine LnOp.line 1 rfl rfl (fun A va w' hF hT hJ hu hd => ?_)
  have e1 : A.eval (.tmp 7) = .slice a2 n.chains.length c2 := (hT 7 4 (by simp) rfl).trans (hd ⟨4,.data⟩ (by simp) rfl rfl)
  have hq : Below W.heap.size W w' := CpK.base hJ
  refine zak rfl ekc (by simp only [List.map_toArray,List.map_cons,List.map_nil,e1,BigFrame.eval_func]) ((each_c w' (r2'.below hq) (by omega) 55 ef2 (fun W3 r hr A C hb3 hrd => ?_)).mono ?_)
  ·refine (zew W3 hrd (hbc _ (List.getElem_mem hr))).mono ?_
   rintro e W4 ⟨ad',c',rfl,h1,h2⟩
   exact ⟨_,_,rfl,h1,h2⟩
  ·rintro e W4 ⟨v,rfl,hc⟩
   exact ⟨_,rfl,_,rfl,⟨w',hJ,hc⟩,Trd.of hc.base⟩
 case o6 =>
  refine LnOp.side rfl (by kernel_rfl) (fun A va w' k hF hT hk hJ hb hu hp hd => ?_)
  have e1 : A.eval (.tmp 1) = .pointer (some ⟨w.heap.size,0,none⟩) := hF 1 rfl
  exact zai ndS rfl (e1) (by omega) ⟨_,rfl,rfl,Below.refl _ _⟩
 case o7 =>
  refine LnOp.side rfl (by kernel_rfl) (fun A va w' k hF hT hk hJ hb hu hp hd => ?_)
  have e1 : A.eval (.tmp 9) = .pointer (some ⟨w.heap.size,0 + 2,none⟩) := (hT 9 6 (by simp) rfl).trans (hd ⟨6,.data⟩ (by simp) rfl rfl)
  exact zad (e := 26) rfl (e1) (by kernel_rfl) ((hRD _ _ hJ).cell2) ⟨_,rfl,rfl,Below.refl _ _⟩
 case o8 =>
  refine LnOp.line 2 rfl rfl (fun A va w' hF hT hJ hu hd => ?_)
  have e1 : A.eval (.tmp 10) = .slice a3 n.kids.length c3 := (hT 10 7 (by simp) rfl).trans (hd ⟨7,.data⟩ (by simp) rfl rfl)
  obtain ⟨Wa,hJ1,hJ2⟩ := hJ
  have hq : Below W.heap.size W w' := hJ1.base.trans (hJ2.base.mono hJ1.base.size)
  refine zak rfl ekn (by simp only [List.map_toArray,List.map_cons,List.map_nil,e1,BigFrame.eval_func]) ((each_n w' (r3'.below hq) (by omega) 80 ef3 (fun W3 r hr v hb3 hrd => ?_)).mono ?_)
  ·have := zev (List.getElem_mem hr)
   exact ih _ W3 (by omega) (by omega) (hbn _ (List.getElem_mem hr)) hrd
  ·rintro e W4 ⟨v,rfl,hc⟩
   exact ⟨_,rfl,_,rfl,⟨Wa,w',hJ1,hJ2,hc⟩,Trd.of hc.base⟩
 case o9 =>
  refine LnOp.side rfl (by kernel_rfl) (fun A va w' k hF hT hk hJ hb hu hp hd => ?_)
  have x1 : A.eval (.tmp 5) = va 2 := hT 5 2 (by simp) rfl
  have x2 : A.eval (.tmp 8) = va 5 := hT 8 5 (by simp) rfl
  have x3 : A.eval (.tmp 11) = va 8 := hT 11 8 (by simp) rfl
  obtain rfl : k = 3 := by
   have h1 := hp ⟨8,.data⟩ (by simp) rfl 2 rfl
   have h2 := hb 3 10 rfl (by kernel_rfl)
   omega
  obtain ⟨Wa,Wb,hJ1,hJ2,hJ3⟩ := hJ
  have hn := zcz.of hJ1 hJ2 hJ3
  obtain ⟨x,y,z,e,_,hx1,hy1,hz1⟩ := hn.tri
  injection e with e
  simp only [Array.mk.injEq,List.cons.injEq,and_true] at e
  obtain ⟨rfl,rfl,rfl⟩ := e
  exact zer ndS rfl x1 x2 x3 hx1 hy1 hz1 ⟨_,rfl,hn,Below.refl _ _⟩
 case o10 =>
  refine LnOp.line 3 rfl rfl (fun A va w' hF hT hJ hu hd => ?_)
  have e1 : A.eval (.tmp 2) = .pointer (some ⟨w.heap.size + 1,0,none⟩) := hF 2 rfl
  have x2 : A.eval (.tmp 12) = va 9 := hT 12 9 (by simp) rfl
  have y2 := hd ⟨9,.data⟩ (by simp) rfl rfl
  have hn : zcz W.heap.size w' n (va 9) := y2
  obtain ⟨Wa,Wb,hJ1,hJ2,hJ3⟩ := hJ
  have hq : Below W.heap.size W w' := (hJ1.base.trans (hJ2.base.mono hJ1.base.size)).trans (hJ3.base.mono (hJ1.base.trans (hJ2.base.mono hJ1.base.size)).size)
  obtain ⟨x,y,z,e,⟨hx1,hy1,hz1⟩,_⟩ := hn.tri
  refine zb2 rfl e1 (x2.trans e) hx1 hy1 hz1 (bz.below hq (by omega)) (fun w2 hg ht => ?_)
  have hk : Trd (· = w.heap.size + 1) w' w2 := Trd.ofGrown (F := (· = w.heap.size + 1)) hg fun k hk => by injection hk with hk; exact hk.symm
  exact ⟨_,rfl,⟨x,y,z,ht,e ▸ hn.keep hk.size fun k hl hlt => hk.block k hlt (by omega),(Trd.of (F := (· = w.heap.size + 1)) hq).trans hk fun _ _ h => h⟩,hk⟩
 case fin =>
  intro vs1 W9 hJ hG
  obtain ⟨x,y,z,ht,hn,hk⟩ := hJ
  have q9 : Below w.heap.size w W9 := q.trans (hk.below (n := w.heap.size) q.size fun k hk => by omega)
  clear hG
  simp only [zae]
  go_simp
  go_wp2_with fail
  obtain ⟨fs,hu,_⟩ := ndS.hu
  refine bodyPost_ret (v := .agg #[x,y,z]) (by simp [results,Tryz.results80,go_sem,loadVar,isAgg,run_underlying hu,zab ndS.hs,loadCellsFrom,Addr.add,ht.cell0,ht.cell1,ht.cell2]) rfl ⟨_,rfl,hn.nd q.size q9⟩
theorem zi3(N:Nat):zha N:=by
 induction N with
 | zero =>
  intro n w S v h
  have:=zfn n
  omega
 | succ N ih=>exact znf N ih
theorem u8_tri (x y:UInt8):x<y∨x=y∨y<x:=by
 rcases Nat.lt_trichotomy x.toNat y.toNat with h | h | h
 ·exact .inl (UInt8.lt_iff_toNat_lt.2 h)
 ·exact .inr (.inl (UInt8.toNat_inj.1 h))
 ·exact .inr (.inr (UInt8.lt_iff_toNat_lt.2 h))
theorem zi4:∀ (a b:List UInt8),decide (Lib.compareBytes a b<0)=ltB a b
 | [],[]=>rfl
 | [],_::_=>rfl
 | _::_,[]=>rfl
 | x::a,y::b=>by
  have ih:=zi4 a b
  unfold Lib.compareBytes ltB Op.bytesLess
  unfold ltB at ih
  rcases u8_tri x y with h | h | h
  ·simp [h]
  ·subst h
   simp [UInt8.lt_irrefl,ih]
  ·have h1:¬ x<y:=UInt8.lt_asymm h
   have h2:x≠y:=fun e=>by subst e;exact UInt8.lt_irrefl _ h
   simp [h,h1,h2]
theorem cmp_eq:∀ (a b:List UInt8),(Lib.compareBytes a b==0)=decide (a=b)
 | [],[]=>rfl
 | [],_::_=>rfl
 | _::_,[]=>rfl
 | x::a,y::b=>by
  have ih:=cmp_eq a b
  unfold Lib.compareBytes
  rcases u8_tri x y with h | h | h
  ·have h2:x≠y:=fun e=>by subst e;exact UInt8.lt_irrefl _ h
   simp [h,h2]
  ·subst h
   simp [UInt8.lt_irrefl,ih]
  ·have h1:¬ x<y:=UInt8.lt_asymm h
   have h2:x≠y:=fun e=>by subst e;exact UInt8.lt_irrefl _ h
   simp [h,h1,h2]
theorem cmp_ge (a b:List UInt8):decide (0≤Lib.compareBytes a b)=!ltB a b:=by
 rw [← zi4]
 by_cases h:Lib.compareBytes a b<0
 ·simp [h]
 ·simp [h];omega
theorem zk0 {P : Program} {S : Nat → Prop} {w : World} {v : Value} {xs : List UInt8} (h : RdS S w v xs) : (Extern.Bytes.bytesOf v).run P w = .ok ⟨xs.toArray⟩ w := by
 rcases h with ⟨a,c,rfl,_,rfl⟩ | ⟨b,off,cap,rfl,_,_,_,hc⟩
 ·cases a with
  | none => rfl
  | some p => simp [Extern.Bytes.bytesOf,Extern.Bytes.loadBytes]; rfl
 ·have := Lib.run_loadBytesX (P := P) (w := w) (xs.map fun b => (b.toNat : Int)) ⟨b,off,none⟩ .empty (fun j x hj => by
   rw [Addr.add_lit]
   refine hc j _ ?_
   rw [List.getElem?_map] at hj
   cases he : xs[j]? with
   | none => rw [he] at hj; cases hj
   | some y =>
    rw [he] at hj
    simp only [Option.map_some,Option.some.injEq] at hj
    subst hj
    simp [bv,he])
  rw [List.length_map] at this
  simp only [Extern.Bytes.bytesOf,this]
  have e : Lib.bytesOf (xs.map fun b => (b.toNat : Int)) = xs := by
   unfold Lib.bytesOf
   rw [List.map_map]
   exact (List.map_congr_left fun b _ => by simp).trans (List.map_id _)
  rw [e]
  show Result.ok (⟨#[] ++ xs.toArray⟩ : ByteArray) w = _
  rw [Array.empty_append]
theorem zmp {P:Program} {S S2:Nat→Prop} {w:World} {va vb:Value} {xs ys:List UInt8} (hx:RdS S w va xs) (hy:RdS S2 w vb ys) :
  (Extern.BytealgCompare.compare #[va,vb]).run P w=.ok (.int .i64 (Lib.compareBytes xs ys)) w:=by
 change Sem.run P (do pure (goInt (Extern.BytealgCompare.cmp (← Extern.Bytes.bytesOf va) (← Extern.Bytes.bytesOf vb)))) w=_
 simp only [Sem.run_bind,Sem.run_pure,zk0 hx,zk0 hy,Result.andThen]
 rw [Lib.cmp_eq]
 rfl
theorem zbw (w:World) {S S2:Nat→Prop} {a a2:Option Addr} {n c n2 c2:Nat} {xs ys:List UInt8} (hx:RdS S w (.slice a n c) xs) (hy:RdS S2 w (.slice a2 n2 c2) ys) :
  Calls Tryz.prog 76 #[.slice a n c,.slice a2 n2 c2] w fun e w'=>e=.returned (.int .i64 (Lib.compareBytes xs ys))∧w=w':=by
 have hc:(callFunc 87 #[.slice a n c,.slice a2 n2 c2]).run Tryz.prog w=.ok (.value (.int .i64 (Lib.compareBytes xs ys))) w:=by
  rw [run_callFunc_extern Tryz.func87 (by kernel_rfl) (by kernel_rfl) (by kernel_rfl) (e:=Extern.BytealgCompare.compare) (by kernel_rfl),zmp hx hy]
  rfl
 go_enter Tryz.func76,Tryz.ntmps76
 go_wp2_with fail
 go_ret
 exact⟨rfl,rfl⟩
theorem zni (w:World) {S S2:Nat→Prop} {a a2:Option Addr} {n c n2 c2:Nat} {ks:List (List UInt8)} {k:List UInt8} (hl:RdL Elt.bytes S w (.slice a n c) ks) (hk:RdS S2 w (.slice a2 n2 c2) k) (hn:n≤1000000) (m:Nat) (hm:m≤ks.length)
  (h1:∀ i (h:i<ks.length),ltB ks[i] k=decide (i<m)) {is:Bool} (his:is=decide (ks[m]?=some k)) :
  Calls Tryz.prog 86 #[.slice a n c,.slice a2 n2 c2,.func (.func 76) #[] #[]] w fun e w'=>e=.returned (.tuple #[.int .i64 m,.bool is])∧Below w.heap.size w w':=by
 obtain⟨rfl,hnc,hcm⟩:=hl.len
 have q:=Below.refl w.heap.size w
 have hEE:=enters_of Tryz.func76 (by kernel_rfl) rfl
 go_enter Tryz.func86,Tryz.ntmps86
 go_upto_region 3 with (fail)
 go_loopw [9,10] (fun iv jv wr=>∃ (i j:Nat),iv=.int .i64 i∧jv=.int .i64 j∧i≤m∧m≤j∧j≤ks.length∧Below w.heap.size w wr)
  (fun i j _=>(intOf j).toNat - (intOf i).toNat)
 case atStart=>exact⟨0,ks.length,rfl,rfl,Nat.zero_le _,hm,Nat.le_refl _,q⟩
 case round =>
  clear q
  obtain⟨i,j,rfl,rfl,him,hmj,hjn,q⟩:=hrel
  rcases Nat.lt_or_ge i j with hlt | hge
  ·obtain⟨h,hh⟩:∃ h:Nat,h=(i+j) / 2:=⟨_,rfl⟩
   have e:((i:Int)+(j:Int)) / 2=(h:Int):=by omega
   have hih:i≤h:=by omega
   have hhj:h<j:=by omega
   clear hh
   obtain⟨b,off,A,C,rfl,hc,hr⟩:=(hl.below q).byt h (by omega)
   have hlth:=h1 h (by omega)
   have hcl:=zi4 ks[h] k
   rw [hlth] at hcl
   obtain⟨y,hy⟩:∃ y,y=ks[h]:=⟨_,rfl⟩
   rw [← hy] at hr hc hcl
   clear hy hlth
   go_wp2_with fail
   clear e
   refine (zbw wr hr (hk.below q)).mono ?_
   rintro e w1⟨rfl,rfl⟩
   rcases Nat.lt_or_ge h m with h2 | h2
   ·rw [decide_eq_true h2] at hcl
    go_wp2_with fail
    go_roundw
    case rel=>exact⟨h+1,j,by go_num,rfl,by omega,hmj,hjn,q⟩
    case measure=>simp [intOf];omega
   ·rw [decide_eq_false (by omega:¬ h<m)] at hcl
    go_wp2_with fail
    go_roundw
    case rel=>exact⟨i,h,rfl,rfl,him,by omega,by omega,q⟩
    case measure=>simp [intOf];omega
  ·obtain rfl:i=m:=by omega
   rcases Nat.lt_or_ge i ks.length with hlt | hge2
   ·have d:decide ((i:Int)<(ks.length:Int))=true:=decide_eq_true (by omega)
    obtain⟨b,off,A,C,rfl,hc,hr⟩:=(hl.below q).byt i hlt
    have hce:=cmp_eq ks[i] k
    have hans:decide (ks[i]?=some k)=decide (ks[i]=k):=by rw [List.getElem?_eq_getElem hlt];simp
    rw [hans,← hce] at his
    clear hans hce
    generalize ks[i]=y at hr hc his
    have HI:=Lib.hid his
    clear his
    go_wp2_with fail
    refine (zbw wr hr (hk.below q)).mono ?_
    rintro e w1⟨rfl,rfl⟩
    go_wp2_with fail
    go_ret2
    exact⟨by rw [HI.out];rfl,q⟩
   ·have d:decide ((i:Int)<(ks.length:Int))=false:=decide_eq_false (by omega)
    have hans:decide (ks[i]?=some k)=false:=by rw [List.getElem?_eq_none hge2];simp
    rw [hans] at his
    subst his
    clear hans
    go_wp2_with fail
    go_ret2
    exact⟨rfl,q⟩
def plcF (ks:List (List UInt8)) (k:List UInt8):Nat:=(ks.takeWhile fun x=>ltB x k).length
theorem zfu (ks:List (List UInt8)) (k:List UInt8):plcF ks k≤ks.length:=(List.takeWhile_prefix _).length_le
def risK:List (List UInt8)→Prop
 | []=>True
 | x::r=>(∀ y∈r,ltB x y=true)∧risK r
theorem zgw:∀ {ks:List (List UInt8)} {k:List UInt8},risK ks→∀ i (h:i<ks.length),ltB ks[i] k=decide (i<plcF ks k)
 | [],_,_,_,h=>absurd h (Nat.not_lt_zero _)
 | x::r,k,⟨h1,h2⟩,0,_=>by
  unfold plcF
  rw [List.takeWhile_cons]
  cases hx:ltB x k<;>simp [hx]
 | x::r,k,⟨h1,h2⟩,i+1,h=>by
  have ih:=zgw (k:=k) h2 i (by simpa using h)
  unfold plcF at ih ⊢
  rw [List.takeWhile_cons,List.getElem_cons_succ]
  cases hx:ltB x k with
  | true=>simpa using ih
  | false =>
   have hir:i<r.length:=by simpa using h
   cases hy:ltB (r[i]'hir) k with
   | false=>simp
   | true=>rw [zb4 (h1 _ (List.getElem_mem _)) hy] at hx;cases hx
def isF (ks:List (List UInt8)) (k:List UInt8):Bool:=decide (ks[plcF ks k]?=some k)
theorem zfw (w:World) {S S2:Nat→Prop} {v:Value} {n:Nd} {a2:Option Addr} {n2 c2:Nat} {k:List UInt8} (hr:RdN S w v n) (hs:risK n.keys) (hn:n.keys.length≤1000000) (hk:RdS S2 w (.slice a2 n2 c2) k) :
  Calls Tryz.prog 72 #[v,.slice a2 n2 c2] w fun e w'=>e=.returned (.tuple #[.int .i64 (plcF n.keys k),.bool (isF n.keys k)])∧Below w.heap.size w w':=by
 obtain⟨a1,c1,a2',c2',a3,c3,rfl,r1,r2,r3⟩:=hr
 have q:Below w.heap.size w (w.alloc (.cells #[.slice a1 n.keys.length c1,.slice a2' n.chains.length c2',.slice a3 n.kids.length c3] 26)):=(Below.refl _ _).alloc (Nat.le_refl _) _
 have hb:=zni _ (r1.below q) (hk.below q) hn (plcF n.keys k) (zfu _ _) (zgw hs) (is:=isF n.keys k) rfl
 have t:=TriV.new w 26 (.slice a1 n.keys.length c1) (.slice a2' n.chains.length c2') (.slice a3 n.kids.length c3)
 have t0:=t.cell0
 obtain⟨m,hm⟩:∃ m,m=plcF n.keys k:=⟨_,rfl⟩
 obtain⟨is,his⟩:∃ is,is=isF n.keys k:=⟨_,rfl⟩
 rw [← hm,← his] at hb ⊢
 clear hm his t
 go_enter Tryz.func72,Tryz.ntmps72
 go_wp2_with fail
 generalize w.alloc (.cells #[.slice a1 n.keys.length c1,.slice a2' n.chains.length c2',.slice a3 n.kids.length c3] 26)=W at *
 refine hb.mono ?_
 rintro e w1⟨rfl,hb1⟩
 go_wp2_with fail
 go_ret2
 exact⟨rfl,q.trans (hb1.mono q.size)⟩
theorem ze8 (w:World) {x y:Value} {a:Option Addr} {n c:Nat} :
  Calls Tryz.prog 73 #[.agg #[x,y,.slice a n c]] w fun e w'=>e=.returned (.bool (decide (n=0)))∧Below w.heap.size w w':=by
 have q:Below w.heap.size w (w.alloc (.cells #[x,y,.slice a n c] 26)):=(Below.refl _ _).alloc (Nat.le_refl _) _
 have t2:=(TriV.new w 26 x y (.slice a n c)).cell2
 have d:((n:Int)==0)=decide (n=0):=by by_cases h:n=0<;>simp [h]
 go_enter Tryz.func73,Tryz.ntmps73
 go_wp2_with fail
 go_ret
 exact⟨by simp,q⟩
theorem zof (w:World) {S2:Nat→Prop} {a a2:Option Addr} {n c n2 c2:Nat} {l:List Ver} (hl:RdL Elt.ver S2 w (.slice a2 n2 c2) l) :
  Calls Tryz.prog 81 #[.slice a n c,.slice a2 n2 c2] w fun e w'=>e=.returned (.bool (decide (n≤16∧l≠[]∧okV l)))∧Below w.heap.size w w':=by
 obtain⟨rfl,hnc,hcm⟩:=hl.len
 rcases Nat.lt_or_ge 16 n with h | h
 ·have d:decide ((n:Int)≤16)=false:=decide_eq_false (by omega)
  have hans:decide (n≤16∧l≠[]∧okV l)=false:=decide_eq_false fun h2=>by omega
  rw [hans]
  go_enter Tryz.func81,Tryz.ntmps81
  go_wp2_with fail
  go_ret
  exact⟨rfl,Below.refl _ _⟩
 ·have d:decide ((n:Int)≤16)=true:=decide_eq_true (by omega)
  rcases Nat.eq_zero_or_pos l.length with h0 | h0
  ·have d2:¬ 0<l.length:=by omega
   have hans:decide (n≤16∧l≠[]∧okV l)=false:=decide_eq_false fun h2=>h2.2.1 (List.eq_nil_of_length_eq_zero h0)
   rw [hans]
   clear h0
   go_enter Tryz.func81,Tryz.ntmps81
   go_wp2_with fail
   go_ret
   exact⟨rfl,Below.refl _ _⟩
  ·have hne:l≠[]:=List.length_pos_iff.1 h0
   have hans:decide (n≤16∧l≠[]∧okV l)=decide (okV l):=by simp [h,hne]
   rw [hans]
   clear hans hne
   have hc:=zcy w hl
   generalize decide (okV l)=ok at hc ⊢
   go_enter Tryz.func81,Tryz.ntmps81
   go_wp2_with fail
   refine hc.mono ?_
   rintro e w1⟨rfl,hb1⟩
   go_wp2_with fail
   go_ret
   exact⟨rfl,hb1⟩
end Go.Proofs.YtlpfhgdnmjkngaaGreat
