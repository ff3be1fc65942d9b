/-
  TEXTS OF ONE PROOF, merged: VerY, Cut, SlI, SlD.
-/
import Derived.Laws.Externs
import Derived.Test.YtlpfhgdnmjkngaaGreatKv4
namespace Go.Proofs.YtlpfhgdnmjkngaaGreat
open Go.RowKit
set_option maxRecDepth 100000
set_option maxHeartbeats 32000000
theorem zqm {l:List Ver} {s:Int}(h:¬ okV l):zcd l s=none:=by unfold zcd;rw [if_neg h]
theorem zpd {l:List Ver} {s:Int}(h:¬ okV l):zcr l s=false:=by unfold zcr;rw [decide_eq_false h];rfl
theorem vacV_not {l:List Ver} {s:Int}(h:¬ okV l):vacV l s=l:=by unfold vacV;rw [if_neg h]
theorem zqc {l:List Ver} (h:zbq l) {m:Nat} (hm:m<l.length):l[m].value.length≤1000000:=by
 have:=h.2 _ (List.getElem_mem hm)
 omega
theorem zgn (w:World) {S:Nat→Prop} {a:Option Addr} {n c:Nat} {l:List Ver} {s:Int} (hl:RdL Elt.ver S w (.slice a n c) l) (hsm:zbq l) :
  Calls Tryz.prog 33 #[.slice a n c,.int .i64 s] w (za9 w l s):=by
 obtain⟨rfl,hnc,hcm⟩:=hl.len
 have hln:l.length≤1000:=hsm.1
 have q:=Below.refl w.heap.size w
 go_enter Tryz.func33,Tryz.ntmps33
 go_wp2_with fail
 refine (zcy _ hl).mono ?_
 rintro e w1⟨rfl,hb⟩
 replace q:=q.trans (hb.mono q.size)
 clear hb
 by_cases hk:okV l
 ·rw [decide_eq_true hk]
  go_wp2_with fail
  refine (zg4 (s:=s) _ (hl.below q) hk hln).mono ?_
  rintro e w2⟨rfl,hb⟩
  replace q:=q.trans (hb.mono q.size)
  clear hb
  have hle:=zb6 l s
  cases hc:cntV l s with
  | zero =>
   have hz:=Lib.hid (zgh hc)
   clear hc hle
   go_wp2_with fail
   go_ret2
   exact za9.no hz.out q
  | succ m =>
   have hm:m<l.length:=by omega
   have d0:(((m+1:Nat):Int)==0)=false:=by rw [beq_eq_false_iff_ne];omega
   have e1:((m+1:Nat):Int) - 1=(m:Int):=by omega
   obtain⟨b,off,A,C,rfl,hb,c0,c1,c2,hv,hi,hn1,hn2⟩:=(hl.below q).ver m hm
   cases hg:l[m].gone with
   | true =>
    rw [hg] at c1
    have hz:=Lib.hid (zgi hc hm hg)
    clear hc hle hg
    go_wp2_with fail
    go_ret2
    exact za9.no hz.out q
   | false =>
    rw [hg] at c1
    have hz:=Lib.hid (zit hk hc hm hg)
    have hvl:=zqc hsm hm
    clear hc hle hg
    go_wp2_with fail
    refine (ze1 _ hv.rd (Nat.le_refl _) hvl).mono ?_
    rintro e w3⟨A2,k2,C2,rfl,hF⟩
    obtain⟨rfl,_,_⟩:=(Own.rdS hF.2).len
    go_wp2_with fail
    go_ret2
    exact za9.yes hz.out ((Own.rdS hF.2).weak fun k hk=>⟨Nat.le_trans q.size hk.1,hk.2⟩) (q.trans (hF.1.mono q.size))
 ·rw [decide_eq_false hk]
  have hz:=Lib.hid (zqm (s:=s) hk)
  clear hk
  go_wp2_with fail
  go_ret2
  exact za9.no hz.out q
theorem znh (w:World) {S:Nat→Prop} {a:Option Addr} {n c:Nat} {l:List Ver} {s:Int} (hl:RdL Elt.ver S w (.slice a n c) l) (hsm:zbq l) :
  Calls Tryz.prog 40 #[.slice a n c,.int .i64 s] w fun e w'=>e=.returned (.bool (zcr l s))∧Below w.heap.size w w':=by
 obtain⟨rfl,hnc,hcm⟩:=hl.len
 have hln:l.length≤1000:=hsm.1
 have q:=Below.refl w.heap.size w
 go_enter Tryz.func40,Tryz.ntmps40
 go_wp2_with fail
 refine (zcy _ hl).mono ?_
 rintro e w1⟨rfl,hb⟩
 replace q:=q.trans (hb.mono q.size)
 clear hb
 by_cases hk:okV l
 ·rw [decide_eq_true hk]
  go_wp2_with fail
  refine (zg4 (s:=s) _ (hl.below q) hk hln).mono ?_
  rintro e w2⟨rfl,hb⟩
  replace q:=q.trans (hb.mono q.size)
  clear hb
  have hz:=Lib.hid (zhx hk s)
  go_wp2_with fail
  go_ret
  exact⟨by rw [hz.out];simp,q⟩
 ·rw [decide_eq_false hk]
  have hz:=Lib.hid (zpd (s:=s) hk)
  clear hk
  go_wp2_with fail
  go_ret
  exact⟨by rw [hz.out];rfl,q⟩
theorem zcq.from {w w1 w2:World} {l:List Ver} {e:Ending} (q:Below w.heap.size w w1) (h:zcq w1 l e w2):zcq w l e w2:=by
 obtain⟨a,c,rfl,hr,hb⟩:=h
 exact⟨a,c,rfl,hr.weak fun k hk=>⟨Nat.le_trans q.size hk.1,hk.2⟩,q.trans (hb.mono q.size)⟩
theorem zdl {l:List Ver}(h:zbq l):∀ x∈l++([]:List Ver),x.value.length≤1000000:=fun x hx=>by
 rw [List.append_nil] at hx
 have:=h.2 x hx
 omega
theorem zgz (w : World) {S : Nat → Prop} {a : Option Addr} {n c : Nat} {l : List Ver} {s : Int} (hl : RdL Elt.ver S w (.slice a n c) l) (hsm : zbq l) :
  Calls Tryz.prog 68 #[.slice a n c,.int .i64 s] w (zcq w (vacV l s)) := by
 obtain ⟨rfl,hnc,hcm⟩ := hl.len
 have hln : l.length ≤ 1000 := hsm.1
 have q := Below.refl w.heap.size w
 go_enter Tryz.func68,Tryz.ntmps68
 go_wp2_with fail
 refine (zcy _ hl).mono ?_
 rintro e w1 ⟨rfl,hb⟩
 replace q := q.trans (hb.mono q.size)
 clear hb
 by_cases hk : okV l
 ·rw [decide_eq_true hk]
  go_wp2_with fail
  refine (zg4 (s := s) _ (hl.below q) hk hln).mono ?_
  rintro e w2 ⟨rfl,hb⟩
  replace q := q.trans (hb.mono q.size)
  clear hb
  have hle := zb6 l s
  have hl2 := hl.below q
  cases hc : cntV l s with
  | zero =>
   have hz := Lib.hid (show l.drop 0 = vacV l s from (zd2 hc).symm)
   clear hc hle
   have hlo : l.drop (0) = (l.drop (0)).take (l.length - (0)) := (List.take_of_length_le (by rw [List.length_drop]; omega)).symm
   have hnk : 0 ≤ l.length := by omega
   go_wp2_with (first | (refine zeg verP.toLsP rfl rfl rfl hl2 (zal _ (l := 0) (by omega) hnk) ?_ hnk (Nat.le_refl _); intro ad2 cc2 hrd; rw [← hlo] at hrd) | fail)
   refine (zcl _ hrd (RdL.nil Elt.ver (fun _ => False) _) (by rw [List.length_drop]; omega) (by simp) (zdl ⟨by rw [List.length_drop]; omega,fun y hy => hsm.2 y (List.mem_of_mem_drop hy)⟩)).mono ?_
   rintro e w3 hE
   rw [List.append_nil] at hE
   rw [hz.out] at hE
   obtain ⟨a3,c3,rfl,hr,hb3⟩ := zcq.from q hE
   go_wp2_with fail
   go_ret
   exact ⟨_,_,rfl,hr,hb3⟩
  | succ m =>
   have hm : m < l.length := by omega
   have d0 : decide ((0 : Int) < ((m + 1 : Nat) : Int)) = true := decide_eq_true (by omega)
   have e1 : ((m + 1 : Nat) : Int) - 1 = (m : Int) := by omega
   obtain ⟨b,off,A,C,rfl,hb,c0,c1,c2,hv,hi,hn1,hn2⟩ := hl2.ver m hm
   cases hg : l[m].gone with
   | true =>
    rw [hg] at c1
    have hz := Lib.hid (zhi hk hc hm hg).symm
    clear hg
    clear hc hle
    have hlo : l.drop (m + 1) = (l.drop (m + 1)).take (l.length - (m + 1)) := (List.take_of_length_le (by rw [List.length_drop]; omega)).symm
    have hnk : m + 1 ≤ l.length := by omega
    go_wp2_with (first | (refine zeg verP.toLsP rfl rfl rfl hl2 (zal _ (l := m + 1) (by omega) hnk) ?_ hnk (Nat.le_refl _); intro ad2 cc2 hrd; rw [← hlo] at hrd) | fail)
    refine (zcl _ hrd (RdL.nil Elt.ver (fun _ => False) _) (by rw [List.length_drop]; omega) (by simp) (zdl ⟨by rw [List.length_drop]; omega,fun y hy => hsm.2 y (List.mem_of_mem_drop hy)⟩)).mono ?_
    rintro e w3 hE
    rw [List.append_nil] at hE
    rw [hz.out] at hE
    obtain ⟨a3,c3,rfl,hr,hb3⟩ := zcq.from q hE
    go_wp2_with fail
    go_ret
    exact ⟨_,_,rfl,hr,hb3⟩
   | false =>
    rw [hg] at c1
    have hz := Lib.hid (zfo hk hc hm hg).symm
    clear hg
    clear hc hle
    have hlo : l.drop (m) = (l.drop (m)).take (l.length - (m)) := (List.take_of_length_le (by rw [List.length_drop]; omega)).symm
    have hnk : m ≤ l.length := by omega
    go_wp2_with (first | (refine zeg verP.toLsP rfl rfl rfl hl2 (zal _ (l := m) (by omega) hnk) ?_ hnk (Nat.le_refl _); intro ad2 cc2 hrd; rw [← hlo] at hrd) | fail)
    refine (zcl _ hrd (RdL.nil Elt.ver (fun _ => False) _) (by rw [List.length_drop]; omega) (by simp) (zdl ⟨by rw [List.length_drop]; omega,fun y hy => hsm.2 y (List.mem_of_mem_drop hy)⟩)).mono ?_
    rintro e w3 hE
    rw [List.append_nil] at hE
    rw [hz.out] at hE
    obtain ⟨a3,c3,rfl,hr,hb3⟩ := zcq.from q hE
    go_wp2_with fail
    go_ret
    exact ⟨_,_,rfl,hr,hb3⟩
 ·rw [decide_eq_false hk]
  have hz := Lib.hid (vacV_not (s := s) hk)
  clear hk
  go_wp2_with fail
  refine (zcl _ (hl.below q) (RdL.nil Elt.ver (fun _ => False) _) (by omega) (by simp) (zdl hsm)).mono ?_
  rintro e w3 hE
  rw [List.append_nil] at hE
  obtain ⟨a3,c3,rfl,hr,hb⟩ := zcq.from q hE
  go_wp2_with fail
  go_ret
  rw [hz.out]
  exact ⟨_,_,rfl,hr,hb⟩
theorem ver_one (w1 : World) {S : Nat → Prop} {x : Ver} {v : Value} (h1 : RdS S w1 v x.value) (hi : I64' x.stamp) :
  RdL Elt.ver (fun _ => True) (w1.alloc (.cells #[.int .i64 x.stamp,.bool x.gone,v] 87)) (.slice (some ⟨w1.heap.size,0,none⟩) 1 1) [x] := by
 have hb := (Below.refl w1.heap.size w1).alloc (Nat.le_refl _) (.cells #[.int .i64 x.stamp,.bool x.gone,v] 87)
 have hc := zry w1 [.int .i64 x.stamp,.bool x.gone,v] 87
 have g1 := h1.below hb
 simp only [Addr.add_lit] at hc
 have c0 := hc 0 _ rfl
 have c1 := hc 1 _ rfl
 have c2 := hc 2 _ rfl
 clear hc hb
 generalize w1.alloc (.cells #[.int .i64 x.stamp,.bool x.gone,v] 87) = w2 at *
 refine ⟨_,1,rfl,Nat.le_refl _,by unfold maxLen; omega,.inr ⟨w1.heap.size,0,rfl,trivial,fun r hr => ?_⟩⟩
 obtain rfl : r = 0 := by simp at hr; omega
 refine ⟨verC x v,⟨v,rfl,g1.weak fun _ _ => trivial,hi⟩,fun j u hu => ?_⟩
 rcases j with _ | _ | _ | j
 ·cases hu; exact c0
 ·cases hu; exact c1
 ·cases hu; exact c2
 ·simp [verC] at hu
theorem inst_cnt {l : List Ver} {x : Ver} (hk : okV l) (hm : mayV x) : (cntV l (x.stamp - 1) < l.length ∧ zcm l x = (l,50)) ∨ (¬ cntV l (x.stamp - 1) < l.length ∧ zcm l x = (l ++ [x],0)) := by
 have hle := zb6 l (x.stamp - 1)
 rcases Nat.eq_zero_or_pos l.length with h0 | h0
 ·exact .inr ⟨by omega,zh3 h0 hm⟩
 ·obtain ⟨m,hml⟩ : ∃ m,l.length = m + 1 := ⟨l.length - 1,by omega⟩
  have h1 := zdr hk (x.stamp - 1) (i := m) (by omega)
  by_cases hs : x.stamp ≤ (l[m]'(by omega)).stamp
  ·refine .inl ⟨?_,zlr hk hm hml hs⟩
   have := mt h1.2 (by omega)
   omega
  ·refine .inr ⟨?_,zh4 hk hm hml hs⟩
   have := h1.1 (by omega)
   omega
theorem zds.of {w w':World} {l l2:List Ver} {x:Ver} {er:Nat} {a:Option Addr} {c:Nat} (h:zcm l x=(l2,er)) (hr:RdL Elt.ver (fun k=>w.heap.size≤k∧k<w'.heap.size) w' (.slice a l2.length c) l2) (hb:Below w.heap.size w w'):zds w l x (.returned (.tuple #[.slice a l2.length c,.int .i64 er])) w':=by
 unfold zds
 rw [h]
 exact⟨a,c,rfl,hr,hb⟩
theorem zej (w : World) {S : Nat → Prop} {a : Option Addr} {n c : Nat} {l : List Ver} {x : Ver} {Ax : Option Addr} {nx Cx : Nat} (hl : RdL Elt.ver S w (.slice a n c) l) (hsm : zbq l) (hx : RdS S w (.slice Ax nx Cx) x.value) (hxl : x.value.length ≤ 1000) (hxi : I64' x.stamp) :
  Calls Tryz.prog 67 #[.slice a n c,.agg #[.int .i64 x.stamp,.bool x.gone,.slice Ax nx Cx]] w (zds w l x) := by
 obtain ⟨rfl,hnc,hcm⟩ := hl.len
 obtain ⟨rfl,_,_⟩ := hx.len
 have hln : l.length ≤ 1000 := hsm.1
 have hT := TriV.new w 87 (.int .i64 x.stamp) (.bool x.gone) (.slice Ax x.value.length Cx)
 have q : Below w.heap.size w (w.alloc (.cells #[.int .i64 x.stamp,.bool x.gone,.slice Ax x.value.length Cx] 87)) := (Below.refl _ _).alloc (Nat.le_refl _) _
 go_enter Tryz.func67,Tryz.ntmps67
 go_upto_region 1 with (fail)
 generalize w.alloc (.cells #[.int .i64 x.stamp,.bool x.gone,.slice Ax x.value.length Cx] 87) = W at *
 go_wp2_with fail
 refine (zcy _ (hl.below q)).mono ?_
 rintro e w1 ⟨rfl,hb⟩
 replace q := q.trans (hb.mono q.size)
 replace hT := hT.below hb hT.lt
 clear hb
 by_cases hk : okV l
 ·rw [decide_eq_true hk]
  have t0 := hT.cell0
  have t1 := hT.cell1
  have t2 := hT.cell2
  go_wp2_with fail
  refine (zl5 _ (hx.below q)).mono ?_
  rintro e w2 ⟨rfl,hb⟩
  replace q := q.trans (hb.mono q.size)
  replace hT := hT.below hb hT.lt
  clear hb t0 t1 t2
  have t0 := hT.cell0
  by_cases hm : mayV x
  ·rw [show decide (mayV ⟨x.stamp,x.gone,x.value⟩) = true from decide_eq_true hm]
   have hi := hm.1
   have hi2 := hm.2.1
   go_wp2_with fail
   refine (zg4 (s := x.stamp - 1) _ (hl.below q) hk hln).mono ?_
   rintro e w3 ⟨rfl,hb⟩
   replace q := q.trans (hb.mono q.size)
   replace hT := hT.below hb hT.lt
   clear hb t0
   rcases inst_cnt hk hm with ⟨hc,hz⟩ | ⟨hc,hz⟩
   ·have HZ := Lib.hid hz
    clear hz
    go_wp2_with fail
    refine (zcl _ (hl.below q) (RdL.nil Elt.ver (fun _ => False) _) (by omega) (by simp) (zdl hsm)).mono ?_
    rintro e w4 hE
    rw [List.append_nil] at hE
    obtain ⟨a3,c3,rfl,hr,hb⟩ := zcq.from q hE
    go_wp2_with fail
    go_ret2
    exact zds.of HZ.out hr hb
   ·have HZ := Lib.hid hz
    clear hz
    have t0 := hT.cell0
    have t1 := hT.cell1
    have t2 := hT.cell2
    have hone := ver_one w3 (hx.below q) hxi
    have q' : Below w.heap.size w (w3.alloc (.cells #[.int .i64 x.stamp,.bool x.gone,.slice Ax x.value.length Cx] 87)) := q.alloc q.size _
    have hxs : ∀ y ∈ l ++ [x],y.value.length ≤ 1000000 := fun y hy => by
     rcases List.mem_append.1 hy with h | h
     ·have := hsm.2 y h; omega
     ·obtain rfl : y = x := by simpa using h
      omega
    have hl' := Lib.hid (show (l ++ [x]).length = l.length + 1 by simp)
    generalize hlx : l ++ [x] = lx at *
    go_wp2_with fail
    refine (zcl _ (hl.below q') hone (by omega) (by simp) (by rw [hlx]; exact hxs)).mono ?_
    rintro e w4 hE
    rw [hlx] at hE
    obtain ⟨a3,c3,rfl,hr,hb⟩ := zcq.from q' hE
    go_wp2_with fail
    go_ret2
    exact zds.of HZ.out hr hb
  ·rw [show decide (mayV ⟨x.stamp,x.gone,x.value⟩) = false from decide_eq_false hm]
   have HZ := Lib.hid (zh5 (l := l) (x := x) (fun h => hm h.2))
   clear hm t0
   go_wp2_with fail
   refine (zcl _ (hl.below q) (RdL.nil Elt.ver (fun _ => False) _) (by omega) (by simp) (zdl hsm)).mono ?_
   rintro e w4 hE
   rw [List.append_nil] at hE
   obtain ⟨a3,c3,rfl,hr,hb⟩ := zcq.from q hE
   go_wp2_with fail
   go_ret2
   exact zds.of HZ.out hr hb
 ·rw [decide_eq_false hk]
  have HZ := Lib.hid (zh5 (l := l) (x := x) (fun h => hk h.1))
  clear hk
  go_wp2_with fail
  refine (zcl _ (hl.below q) (RdL.nil Elt.ver (fun _ => False) _) (by omega) (by simp) (zdl hsm)).mono ?_
  rintro e w4 hE
  rw [List.append_nil] at hE
  obtain ⟨a3,c3,rfl,hr,hb⟩ := zcq.from q hE
  go_wp2_with fail
  go_ret2
  exact zds.of HZ.out hr hb
section
variable {P : Program} {T E S : TypeId} {ops : Array Oper} {rest : List Oper} {o : Oper} {a : Act} {Q : Exit → Act → World → Prop} {w : World}
theorem zhr (w:World) {n c l h m:Nat} {i j k:Int} (hi:i=(l:Int)) (hj:j=(h:Int)) (hk:k=(m:Int)) (hl:l≤h) (hh:h≤m) (hm:m≤c) :
  (Instr.sliceBounds true n c (some (.int .i64 i)) (some (.int .i64 j)) (some (.int .i64 k))).run P w=.ok (l,h,m) w:=by
 subst hi;subst hj;subst hk
 simp [Instr.sliceBounds,Instr.sliceBound,asIntOf,hl,hh,hm]
theorem zdd {x y:Operand} {ts:Array TypeId} (ho:o.op=.call { callee:=.builtin .min,args:=#[x,y],argTypes:=ts }) (hgd:Region.wanted o (yielded ops a.tmps)=true) {m n k:Int} (hx:a.eval x=.int .i64 m) (hy:a.eval y=.int .i64 n)
  (h:wpList P ops Q rest (a.put o.dst (.int .i64 k)) w) (hk:k=min m n):wpList P ops Q (o::rest) a w:=by
 refine BigFrame.wpList_want hgd fun K hK=>?_
 have hrun:(Builtin.min_ ts o.type #[.int .i64 m,.int .i64 n]).run P w=.ok (.int .i64 k) w:=by
  subst hk
  simp [Builtin.min_,Builtin.min2]
  omega
 unfold Oper.wp execOp
 simp only [ho,resolve,invoke,builtin,Sem.run_bind,Sem.run_pure,Result.andThen_ok,List.map_toArray,List.map_cons,List.map_nil,hx,hy,hrun]
 exact hK _ _ h
end
def zc6(Te:TypeId)(sz:Nat)(w:World)(v:Value)(n':Nat)(vs':List Value)(e:Ending)(w':World):Prop:=∃ v',e=.returned v'∧zcc Te sz w v n' vs' v' w'
theorem zba {w : World} {b : Nat} {us : List Value} {t : TypeId} (hb : w.heap[b]? = some (.cells us.toArray t (0,0))) (j : Nat) (u : Value) (h : us[j]? = some u) : w.cell? (Addr.add ⟨b,0,none⟩ j) = some u := by
 simp [Addr.add_lit,World.cell?,hb,h]
theorem zlv {cur us:List Value} {p q r:Nat} (h1:p≤q) (h2:us.length=r) (h3:q+r≤cur.length) :
  ((cur.take (p+r)++(cur.take q).drop p++cur.drop (p+r+((cur.take q).drop p).length)).take p++us++(cur.take (p+r)++(cur.take q).drop p++cur.drop (p+r+((cur.take q).drop p).length)).drop (p+us.length)).take (q+r)=(cur.take q).take p++us++(cur.take q).drop p:=by
 have e0:((cur.take q).drop p).length=q - p:=by rw [List.length_drop,List.length_take];omega
 have e1:(cur.take (p+r)++(cur.take q).drop p++cur.drop (p+r+((cur.take q).drop p).length)).take p=(cur.take q).take p:=by
  rw [List.append_assoc,List.take_append_of_le_length (by rw [List.length_take];omega),List.take_take,List.take_take]
  congr 1;omega
 have e2:(cur.take (p+r)++(cur.take q).drop p++cur.drop (p+r+((cur.take q).drop p).length)).drop (p+us.length)=(cur.take q).drop p++cur.drop (p+r+(q - p)):=by
  rw [e0,h2,List.append_assoc,List.drop_append_of_le_length (by rw [List.length_take];omega),List.drop_of_length_le (by rw [List.length_take];omega),List.nil_append]
 rw [e1,e2,← List.append_assoc]
 rw [List.take_append_of_le_length (by simp only [List.length_append,List.length_take,List.length_drop,h2];omega),List.take_of_length_le (by simp only [List.length_append,List.length_take,List.length_drop,h2];omega)]
theorem zq9 {cur vs us:List Value} {p q r:Nat} (h1:p≤q) (h0:vs.length=q) (h2:us.length=r) (h4:cur.take p=vs.take p) :
  ((cur.take p++us++cur.drop (p+us.length)).take (p+r)++vs.drop p++(cur.take p++us++cur.drop (p+us.length)).drop (p+r+(vs.drop p).length)).take (q+r)=vs.take p++us++vs.drop p:=by
 have e0:(vs.drop p).length=q - p:=by rw [List.length_drop,h0]
 have e1:(cur.take p++us++cur.drop (p+us.length)).take (p+r)=vs.take p++us:=by
  rw [h4,List.take_append_of_le_length (by simp only [List.length_append,List.length_take,h2];omega),List.take_of_length_le (by simp only [List.length_append,List.length_take,h2];omega)]
 rw [e1,List.take_append_of_le_length (by simp only [List.length_append,List.length_take,List.length_drop,h2];omega),List.take_of_length_le (by simp only [List.length_append,List.length_take,List.length_drop,h2];omega)]
theorem zfe {P : Program} {T Te Tb : TypeId} {sz : Nat} (hP : LsP P T Te sz) {f : FuncId} {fn : Func} (hf : P.funcs[f]? = some fn) (hname : (fn.name == "runtime.NumGoroutine") = false) (hb : fn.body.isNone = true) (hn : Extern.findNext fn = none) (he : Extern.find fn = some (Extern.SlicesOverlaps.overlaps #[T,T] #[Tb]))
  {w : World} {b g off m k mc kc : Nat} {us : List Value} {cur : Array Value} (hbc : w.heap[b]? = some (.cells us.toArray Te (0,0))) (hg : w.heap[g]? = some (.cells cur Te (0,0))) (hne : b ≠ g) (hcur : cur.size ≠ 0) :
  (callFunc f #[.slice (some ⟨b,0,none⟩) m mc,.slice (some ⟨g,off,none⟩) k kc]).run P w = .ok (.value (.bool false)) w := by
 obtain ⟨i,hi,hsz⟩ := hP.info
 rw [run_callFunc_extern hf hname hb hn he,Lib.run_overlaps_apart w T Tb Te hP.hT sz (fun w => by simp [sizeOf,typeInfo,hi,hsz]) ⟨b,0,none⟩ ⟨g,off,none⟩ m mc k kc hne Te Te us.length cur.size (by simp [World.shape?,hbc]) (by simp [World.shape?,hg]) hcur (by simp [World.frozen?,hbc]) (by simp [World.frozen?,hbc])]
 rfl
theorem zm7 (w : World) {v : Value} {i b m : Nat} {vs us : List Value} (hv : RowQ 30 1 w v i vs) (hn : i + m ≤ 1000000) (hm : 0 < m) (hb : w.heap[b]? = some (.cells us.toArray 30 (0,0))) (hu : us.length = m * 1) (hu1 : ∀ u ∈ us,u.oneCell' = true) :
  Calls Tryz.prog 94 #[v,.int .i64 i,.slice (some ⟨b,0,none⟩) m m] w (zc6 30 1 w v (i + m) (vs.take (i * 1) ++ us ++ vs.drop (i * 1))) := by
 have hz1 : ((m : Int) == 0) = false := beq_eq_false_iff_ne.2 (by omega)
 have hcs := zba hb
 have hl : vs.take (i * 1) ++ us ++ vs.drop (i * 1) = vs ++ us := by rw [List.take_of_length_le (by rw [hv.len]; omega),List.drop_of_length_le (by rw [hv.len]; omega),List.append_nil]
 rw [hl]
 clear hl
 obtain ⟨a,c,rfl,hnc,hcm⟩ := hv.shape
 go_enter Tryz.func94,Tryz.ntmps94
 go_upto_region 7 with (go_big_may; first
  | (refine za0 kysP.toLsP rfl rfl rfl (l := i) (r := i) (zav _ (by omega)) ?_; intro _)
  | fail)
 go_wp2_with (first
  | (refine zcw kysP (by omega) rfl rfl rfl hv rfl hu hcs hu1 (by omega) ?_; intro ad cap w' hR)
  | fail)
 go_ret
 exact ⟨_,rfl,hR⟩
theorem zlt (w : World) {n i b m g cap : Nat} {vs us : List Value} (hv : RowQ 30 1 w (.slice (some ⟨g,0,none⟩) n cap) n vs) (hi : i < n) (hn : n + m ≤ 1000000) (hm : 0 < m) (hb : w.heap[b]? = some (.cells us.toArray 30 (0,0))) (hu : us.length = m * 1) (hu1 : ∀ u ∈ us,u.oneCell' = true) (hnc : n ≤ cap) (hroom : cap < n + m) :
  Calls Tryz.prog 94 #[.slice (some ⟨g,0,none⟩) n cap,.int .i64 i,.slice (some ⟨b,0,none⟩) m m] w (zc6 30 1 w (.slice (some ⟨g,0,none⟩) n cap) (n + m) (vs.take (i * 1) ++ us ++ vs.drop (i * 1))) := by
 have hz1 : ((m : Int) == 0) = false := beq_eq_false_iff_ne.2 (by omega)
 have hz2 : ((i : Int) == (n : Int)) = false := beq_eq_false_iff_ne.2 (by omega)
 have hz3 : decide ((cap : Int) < (n : Int) + (m : Int)) = true := decide_eq_true (by omega)
 have hcs := zba hb
 have hglt := hv.lt (k := g) rfl
 have hblt := (Array.getElem?_eq_some_iff.1 hb).1
 have hcs0 : ∀ (j : Nat) (u : Value),(vs.take (i * 1))[j]? = some u → w.cell? (Addr.add ⟨g,0,none⟩ j) = some u := fun j u hj => by
  rw [List.getElem?_take] at hj
  split at hj
  ·rw [Addr.add_lit,Nat.zero_add]; exact hv.cell rfl hj
  ·cases hj
 have hl0 : (vs.take (i * 1)).length = i * 1 := by rw [List.length_take,hv.len]; exact Nat.min_eq_left (Nat.mul_le_mul_right _ (Nat.le_of_lt hi))
 go_enter Tryz.func94,Tryz.ntmps94
 go_upto_region 10 with (go_big_may; first
  | (refine za0 kysP.toLsP rfl rfl rfl (l := i) (r := n) (zav _ (by omega)) ?_; intro _)
  | (refine za2 kysP.toLsP rfl rfl rfl (r := i) (zat _ (by omega)) ?_)
  | (refine zcu kysP (by omega) (by kernel_rfl) rfl rfl rfl (m := n + m - i) rfl (by omega) hl0 (fun q hq => by cases hq; exact hcs0) (fun h => by cases h) (by omega) (by omega) (by omega) ?_; intro G cr hG1 hG2 hG3 hG4)
  | fail)
 have hL : i + (n + m - i) = n + m := by omega
 rw [hL] at hG1 ⊢
 clear hL
 have hg1 : ((w.alloc (.cells cr 30)).drew).heap[w.heap.size]? = some (.cells cr 30 (0,0)) := by simp only [World.alloc,World.drew,Array.getElem?_push_size]
 have q1 : Below w.heap.size w ((w.alloc (.cells cr 30)).drew) := ((Below.refl _ _).alloc (Nat.le_refl _) _).drew
 generalize (w.alloc (.cells cr 30)).drew = W1 at *
 have hcs1 : ∀ (j : Nat) (u : Value),us[j]? = some u → W1.cell? (Addr.add ⟨b,0,none⟩ j) = some u := fun j u hj => by
  have := hcs j u hj
  rw [Addr.add_lit] at this ⊢
  exact (zac (q1.block b hblt) _).trans this
 have hGs : (n + m) * 1 ≤ G * 1 := Nat.mul_le_mul_right _ hG1
 have hLs : (n + m) * 1 = n * 1 + m * 1 := by rw [Nat.add_mul]
 have his : i * 1 ≤ n * 1 := Nat.mul_le_mul_right _ (Nat.le_of_lt hi)
 go_upto_region 11 with (go_big_may; first
  | (refine zag kysP.toLsP rfl rfl rfl (l := i) (r := n + m) (zav _ (by omega)) (by omega) ?_)
  | (refine zbo kysP.toLsP rfl rfl rfl rfl hg1 (cs := us) (by rw [Nat.min_eq_left (by omega)]; exact hu) hcs1 hu1 (by rw [hG3,hu]; omega) ?_; intro W2 hg2 hgr2)
  | fail)
 have q2 : Below w.heap.size w W2 := q1.grown hgr2 q1.size (fun k hk => by injection hk with hk; omega)
 have hdl : (vs.drop (i * 1)).length = (n - i) * 1 := by rw [List.length_drop,hv.len,Nat.sub_mul]
 have hgc : ∀ (W : World),Below w.heap.size w W → ∀ (j : Nat) (u : Value),(vs.drop (i * 1))[j]? = some u → W.cell? (Addr.add ⟨g,0 + i * 1,none⟩ j) = some u := fun W hW j u hj => by
  rw [List.getElem?_drop] at hj
  rw [Addr.add_lit,Nat.zero_add]
  exact (zac (hW.block g hglt) _).trans (hv.cell rfl hj)
 obtain ⟨C1,hC1⟩ : ∃ C1 : Array Value,C1 = (cr.toList.take (0 + i * 1) ++ us ++ cr.toList.drop (0 + i * 1 + us.length)).toArray := ⟨_,rfl⟩
 replace hg2 : W2.heap[w.heap.size]? = some (.cells C1 30 (0,0)) := by rw [hC1]; simpa using hg2
 have hC1s : C1.size = G * 1 := by
  rw [hC1]
  simp only [List.size_toArray,List.length_append,List.length_take,List.length_drop,Array.length_toList,hG3,hu]
  omega
 refine zao (K := fun _ _ => True) (by kernel_rfl) (by kernel_rfl) [8] (by kernel_rfl) [lEq (.slice (some ⟨w.heap.size,0,none⟩) (n + m) G),lEq (.int .i64 (i : Int)),lEq (.int .i64 (m : Int)),lEq (.int .i64 ((i : Int) + (m : Int))),lEq (.slice (some ⟨w.heap.size,0 + (i + m) * 1,none⟩) (n + m - (i + m)) (G - (i + m))),lEq (.slice (some ⟨g,0,none⟩) n cap),lEq (.int .i64 (i : Int)),lEq (.slice (some ⟨g,0 + i * 1,none⟩) (n - i) (cap - i)),lAny] (fun l W => Below w.heap.size w W ∧ W.heap[w.heap.size]? = some (.cells (match l with | [] => C1 | _ :: _ => (C1.toList.take (0 + (i + m) * 1) ++ vs.drop (i * 1) ++ C1.toList.drop (0 + (i + m) * 1 + (vs.drop (i * 1)).length)).toArray) 30 (0,0))) (fun l A B h hb => ⟨h.1.trans (hb.mono h.1.size),(hb.block _ (Array.getElem?_eq_some_iff.1 h.2).1).trans h.2⟩) ⟨q2,hg2⟩
  ⟨?o0,?o1,?o2,?o3,?o4,?o5,?o6,?o7,?o8,trivial⟩ ?fin
 case o0 =>
  refine LnOp.side rfl (by kernel_rfl) (fun A vs w' k hF hT hk hJ hb hu hp hd => ?_)
  have e1 : A.eval (.tmp 9) = .slice (some ⟨w.heap.size,0,none⟩) (n + m) G := hF 9 rfl
  exact BigFrame.wp_move _ rfl ⟨_,rfl,e1,Below.refl _ _⟩
 case o1 =>
  refine LnOp.side rfl (by kernel_rfl) (fun A vs w' k hF hT hk hJ hb hu hp hd => ?_)
  have e1 : A.eval (.tmp 1) = .int .i64 (i : Int) := hF 1 rfl
  exact BigFrame.wp_move _ rfl ⟨_,rfl,e1,Below.refl _ _⟩
 case o2 =>
  refine LnOp.side rfl (by kernel_rfl) (fun A vs w' k hF hT hk hJ hb hu hp hd => ?_)
  have e1 : A.eval (.tmp 7) = .int .i64 (m : Int) := hF 7 rfl
  exact BigFrame.wp_move _ rfl ⟨_,rfl,e1,Below.refl _ _⟩
 case o3 =>
  refine LnOp.side rfl (by kernel_rfl) (fun A vs w' k hF hT hk hJ hb hu hp hd => ?_)
  have e1 : A.eval (.tmp 47) = .int .i64 (i : Int) := (hT 47 1 (by simp [zau]) rfl).trans (hd ⟨1,.data⟩ (by simp) rfl rfl)
  have e2 : A.eval (.tmp 48) = .int .i64 (m : Int) := (hT 48 2 (by simp [zau]) rfl).trans (hd ⟨2,.data⟩ (by simp) rfl rfl)
  exact zbi rfl (e1) (e2) (by omega) (by omega) ⟨_,rfl,rfl,Below.refl _ _⟩
 case o4 =>
  refine LnOp.side rfl (by kernel_rfl) (fun A vs w' k hF hT hk hJ hb hu hp hd => ?_)
  have e1 : A.eval (.tmp 46) = .slice (some ⟨w.heap.size,0,none⟩) (n + m) G := (hT 46 0 (by simp [zau]) rfl).trans (hd ⟨0,.data⟩ (by simp) rfl rfl)
  have e2 : A.eval (.tmp 49) = .int .i64 ((i : Int) + (m : Int)) := (hT 49 3 (by simp [zau]) rfl).trans (hd ⟨3,.data⟩ (by simp) rfl rfl)
  exact zas kysP.toLsP rfl (e1) (congrArg some e2) rfl (zal _ (by omega) (by omega)) (by omega) ⟨_,rfl,rfl,Below.refl _ _⟩
 case o5 =>
  refine LnOp.side rfl (by kernel_rfl) (fun A vs w' k hF hT hk hJ hb hu hp hd => ?_)
  have e1 : A.eval (.tmp 0) = .slice (some ⟨g,0,none⟩) n cap := hF 0 rfl
  exact BigFrame.wp_move _ rfl ⟨_,rfl,e1,Below.refl _ _⟩
 case o6 =>
  refine LnOp.side rfl (by kernel_rfl) (fun A vs w' k hF hT hk hJ hb hu hp hd => ?_)
  have e1 : A.eval (.tmp 1) = .int .i64 (i : Int) := hF 1 rfl
  exact BigFrame.wp_move _ rfl ⟨_,rfl,e1,Below.refl _ _⟩
 case o7 =>
  refine LnOp.side rfl (by kernel_rfl) (fun A vs w' k hF hT hk hJ hb hu hp hd => ?_)
  have e1 : A.eval (.tmp 51) = .slice (some ⟨g,0,none⟩) n cap := (hT 51 5 (by simp [zau]) rfl).trans (hd ⟨5,.data⟩ (by simp) rfl rfl)
  have e2 : A.eval (.tmp 52) = .int .i64 (i : Int) := (hT 52 6 (by simp [zau]) rfl).trans (hd ⟨6,.data⟩ (by simp) rfl rfl)
  exact zas kysP.toLsP rfl (e1) (congrArg some e2) rfl (zal _ (by omega) (by omega)) (by omega) ⟨_,rfl,rfl,Below.refl _ _⟩
 case o8 =>
  refine LnOp.line 0 rfl rfl (fun A va w' hF hT hJ hu hd => ?_)
  have e1 : A.eval (.tmp 50) = .slice (some ⟨w.heap.size,0 + (i + m) * 1,none⟩) (n + m - (i + m)) (G - (i + m)) := (hT 50 4 (by simp [zau]) rfl).trans (hd ⟨4,.data⟩ (by simp) rfl rfl)
  have e2 : A.eval (.tmp 53) = .slice (some ⟨g,0 + i * 1,none⟩) (n - i) (cap - i) := (hT 53 7 (by simp [zau]) rfl).trans (hd ⟨7,.data⟩ (by simp) rfl rfl)
  refine zch kysP.toLsP rfl e1 e2 hJ.2 (cs := vs.drop (i * 1)) (by rw [hdl,Nat.min_eq_left (by omega)]) (hgc _ hJ.1) (fun u hu => hv.2 u (List.mem_of_mem_drop hu)) ?_ ?_
  ·show 0 + (i + m) * 1 + (vs.drop (i * 1)).length ≤ C1.size
   rw [hC1s,hdl,Nat.sub_mul,Nat.add_mul]
   omega
  ·intro W3 hg3 hgr3
   exact ⟨_,rfl,⟨hJ.1.grown hgr3 hJ.1.size (fun k hk => by injection hk with hk; omega),hg3⟩,trivial⟩
 case fin =>
  intro vs1 W3 hJ hG
  have e0 : vs1 0 = .slice (some ⟨w.heap.size,0,none⟩) (n + m) G := hG 0 (by decide) rfl
  have e1 : vs1 1 = .int .i64 (i : Int) := hG 1 (by decide) rfl
  have e2 : vs1 2 = .int .i64 (m : Int) := hG 2 (by decide) rfl
  have e3 : vs1 3 = .int .i64 ((i : Int) + (m : Int)) := hG 3 (by decide) rfl
  have e4 : vs1 4 = .slice (some ⟨w.heap.size,0 + (i + m) * 1,none⟩) (n + m - (i + m)) (G - (i + m)) := hG 4 (by decide) rfl
  have e5 : vs1 5 = .slice (some ⟨g,0,none⟩) n cap := hG 5 (by decide) rfl
  have e6 : vs1 6 = .int .i64 (i : Int) := hG 6 (by decide) rfl
  have e7 : vs1 7 = .slice (some ⟨g,0 + i * 1,none⟩) (n - i) (cap - i) := hG 7 (by decide) rfl
  simp only [zae,e0,e1,e2,e3,e4,e5,e6,e7]
  clear hG e0 e1 e2 e3 e4 e5 e6 e7
  go_simp
  go_wp2_with fail
  go_ret
  refine ⟨_,rfl,RowQ.of hJ.2 hG1 hG2 ?_ ?_ ?_,⟨hJ.1.os,hJ.1.tape,hJ.1.output,hJ.1.size,fun k hk _ => hJ.1.block k hk⟩,.inr ⟨_,rfl,Nat.le_refl _⟩⟩
  ·show (List.toArray _).size = _
   simp only [List.size_toArray,List.length_append,List.length_take,List.length_drop,Array.length_toList,hC1s,hv.len,Nat.add_mul]
   rw [Nat.add_mul] at hGs
   omega
  ·show List.take _ (C1.toList.take _ ++ _ ++ C1.toList.drop _) = _
   have := zq9 (cur := cr.toList) (vs := vs) (us := us) (p := i * 1) (q := n * 1) (r := m * 1) his hv.len hu hG4
   rw [hC1]
   simp only [Nat.add_mul,Nat.zero_add] at this ⊢
   exact this
  ·intro u hu
   rcases List.mem_append.1 hu with h | h
   ·rcases List.mem_append.1 h with h | h
    ·exact hv.2 u (List.mem_of_mem_take h)
    ·exact hu1 u h
   ·exact hv.2 u (List.mem_of_mem_drop h)
theorem zm5 (w : World) {n i b m g cap : Nat} {vs us : List Value} (hv : RowQ 30 1 w (.slice (some ⟨g,0,none⟩) n cap) n vs) (hi : i < n) (hn : n + m ≤ 1000000) (hm : 0 < m) (hb : w.heap[b]? = some (.cells us.toArray 30 (0,0))) (hu : us.length = m * 1) (hu1 : ∀ u ∈ us,u.oneCell' = true) (hbg : b ≠ g) (hroom : n + m ≤ cap) :
  Calls Tryz.prog 94 #[.slice (some ⟨g,0,none⟩) n cap,.int .i64 i,.slice (some ⟨b,0,none⟩) m m] w (zc6 30 1 w (.slice (some ⟨g,0,none⟩) n cap) (n + m) (vs.take (i * 1) ++ us ++ vs.drop (i * 1))) := by
 have hz1 : ((m : Int) == 0) = false := beq_eq_false_iff_ne.2 (by omega)
 have hz2 : ((i : Int) == (n : Int)) = false := beq_eq_false_iff_ne.2 (by omega)
 have hz3 : decide ((cap : Int) < (n : Int) + (m : Int)) = false := decide_eq_false (by omega)
 have hcs := zba hb
 have hblt := (Array.getElem?_eq_some_iff.1 hb).1
 have hglt := hv.lt (k := g) rfl
 obtain ⟨cur,hg,hcm,hcs1,hct⟩ : ∃ cur,w.heap[g]? = some (.cells cur 30 (0,0)) ∧ cap ≤ maxLen ∧ cur.size = cap * 1 ∧ cur.toList.take (n * 1) = vs := by
  rcases hv.cases with ⟨h,_⟩ | ⟨g',cap',cur,h,h1,h2,h3,h4,h5⟩
  ·cases h
  ·cases h
   exact ⟨cur,h1,h3,h4,h5⟩
 have his : i * 1 ≤ n * 1 := Nat.mul_le_mul_right _ (Nat.le_of_lt hi)
 have hns : (n + m) * 1 ≤ cap * 1 := Nat.mul_le_mul_right _ hroom
 have hdl : (vs.drop (i * 1)).length = (n - i) * 1 := by rw [List.length_drop,hv.len,Nat.sub_mul]
 have hov : ∀ off k kc,(callFunc 103 #[.slice (some ⟨b,0,none⟩) m m,.slice (some ⟨g,off,none⟩) k kc]).run Tryz.prog w = .ok (.value (.bool false)) w := fun off k kc =>
  zfe (Tb := 4) kysP.toLsP Tryz.func103 (by kernel_rfl) rfl (by kernel_rfl) (by kernel_rfl) hb hg hbg (by rw [hcs1]; have : 0 < cap * 1 := Nat.mul_pos (by omega) (by omega); omega)
 go_enter Tryz.func94,Tryz.ntmps94
 go_upto_region 15 with (go_big_may; first
  | (refine za0 kysP.toLsP rfl rfl rfl (l := i) (r := n) (zav _ (by omega)) ?_; intro _)
  | (refine za2 kysP.toLsP rfl rfl rfl (r := n + m) (zat _ (by omega)) ?_)
  | (refine zag kysP.toLsP rfl rfl rfl (l := i + m) (r := n + m) (zal _ (by omega) (by omega)) (by omega) ?_)
  | fail)
 have hg0 := hg
 refine zao (K := fun _ _ => True) (by kernel_rfl) (by kernel_rfl) [8] (by kernel_rfl) [lEq (.slice (some ⟨g,0,none⟩) (n + m) cap),lEq (.int .i64 (i : Int)),lEq (.int .i64 (m : Int)),lEq (.int .i64 ((i : Int) + (m : Int))),lEq (.slice (some ⟨g,0 + (i + m) * 1,none⟩) (n + m - (i + m)) (cap - (i + m))),lEq (.slice (some ⟨g,0,none⟩) (n + m) cap),lEq (.int .i64 (i : Int)),lEq (.slice (some ⟨g,0 + i * 1,none⟩) (n + m - i) (cap - i)),lAny] (fun l W => Trd (· = g) w W ∧ W.heap[g]? = some (.cells (match l with | [] => cur | _ :: _ => (cur.toList.take (0 + (i + m) * 1) ++ vs.drop (i * 1) ++ cur.toList.drop (0 + (i + m) * 1 + (vs.drop (i * 1)).length)).toArray) 30 (0,0))) (fun l A B h hb => ⟨h.1.trans (Trd.of (F := (· = g)) hb) (fun _ _ h => h),(hb.block _ (Array.getElem?_eq_some_iff.1 h.2).1).trans h.2⟩) ⟨Trd.refl _ _,hg⟩
  ⟨?o0,?o1,?o2,?o3,?o4,?o5,?o6,?o7,?o8,trivial⟩ ?fin
 case o0 =>
  refine LnOp.side rfl (by kernel_rfl) (fun A vs w' k hF hT hk hJ hb hu hp hd => ?_)
  have e1 : A.eval (.tmp 0) = .slice (some ⟨g,0,none⟩) (n + m) cap := hF 0 rfl
  exact BigFrame.wp_move _ rfl ⟨_,rfl,e1,Below.refl _ _⟩
 case o1 =>
  refine LnOp.side rfl (by kernel_rfl) (fun A vs w' k hF hT hk hJ hb hu hp hd => ?_)
  have e1 : A.eval (.tmp 1) = .int .i64 (i : Int) := hF 1 rfl
  exact BigFrame.wp_move _ rfl ⟨_,rfl,e1,Below.refl _ _⟩
 case o2 =>
  refine LnOp.side rfl (by kernel_rfl) (fun A vs w' k hF hT hk hJ hb hu hp hd => ?_)
  have e1 : A.eval (.tmp 7) = .int .i64 (m : Int) := hF 7 rfl
  exact BigFrame.wp_move _ rfl ⟨_,rfl,e1,Below.refl _ _⟩
 case o3 =>
  refine LnOp.side rfl (by kernel_rfl) (fun A vs w' k hF hT hk hJ hb hu hp hd => ?_)
  have e1 : A.eval (.tmp 70) = .int .i64 (i : Int) := (hT 70 1 (by simp) rfl).trans (hd ⟨1,.data⟩ (by simp) rfl rfl)
  have e2 : A.eval (.tmp 71) = .int .i64 (m : Int) := (hT 71 2 (by simp) rfl).trans (hd ⟨2,.data⟩ (by simp) rfl rfl)
  exact zbi rfl (e1) (e2) (by omega) (by omega) ⟨_,rfl,rfl,Below.refl _ _⟩
 case o4 =>
  refine LnOp.side rfl (by kernel_rfl) (fun A vs w' k hF hT hk hJ hb hu hp hd => ?_)
  have e1 : A.eval (.tmp 69) = .slice (some ⟨g,0,none⟩) (n + m) cap := (hT 69 0 (by simp) rfl).trans (hd ⟨0,.data⟩ (by simp) rfl rfl)
  have e2 : A.eval (.tmp 72) = .int .i64 ((i : Int) + (m : Int)) := (hT 72 3 (by simp) rfl).trans (hd ⟨3,.data⟩ (by simp) rfl rfl)
  exact zas kysP.toLsP rfl (e1) (congrArg some e2) rfl (zal _ (by omega) (by omega)) (by omega) ⟨_,rfl,rfl,Below.refl _ _⟩
 case o5 =>
  refine LnOp.side rfl (by kernel_rfl) (fun A vs w' k hF hT hk hJ hb hu hp hd => ?_)
  have e1 : A.eval (.tmp 0) = .slice (some ⟨g,0,none⟩) (n + m) cap := hF 0 rfl
  exact BigFrame.wp_move _ rfl ⟨_,rfl,e1,Below.refl _ _⟩
 case o6 =>
  refine LnOp.side rfl (by kernel_rfl) (fun A vs w' k hF hT hk hJ hb hu hp hd => ?_)
  have e1 : A.eval (.tmp 1) = .int .i64 (i : Int) := hF 1 rfl
  exact BigFrame.wp_move _ rfl ⟨_,rfl,e1,Below.refl _ _⟩
 case o7 =>
  refine LnOp.side rfl (by kernel_rfl) (fun A vs w' k hF hT hk hJ hb hu hp hd => ?_)
  have e1 : A.eval (.tmp 74) = .slice (some ⟨g,0,none⟩) (n + m) cap := (hT 74 5 (by simp) rfl).trans (hd ⟨5,.data⟩ (by simp) rfl rfl)
  have e2 : A.eval (.tmp 75) = .int .i64 (i : Int) := (hT 75 6 (by simp) rfl).trans (hd ⟨6,.data⟩ (by simp) rfl rfl)
  exact zas kysP.toLsP rfl (e1) (congrArg some e2) rfl (zal _ (by omega) (by omega)) (by omega) ⟨_,rfl,rfl,Below.refl _ _⟩
 case o8 =>
  refine LnOp.line 0 rfl rfl (fun A va w' hF hT hJ hu hd => ?_)
  have e1 : A.eval (.tmp 73) = .slice (some ⟨g,0 + (i + m) * 1,none⟩) (n + m - (i + m)) (cap - (i + m)) := (hT 73 4 (by simp) rfl).trans (hd ⟨4,.data⟩ (by simp) rfl rfl)
  have e2 : A.eval (.tmp 76) = .slice (some ⟨g,0 + i * 1,none⟩) (n + m - i) (cap - i) := (hT 76 7 (by simp) rfl).trans (hd ⟨7,.data⟩ (by simp) rfl rfl)
  refine zch kysP.toLsP rfl e1 e2 hJ.2 (cs := vs.drop (i * 1)) (by rw [hdl,Nat.min_eq_right (by omega)]; congr 1; omega) (fun j u hj => ?_) (fun u hu => hv.2 u (List.mem_of_mem_drop hu)) ?_ ?_
  ·rw [List.getElem?_drop,← hct,List.getElem?_take] at hj
   split at hj
   ·rw [Addr.add_lit,Nat.zero_add]
    have h5 : w'.heap[g]? = some (.cells cur 30 (0,0)) := hJ.2
    simpa [World.cell?,h5,← Array.getElem?_toList] using hj
   ·cases hj
  ·show 0 + (i + m) * 1 + (vs.drop (i * 1)).length ≤ cur.size
   rw [hcs1,hdl,Nat.zero_add,← Nat.add_mul]
   exact Nat.mul_le_mul_right _ (by omega)
  ·intro W3 hg3 hgr3
   exact ⟨_,rfl,⟨hJ.1.trans (Trd.ofGrown (F := (· = g)) hgr3 fun k hk => by injection hk with hk; exact hk.symm) (fun _ _ h => h),hg3⟩,trivial⟩
 case fin =>
  intro vs1 W3 hJ hG
  have e0 : vs1 0 = .slice (some ⟨g,0,none⟩) (n + m) cap := hG 0 (by decide) rfl
  have e1 : vs1 1 = .int .i64 (i : Int) := hG 1 (by decide) rfl
  have e2 : vs1 2 = .int .i64 (m : Int) := hG 2 (by decide) rfl
  have e3 : vs1 3 = .int .i64 ((i : Int) + (m : Int)) := hG 3 (by decide) rfl
  have e4 : vs1 4 = .slice (some ⟨g,0 + (i + m) * 1,none⟩) (n + m - (i + m)) (cap - (i + m)) := hG 4 (by decide) rfl
  have e5 : vs1 5 = .slice (some ⟨g,0,none⟩) (n + m) cap := hG 5 (by decide) rfl
  have e6 : vs1 6 = .int .i64 (i : Int) := hG 6 (by decide) rfl
  have e7 : vs1 7 = .slice (some ⟨g,0 + i * 1,none⟩) (n + m - i) (cap - i) := hG 7 (by decide) rfl
  simp only [zae,e0,e1,e2,e3,e4,e5,e6,e7]
  clear hG e0 e1 e2 e3 e4 e5 e6 e7
  obtain ⟨C1,hC1⟩ : ∃ C1 : Array Value,C1 = (cur.toList.take (0 + (i + m) * 1) ++ vs.drop (i * 1) ++ cur.toList.drop (0 + (i + m) * 1 + (vs.drop (i * 1)).length)).toArray := ⟨_,rfl⟩
  have hg3 : W3.heap[g]? = some (.cells C1 30 (0,0)) := by rw [hC1]; exact hJ.2
  have hC1s : C1.size = cap * 1 := by
   rw [hC1]
   simp only [List.size_toArray,List.length_append,List.length_take,List.length_drop,Array.length_toList,hcs1,hv.len,Nat.add_mul]
   rw [Nat.add_mul] at hns
   omega
  have hcs3 : ∀ (j : Nat) (u : Value),us[j]? = some u → W3.cell? (Addr.add ⟨b,0,none⟩ j) = some u := fun j u hj => by
   have := hcs j u hj
   rw [Addr.add_lit] at this ⊢
   exact (zac (hJ.1.block b hblt hbg) _).trans this
  go_simp
  go_wp2_with (go_big_may; first
   | (refine zag kysP.toLsP rfl rfl rfl (l := i) (r := n + m) (zav _ (by omega)) (by omega) ?_)
   | (refine zbo kysP.toLsP rfl rfl rfl rfl hg3 (cs := us) (by rw [Nat.min_eq_left (by omega)]; exact hu) hcs3 hu1 (by rw [hC1s,hu]; omega) ?_; intro W4 hg4 hgr4)
   | fail)
  go_ret
  have q4 : Trd (· = g) w W4 := hJ.1.trans (Trd.ofGrown (F := (· = g)) hgr4 fun k hk => by injection hk with hk; exact hk.symm) (fun _ _ h => h)
  refine ⟨_,rfl,RowQ.of hg4 hroom hcm ?_ ?_ ?_,⟨q4.os,q4.tape,q4.output,q4.size,fun k hk hn => q4.block k hk fun h => hn (by rw [h]; rfl)⟩,.inl rfl⟩
  ·simp only [List.size_toArray,List.length_append,List.length_take,List.length_drop,Array.length_toList,hC1s,hu]
   rw [Nat.add_mul] at hns
   omega
  ·have := zlv (cur := cur.toList) (us := us) (p := i * 1) (q := n * 1) (r := m * 1) his hu (by rw [Array.length_toList,hcs1,← Nat.add_mul]; exact hns)
   rw [hct] at this
   rw [hC1]
   simp only [Nat.zero_add,Nat.mul_one] at this ⊢
   exact this
  ·intro u hu
   rcases List.mem_append.1 hu with h | h
   ·rcases List.mem_append.1 h with h | h
    ·exact hv.2 u (List.mem_of_mem_take h)
    ·exact hu1 u h
   ·exact hv.2 u (List.mem_of_mem_drop h)
theorem zoa (w : World) {v : Value} {n i b m : Nat} {vs us : List Value} (hv : RowQ 30 1 w v n vs) (hi : i ≤ n) (hn : n + m ≤ 1000000) (hm : 0 < m) (hb : w.heap[b]? = some (.cells us.toArray 30 (0,0))) (hu : us.length = m * 1) (hu1 : ∀ u ∈ us,u.oneCell' = true) (hbg : v.ownBlock ≠ some b) :
  Calls Tryz.prog 94 #[v,.int .i64 i,.slice (some ⟨b,0,none⟩) m m] w (zc6 30 1 w v (n + m) (vs.take (i * 1) ++ us ++ vs.drop (i * 1))) := by
 rcases Nat.lt_or_ge i n with h | h
 ·rcases hv.cases with ⟨_,h2,_⟩ | ⟨g,cap,cur,rfl,_,h3,_⟩
  ·omega
  ·rcases Nat.lt_or_ge cap (n + m) with h4 | h4
   ·exact zlt w hv h hn hm hb hu hu1 h3 h4
   ·exact zm5 w hv h hn hm hb hu hu1 (fun e => hbg (by rw [e]; rfl)) h4
 ·obtain rfl : i = n := by omega
  exact zm7 w hv hn hm hb hu hu1
theorem zm8 (w : World) {v : Value} {i b m : Nat} {vs us : List Value} (hv : RowQ 70 1 w v i vs) (hn : i + m ≤ 1000000) (hm : 0 < m) (hb : w.heap[b]? = some (.cells us.toArray 70 (0,0))) (hu : us.length = m * 1) (hu1 : ∀ u ∈ us,u.oneCell' = true) :
  Calls Tryz.prog 95 #[v,.int .i64 i,.slice (some ⟨b,0,none⟩) m m] w (zc6 70 1 w v (i + m) (vs.take (i * 1) ++ us ++ vs.drop (i * 1))) := by
 have hz1 : ((m : Int) == 0) = false := beq_eq_false_iff_ne.2 (by omega)
 have hcs := zba hb
 have hl : vs.take (i * 1) ++ us ++ vs.drop (i * 1) = vs ++ us := by rw [List.take_of_length_le (by rw [hv.len]; omega),List.drop_of_length_le (by rw [hv.len]; omega),List.append_nil]
 rw [hl]
 clear hl
 obtain ⟨a,c,rfl,hnc,hcm⟩ := hv.shape
 go_enter Tryz.func95,Tryz.ntmps95
 go_upto_region 7 with (go_big_may; first
  | (refine za0 chsP.toLsP rfl rfl rfl (l := i) (r := i) (zav _ (by omega)) ?_; intro _)
  | fail)
 go_wp2_with (first
  | (refine zcw chsP (by omega) rfl rfl rfl hv rfl hu hcs hu1 (by omega) ?_; intro ad cap w' hR)
  | fail)
 go_ret
 exact ⟨_,rfl,hR⟩
theorem zlu (w : World) {n i b m g cap : Nat} {vs us : List Value} (hv : RowQ 70 1 w (.slice (some ⟨g,0,none⟩) n cap) n vs) (hi : i < n) (hn : n + m ≤ 1000000) (hm : 0 < m) (hb : w.heap[b]? = some (.cells us.toArray 70 (0,0))) (hu : us.length = m * 1) (hu1 : ∀ u ∈ us,u.oneCell' = true) (hnc : n ≤ cap) (hroom : cap < n + m) :
  Calls Tryz.prog 95 #[.slice (some ⟨g,0,none⟩) n cap,.int .i64 i,.slice (some ⟨b,0,none⟩) m m] w (zc6 70 1 w (.slice (some ⟨g,0,none⟩) n cap) (n + m) (vs.take (i * 1) ++ us ++ vs.drop (i * 1))) := by
 have hz1 : ((m : Int) == 0) = false := beq_eq_false_iff_ne.2 (by omega)
 have hz2 : ((i : Int) == (n : Int)) = false := beq_eq_false_iff_ne.2 (by omega)
 have hz3 : decide ((cap : Int) < (n : Int) + (m : Int)) = true := decide_eq_true (by omega)
 have hcs := zba hb
 have hglt := hv.lt (k := g) rfl
 have hblt := (Array.getElem?_eq_some_iff.1 hb).1
 have hcs0 : ∀ (j : Nat) (u : Value),(vs.take (i * 1))[j]? = some u → w.cell? (Addr.add ⟨g,0,none⟩ j) = some u := fun j u hj => by
  rw [List.getElem?_take] at hj
  split at hj
  ·rw [Addr.add_lit,Nat.zero_add]; exact hv.cell rfl hj
  ·cases hj
 have hl0 : (vs.take (i * 1)).length = i * 1 := by rw [List.length_take,hv.len]; exact Nat.min_eq_left (Nat.mul_le_mul_right _ (Nat.le_of_lt hi))
 go_enter Tryz.func95,Tryz.ntmps95
 go_upto_region 10 with (go_big_may; first
  | (refine za0 chsP.toLsP rfl rfl rfl (l := i) (r := n) (zav _ (by omega)) ?_; intro _)
  | (refine za2 chsP.toLsP rfl rfl rfl (r := i) (zat _ (by omega)) ?_)
  | (refine zcu chsP (by omega) (by kernel_rfl) rfl rfl rfl (m := n + m - i) rfl (by omega) hl0 (fun q hq => by cases hq; exact hcs0) (fun h => by cases h) (by omega) (by omega) (by omega) ?_; intro G cr hG1 hG2 hG3 hG4)
  | fail)
 have hL : i + (n + m - i) = n + m := by omega
 rw [hL] at hG1 ⊢
 clear hL
 have hg1 : ((w.alloc (.cells cr 70)).drew).heap[w.heap.size]? = some (.cells cr 70 (0,0)) := by simp only [World.alloc,World.drew,Array.getElem?_push_size]
 have q1 : Below w.heap.size w ((w.alloc (.cells cr 70)).drew) := ((Below.refl _ _).alloc (Nat.le_refl _) _).drew
 generalize (w.alloc (.cells cr 70)).drew = W1 at *
 have hcs1 : ∀ (j : Nat) (u : Value),us[j]? = some u → W1.cell? (Addr.add ⟨b,0,none⟩ j) = some u := fun j u hj => by
  have := hcs j u hj
  rw [Addr.add_lit] at this ⊢
  exact (zac (q1.block b hblt) _).trans this
 have hGs : (n + m) * 1 ≤ G * 1 := Nat.mul_le_mul_right _ hG1
 have hLs : (n + m) * 1 = n * 1 + m * 1 := by rw [Nat.add_mul]
 have his : i * 1 ≤ n * 1 := Nat.mul_le_mul_right _ (Nat.le_of_lt hi)
 go_upto_region 11 with (go_big_may; first
  | (refine zag chsP.toLsP rfl rfl rfl (l := i) (r := n + m) (zav _ (by omega)) (by omega) ?_)
  | (refine zbo chsP.toLsP rfl rfl rfl rfl hg1 (cs := us) (by rw [Nat.min_eq_left (by omega)]; exact hu) hcs1 hu1 (by rw [hG3,hu]; omega) ?_; intro W2 hg2 hgr2)
  | fail)
 have q2 : Below w.heap.size w W2 := q1.grown hgr2 q1.size (fun k hk => by injection hk with hk; omega)
 have hdl : (vs.drop (i * 1)).length = (n - i) * 1 := by rw [List.length_drop,hv.len,Nat.sub_mul]
 have hgc : ∀ (W : World),Below w.heap.size w W → ∀ (j : Nat) (u : Value),(vs.drop (i * 1))[j]? = some u → W.cell? (Addr.add ⟨g,0 + i * 1,none⟩ j) = some u := fun W hW j u hj => by
  rw [List.getElem?_drop] at hj
  rw [Addr.add_lit,Nat.zero_add]
  exact (zac (hW.block g hglt) _).trans (hv.cell rfl hj)
 obtain ⟨C1,hC1⟩ : ∃ C1 : Array Value,C1 = (cr.toList.take (0 + i * 1) ++ us ++ cr.toList.drop (0 + i * 1 + us.length)).toArray := ⟨_,rfl⟩
 replace hg2 : W2.heap[w.heap.size]? = some (.cells C1 70 (0,0)) := by rw [hC1]; simpa using hg2
 have hC1s : C1.size = G * 1 := by
  rw [hC1]
  simp only [List.size_toArray,List.length_append,List.length_take,List.length_drop,Array.length_toList,hG3,hu]
  omega
 refine zao (K := fun _ _ => True) (by kernel_rfl) (by kernel_rfl) [8] (by kernel_rfl) [lEq (.slice (some ⟨w.heap.size,0,none⟩) (n + m) G),lEq (.int .i64 (i : Int)),lEq (.int .i64 (m : Int)),lEq (.int .i64 ((i : Int) + (m : Int))),lEq (.slice (some ⟨w.heap.size,0 + (i + m) * 1,none⟩) (n + m - (i + m)) (G - (i + m))),lEq (.slice (some ⟨g,0,none⟩) n cap),lEq (.int .i64 (i : Int)),lEq (.slice (some ⟨g,0 + i * 1,none⟩) (n - i) (cap - i)),lAny] (fun l W => Below w.heap.size w W ∧ W.heap[w.heap.size]? = some (.cells (match l with | [] => C1 | _ :: _ => (C1.toList.take (0 + (i + m) * 1) ++ vs.drop (i * 1) ++ C1.toList.drop (0 + (i + m) * 1 + (vs.drop (i * 1)).length)).toArray) 70 (0,0))) (fun l A B h hb => ⟨h.1.trans (hb.mono h.1.size),(hb.block _ (Array.getElem?_eq_some_iff.1 h.2).1).trans h.2⟩) ⟨q2,hg2⟩
  ⟨?o0,?o1,?o2,?o3,?o4,?o5,?o6,?o7,?o8,trivial⟩ ?fin
 case o0 =>
  refine LnOp.side rfl (by kernel_rfl) (fun A vs w' k hF hT hk hJ hb hu hp hd => ?_)
  have e1 : A.eval (.tmp 9) = .slice (some ⟨w.heap.size,0,none⟩) (n + m) G := hF 9 rfl
  exact BigFrame.wp_move _ rfl ⟨_,rfl,e1,Below.refl _ _⟩
 case o1 =>
  refine LnOp.side rfl (by kernel_rfl) (fun A vs w' k hF hT hk hJ hb hu hp hd => ?_)
  have e1 : A.eval (.tmp 1) = .int .i64 (i : Int) := hF 1 rfl
  exact BigFrame.wp_move _ rfl ⟨_,rfl,e1,Below.refl _ _⟩
 case o2 =>
  refine LnOp.side rfl (by kernel_rfl) (fun A vs w' k hF hT hk hJ hb hu hp hd => ?_)
  have e1 : A.eval (.tmp 7) = .int .i64 (m : Int) := hF 7 rfl
  exact BigFrame.wp_move _ rfl ⟨_,rfl,e1,Below.refl _ _⟩
 case o3 =>
  refine LnOp.side rfl (by kernel_rfl) (fun A vs w' k hF hT hk hJ hb hu hp hd => ?_)
  have e1 : A.eval (.tmp 47) = .int .i64 (i : Int) := (hT 47 1 (by simp [zau]) rfl).trans (hd ⟨1,.data⟩ (by simp) rfl rfl)
  have e2 : A.eval (.tmp 48) = .int .i64 (m : Int) := (hT 48 2 (by simp [zau]) rfl).trans (hd ⟨2,.data⟩ (by simp) rfl rfl)
  exact zbi rfl (e1) (e2) (by omega) (by omega) ⟨_,rfl,rfl,Below.refl _ _⟩
 case o4 =>
  refine LnOp.side rfl (by kernel_rfl) (fun A vs w' k hF hT hk hJ hb hu hp hd => ?_)
  have e1 : A.eval (.tmp 46) = .slice (some ⟨w.heap.size,0,none⟩) (n + m) G := (hT 46 0 (by simp [zau]) rfl).trans (hd ⟨0,.data⟩ (by simp) rfl rfl)
  have e2 : A.eval (.tmp 49) = .int .i64 ((i : Int) + (m : Int)) := (hT 49 3 (by simp [zau]) rfl).trans (hd ⟨3,.data⟩ (by simp) rfl rfl)
  exact zas chsP.toLsP rfl (e1) (congrArg some e2) rfl (zal _ (by omega) (by omega)) (by omega) ⟨_,rfl,rfl,Below.refl _ _⟩
 case o5 =>
  refine LnOp.side rfl (by kernel_rfl) (fun A vs w' k hF hT hk hJ hb hu hp hd => ?_)
  have e1 : A.eval (.tmp 0) = .slice (some ⟨g,0,none⟩) n cap := hF 0 rfl
  exact BigFrame.wp_move _ rfl ⟨_,rfl,e1,Below.refl _ _⟩
 case o6 =>
  refine LnOp.side rfl (by kernel_rfl) (fun A vs w' k hF hT hk hJ hb hu hp hd => ?_)
  have e1 : A.eval (.tmp 1) = .int .i64 (i : Int) := hF 1 rfl
  exact BigFrame.wp_move _ rfl ⟨_,rfl,e1,Below.refl _ _⟩
 case o7 =>
  refine LnOp.side rfl (by kernel_rfl) (fun A vs w' k hF hT hk hJ hb hu hp hd => ?_)
  have e1 : A.eval (.tmp 51) = .slice (some ⟨g,0,none⟩) n cap := (hT 51 5 (by simp [zau]) rfl).trans (hd ⟨5,.data⟩ (by simp) rfl rfl)
  have e2 : A.eval (.tmp 52) = .int .i64 (i : Int) := (hT 52 6 (by simp [zau]) rfl).trans (hd ⟨6,.data⟩ (by simp) rfl rfl)
  exact zas chsP.toLsP rfl (e1) (congrArg some e2) rfl (zal _ (by omega) (by omega)) (by omega) ⟨_,rfl,rfl,Below.refl _ _⟩
 case o8 =>
  refine LnOp.line 0 rfl rfl (fun A va w' hF hT hJ hu hd => ?_)
  have e1 : A.eval (.tmp 50) = .slice (some ⟨w.heap.size,0 + (i + m) * 1,none⟩) (n + m - (i + m)) (G - (i + m)) := (hT 50 4 (by simp [zau]) rfl).trans (hd ⟨4,.data⟩ (by simp) rfl rfl)
  have e2 : A.eval (.tmp 53) = .slice (some ⟨g,0 + i * 1,none⟩) (n - i) (cap - i) := (hT 53 7 (by simp [zau]) rfl).trans (hd ⟨7,.data⟩ (by simp) rfl rfl)
  refine zch chsP.toLsP rfl e1 e2 hJ.2 (cs := vs.drop (i * 1)) (by rw [hdl,Nat.min_eq_left (by omega)]) (hgc _ hJ.1) (fun u hu => hv.2 u (List.mem_of_mem_drop hu)) ?_ ?_
  ·show 0 + (i + m) * 1 + (vs.drop (i * 1)).length ≤ C1.size
   rw [hC1s,hdl,Nat.sub_mul,Nat.add_mul]
   omega
  ·intro W3 hg3 hgr3
   exact ⟨_,rfl,⟨hJ.1.grown hgr3 hJ.1.size (fun k hk => by injection hk with hk; omega),hg3⟩,trivial⟩
 case fin =>
  intro vs1 W3 hJ hG
  have e0 : vs1 0 = .slice (some ⟨w.heap.size,0,none⟩) (n + m) G := hG 0 (by decide) rfl
  have e1 : vs1 1 = .int .i64 (i : Int) := hG 1 (by decide) rfl
  have e2 : vs1 2 = .int .i64 (m : Int) := hG 2 (by decide) rfl
  have e3 : vs1 3 = .int .i64 ((i : Int) + (m : Int)) := hG 3 (by decide) rfl
  have e4 : vs1 4 = .slice (some ⟨w.heap.size,0 + (i + m) * 1,none⟩) (n + m - (i + m)) (G - (i + m)) := hG 4 (by decide) rfl
  have e5 : vs1 5 = .slice (some ⟨g,0,none⟩) n cap := hG 5 (by decide) rfl
  have e6 : vs1 6 = .int .i64 (i : Int) := hG 6 (by decide) rfl
  have e7 : vs1 7 = .slice (some ⟨g,0 + i * 1,none⟩) (n - i) (cap - i) := hG 7 (by decide) rfl
  simp only [zae,e0,e1,e2,e3,e4,e5,e6,e7]
  clear hG e0 e1 e2 e3 e4 e5 e6 e7
  go_simp
  go_wp2_with fail
  go_ret
  refine ⟨_,rfl,RowQ.of hJ.2 hG1 hG2 ?_ ?_ ?_,⟨hJ.1.os,hJ.1.tape,hJ.1.output,hJ.1.size,fun k hk _ => hJ.1.block k hk⟩,.inr ⟨_,rfl,Nat.le_refl _⟩⟩
  ·show (List.toArray _).size = _
   simp only [List.size_toArray,List.length_append,List.length_take,List.length_drop,Array.length_toList,hC1s,hv.len,Nat.add_mul]
   rw [Nat.add_mul] at hGs
   omega
  ·show List.take _ (C1.toList.take _ ++ _ ++ C1.toList.drop _) = _
   have := zq9 (cur := cr.toList) (vs := vs) (us := us) (p := i * 1) (q := n * 1) (r := m * 1) his hv.len hu hG4
   rw [hC1]
   simp only [Nat.add_mul,Nat.zero_add] at this ⊢
   exact this
  ·intro u hu
   rcases List.mem_append.1 hu with h | h
   ·rcases List.mem_append.1 h with h | h
    ·exact hv.2 u (List.mem_of_mem_take h)
    ·exact hu1 u h
   ·exact hv.2 u (List.mem_of_mem_drop h)
theorem zm6 (w : World) {n i b m g cap : Nat} {vs us : List Value} (hv : RowQ 70 1 w (.slice (some ⟨g,0,none⟩) n cap) n vs) (hi : i < n) (hn : n + m ≤ 1000000) (hm : 0 < m) (hb : w.heap[b]? = some (.cells us.toArray 70 (0,0))) (hu : us.length = m * 1) (hu1 : ∀ u ∈ us,u.oneCell' = true) (hbg : b ≠ g) (hroom : n + m ≤ cap) :
  Calls Tryz.prog 95 #[.slice (some ⟨g,0,none⟩) n cap,.int .i64 i,.slice (some ⟨b,0,none⟩) m m] w (zc6 70 1 w (.slice (some ⟨g,0,none⟩) n cap) (n + m) (vs.take (i * 1) ++ us ++ vs.drop (i * 1))) := by
 have hz1 : ((m : Int) == 0) = false := beq_eq_false_iff_ne.2 (by omega)
 have hz2 : ((i : Int) == (n : Int)) = false := beq_eq_false_iff_ne.2 (by omega)
 have hz3 : decide ((cap : Int) < (n : Int) + (m : Int)) = false := decide_eq_false (by omega)
 have hcs := zba hb
 have hblt := (Array.getElem?_eq_some_iff.1 hb).1
 have hglt := hv.lt (k := g) rfl
 obtain ⟨cur,hg,hcm,hcs1,hct⟩ : ∃ cur,w.heap[g]? = some (.cells cur 70 (0,0)) ∧ cap ≤ maxLen ∧ cur.size = cap * 1 ∧ cur.toList.take (n * 1) = vs := by
  rcases hv.cases with ⟨h,_⟩ | ⟨g',cap',cur,h,h1,h2,h3,h4,h5⟩
  ·cases h
  ·cases h
   exact ⟨cur,h1,h3,h4,h5⟩
 have his : i * 1 ≤ n * 1 := Nat.mul_le_mul_right _ (Nat.le_of_lt hi)
 have hns : (n + m) * 1 ≤ cap * 1 := Nat.mul_le_mul_right _ hroom
 have hdl : (vs.drop (i * 1)).length = (n - i) * 1 := by rw [List.length_drop,hv.len,Nat.sub_mul]
 have hov : ∀ off k kc,(callFunc 105 #[.slice (some ⟨b,0,none⟩) m m,.slice (some ⟨g,off,none⟩) k kc]).run Tryz.prog w = .ok (.value (.bool false)) w := fun off k kc =>
  zfe (Tb := 4) chsP.toLsP Tryz.func105 (by kernel_rfl) rfl (by kernel_rfl) (by kernel_rfl) hb hg hbg (by rw [hcs1]; have : 0 < cap * 1 := Nat.mul_pos (by omega) (by omega); omega)
 go_enter Tryz.func95,Tryz.ntmps95
 go_upto_region 15 with (go_big_may; first
  | (refine za0 chsP.toLsP rfl rfl rfl (l := i) (r := n) (zav _ (by omega)) ?_; intro _)
  | (refine za2 chsP.toLsP rfl rfl rfl (r := n + m) (zat _ (by omega)) ?_)
  | (refine zag chsP.toLsP rfl rfl rfl (l := i + m) (r := n + m) (zal _ (by omega) (by omega)) (by omega) ?_)
  | fail)
 have hg0 := hg
 refine zao (K := fun _ _ => True) (by kernel_rfl) (by kernel_rfl) [8] (by kernel_rfl) [lEq (.slice (some ⟨g,0,none⟩) (n + m) cap),lEq (.int .i64 (i : Int)),lEq (.int .i64 (m : Int)),lEq (.int .i64 ((i : Int) + (m : Int))),lEq (.slice (some ⟨g,0 + (i + m) * 1,none⟩) (n + m - (i + m)) (cap - (i + m))),lEq (.slice (some ⟨g,0,none⟩) (n + m) cap),lEq (.int .i64 (i : Int)),lEq (.slice (some ⟨g,0 + i * 1,none⟩) (n + m - i) (cap - i)),lAny] (fun l W => Trd (· = g) w W ∧ W.heap[g]? = some (.cells (match l with | [] => cur | _ :: _ => (cur.toList.take (0 + (i + m) * 1) ++ vs.drop (i * 1) ++ cur.toList.drop (0 + (i + m) * 1 + (vs.drop (i * 1)).length)).toArray) 70 (0,0))) (fun l A B h hb => ⟨h.1.trans (Trd.of (F := (· = g)) hb) (fun _ _ h => h),(hb.block _ (Array.getElem?_eq_some_iff.1 h.2).1).trans h.2⟩) ⟨Trd.refl _ _,hg⟩
  ⟨?o0,?o1,?o2,?o3,?o4,?o5,?o6,?o7,?o8,trivial⟩ ?fin
 case o0 =>
  refine LnOp.side rfl (by kernel_rfl) (fun A vs w' k hF hT hk hJ hb hu hp hd => ?_)
  have e1 : A.eval (.tmp 0) = .slice (some ⟨g,0,none⟩) (n + m) cap := hF 0 rfl
  exact BigFrame.wp_move _ rfl ⟨_,rfl,e1,Below.refl _ _⟩
 case o1 =>
  refine LnOp.side rfl (by kernel_rfl) (fun A vs w' k hF hT hk hJ hb hu hp hd => ?_)
  have e1 : A.eval (.tmp 1) = .int .i64 (i : Int) := hF 1 rfl
  exact BigFrame.wp_move _ rfl ⟨_,rfl,e1,Below.refl _ _⟩
 case o2 =>
  refine LnOp.side rfl (by kernel_rfl) (fun A vs w' k hF hT hk hJ hb hu hp hd => ?_)
  have e1 : A.eval (.tmp 7) = .int .i64 (m : Int) := hF 7 rfl
  exact BigFrame.wp_move _ rfl ⟨_,rfl,e1,Below.refl _ _⟩
 case o3 =>
  refine LnOp.side rfl (by kernel_rfl) (fun A vs w' k hF hT hk hJ hb hu hp hd => ?_)
  have e1 : A.eval (.tmp 70) = .int .i64 (i : Int) := (hT 70 1 (by simp) rfl).trans (hd ⟨1,.data⟩ (by simp) rfl rfl)
  have e2 : A.eval (.tmp 71) = .int .i64 (m : Int) := (hT 71 2 (by simp) rfl).trans (hd ⟨2,.data⟩ (by simp) rfl rfl)
  exact zbi rfl (e1) (e2) (by omega) (by omega) ⟨_,rfl,rfl,Below.refl _ _⟩
 case o4 =>
  refine LnOp.side rfl (by kernel_rfl) (fun A vs w' k hF hT hk hJ hb hu hp hd => ?_)
  have e1 : A.eval (.tmp 69) = .slice (some ⟨g,0,none⟩) (n + m) cap := (hT 69 0 (by simp) rfl).trans (hd ⟨0,.data⟩ (by simp) rfl rfl)
  have e2 : A.eval (.tmp 72) = .int .i64 ((i : Int) + (m : Int)) := (hT 72 3 (by simp) rfl).trans (hd ⟨3,.data⟩ (by simp) rfl rfl)
  exact zas chsP.toLsP rfl (e1) (congrArg some e2) rfl (zal _ (by omega) (by omega)) (by omega) ⟨_,rfl,rfl,Below.refl _ _⟩
 case o5 =>
  refine LnOp.side rfl (by kernel_rfl) (fun A vs w' k hF hT hk hJ hb hu hp hd => ?_)
  have e1 : A.eval (.tmp 0) = .slice (some ⟨g,0,none⟩) (n + m) cap := hF 0 rfl
  exact BigFrame.wp_move _ rfl ⟨_,rfl,e1,Below.refl _ _⟩
 case o6 =>
  refine LnOp.side rfl (by kernel_rfl) (fun A vs w' k hF hT hk hJ hb hu hp hd => ?_)
  have e1 : A.eval (.tmp 1) = .int .i64 (i : Int) := hF 1 rfl
  exact BigFrame.wp_move _ rfl ⟨_,rfl,e1,Below.refl _ _⟩
 case o7 =>
  refine LnOp.side rfl (by kernel_rfl) (fun A vs w' k hF hT hk hJ hb hu hp hd => ?_)
  have e1 : A.eval (.tmp 74) = .slice (some ⟨g,0,none⟩) (n + m) cap := (hT 74 5 (by simp) rfl).trans (hd ⟨5,.data⟩ (by simp) rfl rfl)
  have e2 : A.eval (.tmp 75) = .int .i64 (i : Int) := (hT 75 6 (by simp) rfl).trans (hd ⟨6,.data⟩ (by simp) rfl rfl)
  exact zas chsP.toLsP rfl (e1) (congrArg some e2) rfl (zal _ (by omega) (by omega)) (by omega) ⟨_,rfl,rfl,Below.refl _ _⟩
 case o8 =>
  refine LnOp.line 0 rfl rfl (fun A va w' hF hT hJ hu hd => ?_)
  have e1 : A.eval (.tmp 73) = .slice (some ⟨g,0 + (i + m) * 1,none⟩) (n + m - (i + m)) (cap - (i + m)) := (hT 73 4 (by simp) rfl).trans (hd ⟨4,.data⟩ (by simp) rfl rfl)
  have e2 : A.eval (.tmp 76) = .slice (some ⟨g,0 + i * 1,none⟩) (n + m - i) (cap - i) := (hT 76 7 (by simp) rfl).trans (hd ⟨7,.data⟩ (by simp) rfl rfl)
  refine zch chsP.toLsP rfl e1 e2 hJ.2 (cs := vs.drop (i * 1)) (by rw [hdl,Nat.min_eq_right (by omega)]; congr 1; omega) (fun j u hj => ?_) (fun u hu => hv.2 u (List.mem_of_mem_drop hu)) ?_ ?_
  ·rw [List.getElem?_drop,← hct,List.getElem?_take] at hj
   split at hj
   ·rw [Addr.add_lit,Nat.zero_add]
    have h5 : w'.heap[g]? = some (.cells cur 70 (0,0)) := hJ.2
    simpa [World.cell?,h5,← Array.getElem?_toList] using hj
   ·cases hj
  ·show 0 + (i + m) * 1 + (vs.drop (i * 1)).length ≤ cur.size
   rw [hcs1,hdl,Nat.zero_add,← Nat.add_mul]
   exact Nat.mul_le_mul_right _ (by omega)
  ·intro W3 hg3 hgr3
   exact ⟨_,rfl,⟨hJ.1.trans (Trd.ofGrown (F := (· = g)) hgr3 fun k hk => by injection hk with hk; exact hk.symm) (fun _ _ h => h),hg3⟩,trivial⟩
 case fin =>
  intro vs1 W3 hJ hG
  have e0 : vs1 0 = .slice (some ⟨g,0,none⟩) (n + m) cap := hG 0 (by decide) rfl
  have e1 : vs1 1 = .int .i64 (i : Int) := hG 1 (by decide) rfl
  have e2 : vs1 2 = .int .i64 (m : Int) := hG 2 (by decide) rfl
  have e3 : vs1 3 = .int .i64 ((i : Int) + (m : Int)) := hG 3 (by decide) rfl
  have e4 : vs1 4 = .slice (some ⟨g,0 + (i + m) * 1,none⟩) (n + m - (i + m)) (cap - (i + m)) := hG 4 (by decide) rfl
  have e5 : vs1 5 = .slice (some ⟨g,0,none⟩) (n + m) cap := hG 5 (by decide) rfl
  have e6 : vs1 6 = .int .i64 (i : Int) := hG 6 (by decide) rfl
  have e7 : vs1 7 = .slice (some ⟨g,0 + i * 1,none⟩) (n + m - i) (cap - i) := hG 7 (by decide) rfl
  simp only [zae,e0,e1,e2,e3,e4,e5,e6,e7]
  clear hG e0 e1 e2 e3 e4 e5 e6 e7
  obtain ⟨C1,hC1⟩ : ∃ C1 : Array Value,C1 = (cur.toList.take (0 + (i + m) * 1) ++ vs.drop (i * 1) ++ cur.toList.drop (0 + (i + m) * 1 + (vs.drop (i * 1)).length)).toArray := ⟨_,rfl⟩
  have hg3 : W3.heap[g]? = some (.cells C1 70 (0,0)) := by rw [hC1]; exact hJ.2
  have hC1s : C1.size = cap * 1 := by
   rw [hC1]
   simp only [List.size_toArray,List.length_append,List.length_take,List.length_drop,Array.length_toList,hcs1,hv.len,Nat.add_mul]
   rw [Nat.add_mul] at hns
   omega
  have hcs3 : ∀ (j : Nat) (u : Value),us[j]? = some u → W3.cell? (Addr.add ⟨b,0,none⟩ j) = some u := fun j u hj => by
   have := hcs j u hj
   rw [Addr.add_lit] at this ⊢
   exact (zac (hJ.1.block b hblt hbg) _).trans this
  go_simp
  go_wp2_with (go_big_may; first
   | (refine zag chsP.toLsP rfl rfl rfl (l := i) (r := n + m) (zav _ (by omega)) (by omega) ?_)
   | (refine zbo chsP.toLsP rfl rfl rfl rfl hg3 (cs := us) (by rw [Nat.min_eq_left (by omega)]; exact hu) hcs3 hu1 (by rw [hC1s,hu]; omega) ?_; intro W4 hg4 hgr4)
   | fail)
  go_ret
  have q4 : Trd (· = g) w W4 := hJ.1.trans (Trd.ofGrown (F := (· = g)) hgr4 fun k hk => by injection hk with hk; exact hk.symm) (fun _ _ h => h)
  refine ⟨_,rfl,RowQ.of hg4 hroom hcm ?_ ?_ ?_,⟨q4.os,q4.tape,q4.output,q4.size,fun k hk hn => q4.block k hk fun h => hn (by rw [h]; rfl)⟩,.inl rfl⟩
  ·simp only [List.size_toArray,List.length_append,List.length_take,List.length_drop,Array.length_toList,hC1s,hu]
   rw [Nat.add_mul] at hns
   omega
  ·have := zlv (cur := cur.toList) (us := us) (p := i * 1) (q := n * 1) (r := m * 1) his hu (by rw [Array.length_toList,hcs1,← Nat.add_mul]; exact hns)
   rw [hct] at this
   rw [hC1]
   simp only [Nat.zero_add,Nat.mul_one] at this ⊢
   exact this
  ·intro u hu
   rcases List.mem_append.1 hu with h | h
   ·rcases List.mem_append.1 h with h | h
    ·exact hv.2 u (List.mem_of_mem_take h)
    ·exact hu1 u h
   ·exact hv.2 u (List.mem_of_mem_drop h)
theorem zob (w : World) {v : Value} {n i b m : Nat} {vs us : List Value} (hv : RowQ 70 1 w v n vs) (hi : i ≤ n) (hn : n + m ≤ 1000000) (hm : 0 < m) (hb : w.heap[b]? = some (.cells us.toArray 70 (0,0))) (hu : us.length = m * 1) (hu1 : ∀ u ∈ us,u.oneCell' = true) (hbg : v.ownBlock ≠ some b) :
  Calls Tryz.prog 95 #[v,.int .i64 i,.slice (some ⟨b,0,none⟩) m m] w (zc6 70 1 w v (n + m) (vs.take (i * 1) ++ us ++ vs.drop (i * 1))) := by
 rcases Nat.lt_or_ge i n with h | h
 ·rcases hv.cases with ⟨_,h2,_⟩ | ⟨g,cap,cur,rfl,_,h3,_⟩
  ·omega
  ·rcases Nat.lt_or_ge cap (n + m) with h4 | h4
   ·exact zlu w hv h hn hm hb hu hu1 h3 h4
   ·exact zm6 w hv h hn hm hb hu hu1 (fun e => hbg (by rw [e]; rfl)) h4
 ·obtain rfl : i = n := by omega
  exact zm8 w hv hn hm hb hu hu1
section
variable {P : Program} {T Te : TypeId} {n : Nat} {ops : Array Oper} {rest : List Oper} {o : Oper} {a : Act} {Q : Exit → Act → World → Prop} {w : World} {K : Act → World → Prop}
theorem zem (hP:LsP P T Te n) {x lo hi mx:Operand} (ho:o.op=.slice T x (some lo) (some hi) (some mx)) (hgd:Region.wanted o (yielded ops a.tmps)=true) {ad:Option Addr} {k c:Nat} (hx:a.eval x=.slice ad k c)
  {l r m:Nat} (hb:(Instr.sliceBounds true k c (some (a.eval lo)) (some (a.eval hi)) (some (a.eval mx))).run P w=.ok (l,r,m) w)
  (h:∀ ad',wpList P ops Q rest (a.put o.dst (.slice ad' (r - l) (m - l))) w):wpList P ops Q (o::rest) a w:=by
 refine BigFrame.wpList_want hgd fun K hK=>?_
 obtain⟨i,hi',hsz⟩:=hP.info
 have hrun:(Instr.slice T (.slice ad k c) (some (a.eval lo)) (some (a.eval hi)) (some (a.eval mx))).run P w=.ok (.slice (if m=l then ad else ad.map (·.add (l*n))) (r - l) (m - l)) w:=by
  simp [Instr.slice,run_underlying hP.hT,hb,sizeOf,typeInfo,hi',hsz]
 unfold Oper.wp execOp
 have hat:(Instr.sliceAt T (.slice ad k c) (some (a.eval lo)) (some (a.eval hi)) (some (a.eval mx))).run P w=.ok (.slice (if m=l then ad else ad.map (·.add (l*n))) (r - l) (m - l)) w:=by
  rw [show (Instr.sliceAt T (.slice ad k c) (some (a.eval lo)) (some (a.eval hi)) (some (a.eval mx))).run P w=(Instr.slice T (.slice ad k c) (some (a.eval lo)) (some (a.eval hi)) (some (a.eval mx))).run P w by simp [Instr.sliceAt,run_underlying hP.hT]];exact hrun
 simp only [ho,hx,Option.map_some,Sem.run_bind,Sem.run_pure,Result.andThen_ok,hat]
 exact hK _ _ (h _)
theorem zc7 (hP : LoP P T Te n) (hz1 : ∀ i z,P.info? Te = some i → i.zero = some z → ∀ u ∈ z.cells.toList,u.oneCell' = true) {x : Operand} (ho : o.op = .call { callee := .builtin .clear,args := #[x],argTypes := #[T] }) (hd : o.dst = none) (hgd : Region.wanted o (yielded ops a.tmps) = true) {ad : Option Addr} {m c : Nat} (hx : a.eval x = .slice ad m c) {g off : Nat} {cur : Array Value} {t : TypeId} (hg : w.heap[g]? = some (.cells cur t (0,0))) (had : m = 0 ∨ ad = some ⟨g,off,none⟩) (hfit : m = 0 ∨ off + m * n ≤ cur.size)
  (h : ∀ w' cur',w'.heap[g]? = some (.cells cur' t (0,0)) → cur'.size = cur.size → (m ≠ 0 → cur'.toList.take off = cur.toList.take off) → (m = 0 → cur' = cur) → w.grownBy w' (some g) → wpList P ops Q rest a w') : wpList P ops Q (o :: rest) a w := by
 refine BigFrame.wpList_want hgd fun K hK => ?_
 obtain ⟨w',cur',hr,h1,h2,h3,h4,h5⟩ := zo7 hP hz1 w o.type hg had hfit (c := c)
 unfold Oper.wp execOp
 simp only [ho,resolve,invoke,builtin,Sem.run_bind,Sem.run_pure,Result.andThen_ok,List.map_toArray,List.map_cons,List.map_nil,hx,hr]
 refine hK _ _ ?_
 rw [hd]
 exact h w' cur' h1 h2 h3 h4 h5
end
theorem zmy {t:TypeId} {z0:Value} (h:(Tryz.prog.info? t).bind (·.zero)=some z0) (h1:∀ u∈z0.cells.toList,u.oneCell'=true):∀ i z,Tryz.prog.info? t=some i→i.zero=some z→∀ u∈z.cells.toList,u.oneCell'=true:=fun i z hi hz=>by
 rw [hi] at h
 simp only [Option.bind_some,hz] at h
 cases h
 exact h1
theorem kys1:∀ i z,Tryz.prog.info? 30=some i→i.zero=some z→∀ u∈z.cells.toList,u.oneCell'=true:=zmy (z0:=.slice none 0 0) (by kernel_rfl) (fun u hu=>by simp [Value.cells] at hu;subst hu;rfl)
theorem chs1:∀ i z,Tryz.prog.info? 70=some i→i.zero=some z→∀ u∈z.cells.toList,u.oneCell'=true:=zmy (z0:=.slice none 0 0) (by kernel_rfl) (fun u hu=>by simp [Value.cells] at hu;subst hu;rfl)
theorem nd1:∀ i z,Tryz.prog.info? 26=some i→i.zero=some z→∀ u∈z.cells.toList,u.oneCell'=true:=zmy (z0:=.agg #[.slice none 0 0,.slice none 0 0,.slice none 0 0]) (by kernel_rfl) (fun u hu=>by simp [Value.cells] at hu;subst hu;rfl)
theorem zqw (g sz l cap:Nat):∃ sa:Addr,(if cap=l then (some (⟨g,0,none⟩:Addr)) else (some (⟨g,0,none⟩:Addr)).map (·.add (l*sz)))=some sa∧(cap≠l→sa=⟨g,l*sz,none⟩):=by
 by_cases h:cap=l
 ·exact⟨_,by rw [if_pos h],fun hn=>absurd h hn⟩
 ·exact⟨_,by rw [if_neg h];rfl,fun _=>by simp [Addr.add_lit]⟩
theorem zl2 {cur:List Value} {p q r:Nat} (h1:p≤r) (h2:r≤q) (h3:q≤cur.length) :
  (cur.take p++(cur.take q).drop r++cur.drop (p+(q - r))).take (p+(q - r))=(cur.take q).take p++(cur.take q).drop r:=by
 rw [List.take_append_of_le_length (by simp only [List.length_append,List.length_take,List.length_drop];omega),List.take_of_length_le (by simp only [List.length_append,List.length_take,List.length_drop];omega),List.take_take]
 congr 2
 omega
theorem zok (w : World) {v : Value} {n i : Nat} {j : Int} {vs : List Value} (hv : RowQ 30 1 w v n vs) (hi : i < n) (hj : j = (i : Int) + 1) (hn : n ≤ 1000000) :
  Calls Tryz.prog 97 #[v,.int .i64 i,.int .i64 j] w (zc6 30 1 w v (n - 1) (vs.take (i * 1) ++ vs.drop ((i + 1) * 1))) := by
 subst hj
 obtain ⟨g,cap,cur,rfl,hg,hnc,hcm,hcs1,hct⟩ : ∃ g cap cur,v = .slice (some ⟨g,0,none⟩) n cap ∧ w.heap[g]? = some (.cells cur 30 (0,0)) ∧ n ≤ cap ∧ cap ≤ maxLen ∧ cur.size = cap * 1 ∧ cur.toList.take (n * 1) = vs := by
  rcases hv.cases with ⟨_,h,_⟩ | h
  ·omega
  ·exact h
 have hz2 : ((i : Int) == (i : Int) + 1) = false := beq_eq_false_iff_ne.2 (by omega)
 have his : i * 1 ≤ n * 1 := Nat.mul_le_mul_right _ (Nat.le_of_lt hi)
 have his1 : (i + 1) * 1 ≤ n * 1 := Nat.mul_le_mul_right _ hi
 have hns : n * 1 ≤ cap * 1 := Nat.mul_le_mul_right _ hnc
 have hdl : (vs.drop ((i + 1) * 1)).length = (n - (i + 1)) * 1 := by rw [List.length_drop,hv.len,Nat.sub_mul]
 obtain ⟨sa,hsa,hsa2⟩ := zqw g 1 (i + 1) cap
 go_enter Tryz.func97,Tryz.ntmps97
 go_upto_region 5 with (go_big_may; first
  | (refine zem kysP.toLsP rfl rfl rfl (l := i) (r := i + 1) (m := n) (zhr _ rfl (by omega) rfl (by omega) (by omega) (by omega)) ?_; intro _)
  | fail)
 refine zao (K := fun _ _ => True) (by kernel_rfl) (by kernel_rfl) [6,7] (by kernel_rfl) [lEq (.slice (some ⟨g,0,none⟩) n cap),lEq (.int .i64 (i : Int)),lEq (.slice (some ⟨g,0,none⟩) i cap),lEq (.slice (some ⟨g,0,none⟩) n cap),lEq (.int .i64 ((i : Int) + 1)),lEq (.slice (some sa) (n - (i + 1)) (cap - (i + 1))),lAny,lAny] (fun l W => Trd (· = g) w W ∧ (∀ x ∈ l,x = .slice (some ⟨g,0,none⟩) (i + (n - (i + 1))) cap) ∧ W.heap[g]? = some (.cells (match l with | [] => cur | _ :: _ => (cur.toList.take (i * 1) ++ vs.drop ((i + 1) * 1) ++ cur.toList.drop (i * 1 + (vs.drop ((i + 1) * 1)).length)).toArray) 30 (0,0))) (fun l A B h hb => ⟨h.1.trans (Trd.of (F := (· = g)) hb) (fun _ _ h => h),h.2.1,(hb.block _ (Array.getElem?_eq_some_iff.1 h.2.2).1).trans h.2.2⟩) ⟨Trd.refl _ _,by simp,hg⟩
  ⟨?o0,?o1,?o2,?o3,?o4,?o5,?o6,?o7,trivial⟩ ?fin
 case o0 =>
  refine LnOp.side rfl (by kernel_rfl) (fun A vs w' k hF hT hk hJ hb hu hp hd => ?_)
  have e1 : A.eval (.tmp 0) = .slice (some ⟨g,0,none⟩) n cap := (hT 0 7 (by simp) rfl).trans (hu 1 7 0 (hb 1 7 rfl (by kernel_rfl)) rfl rfl)
  exact BigFrame.wp_move _ rfl ⟨_,rfl,e1,Below.refl _ _⟩
 case o1 =>
  refine LnOp.side rfl (by kernel_rfl) (fun A vs w' k hF hT hk hJ hb hu hp hd => ?_)
  have e1 : A.eval (.tmp 1) = .int .i64 (i : Int) := hF 1 rfl
  exact BigFrame.wp_move _ rfl ⟨_,rfl,e1,Below.refl _ _⟩
 case o2 =>
  refine LnOp.side rfl (by kernel_rfl) (fun A vs w' k hF hT hk hJ hb hu hp hd => ?_)
  have e1 : A.eval (.tmp 20) = .slice (some ⟨g,0,none⟩) n cap := (hT 20 0 (by simp) rfl).trans (hd ⟨0,.data⟩ (by simp) rfl rfl)
  have e2 : A.eval (.tmp 21) = .int .i64 (i : Int) := (hT 21 1 (by simp) rfl).trans (hd ⟨1,.data⟩ (by simp) rfl rfl)
  exact zdc kysP.toLsP rfl (e1) (congrArg some e2) (zat _ (by omega)) ⟨_,rfl,rfl,Below.refl _ _⟩
 case o3 =>
  refine LnOp.side rfl (by kernel_rfl) (fun A vs w' k hF hT hk hJ hb hu hp hd => ?_)
  have e1 : A.eval (.tmp 0) = .slice (some ⟨g,0,none⟩) n cap := (hT 0 7 (by simp) rfl).trans (hu 1 7 0 (hb 1 7 rfl (by kernel_rfl)) rfl rfl)
  exact BigFrame.wp_move _ rfl ⟨_,rfl,e1,Below.refl _ _⟩
 case o4 =>
  refine LnOp.side rfl (by kernel_rfl) (fun A vs w' k hF hT hk hJ hb hu hp hd => ?_)
  have e1 : A.eval (.tmp 2) = .int .i64 ((i : Int) + 1) := hF 2 rfl
  exact BigFrame.wp_move _ rfl ⟨_,rfl,e1,Below.refl _ _⟩
 case o5 =>
  refine LnOp.side rfl (by kernel_rfl) (fun A vs w' k hF hT hk hJ hb hu hp hd => ?_)
  have e1 : A.eval (.tmp 23) = .slice (some ⟨g,0,none⟩) n cap := (hT 23 3 (by simp) rfl).trans (hd ⟨3,.data⟩ (by simp) rfl rfl)
  have e2 : A.eval (.tmp 24) = .int .i64 ((i : Int) + 1) := (hT 24 4 (by simp) rfl).trans (hd ⟨4,.data⟩ (by simp) rfl rfl)
  exact zdg kysP.toLsP rfl (e1) (congrArg some e2) rfl (zal (l := i + 1) _ (by omega) (by omega)) ⟨_,rfl,by rw [hsa]; rfl,Below.refl _ _⟩
 case o6 =>
  refine LnOp.line 0 rfl rfl (fun A va w' hF hT hJ hu hd => ?_)
  have e1 : A.eval (.tmp 22) = .slice (some ⟨g,0,none⟩) i cap := (hT 22 2 (by simp) rfl).trans (hd ⟨2,.data⟩ (by simp) rfl rfl)
  have e2 : A.eval (.tmp 25) = .slice (some sa) (n - (i + 1)) (cap - (i + 1)) := (hT 25 5 (by simp) rfl).trans (hd ⟨5,.data⟩ (by simp) rfl rfl)
  refine zhc kysP.toLsP rfl e1 e2 hJ.2.2 (cs := vs.drop ((i + 1) * 1)) (by rw [hdl]) (fun j u hj => ?_) (fun u hu => hv.2 u (List.mem_of_mem_drop hu)) (by omega) ?_ ?_
  ·rw [List.getElem?_drop,← hct,List.getElem?_take] at hj
   split at hj
   ·rename_i hlt
    rw [hsa2 (fun e => by rw [← Nat.not_le] at hlt; exact hlt (by have : n * 1 ≤ (i + 1) * 1 := Nat.mul_le_mul_right _ (by omega); omega)),Addr.add_lit]
    have h5 : w'.heap[g]? = some (.cells cur 30 (0,0)) := hJ.2.2
    simpa [World.cell?,h5,← Array.getElem?_toList] using hj
   ·cases hj
  ·show i * 1 + (vs.drop ((i + 1) * 1)).length ≤ cur.size
   rw [hcs1,hdl,← Nat.add_mul]
   exact Nat.mul_le_mul_right _ (by omega)
  ·intro W3 hg3 hgr3
   exact ⟨_,rfl,⟨hJ.1.trans (Trd.ofGrown (F := (· = g)) hgr3 fun k hk => by injection hk with hk; exact hk.symm) (fun _ _ h => h),fun x hx => by simpa using hx,hg3⟩,trivial⟩
 case o7 =>
  refine LnOp.line 1 rfl rfl (fun A va w' hF hT hJ hu hd => ?_)
  have x1 : A.eval (.tmp 26) = va 6 := hT 26 6 (by simp) rfl
  refine BigFrame.wp_assign _ rfl ⟨_,rfl,⟨hJ.1,fun y hy => ?_,hJ.2.2⟩,trivial⟩
  rcases List.mem_append.1 hy with h | h
  ·exact hJ.2.1 y h
  ·rw [List.mem_singleton.1 h]
   exact x1.trans (hJ.2.1 _ (by simp))
 case fin =>
  intro vs1 W3 hJ hG
  have e0 : vs1 0 = .slice (some ⟨g,0,none⟩) n cap := hG 0 (by decide) rfl
  have e1 : vs1 1 = .int .i64 (i : Int) := hG 1 (by decide) rfl
  have e2 : vs1 2 = .slice (some ⟨g,0,none⟩) i cap := hG 2 (by decide) rfl
  have e3 : vs1 3 = .slice (some ⟨g,0,none⟩) n cap := hG 3 (by decide) rfl
  have e4 : vs1 4 = .int .i64 ((i : Int) + 1) := hG 4 (by decide) rfl
  have e5 : vs1 5 = .slice (some sa) (n - (i + 1)) (cap - (i + 1)) := hG 5 (by decide) rfl
  have e6 : vs1 6 = .slice (some ⟨g,0,none⟩) (i + (n - (i + 1))) cap := hJ.2.1 _ (by simp)
  have e7 : vs1 7 = .slice (some ⟨g,0,none⟩) (i + (n - (i + 1))) cap := hJ.2.1 _ (by simp)
  simp only [zae,e0,e1,e2,e3,e4,e5,e6,e7]
  clear hG e0 e1 e2 e3 e4 e5 e6 e7
  obtain ⟨C1,hC1⟩ : ∃ C1 : Array Value,C1 = (cur.toList.take (i * 1) ++ vs.drop ((i + 1) * 1) ++ cur.toList.drop (i * 1 + (vs.drop ((i + 1) * 1)).length)).toArray := ⟨_,rfl⟩
  have hg3 : W3.heap[g]? = some (.cells C1 30 (0,0)) := by rw [hC1]; exact hJ.2.2
  have hC1s : C1.size = cap * 1 := by
   rw [hC1]
   simp only [List.size_toArray,List.length_append,List.length_take,List.length_drop,Array.length_toList,hcs1,hv.len,Nat.add_mul]
   rw [Nat.add_mul] at his1
   omega
  obtain ⟨n1,hn1⟩ : ∃ n1,n1 = i + (n - (i + 1)) := ⟨_,rfl⟩
  have hn2 : n ≤ n1 + 1 := by omega
  have hn3 : n1 + 1 ≤ n := by omega
  rw [← hn1]
  clear hn1
  go_simp
  go_wp2_with (go_big_may; first
   | (refine zag kysP.toLsP rfl rfl rfl (l := n1) (r := n) (za5 _ (by omega) (by omega)) (by omega) ?_)
   | (refine zc7 kysP kys1 rfl rfl rfl rfl hg3 (.inr rfl) (.inr (by rw [hC1s]; omega)) ?_; intro W4 C4 hg4 hs4 ht4 _ hgr4)
   | fail)
  go_ret
  have q4 : Trd (· = g) w W4 := hJ.1.trans (Trd.ofGrown (F := (· = g)) hgr4 fun k hk => by injection hk with hk; exact hk.symm) (fun _ _ h => h)
  refine ⟨_,rfl,?_,⟨q4.os,q4.tape,q4.output,q4.size,fun k hk hn => q4.block k hk fun h => hn (by rw [h]; rfl)⟩,.inl rfl⟩
  obtain rfl : n - 1 = n1 := by omega
  refine RowQ.of hg4 (by omega) hcm (by rw [hs4,hC1s]) ?_ ?_
  ·have h5 := ht4 (by omega)
   have h6 : C4.toList.take ((n - 1) * 1) = C1.toList.take ((n - 1) * 1) := by
    rw [← Nat.zero_add ((n - 1) * 1)]
    first
     | exact h5
     | simpa using h5
   rw [h6,hC1]
   have := zl2 (cur := cur.toList) (p := i * 1) (q := n * 1) (r := (i + 1) * 1) (Nat.mul_le_mul_right _ (by omega)) his1 (by rw [Array.length_toList,hcs1]; exact hns)
   rw [hct,← Nat.sub_mul] at this
   rw [hdl]
   have e : (n - 1) * 1 = i * 1 + (n - (i + 1)) * 1 := by rw [← Nat.add_mul]; congr 1; omega
   rw [e]
   exact this
  ·intro u hu
   rcases List.mem_append.1 hu with h | h
   ·exact hv.2 u (List.mem_of_mem_take h)
   ·exact hv.2 u (List.mem_of_mem_drop h)
theorem zol (w : World) {v : Value} {n i : Nat} {j : Int} {vs : List Value} (hv : RowQ 70 1 w v n vs) (hi : i < n) (hj : j = (i : Int) + 1) (hn : n ≤ 1000000) :
  Calls Tryz.prog 98 #[v,.int .i64 i,.int .i64 j] w (zc6 70 1 w v (n - 1) (vs.take (i * 1) ++ vs.drop ((i + 1) * 1))) := by
 subst hj
 obtain ⟨g,cap,cur,rfl,hg,hnc,hcm,hcs1,hct⟩ : ∃ g cap cur,v = .slice (some ⟨g,0,none⟩) n cap ∧ w.heap[g]? = some (.cells cur 70 (0,0)) ∧ n ≤ cap ∧ cap ≤ maxLen ∧ cur.size = cap * 1 ∧ cur.toList.take (n * 1) = vs := by
  rcases hv.cases with ⟨_,h,_⟩ | h
  ·omega
  ·exact h
 have hz2 : ((i : Int) == (i : Int) + 1) = false := beq_eq_false_iff_ne.2 (by omega)
 have his : i * 1 ≤ n * 1 := Nat.mul_le_mul_right _ (Nat.le_of_lt hi)
 have his1 : (i + 1) * 1 ≤ n * 1 := Nat.mul_le_mul_right _ hi
 have hns : n * 1 ≤ cap * 1 := Nat.mul_le_mul_right _ hnc
 have hdl : (vs.drop ((i + 1) * 1)).length = (n - (i + 1)) * 1 := by rw [List.length_drop,hv.len,Nat.sub_mul]
 obtain ⟨sa,hsa,hsa2⟩ := zqw g 1 (i + 1) cap
 go_enter Tryz.func98,Tryz.ntmps98
 go_upto_region 5 with (go_big_may; first
  | (refine zem chsP.toLsP rfl rfl rfl (l := i) (r := i + 1) (m := n) (zhr _ rfl (by omega) rfl (by omega) (by omega) (by omega)) ?_; intro _)
  | fail)
 refine zao (K := fun _ _ => True) (by kernel_rfl) (by kernel_rfl) [6,7] (by kernel_rfl) [lEq (.slice (some ⟨g,0,none⟩) n cap),lEq (.int .i64 (i : Int)),lEq (.slice (some ⟨g,0,none⟩) i cap),lEq (.slice (some ⟨g,0,none⟩) n cap),lEq (.int .i64 ((i : Int) + 1)),lEq (.slice (some sa) (n - (i + 1)) (cap - (i + 1))),lAny,lAny] (fun l W => Trd (· = g) w W ∧ (∀ x ∈ l,x = .slice (some ⟨g,0,none⟩) (i + (n - (i + 1))) cap) ∧ W.heap[g]? = some (.cells (match l with | [] => cur | _ :: _ => (cur.toList.take (i * 1) ++ vs.drop ((i + 1) * 1) ++ cur.toList.drop (i * 1 + (vs.drop ((i + 1) * 1)).length)).toArray) 70 (0,0))) (fun l A B h hb => ⟨h.1.trans (Trd.of (F := (· = g)) hb) (fun _ _ h => h),h.2.1,(hb.block _ (Array.getElem?_eq_some_iff.1 h.2.2).1).trans h.2.2⟩) ⟨Trd.refl _ _,by simp,hg⟩
  ⟨?o0,?o1,?o2,?o3,?o4,?o5,?o6,?o7,trivial⟩ ?fin
 case o0 =>
  refine LnOp.side rfl (by kernel_rfl) (fun A vs w' k hF hT hk hJ hb hu hp hd => ?_)
  have e1 : A.eval (.tmp 0) = .slice (some ⟨g,0,none⟩) n cap := (hT 0 7 (by simp) rfl).trans (hu 1 7 0 (hb 1 7 rfl (by kernel_rfl)) rfl rfl)
  exact BigFrame.wp_move _ rfl ⟨_,rfl,e1,Below.refl _ _⟩
 case o1 =>
  refine LnOp.side rfl (by kernel_rfl) (fun A vs w' k hF hT hk hJ hb hu hp hd => ?_)
  have e1 : A.eval (.tmp 1) = .int .i64 (i : Int) := hF 1 rfl
  exact BigFrame.wp_move _ rfl ⟨_,rfl,e1,Below.refl _ _⟩
 case o2 =>
  refine LnOp.side rfl (by kernel_rfl) (fun A vs w' k hF hT hk hJ hb hu hp hd => ?_)
  have e1 : A.eval (.tmp 20) = .slice (some ⟨g,0,none⟩) n cap := (hT 20 0 (by simp) rfl).trans (hd ⟨0,.data⟩ (by simp) rfl rfl)
  have e2 : A.eval (.tmp 21) = .int .i64 (i : Int) := (hT 21 1 (by simp) rfl).trans (hd ⟨1,.data⟩ (by simp) rfl rfl)
  exact zdc chsP.toLsP rfl (e1) (congrArg some e2) (zat _ (by omega)) ⟨_,rfl,rfl,Below.refl _ _⟩
 case o3 =>
  refine LnOp.side rfl (by kernel_rfl) (fun A vs w' k hF hT hk hJ hb hu hp hd => ?_)
  have e1 : A.eval (.tmp 0) = .slice (some ⟨g,0,none⟩) n cap := (hT 0 7 (by simp) rfl).trans (hu 1 7 0 (hb 1 7 rfl (by kernel_rfl)) rfl rfl)
  exact BigFrame.wp_move _ rfl ⟨_,rfl,e1,Below.refl _ _⟩
 case o4 =>
  refine LnOp.side rfl (by kernel_rfl) (fun A vs w' k hF hT hk hJ hb hu hp hd => ?_)
  have e1 : A.eval (.tmp 2) = .int .i64 ((i : Int) + 1) := hF 2 rfl
  exact BigFrame.wp_move _ rfl ⟨_,rfl,e1,Below.refl _ _⟩
 case o5 =>
  refine LnOp.side rfl (by kernel_rfl) (fun A vs w' k hF hT hk hJ hb hu hp hd => ?_)
  have e1 : A.eval (.tmp 23) = .slice (some ⟨g,0,none⟩) n cap := (hT 23 3 (by simp) rfl).trans (hd ⟨3,.data⟩ (by simp) rfl rfl)
  have e2 : A.eval (.tmp 24) = .int .i64 ((i : Int) + 1) := (hT 24 4 (by simp) rfl).trans (hd ⟨4,.data⟩ (by simp) rfl rfl)
  exact zdg chsP.toLsP rfl (e1) (congrArg some e2) rfl (zal (l := i + 1) _ (by omega) (by omega)) ⟨_,rfl,by rw [hsa]; rfl,Below.refl _ _⟩
 case o6 =>
  refine LnOp.line 0 rfl rfl (fun A va w' hF hT hJ hu hd => ?_)
  have e1 : A.eval (.tmp 22) = .slice (some ⟨g,0,none⟩) i cap := (hT 22 2 (by simp) rfl).trans (hd ⟨2,.data⟩ (by simp) rfl rfl)
  have e2 : A.eval (.tmp 25) = .slice (some sa) (n - (i + 1)) (cap - (i + 1)) := (hT 25 5 (by simp) rfl).trans (hd ⟨5,.data⟩ (by simp) rfl rfl)
  refine zhc chsP.toLsP rfl e1 e2 hJ.2.2 (cs := vs.drop ((i + 1) * 1)) (by rw [hdl]) (fun j u hj => ?_) (fun u hu => hv.2 u (List.mem_of_mem_drop hu)) (by omega) ?_ ?_
  ·rw [List.getElem?_drop,← hct,List.getElem?_take] at hj
   split at hj
   ·rename_i hlt
    rw [hsa2 (fun e => by rw [← Nat.not_le] at hlt; exact hlt (by have : n * 1 ≤ (i + 1) * 1 := Nat.mul_le_mul_right _ (by omega); omega)),Addr.add_lit]
    have h5 : w'.heap[g]? = some (.cells cur 70 (0,0)) := hJ.2.2
    simpa [World.cell?,h5,← Array.getElem?_toList] using hj
   ·cases hj
  ·show i * 1 + (vs.drop ((i + 1) * 1)).length ≤ cur.size
   rw [hcs1,hdl,← Nat.add_mul]
   exact Nat.mul_le_mul_right _ (by omega)
  ·intro W3 hg3 hgr3
   exact ⟨_,rfl,⟨hJ.1.trans (Trd.ofGrown (F := (· = g)) hgr3 fun k hk => by injection hk with hk; exact hk.symm) (fun _ _ h => h),fun x hx => by simpa using hx,hg3⟩,trivial⟩
 case o7 =>
  refine LnOp.line 1 rfl rfl (fun A va w' hF hT hJ hu hd => ?_)
  have x1 : A.eval (.tmp 26) = va 6 := hT 26 6 (by simp) rfl
  refine BigFrame.wp_assign _ rfl ⟨_,rfl,⟨hJ.1,fun y hy => ?_,hJ.2.2⟩,trivial⟩
  rcases List.mem_append.1 hy with h | h
  ·exact hJ.2.1 y h
  ·rw [List.mem_singleton.1 h]
   exact x1.trans (hJ.2.1 _ (by simp))
 case fin =>
  intro vs1 W3 hJ hG
  have e0 : vs1 0 = .slice (some ⟨g,0,none⟩) n cap := hG 0 (by decide) rfl
  have e1 : vs1 1 = .int .i64 (i : Int) := hG 1 (by decide) rfl
  have e2 : vs1 2 = .slice (some ⟨g,0,none⟩) i cap := hG 2 (by decide) rfl
  have e3 : vs1 3 = .slice (some ⟨g,0,none⟩) n cap := hG 3 (by decide) rfl
  have e4 : vs1 4 = .int .i64 ((i : Int) + 1) := hG 4 (by decide) rfl
  have e5 : vs1 5 = .slice (some sa) (n - (i + 1)) (cap - (i + 1)) := hG 5 (by decide) rfl
  have e6 : vs1 6 = .slice (some ⟨g,0,none⟩) (i + (n - (i + 1))) cap := hJ.2.1 _ (by simp)
  have e7 : vs1 7 = .slice (some ⟨g,0,none⟩) (i + (n - (i + 1))) cap := hJ.2.1 _ (by simp)
  simp only [zae,e0,e1,e2,e3,e4,e5,e6,e7]
  clear hG e0 e1 e2 e3 e4 e5 e6 e7
  obtain ⟨C1,hC1⟩ : ∃ C1 : Array Value,C1 = (cur.toList.take (i * 1) ++ vs.drop ((i + 1) * 1) ++ cur.toList.drop (i * 1 + (vs.drop ((i + 1) * 1)).length)).toArray := ⟨_,rfl⟩
  have hg3 : W3.heap[g]? = some (.cells C1 70 (0,0)) := by rw [hC1]; exact hJ.2.2
  have hC1s : C1.size = cap * 1 := by
   rw [hC1]
   simp only [List.size_toArray,List.length_append,List.length_take,List.length_drop,Array.length_toList,hcs1,hv.len,Nat.add_mul]
   rw [Nat.add_mul] at his1
   omega
  obtain ⟨n1,hn1⟩ : ∃ n1,n1 = i + (n - (i + 1)) := ⟨_,rfl⟩
  have hn2 : n ≤ n1 + 1 := by omega
  have hn3 : n1 + 1 ≤ n := by omega
  rw [← hn1]
  clear hn1
  go_simp
  go_wp2_with (go_big_may; first
   | (refine zag chsP.toLsP rfl rfl rfl (l := n1) (r := n) (za5 _ (by omega) (by omega)) (by omega) ?_)
   | (refine zc7 chsP chs1 rfl rfl rfl rfl hg3 (.inr rfl) (.inr (by rw [hC1s]; omega)) ?_; intro W4 C4 hg4 hs4 ht4 _ hgr4)
   | fail)
  go_ret
  have q4 : Trd (· = g) w W4 := hJ.1.trans (Trd.ofGrown (F := (· = g)) hgr4 fun k hk => by injection hk with hk; exact hk.symm) (fun _ _ h => h)
  refine ⟨_,rfl,?_,⟨q4.os,q4.tape,q4.output,q4.size,fun k hk hn => q4.block k hk fun h => hn (by rw [h]; rfl)⟩,.inl rfl⟩
  obtain rfl : n - 1 = n1 := by omega
  refine RowQ.of hg4 (by omega) hcm (by rw [hs4,hC1s]) ?_ ?_
  ·have h5 := ht4 (by omega)
   have h6 : C4.toList.take ((n - 1) * 1) = C1.toList.take ((n - 1) * 1) := by
    rw [← Nat.zero_add ((n - 1) * 1)]
    first
     | exact h5
     | simpa using h5
   rw [h6,hC1]
   have := zl2 (cur := cur.toList) (p := i * 1) (q := n * 1) (r := (i + 1) * 1) (Nat.mul_le_mul_right _ (by omega)) his1 (by rw [Array.length_toList,hcs1]; exact hns)
   rw [hct,← Nat.sub_mul] at this
   rw [hdl]
   have e : (n - 1) * 1 = i * 1 + (n - (i + 1)) * 1 := by rw [← Nat.add_mul]; congr 1; omega
   rw [e]
   exact this
  ·intro u hu
   rcases List.mem_append.1 hu with h | h
   ·exact hv.2 u (List.mem_of_mem_take h)
   ·exact hv.2 u (List.mem_of_mem_drop h)
end Go.Proofs.YtlpfhgdnmjkngaaGreat
