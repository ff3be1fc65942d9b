/-
  TEXTS OF ONE PROOF, merged: SlR, TraE, TraF.
-/
import Derived.Test.YtlpfhgdnmjkngaaGreatKv6
namespace Go.Proofs.YtlpfhgdnmjkngaaGreat
open Go.RowKit
set_option maxRecDepth 100000
set_option maxHeartbeats 32000000
theorem zhw {P : Program} {T Te Tb : TypeId} {sz : Nat} (hP : LsP P T Te sz) {f : FuncId} {fn : Func} (hf : P.funcs[f]? = some fn) (hname : (fn.name == "runtime.NumGoroutine") = false) (hb : fn.body.isNone = true) (hn : Extern.findNext fn = none) (he : Extern.find fn = some (Extern.SlicesOverlaps.overlaps #[T,T] #[Tb]))
  {w : World} {b g off m k mc kc : Nat} {us : List Value} {cur : Array Value} (hbc : w.heap[b]? = some (.cells us.toArray Te (0,0))) (hg : w.heap[g]? = some (.cells cur Te (0,0))) (hne : b ≠ g) (hus : us.length ≠ 0) :
  (callFunc f #[.slice (some ⟨g,off,none⟩) k kc,.slice (some ⟨b,0,none⟩) m mc]).run P w = .ok (.value (.bool false)) w := by
 obtain ⟨i,hi,hsz⟩ := hP.info
 rw [run_callFunc_extern hf hname hb hn he,Lib.run_overlaps_apart w T Tb Te hP.hT sz (fun w => by simp [sizeOf,typeInfo,hi,hsz]) ⟨g,off,none⟩ ⟨b,0,none⟩ k kc m mc (fun e => hne e.symm) Te Te cur.size us.length (by simp [World.shape?,hg]) (by simp [World.shape?,hbc]) hus (by simp [World.frozen?,hg]) (by simp [World.frozen?,hg])]
 rfl
theorem zqi {cur us ws Y:List Value} {p r:Nat} (h1:p≤cur.length) (h2:us.length=r) :
  ((cur.take p++us++cur.drop (p+us.length)).take (p+r)++ws++Y).take (p+r+ws.length)=cur.take p++us++ws:=by
 have e1:(cur.take p++us++cur.drop (p+us.length)).take (p+r)=cur.take p++us:=by
  rw [List.take_append_of_le_length (by simp only [List.length_append,List.length_take,h2];omega),List.take_of_length_le (by simp only [List.length_append,List.length_take,h2];omega)]
 rw [e1,List.take_append_of_le_length (by simp only [List.length_append,List.length_take,h2];omega),List.take_of_length_le (by simp only [List.length_append,List.length_take,h2];omega)]
theorem zqj {cur us ws Y:List Value} {p r:Nat} (h1:p+r≤cur.length) (h2:us.length=r) :
  ((cur.take (p+r)++ws++Y).take p++us++(cur.take (p+r)++ws++Y).drop (p+us.length)).take (p+r+ws.length)=cur.take p++us++ws:=by
 have e1:(cur.take (p+r)++ws++Y).take p=cur.take p:=by
  rw [List.append_assoc,List.take_append_of_le_length (by rw [List.length_take];omega),List.take_take]
  congr 1;omega
 have e2:(cur.take (p+r)++ws++Y).drop (p+us.length)=ws++Y:=by
  rw [h2,List.append_assoc,List.drop_append_of_le_length (by rw [List.length_take];omega),List.drop_of_length_le (by rw [List.length_take];omega),List.nil_append]
 rw [e1,e2,← List.append_assoc]
 rw [List.take_append_of_le_length (by simp only [List.length_append,List.length_take,h2];omega),List.take_of_length_le (by simp only [List.length_append,List.length_take,h2];omega)]
theorem RowQ.first {Te : TypeId} {sz : Nat} {w : World} {n i g cap : Nat} {vs : List Value} (h : RowQ Te sz w (.slice (some ⟨g,0,none⟩) n cap) n vs) (hi : i ≤ n) : RowQ Te sz w (.slice (some ⟨g,0,none⟩) i cap) i (vs.take (i * sz)) := by
 rcases h.cases with ⟨h,_⟩ | ⟨g',cap',cur,h',h1,h2,h3,h4,h5⟩
 ·cases h
 ·cases h'
  refine RowQ.of h1 (by omega) h3 h4 ?_ (fun u hu => h.2 u (List.mem_of_mem_take hu))
  rw [← h5,List.take_take,Nat.min_eq_left (Nat.mul_le_mul_right _ hi)]
section
variable {P : Program} {T Te : TypeId} {n : Nat} {ops : Array Oper} {rest : List Oper} {o : Oper} {a : Act} {Q : Exit → Act → World → Prop} {w : World} {K : Act → World → Prop}
theorem zi9 (hP : LsP P T Te n) {s x : Operand} (ho : o.op = .call { callee := .builtin .append,args := #[s,x],argTypes := #[T,T] }) (hgd : Region.wanted o (yielded ops a.tmps) = true) {g k cap : Nat} {cur : Array Value} {t : TypeId} {sa : Addr} {m c : Nat} {cs : List Value} (hs : a.eval s = .slice (some ⟨g,0,none⟩) k cap) (hx : a.eval x = .slice (some sa) m c)
  (hg : w.heap[g]? = some (.cells cur t (0,0))) (hl : cs.length = m * n) (hc : ∀ j u,cs[j]? = some u → w.cell? (sa.add j) = some u)
  (h1 : ∀ u ∈ cs,u.oneCell' = true) (hroom : k + m ≤ cap) (hfit : k * n + cs.length ≤ cur.size)
  (h : ∀ w',w'.heap[g]? = some (.cells (cur.toList.take (k * n) ++ cs ++ cur.toList.drop (k * n + cs.length)).toArray t (0,0)) → w.grownBy w' (some g) → wpList P ops Q rest (a.put o.dst (.slice (some ⟨g,0,none⟩) (k + m) cap)) w') : wpList P ops Q (o :: rest) a w :=
 BigFrame.wpList_want hgd fun _ hK => zhc hP ho hs hx hg hl hc h1 hroom hfit fun w' h2 h3 => hK _ _ (h w' h2 h3)
end
theorem zk8 (w : World) {n i j b m g cap : Nat} {vs us : List Value} (hv : RowQ 26 3 w (.slice (some ⟨g,0,none⟩) n cap) n vs) (hij : i < j) (_hjn : j ≤ n) (hn : n + m ≤ 1000000) (_hm : 0 < m) (hb : w.heap[b]? = some (.cells us.toArray 26 (0,0))) (hu : us.length = m * 3) (hu1 : ∀ u ∈ us,u.oneCell' = true) (_hbg : b ≠ g) (hend : j = n) (hlen : n ≤ i + m) :
  Calls Tryz.prog 101 #[.slice (some ⟨g,0,none⟩) n cap,.int .i64 i,.int .i64 j,.slice (some ⟨b,0,none⟩) m m] w (zc6 26 3 w (.slice (some ⟨g,0,none⟩) n cap) (i + m + (n - j)) (vs.take (i * 3) ++ us ++ vs.drop (j * 3))) := by
 have hz0 : ((i : Int) == (j : Int)) = false := beq_eq_false_iff_ne.2 (by omega)
 have hcs := zba hb
 have hblt := (Array.getElem?_eq_some_iff.1 hb).1
 have hglt := hv.lt (k := g) rfl
 obtain ⟨cur,hg,hnc,hcm,hcs1,hct⟩ : ∃ cur,w.heap[g]? = some (.cells cur 26 (0,0)) ∧ n ≤ cap ∧ cap ≤ maxLen ∧ cur.size = cap * 3 ∧ cur.toList.take (n * 3) = vs := by
  rcases hv.cases with ⟨h,_⟩ | ⟨g',cap',cur,h,h1,h2,h3,h4,h5⟩
  ·cases h
  ·cases h
   exact ⟨cur,h1,h2,h3,h4,h5⟩
 have hz1 : ((j : Int) == (n : Int)) = true := beq_iff_eq.2 (by omega)
 have d : decide ((i : Int) + (m : Int) < (n : Int)) = false := decide_eq_false (by omega)
 have hl : vs.drop (j * 3) = [] := List.drop_of_length_le (by rw [hv.len,hend]; exact Nat.le_refl _)
 have hl2 : i + m + (n - j) = i + m := by omega
 rw [hl,hl2,List.append_nil]
 clear hl hl2
 go_enter Tryz.func101,Tryz.ntmps101
 go_wp2_with (go_big_may; first
  | (refine za0 ndP.toLsP rfl rfl rfl (l := i) (r := j) (za5 _ (by omega) (by omega)) ?_; intro _)
  | (refine za2 ndP.toLsP rfl rfl rfl (r := i) (zat _ (by omega)) ?_)
  | (refine zcw ndP (by omega) rfl rfl (v := .slice (some ⟨g,0,none⟩) i cap) rfl (hv.first (by omega)) rfl hu hcs hu1 (by omega) ?_; intro ad cap' w' hR)
  | fail)
 go_ret
 exact ⟨_,rfl,hR.1,hR.2⟩
theorem zjn (w : World) {n i j b m g cap : Nat} {vs us : List Value} (hv : RowQ 26 3 w (.slice (some ⟨g,0,none⟩) n cap) n vs) (hij : i < j) (_hjn : j ≤ n) (_hn : n + m ≤ 1000000) (_hm : 0 < m) (hb : w.heap[b]? = some (.cells us.toArray 26 (0,0))) (hu : us.length = m * 3) (hu1 : ∀ u ∈ us,u.oneCell' = true) (_hbg : b ≠ g) (hend : j = n) (hlen : i + m < n) :
  Calls Tryz.prog 101 #[.slice (some ⟨g,0,none⟩) n cap,.int .i64 i,.int .i64 j,.slice (some ⟨b,0,none⟩) m m] w (zc6 26 3 w (.slice (some ⟨g,0,none⟩) n cap) (i + m + (n - j)) (vs.take (i * 3) ++ us ++ vs.drop (j * 3))) := by
 have hz0 : ((i : Int) == (j : Int)) = false := beq_eq_false_iff_ne.2 (by omega)
 have hcs := zba hb
 have hblt := (Array.getElem?_eq_some_iff.1 hb).1
 have hglt := hv.lt (k := g) rfl
 obtain ⟨cur,hg,hnc,hcm,hcs1,hct⟩ : ∃ cur,w.heap[g]? = some (.cells cur 26 (0,0)) ∧ n ≤ cap ∧ cap ≤ maxLen ∧ cur.size = cap * 3 ∧ cur.toList.take (n * 3) = vs := by
  rcases hv.cases with ⟨h,_⟩ | ⟨g',cap',cur,h,h1,h2,h3,h4,h5⟩
  ·cases h
  ·cases h
   exact ⟨cur,h1,h2,h3,h4,h5⟩
 have hz1 : ((j : Int) == (n : Int)) = true := beq_iff_eq.2 (by omega)
 have d : decide ((i : Int) + (m : Int) < (n : Int)) = true := decide_eq_true (by omega)
 have hl : vs.drop (j * 3) = [] := List.drop_of_length_le (by rw [hv.len,hend]; exact Nat.le_refl _)
 have hl2 : i + m + (n - j) = i + m := by omega
 rw [hl,hl2,List.append_nil]
 clear hl hl2
 go_enter Tryz.func101,Tryz.ntmps101
 go_upto_region 6 with (go_big_may; first
  | (refine za0 ndP.toLsP rfl rfl rfl (l := i) (r := j) (za5 _ (by omega) (by omega)) ?_; intro _)
  | (refine za2 ndP.toLsP rfl rfl rfl (r := i) (zat _ (by omega)) ?_)
  | (refine zi9 ndP.toLsP rfl rfl rfl rfl hg hu hcs hu1 (by omega) (by rw [hu,hcs1]; omega) ?_; intro w2 hg2 hgr2)
  | fail)
 obtain ⟨C1,hC1⟩ : ∃ C1 : Array Value,C1 = (cur.toList.take (i * 3) ++ us ++ cur.toList.drop (i * 3 + us.length)).toArray := ⟨_,rfl⟩
 replace hg2 : w2.heap[g]? = some (.cells C1 26 (0,0)) := by rw [hC1]; exact hg2
 have hC1s : C1.size = cap * 3 := by
  rw [hC1]
  simp only [List.size_toArray,List.length_append,List.length_take,List.length_drop,Array.length_toList,hcs1,hu]
  omega
 go_wp2_with (go_big_may; first
  | (refine zag ndP.toLsP rfl rfl rfl (l := i + m) (r := n) (zal _ (by omega) (by omega)) (by omega) ?_)
  | (refine zc7 ndP nd1 rfl rfl rfl rfl hg2 (.inr rfl) (.inr (by rw [hC1s]; omega)) ?_; intro W4 C4 hg4 hs4 ht4 _ hgr4)
  | fail)
 go_ret
 have q4 : Trd (· = g) w W4 := (Trd.ofGrown (F := (· = g)) hgr2 fun k hk => by injection hk with hk; exact hk.symm).trans (Trd.ofGrown (F := (· = g)) hgr4 fun k hk => by injection hk with hk; exact hk.symm) (fun _ _ h => h)
 refine ⟨_,rfl,RowQ.of hg4 (by omega) hcm (by rw [hs4,hC1s]) ?_ ?_,⟨q4.os,q4.tape,q4.output,q4.size,fun k hk hn => q4.block k hk fun h => hn (by rw [h]; rfl)⟩,.inl rfl⟩
 ·have h5 := ht4 (by omega)
  rw [Nat.zero_add] at h5
  rw [h5,hC1,← hct,List.take_take,Nat.min_eq_left (by omega),Nat.add_mul]
  show List.take _ (List.take _ _ ++ us ++ _) = _
  rw [List.take_append_of_le_length (by simp only [List.length_append,List.length_take,Array.length_toList,hcs1,hu]; omega),List.take_of_length_le (by simp only [List.length_append,List.length_take,hu]; omega)]
 ·intro u hu
  rcases List.mem_append.1 hu with h | h
  ·exact hv.2 u (List.mem_of_mem_take h)
  ·exact hu1 u h
theorem zjm (w : World) {n i j b m g cap : Nat} {vs us : List Value} (hv : RowQ 26 3 w (.slice (some ⟨g,0,none⟩) n cap) n vs) (hij : i < j) (hjn : j ≤ n) (hn : n + m ≤ 1000000) (hm : 0 < m) (hb : w.heap[b]? = some (.cells us.toArray 26 (0,0))) (hu : us.length = m * 3) (hu1 : ∀ u ∈ us,u.oneCell' = true) (_hbg : b ≠ g) (hend : j < n) (hroom : cap < i + m + (n - j)) :
  Calls Tryz.prog 101 #[.slice (some ⟨g,0,none⟩) n cap,.int .i64 i,.int .i64 j,.slice (some ⟨b,0,none⟩) m m] w (zc6 26 3 w (.slice (some ⟨g,0,none⟩) n cap) (i + m + (n - j)) (vs.take (i * 3) ++ us ++ vs.drop (j * 3))) := by
 have hz0 : ((i : Int) == (j : Int)) = false := beq_eq_false_iff_ne.2 (by omega)
 have hcs := zba hb
 have hblt := (Array.getElem?_eq_some_iff.1 hb).1
 have hglt := hv.lt (k := g) rfl
 obtain ⟨cur,hg,hnc,hcm,hcs1,hct⟩ : ∃ cur,w.heap[g]? = some (.cells cur 26 (0,0)) ∧ n ≤ cap ∧ cap ≤ maxLen ∧ cur.size = cap * 3 ∧ cur.toList.take (n * 3) = vs := by
  rcases hv.cases with ⟨h,_⟩ | ⟨g',cap',cur,h,h1,h2,h3,h4,h5⟩
  ·cases h
  ·cases h
   exact ⟨cur,h1,h2,h3,h4,h5⟩
 have hz1 : ((j : Int) == (n : Int)) = false := beq_eq_false_iff_ne.2 (by omega)
 obtain ⟨t,ht⟩ : ∃ t : Nat,t = i + m + (n - j) := ⟨_,rfl⟩
 have hti : ((i : Int) + (m : Int)) + ((n - j : Nat) : Int) = (t : Int) := by omega
 rw [← ht] at hroom ⊢
 have d : decide ((cap : Int) < (t : Int)) = true := decide_eq_true (by omega)
 have hl0 : (vs.take (i * 3)).length = i * 3 := by rw [List.length_take,hv.len]; exact Nat.min_eq_left (Nat.mul_le_mul_right _ (by omega))
 have htb1 : i + m ≤ t := by omega
 have htb2 : t ≤ 1000000 := by omega
 have htb3 : i + m + n ≤ t + j := by omega
 have htb4 : t + j ≤ i + m + n := by omega
 clear ht
 go_enter Tryz.func101,Tryz.ntmps101
 go_upto_region 9 with (go_big_may; first
  | (refine za0 ndP.toLsP rfl rfl rfl (l := i) (r := j) (za5 _ (by omega) (by omega)) ?_; intro _)
  | fail)
 refine zao (K := fun _ _ => True) (by kernel_rfl) (by kernel_rfl) [] (by kernel_rfl) [lEq (.slice (some ⟨g,0,none⟩) n cap),lEq (.int .i64 (i : Int)),lEq (.slice (some ⟨g,0,none⟩) i cap),lEq (.int .i64 (i : Nat)),lEq (.slice (some ⟨b,0,none⟩) m m),lEq (.int .i64 (m : Nat)),lEq (.int .i64 ((i : Int) + (m : Int))),lEq (.slice (some ⟨g,0,none⟩) n cap),lEq (.int .i64 (j : Int)),lEq (.slice (some ⟨g,0 + j * 3,none⟩) (n - j) (cap - j)),lEq (.int .i64 ((n - j) : Nat)),lEq (.int .i64 (t : Int)),lEq (.int .i64 (t : Int))] (fun _ W => Below w.heap.size w W) (fun l A B h hb => h.trans (hb.mono h.size)) (Below.refl _ _)
  ⟨?o0,?o1,?o2,?o3,?o4,?o5,?o6,?o7,?o8,?o9,?o10,?o11,?o12,trivial⟩ ?fin
 case o0 =>
  refine LnOp.side rfl (by kernel_rfl) (fun A vs w' k hF hT hk hJ hb hu hp hd => ?_)
  have e1 : A.eval (.tmp 0) = .slice (some ⟨g,0,none⟩) n cap := hF 0 rfl
  exact BigFrame.wp_move _ rfl ⟨_,rfl,e1,Below.refl _ _⟩
 case o1 =>
  refine LnOp.side rfl (by kernel_rfl) (fun A vs w' k hF hT hk hJ hb hu hp hd => ?_)
  have e1 : A.eval (.tmp 1) = .int .i64 (i : Int) := hF 1 rfl
  exact BigFrame.wp_move _ rfl ⟨_,rfl,e1,Below.refl _ _⟩
 case o2 =>
  refine LnOp.side rfl (by kernel_rfl) (fun A vs w' k hF hT hk hJ hb hu hp hd => ?_)
  have e1 : A.eval (.tmp 45) = .slice (some ⟨g,0,none⟩) n cap := (hT 45 0 (by simp) rfl).trans (hd ⟨0,.data⟩ (by simp) rfl rfl)
  have e2 : A.eval (.tmp 46) = .int .i64 (i : Int) := (hT 46 1 (by simp) rfl).trans (hd ⟨1,.data⟩ (by simp) rfl rfl)
  exact zdc ndP.toLsP rfl (e1) (congrArg some e2) (zat _ (by omega)) ⟨_,rfl,rfl,Below.refl _ _⟩
 case o3 =>
  refine LnOp.side rfl (by kernel_rfl) (fun A vs w' k hF hT hk hJ hb hu hp hd => ?_)
  have e1 : A.eval (.tmp 47) = .slice (some ⟨g,0,none⟩) i cap := (hT 47 2 (by simp) rfl).trans (hd ⟨2,.data⟩ (by simp) rfl rfl)
  exact zct (e := 26) rfl (by kernel_rfl) (e1) ⟨_,rfl,rfl,Below.refl _ _⟩
 case o4 =>
  refine LnOp.side rfl (by kernel_rfl) (fun A vs w' k hF hT hk hJ hb hu hp hd => ?_)
  have e1 : A.eval (.tmp 3) = .slice (some ⟨b,0,none⟩) m m := hF 3 rfl
  exact BigFrame.wp_move _ rfl ⟨_,rfl,e1,Below.refl _ _⟩
 case o5 =>
  refine LnOp.side rfl (by kernel_rfl) (fun A vs w' k hF hT hk hJ hb hu hp hd => ?_)
  have e1 : A.eval (.tmp 49) = .slice (some ⟨b,0,none⟩) m m := (hT 49 4 (by simp) rfl).trans (hd ⟨4,.data⟩ (by simp) rfl rfl)
  exact zct (e := 26) rfl (by kernel_rfl) (e1) ⟨_,rfl,rfl,Below.refl _ _⟩
 case o6 =>
  refine LnOp.side rfl (by kernel_rfl) (fun A vs w' k hF hT hk hJ hb hu hp hd => ?_)
  have e1 : A.eval (.tmp 48) = .int .i64 (i : Nat) := (hT 48 3 (by simp) rfl).trans (hd ⟨3,.data⟩ (by simp) rfl rfl)
  have e2 : A.eval (.tmp 50) = .int .i64 (m : Nat) := (hT 50 5 (by simp) rfl).trans (hd ⟨5,.data⟩ (by simp) rfl rfl)
  exact zbi rfl (e1) (e2) (by omega) (by omega) ⟨_,rfl,rfl,Below.refl _ _⟩
 case o7 =>
  refine LnOp.side rfl (by kernel_rfl) (fun A vs w' k hF hT hk hJ hb hu hp hd => ?_)
  have e1 : A.eval (.tmp 0) = .slice (some ⟨g,0,none⟩) n cap := hF 0 rfl
  exact BigFrame.wp_move _ rfl ⟨_,rfl,e1,Below.refl _ _⟩
 case o8 =>
  refine LnOp.side rfl (by kernel_rfl) (fun A vs w' k hF hT hk hJ hb hu hp hd => ?_)
  have e1 : A.eval (.tmp 2) = .int .i64 (j : Int) := hF 2 rfl
  exact BigFrame.wp_move _ rfl ⟨_,rfl,e1,Below.refl _ _⟩
 case o9 =>
  refine LnOp.side rfl (by kernel_rfl) (fun A vs w' k hF hT hk hJ hb hu hp hd => ?_)
  have e1 : A.eval (.tmp 52) = .slice (some ⟨g,0,none⟩) n cap := (hT 52 7 (by simp) rfl).trans (hd ⟨7,.data⟩ (by simp) rfl rfl)
  have e2 : A.eval (.tmp 53) = .int .i64 (j : Int) := (hT 53 8 (by simp) rfl).trans (hd ⟨8,.data⟩ (by simp) rfl rfl)
  exact zas ndP.toLsP rfl (e1) (congrArg some e2) rfl (zav _ (by omega)) (by omega) ⟨_,rfl,rfl,Below.refl _ _⟩
 case o10 =>
  refine LnOp.side rfl (by kernel_rfl) (fun A vs w' k hF hT hk hJ hb hu hp hd => ?_)
  have e1 : A.eval (.tmp 54) = .slice (some ⟨g,0 + j * 3,none⟩) (n - j) (cap - j) := (hT 54 9 (by simp) rfl).trans (hd ⟨9,.data⟩ (by simp) rfl rfl)
  exact zct (e := 26) rfl (by kernel_rfl) (e1) ⟨_,rfl,rfl,Below.refl _ _⟩
 case o11 =>
  refine LnOp.side rfl (by kernel_rfl) (fun A vs w' k hF hT hk hJ hb hu hp hd => ?_)
  have e1 : A.eval (.tmp 51) = .int .i64 ((i : Int) + (m : Int)) := (hT 51 6 (by simp) rfl).trans (hd ⟨6,.data⟩ (by simp) rfl rfl)
  have e2 : A.eval (.tmp 55) = .int .i64 ((n - j) : Nat) := (hT 55 10 (by simp) rfl).trans (hd ⟨10,.data⟩ (by simp) rfl rfl)
  exact zbi rfl (e1) (e2) (by omega) (by omega) ⟨_,rfl,congrArg (Value.int .i64) hti,Below.refl _ _⟩
 case o12 =>
  refine LnOp.side rfl (by kernel_rfl) (fun A vs w' k hF hT hk hJ hb hu hp hd => ?_)
  have e1 : A.eval (.tmp 56) = .int .i64 (t : Int) := (hT 56 11 (by simp) rfl).trans (hd ⟨11,.data⟩ (by simp) rfl rfl)
  exact BigFrame.wp_assign _ rfl ⟨_,rfl,e1,Below.refl _ _⟩
 case fin =>
 intro vs1 w9 q9 hG
 have e0 : vs1 0 = .slice (some ⟨g,0,none⟩) n cap := hG 0 (by decide) rfl
 have e1 : vs1 1 = .int .i64 (i : Int) := hG 1 (by decide) rfl
 have e2 : vs1 2 = .slice (some ⟨g,0,none⟩) i cap := hG 2 (by decide) rfl
 have e3 : vs1 3 = .int .i64 (i : Nat) := hG 3 (by decide) rfl
 have e4 : vs1 4 = .slice (some ⟨b,0,none⟩) m m := hG 4 (by decide) rfl
 have e5 : vs1 5 = .int .i64 (m : Nat) := hG 5 (by decide) rfl
 have e6 : vs1 6 = .int .i64 ((i : Int) + (m : Int)) := hG 6 (by decide) rfl
 have e7 : vs1 7 = .slice (some ⟨g,0,none⟩) n cap := hG 7 (by decide) rfl
 have e8 : vs1 8 = .int .i64 (j : Int) := hG 8 (by decide) rfl
 have e9 : vs1 9 = .slice (some ⟨g,0 + j * 3,none⟩) (n - j) (cap - j) := hG 9 (by decide) rfl
 have e10 : vs1 10 = .int .i64 ((n - j) : Nat) := hG 10 (by decide) rfl
 have e11 : vs1 11 = .int .i64 (t : Int) := hG 11 (by decide) rfl
 have e12 : vs1 12 = .int .i64 (t : Int) := hG 12 (by decide) rfl
 simp only [zae,e0,e1,e2,e3,e4,e5,e6,e7,e8,e9,e10,e11,e12]
 clear hG e0 e1 e2 e3 e4 e5 e6 e7 e8 e9 e10 e11 e12
 replace hv := hv.below q9
 replace hb := (q9.block b hblt).trans hb
 replace hg := (q9.block g hglt).trans hg
 replace hcs := zba hb
 replace hblt := Nat.lt_of_lt_of_le hblt q9.size
 replace hglt := Nat.lt_of_lt_of_le hglt q9.size
 go_simp
 have hcs0 : ∀ (q : Nat) (u : Value),(vs.take (i * 3))[q]? = some u → w9.cell? (Addr.add ⟨g,0,none⟩ q) = some u := fun q u hj => by
  rw [List.getElem?_take] at hj
  split at hj
  ·rw [Addr.add_lit,Nat.zero_add]; exact hv.cell rfl hj
  ·cases hj
 go_upto_region 12 with (go_big_may; first
  | (refine za2 ndP.toLsP rfl rfl rfl (r := i) (zat _ (by omega)) ?_)
  | (refine zcu ndP (by omega) (by kernel_rfl) rfl rfl rfl (m := t - i) rfl (by omega) hl0 (fun q hq => by cases hq; exact hcs0) (fun h => by cases h) (by omega) (by omega) (by omega) ?_; intro G cr hG1 hG2 hG3 hG4)
  | fail)
 have hL : i + (t - i) = t := by omega
 rw [hL] at hG1 ⊢
 clear hL
 have hg1 : ((w9.alloc (.cells cr 26)).drew).heap[w9.heap.size]? = some (.cells cr 26 (0,0)) := by simp only [World.alloc,World.drew,Array.getElem?_push_size]
 have q1 : Below w9.heap.size w9 ((w9.alloc (.cells cr 26)).drew) := ((Below.refl _ _).alloc (Nat.le_refl _) _).drew
 generalize (w9.alloc (.cells cr 26)).drew = W1 at *
 have hcs1' : ∀ (j : Nat) (u : Value),us[j]? = some u → W1.cell? (Addr.add ⟨b,0,none⟩ j) = some u := fun j u hj => by
  have := hcs j u hj
  rw [Addr.add_lit] at this ⊢
  exact (zac (q1.block b hblt) _).trans this
 go_upto_region 13 with (go_big_may; first
  | (refine zag ndP.toLsP rfl rfl rfl (l := i) (r := t) (zav _ (by omega)) (by omega) ?_)
  | (refine zbo ndP.toLsP rfl rfl rfl rfl hg1 (cs := us) (by rw [Nat.min_eq_left (by omega)]; exact hu) hcs1' hu1 (by rw [hG3,hu]; omega) ?_; intro W2 hg2 hgr2)
  | fail)
 have q2 : Below w9.heap.size w9 W2 := q1.grown hgr2 q1.size (fun k hk => by injection hk with hk; omega)
 have hdl : (vs.drop (j * 3)).length = (n - j) * 3 := by rw [List.length_drop,hv.len,Nat.sub_mul]
 have hgc : ∀ (W : World),Below w9.heap.size w9 W → ∀ (q : Nat) (u : Value),(vs.drop (j * 3))[q]? = some u → W.cell? (Addr.add ⟨g,0 + j * 3,none⟩ q) = some u := fun W hW q u hj => by
  rw [List.getElem?_drop] at hj
  rw [Addr.add_lit,Nat.zero_add]
  exact (zac (hW.block g hglt) _).trans (hv.cell rfl hj)
 obtain ⟨C1,hC1⟩ : ∃ C1 : Array Value,C1 = (cr.toList.take (i * 3) ++ us ++ cr.toList.drop (i * 3 + us.length)).toArray := ⟨_,rfl⟩
 replace hg2 : W2.heap[w9.heap.size]? = some (.cells C1 26 (0,0)) := by rw [hC1]; simpa using hg2
 have hC1s : C1.size = G * 3 := by
  rw [hC1]
  simp only [List.size_toArray,List.length_append,List.length_take,List.length_drop,Array.length_toList,hG3,hu]
  omega
 refine zao (K := fun _ _ => True) (by kernel_rfl) (by kernel_rfl) [9] (by kernel_rfl) [lEq (.slice (some ⟨w9.heap.size,0,none⟩) t G),lEq (.int .i64 (i : Int)),lEq (.slice (some ⟨b,0,none⟩) m m),lEq (.int .i64 (m : Nat)),lEq (.int .i64 ((i : Int) + (m : Int))),lEq (.slice (some ⟨w9.heap.size,0 + (i + m) * 3,none⟩) (t - (i + m)) (G - (i + m))),lEq (.slice (some ⟨g,0,none⟩) n cap),lEq (.int .i64 (j : Int)),lEq (.slice (some ⟨g,0 + j * 3,none⟩) (n - j) (cap - j)),lAny] (fun l W => Below w9.heap.size w9 W ∧ W.heap[w9.heap.size]? = some (.cells (match l with | [] => C1 | _ :: _ => (C1.toList.take (0 + (i + m) * 3) ++ vs.drop (j * 3) ++ C1.toList.drop (0 + (i + m) * 3 + (vs.drop (j * 3)).length)).toArray) 26 (0,0))) (fun l A B h hb => ⟨h.1.trans (hb.mono h.1.size),(hb.block _ (Array.getElem?_eq_some_iff.1 h.2).1).trans h.2⟩) ⟨q2,hg2⟩
  ⟨?o0,?o1,?o2,?o3,?o4,?o5,?o6,?o7,?o8,?o9,trivial⟩ ?fin2
 case o0 =>
  refine LnOp.side rfl (by kernel_rfl) (fun A vs w' k hF hT hk hJ hb hu hp hd => ?_)
  have e1 : A.eval (.tmp 11) = .slice (some ⟨w9.heap.size,0,none⟩) t G := hF 11 rfl
  exact BigFrame.wp_move _ rfl ⟨_,rfl,e1,Below.refl _ _⟩
 case o1 =>
  refine LnOp.side rfl (by kernel_rfl) (fun A vs w' k hF hT hk hJ hb hu hp hd => ?_)
  have e1 : A.eval (.tmp 1) = .int .i64 (i : Int) := hF 1 rfl
  exact BigFrame.wp_move _ rfl ⟨_,rfl,e1,Below.refl _ _⟩
 case o2 =>
  refine LnOp.side rfl (by kernel_rfl) (fun A vs w' k hF hT hk hJ hb hu hp hd => ?_)
  have e1 : A.eval (.tmp 3) = .slice (some ⟨b,0,none⟩) m m := hF 3 rfl
  exact BigFrame.wp_move _ rfl ⟨_,rfl,e1,Below.refl _ _⟩
 case o3 =>
  refine LnOp.side rfl (by kernel_rfl) (fun A vs w' k hF hT hk hJ hb hu hp hd => ?_)
  have e1 : A.eval (.tmp 75) = .slice (some ⟨b,0,none⟩) m m := (hT 75 2 (by simp [zau]) rfl).trans (hd ⟨2,.data⟩ (by simp) rfl rfl)
  exact zct (e := 26) rfl (by kernel_rfl) (e1) ⟨_,rfl,rfl,Below.refl _ _⟩
 case o4 =>
  refine LnOp.side rfl (by kernel_rfl) (fun A vs w' k hF hT hk hJ hb hu hp hd => ?_)
  have e1 : A.eval (.tmp 74) = .int .i64 (i : Int) := (hT 74 1 (by simp [zau]) rfl).trans (hd ⟨1,.data⟩ (by simp) rfl rfl)
  have e2 : A.eval (.tmp 76) = .int .i64 (m : Nat) := (hT 76 3 (by simp [zau]) rfl).trans (hd ⟨3,.data⟩ (by simp) rfl rfl)
  exact zbi rfl (e1) (e2) (by omega) (by omega) ⟨_,rfl,rfl,Below.refl _ _⟩
 case o5 =>
  refine LnOp.side rfl (by kernel_rfl) (fun A vs w' k hF hT hk hJ hb hu hp hd => ?_)
  have e1 : A.eval (.tmp 73) = .slice (some ⟨w9.heap.size,0,none⟩) t G := (hT 73 0 (by simp [zau]) rfl).trans (hd ⟨0,.data⟩ (by simp) rfl rfl)
  have e2 : A.eval (.tmp 77) = .int .i64 ((i : Int) + (m : Int)) := (hT 77 4 (by simp [zau]) rfl).trans (hd ⟨4,.data⟩ (by simp) rfl rfl)
  exact zas ndP.toLsP rfl (e1) (congrArg some e2) rfl (zal _ (by omega) (by omega)) (by omega) ⟨_,rfl,rfl,Below.refl _ _⟩
 case o6 =>
  refine LnOp.side rfl (by kernel_rfl) (fun A vs w' k hF hT hk hJ hb hu hp hd => ?_)
  have e1 : A.eval (.tmp 0) = .slice (some ⟨g,0,none⟩) n cap := hF 0 rfl
  exact BigFrame.wp_move _ rfl ⟨_,rfl,e1,Below.refl _ _⟩
 case o7 =>
  refine LnOp.side rfl (by kernel_rfl) (fun A vs w' k hF hT hk hJ hb hu hp hd => ?_)
  have e1 : A.eval (.tmp 2) = .int .i64 (j : Int) := hF 2 rfl
  exact BigFrame.wp_move _ rfl ⟨_,rfl,e1,Below.refl _ _⟩
 case o8 =>
  refine LnOp.side rfl (by kernel_rfl) (fun A vs w' k hF hT hk hJ hb hu hp hd => ?_)
  have e1 : A.eval (.tmp 79) = .slice (some ⟨g,0,none⟩) n cap := (hT 79 6 (by simp [zau]) rfl).trans (hd ⟨6,.data⟩ (by simp) rfl rfl)
  have e2 : A.eval (.tmp 80) = .int .i64 (j : Int) := (hT 80 7 (by simp [zau]) rfl).trans (hd ⟨7,.data⟩ (by simp) rfl rfl)
  exact zas ndP.toLsP rfl (e1) (congrArg some e2) rfl (zal _ (by omega) (by omega)) (by omega) ⟨_,rfl,rfl,Below.refl _ _⟩
 case o9 =>
  refine LnOp.line 0 rfl rfl (fun A va w' hF hT hJ hu hd => ?_)
  have e1 : A.eval (.tmp 78) = .slice (some ⟨w9.heap.size,0 + (i + m) * 3,none⟩) (t - (i + m)) (G - (i + m)) := (hT 78 5 (by simp [zau]) rfl).trans (hd ⟨5,.data⟩ (by simp) rfl rfl)
  have e2 : A.eval (.tmp 81) = .slice (some ⟨g,0 + j * 3,none⟩) (n - j) (cap - j) := (hT 81 8 (by simp [zau]) rfl).trans (hd ⟨8,.data⟩ (by simp) rfl rfl)
  refine zch ndP.toLsP rfl e1 e2 hJ.2 (cs := vs.drop (j * 3)) (by rw [hdl,Nat.min_eq_left (by omega)]) (hgc _ hJ.1) (fun u hu => hv.2 u (List.mem_of_mem_drop hu)) ?_ ?_
  ·show 0 + (i + m) * 3 + (vs.drop (j * 3)).length ≤ C1.size
   rw [hC1s,hdl]
   omega
  ·intro W3 hg3 hgr3
   exact ⟨_,rfl,⟨hJ.1.grown hgr3 hJ.1.size (fun k hk => by injection hk with hk; omega),hg3⟩,trivial⟩
 case fin2 =>
 intro vs1 W3 hJ hG
 have e0 : vs1 0 = .slice (some ⟨w9.heap.size,0,none⟩) t G := hG 0 (by decide) rfl
 have e1 : vs1 1 = .int .i64 (i : Int) := hG 1 (by decide) rfl
 have e2 : vs1 2 = .slice (some ⟨b,0,none⟩) m m := hG 2 (by decide) rfl
 have e3 : vs1 3 = .int .i64 (m : Nat) := hG 3 (by decide) rfl
 have e4 : vs1 4 = .int .i64 ((i : Int) + (m : Int)) := hG 4 (by decide) rfl
 have e5 : vs1 5 = .slice (some ⟨w9.heap.size,0 + (i + m) * 3,none⟩) (t - (i + m)) (G - (i + m)) := hG 5 (by decide) rfl
 have e6 : vs1 6 = .slice (some ⟨g,0,none⟩) n cap := hG 6 (by decide) rfl
 have e7 : vs1 7 = .int .i64 (j : Int) := hG 7 (by decide) rfl
 have e8 : vs1 8 = .slice (some ⟨g,0 + j * 3,none⟩) (n - j) (cap - j) := hG 8 (by decide) rfl
 simp only [zae,e0,e1,e2,e3,e4,e5,e6,e7,e8]
 clear hG e0 e1 e2 e3 e4 e5 e6 e7 e8
 go_simp
 go_wp2_with fail
 go_ret
 refine ⟨_,rfl,RowQ.of hJ.2 hG1 hG2 ?_ ?_ ?_,?_,.inr ⟨_,rfl,q9.size⟩⟩
 ·show (List.toArray _).size = _
  simp only [List.size_toArray,List.length_append,List.length_take,List.length_drop,Array.length_toList,hC1s,hv.len]
  omega
 ·show List.take _ (C1.toList.take _ ++ _ ++ C1.toList.drop _) = _
  have := zqi (cur := cr.toList) (us := us) (ws := vs.drop (j * 3)) (Y := (cr.toList.take (i * 3) ++ us ++ cr.toList.drop (i * 3 + us.length)).drop ((i + m) * 3 + (vs.drop (j * 3)).length)) (p := i * 3) (r := m * 3) (by rw [Array.length_toList,hG3]; omega) hu
  rw [← Nat.add_mul] at this
  rw [Nat.zero_add,show t * 3 = (i + m) * 3 + (vs.drop (j * 3)).length by rw [hdl,← Nat.add_mul]; congr 1; omega,hC1,← hG4]
  exact this
 ·intro u hu
  rcases List.mem_append.1 hu with h | h
  ·rcases List.mem_append.1 h with h | h
   ·exact hv.2 u (List.mem_of_mem_take h)
   ·exact hu1 u h
  ·exact hv.2 u (List.mem_of_mem_drop h)
 ·have q3 := q9.trans (hJ.1.mono q9.size)
  exact ⟨q3.os,q3.tape,q3.output,q3.size,fun k hk _ => q3.block k hk⟩
theorem zjl (w : World) {n i j b m g cap : Nat} {vs us : List Value} (hv : RowQ 26 3 w (.slice (some ⟨g,0,none⟩) n cap) n vs) (hij : i < j) (hjn : j ≤ n) (hn : n + m ≤ 1000000) (hm : 0 < m) (hb : w.heap[b]? = some (.cells us.toArray 26 (0,0))) (hu : us.length = m * 3) (hu1 : ∀ u ∈ us,u.oneCell' = true) (_hbg : b ≠ g) (hend : j < n) (hless : i + m < j) :
  Calls Tryz.prog 101 #[.slice (some ⟨g,0,none⟩) n cap,.int .i64 i,.int .i64 j,.slice (some ⟨b,0,none⟩) m m] w (zc6 26 3 w (.slice (some ⟨g,0,none⟩) n cap) (i + m + (n - j)) (vs.take (i * 3) ++ us ++ vs.drop (j * 3))) := by
 have hz0 : ((i : Int) == (j : Int)) = false := beq_eq_false_iff_ne.2 (by omega)
 have hcs := zba hb
 have hblt := (Array.getElem?_eq_some_iff.1 hb).1
 have hglt := hv.lt (k := g) rfl
 obtain ⟨cur,hg,hnc,hcm,hcs1,hct⟩ : ∃ cur,w.heap[g]? = some (.cells cur 26 (0,0)) ∧ n ≤ cap ∧ cap ≤ maxLen ∧ cur.size = cap * 3 ∧ cur.toList.take (n * 3) = vs := by
  rcases hv.cases with ⟨h,_⟩ | ⟨g',cap',cur,h,h1,h2,h3,h4,h5⟩
  ·cases h
  ·cases h
   exact ⟨cur,h1,h2,h3,h4,h5⟩
 have hz1 : ((j : Int) == (n : Int)) = false := beq_eq_false_iff_ne.2 (by omega)
 obtain ⟨t,ht⟩ : ∃ t : Nat,t = i + m + (n - j) := ⟨_,rfl⟩
 have hti : ((i : Int) + (m : Int)) + ((n - j : Nat) : Int) = (t : Int) := by omega
 rw [← ht]
 have d : decide ((cap : Int) < (t : Int)) = false := decide_eq_false (by omega)
 have d2 : decide ((i : Int) + (m : Int) ≤ (j : Int)) = true := decide_eq_true (by omega)
 have hdl : (vs.drop (j * 3)).length = (n - j) * 3 := by rw [List.length_drop,hv.len,Nat.sub_mul]
 have htn : t < n := by omega
 have htb1 : i + m ≤ t := by omega
 have htb2 : t ≤ 1000000 := by omega
 have htb3 : i + m + n ≤ t + j := by omega
 have htb4 : t + j ≤ i + m + n := by omega
 clear ht
 go_enter Tryz.func101,Tryz.ntmps101
 go_upto_region 9 with (go_big_may; first
  | (refine za0 ndP.toLsP rfl rfl rfl (l := i) (r := j) (za5 _ (by omega) (by omega)) ?_; intro _)
  | fail)
 refine zao (K := fun _ _ => True) (by kernel_rfl) (by kernel_rfl) [] (by kernel_rfl) [lEq (.slice (some ⟨g,0,none⟩) n cap),lEq (.int .i64 (i : Int)),lEq (.slice (some ⟨g,0,none⟩) i cap),lEq (.int .i64 (i : Nat)),lEq (.slice (some ⟨b,0,none⟩) m m),lEq (.int .i64 (m : Nat)),lEq (.int .i64 ((i : Int) + (m : Int))),lEq (.slice (some ⟨g,0,none⟩) n cap),lEq (.int .i64 (j : Int)),lEq (.slice (some ⟨g,0 + j * 3,none⟩) (n - j) (cap - j)),lEq (.int .i64 ((n - j) : Nat)),lEq (.int .i64 (t : Int)),lEq (.int .i64 (t : Int))] (fun _ W => Below w.heap.size w W) (fun l A B h hb => h.trans (hb.mono h.size)) (Below.refl _ _)
  ⟨?o0,?o1,?o2,?o3,?o4,?o5,?o6,?o7,?o8,?o9,?o10,?o11,?o12,trivial⟩ ?fin
 case o0 =>
  refine LnOp.side rfl (by kernel_rfl) (fun A vs w' k hF hT hk hJ hb hu hp hd => ?_)
  have e1 : A.eval (.tmp 0) = .slice (some ⟨g,0,none⟩) n cap := hF 0 rfl
  exact BigFrame.wp_move _ rfl ⟨_,rfl,e1,Below.refl _ _⟩
 case o1 =>
  refine LnOp.side rfl (by kernel_rfl) (fun A vs w' k hF hT hk hJ hb hu hp hd => ?_)
  have e1 : A.eval (.tmp 1) = .int .i64 (i : Int) := hF 1 rfl
  exact BigFrame.wp_move _ rfl ⟨_,rfl,e1,Below.refl _ _⟩
 case o2 =>
  refine LnOp.side rfl (by kernel_rfl) (fun A vs w' k hF hT hk hJ hb hu hp hd => ?_)
  have e1 : A.eval (.tmp 45) = .slice (some ⟨g,0,none⟩) n cap := (hT 45 0 (by simp) rfl).trans (hd ⟨0,.data⟩ (by simp) rfl rfl)
  have e2 : A.eval (.tmp 46) = .int .i64 (i : Int) := (hT 46 1 (by simp) rfl).trans (hd ⟨1,.data⟩ (by simp) rfl rfl)
  exact zdc ndP.toLsP rfl (e1) (congrArg some e2) (zat _ (by omega)) ⟨_,rfl,rfl,Below.refl _ _⟩
 case o3 =>
  refine LnOp.side rfl (by kernel_rfl) (fun A vs w' k hF hT hk hJ hb hu hp hd => ?_)
  have e1 : A.eval (.tmp 47) = .slice (some ⟨g,0,none⟩) i cap := (hT 47 2 (by simp) rfl).trans (hd ⟨2,.data⟩ (by simp) rfl rfl)
  exact zct (e := 26) rfl (by kernel_rfl) (e1) ⟨_,rfl,rfl,Below.refl _ _⟩
 case o4 =>
  refine LnOp.side rfl (by kernel_rfl) (fun A vs w' k hF hT hk hJ hb hu hp hd => ?_)
  have e1 : A.eval (.tmp 3) = .slice (some ⟨b,0,none⟩) m m := hF 3 rfl
  exact BigFrame.wp_move _ rfl ⟨_,rfl,e1,Below.refl _ _⟩
 case o5 =>
  refine LnOp.side rfl (by kernel_rfl) (fun A vs w' k hF hT hk hJ hb hu hp hd => ?_)
  have e1 : A.eval (.tmp 49) = .slice (some ⟨b,0,none⟩) m m := (hT 49 4 (by simp) rfl).trans (hd ⟨4,.data⟩ (by simp) rfl rfl)
  exact zct (e := 26) rfl (by kernel_rfl) (e1) ⟨_,rfl,rfl,Below.refl _ _⟩
 case o6 =>
  refine LnOp.side rfl (by kernel_rfl) (fun A vs w' k hF hT hk hJ hb hu hp hd => ?_)
  have e1 : A.eval (.tmp 48) = .int .i64 (i : Nat) := (hT 48 3 (by simp) rfl).trans (hd ⟨3,.data⟩ (by simp) rfl rfl)
  have e2 : A.eval (.tmp 50) = .int .i64 (m : Nat) := (hT 50 5 (by simp) rfl).trans (hd ⟨5,.data⟩ (by simp) rfl rfl)
  exact zbi rfl (e1) (e2) (by omega) (by omega) ⟨_,rfl,rfl,Below.refl _ _⟩
 case o7 =>
  refine LnOp.side rfl (by kernel_rfl) (fun A vs w' k hF hT hk hJ hb hu hp hd => ?_)
  have e1 : A.eval (.tmp 0) = .slice (some ⟨g,0,none⟩) n cap := hF 0 rfl
  exact BigFrame.wp_move _ rfl ⟨_,rfl,e1,Below.refl _ _⟩
 case o8 =>
  refine LnOp.side rfl (by kernel_rfl) (fun A vs w' k hF hT hk hJ hb hu hp hd => ?_)
  have e1 : A.eval (.tmp 2) = .int .i64 (j : Int) := hF 2 rfl
  exact BigFrame.wp_move _ rfl ⟨_,rfl,e1,Below.refl _ _⟩
 case o9 =>
  refine LnOp.side rfl (by kernel_rfl) (fun A vs w' k hF hT hk hJ hb hu hp hd => ?_)
  have e1 : A.eval (.tmp 52) = .slice (some ⟨g,0,none⟩) n cap := (hT 52 7 (by simp) rfl).trans (hd ⟨7,.data⟩ (by simp) rfl rfl)
  have e2 : A.eval (.tmp 53) = .int .i64 (j : Int) := (hT 53 8 (by simp) rfl).trans (hd ⟨8,.data⟩ (by simp) rfl rfl)
  exact zas ndP.toLsP rfl (e1) (congrArg some e2) rfl (zav _ (by omega)) (by omega) ⟨_,rfl,rfl,Below.refl _ _⟩
 case o10 =>
  refine LnOp.side rfl (by kernel_rfl) (fun A vs w' k hF hT hk hJ hb hu hp hd => ?_)
  have e1 : A.eval (.tmp 54) = .slice (some ⟨g,0 + j * 3,none⟩) (n - j) (cap - j) := (hT 54 9 (by simp) rfl).trans (hd ⟨9,.data⟩ (by simp) rfl rfl)
  exact zct (e := 26) rfl (by kernel_rfl) (e1) ⟨_,rfl,rfl,Below.refl _ _⟩
 case o11 =>
  refine LnOp.side rfl (by kernel_rfl) (fun A vs w' k hF hT hk hJ hb hu hp hd => ?_)
  have e1 : A.eval (.tmp 51) = .int .i64 ((i : Int) + (m : Int)) := (hT 51 6 (by simp) rfl).trans (hd ⟨6,.data⟩ (by simp) rfl rfl)
  have e2 : A.eval (.tmp 55) = .int .i64 ((n - j) : Nat) := (hT 55 10 (by simp) rfl).trans (hd ⟨10,.data⟩ (by simp) rfl rfl)
  exact zbi rfl (e1) (e2) (by omega) (by omega) ⟨_,rfl,congrArg (Value.int .i64) hti,Below.refl _ _⟩
 case o12 =>
  refine LnOp.side rfl (by kernel_rfl) (fun A vs w' k hF hT hk hJ hb hu hp hd => ?_)
  have e1 : A.eval (.tmp 56) = .int .i64 (t : Int) := (hT 56 11 (by simp) rfl).trans (hd ⟨11,.data⟩ (by simp) rfl rfl)
  exact BigFrame.wp_assign _ rfl ⟨_,rfl,e1,Below.refl _ _⟩
 case fin =>
 intro vs1 w9 q9 hG
 have e0 : vs1 0 = .slice (some ⟨g,0,none⟩) n cap := hG 0 (by decide) rfl
 have e1 : vs1 1 = .int .i64 (i : Int) := hG 1 (by decide) rfl
 have e2 : vs1 2 = .slice (some ⟨g,0,none⟩) i cap := hG 2 (by decide) rfl
 have e3 : vs1 3 = .int .i64 (i : Nat) := hG 3 (by decide) rfl
 have e4 : vs1 4 = .slice (some ⟨b,0,none⟩) m m := hG 4 (by decide) rfl
 have e5 : vs1 5 = .int .i64 (m : Nat) := hG 5 (by decide) rfl
 have e6 : vs1 6 = .int .i64 ((i : Int) + (m : Int)) := hG 6 (by decide) rfl
 have e7 : vs1 7 = .slice (some ⟨g,0,none⟩) n cap := hG 7 (by decide) rfl
 have e8 : vs1 8 = .int .i64 (j : Int) := hG 8 (by decide) rfl
 have e9 : vs1 9 = .slice (some ⟨g,0 + j * 3,none⟩) (n - j) (cap - j) := hG 9 (by decide) rfl
 have e10 : vs1 10 = .int .i64 ((n - j) : Nat) := hG 10 (by decide) rfl
 have e11 : vs1 11 = .int .i64 (t : Int) := hG 11 (by decide) rfl
 have e12 : vs1 12 = .int .i64 (t : Int) := hG 12 (by decide) rfl
 simp only [zae,e0,e1,e2,e3,e4,e5,e6,e7,e8,e9,e10,e11,e12]
 clear hG e0 e1 e2 e3 e4 e5 e6 e7 e8 e9 e10 e11 e12
 replace hv := hv.below q9
 replace hb := (q9.block b hblt).trans hb
 replace hg := (q9.block g hglt).trans hg
 replace hcs := zba hb
 replace hblt := Nat.lt_of_lt_of_le hblt q9.size
 replace hglt := Nat.lt_of_lt_of_le hglt q9.size
 go_simp
 go_upto_region 18 with (go_big_may; first
  | (refine za2 ndP.toLsP rfl rfl rfl (r := t) (zat _ (by omega)) ?_)
  | (refine zag ndP.toLsP rfl rfl rfl (l := i) (r := t) (zav _ (by omega)) (by omega) ?_)
  | (refine zbo ndP.toLsP rfl rfl rfl rfl hg (cs := us) (by rw [Nat.min_eq_left (by omega)]; exact hu) hcs hu1 (by rw [hcs1,hu]; omega) ?_; intro W2 hg2 hgr2)
  | fail)
 have q2 : Trd (· = g) w9 W2 := Trd.ofGrown (F := (· = g)) hgr2 fun k hk => by injection hk with hk; exact hk.symm
 obtain ⟨C1,hC1⟩ : ∃ C1 : Array Value,C1 = (cur.toList.take (i * 3) ++ us ++ cur.toList.drop (i * 3 + us.length)).toArray := ⟨_,rfl⟩
 replace hg2 : W2.heap[g]? = some (.cells C1 26 (0,0)) := by rw [hC1]; simpa using hg2
 have hC1s : C1.size = cap * 3 := by
  rw [hC1]
  simp only [List.size_toArray,List.length_append,List.length_take,List.length_drop,Array.length_toList,hcs1,hu]
  omega
 have hC1d : ∀ (q : Nat) (u : Value),(vs.drop (j * 3))[q]? = some u → C1.toList[j * 3 + q]? = some u := fun q u hj => by
  rw [List.getElem?_drop,← hct,List.getElem?_take] at hj
  split at hj
  ·have e : (cur.toList.take (i * 3) ++ us).length = i * 3 + m * 3 := by
    simp only [List.length_append,List.length_take,Array.length_toList,hcs1,hu]
    omega
   rw [hC1]
   show (_ ++ us ++ _ : List Value)[_]? = _
   rw [List.getElem?_append_right (by omega),e,List.getElem?_drop,hu]
   rw [show i * 3 + m * 3 + (j * 3 + q - (i * 3 + m * 3)) = j * 3 + q by omega]
   exact hj
  ·cases hj
 refine zao (K := fun _ _ => True) (by kernel_rfl) (by kernel_rfl) [9] (by kernel_rfl) [lEq (.slice (some ⟨g,0,none⟩) t cap),lEq (.int .i64 (i : Int)),lEq (.slice (some ⟨b,0,none⟩) m m),lEq (.int .i64 (m : Nat)),lEq (.int .i64 ((i : Int) + (m : Int))),lEq (.slice (some ⟨g,0 + (i + m) * 3,none⟩) (t - (i + m)) (cap - (i + m))),lEq (.slice (some ⟨g,0,none⟩) n cap),lEq (.int .i64 (j : Int)),lEq (.slice (some ⟨g,0 + j * 3,none⟩) (n - j) (cap - j)),lAny] (fun l W => Trd (· = g) w9 W ∧ W.heap[g]? = some (.cells (match l with | [] => C1 | _ :: _ => (C1.toList.take (0 + (i + m) * 3) ++ vs.drop (j * 3) ++ C1.toList.drop (0 + (i + m) * 3 + (vs.drop (j * 3)).length)).toArray) 26 (0,0))) (fun l A B h hb => ⟨h.1.trans (Trd.of (F := (· = g)) hb) (fun _ _ h => h),(hb.block _ (Array.getElem?_eq_some_iff.1 h.2).1).trans h.2⟩) ⟨q2,hg2⟩
  ⟨?o0,?o1,?o2,?o3,?o4,?o5,?o6,?o7,?o8,?o9,trivial⟩ ?fin2
 case o0 =>
  refine LnOp.side rfl (by kernel_rfl) (fun A vs w' k hF hT hk hJ hb hu hp hd => ?_)
  have e1 : A.eval (.tmp 12) = .slice (some ⟨g,0,none⟩) t cap := hF 12 rfl
  exact BigFrame.wp_move _ rfl ⟨_,rfl,e1,Below.refl _ _⟩
 case o1 =>
  refine LnOp.side rfl (by kernel_rfl) (fun A vs w' k hF hT hk hJ hb hu hp hd => ?_)
  have e1 : A.eval (.tmp 1) = .int .i64 (i : Int) := hF 1 rfl
  exact BigFrame.wp_move _ rfl ⟨_,rfl,e1,Below.refl _ _⟩
 case o2 =>
  refine LnOp.side rfl (by kernel_rfl) (fun A vs w' k hF hT hk hJ hb hu hp hd => ?_)
  have e1 : A.eval (.tmp 3) = .slice (some ⟨b,0,none⟩) m m := hF 3 rfl
  exact BigFrame.wp_move _ rfl ⟨_,rfl,e1,Below.refl _ _⟩
 case o3 =>
  refine LnOp.side rfl (by kernel_rfl) (fun A vs w' k hF hT hk hJ hb hu hp hd => ?_)
  have e1 : A.eval (.tmp 100) = .slice (some ⟨b,0,none⟩) m m := (hT 100 2 (by simp [zau]) rfl).trans (hd ⟨2,.data⟩ (by simp) rfl rfl)
  exact zct (e := 26) rfl (by kernel_rfl) (e1) ⟨_,rfl,rfl,Below.refl _ _⟩
 case o4 =>
  refine LnOp.side rfl (by kernel_rfl) (fun A vs w' k hF hT hk hJ hb hu hp hd => ?_)
  have e1 : A.eval (.tmp 99) = .int .i64 (i : Int) := (hT 99 1 (by simp [zau]) rfl).trans (hd ⟨1,.data⟩ (by simp) rfl rfl)
  have e2 : A.eval (.tmp 101) = .int .i64 (m : Nat) := (hT 101 3 (by simp [zau]) rfl).trans (hd ⟨3,.data⟩ (by simp) rfl rfl)
  exact zbi rfl (e1) (e2) (by omega) (by omega) ⟨_,rfl,rfl,Below.refl _ _⟩
 case o5 =>
  refine LnOp.side rfl (by kernel_rfl) (fun A vs w' k hF hT hk hJ hb hu hp hd => ?_)
  have e1 : A.eval (.tmp 98) = .slice (some ⟨g,0,none⟩) t cap := (hT 98 0 (by simp [zau]) rfl).trans (hd ⟨0,.data⟩ (by simp) rfl rfl)
  have e2 : A.eval (.tmp 102) = .int .i64 ((i : Int) + (m : Int)) := (hT 102 4 (by simp [zau]) rfl).trans (hd ⟨4,.data⟩ (by simp) rfl rfl)
  exact zas ndP.toLsP rfl (e1) (congrArg some e2) rfl (zal _ (by omega) (by omega)) (by omega) ⟨_,rfl,rfl,Below.refl _ _⟩
 case o6 =>
  refine LnOp.side rfl (by kernel_rfl) (fun A vs w' k hF hT hk hJ hb hu hp hd => ?_)
  have e1 : A.eval (.tmp 0) = .slice (some ⟨g,0,none⟩) n cap := hF 0 rfl
  exact BigFrame.wp_move _ rfl ⟨_,rfl,e1,Below.refl _ _⟩
 case o7 =>
  refine LnOp.side rfl (by kernel_rfl) (fun A vs w' k hF hT hk hJ hb hu hp hd => ?_)
  have e1 : A.eval (.tmp 2) = .int .i64 (j : Int) := hF 2 rfl
  exact BigFrame.wp_move _ rfl ⟨_,rfl,e1,Below.refl _ _⟩
 case o8 =>
  refine LnOp.side rfl (by kernel_rfl) (fun A vs w' k hF hT hk hJ hb hu hp hd => ?_)
  have e1 : A.eval (.tmp 104) = .slice (some ⟨g,0,none⟩) n cap := (hT 104 6 (by simp [zau]) rfl).trans (hd ⟨6,.data⟩ (by simp) rfl rfl)
  have e2 : A.eval (.tmp 105) = .int .i64 (j : Int) := (hT 105 7 (by simp [zau]) rfl).trans (hd ⟨7,.data⟩ (by simp) rfl rfl)
  exact zas ndP.toLsP rfl (e1) (congrArg some e2) rfl (zal _ (by omega) (by omega)) (by omega) ⟨_,rfl,rfl,Below.refl _ _⟩
 case o9 =>
  refine LnOp.line 0 rfl rfl (fun A va w' hF hT hJ hu hd => ?_)
  have e1 : A.eval (.tmp 103) = .slice (some ⟨g,0 + (i + m) * 3,none⟩) (t - (i + m)) (cap - (i + m)) := (hT 103 5 (by simp [zau]) rfl).trans (hd ⟨5,.data⟩ (by simp) rfl rfl)
  have e2 : A.eval (.tmp 106) = .slice (some ⟨g,0 + j * 3,none⟩) (n - j) (cap - j) := (hT 106 8 (by simp [zau]) rfl).trans (hd ⟨8,.data⟩ (by simp) rfl rfl)
  refine zch ndP.toLsP rfl e1 e2 hJ.2 (cs := vs.drop (j * 3)) (by rw [hdl,Nat.min_eq_left (by omega)]) (fun q u hj => ?_) (fun u hu => hv.2 u (List.mem_of_mem_drop hu)) ?_ ?_
  ·rw [Addr.add_lit,Nat.zero_add]
   have h5 : w'.heap[g]? = some (.cells C1 26 (0,0)) := hJ.2
   simpa [World.cell?,h5,← Array.getElem?_toList] using hC1d q u hj
  ·show 0 + (i + m) * 3 + (vs.drop (j * 3)).length ≤ C1.size
   rw [hC1s,hdl]
   omega
  ·intro W3 hg3 hgr3
   exact ⟨_,rfl,⟨hJ.1.trans (Trd.ofGrown (F := (· = g)) hgr3 fun k hk => by injection hk with hk; exact hk.symm) (fun _ _ h => h),hg3⟩,trivial⟩
 case fin2 =>
 intro vs1 W3 hJ hG
 have e0 : vs1 0 = .slice (some ⟨g,0,none⟩) t cap := hG 0 (by decide) rfl
 have e1 : vs1 1 = .int .i64 (i : Int) := hG 1 (by decide) rfl
 have e2 : vs1 2 = .slice (some ⟨b,0,none⟩) m m := hG 2 (by decide) rfl
 have e3 : vs1 3 = .int .i64 (m : Nat) := hG 3 (by decide) rfl
 have e4 : vs1 4 = .int .i64 ((i : Int) + (m : Int)) := hG 4 (by decide) rfl
 have e5 : vs1 5 = .slice (some ⟨g,0 + (i + m) * 3,none⟩) (t - (i + m)) (cap - (i + m)) := hG 5 (by decide) rfl
 have e6 : vs1 6 = .slice (some ⟨g,0,none⟩) n cap := hG 6 (by decide) rfl
 have e7 : vs1 7 = .int .i64 (j : Int) := hG 7 (by decide) rfl
 have e8 : vs1 8 = .slice (some ⟨g,0 + j * 3,none⟩) (n - j) (cap - j) := hG 8 (by decide) rfl
 simp only [zae,e0,e1,e2,e3,e4,e5,e6,e7,e8]
 clear hG e0 e1 e2 e3 e4 e5 e6 e7 e8
 obtain ⟨C2,hC2⟩ : ∃ C2 : Array Value,C2 = (C1.toList.take (0 + (i + m) * 3) ++ vs.drop (j * 3) ++ C1.toList.drop (0 + (i + m) * 3 + (vs.drop (j * 3)).length)).toArray := ⟨_,rfl⟩
 have hg3 : W3.heap[g]? = some (.cells C2 26 (0,0)) := by rw [hC2]; exact hJ.2
 have hC2s : C2.size = cap * 3 := by
  rw [hC2]
  simp only [List.size_toArray,List.length_append,List.length_take,List.length_drop,Array.length_toList,hC1s,hv.len]
  omega
 go_simp
 go_wp2_with (go_big_may; first
  | (refine zag ndP.toLsP rfl rfl rfl (l := t) (r := n) (zav _ (by omega)) (by omega) ?_)
  | (refine zc7 ndP nd1 rfl rfl rfl rfl hg3 (.inr rfl) (.inr (by rw [hC2s]; omega)) ?_; intro W4 C4 hg4 hs4 ht4 _ hgr4)
  | fail)
 go_ret
 have q4 : Trd (· = g) w9 W4 := hJ.1.trans (Trd.ofGrown (F := (· = g)) hgr4 fun k hk => by injection hk with hk; exact hk.symm) (fun _ _ h => h)
 refine ⟨_,rfl,RowQ.of hg4 (by omega) hcm (by rw [hs4,hC2s]) ?_ ?_,?_,.inl rfl⟩
 ·have h5 := ht4 (by omega)
  rw [Nat.zero_add] at h5
  rw [h5,hC2]
  show List.take _ (C1.toList.take _ ++ _ ++ C1.toList.drop _) = _
  have := zqi (cur := cur.toList) (us := us) (ws := vs.drop (j * 3)) (Y := (cur.toList.take (i * 3) ++ us ++ cur.toList.drop (i * 3 + us.length)).drop ((i + m) * 3 + (vs.drop (j * 3)).length)) (p := i * 3) (r := m * 3) (by rw [Array.length_toList,hcs1]; omega) hu
  rw [← Nat.add_mul] at this
  have e6 : vs.take (i * 3) = cur.toList.take (i * 3) := by rw [← hct,List.take_take,Nat.min_eq_left (by omega)]
  rw [Nat.zero_add,show t * 3 = (i + m) * 3 + (vs.drop (j * 3)).length by rw [hdl,← Nat.add_mul]; congr 1; omega,hC1,e6]
  exact this
 ·intro u hu
  rcases List.mem_append.1 hu with h | h
  ·rcases List.mem_append.1 h with h | h
   ·exact hv.2 u (List.mem_of_mem_take h)
   ·exact hu1 u h
  ·exact hv.2 u (List.mem_of_mem_drop h)
 ·exact ⟨q4.os.trans q9.os,q4.tape.trans q9.tape,q4.output.trans q9.output,Nat.le_trans q9.size q4.size,fun k hk hn => (q4.block k (Nat.lt_of_lt_of_le hk q9.size) fun h => hn (by rw [h]; rfl)).trans (q9.block k hk)⟩
theorem zjk (w : World) {n i j b m g cap : Nat} {vs us : List Value} (hv : RowQ 26 3 w (.slice (some ⟨g,0,none⟩) n cap) n vs) (hij : i < j) (hjn : j ≤ n) (hn : n + m ≤ 1000000) (hm : 0 < m) (hb : w.heap[b]? = some (.cells us.toArray 26 (0,0))) (hu : us.length = m * 3) (hu1 : ∀ u ∈ us,u.oneCell' = true) (hbg : b ≠ g) (hend : j < n) (hmore : j < i + m) (hroom : i + m + (n - j) ≤ cap) :
  Calls Tryz.prog 101 #[.slice (some ⟨g,0,none⟩) n cap,.int .i64 i,.int .i64 j,.slice (some ⟨b,0,none⟩) m m] w (zc6 26 3 w (.slice (some ⟨g,0,none⟩) n cap) (i + m + (n - j)) (vs.take (i * 3) ++ us ++ vs.drop (j * 3))) := by
 have hz0 : ((i : Int) == (j : Int)) = false := beq_eq_false_iff_ne.2 (by omega)
 have hcs := zba hb
 have hblt := (Array.getElem?_eq_some_iff.1 hb).1
 have hglt := hv.lt (k := g) rfl
 obtain ⟨cur,hg,hnc,hcm,hcs1,hct⟩ : ∃ cur,w.heap[g]? = some (.cells cur 26 (0,0)) ∧ n ≤ cap ∧ cap ≤ maxLen ∧ cur.size = cap * 3 ∧ cur.toList.take (n * 3) = vs := by
  rcases hv.cases with ⟨h,_⟩ | ⟨g',cap',cur,h,h1,h2,h3,h4,h5⟩
  ·cases h
  ·cases h
   exact ⟨cur,h1,h2,h3,h4,h5⟩
 have hz1 : ((j : Int) == (n : Int)) = false := beq_eq_false_iff_ne.2 (by omega)
 obtain ⟨t,ht⟩ : ∃ t : Nat,t = i + m + (n - j) := ⟨_,rfl⟩
 have hti : ((i : Int) + (m : Int)) + ((n - j : Nat) : Int) = (t : Int) := by omega
 rw [← ht] at hroom ⊢
 have d : decide ((cap : Int) < (t : Int)) = false := decide_eq_false (by omega)
 have d2 : decide ((i : Int) + (m : Int) ≤ (j : Int)) = false := decide_eq_false (by omega)
 have hdl : (vs.drop (j * 3)).length = (n - j) * 3 := by rw [List.length_drop,hv.len,Nat.sub_mul]
 have htn : i + m < t := by omega
 have htb1 : i + m ≤ t := by omega
 have htb2 : t ≤ 1000000 := by omega
 have htb3 : i + m + n ≤ t + j := by omega
 have htb4 : t + j ≤ i + m + n := by omega
 clear ht
 go_enter Tryz.func101,Tryz.ntmps101
 go_upto_region 9 with (go_big_may; first
  | (refine za0 ndP.toLsP rfl rfl rfl (l := i) (r := j) (za5 _ (by omega) (by omega)) ?_; intro _)
  | fail)
 refine zao (K := fun _ _ => True) (by kernel_rfl) (by kernel_rfl) [] (by kernel_rfl) [lEq (.slice (some ⟨g,0,none⟩) n cap),lEq (.int .i64 (i : Int)),lEq (.slice (some ⟨g,0,none⟩) i cap),lEq (.int .i64 (i : Nat)),lEq (.slice (some ⟨b,0,none⟩) m m),lEq (.int .i64 (m : Nat)),lEq (.int .i64 ((i : Int) + (m : Int))),lEq (.slice (some ⟨g,0,none⟩) n cap),lEq (.int .i64 (j : Int)),lEq (.slice (some ⟨g,0 + j * 3,none⟩) (n - j) (cap - j)),lEq (.int .i64 ((n - j) : Nat)),lEq (.int .i64 (t : Int)),lEq (.int .i64 (t : Int))] (fun _ W => Below w.heap.size w W) (fun l A B h hb => h.trans (hb.mono h.size)) (Below.refl _ _)
  ⟨?o0,?o1,?o2,?o3,?o4,?o5,?o6,?o7,?o8,?o9,?o10,?o11,?o12,trivial⟩ ?fin
 case o0 =>
  refine LnOp.side rfl (by kernel_rfl) (fun A vs w' k hF hT hk hJ hb hu hp hd => ?_)
  have e1 : A.eval (.tmp 0) = .slice (some ⟨g,0,none⟩) n cap := hF 0 rfl
  exact BigFrame.wp_move _ rfl ⟨_,rfl,e1,Below.refl _ _⟩
 case o1 =>
  refine LnOp.side rfl (by kernel_rfl) (fun A vs w' k hF hT hk hJ hb hu hp hd => ?_)
  have e1 : A.eval (.tmp 1) = .int .i64 (i : Int) := hF 1 rfl
  exact BigFrame.wp_move _ rfl ⟨_,rfl,e1,Below.refl _ _⟩
 case o2 =>
  refine LnOp.side rfl (by kernel_rfl) (fun A vs w' k hF hT hk hJ hb hu hp hd => ?_)
  have e1 : A.eval (.tmp 45) = .slice (some ⟨g,0,none⟩) n cap := (hT 45 0 (by simp) rfl).trans (hd ⟨0,.data⟩ (by simp) rfl rfl)
  have e2 : A.eval (.tmp 46) = .int .i64 (i : Int) := (hT 46 1 (by simp) rfl).trans (hd ⟨1,.data⟩ (by simp) rfl rfl)
  exact zdc ndP.toLsP rfl (e1) (congrArg some e2) (zat _ (by omega)) ⟨_,rfl,rfl,Below.refl _ _⟩
 case o3 =>
  refine LnOp.side rfl (by kernel_rfl) (fun A vs w' k hF hT hk hJ hb hu hp hd => ?_)
  have e1 : A.eval (.tmp 47) = .slice (some ⟨g,0,none⟩) i cap := (hT 47 2 (by simp) rfl).trans (hd ⟨2,.data⟩ (by simp) rfl rfl)
  exact zct (e := 26) rfl (by kernel_rfl) (e1) ⟨_,rfl,rfl,Below.refl _ _⟩
 case o4 =>
  refine LnOp.side rfl (by kernel_rfl) (fun A vs w' k hF hT hk hJ hb hu hp hd => ?_)
  have e1 : A.eval (.tmp 3) = .slice (some ⟨b,0,none⟩) m m := hF 3 rfl
  exact BigFrame.wp_move _ rfl ⟨_,rfl,e1,Below.refl _ _⟩
 case o5 =>
  refine LnOp.side rfl (by kernel_rfl) (fun A vs w' k hF hT hk hJ hb hu hp hd => ?_)
  have e1 : A.eval (.tmp 49) = .slice (some ⟨b,0,none⟩) m m := (hT 49 4 (by simp) rfl).trans (hd ⟨4,.data⟩ (by simp) rfl rfl)
  exact zct (e := 26) rfl (by kernel_rfl) (e1) ⟨_,rfl,rfl,Below.refl _ _⟩
 case o6 =>
  refine LnOp.side rfl (by kernel_rfl) (fun A vs w' k hF hT hk hJ hb hu hp hd => ?_)
  have e1 : A.eval (.tmp 48) = .int .i64 (i : Nat) := (hT 48 3 (by simp) rfl).trans (hd ⟨3,.data⟩ (by simp) rfl rfl)
  have e2 : A.eval (.tmp 50) = .int .i64 (m : Nat) := (hT 50 5 (by simp) rfl).trans (hd ⟨5,.data⟩ (by simp) rfl rfl)
  exact zbi rfl (e1) (e2) (by omega) (by omega) ⟨_,rfl,rfl,Below.refl _ _⟩
 case o7 =>
  refine LnOp.side rfl (by kernel_rfl) (fun A vs w' k hF hT hk hJ hb hu hp hd => ?_)
  have e1 : A.eval (.tmp 0) = .slice (some ⟨g,0,none⟩) n cap := hF 0 rfl
  exact BigFrame.wp_move _ rfl ⟨_,rfl,e1,Below.refl _ _⟩
 case o8 =>
  refine LnOp.side rfl (by kernel_rfl) (fun A vs w' k hF hT hk hJ hb hu hp hd => ?_)
  have e1 : A.eval (.tmp 2) = .int .i64 (j : Int) := hF 2 rfl
  exact BigFrame.wp_move _ rfl ⟨_,rfl,e1,Below.refl _ _⟩
 case o9 =>
  refine LnOp.side rfl (by kernel_rfl) (fun A vs w' k hF hT hk hJ hb hu hp hd => ?_)
  have e1 : A.eval (.tmp 52) = .slice (some ⟨g,0,none⟩) n cap := (hT 52 7 (by simp) rfl).trans (hd ⟨7,.data⟩ (by simp) rfl rfl)
  have e2 : A.eval (.tmp 53) = .int .i64 (j : Int) := (hT 53 8 (by simp) rfl).trans (hd ⟨8,.data⟩ (by simp) rfl rfl)
  exact zas ndP.toLsP rfl (e1) (congrArg some e2) rfl (zav _ (by omega)) (by omega) ⟨_,rfl,rfl,Below.refl _ _⟩
 case o10 =>
  refine LnOp.side rfl (by kernel_rfl) (fun A vs w' k hF hT hk hJ hb hu hp hd => ?_)
  have e1 : A.eval (.tmp 54) = .slice (some ⟨g,0 + j * 3,none⟩) (n - j) (cap - j) := (hT 54 9 (by simp) rfl).trans (hd ⟨9,.data⟩ (by simp) rfl rfl)
  exact zct (e := 26) rfl (by kernel_rfl) (e1) ⟨_,rfl,rfl,Below.refl _ _⟩
 case o11 =>
  refine LnOp.side rfl (by kernel_rfl) (fun A vs w' k hF hT hk hJ hb hu hp hd => ?_)
  have e1 : A.eval (.tmp 51) = .int .i64 ((i : Int) + (m : Int)) := (hT 51 6 (by simp) rfl).trans (hd ⟨6,.data⟩ (by simp) rfl rfl)
  have e2 : A.eval (.tmp 55) = .int .i64 ((n - j) : Nat) := (hT 55 10 (by simp) rfl).trans (hd ⟨10,.data⟩ (by simp) rfl rfl)
  exact zbi rfl (e1) (e2) (by omega) (by omega) ⟨_,rfl,congrArg (Value.int .i64) hti,Below.refl _ _⟩
 case o12 =>
  refine LnOp.side rfl (by kernel_rfl) (fun A vs w' k hF hT hk hJ hb hu hp hd => ?_)
  have e1 : A.eval (.tmp 56) = .int .i64 (t : Int) := (hT 56 11 (by simp) rfl).trans (hd ⟨11,.data⟩ (by simp) rfl rfl)
  exact BigFrame.wp_assign _ rfl ⟨_,rfl,e1,Below.refl _ _⟩
 case fin =>
 intro vs1 w9 q9 hG
 have e0 : vs1 0 = .slice (some ⟨g,0,none⟩) n cap := hG 0 (by decide) rfl
 have e1 : vs1 1 = .int .i64 (i : Int) := hG 1 (by decide) rfl
 have e2 : vs1 2 = .slice (some ⟨g,0,none⟩) i cap := hG 2 (by decide) rfl
 have e3 : vs1 3 = .int .i64 (i : Nat) := hG 3 (by decide) rfl
 have e4 : vs1 4 = .slice (some ⟨b,0,none⟩) m m := hG 4 (by decide) rfl
 have e5 : vs1 5 = .int .i64 (m : Nat) := hG 5 (by decide) rfl
 have e6 : vs1 6 = .int .i64 ((i : Int) + (m : Int)) := hG 6 (by decide) rfl
 have e7 : vs1 7 = .slice (some ⟨g,0,none⟩) n cap := hG 7 (by decide) rfl
 have e8 : vs1 8 = .int .i64 (j : Int) := hG 8 (by decide) rfl
 have e9 : vs1 9 = .slice (some ⟨g,0 + j * 3,none⟩) (n - j) (cap - j) := hG 9 (by decide) rfl
 have e10 : vs1 10 = .int .i64 ((n - j) : Nat) := hG 10 (by decide) rfl
 have e11 : vs1 11 = .int .i64 (t : Int) := hG 11 (by decide) rfl
 have e12 : vs1 12 = .int .i64 (t : Int) := hG 12 (by decide) rfl
 simp only [zae,e0,e1,e2,e3,e4,e5,e6,e7,e8,e9,e10,e11,e12]
 clear hG e0 e1 e2 e3 e4 e5 e6 e7 e8 e9 e10 e11 e12
 replace hv := hv.below q9
 replace hb := (q9.block b hblt).trans hb
 replace hg := (q9.block g hglt).trans hg
 replace hcs := zba hb
 replace hblt := Nat.lt_of_lt_of_le hblt q9.size
 replace hglt := Nat.lt_of_lt_of_le hglt q9.size
 go_simp
 have hov : ∀ off k kc,(callFunc 111 #[.slice (some ⟨g,off,none⟩) k kc,.slice (some ⟨b,0,none⟩) m m]).run Tryz.prog w9 = .ok (.value (.bool false)) w9 := fun off k kc =>
  zhw (Tb := 4) ndP.toLsP Tryz.func111 (by kernel_rfl) rfl (by kernel_rfl) (by kernel_rfl) hb hg hbg (by rw [hu]; omega)
 go_upto_region 22 with (go_big_may; first
  | (refine za2 ndP.toLsP rfl rfl rfl (r := t) (zat _ (by omega)) ?_)
  | (refine zag ndP.toLsP rfl rfl rfl (l := i + m) (r := t) (zal _ (by omega) (by omega)) (by omega) ?_)
  | fail)
 refine zao (K := fun _ _ => True) (by kernel_rfl) (by kernel_rfl) [9] (by kernel_rfl) [lEq (.slice (some ⟨g,0,none⟩) t cap),lEq (.int .i64 (i : Int)),lEq (.slice (some ⟨b,0,none⟩) m m),lEq (.int .i64 (m : Nat)),lEq (.int .i64 ((i : Int) + (m : Int))),lEq (.slice (some ⟨g,0 + (i + m) * 3,none⟩) (t - (i + m)) (cap - (i + m))),lEq (.slice (some ⟨g,0,none⟩) n cap),lEq (.int .i64 (j : Int)),lEq (.slice (some ⟨g,0 + j * 3,none⟩) (n - j) (cap - j)),lAny] (fun l W => Trd (· = g) w9 W ∧ W.heap[g]? = some (.cells (match l with | [] => cur | _ :: _ => (cur.toList.take (0 + (i + m) * 3) ++ vs.drop (j * 3) ++ cur.toList.drop (0 + (i + m) * 3 + (vs.drop (j * 3)).length)).toArray) 26 (0,0))) (fun l A B h hb => ⟨h.1.trans (Trd.of (F := (· = g)) hb) (fun _ _ h => h),(hb.block _ (Array.getElem?_eq_some_iff.1 h.2).1).trans h.2⟩) ⟨Trd.refl _ _,hg⟩
  ⟨?o0,?o1,?o2,?o3,?o4,?o5,?o6,?o7,?o8,?o9,trivial⟩ ?fin2
 case o0 =>
  refine LnOp.side rfl (by kernel_rfl) (fun A vs w' k hF hT hk hJ hb hu hp hd => ?_)
  have e1 : A.eval (.tmp 12) = .slice (some ⟨g,0,none⟩) t cap := hF 12 rfl
  exact BigFrame.wp_move _ rfl ⟨_,rfl,e1,Below.refl _ _⟩
 case o1 =>
  refine LnOp.side rfl (by kernel_rfl) (fun A vs w' k hF hT hk hJ hb hu hp hd => ?_)
  have e1 : A.eval (.tmp 1) = .int .i64 (i : Int) := hF 1 rfl
  exact BigFrame.wp_move _ rfl ⟨_,rfl,e1,Below.refl _ _⟩
 case o2 =>
  refine LnOp.side rfl (by kernel_rfl) (fun A vs w' k hF hT hk hJ hb hu hp hd => ?_)
  have e1 : A.eval (.tmp 3) = .slice (some ⟨b,0,none⟩) m m := hF 3 rfl
  exact BigFrame.wp_move _ rfl ⟨_,rfl,e1,Below.refl _ _⟩
 case o3 =>
  refine LnOp.side rfl (by kernel_rfl) (fun A vs w' k hF hT hk hJ hb hu hp hd => ?_)
  have e1 : A.eval (.tmp 123) = .slice (some ⟨b,0,none⟩) m m := (hT 123 2 (by simp) rfl).trans (hd ⟨2,.data⟩ (by simp) rfl rfl)
  exact zct (e := 26) rfl (by kernel_rfl) (e1) ⟨_,rfl,rfl,Below.refl _ _⟩
 case o4 =>
  refine LnOp.side rfl (by kernel_rfl) (fun A vs w' k hF hT hk hJ hb hu hp hd => ?_)
  have e1 : A.eval (.tmp 122) = .int .i64 (i : Int) := (hT 122 1 (by simp) rfl).trans (hd ⟨1,.data⟩ (by simp) rfl rfl)
  have e2 : A.eval (.tmp 124) = .int .i64 (m : Nat) := (hT 124 3 (by simp) rfl).trans (hd ⟨3,.data⟩ (by simp) rfl rfl)
  exact zbi rfl (e1) (e2) (by omega) (by omega) ⟨_,rfl,rfl,Below.refl _ _⟩
 case o5 =>
  refine LnOp.side rfl (by kernel_rfl) (fun A vs w' k hF hT hk hJ hb hu hp hd => ?_)
  have e1 : A.eval (.tmp 121) = .slice (some ⟨g,0,none⟩) t cap := (hT 121 0 (by simp) rfl).trans (hd ⟨0,.data⟩ (by simp) rfl rfl)
  have e2 : A.eval (.tmp 125) = .int .i64 ((i : Int) + (m : Int)) := (hT 125 4 (by simp) rfl).trans (hd ⟨4,.data⟩ (by simp) rfl rfl)
  exact zas ndP.toLsP rfl (e1) (congrArg some e2) rfl (zal _ (by omega) (by omega)) (by omega) ⟨_,rfl,rfl,Below.refl _ _⟩
 case o6 =>
  refine LnOp.side rfl (by kernel_rfl) (fun A vs w' k hF hT hk hJ hb hu hp hd => ?_)
  have e1 : A.eval (.tmp 0) = .slice (some ⟨g,0,none⟩) n cap := hF 0 rfl
  exact BigFrame.wp_move _ rfl ⟨_,rfl,e1,Below.refl _ _⟩
 case o7 =>
  refine LnOp.side rfl (by kernel_rfl) (fun A vs w' k hF hT hk hJ hb hu hp hd => ?_)
  have e1 : A.eval (.tmp 2) = .int .i64 (j : Int) := hF 2 rfl
  exact BigFrame.wp_move _ rfl ⟨_,rfl,e1,Below.refl _ _⟩
 case o8 =>
  refine LnOp.side rfl (by kernel_rfl) (fun A vs w' k hF hT hk hJ hb hu hp hd => ?_)
  have e1 : A.eval (.tmp 127) = .slice (some ⟨g,0,none⟩) n cap := (hT 127 6 (by simp) rfl).trans (hd ⟨6,.data⟩ (by simp) rfl rfl)
  have e2 : A.eval (.tmp 128) = .int .i64 (j : Int) := (hT 128 7 (by simp) rfl).trans (hd ⟨7,.data⟩ (by simp) rfl rfl)
  exact zas ndP.toLsP rfl (e1) (congrArg some e2) rfl (zal _ (by omega) (by omega)) (by omega) ⟨_,rfl,rfl,Below.refl _ _⟩
 case o9 =>
  refine LnOp.line 0 rfl rfl (fun A va w' hF hT hJ hu hd => ?_)
  have e1 : A.eval (.tmp 126) = .slice (some ⟨g,0 + (i + m) * 3,none⟩) (t - (i + m)) (cap - (i + m)) := (hT 126 5 (by simp) rfl).trans (hd ⟨5,.data⟩ (by simp) rfl rfl)
  have e2 : A.eval (.tmp 129) = .slice (some ⟨g,0 + j * 3,none⟩) (n - j) (cap - j) := (hT 129 8 (by simp) rfl).trans (hd ⟨8,.data⟩ (by simp) rfl rfl)
  refine zch ndP.toLsP rfl e1 e2 hJ.2 (cs := vs.drop (j * 3)) (by rw [hdl,Nat.min_eq_left (by omega)]) (fun q u hj => ?_) (fun u hu => hv.2 u (List.mem_of_mem_drop hu)) ?_ ?_
  ·rw [List.getElem?_drop,← hct,List.getElem?_take] at hj
   split at hj
   ·rw [Addr.add_lit,Nat.zero_add]
    have h5 : w'.heap[g]? = some (.cells cur 26 (0,0)) := hJ.2
    simpa [World.cell?,h5,← Array.getElem?_toList] using hj
   ·cases hj
  ·show 0 + (i + m) * 3 + (vs.drop (j * 3)).length ≤ cur.size
   rw [hcs1,hdl]
   omega
  ·intro W3 hg3 hgr3
   exact ⟨_,rfl,⟨hJ.1.trans (Trd.ofGrown (F := (· = g)) hgr3 fun k hk => by injection hk with hk; exact hk.symm) (fun _ _ h => h),hg3⟩,trivial⟩
 case fin2 =>
 intro vs1 W3 hJ hG
 have e0 : vs1 0 = .slice (some ⟨g,0,none⟩) t cap := hG 0 (by decide) rfl
 have e1 : vs1 1 = .int .i64 (i : Int) := hG 1 (by decide) rfl
 have e2 : vs1 2 = .slice (some ⟨b,0,none⟩) m m := hG 2 (by decide) rfl
 have e3 : vs1 3 = .int .i64 (m : Nat) := hG 3 (by decide) rfl
 have e4 : vs1 4 = .int .i64 ((i : Int) + (m : Int)) := hG 4 (by decide) rfl
 have e5 : vs1 5 = .slice (some ⟨g,0 + (i + m) * 3,none⟩) (t - (i + m)) (cap - (i + m)) := hG 5 (by decide) rfl
 have e6 : vs1 6 = .slice (some ⟨g,0,none⟩) n cap := hG 6 (by decide) rfl
 have e7 : vs1 7 = .int .i64 (j : Int) := hG 7 (by decide) rfl
 have e8 : vs1 8 = .slice (some ⟨g,0 + j * 3,none⟩) (n - j) (cap - j) := hG 8 (by decide) rfl
 simp only [zae,e0,e1,e2,e3,e4,e5,e6,e7,e8]
 clear hG e0 e1 e2 e3 e4 e5 e6 e7 e8
 obtain ⟨C1,hC1⟩ : ∃ C1 : Array Value,C1 = (cur.toList.take (0 + (i + m) * 3) ++ vs.drop (j * 3) ++ cur.toList.drop (0 + (i + m) * 3 + (vs.drop (j * 3)).length)).toArray := ⟨_,rfl⟩
 have hg3 : W3.heap[g]? = some (.cells C1 26 (0,0)) := by rw [hC1]; exact hJ.2
 have hC1s : C1.size = cap * 3 := by
  rw [hC1]
  simp only [List.size_toArray,List.length_append,List.length_take,List.length_drop,Array.length_toList,hcs1,hv.len]
  omega
 have hcs3 : ∀ (q : Nat) (u : Value),us[q]? = some u → W3.cell? (Addr.add ⟨b,0,none⟩ q) = some u := fun q u hj => by
  have := hcs q u hj
  rw [Addr.add_lit] at this ⊢
  exact (zac (hJ.1.block b hblt hbg) _).trans this
 go_simp
 go_wp2_with (go_big_may; first
  | (refine zag ndP.toLsP rfl rfl rfl (l := i) (r := t) (zav _ (by omega)) (by omega) ?_)
  | (refine zbo ndP.toLsP rfl rfl rfl rfl hg3 (cs := us) (by rw [Nat.min_eq_left (by omega)]; exact hu) hcs3 hu1 (by rw [hC1s,hu]; omega) ?_; intro W4 hg4 hgr4)
  | fail)
 go_ret
 have q4 : Trd (· = g) w9 W4 := hJ.1.trans (Trd.ofGrown (F := (· = g)) hgr4 fun k hk => by injection hk with hk; exact hk.symm) (fun _ _ h => h)
 refine ⟨_,rfl,RowQ.of hg4 (by omega) hcm ?_ ?_ ?_,?_,.inl rfl⟩
 ·simp only [List.size_toArray,List.length_append,List.length_take,List.length_drop,Array.length_toList,hC1s,hu]
  omega
 ·have := zqj (cur := cur.toList) (us := us) (ws := vs.drop (j * 3)) (Y := cur.toList.drop ((i + m) * 3 + (vs.drop (j * 3)).length)) (p := i * 3) (r := m * 3) (by rw [Array.length_toList,hcs1]; omega) hu
  rw [← Nat.add_mul] at this
  have e6 : vs.take (i * 3) = cur.toList.take (i * 3) := by rw [← hct,List.take_take,Nat.min_eq_left (by omega)]
  rw [show t * 3 = (i + m) * 3 + (vs.drop (j * 3)).length by rw [hdl,← Nat.add_mul]; congr 1; omega,hC1,e6]
  simp only [Nat.zero_add] at this ⊢
  exact this
 ·intro u hu
  rcases List.mem_append.1 hu with h | h
  ·rcases List.mem_append.1 h with h | h
   ·exact hv.2 u (List.mem_of_mem_take h)
   ·exact hu1 u h
  ·exact hv.2 u (List.mem_of_mem_drop h)
 ·exact ⟨q4.os.trans q9.os,q4.tape.trans q9.tape,q4.output.trans q9.output,Nat.le_trans q9.size q4.size,fun k hk hn => (q4.block k (Nat.lt_of_lt_of_le hk q9.size) fun h => hn (by rw [h]; rfl)).trans (q9.block k hk)⟩
theorem zk7 (w : World) {v : Value} {n i j b m : Nat} {jz : Int} {vs us : List Value} (hv : RowQ 26 3 w v n vs) (hj : jz = (j : Int)) (hij : i < j) (hjn : j ≤ n) (hn : n + m ≤ 1000000) (hm : 0 < m) (hb : w.heap[b]? = some (.cells us.toArray 26 (0,0))) (hu : us.length = m * 3) (hu1 : ∀ u ∈ us,u.oneCell' = true) (hbg : v.ownBlock ≠ some b) (hne : i + m ≠ j) :
  Calls Tryz.prog 101 #[v,.int .i64 i,.int .i64 jz,.slice (some ⟨b,0,none⟩) m m] w (zc6 26 3 w v (i + m + (n - j)) (vs.take (i * 3) ++ us ++ vs.drop (j * 3))) := by
 subst hj
 rcases hv.cases with ⟨_,h2,_⟩ | ⟨g,cap,cur,rfl,_,h3,_⟩
 ·omega
 ·have hbg' : b ≠ g := fun e => hbg (by rw [e]; rfl)
  rcases Nat.lt_or_ge j n with h | h
  ·rcases Nat.lt_or_ge (i + m) j with h4 | h4
   ·exact zjl w hv hij hjn hn hm hb hu hu1 hbg' h h4
   ·rcases Nat.lt_or_ge cap (i + m + (n - j)) with h5 | h5
    ·exact zjm w hv hij hjn hn hm hb hu hu1 hbg' h h5
    ·exact zjk w hv hij hjn hn hm hb hu hu1 hbg' h (by omega) h5
  ·rcases Nat.lt_or_ge (i + m) n with h4 | h4
   ·exact zjn w hv hij hjn hn hm hb hu hu1 hbg' (by omega) h4
   ·exact zk8 w hv hij hjn hn hm hb hu hu1 hbg' (by omega) h4
def J3 (A B C:World→Value→World→Prop) (w1:World) (bx:Nat):List Value→World→Prop
 | [],W=>Below w1.heap.size w1 W
 | [a],W=>A w1 a W
 | [a,b],W=>∃ Wa,A w1 a Wa∧B Wa b W
 | [a,b,c],W=>∃ Wa Wb,A w1 a Wa∧B Wa b Wb∧C Wb c W
 | _,W=>∃ x y z Wa Wb Wc,A w1 x Wa∧B Wa y Wb∧C Wb z Wc∧TriV W bx 26 x y z∧Trd (·=bx) Wc W
structure Mk(A:World→Value→World→Prop):Prop where
 base:∀ {w v W},A w v W→Below w.heap.size w W
 more:∀ {w v W W'},A w v W→Below W.heap.size W W'→A w v W'
 one:∀ {w v W},A w v W→v.oneCell'=true∧v.cells=#[v]
section
variable {A B C : World → Value → World → Prop} (hA : Mk A) (hB : Mk B) (hC : Mk C) {w1 : World} {bx : Nat}
include hA hB hC
theorem J3.below3 {a b c : Value} {W : World} (h : J3 A B C w1 bx [a, b, c] W) : Below w1.heap.size w1 W := by
  obtain ⟨Wa, Wb, h1, h2, h3⟩ := h
  have q1 := hA.base h1
  have q2 := q1.trans ((hB.base h2).mono q1.size)
  exact q2.trans ((hC.base h3).mono q2.size)
omit hC in
theorem J3.below2 {a b:Value} {W:World} (h:J3 A B C w1 bx [a,b] W):Below w1.heap.size w1 W:=by
 obtain⟨Wa,h1,h2⟩:=h
 have q1:=hA.base h1
 exact q1.trans ((hB.base h2).mono q1.size)
theorem J3.trd : ∀ {l : List Value} {W : World},J3 A B C w1 bx l W → Trd (· = bx) w1 W
 | [],_,h => Trd.of h
 | [_],_,h => Trd.of (hA.base h)
 | [_,_],_,h => Trd.of (J3.below2 hA hB h)
 | [_,_,_],_,h => Trd.of (J3.below3 hA hB hC h)
 | _ :: _ :: _ :: _ :: _,_,⟨x,y,z,Wa,Wb,_,h1,h2,h3,_,h⟩ => (Trd.of (J3.below3 hA hB hC (bx := bx) (a := x) (b := y) (c := z) ⟨Wa,Wb,h1,h2,h3⟩)).trans h fun _ _ h => h
theorem J3.more:∀ (l:List Value) (W W':World),J3 A B C w1 bx l W→Below W.heap.size W W'→J3 A B C w1 bx l W'
 | [],_,_,h,hb=>Below.trans h (hb.mono (Below.size h))
 | [_],_,_,h,hb=>hA.more h hb
 | [_,_],_,_,⟨Wa,h1,h2⟩,hb=>⟨Wa,h1,hB.more h2 hb⟩
 | [_,_,_],_,_,⟨Wa,Wb,h1,h2,h3⟩,hb=>⟨Wa,Wb,h1,h2,hC.more h3 hb⟩
 | _::_::_::_::_,_,_,⟨x,y,z,Wa,Wb,Wc,h1,h2,h3,h4,h5⟩,hb=>⟨x,y,z,Wa,Wb,Wc,h1,h2,h3,h4.below hb h4.lt,h5.trans (Trd.of (F:=(·=bx)) hb) fun _ _ h=>h⟩
end
def g3 (A B C:World→Value→World→Prop) (w1:World) (bx:Nat):SGn (fun X Y=>Trd (·=bx) X Y) :=
 ⟨fun W v=>∃ x y z Wa Wb Wc,v=.agg #[x,y,z]∧A w1 x Wa∧B Wa y Wb∧C Wb z Wc∧Trd (·=bx) Wc W,
  fun _ _ _⟨x,y,z,Wa,Wb,Wc,e,h1,h2,h3,h4⟩hb=>⟨x,y,z,Wa,Wb,Wc,e,h1,h2,h3,h4.trans (Trd.of (F:=(·=bx)) hb) fun _ _ h=>h⟩,
  fun _ _ _⟨x,y,z,Wa,Wb,Wc,e,h1,h2,h3,h4⟩hk=>⟨x,y,z,Wa,Wb,Wc,e,h1,h2,h3,h4.trans hk fun _ _ h=>h⟩⟩
theorem zq1(Te:TypeId)(sz n:Nat)(cs:List Value):Mk fun w v W=>zaz Te sz w v n cs W:=⟨fun h=>h.2.2,fun h hb=>h.below hb,fun h=>by
 obtain⟨_,_,rfl,_⟩:=h.1.shape
 exact⟨rfl,rfl⟩⟩
structure New3(w:World)(x y z:Value)(n1:Nat)(cs1:List Value)(n2:Nat)(cs2:List Value)(n3:Nat)(cs3:List Value)(W:World):Prop where
 ky:zaz 30 1 w x n1 cs1 W
 ch:zaz 70 1 w y n2 cs2 W
 kd:zaz 26 3 w z n3 cs3 W
 nd:(zah x++zah y++zah z).Nodup
theorem New3.of {w w1 Wa Wb Wc W:World} {bx:Nat} {x y z:Value} {n1 n2 n3:Nat} {cs1 cs2 cs3:List Value} (hw:Below w.heap.size w w1) (hbx:w.heap.size≤bx) (hbx1:bx<w1.heap.size) (h1:zaz 30 1 w1 x n1 cs1 Wa) (h2:zaz 70 1 Wa y n2 cs2 Wb) (h3:zaz 26 3 Wb z n3 cs3 Wc) (hk:Trd (·=bx) Wc W):New3 w x y z n1 cs1 n2 cs2 n3 cs3 W:=by
 have s0:=hw.size
 have s1:=h1.2.2.size
 have s2:=h2.2.2.size
 have s3:=h3.2.2.size
 have lx:∀ k,x.ownBlock=some k→w1.heap.size≤k∧k<Wa.heap.size:=fun k hk=>⟨h1.2.1 k hk,h1.1.lt hk⟩
 have ly:∀ k,y.ownBlock=some k→Wa.heap.size≤k∧k<Wb.heap.size:=fun k hk=>⟨h2.2.1 k hk,h2.1.lt hk⟩
 have lz:∀ k,z.ownBlock=some k→Wb.heap.size≤k∧k<Wc.heap.size:=fun k hk=>⟨h3.2.1 k hk,h3.1.lt hk⟩
 have q:Below w.heap.size w W:=by
  have qc:Below w.heap.size w Wc:=hw.trans ((h1.2.2.trans ((h2.2.2.trans (h3.2.2.mono h2.2.2.size)).mono h1.2.2.size)).mono hw.size)
  exact qc.trans (hk.below qc.size fun k hk=>by omega)
 refine⟨⟨?_,fun k hk=>by have:=lx k hk;omega,q⟩,⟨?_,fun k hk=>by have:=ly k hk;omega,q⟩,⟨?_,fun k hk=>by have:=lz k hk;omega,q⟩,?_⟩
 ·exact ((h1.1.below (h2.2.2)).below h3.2.2).trd hk fun k hk=>by have:=lx k hk;omega
 ·exact (h2.1.below h3.2.2).trd hk fun k hk=>by have:=ly k hk;omega
 ·exact h3.1.trd hk fun k hk=>by have:=lz k hk;omega
 ·simp only [List.nodup_append,zic,List.mem_append,zb8,true_and]
  refine⟨fun a ha b hb e=>by have:=lx a ha;have:=ly b hb;omega,fun a ha b hb e=>?_⟩
  have:=lz b hb
  rcases ha with ha | ha
  ·have:=lx a ha;omega
  ·have:=ly a ha;omega
theorem zn3 (w : World) {v1 v2 v3 : Value} {n1 n2 n3 i j : Nat} {iz : Int} {us1 us2 us3 : List Value} (h1 : RowQ 30 1 w v1 n1 us1) (h2 : RowQ 70 1 w v2 n2 us2) (h3 : RowQ 26 3 w v3 n3 us3) (hiz : iz = (i : Int)) (hij : i ≤ j) (hn1 : n1 ≤ 1000000) (hn2 : n2 ≤ 1000000) (hn3 : n3 ≤ 1000000) (hj : j ≤ 1000000) :
  Calls Tryz.prog 102 #[.agg #[v1,v2,v3],.int .i64 iz,.int .i64 j] w fun e W => ∃ x y z,e = .returned (.agg #[x,y,z]) ∧
   New3 w x y z (min j n1 - min i n1) ((us1.take (min j n1 * 1)).drop (min i n1 * 1)) (min j n2 - min i n2) ((us2.take (min j n2 * 1)).drop (min i n2 * 1)) (min (j + 1) n3 - min i n3) ((us3.take (min (j + 1) n3 * 3)).drop (min i n3 * 3)) W := by
 subst hiz
 obtain ⟨a1,c1,rfl,_,_⟩ := h1.shape
 obtain ⟨a2,c2,rfl,_,_⟩ := h2.shape
 obtain ⟨a3,c3,rfl,_,_⟩ := h3.shape
 obtain ⟨W,hW,q,bn,bz,hsz⟩ := zbx w 26 (.slice a1 n1 c1) (.slice a2 n2 c2) (.slice a3 n3 c3) (.slice none 0 0) (.slice none 0 0) (.slice none 0 0)
 have ek : ∀ args w,(callFunc 114 args).run Tryz.prog w = .ok (.enter 114 args) w := enters_of Tryz.func114 (by kernel_rfl) rfl
 have ec : ∀ args w,(callFunc 115 args).run Tryz.prog w = .ok (.enter 115 args) w := enters_of Tryz.func115 (by kernel_rfl) rfl
 have en : ∀ args w,(callFunc 116 args).run Tryz.prog w = .ok (.enter 116 args) w := enters_of Tryz.func116 (by kernel_rfl) rfl
 obtain ⟨m1,hm1⟩ : ∃ m,m = min j n1 - min i n1 := ⟨_,rfl⟩
 obtain ⟨m2,hm2⟩ : ∃ m,m = min j n2 - min i n2 := ⟨_,rfl⟩
 obtain ⟨m3,hm3⟩ : ∃ m,m = min (j + 1) n3 - min i n3 := ⟨_,rfl⟩
 obtain ⟨cs1,hcs1⟩ : ∃ cs,cs = (us1.take (min j n1 * 1)).drop (min i n1 * 1) := ⟨_,rfl⟩
 obtain ⟨cs2,hcs2⟩ : ∃ cs,cs = (us2.take (min j n2 * 1)).drop (min i n2 * 1) := ⟨_,rfl⟩
 obtain ⟨cs3,hcs3⟩ : ∃ cs,cs = (us3.take (min (j + 1) n3 * 3)).drop (min i n3 * 3) := ⟨_,rfl⟩
 rw [← hm1,← hm2,← hm3,← hcs1,← hcs2,← hcs3]
 have H1 : ∀ W',Below w.heap.size w W' → Calls Tryz.prog 114 #[.slice a1 n1 c1,.int .i64 i,.int .i64 j] W' (zcs 30 1 W' m1 cs1) := fun W' hb => by rw [hm1,hcs1]; exact cut_k W' (h1.below hb) rfl hij hn1
 have H2 : ∀ W',Below w.heap.size w W' → Calls Tryz.prog 115 #[.slice a2 n2 c2,.int .i64 i,.int .i64 j] W' (zcs 70 1 W' m2 cs2) := fun W' hb => by rw [hm2,hcs2]; exact cut_c W' (h2.below hb) rfl hij hn2
 have H3 : ∀ W',Below w.heap.size w W' → Calls Tryz.prog 116 #[.slice a3 n3 c3,.int .i64 i,.int .i64 ((j : Int) + 1)] W' (zcs 26 3 W' m3 cs3) := fun W' hb => by rw [hm3,hcs3]; exact cut_n W' (h3.below hb) (j := j + 1) rfl (by omega) hn3
 clear hm1 hm2 hm3 hcs1 hcs2 hcs3
 have A1 := zq1 30 1 m1 cs1
 have A2 := zq1 70 1 m2 cs2
 have A3 := zq1 26 3 m3 cs3
 go_enter Tryz.func102,Tryz.ntmps102
 go_upto_region 1 with (fail)
 rw [← hW]
 clear hW
 have hRD : ∀ l W',J3 (fun w v W => zaz 30 1 w v m1 cs1 W) (fun w v W => zaz 70 1 w v m2 cs2 W) (fun w v W => zaz 26 3 w v m3 cs3 W) W (w.heap.size + 1) l W' → TriV W' w.heap.size 26 (.slice a1 n1 c1) (.slice a2 n2 c2) (.slice a3 n3 c3) := fun l W' h => ((J3.trd A1 A2 A3 h).block _ (by omega) (by omega)).trans bn
 refine zao (K := fun A B => Trd (· = w.heap.size + 1) A B) (by kernel_rfl) (by kernel_rfl) [4,9,15,17] (by kernel_rfl) [lEq (.pointer (some ⟨w.heap.size,0 + 0,none⟩)),lEq (.slice a1 n1 c1),lEq (.int .i64 (i : Int)),lEq (.int .i64 (j : Int)),lAny,lEq (.pointer (some ⟨w.heap.size,0 + 1,none⟩)),lEq (.slice a2 n2 c2),lEq (.int .i64 (i : Int)),lEq (.int .i64 (j : Int)),lAny,lEq (.pointer (some ⟨w.heap.size,0 + 2,none⟩)),lEq (.slice a3 n3 c3),lEq (.int .i64 (i : Int)),lEq (.int .i64 (j : Int)),lEq (.int .i64 ((j : Int) + 1)),lAny,g3 (fun w v W => zaz 30 1 w v m1 cs1 W) (fun w v W => zaz 70 1 w v m2 cs2 W) (fun w v W => zaz 26 3 w v m3 cs3 W) W (w.heap.size + 1),lAny] (J3 (fun w v W => zaz 30 1 w v m1 cs1 W) (fun w v W => zaz 70 1 w v m2 cs2 W) (fun w v W => zaz 26 3 w v m3 cs3 W) W (w.heap.size + 1)) (J3.more A1 A2 A3) (show Below W.heap.size W W from Below.refl _ _)
  ⟨?o0,?o1,?o2,?o3,?o4,?o5,?o6,?o7,?o8,?o9,?o10,?o11,?o12,?o13,?o14,?o15,?o16,?o17,trivial⟩ ?fin
 case o0 =>
  refine LnOp.side rfl (by kernel_rfl) (fun A va w' k hF hT hk hJ hb hu hp hd => ?_)
  have e1 : A.eval (.tmp 3) = .pointer (some ⟨w.heap.size,0,none⟩) := hF 3 rfl
  exact zai ndS rfl (e1) (by omega) ⟨_,rfl,rfl,Below.refl _ _⟩
 case o1 =>
  refine LnOp.side rfl (by kernel_rfl) (fun A va w' k hF hT hk hJ hb hu hp hd => ?_)
  have e1 : A.eval (.tmp 7) = .pointer (some ⟨w.heap.size,0 + 0,none⟩) := (hT 7 0 (by simp) rfl).trans (hd ⟨0,.data⟩ (by simp) rfl rfl)
  exact zad (e := 30) rfl (e1) (by kernel_rfl) ((hRD _ _ hJ).cell0) ⟨_,rfl,rfl,Below.refl _ _⟩
 case o2 =>
  refine LnOp.side rfl (by kernel_rfl) (fun A va w' k hF hT hk hJ hb hu hp hd => ?_)
  have e1 : A.eval (.tmp 1) = .int .i64 (i : Int) := hF 1 rfl
  exact BigFrame.wp_move _ rfl ⟨_,rfl,e1,Below.refl _ _⟩
 case o3 =>
  refine LnOp.side rfl (by kernel_rfl) (fun A va w' k hF hT hk hJ hb hu hp hd => ?_)
  have e1 : A.eval (.tmp 2) = .int .i64 (j : Int) := hF 2 rfl
  exact BigFrame.wp_move _ rfl ⟨_,rfl,e1,Below.refl _ _⟩
 case o4 =>
  refine LnOp.line 0 rfl rfl (fun A va w' hF hT hJ hu hd => ?_)
  have e1 : A.eval (.tmp 8) = .slice a1 n1 c1 := (hT 8 1 (by simp) rfl).trans (hd ⟨1,.data⟩ (by simp) rfl rfl)
  have e2 : A.eval (.tmp 9) = .int .i64 (i : Int) := (hT 9 2 (by simp) rfl).trans (hd ⟨2,.data⟩ (by simp) rfl rfl)
  have e3 : A.eval (.tmp 10) = .int .i64 (j : Int) := (hT 10 3 (by simp) rfl).trans (hd ⟨3,.data⟩ (by simp) rfl rfl)
  have hJ' : Below W.heap.size W w' := hJ
  refine zak rfl ek (by simp only [List.map_toArray,List.map_cons,List.map_nil,e1,e2,e3]) ((H1 w' (q.trans (hJ'.mono q.size))).mono ?_)
  rintro e W4 ⟨v,rfl,hc⟩
  exact ⟨_,rfl,_,rfl,⟨hc.1,fun k hk => Nat.le_trans hJ'.size (hc.2.1 k hk),hJ'.trans (hc.2.2.mono hJ'.size)⟩,Trd.of hc.2.2⟩
 case o5 =>
  refine LnOp.side rfl (by kernel_rfl) (fun A va w' k hF hT hk hJ hb hu hp hd => ?_)
  have e1 : A.eval (.tmp 3) = .pointer (some ⟨w.heap.size,0,none⟩) := hF 3 rfl
  exact zai ndS rfl (e1) (by omega) ⟨_,rfl,rfl,Below.refl _ _⟩
 case o6 =>
  refine LnOp.side rfl (by kernel_rfl) (fun A va w' k hF hT hk hJ hb hu hp hd => ?_)
  have e1 : A.eval (.tmp 12) = .pointer (some ⟨w.heap.size,0 + 1,none⟩) := (hT 12 5 (by simp) rfl).trans (hd ⟨5,.data⟩ (by simp) rfl rfl)
  exact zad (e := 70) rfl (e1) (by kernel_rfl) ((hRD _ _ hJ).cell1) ⟨_,rfl,rfl,Below.refl _ _⟩
 case o7 =>
  refine LnOp.side rfl (by kernel_rfl) (fun A va w' k hF hT hk hJ hb hu hp hd => ?_)
  have e1 : A.eval (.tmp 1) = .int .i64 (i : Int) := hF 1 rfl
  exact BigFrame.wp_move _ rfl ⟨_,rfl,e1,Below.refl _ _⟩
 case o8 =>
  refine LnOp.side rfl (by kernel_rfl) (fun A va w' k hF hT hk hJ hb hu hp hd => ?_)
  have e1 : A.eval (.tmp 2) = .int .i64 (j : Int) := hF 2 rfl
  exact BigFrame.wp_move _ rfl ⟨_,rfl,e1,Below.refl _ _⟩
 case o9 =>
  refine LnOp.line 1 rfl rfl (fun A va w' hF hT hJ hu hd => ?_)
  have e1 : A.eval (.tmp 13) = .slice a2 n2 c2 := (hT 13 6 (by simp) rfl).trans (hd ⟨6,.data⟩ (by simp) rfl rfl)
  have e2 : A.eval (.tmp 14) = .int .i64 (i : Int) := (hT 14 7 (by simp) rfl).trans (hd ⟨7,.data⟩ (by simp) rfl rfl)
  have e3 : A.eval (.tmp 15) = .int .i64 (j : Int) := (hT 15 8 (by simp) rfl).trans (hd ⟨8,.data⟩ (by simp) rfl rfl)
  have hJ' : Below W.heap.size W w' := A1.base hJ
  refine zak rfl ec (by simp only [List.map_toArray,List.map_cons,List.map_nil,e1,e2,e3]) ((H2 w' (q.trans (hJ'.mono q.size))).mono ?_)
  rintro e W4 ⟨v,rfl,hc⟩
  exact ⟨_,rfl,_,rfl,⟨w',hJ,hc⟩,Trd.of hc.2.2⟩
 case o10 =>
  refine LnOp.side rfl (by kernel_rfl) (fun A va w' k hF hT hk hJ hb hu hp hd => ?_)
  have e1 : A.eval (.tmp 3) = .pointer (some ⟨w.heap.size,0,none⟩) := hF 3 rfl
  exact zai ndS rfl (e1) (by omega) ⟨_,rfl,rfl,Below.refl _ _⟩
 case o11 =>
  refine LnOp.side rfl (by kernel_rfl) (fun A va w' k hF hT hk hJ hb hu hp hd => ?_)
  have e1 : A.eval (.tmp 17) = .pointer (some ⟨w.heap.size,0 + 2,none⟩) := (hT 17 10 (by simp) rfl).trans (hd ⟨10,.data⟩ (by simp) rfl rfl)
  exact zad (e := 26) rfl (e1) (by kernel_rfl) ((hRD _ _ hJ).cell2) ⟨_,rfl,rfl,Below.refl _ _⟩
 case o12 =>
  refine LnOp.side rfl (by kernel_rfl) (fun A va w' k hF hT hk hJ hb hu hp hd => ?_)
  have e1 : A.eval (.tmp 1) = .int .i64 (i : Int) := hF 1 rfl
  exact BigFrame.wp_move _ rfl ⟨_,rfl,e1,Below.refl _ _⟩
 case o13 =>
  refine LnOp.side rfl (by kernel_rfl) (fun A va w' k hF hT hk hJ hb hu hp hd => ?_)
  have e1 : A.eval (.tmp 2) = .int .i64 (j : Int) := hF 2 rfl
  exact BigFrame.wp_move _ rfl ⟨_,rfl,e1,Below.refl _ _⟩
 case o14 =>
  refine LnOp.side rfl (by kernel_rfl) (fun A va w' k hF hT hk hJ hb hu hp hd => ?_)
  have e1 : A.eval (.tmp 20) = .int .i64 (j : Int) := (hT 20 13 (by simp) rfl).trans (hd ⟨13,.data⟩ (by simp) rfl rfl)
  exact zbi rfl (e1) (rfl) (by omega) (by omega) ⟨_,rfl,rfl,Below.refl _ _⟩
 case o15 =>
  refine LnOp.line 2 rfl rfl (fun A va w' hF hT hJ hu hd => ?_)
  have e1 : A.eval (.tmp 18) = .slice a3 n3 c3 := (hT 18 11 (by simp) rfl).trans (hd ⟨11,.data⟩ (by simp) rfl rfl)
  have e2 : A.eval (.tmp 19) = .int .i64 (i : Int) := (hT 19 12 (by simp) rfl).trans (hd ⟨12,.data⟩ (by simp) rfl rfl)
  have e3 : A.eval (.tmp 21) = .int .i64 ((j : Int) + 1) := (hT 21 14 (by simp) rfl).trans (hd ⟨14,.data⟩ (by simp) rfl rfl)
  have hJ' : Below W.heap.size W w' := J3.below2 A1 A2 hJ
  refine zak rfl en (by simp only [List.map_toArray,List.map_cons,List.map_nil,e1,e2,e3]) ((H3 w' (q.trans (hJ'.mono q.size))).mono ?_)
  rintro e W4 ⟨v,rfl,hc⟩
  obtain ⟨Wa,hJ1,hJ2⟩ := hJ
  exact ⟨_,rfl,_,rfl,⟨Wa,w',hJ1,hJ2,hc⟩,Trd.of hc.2.2⟩
 case o16 =>
  refine LnOp.side rfl (by kernel_rfl) (fun A va w' k hF hT hk hJ hb hu hp hd => ?_)
  have x1 : A.eval (.tmp 11) = va 4 := hT 11 4 (by simp) rfl
  have x2 : A.eval (.tmp 16) = va 9 := hT 16 9 (by simp) rfl
  have x3 : A.eval (.tmp 22) = va 15 := hT 22 15 (by simp) rfl
  obtain rfl : k = 3 := by
   have h1 := hp ⟨15,.data⟩ (by simp) rfl 2 rfl
   have h2 := hb 3 17 rfl (by kernel_rfl)
   omega
  obtain ⟨Wa,Wb,hJ1,hJ2,hJ3⟩ := hJ
  exact zer ndS rfl x1 x2 x3 (A1.one hJ1).2 (A2.one hJ2).2 (A3.one hJ3).2 ⟨_,rfl,⟨_,_,_,Wa,Wb,w',rfl,hJ1,hJ2,hJ3,Trd.refl _ _⟩,Below.refl _ _⟩
 case o17 =>
  refine LnOp.line 3 rfl rfl (fun A va w' hF hT hJ hu hd => ?_)
  have e1 : A.eval (.tmp 6) = .pointer (some ⟨w.heap.size + 1,0,none⟩) := hF 6 rfl
  have x2 : A.eval (.tmp 23) = va 16 := hT 23 16 (by simp) rfl
  have y2 := hd ⟨16,.data⟩ (by simp) rfl rfl
  obtain ⟨x,y,z,Wa,Wb,Wc,e,hJ1,hJ2,hJ3,hk⟩ := y2
  have hq := J3.below3 A1 A2 A3 hJ
  refine zb2 rfl e1 (x2.trans e) (A1.one hJ1).1 (A2.one hJ2).1 (A3.one hJ3).1 (bz.below hq (by omega)) (fun w2 hg ht => ?_)
  have hk2 : Trd (· = w.heap.size + 1) w' w2 := Trd.ofGrown (F := (· = w.heap.size + 1)) hg fun k hk => by injection hk with hk; exact hk.symm
  exact ⟨_,rfl,⟨x,y,z,Wa,Wb,Wc,hJ1,hJ2,hJ3,ht,hk.trans hk2 fun _ _ h => h⟩,hk2⟩
 case fin =>
  intro vs1 W9 hJ hG
  obtain ⟨x,y,z,Wa,Wb,Wc,r1,r2,r3,ht,hk⟩ := hJ
  have hN := New3.of q (Nat.le_succ _) (by omega) r1 r2 r3 hk
  clear hG
  simp only [zae]
  go_simp
  go_wp2_with fail
  obtain ⟨fs,hu,_⟩ := ndS.hu
  exact bodyPost_ret (v := .agg #[x,y,z]) (by simp [results,Tryz.results102,go_sem,loadVar,isAgg,run_underlying hu,zab ndS.hs,loadCellsFrom,Addr.add,ht.cell0,ht.cell1,ht.cell2]) rfl ⟨x,y,z,rfl,hN⟩
def Chn(W0:World)(R:List Value→World→Value→World→Prop):List Value→World→Prop
 | [],W=>Below W0.heap.size W0 W
 | v::l,W=>∃ W1 W2,Chn W0 R l W1∧R l W1 v W2∧Below W2.heap.size W2 W
theorem Chn.more {W0:World} {R:List Value→World→Value→World→Prop}:∀ (l:List Value) (W W':World),Chn W0 R l W→Below W.heap.size W W'→Chn W0 R l W'
 | [],_,_,h,hb=>Below.trans h (hb.mono (Below.size h))
 | _::_,_,_,⟨W1,W2,h1,h2,h3⟩,hb=>⟨W1,W2,h1,h2,h3.trans (hb.mono h3.size)⟩
theorem Chn.trd {W0:World} {R:List Value→World→Value→World→Prop} {Fp:Nat→Nat→Prop} (hR:∀ l W v W',R l W v W'→Trd (fun k=>Fp l.length k) W W'):∀ {l:List Value} {W:World},Chn W0 R l W→Trd (fun k=>∃ p,p<l.length∧Fp p k) W0 W
 | [],_,h=>Trd.of h
 | v::l,_,⟨W1,W2,h1,h2,h3⟩=>by
  have t1:=(Chn.trd hR h1).mono (F':=fun k=>∃ p,p<(v::l).length∧Fp p k) fun k _⟨p,hp,hk⟩=>⟨p,by simp only [List.length_cons];omega,hk⟩
  have t2:=(hR _ _ _ _ h2).mono (F':=fun k=>∃ p,p<(v::l).length∧Fp p k) fun k _ hk=>⟨l.length,by simp,hk⟩
  exact (t1.trans t2 fun _ _ h=>h).trans (Trd.of (F:=fun k=>∃ p,p<(v::l).length∧Fp p k) h3) fun _ _ h=>h
abbrev K0 (W0:World):World→World→Prop:=fun A B=>Trd (·<W0.heap.size) A B
def lRow (W0 : World) (Te : TypeId) (m : Nat) (us : List Value) : SGn (K0 W0) :=
 ⟨fun W v => ∃ b,v = .slice (some ⟨b,0,none⟩) m m ∧ W0.heap.size ≤ b ∧ W.heap[b]? = some (.cells us.toArray Te (0,0)),
  fun _ _ _ ⟨b,e,h1,h2⟩ hb => ⟨b,e,h1,(hb.block b (Array.getElem?_eq_some_iff.1 h2).1).trans h2⟩,
  fun _ _ _ ⟨b,e,h1,h2⟩ hk => ⟨b,e,h1,(hk.block b (Array.getElem?_eq_some_iff.1 h2).1 (by omega)).trans h2⟩⟩
theorem zan(v:Value)(k:Nat):(zah v).count k≤1∧(0<(zah v).count k↔v.ownBlock=some k):=by
 refine⟨?_,?_⟩
 ·unfold zah
  cases v.ownBlock with
  | none=>simp
  | some j=>rw [Option.toList_some,List.count_singleton];split<;>omega
 ·rw [List.count_pos_iff,zb8]
theorem zcc.cnt {Te:TypeId} {sz n:Nat} {w w':World} {v v':Value} {vs:List Value}(h:zcc Te sz w v n vs v' w')(k:Nat):((zah v').count k=(zah v).count k)∨((zah v').count k≤1∧(0<(zah v').count k→w.heap.size≤k∧k<w'.heap.size)):=by
 rcases h.2.2 with e |⟨q,e,hq⟩
 ·left
  unfold zah
  rw [e]
 ·right
  refine⟨(zan v' k).1,fun hp=>?_⟩
  have hk:=(zan v' k).2.1 hp
  have hl:=h.1.lt hk
  rw [e] at hk
  injection hk with hk
  omega
theorem zcc.trd {Te:TypeId} {sz n:Nat} {w w':World} {v v':Value} {vs:List Value} (h:zcc Te sz w v n vs v' w'):Trd (fun k=>v.ownBlock=some k) w w':=Trd.ofGrown h.2.1 fun _ hk=>hk
theorem zbm {l:List Nat}:l.Nodup↔∀ k,l.count k≤1:=List.nodup_iff_count
theorem NdAt.to {D:Nat→Prop} {w w':World} {v:Value} {n n':Nd} {F F':List Nat} {vs':List Value} {Q:Nd→Prop} (h:NdAt D w v n F) (ht:Trd (·∈F) w w') (ho:OwnN D w' n' vs' F') (hq:Q n') (hc:∀ k,F'.count k≤1∧(0<F'.count k→0<F.count k∨w.heap.size≤k)):NdTo D w F Q (.returned (.agg vs'.toArray)) w':=by
 have hm:∀ k∈F',k∈F∨w.heap.size≤k:=fun k hk=>by
  rcases (hc k).2 (List.count_pos_iff.2 hk) with h1 | h1
  ·exact .inl (List.count_pos_iff.1 h1)
  ·exact .inr h1
 refine⟨_,n',F',rfl,hq,⟨⟨vs',rfl,ho⟩,zbm.2 fun k=>(hc k).1,fun k hk hd=>?_,fun k hd=>Nat.lt_of_lt_of_le (h.data k hd) ht.size⟩,hm,ht⟩
 rcases hm k hk with h1 | h1
 ·exact h.free k h1 hd
 ·have:=h.data k hd;omega
section
variable {P : Program} {T Te : TypeId} {n : Nat} {ops : Array Oper} {rest : List Oper} {o : Oper} {a : Act} {Q : Exit → Act → World → Prop} {w : World} {K : Act → World → Prop}
theorem zk1 (hP : LoP P T Te 3) (w : World) {u1 u2 u3 v1 v2 v3 : Value} :
  (Instr.buildSlice T 2 #[(0,.agg #[u1,u2,u3]),(1,.agg #[v1,v2,v3])]).run P w = .ok (.slice (some ⟨w.heap.size,0,none⟩) 2 2) (w.alloc (.cells [u1,u2,u3,v1,v2,v3].toArray Te)) := by
 obtain ⟨i,z,hi,hz,hsz,hby,hzs⟩ := hP.all
 have hr : Array.range (2 * 3) = #[0,1,2,3,4,5] := rfl
 simp [Instr.buildSlice,run_underlying hP.hT,sizeOf,typeInfo,zeroValue,hi,hz,hsz,newRow,Value.cells,Instr.fill,hr]
theorem zmf (hP : LoP P T Te 3) {x y : Operand} {u1 u2 u3 v1 v2 v3 : Value} (ho : o.op = .buildSlice T 2 #[(0,x),(1,y)]) (hx : a.eval x = .agg #[u1,u2,u3]) (hy : a.eval y = .agg #[v1,v2,v3])
  (h : K (a.put o.dst (.slice (some ⟨w.heap.size,0,none⟩) 2 2)) (w.alloc (.cells [u1,u2,u3,v1,v2,v3].toArray Te))) : o.wp P a w K Q := by
 have hrun := zk1 hP w (u1 := u1) (u2 := u2) (u3 := u3) (v1 := v1) (v2 := v2) (v3 := v3)
 unfold Oper.wp execOp
 simp only [ho,hx,hy,Sem.run_bind,Sem.run_pure,Result.andThen_ok,List.map_toArray,List.map_cons,List.map_nil,hrun]
 exact h
end
end Go.Proofs.YtlpfhgdnmjkngaaGreat
