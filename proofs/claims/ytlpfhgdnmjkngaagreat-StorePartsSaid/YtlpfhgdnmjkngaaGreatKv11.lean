/-
  TEXTS OF ONE PROOF, merged: TraK, TraL, TraR, TraM, TraN, TraO, TraP, TraQ.
-/
import Derived.Deep.LoopGhost
import Derived.Test.YtlpfhgdnmjkngaaGreatKv10
namespace Go.Proofs.YtlpfhgdnmjkngaaGreat
open Go.RowKit
set_option maxRecDepth 100000
set_option maxHeartbeats 32000000
theorem ze9 (w:World) (p:Addr) (v:Value):w.grownBy (w.setCell p v) (some p.block):=⟨rfl,rfl,rfl,by simp [World.setCell],fun k _ hk=>heap_setCell_other w p k v (fun e=>hk (by rw [e]))⟩
theorem zi1 {a b c:World} {r:Option Nat} (h:a.grownBy b r) (k:b.grownBy c r):a.grownBy c r :=
 ⟨k.os.trans h.os,k.tape.trans h.tape,k.output.trans h.output,Nat.le_trans h.size k.size,fun j hj hn=>(k.block j (Nat.lt_of_lt_of_le hj h.size) hn).trans (h.block j hj hn)⟩
section
variable {Te : TypeId} {sz n g : Nat} {w : World} {v : Value} {vs : List Value}
theorem RowQ.frozen (h : RowQ Te sz w v n vs) (hg : v.ownBlock = Option.some g) (j : Nat) : w.frozen? ⟨g,j,none⟩ = false := by
 obtain ⟨cur,hb⟩ := h.block hg
 simp [World.frozen?,hb]
theorem RowQ.put1 (h : RowQ Te sz w v n vs) (hg : v.ownBlock = Option.some g) {j : Nat} {u : Value} (hu : u.oneCell' = true) : RowQ Te sz (w.setCell ⟨g,j,none⟩ u) v n (vs.set j u) := by
 rcases h.cases with ⟨rfl,_,_⟩ | ⟨g',cap,cur,rfl,hb,h1,h2,h3,h4⟩
 ·simp [Value.ownBlock] at hg
 ·simp [Value.ownBlock] at hg
  subst hg
  refine RowQ.of (cur := cur.setIfInBounds j u) ?_ h1 h2 (by simp [h3]) ?_ fun x hx => ?_
  ·simp only [World.setCell,Array.getElem?_modify,hb]
   simp
  ·rw [Array.toList_setIfInBounds,List.take_set,h4]
  ·rcases List.mem_or_eq_of_mem_set hx with hx | rfl
   ·exact h.2 x hx
   ·exact hu
end
section
variable {P : Program} {ops : Array Oper} {rest : List Oper} {o : Oper} {a : Act} {K : Act → World → Prop} {Q : Exit → Act → World → Prop} {w : World} {Te : TypeId} {sz n g : Nat} {V : Value} {vs : List Value}
theorem zi6 {t : TypeId} {x y : Operand} {ad : Option Addr} {k c j : Nat} (ho : o.op = .store t x y) (ht : (P.info? t).map (·.size) = some 1) (hx : a.eval x = .pointer (some ⟨g,j,none⟩)) (hy : a.eval y = .slice ad k c) (hr : RowQ Te sz w V n vs) (hg : V.ownBlock = some g) (hj : j < vs.length)
  (h : ∀ w',w.grownBy w' (some g) → RowQ Te sz w' V n (vs.set j (.slice ad k c)) → K (a.put o.dst undef) w') : o.wp P a w K Q := by
 have hc := hr.cell hg (List.getElem?_eq_getElem hj)
 have hf := hr.frozen hg j
 refine zep ?_ (h _ (ze9 w ⟨g,j,none⟩ _) (hr.put1 hg rfl))
 simp only [execOp,ho,hx,hy]
 simp [Instr.storeAt,storeVar,zck ht,storeCells,Value.cells,run_store _ _ _ _ _ (show (Value.slice ad k c).oneCell' = true from rfl),hc,hf,go_sem]
theorem zkn {t : TypeId} {x y : Operand} {ad : Option Addr} {k c j : Nat} (ho : o.op = .store t x y) (hd : o.dst = none) (hgd : Region.wanted o (yielded ops a.tmps) = true) (ht : (P.info? t).map (·.size) = some 1) (hx : a.eval x = .pointer (some ⟨g,j,none⟩)) (hy : a.eval y = .slice ad k c) (hr : RowQ Te sz w V n vs) (hg : V.ownBlock = some g) (hj : j < vs.length)
  (h : ∀ w',w.grownBy w' (some g) → RowQ Te sz w' V n (vs.set j (.slice ad k c)) → wpList P ops Q rest a w') : wpList P ops Q (o :: rest) a w :=
 BigFrame.wpList_want hgd fun _ hK => zi6 ho ht hx hy hr hg hj fun w' h1 h2 => hK _ _ (by rw [hd]; exact h w' h1 h2)
theorem znm {x y : Operand} {u v r : Value} {f : Nat} (ho : o.op = .store 26 x y) (hx : a.eval x = .pointer (some ⟨g,f,none⟩)) (hy : a.eval y = .agg #[u,v,r]) (hu1 : u.oneCell' = true) (hv1 : v.oneCell' = true) (hr1 : r.oneCell' = true) (hr : RowQ Te sz w V n vs) (hg : V.ownBlock = some g) (hf : f + 2 < vs.length)
  (h : ∀ w',w.grownBy w' (some g) → RowQ Te sz w' V n (((vs.set f u).set (f + 1) v).set (f + 2) r) → K (a.put o.dst undef) w') : o.wp Tryz.prog a w K Q := by
 have hs : (Tryz.prog.info? 26).map (·.size) = some 3 := ndS.hs
 have r1 := hr.put1 hg (j := f) hu1
 have r2 := r1.put1 hg (j := f + 1) hv1
 have r3 := r2.put1 hg (j := f + 2) hr1
 have c0 := hr.cell hg (List.getElem?_eq_getElem (show f < vs.length by omega))
 have c1 := r1.cell hg (List.getElem?_eq_getElem (show f + 1 < (vs.set f u).length by rw [List.length_set]; omega))
 have c2 := r2.cell hg (List.getElem?_eq_getElem (show f + 2 < ((vs.set f u).set (f + 1) v).length by rw [List.length_set,List.length_set]; omega))
 have hgr := zi1 (zi1 (ze9 w ⟨g,f,none⟩ u) (ze9 _ ⟨g,f + 1,none⟩ v)) (ze9 _ ⟨g,f + 2,none⟩ r)
 refine zep ?_ (h _ hgr r3)
 simp only [execOp,ho,hx,hy]
 simp [Instr.storeAt,storeVar,zck hs,storeCells,Value.cells,run_store _ _ _ _ _ hu1,run_store _ _ _ _ _ hv1,run_store _ _ _ _ _ hr1,c0,c1,c2,hr.frozen hg f,r1.frozen hg (f + 1),r2.frozen hg (f + 2),Addr.add,go_sem]
theorem zhe {t tb : TypeId} {x y : Operand} {b : Nat} {ad : Option Addr} {k c : Nat} {p q s : Value} (ho : o.op = .store t x y) (hd : o.dst = none) (hgd : Region.wanted o (yielded ops a.tmps) = true) (ht : (P.info? t).map (·.size) = some 1) (hx : a.eval x = .pointer (some ⟨b,0,none⟩)) (hy : a.eval y = .slice ad k c) (t0 : TriV w b tb p q s)
  (h : ∀ w',w.grownBy w' (some b) → TriV w' b tb (.slice ad k c) q s → wpList P ops Q rest a w') : wpList P ops Q (o :: rest) a w := by
 have hf : w.frozen? ⟨b,0,none⟩ = false := by simp [World.frozen?,show w.heap[b]? = _ from t0]
 have t1 : TriV (w.setCell ⟨b,0,none⟩ (.slice ad k c)) b tb (.slice ad k c) q s := by
  unfold TriV at t0 ⊢
  simp only [World.setCell,Array.getElem?_modify,t0]
  simp
 refine BigFrame.wpList_want hgd fun _ hK => zep ?_ (hK _ _ (by rw [hd]; exact h _ (ze9 w ⟨b,0,none⟩ _) t1))
 simp only [execOp,ho,hx,hy]
 simp [Instr.storeAt,storeVar,zck ht,storeCells,Value.cells,run_store _ _ _ _ _ (show (Value.slice ad k c).oneCell' = true from rfl),t0.cell0,hf,go_sem]
theorem zhd {t tb : TypeId} {x y : Operand} {b : Nat} {ad : Option Addr} {k c : Nat} {p q s : Value} (ho : o.op = .store t x y) (hd : o.dst = none) (hgd : Region.wanted o (yielded ops a.tmps) = true) (ht : (P.info? t).map (·.size) = some 1) (hx : a.eval x = .pointer (some ⟨b,1,none⟩)) (hy : a.eval y = .slice ad k c) (t0 : TriV w b tb p q s)
  (h : ∀ w',w.grownBy w' (some b) → TriV w' b tb p (.slice ad k c) s → wpList P ops Q rest a w') : wpList P ops Q (o :: rest) a w := by
 have hf : w.frozen? ⟨b,1,none⟩ = false := by simp [World.frozen?,show w.heap[b]? = _ from t0]
 have t1 : TriV (w.setCell ⟨b,1,none⟩ (.slice ad k c)) b tb p (.slice ad k c) s := by
  unfold TriV at t0 ⊢
  simp only [World.setCell,Array.getElem?_modify,t0]
  simp
 refine BigFrame.wpList_want hgd fun _ hK => zep ?_ (hK _ _ (by rw [hd]; exact h _ (ze9 w ⟨b,1,none⟩ _) t1))
 simp only [execOp,ho,hx,hy]
 simp [Instr.storeAt,storeVar,zck ht,storeCells,Value.cells,run_store _ _ _ _ _ (show (Value.slice ad k c).oneCell' = true from rfl),t0.cell1,hf,go_sem]
end
section
variable {D : Nat → Prop} {w W W' : World} {n : Nd} {F F' F3 : List Nat} {lo : Nat} {V1 V2 V3 : Value} {us1 us2 us3 : List Value}
theorem NdAt.own3 (h:NdAt D W (.agg #[V1,V2,V3]) n F):∃ us1 us2 us3 F3,Pts D W n V1 V2 V3 us1 us2 us3 F F3:=by
 obtain⟨vs,e,ho⟩:=h.ex
 injection e with e
 injection e with e
 subst e
 obtain⟨v1,v2,v3,us1,us2,us3,F3,e,p⟩:=ho.pts
 cases e
 exact⟨us1,us2,us3,F3,p⟩
theorem NdOf.turn {n':Nd} {F'':List Nat} {vs':List Value} {v:Value} (h:NdOf D w lo F W v n F') (ht:Trd (·∈F') W W') (ho:OwnN D W' n' vs' F'') (hc:∀ k,F''.count k≤1∧(0<F''.count k→0<F'.count k∨W.heap.size≤k)):NdOf D w lo F W' (.agg vs'.toArray) n' F'':=by
 have hm:∀ k∈F'',k∈F'∨W.heap.size≤k:=fun k hk=>((hc k).2 (List.count_pos_iff.2 hk)).imp List.count_pos_iff.1 id
 refine⟨⟨⟨vs',rfl,ho⟩,zbm.2 fun k=>(hc k).1,fun k hk hd=>?_,fun k hd=>Nat.lt_of_lt_of_le (h.at'.data k hd) ht.size⟩,fun k hk=>?_,h.trd.trans ht fun k hk hf=>?_,h.dat,h.lt,h.lo1,Nat.le_trans h.lo2 ht.size⟩
 ·rcases hm k hk with h1 | h1
  ·exact h.at'.free k h1 hd
  ·have:=h.at'.data k hd;omega
 ·rcases hm k hk with h1 | h1
  ·exact h.fr k h1
  ·exact .inr (Nat.le_trans h.lo2 h1)
 ·rcases h.fr k hf with h6 | h6
  ·exact h6
  ·have:=h.lo1;omega
theorem NdOf.keys {ks : List (List UInt8)} {us : List Value} {V1' : Value} (h : NdOf D w lo F W (.agg #[V1,V2,V3]) n F') (hr : zcc 30 1 W V1 ks.length us V1' W') (hf : Flat Elt.bytes D W ks us) : ∃ F'',NdOf D w lo F W' (.agg #[V1',V2,V3]) (.mk ks n.chains n.kids) F'' := by
 obtain ⟨us1,us2,us3,F3,p⟩ := h.at'.own3
 have hn := zbm.1 h.at'.nodup
 have hlF : ∀ k ∈ F',k < W.heap.size := h.at'.lt
 have hF : ∀ k,F'.count k = (zah V1).count k + (zah V2).count k + (zah V3).count k + F3.count k := fun k => by rw [p.fe]; simp only [List.count_append]
 have ht := hr.trd
 have ht' : Trd (· ∈ F') W W' := ht.mono fun k _ hk => List.count_pos_iff.1 (by have := hF k; have := (zan V1 k).2.2 hk; omega)
 have hkp : ∀ k,V1.ownBlock ≠ some k → k < W.heap.size → W'.heap[k]? = W.heap[k]? := fun k hk hl => ht.block k hl hk
 have hD : ∀ k,D k → W'.heap[k]? = W.heap[k]? := fun k hd => ht'.block k (h.at'.data k hd) fun hm => h.at'.free k hm hd
 refine ⟨_,h.turn (vs' := [V1',V2,V3]) ht' (Pts.own (n := .mk ks n.chains n.kids) ⟨hr.1,hf.keep hD,p.r2.kept fun k hk => hkp k (fun e => ?_) (p.r2.lt hk),p.l2.keep hD,p.r3.kept fun k hk => hkp k (fun e => ?_) (p.r3.lt hk),zbe _ p.o3 (fun k hk => hkp k (fun e => ?_) ?_) hD,rfl⟩) fun k => ?_⟩
 ·have := hn k; have := hF k; have := (zan V1 k).2.2 e; have := (zan V2 k).2.2 hk; omega
 ·have := hn k; have := hF k; have := (zan V1 k).2.2 e; have := (zan V3 k).2.2 hk; omega
 ·have := hn k; have := hF k; have := (zan V1 k).2.2 e; have := List.count_pos_iff.2 hk; omega
 ·have := List.count_pos_iff.2 hk; have := hF k; exact hlF k (List.count_pos_iff.1 (by omega))
 ·have c0 := hn k
  have c1 := hF k
  have c2 := hr.cnt k
  have c3 : 0 < F'.count k → k < W.heap.size := fun hp => hlF k (List.count_pos_iff.1 hp)
  simp only [List.count_append]
  omega
theorem NdOf.chains {cs : List (List Ver)} {us : List Value} {V2' : Value} (h : NdOf D w lo F W (.agg #[V1,V2,V3]) n F') (hr : zcc 70 1 W V2 cs.length us V2' W') (hf : Flat (Elt.list Elt.ver) D W cs us) : ∃ F'',NdOf D w lo F W' (.agg #[V1,V2',V3]) (.mk n.keys cs n.kids) F'' := by
 obtain ⟨us1,us2,us3,F3,p⟩ := h.at'.own3
 have hn := zbm.1 h.at'.nodup
 have hlF : ∀ k ∈ F',k < W.heap.size := h.at'.lt
 have hF : ∀ k,F'.count k = (zah V1).count k + (zah V2).count k + (zah V3).count k + F3.count k := fun k => by rw [p.fe]; simp only [List.count_append]
 have ht := hr.trd
 have ht' : Trd (· ∈ F') W W' := ht.mono fun k _ hk => List.count_pos_iff.1 (by have := hF k; have := (zan V2 k).2.2 hk; omega)
 have hkp : ∀ k,V2.ownBlock ≠ some k → k < W.heap.size → W'.heap[k]? = W.heap[k]? := fun k hk hl => ht.block k hl hk
 have hD : ∀ k,D k → W'.heap[k]? = W.heap[k]? := fun k hd => ht'.block k (h.at'.data k hd) fun hm => h.at'.free k hm hd
 refine ⟨_,h.turn (vs' := [V1,V2',V3]) ht' (Pts.own (n := .mk n.keys cs n.kids) ⟨p.r1.kept fun k hk => hkp k (fun e => ?_) (p.r1.lt hk),p.l1.keep hD,hr.1,hf.keep hD,p.r3.kept fun k hk => hkp k (fun e => ?_) (p.r3.lt hk),zbe _ p.o3 (fun k hk => hkp k (fun e => ?_) ?_) hD,rfl⟩) fun k => ?_⟩
 ·have := hn k; have := hF k; have := (zan V2 k).2.2 e; have := (zan V1 k).2.2 hk; omega
 ·have := hn k; have := hF k; have := (zan V2 k).2.2 e; have := (zan V3 k).2.2 hk; omega
 ·have := hn k; have := hF k; have := (zan V2 k).2.2 e; have := List.count_pos_iff.2 hk; omega
 ·have := List.count_pos_iff.2 hk; have := hF k; exact hlF k (List.count_pos_iff.1 (by omega))
 ·have c0 := hn k
  have c1 := hF k
  have c2 := hr.cnt k
  have c3 : 0 < F'.count k → k < W.heap.size := fun hp => hlF k (List.count_pos_iff.1 hp)
  simp only [List.count_append]
  omega
theorem NdOf.kidAt {i g3 c3 : Nat} (h : NdOf D w lo F W (.agg #[V1,V2,.slice (some ⟨g3,0,none⟩) n.kids.length c3]) n F') (hi : i < n.kids.length) :
  ∃ a c a' c' a'' c'' G,W.cell? ⟨g3,i * 3,none⟩ = some (.slice a (kidN n i).keys.length c) ∧ W.cell? ⟨g3,i * 3 + 1,none⟩ = some (.slice a' (kidN n i).chains.length c') ∧ W.cell? ⟨g3,i * 3 + 2,none⟩ = some (.slice a'' (kidN n i).kids.length c'') ∧
   NdAt D W (.agg #[.slice a (kidN n i).keys.length c,.slice a' (kidN n i).chains.length c',.slice a'' (kidN n i).kids.length c'']) (kidN n i) G ∧ (∀ k ∈ G,k ∈ F' ∧ V1.ownBlock ≠ some k ∧ V2.ownBlock ≠ some k ∧ k ≠ g3) ∧
   ∀ (m : Nd) (x y z : Value) (G' : List Nat) (W1 W2 : World),NdAt D W1 (.agg #[x,y,z]) m G' → (∀ k ∈ G',k ∈ G ∨ W.heap.size ≤ k) → Trd (· ∈ G) W W1 → W1.grownBy W2 (some g3) →
    (∀ us,RowQ 26 3 W1 (.slice (some ⟨g3,0,none⟩) n.kids.length c3) n.kids.length us → RowQ 26 3 W2 (.slice (some ⟨g3,0,none⟩) n.kids.length c3) n.kids.length (((us.set (i * 3) x).set (i * 3 + 1) y).set (i * 3 + 2) z)) →
    ∃ F'',NdOf D w lo F W2 (.agg #[V1,V2,.slice (some ⟨g3,0,none⟩) n.kids.length c3]) (zbl n i m) F'' := by
 obtain ⟨us1,us2,us3,F3,p⟩ := h.at'.own3
 obtain ⟨usA,usB,FA,G,FB,xa,xc,ya,yc,za,zc,hus3,hF3,hlA,oA,ok,oB,k0,k1,k2⟩ := p.at' hi
 have hn := zbm.1 h.at'.nodup
 have hF : ∀ k,F'.count k = (zah V1).count k + (zah V2).count k + (zah (.slice (some ⟨g3,0,none⟩) n.kids.length c3)).count k + (FA.count k + G.count k + FB.count k) := fun k => by rw [p.fe,hF3]; simp only [List.count_append]
 have hlF : ∀ k ∈ F',k < W.heap.size := h.at'.lt
 have hg3 : ∀ k,0 < (zah (.slice (some ⟨g3,0,none⟩) n.kids.length c3)).count k ↔ k = g3 := fun k => by rw [(zan _ k).2]; simp [Value.ownBlock,eq_comm]
 have hGm : ∀ k ∈ G,k ∈ F' := fun k hg => List.count_pos_iff.1 (by have := List.count_pos_iff.2 hg; have := hF k; omega)
 refine ⟨xa,xc,ya,yc,za,zc,G,k0,k1,k2,⟨⟨_,rfl,ok⟩,zbm.2 fun k => by have := hn k; have := hF k; omega,fun k hg => h.at'.free k (hGm k hg),h.at'.data⟩,fun k hg => ⟨hGm k hg,fun e => ?_,fun e => ?_,fun e => ?_⟩,?_⟩
 ·have := hn k; have := hF k; have := (zan V1 k).2.2 e; have := List.count_pos_iff.2 hg; omega
 ·have := hn k; have := hF k; have := (zan V2 k).2.2 e; have := List.count_pos_iff.2 hg; omega
 ·have := hn k; have := hF k; have := (hg3 k).2 e; have := List.count_pos_iff.2 hg; omega
 ·intro m x y z G' W1 W2 hm hG' ht hg hset
  have ht2 : Trd (· ∈ F') W W2 := (ht.mono fun k _ hk => hGm k hk).trans (Trd.ofGrown (F := (· = g3)) hg fun k e => by injection e with e; exact e.symm) fun k _ e => List.count_pos_iff.1 (by have := hF k; have := (hg3 k).2 e; omega)
  have hD : ∀ k,D k → W2.heap[k]? = W.heap[k]? := fun k hd => ht2.block k (h.at'.data k hd) fun hm => h.at'.free k hm hd
  have hkp : ∀ k,k < W.heap.size → G.count k = 0 → k ≠ g3 → W2.heap[k]? = W.heap[k]? := fun k hl h0 hne => (hg.block k (Nat.lt_of_lt_of_le hl ht.size) fun e => hne (by injection e)).trans (ht.block k hl fun hm => by have := List.count_pos_iff.2 hm; omega)
  have hkp' : ∀ k,0 < (zah V1).count k + (zah V2).count k + (FA.count k + FB.count k) → W2.heap[k]? = W.heap[k]? := fun k hp => by
   have c0 := hn k
   have c1 := hF k
   have c2 := hg3 k
   exact hkp k (hlF k (List.count_pos_iff.1 (by omega))) (by omega) (fun e => by have := c2.2 e; omega)
  have g3F : g3 ∈ F' := List.count_pos_iff.1 (by have := hF g3; have := (hg3 g3).2 rfl; omega)
  have r3 := hset us3 (p.r3.trd ht fun k hk hm => by
   have := hn k; have := hF k; have := (zan _ k).2.2 hk; have := List.count_pos_iff.2 hm; omega)
  have e3 : ((us3.set (i * 3) x).set (i * 3 + 1) y).set (i * 3 + 2) z = usA ++ [x,y,z] ++ usB := by
   rw [hus3,← hlA,List.append_assoc,List.set_append_right _ _ (Nat.le_refl _),List.set_append_right _ _ (by omega),List.set_append_right _ _ (by omega),Nat.sub_self,Nat.add_sub_cancel_left,Nat.add_sub_cancel_left,List.append_assoc]
   rfl
  rw [e3] at r3
  have hm2 : NdAt D W2 (.agg #[x,y,z]) m G' := hm.keep hg.size fun k hk ho => hg.block k hk fun e => by
   injection e with e
   rw [e] at ho
   rcases ho with hd | hG
   ·exact h.at'.free _ g3F hd
   ·rcases hG' _ hG with h1 | h1
    ·have := hn g3; have := hF g3; have := (hg3 g3).2 rfl; have := List.count_pos_iff.2 h1; omega
    ·have := hlF _ g3F; omega
  have hgn := zbm.1 hm2.nodup
  obtain ⟨vs,e,ho⟩ := hm2.ex
  injection e with e
  injection e with e
  subst e
  have hsl : (zbl n i m).kids.length = n.kids.length := by show (n.kids.set i m).length = _; rw [List.length_set]
  have eset : (zbl n i m).kids = n.kids.take i ++ [m] ++ n.kids.drop (i + 1) := by
   show n.kids.set i m = _
   rw [List.set_eq_take_append_cons_drop,if_pos hi,List.append_assoc]; rfl
  refine ⟨_,h.turn (vs' := [V1,V2,.slice (some ⟨g3,0,none⟩) n.kids.length c3]) (F'' := zah V1 ++ zah V2 ++ zah (.slice (some ⟨g3,0,none⟩) n.kids.length c3) ++ (FA ++ G' ++ FB)) ht2 (Pts.own (n := zbl n i m) ⟨p.r1.kept fun k hk => hkp' k (by have := (zan V1 k).2.2 hk; omega),p.l1.keep hD,p.r2.kept fun k hk => hkp' k (by have := (zan V2 k).2.2 hk; omega),p.l2.keep hD,by rw [hsl]; exact r3,?_,rfl⟩) fun k => ?_⟩
  ·rw [eset]
   exact zbv (zbv (zbe _ oA (fun k hk => hkp' k (by have := List.count_pos_iff.2 hk; omega)) hD) (ze5.2 ho)) (zbe _ oB (fun k hk => hkp' k (by have := List.count_pos_iff.2 hk; omega)) hD)
  ·have c0 := hn k
   have c1 := hF k
   have c2 := hgn k
   have c3 : 0 < F'.count k → k < W.heap.size := fun hp => hlF k (List.count_pos_iff.1 hp)
   have c4 : 0 < G'.count k → 0 < G.count k ∨ W.heap.size ≤ k := fun hp => (hG' k (List.count_pos_iff.1 hp)).imp List.count_pos_iff.2 id
   simp only [List.count_append]
   omega
end
theorem Flat.set {α:Type} {E:Elt α} {S:Nat→Prop} {w:World} {xs:List α} {us:List Value} {x:α} {u:Value} {i:Nat} (h:Flat E S w xs us) (h1:E.size=1) (hx:E.R S w x [u]) (hi:i<xs.length):Flat E S w (xs.set i x) (us.set i u):=by
 have hl:us.length=xs.length*E.size:=h.len
 rw [h1,Nat.mul_one] at hl
 have f1:=Flat.take h i
 have f2:=Flat.drop h (i+1)
 rw [h1,Nat.mul_one] at f1 f2
 rw [List.set_eq_take_append_cons_drop,List.set_eq_take_append_cons_drop,if_pos hi,if_pos (by omega)]
 have:=(f1.append (Flat.single (E:=E) hx)).append f2
 rwa [List.append_assoc,List.append_assoc] at this
theorem RowQ.uniq {Te:TypeId} {sz n:Nat} {w:World} {v:Value} {us us':List Value}(h:RowQ Te sz w v n us)(h':RowQ Te sz w v n us'):us=us':=by
 rcases h.cases with⟨rfl,rfl,e⟩|⟨g,cap,cur,rfl,hb,_,_,_,e⟩
 ·have:=h'.len
  rw [Nat.zero_mul] at this
  rw [e,List.eq_nil_of_length_eq_zero this]
 ·rcases h'.cases with⟨e2,_,_⟩|⟨g',cap',cur',e2,hb',_,_,_,e'⟩
  ·simp at e2
  ·injection e2 with e2 _ e3
   injection e2 with e2
   injection e2 with e2
   subst e2
   rw [hb] at hb'
   injection hb' with hb'
   injection hb' with hb'
   subst hb'
   rw [← e,← e']
def KidR (D:Nat→Prop) (G:List Nat) (g3:Nat) (V3:Value) (nk ix:Nat) (us3:List Value) (Qm:Nd→Prop):List Value→World→Value→World→Prop
 | [],W,v,W'=>∃ m x y z G',v=.agg #[x,y,z]∧Qm m∧NdAt D W' (.agg #[x,y,z]) m G'∧(∀ k∈G',k∈G∨W.heap.size≤k)∧Trd (·∈G) W W'∧x.oneCell'=true∧y.oneCell'=true∧z.oneCell'=true
 | [v],W,_,W'=>W.grownBy W' (some g3)∧∃ x y z,v=.agg #[x,y,z]∧RowQ 26 3 W' V3 nk (((us3.set (ix*3) x).set (ix*3+1) y).set (ix*3+2) z)
 | _,_,_,_=>False
def fpK(G:List Nat)(g3:Nat):Nat→Nat→Prop
 | 0,k=>k∈G
 | 1,k=>k=g3
 | _,_=>False
theorem zn8 {D:Nat→Prop} {G:List Nat} {g3:Nat} {V3:Value} {nk ix:Nat} {us3:List Value} {Qm:Nd→Prop}:∀ (l:List Value) (W:World) (v:Value) (W':World),KidR D G g3 V3 nk ix us3 Qm l W v W'→Trd (fun k=>fpK G g3 l.length k) W W'
 | [],_,_,_,⟨_,_,_,_,_,_,_,_,_,h,_⟩=>h
 | [_],_,_,_,⟨h,_⟩=>Trd.ofGrown h fun _ hk=>by injection hk with hk;exact hk.symm
 | _::_::_,_,_,_,h=>h.elim
theorem zj9 {G:List Nat} {g3 g:Nat}(h1:g ∉ G)(h2:g≠g3)(N:Nat):¬ ∃ p,p<N∧fpK G g3 p g:=by
 rintro⟨p,_,h⟩
 rcases p with _|_|p
 ·exact h1 h
 ·exact h2 h
 ·exact h
def PutAt (d:Nat):Prop:=∀ (w:World) (D:Nat→Prop) (v:Value) (n:Nd) (F:List Nat) (ka:Option Addr) (kn kc:Nat) (ca:Option Addr) (cn cc:Nat) (k:List UInt8) (c:List Ver),
 NdAt D w v n F→Pn d n→RdS D w (.slice ka kn kc) k→RdL Elt.ver D w (.slice ca cn cc) c→Calls Tryz.prog 83 #[v,.slice ka kn kc,.slice ca cn cc] w (NdTo D w F (PutN d n k c))
theorem znz (d : Nat) (ih : ∀ d',d = d' + 1 → PutAt d') : PutAt d := by
 intro w D v n F ka kn kc ca cn cc k c h hp hk hc
 obtain ⟨a1,c1,a2,c2,a3,c3,us1,us2,us3,F3,rfl,p⟩ := h.opn
 obtain ⟨W,hW,q,bn,bz,hsz⟩ := zbx w 26 (.slice a1 n.keys.length c1) (.slice a2 n.chains.length c2) (.slice a3 n.kids.length c3) (.slice none 0 0) (.slice none 0 0) (.slice none 0 0)
 have s0 := NdOf.start (lo := w.heap.size + 2) h q (by omega) (by omega)
 have hkk := hp.wf.keys.2
 obtain ⟨hsh1,hsh2⟩ := hp.wf.shape
 have hpl := zfw W s0.at'.rdN hp.ris (by omega) (hk.below q)
 obtain ⟨i,hi⟩ : ∃ i,i = plcF n.keys k := ⟨_,rfl⟩
 obtain ⟨is,his⟩ : ∃ is,is = isF n.keys k := ⟨_,rfl⟩
 rw [← hi,← his] at hpl
 have tn0 := bn.cell0
 have tn1 := bn.cell1
 have tn2 := bn.cell2
 have hile : i ≤ n.keys.length := by rw [hi]; exact zfu _ _
 obtain ⟨fs,hu,_⟩ := ndS.hu
 clear p
 cases is with
 | true =>
  obtain ⟨hlt,_⟩ := zgx his.symm
  rw [← hi] at hlt
  have hlc : i < n.chains.length := by omega
  have hput := put_is (c := c) hp his.symm
  rw [← hi] at hput
  replace hi := Lib.hid hi
  replace his := Lib.hid his
  replace hsh1 := Lib.hid hsh1
  replace hsh2 := Lib.hid hsh2
  go_enter Tryz.func83,Tryz.ntmps83
  go_upto_region 1 with (fail)
  rw [← hW]
  clear hW hsz
  go_wp2_with fail
  refine hpl.mono ?_
  rintro e w1 ⟨rfl,hb1⟩
  have s1 := s0.more hb1
  have bn1 := bn.below hb1 bn.lt
  have bz1 := bz.below hb1 bz.lt
  have hc1 := (hc.below q).below hb1
  clear bn bz tn0 tn1 tn2 s0 hpl
  have tn1 := bn1.cell1
  obtain ⟨us1,us2,us3,F3,p⟩ := s1.at'.own3
  obtain ⟨g2,c2',e2,_,hg2⟩ := p.r2.some (by omega)
  cases e2
  have hl2 : i < us2.length := by rw [p.r2.len]; omega
  go_upto_region 4 with (first | (refine zkn rfl rfl rfl (by kernel_rfl) rfl rfl p.r2 rfl hl2 ?_; intro w2 hgw hr2) | fail)
  have hgl : g2 < w.heap.size := by
   have : g2 ∈ F := by rw [p.fe]; simp [zah,Value.ownBlock]
   exact s1.lt g2 this
  have bn2 := bn1.other hgw (by omega)
  have bz2 := bz1.other hgw (by omega)
  obtain ⟨F2,s2⟩ := s1.chains (cs := n.chains.set i c) (us := us2.set i (.slice ca cn cc)) (V2' := .slice (Option.some ⟨g2,0,none⟩) n.chains.length c2) ⟨by rw [List.length_set]; exact hr2,hgw,.inl rfl⟩ (p.l2.set rfl ⟨_,rfl,hc1⟩ hlc)
  clear bn1 bz1 tn1 s1 hgw hr2 p
  have tn0 := bn2.cell0
  have tn1 := bn2.cell1
  have tn2 := bn2.cell2
  go_wp2_with (first | (refine zaf rfl rfl rfl rfl rfl rfl rfl rfl bz2 ?_; intro w6 hg6 bz4) | fail)
  have s4 := s2.box hg6 (by omega) (by omega)
  exact bodyPost_ret (v := .agg #[.slice a1 n.keys.length c1,.slice (Option.some ⟨g2,0,none⟩) n.chains.length c2,.slice a3 n.kids.length c3]) (by simp [results,Tryz.results83,go_sem,loadVar,isAgg,run_underlying hu,zab ndS.hs,loadCellsFrom,Addr.add,bz4.cell0,bz4.cell1,bz4.cell2]) rfl (s4.ret hput)
 | false =>
  have hle := fun W' => ze8 W' (x := .slice a1 n.keys.length c1) (y := .slice a2 n.chains.length c2) (a := a3) (n := n.kids.length) (c := c3)
  rcases Nat.eq_zero_or_pos n.kids.length with hk0 | hk0
  ·have hdk : decide (n.kids.length = 0) = true := decide_eq_true hk0
   rw [hdk] at hle
   have hput := put_leaf (c := c) hp his.symm (List.length_eq_zero_iff.1 hk0)
   rw [← hi] at hput
   replace hi := Lib.hid hi
   replace his := Lib.hid his
   have hs1a := Nat.le_of_eq hsh1
   have hs1b := Nat.le_of_eq hsh1.symm
   replace hsh1 := Lib.hid hsh1
   replace hsh2 := Lib.hid hsh2
   replace hdk := Lib.hid hdk
   replace hk0 := Lib.hid hk0
   go_enter Tryz.func83,Tryz.ntmps83
   go_upto_region 1 with (fail)
   rw [← hW]
   clear hW hsz
   go_wp2_with fail
   refine hpl.mono ?_
   rintro e w1 ⟨rfl,hb1⟩
   have s1 := s0.more hb1
   have bn1 := bn.below hb1 bn.lt
   have bz1 := bz.below hb1 bz.lt
   clear bn bz tn0 tn1 tn2 s0 hpl
   have tn0 := bn1.cell0
   have tn1 := bn1.cell1
   have tn2 := bn1.cell2
   go_wp2_with fail
   refine (hle w1).mono ?_
   rintro e w2 ⟨rfl,hb2⟩
   have s2 := s1.more hb2
   have bn2 := bn1.below hb2 bn1.lt
   have bz2 := bz1.below hb2 bz1.lt
   clear bn1 bz1 tn0 tn1 tn2 s1 hle
   have tn0 := bn2.cell0
   go_wp2_with (first | (refine zc4 kysP rfl rfl rfl rfl rfl (by omega) (by omega) ?_; intro w3 hb3 hc3) | fail)
   have s3 := s2.more hb3
   have bn3 := bn2.below hb3 bn2.lt
   have bz3 := bz2.below hb3 bz2.lt
   obtain ⟨us1,us2,us3,F3,p⟩ := s3.at'.own3
   have hkr := (((hk.below q).below hb1).below hb2).below hb3
   have hne : ∀ g,Value.ownBlock (.slice a1 n.keys.length c1) = Option.some g → g < w.heap.size := fun g hg => by
    have : g ∈ F := by rw [p.fe]; simp [zah,hg]
    exact s3.lt g this
   have z2 : w.heap.size ≤ w2.heap.size := Nat.le_trans s2.lo1 s2.lo2
   refine (zoa w3 (i := i) p.r1 hile (by omega) (by omega) hc3 rfl (fun u hu => by rw [List.mem_singleton.1 hu]; rfl) (fun e => by have := hne _ e; omega)).mono ?_
   rintro e w4 ⟨V1',rfl,hR⟩
   obtain ⟨A1,C1,rfl,_,_⟩ := hR.row.shape
   obtain ⟨F4,s4⟩ := s3.keys (ks := n.keys.take i ++ [k] ++ n.keys.drop i) (by
    have e : (n.keys.take i ++ [k] ++ n.keys.drop i).length = n.keys.length + 1 := by
     simp only [List.length_append,List.length_take,List.length_drop,List.length_cons,List.length_nil]; omega
    rw [e]; exact hR) (((Flat.take p.l1 i).append (Flat.single (E := Elt.bytes) ⟨_,rfl,hkr⟩)).append (Flat.drop p.l1 i))
   have hRt := hR.trd
   have bn4 : TriV w4 w.heap.size 26 _ _ _ := (hRt.block _ bn3.lt (fun hg => by have := hne _ hg; omega)).trans bn3
   have bz4 : TriV w4 (w.heap.size + 1) 26 _ _ _ := (hRt.block _ bz3.lt (fun hg => by have := hne _ hg; omega)).trans bz3
   clear tn0 bn2 bz2 s2 bn3 bz3 s3 p hR hkr hc3 hRt hne
   go_upto_region 7 with (first
    | (refine zhe rfl rfl rfl (by kernel_rfl) rfl rfl bn4 ?_; intro w5 hg5 bn5)
    | fail)
   have s5 := s4.box hg5 (Nat.le_refl _) (by omega)
   have bz5 := bz4.other hg5 (by omega)
   clear bn4 bz4 s4 hg5
   have tn1 := bn5.cell1
   go_wp2_with (first | (refine zc4 chsP rfl rfl rfl rfl rfl (by omega) (by omega) ?_; intro w6 hb6 hc6) | fail)
   have s6 := s5.more hb6
   have bn6 := bn5.below hb6 bn5.lt
   have bz6 := bz5.below hb6 bz5.lt
   have hcr : RdL Elt.ver D w6 (.slice ca cn cc) c := hc.keep fun g hg => s6.trd.block g (h.data g hg) fun hm => h.free g hm hg
   obtain ⟨us1,us2,us3,F3,p⟩ := s6.at'.own3
   have hne : ∀ g,Value.ownBlock (.slice a2 n.chains.length c2) = Option.some g → g ∈ F ∨ w.heap.size + 2 ≤ g := fun g hg => s6.fr g (by rw [p.fe]; simp [zah,hg])
   have z5 : w.heap.size + 2 ≤ w5.heap.size := s5.lo2
   have hne5 : Value.ownBlock (.slice a2 n.chains.length c2) ≠ Option.some w5.heap.size := fun e => by
    have := s5.at'.lt
    obtain ⟨_,_,_,_,p5⟩ := s5.at'.own3
    have := p5.r2.lt e
    omega
   refine (zob w6 (i := i) p.r2 (by show i ≤ n.chains.length; omega) (by show n.chains.length + 1 ≤ 1000000; omega) (by omega) hc6 rfl (fun u hu => by rw [List.mem_singleton.1 hu]; rfl) hne5).mono ?_
   rintro e w7 ⟨V2',rfl,hR⟩
   obtain ⟨A2,C2,rfl,_,_⟩ := hR.row.shape
   obtain ⟨F7,s7⟩ := s6.chains (cs := n.chains.take i ++ [c] ++ n.chains.drop i) (by
    have e : (n.chains.take i ++ [c] ++ n.chains.drop i).length = n.chains.length + 1 := by
     simp only [List.length_append,List.length_take,List.length_drop,List.length_cons,List.length_nil]; omega
    rw [e]; exact hR) (((Flat.take p.l2 i).append (Flat.single (E := Elt.list Elt.ver) ⟨_,rfl,hcr⟩)).append (Flat.drop p.l2 i))
   have hRt := hR.trd
   have bn7 : TriV w7 w.heap.size 26 _ _ _ := (hRt.block _ bn6.lt (fun hg => by rcases hne _ hg with h1 | h1; have := s6.lt _ h1; omega; omega)).trans bn6
   have bz7 : TriV w7 (w.heap.size + 1) 26 _ _ _ := (hRt.block _ bz6.lt (fun hg => by rcases hne _ hg with h1 | h1; have := s6.lt _ h1; omega; omega)).trans bz6
   clear tn1 bn5 bz5 s5 bn6 bz6 s6 p hR hcr hc6 hRt hne hne5 z5 hb6 hb3 hb2 hb1
   go_upto_region 8 with (first
    | (refine zhd rfl rfl rfl (by kernel_rfl) rfl rfl bn7 ?_; intro w8 hg8 bn8)
    | fail)
   have s8 := s7.box hg8 (Nat.le_refl _) (by omega)
   have bz8 := bz7.other hg8 (by omega)
   have tn0 := bn8.cell0
   have tn1 := bn8.cell1
   have tn2 := bn8.cell2
   clear bn7 bz7 s7 hg8
   go_wp2_with (first | (refine zaf rfl rfl rfl rfl rfl rfl rfl rfl bz8 ?_; intro w9 hg9 bz9) | fail)
   have s9 := s8.box hg9 (by omega) (by omega)
   exact bodyPost_ret (v := .agg #[_,_,_]) (by simp [results,Tryz.results83,go_sem,loadVar,isAgg,run_underlying hu,zab ndS.hs,loadCellsFrom,Addr.add,bz9.cell0,bz9.cell1,bz9.cell2]) rfl (s9.ret hput)
  ·obtain ⟨d',rfl,hd',hkl,_,_,hws⟩ := hp.kid hk0
   have ilt : i < n.kids.length := by omega
   have hdk : decide (n.kids.length = 0) = false := decide_eq_false (by omega)
   rw [hdk] at hle
   have hpin : ∀ m,PutN d' (kidN n i) k c m → PutN (d' + 1) n k c (zay (zbl n i m) i) := by
    intro m hm
    subst hi
    exact put_in hp his.symm ilt (by rw [← za3 ilt]; exact hm)
   have hswk := fun m (hm : Wf d' 0 4 m) => zqe hsh1 hkl hws ilt hm
   obtain ⟨d2,e',e5,e6,hpk,e7,e8⟩ := hp.kid ilt
   obtain rfl : d' = d2 := by omega
   clear e5 e6 e7 e8
   rw [← za3 ilt] at hpk
   have hn1 : 1 ≤ n.keys.length := by rcases hp.ne with h1 | h1; omega; exact h1
   replace hi := Lib.hid hi
   replace his := Lib.hid his
   have hs1a := Nat.le_of_eq hsh1
   have hs1b := Nat.le_of_eq hsh1.symm
   have hkla := Nat.le_of_eq hkl
   have hklb := Nat.le_of_eq hkl.symm
   replace hsh1 := Lib.hid hsh1
   replace hsh2 := Lib.hid hsh2
   replace hkl := Lib.hid hkl
   replace hdk := Lib.hid hdk
   clear e'
   go_enter Tryz.func83,Tryz.ntmps83
   go_upto_region 1 with (fail)
   rw [← hW]
   clear hW hsz
   go_wp2_with fail
   refine hpl.mono ?_
   rintro e w1 ⟨rfl,hb1⟩
   have s1 := s0.more hb1
   have bn1 := bn.below hb1 bn.lt
   have bz1 := bz.below hb1 bz.lt
   clear bn bz tn0 tn1 tn2 s0 hpl
   have tn0 := bn1.cell0
   have tn1 := bn1.cell1
   have tn2 := bn1.cell2
   go_wp2_with fail
   refine (hle w1).mono ?_
   rintro e W1 ⟨rfl,hb2⟩
   have s2 := s1.more hb2
   have bn2 := bn1.below hb2 bn1.lt
   have bz2 := bz1.below hb2 bz1.lt
   have hkW := ((hk.below q).below hb1).below hb2
   have hcW := ((hc.below q).below hb1).below hb2
   clear bn1 bz1 tn0 tn1 tn2 s1 hle
   obtain ⟨us1,us2,us3,F3,p⟩ := s2.at'.own3
   obtain ⟨g3,c3',e3,_,hg3⟩ := p.r3.some (by omega)
   cases e3
   obtain ⟨xa,xc,ya,yc,za,zc,G,k0,k1,k2,hat,hG,hset⟩ := s2.kidAt ilt
   have hl3 : i * 3 + 2 < us3.length := by rw [p.r3.len]; omega
   have hlF : ∀ g ∈ G,g < W1.heap.size := hat.lt
   have g3l : g3 < W1.heap.size := p.r3.lt rfl
   have hnG : ∀ g,w.heap.size ≤ g → g < w.heap.size + 2 → g ∉ G ∧ g ≠ g3 := fun g h1 h2 => ⟨fun hm => by
    rcases s2.fr g (hG g hm).1 with h3 | h3
    ·have := s2.lt g h3; omega
    ·omega,fun e => by
    rcases s2.fr g3 (by rw [p.fe]; simp [zah,Value.ownBlock]) with h3 | h3
    ·have := s2.lt g3 h3; omega
    ·omega⟩
   have hTr : ∀ (l : List Value) (W' : World),Chn W1 (KidR D G g3 (.slice (Option.some ⟨g3,0,none⟩) n.kids.length c3) n.kids.length i us3 (PutN d' (kidN n i) k c)) l W' → Trd (fun k => ∃ p,p < l.length ∧ fpK G g3 p k) W1 W' := fun l W' h => Chn.trd zn8 h
   have hRN : ∀ (l : List Value) (W' : World),Chn W1 (KidR D G g3 (.slice (Option.some ⟨g3,0,none⟩) n.kids.length c3) n.kids.length i us3 (PutN d' (kidN n i) k c)) l.reverse W' → TriV W' w.heap.size 26 (.slice a1 n.keys.length c1) (.slice a2 n.chains.length c2) (.slice (Option.some ⟨g3,0,none⟩) n.kids.length c3) := fun l W' h => ((hTr _ _ h).block _ bn2.lt (zj9 (hnG _ (by omega) (by omega)).1 (hnG _ (by omega) (by omega)).2 _)).trans bn2
   have eP : ∀ args w,(callFunc 83 args).run Tryz.prog w = .ok (.enter 83 args) w := enters_of Tryz.func83 (by kernel_rfl) rfl
   have ih1 := ih _ rfl
   go_upto_region 9 with (fail)
   refine zao (K := K0 W1) (by kernel_rfl) (by kernel_rfl) [10,12] (by kernel_rfl) [lEq (.pointer (some ⟨w.heap.size,0 + 2,none⟩)),lEq (.slice (some ⟨g3,0,none⟩) n.kids.length c3),lEq (.int .i64 (i : Int)),lEq (.pointer (some ⟨w.heap.size,0 + 2,none⟩)),lEq (.slice (some ⟨g3,0,none⟩) n.kids.length c3),lEq (.int .i64 (i : Int)),lEq (.pointer (some ⟨g3,0 + i * 3,none⟩)),lEq (.agg #[.slice xa (kidN n i).keys.length xc,.slice ya (kidN n i).chains.length yc,.slice za (kidN n i).kids.length zc]),lEq (.slice ka kn kc),lEq (.slice ca cn cc),lAny,lEq (.pointer (some ⟨g3,0 + i * 3,none⟩)),lAny] (fun l W => Chn W1 (KidR D G g3 (.slice (Option.some ⟨g3,0,none⟩) n.kids.length c3) n.kids.length i us3 (PutN d' (kidN n i) k c)) l.reverse W) (fun l A B h hb => Chn.more _ _ _ h hb) (show Below W1.heap.size W1 W1 from Below.refl _ _)
    ⟨?o0,?o1,?o2,?o3,?o4,?o5,?o6,?o7,?o8,?o9,?o10,?o11,?o12,trivial⟩ ?fin
   case o0 =>
    refine LnOp.side rfl (by kernel_rfl) (fun A va w' k' hF hT hk hJ hb hu hp hd => ?_)
    have e1 : A.eval (.tmp 3) = .pointer (some ⟨w.heap.size,0,none⟩) := hF 3 rfl
    exact zai ndS rfl (e1) (by omega) ⟨_,rfl,rfl,Below.refl _ _⟩
   case o1 =>
    refine LnOp.side rfl (by kernel_rfl) (fun A va w' k' hF hT hk hJ hb hu hp hd => ?_)
    have e1 : A.eval (.tmp 41) = .pointer (some ⟨w.heap.size,0 + 2,none⟩) := (hT 41 0 (by simp) rfl).trans (hd ⟨0,.data⟩ (by simp) rfl rfl)
    exact zad (e := 26) rfl (e1) (by kernel_rfl) ((hRN _ _ hJ).cell2) ⟨_,rfl,rfl,Below.refl _ _⟩
   case o2 =>
    refine LnOp.side rfl (by kernel_rfl) (fun A va w' k' hF hT hk hJ hb hu hp hd => ?_)
    have e1 : A.eval (.tmp 7) = .int .i64 (i : Int) := hF 7 rfl
    exact BigFrame.wp_move _ rfl ⟨_,rfl,e1,Below.refl _ _⟩
   case o3 =>
    refine LnOp.side rfl (by kernel_rfl) (fun A va w' k' hF hT hk hJ hb hu hp hd => ?_)
    have e1 : A.eval (.tmp 3) = .pointer (some ⟨w.heap.size,0,none⟩) := hF 3 rfl
    exact zai ndS rfl (e1) (by omega) ⟨_,rfl,rfl,Below.refl _ _⟩
   case o4 =>
    refine LnOp.side rfl (by kernel_rfl) (fun A va w' k' hF hT hk hJ hb hu hp hd => ?_)
    have e1 : A.eval (.tmp 44) = .pointer (some ⟨w.heap.size,0 + 2,none⟩) := (hT 44 3 (by simp) rfl).trans (hd ⟨3,.data⟩ (by simp) rfl rfl)
    exact zad (e := 26) rfl (e1) (by kernel_rfl) ((hRN _ _ hJ).cell2) ⟨_,rfl,rfl,Below.refl _ _⟩
   case o5 =>
    refine LnOp.side rfl (by kernel_rfl) (fun A va w' k' hF hT hk hJ hb hu hp hd => ?_)
    have e1 : A.eval (.tmp 7) = .int .i64 (i : Int) := hF 7 rfl
    exact BigFrame.wp_move _ rfl ⟨_,rfl,e1,Below.refl _ _⟩
   case o6 =>
    refine LnOp.side rfl (by kernel_rfl) (fun A va w' k' hF hT hk hJ hb hu hp hd => ?_)
    have e1 : A.eval (.tmp 45) = .slice (some ⟨g3,0,none⟩) n.kids.length c3 := (hT 45 4 (by simp) rfl).trans (hd ⟨4,.data⟩ (by simp) rfl rfl)
    have e2 : A.eval (.tmp 46) = .int .i64 (i : Int) := (hT 46 5 (by simp) rfl).trans (hd ⟨5,.data⟩ (by simp) rfl rfl)
    exact zc1 (e := 26) rfl (by kernel_rfl) (by kernel_rfl) (e1) (e2) rfl (by omega) ⟨_,rfl,rfl,Below.refl _ _⟩
   case o7 =>
    refine LnOp.side rfl (by kernel_rfl) (fun A va w' k' hF hT hk hJ hb hu hp hd => ?_)
    have e1 : A.eval (.tmp 47) = .pointer (some ⟨g3,0 + i * 3,none⟩) := (hT 47 6 (by simp) rfl).trans (hd ⟨6,.data⟩ (by simp) rfl rfl)
    obtain rfl : k' = 0 := Nat.le_zero.1 (hb 0 10 rfl (by kernel_rfl))
    have hB : Below W1.heap.size W1 w' := hJ
    rw [Nat.zero_add] at e1
    exact zc0 ndS rfl e1 ((zac (hB.block g3 g3l) _).trans k0) ((zac (hB.block g3 g3l) _).trans k1) ((zac (hB.block g3 g3l) _).trans k2) ⟨_,rfl,rfl,Below.refl _ _⟩
   case o8 =>
    refine LnOp.side rfl (by kernel_rfl) (fun A va w' k' hF hT hk hJ hb hu hp hd => ?_)
    have e1 : A.eval (.tmp 1) = .slice ka kn kc := hF 1 rfl
    exact BigFrame.wp_move _ rfl ⟨_,rfl,e1,Below.refl _ _⟩
   case o9 =>
    refine LnOp.side rfl (by kernel_rfl) (fun A va w' k' hF hT hk hJ hb hu hp hd => ?_)
    have e1 : A.eval (.tmp 2) = .slice ca cn cc := hF 2 rfl
    exact BigFrame.wp_move _ rfl ⟨_,rfl,e1,Below.refl _ _⟩
   case o10 =>
    refine LnOp.line 0 rfl rfl (fun A va w' hF hT hJ hu hd => ?_)
    have e1 : A.eval (.tmp 48) = .agg #[.slice xa (kidN n i).keys.length xc,.slice ya (kidN n i).chains.length yc,.slice za (kidN n i).kids.length zc] := (hT 48 7 (by simp) rfl).trans (hd ⟨7,.data⟩ (by simp) rfl rfl)
    have e2 : A.eval (.tmp 49) = .slice ka kn kc := (hT 49 8 (by simp) rfl).trans (hd ⟨8,.data⟩ (by simp) rfl rfl)
    have e3 : A.eval (.tmp 50) = .slice ca cn cc := (hT 50 9 (by simp) rfl).trans (hd ⟨9,.data⟩ (by simp) rfl rfl)
    have hB : Below W1.heap.size W1 w' := hJ
    refine zak rfl eP (args := #[.agg #[.slice xa (kidN n i).keys.length xc,.slice ya (kidN n i).chains.length yc,.slice za (kidN n i).kids.length zc],.slice ka kn kc,.slice ca cn cc]) (by simp only [List.map_toArray,List.map_cons,List.map_nil,e1,e2,e3]) ((ih1 w' D _ _ G ka kn kc ca cn cc k c (hat.below hB) hpk (hkW.below hB) (hcW.below hB)).mono ?_)
    rintro e W4 ⟨v',m,G',rfl,hm,hatm,hsub,htr⟩
    obtain ⟨xa',xc',ya',yc',za',zc',_,_,_,_,rfl,_⟩ := hatm.opn
    exact ⟨_,rfl,_,rfl,⟨w',W4,hJ,⟨m,_,_,_,G',rfl,hm,hatm,hsub,htr,rfl,rfl,rfl⟩,Below.refl _ _⟩,htr.mono fun g _ hg => hlF g hg⟩
   case o11 =>
    refine LnOp.side rfl (by kernel_rfl) (fun A va w' k' hF hT hk hJ hb hu hp hd => ?_)
    have e1 : A.eval (.tmp 42) = .slice (some ⟨g3,0,none⟩) n.kids.length c3 := (hT 42 1 (by simp) rfl).trans (hd ⟨1,.data⟩ (by simp) rfl rfl)
    have e2 : A.eval (.tmp 43) = .int .i64 (i : Int) := (hT 43 2 (by simp) rfl).trans (hd ⟨2,.data⟩ (by simp) rfl rfl)
    exact zc1 (e := 26) rfl (by kernel_rfl) (by kernel_rfl) (e1) (e2) rfl (by omega) ⟨_,rfl,rfl,Below.refl _ _⟩
   case o12 =>
    refine LnOp.line 1 rfl rfl (fun A va w' hF hT hJ hu hd => ?_)
    have e1 : A.eval (.tmp 52) = .pointer (some ⟨g3,0 + i * 3,none⟩) := (hT 52 11 (by simp) rfl).trans (hd ⟨11,.data⟩ (by simp) rfl rfl)
    have x2 : A.eval (.tmp 51) = va 10 := hT 51 10 (by simp) rfl
    have hJ' : Chn W1 (KidR D G g3 (.slice (Option.some ⟨g3,0,none⟩) n.kids.length c3) n.kids.length i us3 (PutN d' (kidN n i) k c)) [va 10] w' := hJ
    have hr3 := p.r3.trd (hTr _ _ hJ') (fun g hg => by injection hg with hg; rintro ⟨p,hp,hf⟩; rcases p with _ | p; exact (hG g hf).2.2.2 hg.symm; simp only [List.length_cons,List.length_nil] at hp; omega)
    obtain ⟨Wa,Wb,_,⟨m,x,y,z,G',ev,_,_,_,_,ho1,ho2,ho3⟩,_⟩ := hJ'
    rw [Nat.zero_add] at e1
    refine znm rfl e1 (x2.trans ev) ho1 ho2 ho3 hr3 rfl hl3 (fun w2 hg hr => ?_)
    exact ⟨_,rfl,⟨w',w2,hJ,⟨hg,x,y,z,ev,hr⟩,Below.refl _ _⟩,Trd.ofGrown hg fun g hk => by injection hk with hk; omega⟩
   case fin =>
    intro vs1 W9 hJ hGG
    clear hGG
    have hJc : Chn W1 (KidR D G g3 (.slice (Option.some ⟨g3,0,none⟩) n.kids.length c3) n.kids.length i us3 (PutN d' (kidN n i) k c)) [vs1 12,vs1 10] W9 := hJ
    have hT9 := hTr _ _ hJc
    obtain ⟨Wb1,Wb2,hJ1,⟨hgr,x',y',z',ev,hrow⟩,hb9⟩ := hJc
    obtain ⟨Wa1,Wa2,hJ0,⟨m,x,y,z,G',ev2,hm,hatm,hG',htG,ho1,ho2,ho3⟩,hba⟩ := hJ1
    rw [ev] at ev2
    injection ev2 with ev2
    injection ev2 with ev2
    injection ev2 with ex ev2
    injection ev2 with ey ev2
    injection ev2 with ez _
    subst ex ey ez
    have hJ0' : Below W1.heap.size W1 Wa1 := hJ0
    have tG : Trd (· ∈ G) W1 Wb1 := (Trd.of (F := (· ∈ G)) hJ0').trans (htG.trans (Trd.of (F := (· ∈ G)) hba) fun _ _ h => h) fun _ _ h => h
    obtain ⟨F9,s9⟩ := hset m x' y' z' G' Wb1 Wb2 (hatm.below hba) (fun g hg => (hG' g hg).imp id fun h1 => Nat.le_trans hJ0'.size h1) tG hgr (fun us hus => by
     rw [hus.uniq (p.r3.trd tG fun g hg hm => (hG g hm).2.2.2 (by injection hg with hg; exact hg.symm))]; exact hrow)
    replace s9 := s9.more hb9
    have bn9 := hRN _ _ hJ
    have bz9 : TriV W9 (w.heap.size + 1) 26 _ _ _ := (hT9.block _ bz2.lt (zj9 (hnG _ (by omega) (by omega)).1 (hnG _ (by omega) (by omega)).2 _)).trans bz2
    have hst := zhp W9 s9.at' (hswk m (hm.1.mono (Nat.zero_le _) hm.1.keys.2)) hn1 hkk
    have hpin' := hpin m hm
    have tn0 := bn9.cell0
    have tn1 := bn9.cell1
    have tn2 := bn9.cell2
    clear hJ hTr hRN hset hG' htG tG hatm hb9 hgr hrow hJ0 hba hT9 s2 bn2 bz2 p hat k0 k1 k2
    simp only [zae]
    go_simp
    go_wp2_with fail
    refine hst.mono ?_
    rintro e w4 hto
    obtain ⟨v2,n2,F2,rfl,hq,sA,t2⟩ := s9.step hto
    obtain ⟨a1',c1',a2',c2',a3',c3',_,_,_,_,rfl,p2⟩ := sA.at'.opn
    have bzA := s9.tri t2 (b := w.heap.size + 1) (by omega) (by omega) bz9
    clear bn9 bz9 hto t2 tn0 tn1 tn2 s9 p2 hst
    replace hq := Lib.hid hq
    go_wp2_with (first | (refine zaf rfl rfl rfl rfl rfl rfl rfl rfl bzA ?_; intro w5 hg5 bz5) | fail)
    have s5 := sA.box hg5 (by omega) (by omega)
    exact bodyPost_ret (v := .agg #[.slice a1' n2.keys.length c1',.slice a2' n2.chains.length c2',.slice a3' n2.kids.length c3']) (by simp [results,Tryz.results83,go_sem,loadVar,isAgg,run_underlying hu,zab ndS.hs,loadCellsFrom,Addr.add,bz5.cell0,bz5.cell1,bz5.cell2]) rfl (s5.ret (by rw [hq.out]; exact hpin'))
theorem zqp:∀ d,PutAt d
 | 0=>znz 0 fun _ h=>by cases h
 | d+1=>znz (d+1) fun d' h=>by cases h;exact zqp d
def SeekR (S:Nat→Prop) (w:World) (n:Nd) (k:List UInt8) (g:Nat) (W:World):Prop :=
 ∃ n1 d1 x y z,d1≤g∧RdN S w (.agg #[x,y,z]) n1∧TriV W w.heap.size 26 x y z∧Pn d1 n1∧zaw (zaa n1) k=zaw (zaa n) k∧Below w.heap.size w W
theorem zog (w:World) {S S2:Nat→Prop} {v:Value} {n:Nd} {d:Nat} {a:Option Addr} {m c:Nat} {k:List UInt8} (hr:RdN S w v n) (hp:Pn d n) (hk:RdS S2 w (.slice a m c) k) :
  Calls Tryz.prog 54 #[v,.slice a m c] w fun e w'=>(∃ a2 c2,e=.returned (.tuple #[.slice a2 ((zaw (zaa n) k).getD []).length c2,.bool (zaw (zaa n) k).isSome])∧RdL Elt.ver S w (.slice a2 ((zaw (zaa n) k).getD []).length c2) ((zaw (zaa n) k).getD []))∧Below w.heap.size w w':=by
 have hr0:=hr
 obtain⟨a1,c1,a2,c2,a3,c3,rfl,_,_,_⟩:=hr
 have q:Below w.heap.size w (w.alloc (.cells #[.slice a1 n.keys.length c1,.slice a2 n.chains.length c2,.slice a3 n.kids.length c3] 26)):=(Below.refl _ _).alloc (Nat.le_refl _) _
 have bn:=TriV.new w 26 (.slice a1 n.keys.length c1) (.slice a2 n.chains.length c2) (.slice a3 n.kids.length c3)
 obtain⟨W,hW⟩:∃ W,W=w.alloc (.cells #[.slice a1 n.keys.length c1,.slice a2 n.chains.length c2,.slice a3 n.kids.length c3] 26):=⟨_,rfl⟩
 rw [← hW] at q bn
 have r0:SeekR S w n k d W:=⟨n,d,_,_,_,Nat.le_refl _,hr0,bn,hp,rfl,q⟩
 clear bn q hr0
 obtain⟨out,hout⟩:∃ out,out=zaw (zaa n) k:=⟨_,rfl⟩
 rw [← hout]
 replace hout:=Lib.hid hout
 go_enter Tryz.func54,Tryz.ntmps54
 go_wp2_with fail
 rw [← hW]
 clear hW
 go_loopg [] d (fun g wr=>SeekR S w n k g wr)
 case atStart=>exact r0
 case round =>
  clear r0
  obtain⟨n1,d1,x,y,z,hdk',hrd,bn1,hp1,hfe,hB⟩:=hrel
  obtain⟨b1,e1,b2,e2,b3,e3,eqv,rk,rc,rn⟩:=hrd
  injection eqv with eqv
  injection eqv with eqv
  injection eqv with ex eqv
  injection eqv with ey eqv
  injection eqv with ez _
  subst ex ey ez
  have hrd:RdN S w (.agg #[.slice b1 n1.keys.length e1,.slice b2 n1.chains.length e2,.slice b3 n1.kids.length e3]) n1:=⟨b1,e1,b2,e2,b3,e3,rfl,rk,rc,rn⟩
  have hkk:=hp1.wf.keys.2
  obtain⟨hsh1,hsh2⟩:=hp1.wf.shape
  have hpl:=zfw wr (hrd.below hB) hp1.ris (by omega) (hk.below hB)
  have hle:=fun W'=>ze8 W' (x:=.slice b1 n1.keys.length e1) (y:=.slice b2 n1.chains.length e2) (a:=b3) (n:=n1.kids.length) (c:=e3)
  obtain⟨i,hi⟩:∃ i,i=plcF n1.keys k:=⟨_,rfl⟩
  obtain⟨is,his⟩:∃ is,is=isF n1.keys k:=⟨_,rfl⟩
  rw [← hi,← his] at hpl
  have hile:i≤n1.keys.length:=by rw [hi];exact zfu _ _
  have tn0:=bn1.cell0
  have tn1:=bn1.cell1
  have tn2:=bn1.cell2
  cases is with
  | true =>
   have hfi:=find_is hp1 his.symm
   obtain⟨hlt,_⟩:=zgx his.symm
   rw [← hi] at hlt hfi
   have hlc:i<n1.chains.length:=by omega
   rw [List.getElem?_eq_getElem hlc] at hfi
   have ho:out=some n1.chains[i]:=by rw [hout.out,← hfe,hfi]
   obtain⟨gb,off,A,C,rfl,hcell,hrl⟩:=rc.lst i hlc
   have hcell1:=(zac (hB.block gb (zaj hcell)) _).trans hcell
   have ho1:=Lib.hid ho
   clear ho
   replace hi:=Lib.hid hi
   replace his:=Lib.hid his
   replace hsh1:=Lib.hid hsh1
   replace hsh2:=Lib.hid hsh2
   replace hfe:=Lib.hid hfe
   replace hfi:=Lib.hid hfi
   go_wp2_with fail
   refine hpl.mono ?_
   rintro e w1⟨rfl,hb1⟩
   have bn2:=bn1.below hb1 bn1.lt
   replace hcell1:=(zac (hb1.block gb (zaj hcell1)) _).trans hcell1
   clear tn0 tn1 tn2 hpl hle bn1 hcell
   have tn1:=bn2.cell1
   go_wp2_with fail
   go_ret2
   rw [ho1.out]
   exact⟨⟨A,C,rfl,hrl⟩,hB.trans (hb1.mono hB.size)⟩
  | false =>
   rcases Nat.eq_zero_or_pos n1.kids.length with hk0 | hk0
   ·have hdk:decide (n1.kids.length=0)=true:=decide_eq_true hk0
    rw [hdk] at hle
    have ho:out=none:=by rw [hout.out,← hfe,zlz hp1 his.symm (List.length_eq_zero_iff.1 hk0)]
    have ho1:=Lib.hid ho
    clear ho
    replace hi:=Lib.hid hi
    replace his:=Lib.hid his
    replace hsh1:=Lib.hid hsh1
    replace hsh2:=Lib.hid hsh2
    replace hfe:=Lib.hid hfe
    replace hdk:=Lib.hid hdk
    replace hk0:=Lib.hid hk0
    go_wp2_with fail
    refine hpl.mono ?_
    rintro e w1⟨rfl,hb1⟩
    have bn2:=bn1.below hb1 bn1.lt
    clear tn0 tn1 tn2 hpl bn1
    have tn0:=bn2.cell0
    have tn1:=bn2.cell1
    have tn2:=bn2.cell2
    go_wp2_with fail
    refine (hle w1).mono ?_
    rintro e w2⟨rfl,hb2⟩
    have hb12:=hb1.trans (hb2.mono hb1.size)
    clear hle
    go_wp2_with fail
    go_ret2
    rw [ho1.out]
    exact⟨⟨none,0,rfl,RdL.nil _ _ _⟩,hB.trans (hb12.mono hB.size)⟩
   ·have hdk:decide (n1.kids.length=0)=false:=decide_eq_false (by omega)
    rw [hdk] at hle
    obtain⟨d',rfl,hd',hkl,e4,e5,e6⟩:=hp1.kid hk0
    clear e4 e5 e6
    have ilt:i<n1.kids.length:=by omega
    obtain⟨d2,e',e5,e6,hpk,e7,e8⟩:=hp1.kid ilt
    obtain rfl:d'=d2:=by omega
    clear e5 e6 e7 e8 e'
    have hfi:zaw (zaa n1.kids[i]) k=zaw (zaa n) k:=by
     subst hi
     rw [← zrn hp1 his.symm ilt];exact hfe
    obtain⟨gb,off,xa,xc,ya,yc,za,zc,rfl,k0,k1,k2,hrk⟩:=rn.kid i ilt
    replace k0:=(zac (hB.block gb (zaj k0)) _).trans k0
    replace k1:=(zac (hB.block gb (zaj k1)) _).trans k1
    replace k2:=(zac (hB.block gb (zaj k2)) _).trans k2
    replace hi:=Lib.hid hi
    replace his:=Lib.hid his
    replace hsh1:=Lib.hid hsh1
    replace hsh2:=Lib.hid hsh2
    replace hkl:=Lib.hid hkl
    replace hfe:=Lib.hid hfe
    replace hfi:=Lib.hid hfi
    replace hdk:=Lib.hid hdk
    go_wp2_with fail
    refine hpl.mono ?_
    rintro e w1⟨rfl,hb1⟩
    have bn2:=bn1.below hb1 bn1.lt
    clear tn0 tn1 tn2 hpl bn1
    have tn0:=bn2.cell0
    have tn1:=bn2.cell1
    have tn2:=bn2.cell2
    go_wp2_with fail
    refine (hle w1).mono ?_
    rintro e w2⟨rfl,hb2⟩
    have hb12:=hb1.trans (hb2.mono hb1.size)
    have bn3:=bn2.below hb2 bn2.lt
    replace k0:=(zac (hb12.block gb (zaj k0)) _).trans k0
    replace k1:=(zac (hb12.block gb (zaj k1)) _).trans k1
    replace k2:=(zac (hb12.block gb (zaj k2)) _).trans k2
    clear tn0 tn1 tn2 hle bn2
    have tn2:=bn3.cell2
    have hB2:=hB.trans (hb12.mono hB.size)
    go_wp2_with (first | (refine zaf rfl rfl rfl rfl rfl rfl rfl rfl bn3 ?_;intro w3 hg3 bn4) | fail)
    go_roundg (gk - 1)
    case measure=>omega
    case rel=>exact⟨_,d',_,_,_,by omega,hrk,bn4,hpk,hfi.out,hB2.grown hg3 hB2.size (fun k hk=>by injection hk with hk;omega)⟩
def zie (d:Nat):Prop:=∀ (w:World) (D:Nat→Prop) (v:Value) (n:Nd) (F:List Nat) (ka:Option Addr) (kn kc:Nat) (k:List UInt8) (S2:Nat→Prop),
 NdAt D w v n F→Pn d n→zaw (zaa n) k≠none→RdS S2 w (.slice ka kn kc) k→Calls Tryz.prog 85 #[v,.slice ka kn kc] w (NdTo D w F (DelN d n k))
def zig (d:Nat):Prop:=∀ (w:World) (D:Nat→Prop) (v:Value) (n:Nd) (F:List Nat) (i:Nat) (ka:Option Addr) (kn kc:Nat) (k:List UInt8) (S2:Nat→Prop),
 NdAt D w v n F→n.chains.length=n.keys.length→n.kids.length=n.keys.length+1→1≤n.keys.length→n.keys.length≤3→(∀ m∈n.kids,Wf d 1 3 m)→i<n.kids.length→Pn d (kidN n i)→zaw (zaa (kidN n i)) k≠none→RdS S2 w (.slice ka kn kc) k →
 Calls Tryz.prog 100 #[v,.int .i64 i,.slice ka kn kc] w (NdTo D w F (fun n'=>∃ m,DelN d (kidN n i) k m∧n'=zay (zbl n i m) i))
theorem zlc (d : Nat) (ih : zie d) : zig d := by
 intro w D v n F i ka kn kc k S2 h hsh1 hkl hn1 hkk hws ilt hpk hfk hk
 have hswk := fun m (hm : Wf d 0 4 m) => zqe hsh1 hkl hws ilt hm
 obtain ⟨fs,hu,_⟩ := ndS.hu
 have hs1a := Nat.le_of_eq hsh1
 have hs1b := Nat.le_of_eq hsh1.symm
 have hkla := Nat.le_of_eq hkl
 have hklb := Nat.le_of_eq hkl.symm
 clear hsh1 hkl
 obtain ⟨a1,c1,a2,c2,g3,c3,us1,us2,us3,F3,rfl,p⟩ := h.opk (by omega)
 obtain ⟨W1,hW,q,bn2,bz2,hsz⟩ := zbx w 26 (.slice a1 n.keys.length c1) (.slice a2 n.chains.length c2) (.slice (Option.some ⟨g3,0,none⟩) n.kids.length c3) (.slice none 0 0) (.slice none 0 0) (.slice none 0 0)
 have s2 := NdOf.start (lo := w.heap.size + 2) h q (by omega) (by omega)
 have hkW := hk.below q
 clear p
 obtain ⟨us1,us2,us3,F3,p⟩ := s2.at'.own3
 obtain ⟨xa,xc,ya,yc,za,zc,G,k0,k1,k2,hat,hG,hset⟩ := s2.kidAt ilt
 have hl3 : i * 3 + 2 < us3.length := by rw [p.r3.len]; omega
 have hlF : ∀ g ∈ G,g < W1.heap.size := hat.lt
 have g3l : g3 < W1.heap.size := p.r3.lt rfl
 have hnG : ∀ g,w.heap.size ≤ g → g < w.heap.size + 2 → g ∉ G ∧ g ≠ g3 := fun g h1 h2 => ⟨fun hm => by
  rcases s2.fr g (hG g hm).1 with h3 | h3
  ·have := s2.lt g h3; omega
  ·omega,fun e => by
  rcases s2.fr g3 (by rw [p.fe]; simp [zah,Value.ownBlock]) with h3 | h3
  ·have := s2.lt g3 h3; omega
  ·omega⟩
 have hTr : ∀ (l : List Value) (W' : World),Chn W1 (KidR D G g3 (.slice (Option.some ⟨g3,0,none⟩) n.kids.length c3) n.kids.length i us3 (DelN d (kidN n i) k)) l W' → Trd (fun k => ∃ p,p < l.length ∧ fpK G g3 p k) W1 W' := fun l W' h => Chn.trd zn8 h
 have hRN : ∀ (l : List Value) (W' : World),Chn W1 (KidR D G g3 (.slice (Option.some ⟨g3,0,none⟩) n.kids.length c3) n.kids.length i us3 (DelN d (kidN n i) k)) l.reverse W' → TriV W' w.heap.size 26 (.slice a1 n.keys.length c1) (.slice a2 n.chains.length c2) (.slice (Option.some ⟨g3,0,none⟩) n.kids.length c3) := fun l W' h => ((hTr _ _ h).block _ bn2.lt (zj9 (hnG _ (by omega) (by omega)).1 (hnG _ (by omega) (by omega)).2 _)).trans bn2
 have eP : ∀ args w,(callFunc 85 args).run Tryz.prog w = .ok (.enter 85 args) w := enters_of Tryz.func85 (by kernel_rfl) rfl
 go_enter Tryz.func100,Tryz.ntmps100
 go_upto_region 1 with (fail)
 rw [← hW]
 clear hW hsz
 refine zao (K := K0 W1) (by kernel_rfl) (by kernel_rfl) [9,11] (by kernel_rfl) [lEq (.pointer (some ⟨w.heap.size,0 + 2,none⟩)),lEq (.slice (some ⟨g3,0,none⟩) n.kids.length c3),lEq (.int .i64 (i : Int)),lEq (.pointer (some ⟨w.heap.size,0 + 2,none⟩)),lEq (.slice (some ⟨g3,0,none⟩) n.kids.length c3),lEq (.int .i64 (i : Int)),lEq (.pointer (some ⟨g3,0 + i * 3,none⟩)),lEq (.agg #[.slice xa (kidN n i).keys.length xc,.slice ya (kidN n i).chains.length yc,.slice za (kidN n i).kids.length zc]),lEq (.slice ka kn kc),lAny,lEq (.pointer (some ⟨g3,0 + i * 3,none⟩)),lAny] (fun l W => Chn W1 (KidR D G g3 (.slice (Option.some ⟨g3,0,none⟩) n.kids.length c3) n.kids.length i us3 (DelN d (kidN n i) k)) l.reverse W) (fun l A B h hb => Chn.more _ _ _ h hb) (show Below W1.heap.size W1 W1 from Below.refl _ _)
  ⟨?o0,?o1,?o2,?o3,?o4,?o5,?o6,?o7,?o8,?o9,?o10,?o11,trivial⟩ ?fin
 case o0 =>
  refine LnOp.side rfl (by kernel_rfl) (fun A va w' k' hF hT hk hJ hb hu hp hd => ?_)
  have e1 : A.eval (.tmp 3) = .pointer (some ⟨w.heap.size,0,none⟩) := hF 3 rfl
  exact zai ndS rfl (e1) (by omega) ⟨_,rfl,rfl,Below.refl _ _⟩
 case o1 =>
  refine LnOp.side rfl (by kernel_rfl) (fun A va w' k' hF hT hk hJ hb hu hp hd => ?_)
  have e1 : A.eval (.tmp 7) = .pointer (some ⟨w.heap.size,0 + 2,none⟩) := (hT 7 0 (by simp) rfl).trans (hd ⟨0,.data⟩ (by simp) rfl rfl)
  exact zad (e := 26) rfl (e1) (by kernel_rfl) ((hRN _ _ hJ).cell2) ⟨_,rfl,rfl,Below.refl _ _⟩
 case o2 =>
  refine LnOp.side rfl (by kernel_rfl) (fun A va w' k' hF hT hk hJ hb hu hp hd => ?_)
  have e1 : A.eval (.tmp 1) = .int .i64 (i : Int) := hF 1 rfl
  exact BigFrame.wp_move _ rfl ⟨_,rfl,e1,Below.refl _ _⟩
 case o3 =>
  refine LnOp.side rfl (by kernel_rfl) (fun A va w' k' hF hT hk hJ hb hu hp hd => ?_)
  have e1 : A.eval (.tmp 3) = .pointer (some ⟨w.heap.size,0,none⟩) := hF 3 rfl
  exact zai ndS rfl (e1) (by omega) ⟨_,rfl,rfl,Below.refl _ _⟩
 case o4 =>
  refine LnOp.side rfl (by kernel_rfl) (fun A va w' k' hF hT hk hJ hb hu hp hd => ?_)
  have e1 : A.eval (.tmp 10) = .pointer (some ⟨w.heap.size,0 + 2,none⟩) := (hT 10 3 (by simp) rfl).trans (hd ⟨3,.data⟩ (by simp) rfl rfl)
  exact zad (e := 26) rfl (e1) (by kernel_rfl) ((hRN _ _ hJ).cell2) ⟨_,rfl,rfl,Below.refl _ _⟩
 case o5 =>
  refine LnOp.side rfl (by kernel_rfl) (fun A va w' k' hF hT hk hJ hb hu hp hd => ?_)
  have e1 : A.eval (.tmp 1) = .int .i64 (i : Int) := hF 1 rfl
  exact BigFrame.wp_move _ rfl ⟨_,rfl,e1,Below.refl _ _⟩
 case o6 =>
  refine LnOp.side rfl (by kernel_rfl) (fun A va w' k' hF hT hk hJ hb hu hp hd => ?_)
  have e1 : A.eval (.tmp 11) = .slice (some ⟨g3,0,none⟩) n.kids.length c3 := (hT 11 4 (by simp) rfl).trans (hd ⟨4,.data⟩ (by simp) rfl rfl)
  have e2 : A.eval (.tmp 12) = .int .i64 (i : Int) := (hT 12 5 (by simp) rfl).trans (hd ⟨5,.data⟩ (by simp) rfl rfl)
  exact zc1 (e := 26) rfl (by kernel_rfl) (by kernel_rfl) (e1) (e2) rfl (by omega) ⟨_,rfl,rfl,Below.refl _ _⟩
 case o7 =>
  refine LnOp.side rfl (by kernel_rfl) (fun A va w' k' hF hT hk hJ hb hu hp hd => ?_)
  have e1 : A.eval (.tmp 13) = .pointer (some ⟨g3,0 + i * 3,none⟩) := (hT 13 6 (by simp) rfl).trans (hd ⟨6,.data⟩ (by simp) rfl rfl)
  obtain rfl : k' = 0 := Nat.le_zero.1 (hb 0 9 rfl (by kernel_rfl))
  have hB : Below W1.heap.size W1 w' := hJ
  rw [Nat.zero_add] at e1
  exact zc0 ndS rfl e1 ((zac (hB.block g3 g3l) _).trans k0) ((zac (hB.block g3 g3l) _).trans k1) ((zac (hB.block g3 g3l) _).trans k2) ⟨_,rfl,rfl,Below.refl _ _⟩
 case o8 =>
  refine LnOp.side rfl (by kernel_rfl) (fun A va w' k' hF hT hk hJ hb hu hp hd => ?_)
  have e1 : A.eval (.tmp 2) = .slice ka kn kc := hF 2 rfl
  exact BigFrame.wp_move _ rfl ⟨_,rfl,e1,Below.refl _ _⟩
 case o9 =>
  refine LnOp.line 0 rfl rfl (fun A va w' hF hT hJ hu hd => ?_)
  have e1 : A.eval (.tmp 14) = .agg #[.slice xa (kidN n i).keys.length xc,.slice ya (kidN n i).chains.length yc,.slice za (kidN n i).kids.length zc] := (hT 14 7 (by simp) rfl).trans (hd ⟨7,.data⟩ (by simp) rfl rfl)
  have e2 : A.eval (.tmp 15) = .slice ka kn kc := (hT 15 8 (by simp) rfl).trans (hd ⟨8,.data⟩ (by simp) rfl rfl)
  have hB : Below W1.heap.size W1 w' := hJ
  refine zak rfl eP (args := #[.agg #[.slice xa (kidN n i).keys.length xc,.slice ya (kidN n i).chains.length yc,.slice za (kidN n i).kids.length zc],.slice ka kn kc]) (by simp only [List.map_toArray,List.map_cons,List.map_nil,e1,e2]) ((ih w' D _ _ G ka kn kc k S2 (hat.below hB) hpk hfk (hkW.below hB)).mono ?_)
  rintro e W4 ⟨v',m,G',rfl,hm,hatm,hsub,htr⟩
  obtain ⟨xa',xc',ya',yc',za',zc',_,_,_,_,rfl,_⟩ := hatm.opn
  exact ⟨_,rfl,_,rfl,⟨w',W4,hJ,⟨m,_,_,_,G',rfl,hm,hatm,hsub,htr,rfl,rfl,rfl⟩,Below.refl _ _⟩,htr.mono fun g _ hg => hlF g hg⟩
 case o10 =>
  refine LnOp.side rfl (by kernel_rfl) (fun A va w' k' hF hT hk hJ hb hu hp hd => ?_)
  have e1 : A.eval (.tmp 8) = .slice (some ⟨g3,0,none⟩) n.kids.length c3 := (hT 8 1 (by simp) rfl).trans (hd ⟨1,.data⟩ (by simp) rfl rfl)
  have e2 : A.eval (.tmp 9) = .int .i64 (i : Int) := (hT 9 2 (by simp) rfl).trans (hd ⟨2,.data⟩ (by simp) rfl rfl)
  exact zc1 (e := 26) rfl (by kernel_rfl) (by kernel_rfl) (e1) (e2) rfl (by omega) ⟨_,rfl,rfl,Below.refl _ _⟩
 case o11 =>
  refine LnOp.line 1 rfl rfl (fun A va w' hF hT hJ hu hd => ?_)
  have e1 : A.eval (.tmp 17) = .pointer (some ⟨g3,0 + i * 3,none⟩) := (hT 17 10 (by simp) rfl).trans (hd ⟨10,.data⟩ (by simp) rfl rfl)
  have x2 : A.eval (.tmp 16) = va 9 := hT 16 9 (by simp) rfl
  have hJ' : Chn W1 (KidR D G g3 (.slice (Option.some ⟨g3,0,none⟩) n.kids.length c3) n.kids.length i us3 (DelN d (kidN n i) k)) [va 9] w' := hJ
  have hr3 := p.r3.trd (hTr _ _ hJ') (fun g hg => by injection hg with hg; rintro ⟨p,hp,hf⟩; rcases p with _ | p; exact (hG g hf).2.2.2 hg.symm; simp only [List.length_cons,List.length_nil] at hp; omega)
  obtain ⟨Wa,Wb,_,⟨m,x,y,z,G',ev,_,_,_,_,ho1,ho2,ho3⟩,_⟩ := hJ'
  rw [Nat.zero_add] at e1
  refine znm rfl e1 (x2.trans ev) ho1 ho2 ho3 hr3 rfl hl3 (fun w2 hg hr => ?_)
  exact ⟨_,rfl,⟨w',w2,hJ,⟨hg,x,y,z,ev,hr⟩,Below.refl _ _⟩,Trd.ofGrown hg fun g hk => by injection hk with hk; omega⟩
 case fin =>
  intro vs1 W9 hJ hGG
  clear hGG
  have hJc : Chn W1 (KidR D G g3 (.slice (Option.some ⟨g3,0,none⟩) n.kids.length c3) n.kids.length i us3 (DelN d (kidN n i) k)) [vs1 11,vs1 9] W9 := hJ
  have hT9 := hTr _ _ hJc
  obtain ⟨Wb1,Wb2,hJ1,⟨hgr,x',y',z',ev,hrow⟩,hb9⟩ := hJc
  obtain ⟨Wa1,Wa2,hJ0,⟨m,x,y,z,G',ev2,hm,hatm,hG',htG,ho1,ho2,ho3⟩,hba⟩ := hJ1
  rw [ev] at ev2
  injection ev2 with ev2
  injection ev2 with ev2
  injection ev2 with ex ev2
  injection ev2 with ey ev2
  injection ev2 with ez _
  subst ex ey ez
  have hJ0' : Below W1.heap.size W1 Wa1 := hJ0
  have tG : Trd (· ∈ G) W1 Wb1 := (Trd.of (F := (· ∈ G)) hJ0').trans (htG.trans (Trd.of (F := (· ∈ G)) hba) fun _ _ h => h) fun _ _ h => h
  obtain ⟨F9,s9⟩ := hset m x' y' z' G' Wb1 Wb2 (hatm.below hba) (fun g hg => (hG' g hg).imp id fun h1 => Nat.le_trans hJ0'.size h1) tG hgr (fun us hus => by
   rw [hus.uniq (p.r3.trd tG fun g hg hm => (hG g hm).2.2.2 (by injection hg with hg; exact hg.symm))]; exact hrow)
  replace s9 := s9.more hb9
  have bn9 := hRN _ _ hJ
  have bz9 : TriV W9 (w.heap.size + 1) 26 _ _ _ := (hT9.block _ bz2.lt (zj9 (hnG _ (by omega) (by omega)).1 (hnG _ (by omega) (by omega)).2 _)).trans bz2
  have hst := zhp W9 s9.at' (hswk m (hm.1.mono (Nat.zero_le _) (by have := hm.1.keys; omega))) hn1 hkk
  have tn0 := bn9.cell0
  have tn1 := bn9.cell1
  have tn2 := bn9.cell2
  clear hJ hTr hRN hset hG' htG tG hatm hb9 hgr hrow hJ0 hba hT9 s2 bn2 bz2 p hat k0 k1 k2
  simp only [zae]
  go_simp
  go_wp2_with fail
  refine hst.mono ?_
  rintro e w4 hto
  obtain ⟨v2,n2,F2,rfl,hq,sA,t2⟩ := s9.step hto
  obtain ⟨a1',c1',a2',c2',a3',c3',_,_,_,_,rfl,p2⟩ := sA.at'.opn
  have bzA := s9.tri t2 (b := w.heap.size + 1) (by omega) (by omega) bz9
  clear bn9 bz9 hto t2 tn0 tn1 tn2 s9 p2 hst
  replace hq := Lib.hid hq
  go_wp2_with (first | (refine zaf rfl rfl rfl rfl rfl rfl rfl rfl bzA ?_; intro w5 hg5 bz5) | fail)
  have s5 := sA.box hg5 (by omega) (by omega)
  exact bodyPost_ret (v := .agg #[.slice a1' n2.keys.length c1',.slice a2' n2.chains.length c2',.slice a3' n2.kids.length c3']) (by simp [results,Tryz.results100,go_sem,loadVar,isAgg,run_underlying hu,zab ndS.hs,loadCellsFrom,Addr.add,bz5.cell0,bz5.cell1,bz5.cell2]) rfl (s5.ret ⟨m,hm,hq.out⟩)
def endF(last:Bool):FuncId:=if last then 122 else 123
def endI(last:Bool)(m:Nat):Nat:=if last then m-1 else 0
theorem zrq (w:World) (last:Bool) (m:Nat) (hm:0<m) (hm2:m≤1000000):Calls Tryz.prog (endF last) #[.int .i64 (m:Int)] w fun e w'=>e=.returned (.int .i64 (endI last m:Nat))∧Below w.heap.size w w':=by
 unfold endF endI
 cases last with
 | true =>
  rw [if_pos rfl,if_pos rfl]
  go_enter Tryz.func122,Tryz.ntmps122
  go_wp2_with fail
  go_ret
  exact⟨by simp;omega,Below.refl _ _⟩
 | false =>
  rw [if_neg (by simp),if_neg (by simp)]
  go_enter Tryz.func123,Tryz.ntmps123
  go_wp2_with fail
  go_ret
  exact⟨by simp,Below.refl _ _⟩
theorem zpi (last:Bool):∀ args w,(callFunc (endF last) args).run Tryz.prog w=.ok (.enter (endF last) args) w:=by
 unfold endF
 cases last with
 | true=>exact enters_of Tryz.func122 (by kernel_rfl) rfl
 | false=>exact enters_of Tryz.func123 (by kernel_rfl) rfl
theorem zpk (w : World) {D : Nat → Prop} {v : Value} {n : Nd} {F : List Nat} {i : Nat} (h : NdAt D w v n F) (hi : i + 1 < n.kids.length) (hn : n.kids.length ≤ 1000) :
  Calls Tryz.prog 108 #[v,.int .i64 i] w fun e w' => (∃ last : Bool,e = .returned (.tuple #[.int .i64 ((if last then i else i + 1 : Nat) : Int),.func (.func (endF last)) #[] #[]])) ∧ Below w.heap.size w w' := by
 obtain ⟨a1,c1,a2,c2,g3,c3,us1,us2,us3,F3,rfl,p⟩ := h.opk (by omega)
 obtain ⟨ak,ck,_,_,_,_,hka,_,_⟩ := p.kid (i := i) (by omega)
 obtain ⟨bk,dk,_,_,_,_,hkb,_,_⟩ := p.kid (i := i + 1) hi
 obtain ⟨ma,hma⟩ : ∃ m,m = (kidN n i).keys.length := ⟨_,rfl⟩
 obtain ⟨mb,hmb⟩ : ∃ m,m = (kidN n (i + 1)).keys.length := ⟨_,rfl⟩
 rw [← hma] at hka
 rw [← hmb] at hkb
 clear hma hmb p h
 have q : Below w.heap.size w (w.alloc (.cells #[.slice a1 n.keys.length c1,.slice a2 n.chains.length c2,.slice (Option.some ⟨g3,0,none⟩) n.kids.length c3] 26)) := (Below.refl _ _).alloc (Nat.le_refl _) _
 have t2 := (TriV.new w 26 (.slice a1 n.keys.length c1) (.slice a2 n.chains.length c2) (.slice (Option.some ⟨g3,0,none⟩) n.kids.length c3)).cell2
 obtain ⟨W,hW⟩ : ∃ W,W = w.alloc (.cells #[.slice a1 n.keys.length c1,.slice a2 n.chains.length c2,.slice (Option.some ⟨g3,0,none⟩) n.kids.length c3] 26) := ⟨_,rfl⟩
 rw [← hW] at q t2
 replace hka := (zac (q.block g3 (zaj hka)) _).trans hka
 replace hkb := (zac (q.block g3 (zaj hkb)) _).trans hkb
 go_enter Tryz.func108,Tryz.ntmps108
 go_upto_region 1 with (fail)
 rw [← hW]
 clear hW
 go_quiet (fail)
 have qd : Below w.heap.size w (W.drewN nq) := Below.drewN q _
 rcases Nat.lt_or_ge mb ma with hlt | hge
 ·have d1 : decide ((mb : Int) < (ma : Int)) = true := decide_eq_true (by omega)
  go_wp2_with fail
  go_ret2
  exact ⟨⟨true,by simp [endF]⟩,qd⟩
 ·have d1 : decide ((mb : Int) < (ma : Int)) = false := decide_eq_false (by omega)
  go_wp2_with fail
  go_ret2
  exact ⟨⟨false,by simp [endF]⟩,qd⟩
section
variable {P : Program} {o : Oper} {a : Act} {K : Act → World → Prop} {Q : Exit → Act → World → Prop} {w : World}
theorem zpu {f:FuncId} {c:Operand} {xs:Array Operand} {ts:Array TypeId} {args:Array Value} (ho:o.op=.call { callee:=.value c,args:=xs,argTypes:=ts }) (hv:a.eval c=.func (.func f) #[] #[]) (eg:∀ args w,(callFunc f args).run P w=.ok (.enter f args) w)
  (hargs:xs.map a.eval=args) (hc:Calls P f args w (fun e w'=>∃ v,e=.returned v∧K (a.put o.dst v) w')):o.wp P a w K Q:=by
 have hrun:(execOp a.eval o).run P w=.ok (.enter f args) w:=by
  subst hargs
  simp [execOp,ho,resolve,hv,invoke,Deferred.ofValue,eg]
 unfold Oper.wp
 rw [hrun,Oper.upon_enter]
 refine hc.mono (fun e w' h=>?_)
 obtain⟨v,rfl,hk⟩:=h
 exact hk
end
theorem NdOf.sub {D:Nat→Prop} {w W:World} {lo:Nat} {F F' G:List Nat} {v v':Value} {n m:Nd} (h:NdOf D w lo F W v n F') (hat:NdAt D W v' m G) (hs:∀ k∈G,k∈F'):NdOf D w lo F W v' m G :=
 ⟨hat,fun k hk=>h.fr k (hs k hk),h.trd,h.dat,h.lt,h.lo1,h.lo2⟩
def StoR (b:Nat) (x y z:Value):List Value→World→Value→World→Prop
 | [],W,_,W'=>W.grownBy W' (some b)∧TriV W' b 26 x y z
 | _,_,_,_=>False
def DownR (D:Nat→Prop) (w:World) (F:List Nat) (last:Bool) (n:Nd) (k:Nat) (W:World):Prop :=
 ∃ n1 F1 d1 x y z,d1≤k∧NdOf D w (w.heap.size+1) F W (.agg #[x,y,z]) n1 F1∧TriV W w.heap.size 26 x y z∧Wf d1 1 3 n1∧(∀ e,OutP last n1 e→OutP last n e)∧Below w.heap.size w W
theorem zj1 (w : World) {D : Nat → Prop} {v : Value} {n : Nd} {F : List Nat} {d : Nat} (last : Bool) (h : NdAt D w v n F) (hw : Wf d 1 3 n) :
  Calls Tryz.prog 109 #[v,.func (.func (endF last)) #[] #[]] w fun e w' => ∃ (p : Pr) (ka : Option Addr) (kn kc : Nat) (ca : Option Addr) (cn cc : Nat),e = .returned (.tuple #[.slice ka kn kc,.slice ca cn cc]) ∧ OutP last n p ∧ RdS D w (.slice ka kn kc) p.key ∧ RdL Elt.ver D w (.slice ca cn cc) p.chain ∧ Below w.heap.size w w' := by
 obtain ⟨a1,c1,a2,c2,a3,c3,us1,us2,us3,F3,rfl,p⟩ := h.opn
 have q : Below w.heap.size w (w.alloc (.cells #[.slice a1 n.keys.length c1,.slice a2 n.chains.length c2,.slice a3 n.kids.length c3] 26)) := (Below.refl _ _).alloc (Nat.le_refl _) _
 have bn := TriV.new w 26 (.slice a1 n.keys.length c1) (.slice a2 n.chains.length c2) (.slice a3 n.kids.length c3)
 obtain ⟨W,hW⟩ : ∃ W,W = w.alloc (.cells #[.slice a1 n.keys.length c1,.slice a2 n.chains.length c2,.slice a3 n.kids.length c3] 26) := ⟨_,rfl⟩
 rw [← hW] at q bn
 have s0 := NdOf.start (lo := w.heap.size + 1) h q (by omega) (by have := bn.lt; omega)
 have r0 : DownR D w F last n d W := ⟨n,F,d,_,_,_,Nat.le_refl _,s0,bn,hw,fun _ h => h,q⟩
 have hEE := zpi last
 have hfree := h.free
 have hdata := h.data
 clear s0 bn q p h
 go_enter Tryz.func109,Tryz.ntmps109
 go_wp2_with fail
 rw [← hW]
 clear hW
 go_loopg [] d (fun k wr => DownR D w F last n k wr)
 case atStart => exact r0
 case round =>
  clear r0
  obtain ⟨n1,F1,d1,x,y,z,hdk',s1,bn1,hw1,hout,hB⟩ := hrel
  obtain ⟨b1,e1,b2,e2,b3,e3,us1,us2,us3,F3,eqv,p⟩ := s1.at'.opn
  injection eqv with eqv
  injection eqv with eqv
  injection eqv with ex eqv
  injection eqv with ey eqv
  injection eqv with ez _
  subst ex ey ez
  have hw3 := hw1.keys
  obtain ⟨hsh1,hsh2⟩ := hw1.shape
  have hle := ze8 wr (x := .slice b1 n1.keys.length e1) (y := .slice b2 n1.chains.length e2) (a := b3) (n := n1.kids.length) (c := e3)
  have tn0 := bn1.cell0
  have tn1 := bn1.cell1
  have tn2 := bn1.cell2
  rcases Nat.eq_zero_or_pos n1.kids.length with hk0 | hk0
  ·have hdk : decide (n1.kids.length = 0) = true := decide_eq_true hk0
   rw [hdk] at hle
   obtain ⟨j,hj⟩ : ∃ j,j = endI last n1.keys.length := ⟨_,rfl⟩
   have hjl : j < n1.keys.length := by rw [hj]; unfold endI; split <;> omega
   have hjc : j < n1.chains.length := by omega
   have hen := fun W' => zrq W' last n1.keys.length (by omega) (by omega)
   rw [← hj] at hen
   have hol : OutP last n ⟨n1.keys[j]'hjl,n1.chains[j]'hjc⟩ := hout _ (out_leaf (last := last) hsh1 (List.length_eq_zero_iff.1 hk0) (j := j) (by rw [hj]; rfl) hjl)
   obtain ⟨gk,ek,e5,_,hgk⟩ := p.r1.some (by omega)
   cases e5
   obtain ⟨gc,ec,e6,_,hgc⟩ := p.r2.some (by omega)
   cases e6
   obtain ⟨kv,hkv,hkr⟩ : ∃ kv,us1[j]? = Option.some kv ∧ RdS D wr kv (n1.keys[j]'hjl) := by
    obtain ⟨us,⟨v,rfl,hr⟩,hc⟩ := p.l1.at j hjl
    have := hc 0 _ rfl
    simp only [show Elt.bytes.size = 1 from rfl,Nat.mul_one,Nat.add_zero] at this
    exact ⟨_,this,hr⟩
   obtain ⟨cv,hcv,hcr⟩ : ∃ cv,us2[j]? = Option.some cv ∧ RdL Elt.ver D wr cv (n1.chains[j]'hjc) := by
    obtain ⟨us,⟨v,rfl,hr⟩,hc⟩ := p.l2.at j hjc
    have := hc 0 _ rfl
    simp only [show (Elt.list Elt.ver).size = 1 from rfl,Nat.mul_one,Nat.add_zero] at this
    exact ⟨_,this,hr⟩
   obtain ⟨Ak,Lk,Ck,rfl⟩ : ∃ A L C,kv = .slice A L C := by obtain ⟨A,C,e,_⟩ := hkr.shape; exact ⟨A,_,C,e⟩
   obtain ⟨Ac,Lc,Cc,rfl⟩ : ∃ A L C,cv = .slice A L C := by obtain ⟨A,C,e,_⟩ := hcr.shape; exact ⟨A,_,C,e⟩
   have hkw := p.r1.cell hgk hkv
   have hcw := p.r2.cell hgc hcv
   have hkr0 : RdS D w (.slice Ak Lk Ck) (n1.keys[j]'hjl) := hkr.keep fun g hd => (s1.trd.block g (hdata g hd) fun hm => hfree g hm hd).symm
   have hcr0 : RdL Elt.ver D w (.slice Ac Lc Cc) (n1.chains[j]'hjc) := hcr.keep fun g hd => (s1.trd.block g (hdata g hd) fun hm => hfree g hm hd).symm
   have hbw : ∀ W',Below wr.heap.size wr W' → Below w.heap.size w W' := fun W' hb => hB.trans (hb.mono hB.size)
   replace hj := Lib.hid hj
   replace hsh1 := Lib.hid hsh1
   replace hsh2 := Lib.hid hsh2
   replace hk0 := Lib.hid hk0
   replace hdk := Lib.hid hdk
   replace hkv := Lib.hid hkv
   replace hcv := Lib.hid hcv
   go_wp2_with fail
   refine hle.mono ?_
   rintro e w1 ⟨rfl,hb1⟩
   have bn2 := bn1.below hb1 bn1.lt
   replace hkw := (zac (hb1.block gk (zaj hkw)) _).trans hkw
   replace hcw := (zac (hb1.block gc (zaj hcw)) _).trans hcw
   clear tn0 tn1 tn2
   have tn0 := bn2.cell0
   have tn1 := bn2.cell1
   go_wp2_with fail
   refine (hen w1).mono ?_
   rintro e w2 ⟨rfl,hb2⟩
   have bn3 := bn2.below hb2 bn2.lt
   replace hkw := (zac (hb2.block gk (zaj hkw)) _).trans hkw
   replace hcw := (zac (hb2.block gc (zaj hcw)) _).trans hcw
   clear tn0 tn1
   have tn0 := bn3.cell0
   have tn1 := bn3.cell1
   have hb12 := hb1.trans (hb2.mono hb1.size)
   clear hle hen bn1 bn2
   go_upto_region 4 with (fail)
   go_quiet (fail)
   have qd : Below wr.heap.size wr (w2.drewN nq) := Below.drewN hb12 _
   go_wp2_with fail
   go_ret2
   exact ⟨_,_,_,_,_,_,_,rfl,hol,hkr0,hcr0,hbw _ qd⟩
  ·have hdk : decide (n1.kids.length = 0) = false := decide_eq_false (by omega)
   rw [hdk] at hle
   obtain ⟨j,hj⟩ : ∃ j,j = endI last n1.kids.length := ⟨_,rfl⟩
   have hjl : j < n1.kids.length := by rw [hj]; unfold endI; split <;> omega
   have hkb : n1.kids.length ≤ 4 := by
    rcases hsh2 with e0 | e0
    ·rw [e0] at hk0; cases hk0
    ·omega
   have hen := fun W' => zrq W' last n1.kids.length (by omega) (by omega)
   rw [← hj] at hen
   obtain ⟨dd,hdd,hwk,hok⟩ : ∃ dd,dd + 1 = d1 ∧ Wf dd 1 3 (kidN n1 j) ∧ ∀ e,OutP last (kidN n1 j) e → OutP last n1 e := by
    cases d1 with
    | zero => exact hw1.elim
    | succ dd =>
     obtain ⟨_,_,_,hsh⟩ := hw1
     rcases hsh with ⟨_,h1⟩ | ⟨_,h1,h2⟩
     ·rw [h1] at hk0; cases hk0
     ·refine ⟨dd,rfl,by rw [za3 hjl]; exact h2 _ (List.getElem_mem hjl),fun e ho => out_in hsh1 h1 (by rw [hj]; rfl) hjl (by rw [← za3 hjl]; exact ho)⟩
   have hdk2 : d1 ≤ gk := hdk'
   obtain ⟨g3,e3',e7,_,hg3⟩ := p.r3.some (by omega)
   cases e7
   obtain ⟨xa,xc,ya,yc,za,zc,G,k0,k1,k2,hat,hG,_⟩ := s1.kidAt hjl
   have hs1 := Nat.le_of_eq hsh1
   replace hj := Lib.hid hj
   replace hsh1 := Lib.hid hsh1
   replace hsh2 := Lib.hid hsh2
   replace hdk := Lib.hid hdk
   replace hdd := Lib.hid hdd
   clear p
   go_wp2_with fail
   refine hle.mono ?_
   rintro e w1 ⟨rfl,hb1⟩
   have s2 := (s1.sub hat fun k hk => (hG k hk).1).more hb1
   have bn2 := bn1.below hb1 bn1.lt
   replace k0 := (zac (hb1.block g3 (zaj k0)) _).trans k0
   replace k1 := (zac (hb1.block g3 (zaj k1)) _).trans k1
   replace k2 := (zac (hb1.block g3 (zaj k2)) _).trans k2
   have g3l : g3 < w1.heap.size := zaj k0
   have hB1 := hB.trans (hb1.mono hB.size)
   have blt := bn2.lt
   clear tn0 tn1 tn2 hle bn1 s1 hat hG hB
   go_upto_region 2 with (fail)
   refine zao (K := K0 w1) (by kernel_rfl) (by kernel_rfl) [9] (by kernel_rfl) [lEq (.pointer (some ⟨w.heap.size,0 + 2,none⟩)),lEq (.slice (some ⟨g3,0,none⟩) n1.kids.length e3),lEq (.func (.func (endF last)) #[] #[]),lEq (.pointer (some ⟨w.heap.size,0 + 2,none⟩)),lEq (.slice (some ⟨g3,0,none⟩) n1.kids.length e3),lEq (.int .i64 (n1.kids.length : Nat)),lEq (.int .i64 (j : Nat)),lEq (.pointer (some ⟨g3,0 + j * 3,none⟩)),lEq (.agg #[.slice xa (kidN n1 j).keys.length xc,.slice ya (kidN n1 j).chains.length yc,.slice za (kidN n1 j).kids.length zc]),lAny] (fun l W => Chn w1 (StoR w.heap.size (.slice xa (kidN n1 j).keys.length xc) (.slice ya (kidN n1 j).chains.length yc) (.slice za (kidN n1 j).kids.length zc)) l.reverse W) (fun l A B h hb => Chn.more _ _ _ h hb) (show Below w1.heap.size w1 w1 from Below.refl _ _)
    ⟨?o0,?o1,?o2,?o3,?o4,?o5,?o6,?o7,?o8,?o9,trivial⟩ ?fin
   case o0 =>
    refine LnOp.side rfl (by kernel_rfl) (fun A va w' k' hF hT hk hJ hb hu hp hd => ?_)
    have e1 : A.eval (.tmp 2) = .pointer (some ⟨w.heap.size,0,none⟩) := hF 2 rfl
    exact zai ndS rfl (e1) (by omega) ⟨_,rfl,rfl,Below.refl _ _⟩
   case o1 =>
    refine LnOp.side rfl (by kernel_rfl) (fun A va w' k' hF hT hk hJ hb hu hp hd => ?_)
    have e1 : A.eval (.tmp 10) = .pointer (some ⟨w.heap.size,0 + 2,none⟩) := (hT 10 0 (by simp) rfl).trans (hd ⟨0,.data⟩ (by simp) rfl rfl)
    obtain rfl : k' = 0 := Nat.le_zero.1 (hb 0 9 rfl (by kernel_rfl))
    have hB : Below w1.heap.size w1 w' := hJ
    exact zad (e := 26) rfl (e1) (by kernel_rfl) ((bn2.below hB bn2.lt).cell2) ⟨_,rfl,rfl,Below.refl _ _⟩
   case o2 =>
    refine LnOp.side rfl (by kernel_rfl) (fun A va w' k' hF hT hk hJ hb hu hp hd => ?_)
    have e1 : A.eval (.tmp 1) = .func (.func (endF last)) #[] #[] := hF 1 rfl
    exact BigFrame.wp_move _ rfl ⟨_,rfl,e1,Below.refl _ _⟩
   case o3 =>
    refine LnOp.side rfl (by kernel_rfl) (fun A va w' k' hF hT hk hJ hb hu hp hd => ?_)
    have e1 : A.eval (.tmp 2) = .pointer (some ⟨w.heap.size,0,none⟩) := hF 2 rfl
    exact zai ndS rfl (e1) (by omega) ⟨_,rfl,rfl,Below.refl _ _⟩
   case o4 =>
    refine LnOp.side rfl (by kernel_rfl) (fun A va w' k' hF hT hk hJ hb hu hp hd => ?_)
    have e1 : A.eval (.tmp 13) = .pointer (some ⟨w.heap.size,0 + 2,none⟩) := (hT 13 3 (by simp) rfl).trans (hd ⟨3,.data⟩ (by simp) rfl rfl)
    obtain rfl : k' = 0 := Nat.le_zero.1 (hb 0 9 rfl (by kernel_rfl))
    have hB : Below w1.heap.size w1 w' := hJ
    exact zad (e := 26) rfl (e1) (by kernel_rfl) ((bn2.below hB bn2.lt).cell2) ⟨_,rfl,rfl,Below.refl _ _⟩
   case o5 =>
    refine LnOp.side rfl (by kernel_rfl) (fun A va w' k' hF hT hk hJ hb hu hp hd => ?_)
    have e1 : A.eval (.tmp 14) = .slice (some ⟨g3,0,none⟩) n1.kids.length e3 := (hT 14 4 (by simp) rfl).trans (hd ⟨4,.data⟩ (by simp) rfl rfl)
    exact zct (e := 26) rfl (by kernel_rfl) (e1) ⟨_,rfl,rfl,Below.refl _ _⟩
   case o6 =>
    refine LnOp.side rfl (by kernel_rfl) (fun A va w' k' hF hT hk hJ hb hu hp hd => ?_)
    have e1 : A.eval (.tmp 12) = .func (.func (endF last)) #[] #[] := (hT 12 2 (by simp) rfl).trans (hd ⟨2,.data⟩ (by simp) rfl rfl)
    have e2 : A.eval (.tmp 15) = .int .i64 (n1.kids.length : Nat) := (hT 15 5 (by simp) rfl).trans (hd ⟨5,.data⟩ (by simp) rfl rfl)
    refine zpu rfl e1 hEE (args := #[.int .i64 (n1.kids.length : Nat)]) (by simp only [List.map_toArray,List.map_cons,List.map_nil,e2]) ((hen w').mono ?_)
    rintro e W4 ⟨rfl,hb4⟩
    exact ⟨_,rfl,_,rfl,rfl,hb4⟩
   case o7 =>
    refine LnOp.side rfl (by kernel_rfl) (fun A va w' k' hF hT hk hJ hb hu hp hd => ?_)
    have e1 : A.eval (.tmp 11) = .slice (some ⟨g3,0,none⟩) n1.kids.length e3 := (hT 11 1 (by simp) rfl).trans (hd ⟨1,.data⟩ (by simp) rfl rfl)
    have e2 : A.eval (.tmp 16) = .int .i64 (j : Nat) := (hT 16 6 (by simp) rfl).trans (hd ⟨6,.data⟩ (by simp) rfl rfl)
    exact zc1 (e := 26) rfl (by kernel_rfl) (by kernel_rfl) (e1) (e2) rfl (by omega) ⟨_,rfl,rfl,Below.refl _ _⟩
   case o8 =>
    refine LnOp.side rfl (by kernel_rfl) (fun A va w' k' hF hT hk hJ hb hu hp hd => ?_)
    have e1 : A.eval (.tmp 17) = .pointer (some ⟨g3,0 + j * 3,none⟩) := (hT 17 7 (by simp) rfl).trans (hd ⟨7,.data⟩ (by simp) rfl rfl)
    obtain rfl : k' = 0 := Nat.le_zero.1 (hb 0 9 rfl (by kernel_rfl))
    have hB : Below w1.heap.size w1 w' := hJ
    rw [Nat.zero_add] at e1
    exact zc0 ndS rfl e1 ((zac (hB.block g3 g3l) _).trans k0) ((zac (hB.block g3 g3l) _).trans k1) ((zac (hB.block g3 g3l) _).trans k2) ⟨_,rfl,rfl,Below.refl _ _⟩
   case o9 =>
    refine LnOp.line 0 rfl rfl (fun A va w' hF hT hJ hu hd => ?_)
    have e1 : A.eval (.tmp 2) = .pointer (some ⟨w.heap.size,0,none⟩) := hF 2 rfl
    have e2 : A.eval (.tmp 18) = .agg #[.slice xa (kidN n1 j).keys.length xc,.slice ya (kidN n1 j).chains.length yc,.slice za (kidN n1 j).kids.length zc] := (hT 18 8 (by simp) rfl).trans (hd ⟨8,.data⟩ (by simp) rfl rfl)
    have hB : Below w1.heap.size w1 w' := hJ
    refine zb2 rfl e1 e2 rfl rfl rfl (bn2.below hB bn2.lt) (fun w2 hg ht => ?_)
    exact ⟨_,rfl,⟨w',w2,hJ,⟨hg,ht⟩,Below.refl _ _⟩,Trd.ofGrown hg fun g hk => by injection hk with hk; omega⟩
   case fin =>
    intro vs1 W9 hJ hGG
    clear hGG
    have hJc : Chn w1 (StoR w.heap.size (.slice xa (kidN n1 j).keys.length xc) (.slice ya (kidN n1 j).chains.length yc) (.slice za (kidN n1 j).kids.length zc)) [vs1 9] W9 := hJ
    obtain ⟨Wa,Wb,hJ0,⟨hg,ht⟩,hb9⟩ := hJc
    have hJ0' : Below w1.heap.size w1 Wa := hJ0
    have s3 := ((s2.more hJ0').box hg (Nat.le_refl _) (by omega)).more hb9
    have bn9 := ht.below hb9 ht.lt
    have hB9 : Below w.heap.size w W9 := by
     have h1 := hB1.trans (hJ0'.mono hB1.size)
     have h2 := h1.grown hg h1.size (fun k hk => by injection hk with hk; omega)
     exact h2.trans (hb9.mono h2.size)
    clear hJ hJ0 hJ0' hb9 hg ht s2 bn2 k0 k1 k2 hB1
    simp only [zae]
    go_simp
    go_wp2_with fail
    go_roundg (gk - 1)
    case measure => have := hdd.out; omega
    case rel => exact ⟨kidN n1 j,G,dd,_,_,_,by have := hdd.out; omega,s3,bn9,hwk,fun e ho => hout e (hok e ho),hB9⟩
theorem out_find {last:Bool} {n:Nd} {p:Pr} (hs:Srt (zaa n)) (h:OutP last n p):zaw (zaa n) p.key≠none:=by
 have hm:p∈zaa n:=by
  unfold OutP at h
  cases last with
  | true=>rw [if_pos rfl] at h;obtain⟨X,e⟩:=h;rw [e];simp
  | false=>rw [if_neg (by simp)] at h;obtain⟨X,e⟩:=h;rw [e];simp
 rw [zh7 hs hm]
 simp
def TwoR (g1 g2:Nat) (V1 V2:Value) (n1 n2:Nat) (us1 us2:List Value):List Value→World→Value→World→Prop
 | [],W,_,W'=>W.grownBy W' (some g1)∧RowQ 30 1 W' V1 n1 us1
 | [_],W,_,W'=>W.grownBy W' (some g2)∧RowQ 70 1 W' V2 n2 us2
 | _,_,_,_=>False
def fpT(g1 g2:Nat):Nat→Nat→Prop
 | 0,k=>k=g1
 | 1,k=>k=g2
 | _,_=>False
theorem twoR_trd {g1 g2:Nat} {V1 V2:Value} {n1 n2:Nat} {us1 us2:List Value}:∀ (l:List Value) (W:World) (v:Value) (W':World),TwoR g1 g2 V1 V2 n1 n2 us1 us2 l W v W'→Trd (fun k=>fpT g1 g2 l.length k) W W'
 | [],_,_,_,⟨h,_⟩=>Trd.ofGrown h fun _ hk=>by injection hk with hk;exact hk.symm
 | [_],_,_,_,⟨h,_⟩=>Trd.ofGrown h fun _ hk=>by injection hk with hk;exact hk.symm
 | _::_::_,_,_,_,h=>h.elim
theorem zri {g1 g2 g:Nat}(h1:g≠g1)(h2:g≠g2)(N:Nat):¬ ∃ p,p<N∧fpT g1 g2 p g:=by
 rintro⟨p,_,h⟩
 rcases p with _|_|p
 ·exact h1 h
 ·exact h2 h
 ·exact h
def zpn (d:Nat):Prop:=∀ (w:World) (D:Nat→Prop) (v:Value) (n:Nd) (F:List Nat) (i:Nat) (k:List UInt8),
 NdAt D w v n F→Pn (d+1) n→isF n.keys k=true→i=plcF n.keys k→0<n.kids.length→Calls Tryz.prog 99 #[v,.int .i64 i] w (NdTo D w F (DelN (d+1) n k))
theorem zjj (d : Nat) (ihR : zig d) : zpn d := by
 intro w D v n F i k h hp his hi hk0
 obtain ⟨d',e',hd',hkl,_,_,hws⟩ := hp.kid hk0
 obtain rfl : d = d' := by omega
 have hkk := hp.wf.keys.2
 obtain ⟨hsh1,_⟩ := hp.wf.shape
 obtain ⟨hlt,_⟩ := zgx his
 rw [← hi] at hlt
 have hlc : i < n.chains.length := by omega
 obtain ⟨a1,c1,a2,c2,g3,c3,us1,us2,us3,F3,rfl,p⟩ := h.opk (by omega)
 obtain ⟨W,hW,q,bn,bz,hsz⟩ := zbx w 26 (.slice a1 n.keys.length c1) (.slice a2 n.chains.length c2) (.slice (Option.some ⟨g3,0,none⟩) n.kids.length c3) (.slice none 0 0) (.slice none 0 0) (.slice none 0 0)
 have s0 := NdOf.start (lo := w.heap.size + 2) h q (by omega) (by omega)
 have hbs := zpk W s0.at' (i := i) (by omega) (by omega)
 have tn0 := bn.cell0
 have tn1 := bn.cell1
 have tn2 := bn.cell2
 obtain ⟨fs,hu,_⟩ := ndS.hu
 have hs1a := Nat.le_of_eq hsh1
 have hs1b := Nat.le_of_eq hsh1.symm
 have hkla := Nat.le_of_eq hkl
 have hklb := Nat.le_of_eq hkl.symm
 replace hi := Lib.hid hi
 replace his := Lib.hid his
 replace hsh1 := Lib.hid hsh1
 replace hkl := Lib.hid hkl
 clear e' p
 go_enter Tryz.func99,Tryz.ntmps99
 go_upto_region 1 with (fail)
 rw [← hW]
 clear hW hsz
 go_wp2_with fail
 refine hbs.mono ?_
 rintro e w1 ⟨⟨last,rfl⟩,hb1⟩
 obtain ⟨qx,hqx⟩ : ∃ qx,qx = (if last then i else i + 1) := ⟨_,rfl⟩
 have hql : qx < n.kids.length := by rw [hqx]; split <;> omega
 rw [← hqx]
 replace hqx := Lib.hid hqx
 have s1 := s0.more hb1
 have bn1 := bn.below hb1 bn.lt
 have bz1 := bz.below hb1 bz.lt
 clear bn bz tn0 tn1 tn2 s0 hbs
 obtain ⟨xa,xc,ya,yc,za,zc,G,k0,k1,k2,hat,hG,_⟩ := s1.kidAt hql
 have hwq : Wf d 1 3 (kidN n qx) := by rw [za3 hql]; exact hws _ (List.getElem_mem hql)
 have hom := zj1 w1 last hat hwq
 have tn0 := bn1.cell0
 have tn1 := bn1.cell1
 have tn2 := bn1.cell2
 go_wp2_with fail
 refine hom.mono ?_
 rintro e W1 ⟨pr,ka,kn,kc,ca,cn,cc,rfl,hout,hkr,hcr,hb2⟩
 have s2 := s1.more hb2
 have bn2 := bn1.below hb2 bn1.lt
 have bz2 := bz1.below hb2 bz1.lt
 replace hkr := hkr.below hb2
 replace hcr := hcr.below hb2
 clear bn1 bz1 tn0 tn1 tn2 hom hat hG k0 k1 k2 s1
 obtain ⟨us1,us2,us3,F3,p⟩ := s2.at'.own3
 obtain ⟨g1,c1',e1,_,hg1⟩ := p.r1.some (by omega)
 cases e1
 obtain ⟨g2,c2',e2,_,hg2⟩ := p.r2.some (by omega)
 cases e2
 have hl1 : i < us1.length := by rw [p.r1.len]; omega
 have hl2 : i < us2.length := by rw [p.r2.len]; omega
 have hN := zbm.1 s2.at'.nodup
 have n12 : g1 ≠ g2 := fun e => by
  have h1 := hN g1
  rw [p.fe] at h1
  simp only [List.count_append] at h1
  have h2 := (zan (.slice (Option.some ⟨g1,0,none⟩) n.keys.length c1) g1).2.2 rfl
  have h3 := (zan (.slice (Option.some ⟨g2,0,none⟩) n.chains.length c2) g1).2.2 (by rw [e]; rfl)
  omega
 have l1 : g1 < W1.heap.size := p.r1.lt rfl
 have l2 : g2 < W1.heap.size := p.r2.lt rfl
 have hnb : ∀ g,w.heap.size ≤ g → g < w.heap.size + 2 → g ≠ g1 ∧ g ≠ g2 := fun g h1 h2 => ⟨fun e => by
  rcases s2.fr g1 (by rw [p.fe]; simp [zah,Value.ownBlock]) with h3 | h3
  ·have := s2.lt g1 h3; omega
  ·omega,fun e => by
  rcases s2.fr g2 (by rw [p.fe]; simp [zah,Value.ownBlock]) with h3 | h3
  ·have := s2.lt g2 h3; omega
  ·omega⟩
 have hTr : ∀ (l : List Value) (W' : World),Chn W1 (TwoR g1 g2 (.slice (Option.some ⟨g1,0,none⟩) n.keys.length c1) (.slice (Option.some ⟨g2,0,none⟩) n.chains.length c2) n.keys.length n.chains.length (us1.set i (.slice ka kn kc)) (us2.set i (.slice ca cn cc))) l W' → Trd (fun k => ∃ p,p < l.length ∧ fpT g1 g2 p k) W1 W' := fun l W' h => Chn.trd twoR_trd h
 have hRN : ∀ (l : List Value) (W' : World),Chn W1 (TwoR g1 g2 (.slice (Option.some ⟨g1,0,none⟩) n.keys.length c1) (.slice (Option.some ⟨g2,0,none⟩) n.chains.length c2) n.keys.length n.chains.length (us1.set i (.slice ka kn kc)) (us2.set i (.slice ca cn cc))) l.reverse W' → TriV W' w.heap.size 26 (.slice (Option.some ⟨g1,0,none⟩) n.keys.length c1) (.slice (Option.some ⟨g2,0,none⟩) n.chains.length c2) (.slice (Option.some ⟨g3,0,none⟩) n.kids.length c3) := fun l W' h => ((hTr _ _ h).block _ bn2.lt (zri (hnb _ (by omega) (by omega)).1 (hnb _ (by omega) (by omega)).2 _)).trans bn2
 go_upto_region 3 with (fail)
 refine zao (K := K0 W1) (by kernel_rfl) (by kernel_rfl) [9,11] (by kernel_rfl) [lEq (.pointer (some ⟨w.heap.size,0 + 0,none⟩)),lEq (.slice (some ⟨g1,0,none⟩) n.keys.length c1),lEq (.int .i64 (i : Int)),lEq (.pointer (some ⟨w.heap.size,0 + 1,none⟩)),lEq (.slice (some ⟨g2,0,none⟩) n.chains.length c2),lEq (.int .i64 (i : Int)),lEq (.slice ka kn kc),lEq (.slice ca cn cc),lEq (.pointer (some ⟨g1,0 + i * 1,none⟩)),lAny,lEq (.pointer (some ⟨g2,0 + i * 1,none⟩)),lAny] (fun l W => Chn W1 (TwoR g1 g2 (.slice (Option.some ⟨g1,0,none⟩) n.keys.length c1) (.slice (Option.some ⟨g2,0,none⟩) n.chains.length c2) n.keys.length n.chains.length (us1.set i (.slice ka kn kc)) (us2.set i (.slice ca cn cc))) l.reverse W) (fun l A B h hb => Chn.more _ _ _ h hb) (show Below W1.heap.size W1 W1 from Below.refl _ _)
  ⟨?o0,?o1,?o2,?o3,?o4,?o5,?o6,?o7,?o8,?o9,?o10,?o11,trivial⟩ ?fin
 case o0 =>
  refine LnOp.side rfl (by kernel_rfl) (fun A va w' k' hF hT hk hJ hb hu hp hd => ?_)
  have e1 : A.eval (.tmp 2) = .pointer (some ⟨w.heap.size,0,none⟩) := hF 2 rfl
  exact zai ndS rfl (e1) (by omega) ⟨_,rfl,rfl,Below.refl _ _⟩
 case o1 =>
  refine LnOp.side rfl (by kernel_rfl) (fun A va w' k' hF hT hk hJ hb hu hp hd => ?_)
  have e1 : A.eval (.tmp 25) = .pointer (some ⟨w.heap.size,0 + 0,none⟩) := (hT 25 0 (by simp) rfl).trans (hd ⟨0,.data⟩ (by simp) rfl rfl)
  exact zad (e := 30) rfl (e1) (by kernel_rfl) ((hRN _ _ hJ).cell0) ⟨_,rfl,rfl,Below.refl _ _⟩
 case o2 =>
  refine LnOp.side rfl (by kernel_rfl) (fun A va w' k' hF hT hk hJ hb hu hp hd => ?_)
  have e1 : A.eval (.tmp 1) = .int .i64 (i : Int) := hF 1 rfl
  exact BigFrame.wp_move _ rfl ⟨_,rfl,e1,Below.refl _ _⟩
 case o3 =>
  refine LnOp.side rfl (by kernel_rfl) (fun A va w' k' hF hT hk hJ hb hu hp hd => ?_)
  have e1 : A.eval (.tmp 2) = .pointer (some ⟨w.heap.size,0,none⟩) := hF 2 rfl
  exact zai ndS rfl (e1) (by omega) ⟨_,rfl,rfl,Below.refl _ _⟩
 case o4 =>
  refine LnOp.side rfl (by kernel_rfl) (fun A va w' k' hF hT hk hJ hb hu hp hd => ?_)
  have e1 : A.eval (.tmp 28) = .pointer (some ⟨w.heap.size,0 + 1,none⟩) := (hT 28 3 (by simp) rfl).trans (hd ⟨3,.data⟩ (by simp) rfl rfl)
  exact zad (e := 70) rfl (e1) (by kernel_rfl) ((hRN _ _ hJ).cell1) ⟨_,rfl,rfl,Below.refl _ _⟩
 case o5 =>
  refine LnOp.side rfl (by kernel_rfl) (fun A va w' k' hF hT hk hJ hb hu hp hd => ?_)
  have e1 : A.eval (.tmp 1) = .int .i64 (i : Int) := hF 1 rfl
  exact BigFrame.wp_move _ rfl ⟨_,rfl,e1,Below.refl _ _⟩
 case o6 =>
  refine LnOp.side rfl (by kernel_rfl) (fun A va w' k' hF hT hk hJ hb hu hp hd => ?_)
  have e1 : A.eval (.tmp 7) = .slice ka kn kc := hF 7 rfl
  exact BigFrame.wp_move _ rfl ⟨_,rfl,e1,Below.refl _ _⟩
 case o7 =>
  refine LnOp.side rfl (by kernel_rfl) (fun A va w' k' hF hT hk hJ hb hu hp hd => ?_)
  have e1 : A.eval (.tmp 8) = .slice ca cn cc := hF 8 rfl
  exact BigFrame.wp_move _ rfl ⟨_,rfl,e1,Below.refl _ _⟩
 case o8 =>
  refine LnOp.side rfl (by kernel_rfl) (fun A va w' k' hF hT hk hJ hb hu hp hd => ?_)
  have e1 : A.eval (.tmp 26) = .slice (some ⟨g1,0,none⟩) n.keys.length c1 := (hT 26 1 (by simp) rfl).trans (hd ⟨1,.data⟩ (by simp) rfl rfl)
  have e2 : A.eval (.tmp 27) = .int .i64 (i : Int) := (hT 27 2 (by simp) rfl).trans (hd ⟨2,.data⟩ (by simp) rfl rfl)
  exact zc1 (e := 30) rfl (by kernel_rfl) (by kernel_rfl) (e1) (e2) rfl (by omega) ⟨_,rfl,rfl,Below.refl _ _⟩
 case o9 =>
  refine LnOp.line 0 rfl rfl (fun A va w' hF hT hJ hu hd => ?_)
  have e1 : A.eval (.tmp 33) = .pointer (some ⟨g1,0 + i * 1,none⟩) := (hT 33 8 (by simp) rfl).trans (hd ⟨8,.data⟩ (by simp) rfl rfl)
  have e2 : A.eval (.tmp 31) = .slice ka kn kc := (hT 31 6 (by simp) rfl).trans (hd ⟨6,.data⟩ (by simp) rfl rfl)
  have hB : Below W1.heap.size W1 w' := hJ
  rw [Nat.zero_add,Nat.mul_one] at e1
  refine zi6 rfl (by kernel_rfl) e1 e2 (p.r1.below hB) rfl hl1 (fun w2 hg hr => ?_)
  exact ⟨_,rfl,⟨w',w2,hJ,⟨hg,hr⟩,Below.refl _ _⟩,Trd.ofGrown hg fun g hk => by injection hk with hk; omega⟩
 case o10 =>
  refine LnOp.side rfl (by kernel_rfl) (fun A va w' k' hF hT hk hJ hb hu hp hd => ?_)
  have e1 : A.eval (.tmp 29) = .slice (some ⟨g2,0,none⟩) n.chains.length c2 := (hT 29 4 (by simp) rfl).trans (hd ⟨4,.data⟩ (by simp) rfl rfl)
  have e2 : A.eval (.tmp 30) = .int .i64 (i : Int) := (hT 30 5 (by simp) rfl).trans (hd ⟨5,.data⟩ (by simp) rfl rfl)
  exact zc1 (e := 70) rfl (by kernel_rfl) (by kernel_rfl) (e1) (e2) rfl (by omega) ⟨_,rfl,rfl,Below.refl _ _⟩
 case o11 =>
  refine LnOp.line 1 rfl rfl (fun A va w' hF hT hJ hu hd => ?_)
  have e1 : A.eval (.tmp 34) = .pointer (some ⟨g2,0 + i * 1,none⟩) := (hT 34 10 (by simp) rfl).trans (hd ⟨10,.data⟩ (by simp) rfl rfl)
  have e2 : A.eval (.tmp 32) = .slice ca cn cc := (hT 32 7 (by simp) rfl).trans (hd ⟨7,.data⟩ (by simp) rfl rfl)
  have hJ' : Chn W1 (TwoR g1 g2 (.slice (Option.some ⟨g1,0,none⟩) n.keys.length c1) (.slice (Option.some ⟨g2,0,none⟩) n.chains.length c2) n.keys.length n.chains.length (us1.set i (.slice ka kn kc)) (us2.set i (.slice ca cn cc))) [va 9] w' := hJ
  have hr2 := p.r2.trd (hTr _ _ hJ') (fun g hg => by injection hg with hg; rintro ⟨p,hp,hf⟩; rcases p with _ | p; have hf' : g = g1 := hf; exact n12 (hf'.symm.trans hg.symm); simp only [List.length_cons,List.length_nil] at hp; omega)
  rw [Nat.zero_add,Nat.mul_one] at e1
  refine zi6 rfl (by kernel_rfl) e1 e2 hr2 rfl hl2 (fun w2 hg hr => ?_)
  exact ⟨_,rfl,⟨w',w2,hJ,⟨hg,hr⟩,Below.refl _ _⟩,Trd.ofGrown hg fun g hk => by injection hk with hk; omega⟩
 case fin =>
  intro vs1 W9 hJ hGG
  clear hGG
  have hJc : Chn W1 (TwoR g1 g2 (.slice (Option.some ⟨g1,0,none⟩) n.keys.length c1) (.slice (Option.some ⟨g2,0,none⟩) n.chains.length c2) n.keys.length n.chains.length (us1.set i (.slice ka kn kc)) (us2.set i (.slice ca cn cc))) [vs1 11,vs1 9] W9 := hJ
  have hT9 := hTr _ _ hJc
  obtain ⟨Wb1,Wb2,hJ1,⟨hgb,hrb⟩,hb9⟩ := hJc
  obtain ⟨Wa1,Wa2,hJ0,⟨hga,hra⟩,hba⟩ := hJ1
  have hJ0' : Below W1.heap.size W1 Wa1 := hJ0
  have s3 := s2.more hJ0'
  have hfl : Flat Elt.bytes D Wa1 (n.keys.set i pr.key) (us1.set i (.slice ka kn kc)) := (p.l1.set rfl ⟨_,rfl,hkr⟩ hlt).keep fun g hd => hJ0'.block g (s2.at'.data g hd)
  have hfl2 : Flat (Elt.list Elt.ver) D W1 (n.chains.set i pr.chain) (us2.set i (.slice ca cn cc)) := p.l2.set rfl ⟨_,rfl,hcr⟩ hlc
  obtain ⟨F4,s4⟩ := s3.keys (ks := n.keys.set i pr.key) (us := us1.set i (.slice ka kn kc)) (V1' := .slice (Option.some ⟨g1,0,none⟩) n.keys.length c1) ⟨by rw [List.length_set]; exact hra,hga,.inl rfl⟩ hfl
  have s5 := s4.more hba
  obtain ⟨F6,s6⟩ := s5.chains (cs := n.chains.set i pr.chain) (us := us2.set i (.slice ca cn cc)) (V2' := .slice (Option.some ⟨g2,0,none⟩) n.chains.length c2) ⟨by rw [List.length_set]; exact hrb,hgb,.inl rfl⟩ (hfl2.keep fun g hd => by
   have h1 := s5.trd.block g (h.data g hd) fun hm => h.free g hm hd
   have h2 := s2.trd.block g (h.data g hd) fun hm => h.free g hm hd
   exact h1.trans h2.symm)
  have s9 : NdOf D w (w.heap.size + 2) F W9 (.agg #[.slice (Option.some ⟨g1,0,none⟩) n.keys.length c1,.slice (Option.some ⟨g2,0,none⟩) n.chains.length c2,.slice (Option.some ⟨g3,0,none⟩) n.kids.length c3]) (zeo n i pr) F6 := s6.more hb9
  have bn9 := hRN _ _ hJ
  have bz9 : TriV W9 (w.heap.size + 1) 26 _ _ _ := (hT9.block _ bz2.lt (zri (hnb _ (by omega) (by omega)).1 (hnb _ (by omega) (by omega)).2 _)).trans bz2
  have hkr9 : RdS D W9 (.slice ka kn kc) pr.key := hkr.keep fun g hd => by
   have h1 := s9.trd.block g (h.data g hd) fun hm => h.free g hm hd
   have h2 := s2.trd.block g (h.data g hd) fun hm => h.free g hm hd
   exact h1.trans h2.symm
  have e1 : (zeo n i pr).keys.length = n.keys.length := by show (n.keys.set i pr.key).length = _; rw [List.length_set]
  have e2 : (zeo n i pr).chains.length = n.chains.length := by show (n.chains.set i pr.chain).length = _; rw [List.length_set]
  have hpq : Pn d (kidN n qx) := by
   obtain ⟨d2,e3,_,_,h4,_,_⟩ := hp.kid hql
   obtain rfl : d = d2 := by omega
   rw [za3 hql]; exact h4
  have hred := ihR W9 D _ _ _ qx ka kn kc pr.key D s9.at' (by rw [e1,e2]; exact hsh1.out) (by rw [e1]; exact hkl.out) (by rw [e1]; omega) (by rw [e1]; exact hkk) hws hql hpq (out_find hpq.srt hout) hkr9
  have hfin : ∀ m,DelN d (kidN n qx) pr.key m → DelN (d + 1) n k (zay (zbl (zeo n i pr) qx m) qx) := fun m hm => del_is hp his.out hi.out hk0 hqx.out hql (by rw [← za3 hql]; exact hout) (by rw [← za3 hql]; exact hm)
  clear e1 e2 hJ hTr hRN hT9 hJ0 hJ0' hga hra hba hgb hrb hb9 s3 s4 s5 s6 s2 p hfl hfl2 bn2 bz2 hkr hcr
  have tn0 := bn9.cell0
  have tn1 := bn9.cell1
  have tn2 := bn9.cell2
  simp only [zae]
  go_simp
  go_wp2_with fail
  refine hred.mono ?_
  rintro e w4 hto
  obtain ⟨v2,n2,F2,rfl,⟨m,hm,hq⟩,sA,t2⟩ := s9.step hto
  obtain ⟨a1',c1',a2',c2',a3',c3',_,_,_,_,rfl,p2⟩ := sA.at'.opn
  have bzA := s9.tri t2 (b := w.heap.size + 1) (by omega) (by omega) bz9
  clear bn9 bz9 hto t2 tn0 tn1 tn2 s9 p2 hred
  replace hq := Lib.hid hq
  go_wp2_with (first | (refine zaf rfl rfl rfl rfl rfl rfl rfl rfl bzA ?_; intro w5 hg5 bz5) | fail)
  have s5 := sA.box hg5 (by omega) (by omega)
  exact bodyPost_ret (v := .agg #[.slice a1' n2.keys.length c1',.slice a2' n2.chains.length c2',.slice a3' n2.kids.length c3']) (by simp [results,Tryz.results99,go_sem,loadVar,isAgg,run_underlying hu,zab ndS.hs,loadCellsFrom,Addr.add,bz5.cell0,bz5.cell1,bz5.cell2]) rfl (s5.ret (by rw [hq.out]; exact hfin m hm))
theorem zgr (d:Nat) (ihR:∀ d',d=d'+1→zig d'):zie d:=by
 intro w D v n F ka kn kc k S2 h hp hf hk
 obtain⟨a1,c1,a2,c2,a3,c3,us1,us2,us3,F3,rfl,p⟩:=h.opn
 obtain⟨W,hW,q,bn,bz,hsz⟩:=zbx w 26 (.slice a1 n.keys.length c1) (.slice a2 n.chains.length c2) (.slice a3 n.kids.length c3) (.slice none 0 0) (.slice none 0 0) (.slice none 0 0)
 have s0:=NdOf.start (lo:=w.heap.size+2) h q (by omega) (by omega)
 have hkk:=hp.wf.keys.2
 obtain⟨hsh1,hsh2⟩:=hp.wf.shape
 have hpl:=zfw W s0.at'.rdN hp.ris (by omega) (hk.below q)
 obtain⟨i,hi⟩:∃ i,i=plcF n.keys k:=⟨_,rfl⟩
 obtain⟨is,his⟩:∃ is,is=isF n.keys k:=⟨_,rfl⟩
 rw [← hi,← his] at hpl
 have tn0:=bn.cell0
 have tn1:=bn.cell1
 have tn2:=bn.cell2
 have hile:i≤n.keys.length:=by rw [hi];exact zfu _ _
 obtain⟨fs,hu,_⟩:=ndS.hu
 clear p
 have hle:=fun W'=>ze8 W' (x:=.slice a1 n.keys.length c1) (y:=.slice a2 n.chains.length c2) (a:=a3) (n:=n.kids.length) (c:=c3)
 have hs1a:=Nat.le_of_eq hsh1
 have hs1b:=Nat.le_of_eq hsh1.symm
 rcases Nat.eq_zero_or_pos n.kids.length with hk0 | hk0
 ·have hdk:decide (n.kids.length=0)=true:=decide_eq_true hk0
  rw [hdk] at hle
  have ht:is=true:=by
   cases is with
   | true=>rfl
   | false=>exact absurd (zlz hp his.symm (List.length_eq_zero_iff.1 hk0)) hf
  obtain⟨hlt,_⟩:=zgx (his.symm.trans ht)
  rw [← hi] at hlt
  have hdel:=del_leaf hp (his.symm.trans ht) (List.length_eq_zero_iff.1 hk0)
  rw [← hi] at hdel
  clear ht
  replace hi:=Lib.hid hi
  replace his:=Lib.hid his
  replace hsh1:=Lib.hid hsh1
  replace hsh2:=Lib.hid hsh2
  replace hdk:=Lib.hid hdk
  replace hk0:=Lib.hid hk0
  replace hf:=Lib.hid hf
  go_enter Tryz.func85,Tryz.ntmps85
  go_upto_region 1 with (fail)
  rw [← hW]
  clear hW hsz
  go_wp2_with fail
  refine hpl.mono ?_
  rintro e w1⟨rfl,hb1⟩
  have s1:=s0.more hb1
  have bn1:=bn.below hb1 bn.lt
  have bz1:=bz.below hb1 bz.lt
  clear bn bz tn0 tn1 tn2 s0 hpl
  have tn0:=bn1.cell0
  have tn1:=bn1.cell1
  have tn2:=bn1.cell2
  go_wp2_with fail
  refine (hle w1).mono ?_
  rintro e w2⟨rfl,hb2⟩
  have s2:=s1.more hb2
  have bn2:=bn1.below hb2 bn1.lt
  have bz2:=bz1.below hb2 bz1.lt
  clear bn1 bz1 tn0 tn1 tn2 s1 hle
  have tn0:=bn2.cell0
  obtain⟨us1,us2,us3,F3,p⟩:=s2.at'.own3
  have hne:∀ g,Value.ownBlock (.slice a1 n.keys.length c1)=Option.some g→g<w.heap.size:=fun g hg=>by
   have:g∈F:=by rw [p.fe];simp [zah,hg]
   exact s2.lt g this
  have hdk:=zok w2 (i:=i) (j:=(i:Int)+1) p.r1 hlt rfl (by omega)
  go_wp2_with fail
  refine hdk.mono ?_
  rintro e w4⟨V1',rfl,hR⟩
  obtain⟨A1,C1,rfl,_,_⟩:=hR.row.shape
  have eln:(n.keys.take i++n.keys.drop (i+1)).length=n.keys.length - 1:=by
   simp only [List.length_append,List.length_take,List.length_drop];omega
  obtain⟨F4,s4⟩:=s2.keys (ks:=n.keys.take i++n.keys.drop (i+1)) (by rw [eln];exact hR) ((Flat.take p.l1 i).append (Flat.drop p.l1 (i+1)))
  have hRt:=hR.trd
  have bn4:TriV w4 w.heap.size 26 _ _ _:=(hRt.block _ bn2.lt (fun hg=>by have:=hne _ hg;omega)).trans bn2
  have bz4:TriV w4 (w.heap.size+1) 26 _ _ _:=(hRt.block _ bz2.lt (fun hg=>by have:=hne _ hg;omega)).trans bz2
  clear tn0 bn2 bz2 s2 p hR hRt hne hdk
  replace eln:=Lib.hid eln
  go_upto_region 4 with (first
   | (refine zhe rfl rfl rfl (by kernel_rfl) rfl rfl bn4 ?_;intro w5 hg5 bn5)
   | fail)
  have s5:=s4.box hg5 (Nat.le_refl _) (by omega)
  have bz5:=bz4.other hg5 (by omega)
  clear bn4 bz4 s4 hg5
  have tn1:=bn5.cell1
  obtain⟨us1,us2,us3,F3,p⟩:=s5.at'.own3
  have hne:∀ g,Value.ownBlock (.slice a2 n.chains.length c2)=Option.some g→g∈F∨w.heap.size+2≤g:=fun g hg=>s5.fr g (by rw [p.fe];simp [zah,hg])
  have hdc:=zol w5 (i:=i) (j:=(i:Int)+1) p.r2 (by show i<n.chains.length;omega) rfl (by show n.chains.length≤1000000;omega)
  go_wp2_with fail
  refine hdc.mono ?_
  rintro e w7⟨V2',rfl,hR⟩
  obtain⟨A2,C2,rfl,_,_⟩:=hR.row.shape
  have eln2:(n.chains.take i++n.chains.drop (i+1)).length=n.chains.length - 1:=by
   simp only [List.length_append,List.length_take,List.length_drop];omega
  obtain⟨F7,s7⟩:=s5.chains (cs:=n.chains.take i++n.chains.drop (i+1)) (by rw [eln2];exact hR) ((Flat.take p.l2 i).append (Flat.drop p.l2 (i+1)))
  have hRt:=hR.trd
  have bn7:TriV w7 w.heap.size 26 _ _ _:=(hRt.block _ bn5.lt (fun hg=>by rcases hne _ hg with h1 | h1;have:=s5.lt _ h1;omega;omega)).trans bn5
  have bz7:TriV w7 (w.heap.size+1) 26 _ _ _:=(hRt.block _ bz5.lt (fun hg=>by rcases hne _ hg with h1 | h1;have:=s5.lt _ h1;omega;omega)).trans bz5
  clear tn1 bn5 bz5 s5 p hR hRt hne hdc hb2 hb1
  replace eln2:=Lib.hid eln2
  go_upto_region 5 with (first
   | (refine zhd rfl rfl rfl (by kernel_rfl) rfl rfl bn7 ?_;intro w8 hg8 bn8)
   | fail)
  have s8:=s7.box hg8 (Nat.le_refl _) (by omega)
  have bz8:=bz7.other hg8 (by omega)
  have tn0:=bn8.cell0
  have tn1:=bn8.cell1
  have tn2:=bn8.cell2
  clear bn7 bz7 s7 hg8
  go_wp2_with (first | (refine zaf rfl rfl rfl rfl rfl rfl rfl rfl bz8 ?_;intro w9 hg9 bz9) | fail)
  have s9:=s8.box hg9 (by omega) (by omega)
  exact bodyPost_ret (v:=.agg #[_,_,_]) (by simp [results,Tryz.results85,go_sem,loadVar,isAgg,run_underlying hu,zab ndS.hs,loadCellsFrom,Addr.add,bz9.cell0,bz9.cell1,bz9.cell2]) rfl (s9.ret hdel)
 ·have hdk:decide (n.kids.length=0)=false:=decide_eq_false (by omega)
  rw [hdk] at hle
  obtain⟨d',rfl,hd',hkl,_,_,hws⟩:=hp.kid hk0
  have ilt:i<n.kids.length:=by omega
  obtain⟨d2,e',e5,e6,hpk,e7,e8⟩:=hp.kid ilt
  obtain rfl:d'=d2:=by omega
  clear e5 e6 e7 e8 e'
  rw [← za3 ilt] at hpk
  have hn1:1≤n.keys.length:=by rcases hp.ne with h1 | h1;omega;exact h1
  have hredAt:=ihR _ rfl
  have hkla:=Nat.le_of_eq hkl
  have hklb:=Nat.le_of_eq hkl.symm
  cases is with
  | true =>
   have hrep:=fun (w':World) (hq:Below W.heap.size W w')=>zjj d' hredAt w' D _ n F i k ((s0.more hq).at') hp his.symm hi hk0
   replace hi:=Lib.hid hi
   replace his:=Lib.hid his
   replace hsh1:=Lib.hid hsh1
   replace hsh2:=Lib.hid hsh2
   replace hkl:=Lib.hid hkl
   replace hdk:=Lib.hid hdk
   replace hf:=Lib.hid hf
   go_enter Tryz.func85,Tryz.ntmps85
   go_upto_region 1 with (fail)
   rw [← hW]
   clear hW hsz
   go_wp2_with fail
   refine hpl.mono ?_
   rintro e w1⟨rfl,hb1⟩
   have bn1:=bn.below hb1 bn.lt
   have bz1:=bz.below hb1 bz.lt
   clear bn bz tn0 tn1 tn2 hpl
   have tn0:=bn1.cell0
   have tn1:=bn1.cell1
   have tn2:=bn1.cell2
   go_wp2_with fail
   refine (hle w1).mono ?_
   rintro e w2⟨rfl,hb2⟩
   have hb12:=hb1.trans (hb2.mono hb1.size)
   have s2:=s0.more hb12
   have bn2:=bn1.below hb2 bn1.lt
   have bz2:=bz1.below hb2 bz1.lt
   have hre:=hrep w2 hb12
   clear bn1 bz1 tn0 tn1 tn2 s0 hle hrep
   have tn0:=bn2.cell0
   have tn1:=bn2.cell1
   have tn2:=bn2.cell2
   go_wp2_with fail
   refine hre.mono ?_
   rintro e w4 hto
   obtain⟨v2,n2,F2,rfl,hq,sA,t2⟩:=s2.step hto
   obtain⟨a1',c1',a2',c2',a3',c3',_,_,_,_,rfl,p2⟩:=sA.at'.opn
   have bzA:=s2.tri t2 (b:=w.heap.size+1) (by omega) (by omega) bz2
   clear bn2 bz2 hto t2 tn0 tn1 tn2 s2 p2 hre
   go_wp2_with (first | (refine zaf rfl rfl rfl rfl rfl rfl rfl rfl bzA ?_;intro w5 hg5 bz5) | fail)
   have s5:=sA.box hg5 (by omega) (by omega)
   exact bodyPost_ret (v:=.agg #[.slice a1' n2.keys.length c1',.slice a2' n2.chains.length c2',.slice a3' n2.kids.length c3']) (by simp [results,Tryz.results85,go_sem,loadVar,isAgg,run_underlying hu,zab ndS.hs,loadCellsFrom,Addr.add,bz5.cell0,bz5.cell1,bz5.cell2]) rfl (s5.ret hq)
  | false =>
   have hfk:zaw (zaa (kidN n i)) k≠none:=by
    subst hi
    rw [za3 ilt,← zrn hp his.symm ilt];exact hf
   have hred:=fun (w':World) (hq:Below W.heap.size W w')=>hredAt w' D _ n F i ka kn kc k S2 ((s0.more hq).at') hsh1 hkl hn1 hkk hws ilt hpk hfk ((hk.below q).below hq)
   have hfin:∀ m,DelN d' (kidN n i) k m→DelN (d'+1) n k (zay (zbl n i m) i):=by
    intro m hm
    subst hi
    exact del_in hp his.symm ilt (by rw [← za3 ilt];exact hm)
   replace hi:=Lib.hid hi
   replace his:=Lib.hid his
   replace hsh1:=Lib.hid hsh1
   replace hsh2:=Lib.hid hsh2
   replace hkl:=Lib.hid hkl
   replace hdk:=Lib.hid hdk
   replace hf:=Lib.hid hf
   replace hfk:=Lib.hid hfk
   go_enter Tryz.func85,Tryz.ntmps85
   go_upto_region 1 with (fail)
   rw [← hW]
   clear hW hsz
   go_wp2_with fail
   refine hpl.mono ?_
   rintro e w1⟨rfl,hb1⟩
   have bn1:=bn.below hb1 bn.lt
   have bz1:=bz.below hb1 bz.lt
   clear bn bz tn0 tn1 tn2 hpl
   have tn0:=bn1.cell0
   have tn1:=bn1.cell1
   have tn2:=bn1.cell2
   go_wp2_with fail
   refine (hle w1).mono ?_
   rintro e w2⟨rfl,hb2⟩
   have hb12:=hb1.trans (hb2.mono hb1.size)
   have s2:=s0.more hb12
   have bn2:=bn1.below hb2 bn1.lt
   have bz2:=bz1.below hb2 bz1.lt
   have hre:=hred w2 hb12
   clear bn1 bz1 tn0 tn1 tn2 s0 hle hred
   have tn0:=bn2.cell0
   have tn1:=bn2.cell1
   have tn2:=bn2.cell2
   go_wp2_with fail
   refine hre.mono ?_
   rintro e w4 hto
   obtain⟨v2,n2,F2,rfl,⟨m,hm,hq⟩,sA,t2⟩:=s2.step hto
   obtain⟨a1',c1',a2',c2',a3',c3',_,_,_,_,rfl,p2⟩:=sA.at'.opn
   have bzA:=s2.tri t2 (b:=w.heap.size+1) (by omega) (by omega) bz2
   clear bn2 bz2 hto t2 tn0 tn1 tn2 s2 p2 hre
   replace hq:=Lib.hid hq
   go_wp2_with (first | (refine zaf rfl rfl rfl rfl rfl rfl rfl rfl bzA ?_;intro w5 hg5 bz5) | fail)
   have s5:=sA.box hg5 (by omega) (by omega)
   exact bodyPost_ret (v:=.agg #[.slice a1' n2.keys.length c1',.slice a2' n2.chains.length c2',.slice a3' n2.kids.length c3']) (by simp [results,Tryz.results85,go_sem,loadVar,isAgg,run_underlying hu,zab ndS.hs,loadCellsFrom,Addr.add,bz5.cell0,bz5.cell1,bz5.cell2]) rfl (s5.ret (by rw [hq.out];exact hfin m hm))
theorem zhg:∀ d,zie d
 | 0=>zgr 0 fun _ h=>by cases h
 | d+1=>zgr (d+1) fun d' h=>by cases h;exact zlc d (zhg d)
end Go.Proofs.YtlpfhgdnmjkngaaGreat
