/-
  TEXTS OF ONE PROOF, merged: DltD, Qui, DltZ, Dlv, Push, Ints, DltA, DltB, DltC.
-/
import Derived.BigQuiet
import Derived.Deep.Cut
import Derived.Shelf.Abstract
import Derived.Test.YtjbdkhddnblieaaMa2
namespace Go.Proofs.Ytjbdkhddnblieaa
open Go.RowKit Go.Shelf
theorem boxes2 (w : World) (t t2 : TypeId) (us vs : List Value) : ∃ W, W = (w.alloc (.cells us.toArray t)).alloc (.cells vs.toArray t2) ∧ Below w.heap.size w W ∧ BoxN W w.heap.size t us ∧ BoxN W (w.heap.size + 1) t2 vs ∧ W.heap.size = w.heap.size + 1 + 1 := by
  have h1 : Below w.heap.size w (w.alloc (.cells us.toArray t)) := (Below.refl _ _).alloc (Nat.le_refl _) _
  have s1 : (w.alloc (.cells us.toArray t)).heap.size = w.heap.size + 1 := World.size_alloc _ _
  have b1 := BoxN.new w t us
  generalize w.alloc (.cells us.toArray t) = w1 at *
  have h2 : Below w1.heap.size w1 (w1.alloc (.cells vs.toArray t2)) := (Below.refl _ _).alloc (Nat.le_refl _) _
  have s2 : (w1.alloc (.cells vs.toArray t2)).heap.size = w1.heap.size + 1 := World.size_alloc _ _
  have b2 := BoxN.new w1 t2 vs
  rw [s1] at b2 s2
  exact ⟨_, rfl, h1.trans (h2.mono h1.size), b1.below h2 b1.lt, b2, s2⟩
def NewS (W V : World) (k : Value) (xs : List UInt8) : Prop := ∃ a c, k = .slice a xs.length c ∧ RdS (fun g => W.heap.size ≤ g ∧ g < V.heap.size) V (.slice a xs.length c) xs
theorem NewS.below {W V V' : World} {k : Value} {xs : List UInt8} (h : NewS W V k xs) (hb : Below V.heap.size V V') : NewS W V' k xs := by
  obtain ⟨a, c, e, hr⟩ := h
  exact ⟨a, c, e, (hr.below hb).weak fun g hg => ⟨hg.1, Nat.lt_of_lt_of_le hg.2 hb.size⟩⟩
theorem NewS.grown {W V V' : World} {k : Value} {xs : List UInt8} {b : Nat} (h : NewS W V k xs) (hg : V.grownBy V' (some b)) (hb : b < W.heap.size) : NewS W V' k xs := by
  obtain ⟨a, c, e, hr⟩ := h
  exact ⟨a, c, e, (hr.keep fun k hk => hg.block k hk.2 fun e => by injection e with e; have := hk.1; omega).weak fun g h => ⟨h.1, Nat.lt_of_lt_of_le h.2 hg.size⟩⟩
theorem NewS.of {W V V' : World} {E : TypeId} {a : Option Addr} {k c : Nat} {xs : List UInt8} (h : Below W.heap.size W V) (hf : Fresh E V V' (.slice a k c) xs) : NewS W V' (.slice a k c) xs := by
  obtain rfl : k = xs.length := hf.len
  exact ⟨a, c, rfl, hf.2.rdS.weak fun g hg => ⟨Nat.le_trans h.size hg.1, hg.2⟩⟩
def AlnJ (W : World) (b : Nat) (x : Wr) : List Value → World → Prop
  | [], V => Below W.heap.size W V
  | [k], V => Below W.heap.size W V ∧ NewS W V k x.key
  | [k, v], V => Below W.heap.size W V ∧ NewS W V k x.key ∧ NewS W V v x.val
  | [k, v, _], V => W.grownBy V (some b) ∧ (∃ v0, BoxN V b 28 [.int .i64 x.table, k, .bool x.gone, v0]) ∧ NewS W V k x.key ∧ NewS W V v x.val
  | _, V => W.grownBy V (some b) ∧ ∃ k v, BoxN V b 28 [.int .i64 x.table, k, .bool x.gone, v] ∧ NewS W V k x.key ∧ NewS W V v x.val
theorem AlnJ.below {W : World} {b : Nat} {x : Wr} : ∀ (l : List Value) (V V' : World), AlnJ W b x l V → Below V.heap.size V V' → AlnJ W b x l V'
  | [], _, _, h, hb => Below.trans h (hb.mono (Below.size h))
  | [_], _, _, ⟨h, h1⟩, hb => ⟨h.trans (hb.mono h.size), h1.below hb⟩
  | [_, _], _, _, ⟨h, h1, h2⟩, hb => ⟨h.trans (hb.mono h.size), h1.below hb, h2.below hb⟩
  | [_, _, _], _, _, ⟨h, ⟨v0, h0⟩, h1, h2⟩, hb => ⟨grown_trans h (grown_below' hb _), ⟨v0, h0.below hb h0.lt⟩, h1.below hb, h2.below hb⟩
  | _ :: _ :: _ :: _ :: _, _, _, ⟨h, k, v, h0, h1, h2⟩, hb => ⟨grown_trans h (grown_below' hb _), k, v, h0.below hb h0.lt, h1.below hb, h2.below hb⟩
def WrEnd (w : World) (x : Wr) (e : Ending) (w' : World) : Prop := ∃ v, e = .returned v ∧ RdWr (fun k => w.heap.size ≤ k ∧ k < w'.heap.size) w' v x ∧ Below w.heap.size w w'
set_option maxRecDepth 100000 in
set_option maxHeartbeats 4000000 in
theorem dAlone_any (w : World) {S : Nat → Prop} {v : Value} {x : Wr} (h : RdWr S w v x) (h1 : x.key.length ≤ 1000000) (h2 : x.val.length ≤ 1000000) :
    Calls Try.prog 31 #[v] w (WrEnd w x) := by
  obtain ⟨a, c, a2, c2, rfl, hk, hv, ht⟩ := h
  obtain ⟨W, hW, q, bn, bz, hsz⟩ := boxes2 w 28 28 [.int .i64 x.table, .slice a x.key.length c, .bool x.gone, .slice a2 x.val.length c2] [.int .i64 0, .slice none 0 0, .bool false, .slice none 0 0]
  have eK : ∀ args w, (callFunc 48 args).run Try.prog w = .ok (.enter 48 args) w := enters_of Try.func48 (by kernel_rfl) rfl
  go_enter Try.func31, Try.ntmps31
  go_upto_region 1 with (fail)
  rw [show (w.alloc (.cells #[.int .i64 x.table, .slice a x.key.length c, .bool x.gone, .slice a2 x.val.length c2] 28)).alloc (.cells #[.int .i64 0, .slice none 0 0, .bool false, .slice none 0 0] 28) = W from hW.symm]
  clear hW
  have hk' := hk.below q
  have hv' := hv.below q
  refine wp_region_lnl (K := fun A B => A.grownBy B (some w.heap.size)) (by kernel_rfl) (by kernel_rfl) [2, 5, 7, 9] (by kernel_rfl) [lEq (.pointer (some ⟨w.heap.size, 0 + 1, none⟩)), lEq (.slice a x.key.length c), lAny, lEq (.pointer (some ⟨w.heap.size, 0 + 3, none⟩)), lEq (.slice a2 x.val.length c2), lAny, lEq (.pointer (some ⟨w.heap.size, 0 + 1, none⟩)), lAny, lEq (.pointer (some ⟨w.heap.size, 0 + 3, none⟩)), lAny] (AlnJ W w.heap.size x) AlnJ.below (show Below W.heap.size W W from Below.refl _ _)
    ⟨?o0, ?o1, ?o2, ?o3, ?o4, ?o5, ?o6, ?o7, ?o8, ?o9, trivial⟩ ?fin
  case o0 =>
    refine LnOp.side rfl (by kernel_rfl) (fun A va w' k hF hT hk hJ hb hu hp hd => ?_)
    have e1 : A.eval (.tmp 1) = .pointer (some ⟨w.heap.size, 0, none⟩) := hF 1 rfl
    exact wp_fieldN wrS rfl (e1) (by omega) ⟨_, rfl, rfl, Below.refl _ _⟩
  case o1 =>
    refine LnOp.side rfl (by kernel_rfl) (fun A va w' k hF hT hk hJ hb hu hp hd => ?_)
    have e1 : A.eval (.tmp 3) = .pointer (some ⟨w.heap.size, 0 + 1, none⟩) := (hT 3 0 (by simp) rfl).trans (hd ⟨0, .data⟩ (by simp) rfl rfl)
    obtain rfl : k = 0 := by have := hb 0 2 rfl (by kernel_rfl); omega
    have hJ0 : Below W.heap.size W w' := hJ
    exact wp_ld_slice (e := 5) rfl e1 (by kernel_rfl) ((bn.below (hJ0.mono (by omega)) bn.lt).cell (i := 1) rfl) ⟨_, rfl, rfl, Below.refl _ _⟩
  case o2 =>
    refine LnOp.line 0 rfl rfl (fun A va w' hF hT hJ hu hd => ?_)
    have e1 : A.eval (.tmp 4) = .slice a x.key.length c := (hT 4 1 (by simp) rfl).trans (hd ⟨1, .data⟩ (by simp) rfl rfl)
    have hJ0 : Below W.heap.size W w' := hJ
    have hB : Below w.heap.size w w' := q.trans (hJ0.mono q.size)
    refine wp_callFn rfl eK (by simp only [List.map_toArray, List.map_cons, List.map_nil, e1]) ((clone_any w' (hk.below hB).rd (Nat.le_refl _) h1).mono ?_)
    rintro e w2 ⟨ad, k', c', rfl, hf⟩
    exact ⟨_, rfl, _, rfl, ⟨hJ0.trans (hf.1.mono hJ0.size), NewS.of hJ0 hf⟩, grown_below' hf.1 _⟩
  case o3 =>
    refine LnOp.side rfl (by kernel_rfl) (fun A va w' k hF hT hk hJ hb hu hp hd => ?_)
    have e1 : A.eval (.tmp 1) = .pointer (some ⟨w.heap.size, 0, none⟩) := hF 1 rfl
    exact wp_fieldN wrS rfl (e1) (by omega) ⟨_, rfl, rfl, Below.refl _ _⟩
  case o4 =>
    refine LnOp.side rfl (by kernel_rfl) (fun A va w' k hF hT hk hJ hb hu hp hd => ?_)
    have e1 : A.eval (.tmp 6) = .pointer (some ⟨w.heap.size, 0 + 3, none⟩) := (hT 6 3 (by simp) rfl).trans (hd ⟨3, .data⟩ (by simp) rfl rfl)
    have hJ0 : Below W.heap.size W w' := by
      have h5 := hb 1 5 rfl (by kernel_rfl)
      rcases k with _ | _ | k
      · exact hJ
      · exact hJ.1
      · omega
    exact wp_ld_slice (e := 5) rfl e1 (by kernel_rfl) ((bn.below (hJ0.mono (by omega)) bn.lt).cell (i := 3) rfl) ⟨_, rfl, rfl, Below.refl _ _⟩
  case o5 =>
    refine LnOp.line 1 rfl rfl (fun A va w' hF hT hJ hu hd => ?_)
    have e1 : A.eval (.tmp 7) = .slice a2 x.val.length c2 := (hT 7 4 (by simp) rfl).trans (hd ⟨4, .data⟩ (by simp) rfl rfl)
    obtain ⟨hJ0, hJ1⟩ := hJ
    have hB : Below w.heap.size w w' := q.trans (hJ0.mono q.size)
    refine wp_callFn rfl eK (by simp only [List.map_toArray, List.map_cons, List.map_nil, e1]) ((clone_any w' (hv.below hB).rd (Nat.le_refl _) h2).mono ?_)
    rintro e w2 ⟨ad, k', c', rfl, hf⟩
    exact ⟨_, rfl, _, rfl, ⟨hJ0.trans (hf.1.mono hJ0.size), hJ1.below hf.1, NewS.of hJ0 hf⟩, grown_below' hf.1 _⟩
  case o6 =>
    refine LnOp.side rfl (by kernel_rfl) (fun A va w' k hF hT hk hJ hb hu hp hd => ?_)
    have e1 : A.eval (.tmp 1) = .pointer (some ⟨w.heap.size, 0, none⟩) := hF 1 rfl
    exact wp_fieldN wrS rfl (e1) (by omega) ⟨_, rfl, rfl, Below.refl _ _⟩
  case o7 =>
    refine LnOp.line 2 rfl rfl (fun A va w' hF hT hJ hu hd => ?_)
    have e1 : A.eval (.tmp 9) = .pointer (some ⟨w.heap.size, 0 + 1, none⟩) := (hT 9 6 (by simp) rfl).trans (hd ⟨6, .data⟩ (by simp) rfl rfl)
    have x2 : A.eval (.tmp 5) = va 2 := hT 5 2 (by simp) rfl
    obtain ⟨hJ0, ⟨ka, kc, ek, hkr⟩, hv1⟩ := hJ
    refine wp_boxSet (j := 1) rfl (by kernel_rfl) e1 (x2.trans ek) rfl rfl (bn.below hJ0 (by omega)) (by simp) (fun w2 hg hB2 => ?_)
    have hbW : w.heap.size < W.heap.size := by omega
    exact ⟨_, rfl, ⟨grown_trans (grown_below2 hJ0 rfl _) hg, ⟨_, by rw [ek]; exact hB2⟩, NewS.grown ⟨ka, kc, ek, hkr⟩ hg hbW, hv1.grown hg hbW⟩, hg⟩
  case o8 =>
    refine LnOp.side rfl (by kernel_rfl) (fun A va w' k hF hT hk hJ hb hu hp hd => ?_)
    have e1 : A.eval (.tmp 1) = .pointer (some ⟨w.heap.size, 0, none⟩) := hF 1 rfl
    exact wp_fieldN wrS rfl (e1) (by omega) ⟨_, rfl, rfl, Below.refl _ _⟩
  case o9 =>
    refine LnOp.line 3 rfl rfl (fun A va w' hF hT hJ hu hd => ?_)
    have e1 : A.eval (.tmp 10) = .pointer (some ⟨w.heap.size, 0 + 3, none⟩) := (hT 10 8 (by simp) rfl).trans (hd ⟨8, .data⟩ (by simp) rfl rfl)
    have x2 : A.eval (.tmp 8) = va 5 := hT 8 5 (by simp) rfl
    obtain ⟨hg0, ⟨v0, hB0⟩, hk1, ⟨va2, vc, ev, hvr⟩⟩ := hJ
    refine wp_boxSet (j := 3) rfl (by kernel_rfl) e1 (x2.trans ev) rfl rfl hB0 (by simp) (fun w2 hg hB2 => ?_)
    have hbW : w.heap.size < W.heap.size := by omega
    exact ⟨_, rfl, ⟨grown_trans hg0 hg, _, _, by rw [ev]; exact hB2, hk1.grown hg hbW, NewS.grown ⟨va2, vc, ev, hvr⟩ hg hbW⟩, hg⟩
  case fin =>
    intro vs1 W9 hJ hG
    obtain ⟨hg9, k9, v9, hb9, ⟨ka, kc, rfl, hk9⟩, ⟨va, vc, rfl, hv9⟩⟩ := hJ
    have q9 : Below w.heap.size w W9 := q.grown hg9 q.size fun k e => by injection e with e; omega
    have bz9 := bz.other hg9 (by simp)
    clear hG
    simp only [putAll]
    go_simp
    have c0 := hb9.cell (i := 0) rfl
    have c1 := hb9.cell (i := 1) rfl
    have c2 := hb9.cell (i := 2) rfl
    have c3 := hb9.cell (i := 3) rfl
    go_wp2_with (first | (refine wpList_boxStore (us := [.int .i64 x.table, .slice ka x.key.length kc, .bool x.gone, .slice va x.val.length vc]) (by kernel_rfl) rfl rfl rfl rfl rfl rfl bz9 rfl ?_; intro wd hgd hBd) | fail)
    have d0 := hBd.cell (i := 0) rfl
    have d1 := hBd.cell (i := 1) rfl
    have d2 := hBd.cell (i := 2) rfl
    have d3 := hBd.cell (i := 3) rfl
    obtain ⟨fs, hu, _⟩ := wrS.hu
    refine bodyPost_ret (v := .agg #[.int .i64 x.table, .slice ka x.key.length kc, .bool x.gone, .slice va x.val.length vc]) (by simp [results, Try.results31, go_sem, loadVar, isAgg, run_underlying hu, run_sizeOf' wrS.hs, loadCellsFrom, Addr.add, d0, d1, d2, d3]) rfl ?_
    have hk0 : ∀ k, W.heap.size ≤ k ∧ k < W9.heap.size → wd.heap[k]? = W9.heap[k]? := fun k hk => hgd.block k hk.2 fun e => by injection e with e; omega
    exact ⟨_, rfl, ⟨ka, kc, va, vc, rfl, (hk9.keep hk0).weak fun k hk => ⟨by omega, Nat.lt_of_lt_of_le hk.2 hgd.size⟩, (hv9.keep hk0).weak fun k hk => ⟨by omega, Nat.lt_of_lt_of_le hk.2 hgd.size⟩, ht⟩, q9.grown hgd q9.size fun k e => by injection e with e; omega⟩
end Go.Proofs.Ytjbdkhddnblieaa
namespace Go.Proofs.Ytjbdkhddnblieaa
open Go.RowKit
section
variable {P : Program} {T E S : TypeId} {o : Oper} {a : Act} {K : Act → Prop} {w : World}
theorem quiet_conv (hP : ByP P T E S) {x : Operand} (ho : o.op = .convert T S x) {B : Nat} {v : Value} {xs : List UInt8} (hx : a.eval x = v) (hr : Rd B w v xs) (h : K (a.put o.dst (.string (strOf xs)))) : o.quiet P a (fun w'' => ∃ n, w'' = w.drewN n) K := by
  refine ⟨_, fun w2 h2 => ?_, h⟩
  obtain ⟨n, rfl⟩ := h2
  have hr2 : Rd B (w.drewN n) v xs := hr
  unfold Oper.quietAt execOp
  simp only [ho, hx, Sem.run_bind, Sem.run_pure, Result.andThen_ok, run_conv hP hr2]
  exact ⟨rfl, rfl⟩
end
end Go.Proofs.Ytjbdkhddnblieaa
namespace Go.Proofs.Ytjbdkhddnblieaa
open Go.RowKit Go.Shelf
theorem strOf_listD (xs : List UInt8) : (strOf xs).toList = xs := by simp [strOf]
theorem str_eqD {a b : List UInt8} : ((strOf a).toList == (strOf b).toList) = decide (a = b) := by
  rw [strOf_listD, strOf_listD]
  by_cases e : a = b <;> simp [e]
theorem take_both {α : Type} {l m : List α} {i : Nat} (h1 : i < l.length) (h2 : i < m.length) (h : l.take i = m.take i) (e : l[i] = m[i]) : l.take (i + 1) = m.take (i + 1) := by
  rw [List.take_succ_eq_append_getElem h1, List.take_succ_eq_append_getElem h2, h, e]
set_option maxRecDepth 100000 in
set_option maxHeartbeats 8000000 in
theorem refPairs_any (w : World) {S S2 : Nat → Prop} {a a2 : Option Addr} {n cx n2 cy : Nat} {l m : List Pq} (hl : RdL Elt.pq S w (.slice a n cx) l) (hm : RdL Elt.pq S2 w (.slice a2 n2 cy) m) :
    Calls Try.prog 25 #[.slice a n cx, .slice a2 n2 cy] w fun e w' => e = .returned (.bool (decide (l = m))) ∧ Below w.heap.size w w' := by
  obtain ⟨rfl, hnc, hcm⟩ := hl.len
  obtain ⟨rfl, hnc2, hcm2⟩ := hm.len
  have hlm : l.length ≤ 9223372036854775807 := by unfold maxLen at hcm; omega
  have q := Below.refl w.heap.size w
  by_cases hlen : l.length = m.length
  case neg =>
    have d : ((l.length : Int) == (m.length : Int)) = false := beq_eq_false_iff_ne.2 (by omega)
    have d2 : (l.length == m.length) = false := beq_eq_false_iff_ne.2 hlen
    have d3 : ((l.length : Int) != (m.length : Int)) = true := bne_iff_ne.2 (by omega)
    have H := Lib.hid (show decide (l = m) = false from decide_eq_false fun h => hlen (by rw [h]))
    clear hlen
    go_enter Try.func25, Try.ntmps25
    go_wp2_with fail
    go_ret
    exact ⟨by rw [H.out]; rfl, q⟩
  case pos =>
  have d : ((l.length : Int) == (m.length : Int)) = true := beq_iff_eq.2 (by omega)
  have d2 : (l.length == m.length) = true := beq_iff_eq.2 hlen
  have d3 : ((l.length : Int) != (m.length : Int)) = false := bne_eq_false_iff_eq.2 (by omega)
  have hle : l.length ≤ m.length := by omega
  replace hlen := Lib.hid hlen
  go_enter Try.func25, Try.ntmps25
  go_upto_region 4 with (fail)
  go_loopw [5] (fun iv wr => ∃ i : Nat, iv = .int .i64 i ∧ i ≤ l.length ∧ l.take i = m.take i ∧ Below w.heap.size w wr) (fun i _ => l.length - (intOf i).toNat)
  case atStart => exact ⟨0, rfl, Nat.zero_le _, by simp, q⟩
  case round =>
    clear q
    obtain ⟨i, rfl, hil, hno, q⟩ := hrel
    rcases Nat.lt_or_ge i l.length with hlt | hge
    · have hlt2 : i < m.length := Nat.lt_of_lt_of_le hlt hle
      obtain ⟨b, off, A, C, A2, C2, rfl, hb, g0, g1, hk1, hk2⟩ := (hl.below q).pq i hlt
      obtain ⟨b', off', A', C', A2', C2', rfl, hb', f0, f1, hk3, hk4⟩ := (hm.below q).pq i hlt2
      have r1 := hk1.rd
      have r2 := hk2.rd
      have r3 := hk3.rd
      have r4 := hk4.rd
      clear hb hb'
      by_cases e0 : l[i].key = m[i].key
      · by_cases e1 : l[i].val = m[i].val
        · have H := Lib.hid (take_both hlt hlt2 hno (by cases h1 : l[i]; cases h2 : m[i]; rw [h1, h2] at e0 e1; simp_all))
          have d0 : ((strOf l[i].key).toList == (strOf m[i].key).toList) = true := str_eqD.trans (decide_eq_true e0)
          have d1 : ((strOf l[i].val).toList == (strOf m[i].val).toList) = true := str_eqD.trans (decide_eq_true e1)
          clear hno e0 e1
          go_upto_region 6 with (fail)
          refine wp_region_quiet_lit (by kernel_rfl) (by kernel_rfl) ?_
          repeat (first | go_big_quiet_step (fail) | (go_big_quiet_want; refine quiet_conv byP rfl rfl r1 ?_; go_big_quiet_on; go_simp) | (go_big_quiet_want; refine quiet_conv byP rfl rfl r2 ?_; go_big_quiet_on; go_simp) | (go_big_quiet_want; refine quiet_conv byP rfl rfl r3 ?_; go_big_quiet_on; go_simp) | (go_big_quiet_want; refine quiet_conv byP rfl rfl r4 ?_; go_big_quiet_on; go_simp))
          first | (refine wpQuiet_nil ?_; intro _ hw'; obtain ⟨nq, hw''⟩ := hw'; subst hw'') | intro nq
          go_wp2_with fail
          go_roundw
          case rel => exact ⟨i + 1, by go_num, by omega, H.out, Below.drewN q _⟩
          case measure => simp [intOf]; omega
        · have H := Lib.hid (show decide (l = m) = false from decide_eq_false fun h => e1 (by subst h; rfl))
          have d0 : ((strOf l[i].key).toList == (strOf m[i].key).toList) = true := str_eqD.trans (decide_eq_true e0)
          have d1 : ((strOf l[i].val).toList == (strOf m[i].val).toList) = false := str_eqD.trans (decide_eq_false e1)
          clear hno e0 e1
          go_upto_region 6 with (fail)
          refine wp_region_quiet_lit (by kernel_rfl) (by kernel_rfl) ?_
          repeat (first | go_big_quiet_step (fail) | (go_big_quiet_want; refine quiet_conv byP rfl rfl r1 ?_; go_big_quiet_on; go_simp) | (go_big_quiet_want; refine quiet_conv byP rfl rfl r2 ?_; go_big_quiet_on; go_simp) | (go_big_quiet_want; refine quiet_conv byP rfl rfl r3 ?_; go_big_quiet_on; go_simp) | (go_big_quiet_want; refine quiet_conv byP rfl rfl r4 ?_; go_big_quiet_on; go_simp))
          first | (refine wpQuiet_nil ?_; intro _ hw'; obtain ⟨nq, hw''⟩ := hw'; subst hw'') | intro nq
          go_wp2_with fail
          go_ret
          exact ⟨by rw [H.out]; rfl, Below.drewN q _⟩
      · have H := Lib.hid (show decide (l = m) = false from decide_eq_false fun h => e0 (by subst h; rfl))
        have d0 : ((strOf l[i].key).toList == (strOf m[i].key).toList) = false := str_eqD.trans (decide_eq_false e0)
        clear hno e0
        go_upto_region 6 with (fail)
        refine wp_region_quiet_lit (by kernel_rfl) (by kernel_rfl) ?_
        repeat (first | go_big_quiet_step (fail) | (go_big_quiet_want; refine quiet_conv byP rfl rfl r1 ?_; go_big_quiet_on; go_simp) | (go_big_quiet_want; refine quiet_conv byP rfl rfl r2 ?_; go_big_quiet_on; go_simp) | (go_big_quiet_want; refine quiet_conv byP rfl rfl r3 ?_; go_big_quiet_on; go_simp) | (go_big_quiet_want; refine quiet_conv byP rfl rfl r4 ?_; go_big_quiet_on; go_simp))
        first | (refine wpQuiet_nil ?_; intro _ hw'; obtain ⟨nq, hw''⟩ := hw'; subst hw'') | intro nq
        go_wp2_with fail
        go_ret
        exact ⟨by rw [H.out]; rfl, Below.drewN q _⟩
    · obtain rfl : i = l.length := by omega
      have H := Lib.hid (show decide (l = m) = true from decide_eq_true (by rw [List.take_length, hlen.out, List.take_length] at hno; exact hno))
      clear hno
      go_wp2_with fail
      go_ret
      exact ⟨by rw [H.out]; rfl, q⟩
set_option maxRecDepth 100000 in
set_option maxHeartbeats 8000000 in
theorem refWrites_any (w : World) {S S2 : Nat → Prop} {a a2 : Option Addr} {n cx n2 cy : Nat} {l m : List Wr} (hl : RdL Elt.wr S w (.slice a n cx) l) (hm : RdL Elt.wr S2 w (.slice a2 n2 cy) m) :
    Calls Try.prog 22 #[.slice a n cx, .slice a2 n2 cy] w fun e w' => e = .returned (.bool (decide (l = m))) ∧ Below w.heap.size w w' := by
  obtain ⟨rfl, hnc, hcm⟩ := hl.len
  obtain ⟨rfl, hnc2, hcm2⟩ := hm.len
  have hlm : l.length ≤ 9223372036854775807 := by unfold maxLen at hcm; omega
  have q := Below.refl w.heap.size w
  by_cases hlen : l.length = m.length
  case neg =>
    have d : ((l.length : Int) == (m.length : Int)) = false := beq_eq_false_iff_ne.2 (by omega)
    have d2 : (l.length == m.length) = false := beq_eq_false_iff_ne.2 hlen
    have d3 : ((l.length : Int) != (m.length : Int)) = true := bne_iff_ne.2 (by omega)
    have H := Lib.hid (show decide (l = m) = false from decide_eq_false fun h => hlen (by rw [h]))
    clear hlen
    go_enter Try.func22, Try.ntmps22
    go_wp2_with fail
    go_ret
    exact ⟨by rw [H.out]; rfl, q⟩
  case pos =>
  have d : ((l.length : Int) == (m.length : Int)) = true := beq_iff_eq.2 (by omega)
  have d2 : (l.length == m.length) = true := beq_iff_eq.2 hlen
  have d3 : ((l.length : Int) != (m.length : Int)) = false := bne_eq_false_iff_eq.2 (by omega)
  have hle : l.length ≤ m.length := by omega
  replace hlen := Lib.hid hlen
  go_enter Try.func22, Try.ntmps22
  go_upto_region 4 with (fail)
  go_loopw [5] (fun iv wr => ∃ i : Nat, iv = .int .i64 i ∧ i ≤ l.length ∧ l.take i = m.take i ∧ Below w.heap.size w wr) (fun i _ => l.length - (intOf i).toNat)
  case atStart => exact ⟨0, rfl, Nat.zero_le _, by simp, q⟩
  case round =>
    clear q
    obtain ⟨i, rfl, hil, hno, q⟩ := hrel
    rcases Nat.lt_or_ge i l.length with hlt | hge
    · have hlt2 : i < m.length := Nat.lt_of_lt_of_le hlt hle
      obtain ⟨b, off, A, C, A2, C2, rfl, hb, g0, g1, g2, g3, hk1, hk2, hw64⟩ := (hl.below q).wr i hlt
      obtain ⟨b', off', A', C', A2', C2', rfl, hb', f0, f1, f2, f3, hk3, hk4, hw64'⟩ := (hm.below q).wr i hlt2
      have r1 := hk1.rd
      have r2 := hk2.rd
      have r3 := hk3.rd
      have r4 := hk4.rd
      clear hw64 hw64' hb hb'
      by_cases e0 : l[i].table = m[i].table
      · by_cases e1 : l[i].key = m[i].key
        · by_cases e2 : l[i].gone = m[i].gone
          · by_cases e3 : l[i].val = m[i].val
            · have H := Lib.hid (take_both hlt hlt2 hno (by cases h1 : l[i]; cases h2 : m[i]; rw [h1, h2] at e0 e1 e2 e3; simp_all))
              have dn0 : (l[i].table != m[i].table) = false := bne_eq_false_iff_eq.2 e0
              have d0 : (l[i].table == m[i].table) = true := beq_iff_eq.2 e0
              have dd0 : decide (l[i].table = m[i].table) = true := decide_eq_true e0
              have d1 : ((strOf l[i].key).toList == (strOf m[i].key).toList) = true := str_eqD.trans (decide_eq_true e1)
              have dn2 : (l[i].gone != m[i].gone) = false := bne_eq_false_iff_eq.2 e2
              have d2 : (l[i].gone == m[i].gone) = true := beq_iff_eq.2 e2
              have d3 : ((strOf l[i].val).toList == (strOf m[i].val).toList) = true := str_eqD.trans (decide_eq_true e3)
              clear hno e0 e1 e2 e3
              go_upto_region 6 with (fail)
              refine wp_region_quiet_lit (by kernel_rfl) (by kernel_rfl) ?_
              repeat (first | go_big_quiet_step (fail) | (go_big_quiet_want; refine quiet_conv byP rfl rfl r1 ?_; go_big_quiet_on; go_simp) | (go_big_quiet_want; refine quiet_conv byP rfl rfl r2 ?_; go_big_quiet_on; go_simp) | (go_big_quiet_want; refine quiet_conv byP rfl rfl r3 ?_; go_big_quiet_on; go_simp) | (go_big_quiet_want; refine quiet_conv byP rfl rfl r4 ?_; go_big_quiet_on; go_simp))
              first | (refine wpQuiet_nil ?_; intro _ hw'; obtain ⟨nq, hw''⟩ := hw'; subst hw'') | intro nq
              go_wp2_with fail
              go_roundw
              case rel => exact ⟨i + 1, by go_num, by omega, H.out, Below.drewN q _⟩
              case measure => simp [intOf]; omega
            · have H := Lib.hid (show decide (l = m) = false from decide_eq_false fun h => e3 (by subst h; rfl))
              have dn0 : (l[i].table != m[i].table) = false := bne_eq_false_iff_eq.2 e0
              have d0 : (l[i].table == m[i].table) = true := beq_iff_eq.2 e0
              have dd0 : decide (l[i].table = m[i].table) = true := decide_eq_true e0
              have d1 : ((strOf l[i].key).toList == (strOf m[i].key).toList) = true := str_eqD.trans (decide_eq_true e1)
              have dn2 : (l[i].gone != m[i].gone) = false := bne_eq_false_iff_eq.2 e2
              have d2 : (l[i].gone == m[i].gone) = true := beq_iff_eq.2 e2
              have d3 : ((strOf l[i].val).toList == (strOf m[i].val).toList) = false := str_eqD.trans (decide_eq_false e3)
              clear hno e0 e1 e2 e3
              go_upto_region 6 with (fail)
              refine wp_region_quiet_lit (by kernel_rfl) (by kernel_rfl) ?_
              repeat (first | go_big_quiet_step (fail) | (go_big_quiet_want; refine quiet_conv byP rfl rfl r1 ?_; go_big_quiet_on; go_simp) | (go_big_quiet_want; refine quiet_conv byP rfl rfl r2 ?_; go_big_quiet_on; go_simp) | (go_big_quiet_want; refine quiet_conv byP rfl rfl r3 ?_; go_big_quiet_on; go_simp) | (go_big_quiet_want; refine quiet_conv byP rfl rfl r4 ?_; go_big_quiet_on; go_simp))
              first | (refine wpQuiet_nil ?_; intro _ hw'; obtain ⟨nq, hw''⟩ := hw'; subst hw'') | intro nq
              go_wp2_with fail
              go_ret
              exact ⟨by rw [H.out]; rfl, Below.drewN q _⟩
          · have H := Lib.hid (show decide (l = m) = false from decide_eq_false fun h => e2 (by subst h; rfl))
            have dn0 : (l[i].table != m[i].table) = false := bne_eq_false_iff_eq.2 e0
            have d0 : (l[i].table == m[i].table) = true := beq_iff_eq.2 e0
            have dd0 : decide (l[i].table = m[i].table) = true := decide_eq_true e0
            have d1 : ((strOf l[i].key).toList == (strOf m[i].key).toList) = true := str_eqD.trans (decide_eq_true e1)
            have dn2 : (l[i].gone != m[i].gone) = true := bne_iff_ne.2 e2
            have d2 : (l[i].gone == m[i].gone) = false := beq_eq_false_iff_ne.2 e2
            clear hno e0 e1 e2
            go_upto_region 6 with (fail)
            refine wp_region_quiet_lit (by kernel_rfl) (by kernel_rfl) ?_
            repeat (first | go_big_quiet_step (fail) | (go_big_quiet_want; refine quiet_conv byP rfl rfl r1 ?_; go_big_quiet_on; go_simp) | (go_big_quiet_want; refine quiet_conv byP rfl rfl r2 ?_; go_big_quiet_on; go_simp) | (go_big_quiet_want; refine quiet_conv byP rfl rfl r3 ?_; go_big_quiet_on; go_simp) | (go_big_quiet_want; refine quiet_conv byP rfl rfl r4 ?_; go_big_quiet_on; go_simp))
            first | (refine wpQuiet_nil ?_; intro _ hw'; obtain ⟨nq, hw''⟩ := hw'; subst hw'') | intro nq
            go_wp2_with fail
            go_ret
            exact ⟨by rw [H.out]; rfl, Below.drewN q _⟩
        · have H := Lib.hid (show decide (l = m) = false from decide_eq_false fun h => e1 (by subst h; rfl))
          have dn0 : (l[i].table != m[i].table) = false := bne_eq_false_iff_eq.2 e0
          have d0 : (l[i].table == m[i].table) = true := beq_iff_eq.2 e0
          have dd0 : decide (l[i].table = m[i].table) = true := decide_eq_true e0
          have d1 : ((strOf l[i].key).toList == (strOf m[i].key).toList) = false := str_eqD.trans (decide_eq_false e1)
          clear hno e0 e1
          go_upto_region 6 with (fail)
          refine wp_region_quiet_lit (by kernel_rfl) (by kernel_rfl) ?_
          repeat (first | go_big_quiet_step (fail) | (go_big_quiet_want; refine quiet_conv byP rfl rfl r1 ?_; go_big_quiet_on; go_simp) | (go_big_quiet_want; refine quiet_conv byP rfl rfl r2 ?_; go_big_quiet_on; go_simp) | (go_big_quiet_want; refine quiet_conv byP rfl rfl r3 ?_; go_big_quiet_on; go_simp) | (go_big_quiet_want; refine quiet_conv byP rfl rfl r4 ?_; go_big_quiet_on; go_simp))
          first | (refine wpQuiet_nil ?_; intro _ hw'; obtain ⟨nq, hw''⟩ := hw'; subst hw'') | intro nq
          go_wp2_with fail
          go_ret
          exact ⟨by rw [H.out]; rfl, Below.drewN q _⟩
      · have H := Lib.hid (show decide (l = m) = false from decide_eq_false fun h => e0 (by subst h; rfl))
        have dn0 : (l[i].table != m[i].table) = true := bne_iff_ne.2 e0
        have d0 : (l[i].table == m[i].table) = false := beq_eq_false_iff_ne.2 e0
        have dd0 : decide (l[i].table = m[i].table) = false := decide_eq_false e0
        clear hno e0
        go_upto_region 6 with (fail)
        refine wp_region_quiet_lit (by kernel_rfl) (by kernel_rfl) ?_
        repeat (first | go_big_quiet_step (fail) | (go_big_quiet_want; refine quiet_conv byP rfl rfl r1 ?_; go_big_quiet_on; go_simp) | (go_big_quiet_want; refine quiet_conv byP rfl rfl r2 ?_; go_big_quiet_on; go_simp) | (go_big_quiet_want; refine quiet_conv byP rfl rfl r3 ?_; go_big_quiet_on; go_simp) | (go_big_quiet_want; refine quiet_conv byP rfl rfl r4 ?_; go_big_quiet_on; go_simp))
        first | (refine wpQuiet_nil ?_; intro _ hw'; obtain ⟨nq, hw''⟩ := hw'; subst hw'') | intro nq
        go_wp2_with fail
        go_ret
        exact ⟨by rw [H.out]; rfl, Below.drewN q _⟩
    · obtain rfl : i = l.length := by omega
      have H := Lib.hid (show decide (l = m) = true from decide_eq_true (by rw [List.take_length, hlen.out, List.take_length] at hno; exact hno))
      clear hno
      go_wp2_with fail
      go_ret
      exact ⟨by rw [H.out]; rfl, q⟩
end Go.Proofs.Ytjbdkhddnblieaa
namespace Go.Proofs.Ytjbdkhddnblieaa
open Go.RowKit Go.Shelf
set_option maxRecDepth 100000 in
set_option maxHeartbeats 4000000 in
theorem refSame_any (w : World) {S S2 : Nat → Prop} {u v : Value} {x y : Dl} (hx : RdDl S w u x) (hy : RdDl S2 w v y) :
    Calls Try.prog 16 #[u, v] w fun e w' => e = .returned (.bool (decide (x = y))) ∧ Below w.heap.size w w' := by
  obtain ⟨a, c, a2, c2, rfl, hw, hm⟩ := hx
  obtain ⟨a', c', a2', c2', rfl, hw', hm'⟩ := hy
  obtain ⟨_, _, hcm⟩ := hm.len
  obtain ⟨_, _, hcm'⟩ := hm'.len
  have hlm : x.marks.length ≤ 9223372036854775807 := by unfold maxLen at hcm; omega
  obtain ⟨W, hW, q, bn, bm, hsz⟩ := boxes2 w 25 25 [.slice a x.writes.length c, .slice a2 x.marks.length c2] [.slice a' y.writes.length c', .slice a2' y.marks.length c2']
  clear hsz
  go_enter Try.func16, Try.ntmps16
  go_upto_region 1 with (fail)
  rw [show (w.alloc (.cells #[.slice a x.writes.length c, .slice a2 x.marks.length c2] 25)).alloc (.cells #[.slice a' y.writes.length c', .slice a2' y.marks.length c2'] 25) = W from hW.symm]
  clear hW
  have b0 := bn.cell (i := 0) rfl
  have f0 := bm.cell (i := 0) rfl
  go_wp2_with fail
  refine (refWrites_any W (hw.below q) (hw'.below q)).mono ?_
  rintro e w1 ⟨rfl, hb1⟩
  replace q := q.trans (hb1.mono q.size)
  replace bn := bn.below hb1 bn.lt
  replace bm := bm.below hb1 bm.lt
  clear b0 f0 hb1
  have b1 := bn.cell (i := 1) rfl
  have f1 := bm.cell (i := 1) rfl
  by_cases h1 : x.writes = y.writes
  case neg =>
    have d1 : decide (x.writes = y.writes) = false := decide_eq_false h1
    have H := Lib.hid (show decide (x = y) = false from decide_eq_false fun h => h1 (by rw [h]))
    clear h1
    go_wp2_with fail
    go_ret
    exact ⟨by rw [H.out]; rfl, q⟩
  case pos =>
  have d1 : decide (x.writes = y.writes) = true := decide_eq_true h1
  replace h1 := Lib.hid h1
  by_cases hlen : x.marks.length = y.marks.length
  case neg =>
    have d2 : ((x.marks.length : Int) == (y.marks.length : Int)) = false := beq_eq_false_iff_ne.2 (by omega)
    have d3 : ((x.marks.length : Int) != (y.marks.length : Int)) = true := bne_iff_ne.2 (by omega)
    have H := Lib.hid (show decide (x = y) = false from decide_eq_false fun h => hlen (by rw [h]))
    clear hlen
    go_wp2_with fail
    go_ret
    exact ⟨by rw [H.out]; rfl, q⟩
  case pos =>
  have d2 : ((x.marks.length : Int) == (y.marks.length : Int)) = true := beq_iff_eq.2 (by omega)
  have d3 : ((x.marks.length : Int) != (y.marks.length : Int)) = false := bne_eq_false_iff_eq.2 (by omega)
  have hle : x.marks.length ≤ y.marks.length := by omega
  replace hlen := Lib.hid hlen
  go_upto_region 5 with (fail)
  go_loopw [6] (fun iv wr => ∃ i : Nat, iv = .int .i64 i ∧ i ≤ x.marks.length ∧ x.marks.take i = y.marks.take i ∧ Below w.heap.size w wr ∧ BoxN wr w.heap.size 25 [.slice a x.writes.length c, .slice a2 x.marks.length c2] ∧ BoxN wr (w.heap.size + 1) 25 [.slice a' y.writes.length c', .slice a2' y.marks.length c2']) (fun i _ => x.marks.length - (intOf i).toNat)
  case atStart => exact ⟨0, rfl, Nat.zero_le _, by simp, q, bn, bm⟩
  case round =>
    clear q bn bm b1 f1
    obtain ⟨i, rfl, hil, hno, q, bn, bm⟩ := hrel
    have b1 := bn.cell (i := 1) rfl
    have f1 := bm.cell (i := 1) rfl
    rcases Nat.lt_or_ge i x.marks.length with hlt | hge
    · have hlt2 : i < y.marks.length := Nat.lt_of_lt_of_le hlt hle
      obtain ⟨b, off, rfl, hb, c0, hi⟩ := (hm.below q).num i hlt
      obtain ⟨b', off', rfl, hb', c0', hi'⟩ := (hm'.below q).num i hlt2
      clear hb hb' hi hi'
      by_cases e : x.marks[i] = y.marks[i]
      · have H := Lib.hid (take_both hlt hlt2 hno e)
        have d4 : (x.marks[i] == y.marks[i]) = true := beq_iff_eq.2 e
        have d5 : (x.marks[i] != y.marks[i]) = false := bne_eq_false_iff_eq.2 e
        have d6 : decide (x.marks[i] = y.marks[i]) = true := decide_eq_true e
        clear e hno
        go_upto_region 7 with (fail)
        go_quiet (fail)
        go_wp2_with fail
        go_roundw
        case rel => exact ⟨i + 1, by go_num, by omega, H.out, Below.drewN q _, bn, bm⟩
        case measure => simp [intOf]; omega
      · have H := Lib.hid (show decide (x = y) = false from decide_eq_false fun h => e (by subst h; rfl))
        have d4 : (x.marks[i] == y.marks[i]) = false := beq_eq_false_iff_ne.2 e
        have d5 : (x.marks[i] != y.marks[i]) = true := bne_iff_ne.2 e
        have d6 : decide (x.marks[i] = y.marks[i]) = false := decide_eq_false e
        clear e hno
        go_upto_region 7 with (fail)
        go_quiet (fail)
        go_wp2_with fail
        go_ret
        exact ⟨by rw [H.out]; rfl, Below.drewN q _⟩
    · obtain rfl : i = x.marks.length := by omega
      have H := Lib.hid (show decide (x = y) = true from decide_eq_true (by
        rw [List.take_length, hlen.out, List.take_length] at hno
        cases x; cases y
        have h2 := h1.out
        simp_all))
      clear hno
      go_wp2_with fail
      go_ret
      exact ⟨by rw [H.out]; rfl, q⟩
end Go.Proofs.Ytjbdkhddnblieaa
namespace Go.Proofs.Ytjbdkhddnblieaa
open Go.RowKit
structure Twb (w A : World) (r : Option Nat) (b : Nat) : Prop where
  os : A.os = w.os
  tape : A.tape = w.tape
  output : A.output = w.output
  size : w.heap.size ≤ A.heap.size
  block : ∀ k, k < w.heap.size → some k ≠ r → k ≠ b → A.heap[k]? = w.heap[k]?
section
variable {w0 w A B : World} {r : Option Nat} {b : Nat}
theorem Twb.of_below (h : Below w.heap.size w A) : Twb w A r b := ⟨h.os, h.tape, h.output, h.size, fun k hk _ _ => h.block k hk⟩
theorem Twb.below (h : Twb w A r b) (k : Below A.heap.size A B) : Twb w B r b :=
  ⟨k.os.trans h.os, k.tape.trans h.tape, k.output.trans h.output, Nat.le_trans h.size k.size, fun j h1 h2 h3 => (k.block j (Nat.lt_of_lt_of_le h1 h.size)).trans (h.block j h1 h2 h3)⟩
theorem Twb.row (h : Twb w A r b) (k : A.grownBy B r) : Twb w B r b :=
  ⟨k.os.trans h.os, k.tape.trans h.tape, k.output.trans h.output, Nat.le_trans h.size k.size, fun j h1 h2 h3 => (k.block j (Nat.lt_of_lt_of_le h1 h.size) h2).trans (h.block j h1 h2 h3)⟩
theorem Twb.box (h : Twb w A r b) (k : A.grownBy B (some b)) : Twb w B r b :=
  ⟨k.os.trans h.os, k.tape.trans h.tape, k.output.trans h.output, Nat.le_trans h.size k.size, fun j h1 h2 h3 => (k.block j (Nat.lt_of_lt_of_le h1 h.size) (fun e => h3 (by injection e))).trans (h.block j h1 h2 h3)⟩
theorem Twb.refl : Twb w w r b := ⟨rfl, rfl, rfl, Nat.le_refl _, fun _ _ _ _ => rfl⟩
theorem Twb.belowB (h : Twb w A r b) (q : Below w0.heap.size w0 w) (hr : ∀ k, r = some k → w0.heap.size ≤ k) (hb : w0.heap.size ≤ b) : Below w0.heap.size w0 A :=
  ⟨h.os.trans q.os, h.tape.trans q.tape, h.output.trans q.output, Nat.le_trans q.size h.size, fun k hk => (h.block k (Nat.lt_of_lt_of_le hk q.size) (fun e => by have := hr k e.symm; omega) (by omega)).trans (q.block k hk)⟩
theorem Twb.boxN {g : Nat} {t : TypeId} {vs : List Value} (h : Twb w A r b) (hT : BoxN w g t vs) (hr : some g ≠ r) (hb : g ≠ b) : BoxN A g t vs := (h.block g hT.lt hr hb).trans hT
end
def Elt.but {α : Type} (E : Elt α) (b : Nat) : Elt α where
  size := E.size
  pos := E.pos
  R S w x vs := E.R (fun k => S k ∧ k ≠ b) w x vs
  len h := E.len h
  keep h hk := E.keep h fun k h2 => hk k h2.1
  weak h hs := E.weak h fun k h2 => ⟨hs k h2.1, h2.2⟩
  fit h := E.weak (E.fit h) fun _ h2 => ⟨⟨h2.1.1, h2.2⟩, h2.1.2⟩
  one h := E.one h
section
variable {α : Type} {E : Elt α} {Te : TypeId} {base lo : Nat} {b : Nat} {w w' : World} {v : Value} {xs : List α}
theorem Flat.but {S : Nat → Prop} (h : ∀ k, S k → k ≠ b) : ∀ {xs : List α} {vs : List Value}, Flat E S w xs vs → Flat (Elt.but E b) S w xs vs
  | [], _, hf => hf
  | _ :: _, _, ⟨us, ws, e, h1, h2⟩ => ⟨us, ws, e, E.weak h1 fun k hk => ⟨hk, h k hk⟩, Flat.but h h2⟩
theorem Flat.unbut {S : Nat → Prop} : ∀ {xs : List α} {vs : List Value}, Flat (Elt.but E b) S w xs vs → Flat E S w xs vs
  | [], _, hf => hf
  | _ :: _, _, ⟨us, ws, e, h1, h2⟩ => ⟨us, ws, e, E.weak h1 fun _ hk => hk.1, Flat.unbut h2⟩
theorem OwnL.but (h : OwnL E Te base lo w v xs) (hb : ∀ k, lo ≤ k → k < w.heap.size → k ≠ b) : OwnL (Elt.but E b) Te base lo w v xs := by
  obtain ⟨vs, h1, h2⟩ := h
  exact ⟨vs, h1, Flat.but (fun k hk => hb k hk.1 hk.2.1) h2⟩
theorem OwnL.unbut (h : OwnL (Elt.but E b) Te base lo w v xs) : OwnL E Te base lo w v xs := by
  obtain ⟨vs, h1, h2⟩ := h
  exact ⟨vs, h1, Flat.unbut h2⟩
theorem Flat.butKeep {S : Nat → Prop} (hk : ∀ k, S k → k ≠ b → w'.heap[k]? = w.heap[k]?) : ∀ {xs : List α} {vs : List Value}, Flat (Elt.but E b) S w xs vs → Flat (Elt.but E b) S w' xs vs
  | [], _, hf => hf
  | _ :: _, _, ⟨us, ws, e, h1, h2⟩ => ⟨us, ws, e, E.keep h1 fun k h3 => hk k h3.1 h3.2, Flat.butKeep hk h2⟩
theorem OwnL.butOther (h : OwnL (Elt.but E b) Te base lo w v xs) (hg : w.grownBy w' (some b)) (hv : v.ownBlock ≠ some b) : OwnL (Elt.but E b) Te base lo w' v xs := by
  obtain ⟨vs, h1, h2⟩ := h
  refine ⟨vs, h1.kept hg (.inr fun e => hv e), ?_⟩
  exact (Flat.butKeep (fun k hk hb => hg.block k hk.2.1 fun e => by injection e with e; exact hb e) h2).weak fun k hk => ⟨hk.1, Nat.lt_of_lt_of_le hk.2.1 hg.size, hk.2.2⟩
end
def PshJ {α : Type} (E : Elt α) (Te : TypeId) (base lo : Nat) (r : Option Nat) (b : Nat) (t : TypeId) (vs : List Value) (f : Nat) (W : World) (xs : List α) (x : α) : List Value → World → Prop
  | [], V => Below W.heap.size W V
  | [v], V => Below W.heap.size W V ∧ ∃ us : List Value, v.cells = us.toArray ∧ E.R (fun k => W.heap.size ≤ k ∧ k < V.heap.size) V x us
  | [_, s], V => Twb W V r b ∧ ∃ ad c, s = .slice ad (xs ++ [x]).length c ∧ OwnL (Elt.but E b) Te base lo V (.slice ad (xs ++ [x]).length c) (xs ++ [x]) ∧ BoxN V b t vs ∧ Value.ownBlock (.slice ad (xs ++ [x]).length c) ≠ some b
  | _, V => Twb W V r b ∧ ∃ ad c, OwnL (Elt.but E b) Te base lo V (.slice ad (xs ++ [x]).length c) (xs ++ [x]) ∧ BoxN V b t (vs.set f (.slice ad (xs ++ [x]).length c)) ∧ Value.ownBlock (.slice ad (xs ++ [x]).length c) ≠ some b
section
variable {α : Type} {E : Elt α} {Te : TypeId} {base lo : Nat} {r : Option Nat} {b : Nat} {t : TypeId} {vs : List Value} {f : Nat} {W : World} {xs : List α} {x : α}
theorem PshJ.below : ∀ (l : List Value) (V V' : World), PshJ E Te base lo r b t vs f W xs x l V → Below V.heap.size V V' → PshJ E Te base lo r b t vs f W xs x l V'
  | [], _, _, h, hb => Below.trans h (hb.mono (Below.size h))
  | [_], _, _, ⟨h, us, e, h1⟩, hb => ⟨h.trans (hb.mono h.size), us, e, E.weak (Elt.below h1 hb) fun _ hk => ⟨hk.1, Nat.lt_of_lt_of_le hk.2 hb.size⟩⟩
  | [_, _], _, _, ⟨h, ad, c, e, h1, h2, h3⟩, hb => ⟨h.below hb, ad, c, e, h1.below hb, h2.below hb h2.lt, h3⟩
  | _ :: _ :: _ :: _, _, _, ⟨h, ad, c, h1, h2, h3⟩, hb => ⟨h.below hb, ad, c, h1.below hb, h2.below hb h2.lt, h3⟩
theorem PshJ.two : ∀ {l : List Value} {V : World}, PshJ E Te base lo r b t vs f W xs x l V → Twb W V r b
  | [], _, h => Twb.of_below h
  | [_], _, ⟨h, _⟩ => Twb.of_below h
  | [_, _], _, ⟨h, _⟩ => h
  | _ :: _ :: _ :: _, _, ⟨h, _⟩ => h
theorem PshJ.early {V : World} {vl : List Value} (h : PshJ E Te base lo r b t vs f W xs x vl V) (hk : vl.length ≤ 1) : Below W.heap.size W V := by
  match vl, h with
  | [], h => exact h
  | [_], h => exact h.1
  | _ :: _ :: _, _ => simp at hk
def pRow {α : Type} (E : Elt α) (Te : TypeId) (W : World) (r : Option Nat) (b : Nat) (x : α) (hr : ∀ k, r = some k → k < W.heap.size) (hb : b < W.heap.size) : SGn (fun A B => Twb A B r b) :=
  ⟨fun w v => ∃ g, ∃ us : List Value, v = .slice (some ⟨g, 0, none⟩) 1 1 ∧ W.heap.size ≤ g ∧ w.heap[g]? = some (.cells us.toArray Te (0, 0)) ∧ E.R (fun k => W.heap.size ≤ k ∧ k < w.heap.size) w x us,
  fun _ _ _ ⟨g, us, h, h0, hc, hR⟩ hb => ⟨g, us, h, h0, (hb.block g (Array.getElem?_eq_some_iff.1 hc).1).trans hc, E.weak (Elt.below hR hb) fun _ hk => ⟨hk.1, Nat.lt_of_lt_of_le hk.2 hb.size⟩⟩,
  fun _ _ _ ⟨g, us, h, h0, hc, hR⟩ hk => ⟨g, us, h, h0, (hk.block g (Array.getElem?_eq_some_iff.1 hc).1 (fun e => by have := hr g e.symm; omega) (fun e => by omega)).trans hc, E.weak (E.keep hR fun k hh => hk.block k hh.2 (fun e => by have := hr k e.symm; omega) (fun e => by omega)) fun _ hh => ⟨hh.1, Nat.lt_of_lt_of_le hh.2 hk.size⟩⟩⟩
theorem PshJ.app {V V' : World} {v : Value} {v0 : Value} {ad : Option Addr} {c : Nat} (h : PshJ E Te base lo r b t vs f W xs x [v] V) (hB : BoxN W b t vs) (hO : OwnL (Elt.but E b) Te base lo V' (.slice ad (xs ++ [x]).length c) (xs ++ [x])) (hg : V.grownBy V' r) (hbr : r ≠ some b) (ho : Value.ownBlock (.slice ad (xs ++ [x]).length c) = r ∨ Value.ownBlock (.slice ad (xs ++ [x]).length c) = some V.heap.size) :
    PshJ E Te base lo r b t vs f W xs x [v0, .slice ad (xs ++ [x]).length c] V' :=
  ⟨(Twb.of_below h.1).row hg, ad, c, rfl, hO, (hB.below h.1 hB.lt).other hg hbr, by
    rcases ho with e | e
    · rw [e]; exact hbr
    · rw [e]; intro e2; injection e2 with e2; have := hB.lt; have := h.1.size; omega⟩
theorem PshJ.sto {V V' : World} {v s u v0 s0 : Value} {ad : Option Addr} {c : Nat} (h : PshJ E Te base lo r b t vs f W xs x [v, s] V) (hO : OwnL (Elt.but E b) Te base lo V (.slice ad (xs ++ [x]).length c) (xs ++ [x])) (hn : Value.ownBlock (.slice ad (xs ++ [x]).length c) ≠ some b) (hg : V.grownBy V' (some b)) (hB : BoxN V' b t (vs.set f (.slice ad (xs ++ [x]).length c))) :
    PshJ E Te base lo r b t vs f W xs x [v0, s0, u] V' :=
  ⟨h.1.box hg, ad, c, hO.butOther hg hn, hB, hn⟩
end
end Go.Proofs.Ytjbdkhddnblieaa
namespace Go.Proofs.Ytjbdkhddnblieaa
open Go.RowKit
theorem rows_apart {E1 E2 : TypeId} (hne : E1 ≠ E2) {w : World} {b1 b2 s1 s2 n1 n2 : Nat} {v1 v2 : Value} {xs1 xs2 : List Value} (h1 : w.ownsRow b1 E1 s1 v1 n1 xs1) (h2 : w.ownsRow b2 E2 s2 v2 n2 xs2) : v1.ownBlock = none ∨ v1.ownBlock ≠ v2.ownBlock := by
  rcases h1.2 with ⟨rfl, _⟩ | ⟨g, cap, cur, rfl, _, hg, _⟩
  · exact .inl rfl
  · right
    intro e
    rcases h2.2 with ⟨rfl, _⟩ | ⟨g2, cap2, cur2, rfl, _, hg2, _⟩
    · simp [Value.ownBlock] at e
    · obtain rfl : g = g2 := by simpa [Value.ownBlock] using e
      rw [hg] at hg2
      injection hg2 with h
      injection h with _ h
      exact hne h
end Go.Proofs.Ytjbdkhddnblieaa
namespace Go.Proofs.Ytjbdkhddnblieaa
open Go.RowKit
theorem mayW_b (x : Wr) (hg : x.gone = true → x.val.length = 0) : (decide (x.table < (0 : Int)) || decide ((4 : Int) ≤ x.table) || decide ((16 : Int) < (x.key.length : Int)) || decide ((32 : Int) < (x.val.length : Int))) = (!decide (mayW x)) := by
  have h2 : mayW x ↔ (¬ x.table < (0 : Int) ∧ ¬ (4 : Int) ≤ x.table ∧ ¬ (16 : Int) < (x.key.length : Int) ∧ ¬ (32 : Int) < (x.val.length : Int)) := by
    unfold mayW
    constructor
    · intro h; omega
    · intro h; exact ⟨by omega, by omega, by omega, by omega, fun h2 => List.eq_nil_of_length_eq_zero (hg h2)⟩
  rw [Bool.eq_iff_iff]
  simp only [Bool.or_eq_true, decide_eq_true_eq, Bool.not_eq_true', decide_eq_false_iff_not, h2]
  omega
set_option maxRecDepth 100000 in
set_option maxHeartbeats 4000000 in
theorem wrong_any (w : World) {S : Nat → Prop} {v : Value} {x : Wr} (hx : RdWr S w v x) :
    Calls Try.prog 30 #[v] w fun e w' => e = .returned (.bool (!decide (mayW x))) ∧ Below w.heap.size w w' := by
  obtain ⟨a, c, a2, c2, rfl, hk1, hk2, ht⟩ := hx
  obtain ⟨_, hc1, hm1⟩ := hk1.len
  obtain ⟨_, hc2, hm2⟩ := hk2.len
  unfold maxLen at hm1 hm2
  unfold W64 at ht
  cases hg : x.gone with
  | true =>
    by_cases hv : 0 < x.val.length
    · skip
      have hk := Lib.hid (show (!decide (mayW x)) = true from by rw [decide_eq_false (fun h => by have := h.2.2.2.2 hg; rw [this] at hv; simp at hv)]; rfl)
      go_enter Try.func30, Try.ntmps30
      go_wp2
      go_ret
      exact ⟨by rw [hk.out]; rfl, (Below.refl _ _).alloc (Nat.le_refl _) _⟩
    · have hv0 := Lib.hid (show x.val = [] from List.eq_nil_of_length_eq_zero (by omega))
      by_cases h1 : 0 ≤ x.table
      · skip
        by_cases h2 : x.table < 4
        · skip
          by_cases h3 : (x.key.length : Int) ≤ 16
          · skip
            by_cases h4 : (x.val.length : Int) ≤ 32
            · skip
              have hk := Lib.hid (mayW_b x (fun _ => by rw [hv0.out]; rfl))
              go_enter Try.func30, Try.ntmps30
              go_wp2
              go_ret
              exact ⟨by rw [← hk.out]; rfl, (Below.refl _ _).alloc (Nat.le_refl _) _⟩
            · skip
              omega
          · skip
            have hk := Lib.hid (show (!decide (mayW x)) = true from by rw [decide_eq_false (fun h => h3 (by have := h.2.2.1; omega))]; rfl)
            go_enter Try.func30, Try.ntmps30
            go_wp2
            go_ret
            exact ⟨by rw [hk.out]; rfl, (Below.refl _ _).alloc (Nat.le_refl _) _⟩
        · skip
          have hk := Lib.hid (show (!decide (mayW x)) = true from by rw [decide_eq_false (fun h => h2 (by have := h.2.1; omega))]; rfl)
          go_enter Try.func30, Try.ntmps30
          go_wp2
          go_ret
          exact ⟨by rw [hk.out]; rfl, (Below.refl _ _).alloc (Nat.le_refl _) _⟩
      · skip
        have hk := Lib.hid (show (!decide (mayW x)) = true from by rw [decide_eq_false (fun h => h1 (h.1))]; rfl)
        go_enter Try.func30, Try.ntmps30
        go_wp2
        go_ret
        exact ⟨by rw [hk.out]; rfl, (Below.refl _ _).alloc (Nat.le_refl _) _⟩
  | false =>
    by_cases h1 : 0 ≤ x.table
    · skip
      by_cases h2 : x.table < 4
      · skip
        by_cases h3 : (x.key.length : Int) ≤ 16
        · skip
          by_cases h4 : (x.val.length : Int) ≤ 32
          · skip
            have hk := Lib.hid (mayW_b x (fun h => by rw [hg] at h; cases h))
            go_enter Try.func30, Try.ntmps30
            go_wp2
            go_ret
            exact ⟨by rw [← hk.out]; rfl, (Below.refl _ _).alloc (Nat.le_refl _) _⟩
          · skip
            have hm := Lib.hid (mayW_b x (fun h => by rw [hg] at h; cases h))
            have hk := Lib.hid (show (!decide (mayW x)) = true from by rw [decide_eq_false (fun h => h4 (by have := h.2.2.2.1; omega))]; rfl)
            go_enter Try.func30, Try.ntmps30
            go_wp2
            go_ret
            exact ⟨by first | (rw [hk.out]; rfl) | (rw [← hm.out]; rfl), (Below.refl _ _).alloc (Nat.le_refl _) _⟩
        · skip
          have hk := Lib.hid (show (!decide (mayW x)) = true from by rw [decide_eq_false (fun h => h3 (by have := h.2.2.1; omega))]; rfl)
          go_enter Try.func30, Try.ntmps30
          go_wp2
          go_ret
          exact ⟨by rw [hk.out]; rfl, (Below.refl _ _).alloc (Nat.le_refl _) _⟩
      · skip
        have hk := Lib.hid (show (!decide (mayW x)) = true from by rw [decide_eq_false (fun h => h2 (by have := h.2.1; omega))]; rfl)
        go_enter Try.func30, Try.ntmps30
        go_wp2
        go_ret
        exact ⟨by rw [hk.out]; rfl, (Below.refl _ _).alloc (Nat.le_refl _) _⟩
    · skip
      have hk := Lib.hid (show (!decide (mayW x)) = true from by rw [decide_eq_false (fun h => h1 (h.1))]; rfl)
      go_enter Try.func30, Try.ntmps30
      go_wp2
      go_ret
      exact ⟨by rw [hk.out]; rfl, (Below.refl _ _).alloc (Nat.le_refl _) _⟩
end Go.Proofs.Ytjbdkhddnblieaa
namespace Go.Proofs.Ytjbdkhddnblieaa
open Go.RowKit Go.Shelf
set_option maxRecDepth 100000 in
set_option maxHeartbeats 4000000 in
theorem indexWr_any (w : World) {S : Nat → Prop} {a : Option Addr} {n c : Nat} {l : List Wr} (hl : RdL Elt.wr S w (.slice a n c) l) :
    Calls Try.prog 49 #[.slice a n c, .func (.func 30) #[] #[]] w fun e w' => ∃ i : Int, e = .returned (.int .i64 i) ∧ decide (0 ≤ i) = (!decide (∀ x ∈ l, mayW x)) ∧ Below w.heap.size w w' := by
  obtain ⟨rfl, hnc, hcm⟩ := hl.len
  have hlm : l.length ≤ 9223372036854775807 := by unfold maxLen at hcm; omega
  have hEE := enters_of Try.func30 (by kernel_rfl) rfl
  have q := Below.refl w.heap.size w
  go_enter Try.func49, Try.ntmps49
  go_upto_region 2 with (fail)
  go_loopw [5, 8] (fun _ iv wr => ∃ (k : Nat), iv = .int .i64 k ∧ k ≤ l.length ∧ (∀ x ∈ l.take k, mayW x) ∧ Below w.heap.size w wr)
    (fun _ i _ => l.length - (intOf i).toNat)
  case atStart => exact ⟨0, rfl, Nat.zero_le _, by simp, q⟩
  case round =>
    clear q
    obtain ⟨k, rfl, hkl, hall, q⟩ := hrel
    rcases Nat.lt_or_ge k l.length with hlt | hge
    · obtain ⟨b, off, A, C, A2, C2, rfl, hb, c0, c1, c2, c3, hk1, hk2, hw64⟩ := (hl.below q).wr k hlt
      have hw : RdWr S wr (.agg #[.int .i64 l[k].table, .slice A l[k].key.length C, .bool l[k].gone, .slice A2 l[k].val.length C2]) l[k] := ⟨A, C, A2, C2, rfl, hk1, hk2, hw64⟩
      go_upto_region 4 with (fail)
      go_wp2_with fail
      refine (wrong_any wr hw).mono ?_
      rintro e w1 ⟨rfl, hb1⟩
      replace q := q.trans (hb1.mono q.size)
      clear c0 c1 c2 c3 hk1 hk2 hw
      by_cases hm : mayW l[k]
      · have hall2 : ∀ x ∈ l.take (k + 1), mayW x := fun x hx => by
          rw [List.take_succ_eq_append_getElem hlt] at hx
          rcases List.mem_append.1 hx with h | h
          · exact hall x h
          · simp at h; rw [h]; exact hm
        have d1 : decide (mayW l[k]) = true := decide_eq_true hm
        clear hall hm
        go_wp2_with fail
        go_roundw
        case rel => exact ⟨k + 1, by go_num, by omega, hall2, q⟩
        case measure => simp [intOf]; omega
      · have d1 : decide (mayW l[k]) = false := decide_eq_false hm
        have hno := Lib.hid (show decide (∀ x ∈ l, mayW x) = false from decide_eq_false fun h => hm (h _ (List.getElem_mem hlt)))
        clear hall hm
        go_wp2_with fail
        go_ret
        exact ⟨_, rfl, by rw [hno.out]; simp, q⟩
    · obtain rfl : k = l.length := by omega
      rw [List.take_length] at hall
      have hno := Lib.hid (show decide (∀ x ∈ l, mayW x) = true from decide_eq_true hall)
      clear hall
      go_wp2_with fail
      go_ret
      exact ⟨_, rfl, by rw [hno.out]; simp, q⟩
set_option maxRecDepth 100000 in
set_option maxHeartbeats 4000000 in
theorem contains_any (w : World) {S : Nat → Prop} {a : Option Addr} {n c : Nat} {l : List Wr} (hl : RdL Elt.wr S w (.slice a n c) l) :
    Calls Try.prog 35 #[.slice a n c, .func (.func 30) #[] #[]] w fun e w' => e = .returned (.bool (!decide (∀ x ∈ l, mayW x))) ∧ Below w.heap.size w w' := by
  go_enter Try.func35, Try.ntmps35
  go_wp2_with fail
  refine (indexWr_any w hl).mono ?_
  rintro e w1 ⟨i, rfl, hi, hb⟩
  replace hi := Lib.hid hi
  go_wp2_with fail
  go_ret
  exact ⟨by rw [← hi.out]; rfl, hb⟩
end Go.Proofs.Ytjbdkhddnblieaa
namespace Go.Proofs.Ytjbdkhddnblieaa
open Go.RowKit Go.Shelf
def DuoV (W : World) (b : Nat) (t : TypeId) (u v : Value) : Prop := W.heap[b]? = some (.cells #[u, v] t (0, 0))
section
variable {W W' : World} {b : Nat} {t : TypeId} {u v : Value}
theorem DuoV.new (W : World) (t : TypeId) (u v : Value) : DuoV (W.alloc (.cells #[u, v] t)) W.heap.size t u v := by unfold DuoV; simp only [World.alloc, Array.getElem?_push_size]
theorem DuoV.lt (h : DuoV W b t u v) : b < W.heap.size := (Array.getElem?_eq_some_iff.1 h).1
theorem DuoV.cell0 (h : DuoV W b t u v) : W.cell? ⟨b, 0, none⟩ = some u := by simp [World.cell?, show W.heap[b]? = _ from h]
theorem DuoV.cell1 (h : DuoV W b t u v) : W.cell? ⟨b, 1, none⟩ = some v := by simp [World.cell?, show W.heap[b]? = _ from h]
theorem DuoV.below {n : Nat} (h : DuoV W b t u v) (hb : Below n W W') (hn : b < n) : DuoV W' b t u v := (hb.block b hn).trans h
end
set_option maxRecDepth 100000 in
set_option maxHeartbeats 4000000 in
theorem dCheck_any (w : World) {S : Nat → Prop} {v : Value} {d : Dl} (h : RdDl S w v d) :
    Calls Try.prog 17 #[v] w fun e w' => e = .returned (.bool (decide (okD d))) ∧ Below w.heap.size w w' := by
  obtain ⟨a, c, a2, c2, rfl, hw, hm⟩ := h
  obtain ⟨_, hc1, hm1⟩ := hw.len
  obtain ⟨_, hc2, hm2⟩ := hm.len
  have hl1 : d.writes.length ≤ 9223372036854775807 := by unfold maxLen at hm1; omega
  have hl2 : d.marks.length ≤ 9223372036854775807 := by unfold maxLen at hm2; omega
  obtain ⟨W, hW⟩ : ∃ W, W = w.alloc (.cells #[.slice a d.writes.length c, .slice a2 d.marks.length c2] 25) := ⟨_, rfl⟩
  have q : Below w.heap.size w W := by rw [hW]; exact (Below.refl _ _).alloc (Nat.le_refl _) _
  have hB : DuoV W w.heap.size 25 (.slice a d.writes.length c) (.slice a2 d.marks.length c2) := by rw [hW]; exact DuoV.new _ _ _ _
  go_enter Try.func17, Try.ntmps17
  go_upto_region 1 with (fail)
  rw [← hW]
  clear hW
  have b0 := hB.cell0
  have b1 := hB.cell1
  rcases Nat.lt_or_ge 20 d.writes.length with h1 | h1
  · have d1 : (20 < d.writes.length) = True := eq_true h1
    have HK := Lib.hid (show decide (okD d) = false from decide_eq_false fun h => by have := h.1; omega)
    go_wp2_with fail
    go_ret
    exact ⟨by rw [HK.out]; rfl, q⟩
  · have d1 : (20 < d.writes.length) = False := eq_false (by omega)
    rcases Nat.lt_or_ge 4 d.marks.length with h2 | h2
    · have d2 : (4 < d.marks.length) = True := eq_true h2
      have HK := Lib.hid (show decide (okD d) = false from decide_eq_false fun h => by have := h.2.1; omega)
      go_wp2_with fail
      go_ret
      exact ⟨by rw [HK.out]; rfl, q⟩
    · have d2 : (4 < d.marks.length) = False := eq_false (by omega)
      go_wp2_with fail
      refine (contains_any W (hw.below q)).mono ?_
      rintro e w1 ⟨rfl, hb1⟩
      replace q := q.trans (hb1.mono q.size)
      replace hB := hB.below hb1 hB.lt
      clear b0 b1 hb1
      have b0 := hB.cell0
      have b1 := hB.cell1
      by_cases h3 : ∀ x ∈ d.writes, mayW x
      · have d3 : decide (∀ x ∈ d.writes, mayW x) = true := decide_eq_true h3
        go_upto_region 5 with (fail)
        go_loopw [3, 24] (fun lv iv wr => ∃ (k : Nat) (z : Int), iv = .int .i64 k ∧ lv = .int .i64 z ∧ k ≤ d.marks.length ∧ (k = 0 → z = 0) ∧ (∀ h : k - 1 < d.marks.length, 0 < k → z = d.marks[k - 1]) ∧ okM d.writes.length 0 (d.marks.take k) ∧ W64 z ∧ Below w.heap.size w wr ∧ DuoV wr w.heap.size 25 (.slice a d.writes.length c) (.slice a2 d.marks.length c2))
          (fun _ i _ => d.marks.length - (intOf i).toNat)
        case atStart => exact ⟨0, 0, rfl, rfl, Nat.zero_le _, fun _ => rfl, fun _ h => absurd h (Nat.lt_irrefl _), trivial, ⟨by omega, by omega⟩, q, hB⟩
        case round =>
          clear q hB b0 b1
          obtain ⟨k, z, rfl, rfl, hkl, hz0, hz1, hok, hzw, q, hB⟩ := hrel
          have b0 := hB.cell0
          have b1 := hB.cell1
          rcases Nat.lt_or_ge k d.marks.length with hlt | hge
          · obtain ⟨b, off, rfl, hb, c0, hi⟩ := (hm.below q).num k hlt
            have hcur : (if k = 0 then (0 : Int) else d.marks[k - 1]'(by omega)) = z := by
              by_cases h0 : k = 0
              · rw [if_pos h0, hz0 h0]
              · rw [if_neg h0, hz1 (by omega) (by omega)]
            obtain ⟨m, hm0⟩ : ∃ m, m = d.marks[k] := ⟨_, rfl⟩
            have hts := Lib.hid (okM_take_succ (n := d.writes.length) (l := 0) hlt)
            rw [← hm0] at c0 hi
            unfold W64 at hi hzw
            by_cases h4 : m < z
            · have d4 : decide (m < z) = true := decide_eq_true h4
              have HK := Lib.hid (show decide (okD d) = false from decide_eq_false fun h => by
                have h5 := (hts.out.1 (okM_take h.2.2.2 _)).2.1
                rw [hcur, ← hm0] at h5
                omega)
              clear hz0 hz1 hok hts hcur hm0 h4
              go_wp2_with fail
              go_ret
              exact ⟨by rw [HK.out]; rfl, q⟩
            · have d4 : decide (m < z) = false := decide_eq_false h4
              by_cases h5 : (d.writes.length : Int) < m
              · have d5 : decide ((d.writes.length : Int) < m) = true := decide_eq_true h5
                have HK := Lib.hid (show decide (okD d) = false from decide_eq_false fun h => by
                  have h5 := (hts.out.1 (okM_take h.2.2.2 _)).2.2
                  rw [← hm0] at h5
                  omega)
                clear hz0 hz1 hok hts hcur hm0 h4
                go_wp2_with fail
                go_ret
                exact ⟨by rw [HK.out]; rfl, q⟩
              · have d5 : decide ((d.writes.length : Int) < m) = false := decide_eq_false h5
                have hok2 : okM d.writes.length 0 (d.marks.take (k + 1)) := hts.out.2 ⟨hok, by rw [hcur, ← hm0]; omega, by rw [← hm0]; omega⟩
                have hmh := Lib.hid hm0
                clear hz0 hz1 hok hts hcur h4 h5 hm0
                go_wp2_with fail
                go_roundw
                case rel => exact ⟨k + 1, m, by go_num, rfl, by omega, fun h => by omega, fun _ _ => hmh.out, hok2, ⟨hi.1, hi.2⟩, q, hB⟩
                case measure => simp [intOf]; omega
          · obtain rfl : k = d.marks.length := by omega
            rw [List.take_length] at hok
            have HK := Lib.hid (show decide (okD d) = true from decide_eq_true ⟨h1, h2, h3, hok⟩)
            clear hz0 hz1 hok
            go_wp2_with fail
            go_ret
            exact ⟨by rw [HK.out]; rfl, q⟩
      · have d3 : decide (∀ x ∈ d.writes, mayW x) = false := decide_eq_false h3
        have HK := Lib.hid (show decide (okD d) = false from decide_eq_false fun h => h3 h.2.2.1)
        go_wp2_with fail
        go_ret
        exact ⟨by rw [HK.out]; rfl, q⟩
end Go.Proofs.Ytjbdkhddnblieaa
