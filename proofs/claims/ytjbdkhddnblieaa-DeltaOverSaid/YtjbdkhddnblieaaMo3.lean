/-
  TEXTS OF ONE PROOF, merged: DltD, Dlu, Dli, Cmp, DltN, Dma, Cpy, Apv, Dmb.
-/
import Derived.BigQuiet
import Derived.Deep.Cut
import Derived.Deep.QuietTactic
import Derived.Laws.CopyRow
import Derived.Lib.Bytealg
import Derived.Lib.BytesEntry
import Derived.Shelf.Abstract
import Derived.Test.YtjbdkhddnblieaaMo2
namespace Go.Proofs.Ytjbdkhddnblieaa
open Go.RowKit Go.Shelf
theorem boxes2 (w : World) (t t2 : TypeId) (us vs : List Value) : ∃ W, W = (w.alloc (.cells us.toArray t)).alloc (.cells vs.toArray t2) ∧ Below w.heap.size w W ∧ BoxN W w.heap.size t us ∧ BoxN W (w.heap.size + 1) t2 vs ∧ W.heap.size = w.heap.size + 1 + 1 := by
  have h1 : Below w.heap.size w (w.alloc (.cells us.toArray t)) := (Below.refl _ _).alloc (Nat.le_refl _) _
  have s1 : (w.alloc (.cells us.toArray t)).heap.size = w.heap.size + 1 := World.size_alloc _ _
  have b1 := BoxN.new w t us
  generalize w.alloc (.cells us.toArray t) = w1 at *
  have h2 : Below w1.heap.size w1 (w1.alloc (.cells vs.toArray t2)) := (Below.refl _ _).alloc (Nat.le_refl _) _
  have s2 : (w1.alloc (.cells vs.toArray t2)).heap.size = w1.heap.size + 1 := World.size_alloc _ _
  have b2 := BoxN.new w1 t2 vs
  rw [s1] at b2 s2
  exact ⟨_, rfl, h1.trans (h2.mono h1.size), b1.below h2 b1.lt, b2, s2⟩
def NewS (W V : World) (k : Value) (xs : List UInt8) : Prop := ∃ a c, k = .slice a xs.length c ∧ RdS (fun g => W.heap.size ≤ g ∧ g < V.heap.size) V (.slice a xs.length c) xs
theorem NewS.below {W V V' : World} {k : Value} {xs : List UInt8} (h : NewS W V k xs) (hb : Below V.heap.size V V') : NewS W V' k xs := by
  obtain ⟨a, c, e, hr⟩ := h
  exact ⟨a, c, e, (hr.below hb).weak fun g hg => ⟨hg.1, Nat.lt_of_lt_of_le hg.2 hb.size⟩⟩
theorem NewS.grown {W V V' : World} {k : Value} {xs : List UInt8} {b : Nat} (h : NewS W V k xs) (hg : V.grownBy V' (some b)) (hb : b < W.heap.size) : NewS W V' k xs := by
  obtain ⟨a, c, e, hr⟩ := h
  exact ⟨a, c, e, (hr.keep fun k hk => hg.block k hk.2 fun e => by injection e with e; have := hk.1; omega).weak fun g h => ⟨h.1, Nat.lt_of_lt_of_le h.2 hg.size⟩⟩
theorem NewS.of {W V V' : World} {E : TypeId} {a : Option Addr} {k c : Nat} {xs : List UInt8} (h : Below W.heap.size W V) (hf : Fresh E V V' (.slice a k c) xs) : NewS W V' (.slice a k c) xs := by
  obtain rfl : k = xs.length := hf.len
  exact ⟨a, c, rfl, hf.2.rdS.weak fun g hg => ⟨Nat.le_trans h.size hg.1, hg.2⟩⟩
def AlnJ (W : World) (b : Nat) (x : Wr) : List Value → World → Prop
  | [], V => Below W.heap.size W V
  | [k], V => Below W.heap.size W V ∧ NewS W V k x.key
  | [k, v], V => Below W.heap.size W V ∧ NewS W V k x.key ∧ NewS W V v x.val
  | [k, v, _], V => W.grownBy V (some b) ∧ (∃ v0, BoxN V b 28 [.int .i64 x.table, k, .bool x.gone, v0]) ∧ NewS W V k x.key ∧ NewS W V v x.val
  | _, V => W.grownBy V (some b) ∧ ∃ k v, BoxN V b 28 [.int .i64 x.table, k, .bool x.gone, v] ∧ NewS W V k x.key ∧ NewS W V v x.val
theorem AlnJ.below {W : World} {b : Nat} {x : Wr} : ∀ (l : List Value) (V V' : World), AlnJ W b x l V → Below V.heap.size V V' → AlnJ W b x l V'
  | [], _, _, h, hb => Below.trans h (hb.mono (Below.size h))
  | [_], _, _, ⟨h, h1⟩, hb => ⟨h.trans (hb.mono h.size), h1.below hb⟩
  | [_, _], _, _, ⟨h, h1, h2⟩, hb => ⟨h.trans (hb.mono h.size), h1.below hb, h2.below hb⟩
  | [_, _, _], _, _, ⟨h, ⟨v0, h0⟩, h1, h2⟩, hb => ⟨grown_trans h (grown_below' hb _), ⟨v0, h0.below hb h0.lt⟩, h1.below hb, h2.below hb⟩
  | _ :: _ :: _ :: _ :: _, _, _, ⟨h, k, v, h0, h1, h2⟩, hb => ⟨grown_trans h (grown_below' hb _), k, v, h0.below hb h0.lt, h1.below hb, h2.below hb⟩
def WrEnd (w : World) (x : Wr) (e : Ending) (w' : World) : Prop := ∃ v, e = .returned v ∧ RdWr (fun k => w.heap.size ≤ k ∧ k < w'.heap.size) w' v x ∧ Below w.heap.size w w'
set_option maxRecDepth 100000 in
set_option maxHeartbeats 4000000 in
theorem dAlone_any (w : World) {S : Nat → Prop} {v : Value} {x : Wr} (h : RdWr S w v x) (h1 : x.key.length ≤ 1000000) (h2 : x.val.length ≤ 1000000) :
    Calls Try.prog 31 #[v] w (WrEnd w x) := by
  obtain ⟨a, c, a2, c2, rfl, hk, hv, ht⟩ := h
  obtain ⟨W, hW, q, bn, bz, hsz⟩ := boxes2 w 28 28 [.int .i64 x.table, .slice a x.key.length c, .bool x.gone, .slice a2 x.val.length c2] [.int .i64 0, .slice none 0 0, .bool false, .slice none 0 0]
  have eK : ∀ args w, (callFunc 48 args).run Try.prog w = .ok (.enter 48 args) w := enters_of Try.func48 (by kernel_rfl) rfl
  go_enter Try.func31, Try.ntmps31
  go_upto_region 1 with (fail)
  rw [show (w.alloc (.cells #[.int .i64 x.table, .slice a x.key.length c, .bool x.gone, .slice a2 x.val.length c2] 28)).alloc (.cells #[.int .i64 0, .slice none 0 0, .bool false, .slice none 0 0] 28) = W from hW.symm]
  clear hW
  have hk' := hk.below q
  have hv' := hv.below q
  refine wp_region_lnl (K := fun A B => A.grownBy B (some w.heap.size)) (by kernel_rfl) (by kernel_rfl) [2, 5, 7, 9] (by kernel_rfl) [lEq (.pointer (some ⟨w.heap.size, 0 + 1, none⟩)), lEq (.slice a x.key.length c), lAny, lEq (.pointer (some ⟨w.heap.size, 0 + 3, none⟩)), lEq (.slice a2 x.val.length c2), lAny, lEq (.pointer (some ⟨w.heap.size, 0 + 1, none⟩)), lAny, lEq (.pointer (some ⟨w.heap.size, 0 + 3, none⟩)), lAny] (AlnJ W w.heap.size x) AlnJ.below (show Below W.heap.size W W from Below.refl _ _)
    ⟨?o0, ?o1, ?o2, ?o3, ?o4, ?o5, ?o6, ?o7, ?o8, ?o9, trivial⟩ ?fin
  case o0 =>
    refine LnOp.side rfl (by kernel_rfl) (fun A va w' k hF hT hk hJ hb hu hp hd => ?_)
    have e1 : A.eval (.tmp 1) = .pointer (some ⟨w.heap.size, 0, none⟩) := hF 1 rfl
    exact wp_fieldN wrS rfl (e1) (by omega) ⟨_, rfl, rfl, Below.refl _ _⟩
  case o1 =>
    refine LnOp.side rfl (by kernel_rfl) (fun A va w' k hF hT hk hJ hb hu hp hd => ?_)
    have e1 : A.eval (.tmp 3) = .pointer (some ⟨w.heap.size, 0 + 1, none⟩) := (hT 3 0 (by simp) rfl).trans (hd ⟨0, .data⟩ (by simp) rfl rfl)
    obtain rfl : k = 0 := by have := hb 0 2 rfl (by kernel_rfl); omega
    have hJ0 : Below W.heap.size W w' := hJ
    exact wp_ld_slice (e := 5) rfl e1 (by kernel_rfl) ((bn.below (hJ0.mono (by omega)) bn.lt).cell (i := 1) rfl) ⟨_, rfl, rfl, Below.refl _ _⟩
  case o2 =>
    refine LnOp.line 0 rfl rfl (fun A va w' hF hT hJ hu hd => ?_)
    have e1 : A.eval (.tmp 4) = .slice a x.key.length c := (hT 4 1 (by simp) rfl).trans (hd ⟨1, .data⟩ (by simp) rfl rfl)
    have hJ0 : Below W.heap.size W w' := hJ
    have hB : Below w.heap.size w w' := q.trans (hJ0.mono q.size)
    refine wp_callFn rfl eK (by simp only [List.map_toArray, List.map_cons, List.map_nil, e1]) ((clone_any w' (hk.below hB).rd (Nat.le_refl _) h1).mono ?_)
    rintro e w2 ⟨ad, k', c', rfl, hf⟩
    exact ⟨_, rfl, _, rfl, ⟨hJ0.trans (hf.1.mono hJ0.size), NewS.of hJ0 hf⟩, grown_below' hf.1 _⟩
  case o3 =>
    refine LnOp.side rfl (by kernel_rfl) (fun A va w' k hF hT hk hJ hb hu hp hd => ?_)
    have e1 : A.eval (.tmp 1) = .pointer (some ⟨w.heap.size, 0, none⟩) := hF 1 rfl
    exact wp_fieldN wrS rfl (e1) (by omega) ⟨_, rfl, rfl, Below.refl _ _⟩
  case o4 =>
    refine LnOp.side rfl (by kernel_rfl) (fun A va w' k hF hT hk hJ hb hu hp hd => ?_)
    have e1 : A.eval (.tmp 6) = .pointer (some ⟨w.heap.size, 0 + 3, none⟩) := (hT 6 3 (by simp) rfl).trans (hd ⟨3, .data⟩ (by simp) rfl rfl)
    have hJ0 : Below W.heap.size W w' := by
      have h5 := hb 1 5 rfl (by kernel_rfl)
      rcases k with _ | _ | k
      · exact hJ
      · exact hJ.1
      · omega
    exact wp_ld_slice (e := 5) rfl e1 (by kernel_rfl) ((bn.below (hJ0.mono (by omega)) bn.lt).cell (i := 3) rfl) ⟨_, rfl, rfl, Below.refl _ _⟩
  case o5 =>
    refine LnOp.line 1 rfl rfl (fun A va w' hF hT hJ hu hd => ?_)
    have e1 : A.eval (.tmp 7) = .slice a2 x.val.length c2 := (hT 7 4 (by simp) rfl).trans (hd ⟨4, .data⟩ (by simp) rfl rfl)
    obtain ⟨hJ0, hJ1⟩ := hJ
    have hB : Below w.heap.size w w' := q.trans (hJ0.mono q.size)
    refine wp_callFn rfl eK (by simp only [List.map_toArray, List.map_cons, List.map_nil, e1]) ((clone_any w' (hv.below hB).rd (Nat.le_refl _) h2).mono ?_)
    rintro e w2 ⟨ad, k', c', rfl, hf⟩
    exact ⟨_, rfl, _, rfl, ⟨hJ0.trans (hf.1.mono hJ0.size), hJ1.below hf.1, NewS.of hJ0 hf⟩, grown_below' hf.1 _⟩
  case o6 =>
    refine LnOp.side rfl (by kernel_rfl) (fun A va w' k hF hT hk hJ hb hu hp hd => ?_)
    have e1 : A.eval (.tmp 1) = .pointer (some ⟨w.heap.size, 0, none⟩) := hF 1 rfl
    exact wp_fieldN wrS rfl (e1) (by omega) ⟨_, rfl, rfl, Below.refl _ _⟩
  case o7 =>
    refine LnOp.line 2 rfl rfl (fun A va w' hF hT hJ hu hd => ?_)
    have e1 : A.eval (.tmp 9) = .pointer (some ⟨w.heap.size, 0 + 1, none⟩) := (hT 9 6 (by simp) rfl).trans (hd ⟨6, .data⟩ (by simp) rfl rfl)
    have x2 : A.eval (.tmp 5) = va 2 := hT 5 2 (by simp) rfl
    obtain ⟨hJ0, ⟨ka, kc, ek, hkr⟩, hv1⟩ := hJ
    refine wp_boxSet (j := 1) rfl (by kernel_rfl) e1 (x2.trans ek) rfl rfl (bn.below hJ0 (by omega)) (by simp) (fun w2 hg hB2 => ?_)
    have hbW : w.heap.size < W.heap.size := by omega
    exact ⟨_, rfl, ⟨grown_trans (grown_below2 hJ0 rfl _) hg, ⟨_, by rw [ek]; exact hB2⟩, NewS.grown ⟨ka, kc, ek, hkr⟩ hg hbW, hv1.grown hg hbW⟩, hg⟩
  case o8 =>
    refine LnOp.side rfl (by kernel_rfl) (fun A va w' k hF hT hk hJ hb hu hp hd => ?_)
    have e1 : A.eval (.tmp 1) = .pointer (some ⟨w.heap.size, 0, none⟩) := hF 1 rfl
    exact wp_fieldN wrS rfl (e1) (by omega) ⟨_, rfl, rfl, Below.refl _ _⟩
  case o9 =>
    refine LnOp.line 3 rfl rfl (fun A va w' hF hT hJ hu hd => ?_)
    have e1 : A.eval (.tmp 10) = .pointer (some ⟨w.heap.size, 0 + 3, none⟩) := (hT 10 8 (by simp) rfl).trans (hd ⟨8, .data⟩ (by simp) rfl rfl)
    have x2 : A.eval (.tmp 8) = va 5 := hT 8 5 (by simp) rfl
    obtain ⟨hg0, ⟨v0, hB0⟩, hk1, ⟨va2, vc, ev, hvr⟩⟩ := hJ
    refine wp_boxSet (j := 3) rfl (by kernel_rfl) e1 (x2.trans ev) rfl rfl hB0 (by simp) (fun w2 hg hB2 => ?_)
    have hbW : w.heap.size < W.heap.size := by omega
    exact ⟨_, rfl, ⟨grown_trans hg0 hg, _, _, by rw [ev]; exact hB2, hk1.grown hg hbW, NewS.grown ⟨va2, vc, ev, hvr⟩ hg hbW⟩, hg⟩
  case fin =>
    intro vs1 W9 hJ hG
    obtain ⟨hg9, k9, v9, hb9, ⟨ka, kc, rfl, hk9⟩, ⟨va, vc, rfl, hv9⟩⟩ := hJ
    have q9 : Below w.heap.size w W9 := q.grown hg9 q.size fun k e => by injection e with e; omega
    have bz9 := bz.other hg9 (by simp)
    clear hG
    simp only [putAll]
    go_simp
    have c0 := hb9.cell (i := 0) rfl
    have c1 := hb9.cell (i := 1) rfl
    have c2 := hb9.cell (i := 2) rfl
    have c3 := hb9.cell (i := 3) rfl
    go_wp2_with (first | (refine wpList_boxStore (us := [.int .i64 x.table, .slice ka x.key.length kc, .bool x.gone, .slice va x.val.length vc]) (by kernel_rfl) rfl rfl rfl rfl rfl rfl bz9 rfl ?_; intro wd hgd hBd) | fail)
    have d0 := hBd.cell (i := 0) rfl
    have d1 := hBd.cell (i := 1) rfl
    have d2 := hBd.cell (i := 2) rfl
    have d3 := hBd.cell (i := 3) rfl
    obtain ⟨fs, hu, _⟩ := wrS.hu
    refine bodyPost_ret (v := .agg #[.int .i64 x.table, .slice ka x.key.length kc, .bool x.gone, .slice va x.val.length vc]) (by simp [results, Try.results31, go_sem, loadVar, isAgg, run_underlying hu, run_sizeOf' wrS.hs, loadCellsFrom, Addr.add, d0, d1, d2, d3]) rfl ?_
    have hk0 : ∀ k, W.heap.size ≤ k ∧ k < W9.heap.size → wd.heap[k]? = W9.heap[k]? := fun k hk => hgd.block k hk.2 fun e => by injection e with e; omega
    exact ⟨_, rfl, ⟨ka, kc, va, vc, rfl, (hk9.keep hk0).weak fun k hk => ⟨by omega, Nat.lt_of_lt_of_le hk.2 hgd.size⟩, (hv9.keep hk0).weak fun k hk => ⟨by omega, Nat.lt_of_lt_of_le hk.2 hgd.size⟩, ht⟩, q9.grown hgd q9.size fun k e => by injection e with e; omega⟩
end Go.Proofs.Ytjbdkhddnblieaa
namespace Go.Proofs.Ytjbdkhddnblieaa
open Go.RowKit Go.Shelf
theorem str_ltD {a b : List UInt8} : Op.bytesLess (strOf a).toList (strOf b).toList = ltB a b := by
  rw [show (strOf a).toList = a by simp [strOf], show (strOf b).toList = b by simp [strOf]]; rfl
end Go.Proofs.Ytjbdkhddnblieaa
namespace Go.Proofs.Ytjbdkhddnblieaa
open Go.RowKit Go.Shelf
set_option maxRecDepth 100000 in
set_option maxHeartbeats 4000000 in
theorem refIn_any (w : World) {S S2 : Nat → Prop} {v : Value} {x : Sp} {A : Option Addr} {n C : Nat} {k : List UInt8} (h : RdSp S w v x) (hk : RdS S2 w (.slice A n C) k) :
    Calls Try.prog 28 #[v, .slice A n C] w fun e w' => e = .returned (.bool (inS x k)) ∧ Below w.heap.size w w' := by
  obtain ⟨a, c, a2, c2, rfl, hl, hh, ht⟩ := h
  obtain ⟨W, hW⟩ : ∃ W, W = w.alloc (.cells #[.int .i64 x.table, .slice a x.lo.length c, .slice a2 x.hi.length c2, .bool x.isOpen] 39) := ⟨_, rfl⟩
  have q : Below w.heap.size w W := by rw [hW]; exact (Below.refl _ _).alloc (Nat.le_refl _) _
  have bn : BoxN W w.heap.size 39 [.int .i64 x.table, .slice a x.lo.length c, .slice a2 x.hi.length c2, .bool x.isOpen] := by rw [hW]; exact BoxN.new _ _ _
  go_enter Try.func28, Try.ntmps28
  go_upto_region 1 with (fail)
  rw [← hW]
  clear hW
  have b1 := bn.cell (i := 1) rfl
  have b2 := bn.cell (i := 2) rfl
  have b3 := bn.cell (i := 3) rfl
  have r1 := (hk.below q).rd
  have r2 := (hl.below q).rd
  have r3 := (hh.below q).rd
  cases h1 : ltB k x.lo with
  | true =>
    have d1 : Op.bytesLess (strOf k).toList (strOf x.lo).toList = true := str_ltD.trans h1
    have d0 : (!Op.bytesLess (strOf k).toList (strOf x.lo).toList) = false := by rw [d1]; rfl
    have H := Lib.hid (show inS x k = false by unfold inS; simp [h1])
    clear h1
    go_wp2_with (first | (refine wpList_conv (x := .tmp 5) byP rfl rfl rfl r1 ?_) | (refine wpList_conv (x := .tmp 8) byP rfl rfl rfl r2 ?_; go_wp2_with fail) | fail)
    go_ret
    exact ⟨by rw [H.out]; rfl, q⟩
  | false =>
    have d1 : Op.bytesLess (strOf k).toList (strOf x.lo).toList = false := str_ltD.trans h1
    have d0 : (!Op.bytesLess (strOf k).toList (strOf x.lo).toList) = true := by rw [d1]; rfl
    cases h2 : x.isOpen with
    | true =>
      rw [h2] at b3
      have H := Lib.hid (show inS x k = true by unfold inS; simp [h1, h2])
      clear h1 h2
      go_wp2_with (first | (refine wpList_conv (x := .tmp 5) byP rfl rfl rfl r1 ?_) | (refine wpList_conv (x := .tmp 8) byP rfl rfl rfl r2 ?_; go_wp2_with fail) | fail)
      go_ret
      exact ⟨by rw [H.out]; rfl, q⟩
    | false =>
      rw [h2] at b3
      cases h3 : ltB k x.hi with
      | true =>
        have d3 : Op.bytesLess (strOf k).toList (strOf x.hi).toList = true := str_ltD.trans h3
        have H := Lib.hid (show inS x k = true by unfold inS; simp [h1, h2, h3])
        clear h1 h2 h3
        go_wp2_with (first | (refine wpList_conv (x := .tmp 5) byP rfl rfl rfl r1 ?_) | (refine wpList_conv (x := .tmp 8) byP rfl rfl rfl r2 ?_) | (refine wpList_conv (x := .tmp 15) byP rfl rfl rfl r1 ?_) | (refine wpList_conv (x := .tmp 18) byP rfl rfl rfl r3 ?_) | fail)
        go_ret
        exact ⟨by rw [H.out]; rfl, q⟩
      | false =>
        have d3 : Op.bytesLess (strOf k).toList (strOf x.hi).toList = false := str_ltD.trans h3
        have H := Lib.hid (show inS x k = false by unfold inS; simp [h1, h2, h3])
        clear h1 h2 h3
        go_wp2_with (first | (refine wpList_conv (x := .tmp 5) byP rfl rfl rfl r1 ?_) | (refine wpList_conv (x := .tmp 8) byP rfl rfl rfl r2 ?_) | (refine wpList_conv (x := .tmp 15) byP rfl rfl rfl r1 ?_) | (refine wpList_conv (x := .tmp 18) byP rfl rfl rfl r3 ?_) | fail)
        go_ret
        exact ⟨by rw [H.out]; rfl, q⟩
end Go.Proofs.Ytjbdkhddnblieaa
namespace Go.Proofs.Ytjbdkhddnblieaa
open Go.RowKit
theorem u8_tri (x y : UInt8) : x < y ∨ x = y ∨ y < x := by
  rcases Nat.lt_trichotomy x.toNat y.toNat with h | h | h
  · exact .inl (UInt8.lt_iff_toNat_lt.2 h)
  · exact .inr (.inl (UInt8.toNat_inj.1 h))
  · exact .inr (.inr (UInt8.lt_iff_toNat_lt.2 h))
theorem cmp_lt : ∀ (a b : List UInt8), decide (Lib.compareBytes a b < 0) = ltB a b
  | [], [] => rfl
  | [], _ :: _ => rfl
  | _ :: _, [] => rfl
  | x :: a, y :: b => by
    have ih := cmp_lt a b
    unfold Lib.compareBytes ltB Op.bytesLess
    unfold ltB at ih
    rcases u8_tri x y with h | h | h
    · simp [h]
    · subst h
      simp [UInt8.lt_irrefl, ih]
    · have h1 : ¬ x < y := UInt8.lt_asymm h
      have h2 : x ≠ y := fun e => by subst e; exact UInt8.lt_irrefl _ h
      simp [h, h1, h2]
theorem cmp_eq : ∀ (a b : List UInt8), (Lib.compareBytes a b == 0) = decide (a = b)
  | [], [] => rfl
  | [], _ :: _ => rfl
  | _ :: _, [] => rfl
  | x :: a, y :: b => by
    have ih := cmp_eq a b
    unfold Lib.compareBytes
    rcases u8_tri x y with h | h | h
    · have h2 : x ≠ y := fun e => by subst e; exact UInt8.lt_irrefl _ h
      simp [h, h2]
    · subst h
      simp [UInt8.lt_irrefl, ih]
    · have h1 : ¬ x < y := UInt8.lt_asymm h
      have h2 : x ≠ y := fun e => by subst e; exact UInt8.lt_irrefl _ h
      simp [h, h1, h2]
theorem cmp_ge (a b : List UInt8) : decide (0 ≤ Lib.compareBytes a b) = !ltB a b := by
  rw [← cmp_lt]
  by_cases h : Lib.compareBytes a b < 0
  · simp [h]
  · simp [h]; omega
theorem run_bytes {P : Program} {S : Nat → Prop} {w : World} {v : Value} {xs : List UInt8} (h : RdS S w v xs) : (Extern.Bytes.bytesOf v).run P w = .ok ⟨xs.toArray⟩ w := by
  rcases h with ⟨a, c, rfl, _, rfl⟩ | ⟨b, off, cap, rfl, _, _, _, hc⟩
  · cases a with
    | none => rfl
    | some p => simp [Extern.Bytes.bytesOf, Extern.Bytes.loadBytes]; rfl
  · have := Lib.run_loadBytesX (P := P) (w := w) (xs.map fun b => (b.toNat : Int)) ⟨b, off, none⟩ .empty (fun j x hj => by
      rw [Addr.add_lit]
      refine hc j _ ?_
      rw [List.getElem?_map] at hj
      cases he : xs[j]? with
      | none => rw [he] at hj; cases hj
      | some y =>
        rw [he] at hj
        simp only [Option.map_some, Option.some.injEq] at hj
        subst hj
        simp [bv, he])
    rw [List.length_map] at this
    simp only [Extern.Bytes.bytesOf, this]
    have e : Lib.bytesOf (xs.map fun b => (b.toNat : Int)) = xs := by
      unfold Lib.bytesOf
      rw [List.map_map]
      exact (List.map_congr_left fun b _ => by simp).trans (List.map_id _)
    rw [e]
    show Result.ok (⟨#[] ++ xs.toArray⟩ : ByteArray) w = _
    rw [Array.empty_append]
theorem run_compare {P : Program} {S S2 : Nat → Prop} {w : World} {va vb : Value} {xs ys : List UInt8} (hx : RdS S w va xs) (hy : RdS S2 w vb ys) :
    (Extern.BytealgCompare.compare #[va, vb]).run P w = .ok (.int .i64 (Lib.compareBytes xs ys)) w := by
  change Sem.run P (do pure (goInt (Extern.BytealgCompare.cmp (← Extern.Bytes.bytesOf va) (← Extern.Bytes.bytesOf vb)))) w = _
  simp only [Sem.run_bind, Sem.run_pure, run_bytes hx, run_bytes hy, Result.andThen]
  rw [Lib.cmp_eq]
  rfl
set_option maxRecDepth 100000 in
set_option maxHeartbeats 1000000 in
theorem compare_any (w : World) {S S2 : Nat → Prop} {a a2 : Option Addr} {n c n2 c2 : Nat} {xs ys : List UInt8} (hx : RdS S w (.slice a n c) xs) (hy : RdS S2 w (.slice a2 n2 c2) ys) :
    Calls Try.prog 57 #[.slice a n c, .slice a2 n2 c2] w fun e w' => e = .returned (.int .i64 (Lib.compareBytes xs ys)) ∧ w = w' := by
  have hc : (callFunc 67 #[.slice a n c, .slice a2 n2 c2]).run Try.prog w = .ok (.value (.int .i64 (Lib.compareBytes xs ys))) w := by
    rw [run_callFunc_extern Try.func67 (by kernel_rfl) (by kernel_rfl) (by kernel_rfl) (e := Extern.BytealgCompare.compare) (by kernel_rfl), run_compare hx hy]
    rfl
  go_enter Try.func57, Try.ntmps57
  go_wp2_with fail
  go_ret
  exact ⟨rfl, rfl⟩
end Go.Proofs.Ytjbdkhddnblieaa
namespace Go.Proofs.Ytjbdkhddnblieaa
theorem findW_last {ws : List Wr} {n : Nat} {v : Wr} (hv : ws[n]? = some v) (h : ∀ j w, n < j → ws[j]? = some w → w.plc ≠ v.plc) : findW ws v.plc = some v := by
  induction ws using snocInd with
  | h0 => cases hv
  | h1 ws u ih =>
    rw [findW_snoc]
    have hn := (List.getElem?_eq_some_iff.1 hv).1
    simp only [List.length_append, List.length_cons, List.length_nil] at hn
    by_cases e : n = ws.length
    · subst e
      rw [List.getElem?_append_right (Nat.le_refl _), Nat.sub_self] at hv
      simp at hv
      rw [hv, if_pos rfl]
    · rw [if_neg (h ws.length u (by omega) (by rw [List.getElem?_append_right (Nat.le_refl _), Nat.sub_self]; rfl))]
      rw [List.getElem?_append_left (by omega)] at hv
      refine ih hv fun j w hj hw => h j w hj ?_
      rw [List.getElem?_append_left (List.getElem?_eq_some_iff.1 hw).1]; exact hw
theorem find_of_mem {ws : List Wr} {w : Wr} (h : w ∈ ws) : ∃ v, findW ws w.plc = some v ∧ v ∈ lastW ws := by
  cases hf : findW ws w.plc with
  | none => exact absurd rfl (findE_none.1 hf w (List.mem_reverse.2 h))
  | some v => exact ⟨v, rfl, (findE_some ((last_find ws _).trans hf)).1⟩
theorem places_last {ws : List Wr} {ps : List Plc} (hs : SrtE ltP id ps) (hm : ∀ p, p ∈ ps ↔ ∃ w ∈ ws, w.plc = p) : ps = (lastW ws).map Wr.plc := by
  have hs2 : SrtE ltP id ((lastW ws).map Wr.plc) := List.pairwise_map.2 (last_srt ws)
  refine srtE_ext totP hs hs2 fun p => ?_
  have hmem : p ∈ ps ↔ p ∈ (lastW ws).map Wr.plc := by
    rw [hm]
    constructor
    · rintro ⟨w, hw, rfl⟩
      obtain ⟨v, h1, h2⟩ := find_of_mem hw
      exact List.mem_map.2 ⟨v, h2, (findE_some h1).2⟩
    · intro h
      obtain ⟨v, hv, e⟩ := List.mem_map.1 h
      exact ⟨v, last_mem hv, e⟩
  by_cases h : p ∈ ps
  · rw [show p = id p from rfl, findE_mem totP hs h, findE_mem totP hs2 (hmem.1 h)]
  · rw [findE_none.2 fun y hy e => h (by rw [← e]; exact hy), findE_none.2 fun y hy e => h (hmem.2 (by rw [← e]; exact hy))]
end Go.Proofs.Ytjbdkhddnblieaa
namespace Go.Proofs.Ytjbdkhddnblieaa
open Go.RowKit Go.Shelf
theorem compare_quiet {w : World} {n : Nat} {S S2 : Nat → Prop} {a a2 : Option Addr} {k c k2 c2 : Nat} {xs ys : List UInt8} (hx : RdS S w (.slice a k c) xs) (hy : RdS S2 w (.slice a2 k2 c2) ys) :
    Calls Try.prog 57 #[.slice a k c, .slice a2 k2 c2] (w.drewN n) fun e w'' => e = .returned (.int .i64 (Lib.compareBytes xs ys)) ∧ ∃ m, w'' = w.drewN m :=
  (compare_any (w.drewN n) (hx.keep fun _ _ => rfl) (hy.keep fun _ _ => rfl)).mono fun _ _ h => ⟨h.1, n, h.2.symm⟩
theorem srtQ_iff {l : List Pq} : SrtQ l ↔ ∀ j (h : j + 1 < l.length), ltB (l[j]'(by omega)).key (l[j + 1]'h).key = true := by
  constructor
  · intro h j hj
    exact srtE_get h (Nat.lt_succ_self j) hj
  · intro h
    refine List.pairwise_iff_getElem.2 fun i j hi hj hij => ?_
    induction j with
    | zero => omega
    | succ j ih =>
      by_cases e : i = j
      · subst e; exact h i hj
      · exact totB.tr (ih (by omega) (by omega)) (h j hj)
set_option maxRecDepth 100000 in
set_option maxHeartbeats 4000000 in
theorem rise_any (w : World) {S : Nat → Prop} {a : Option Addr} {n c : Nat} {l : List Pq} (hl : RdL Elt.pq S w (.slice a n c) l) :
    Calls Try.prog 44 #[.slice a n c] w fun e w' => e = .returned (.bool (decide (SrtQ l))) ∧ Below w.heap.size w w' := by
  obtain ⟨rfl, hnc, hcm⟩ := hl.len
  have hlm : l.length ≤ 9223372036854775807 := by unfold maxLen at hcm; omega
  have q := Below.refl w.heap.size w
  go_enter Try.func44, Try.ntmps44
  go_upto_region 2 with (fail)
  go_loopw [3] (fun iv wr => ∃ j : Nat, iv = .int .i64 ((j : Int) + 1) ∧ (j < l.length ∨ j = 0) ∧ RowKit.Hid (∀ i (h : i + 1 < l.length), i < j → ltB (l[i]'(by omega)).key (l[i + 1]'h).key = true) ∧ Below w.heap.size w wr) (fun i _ => l.length + 1 - (intOf i).toNat)
  case atStart => exact ⟨0, rfl, .inr rfl, Lib.hid (fun i _ h => absurd h (Nat.not_lt_zero _)), q⟩
  case round =>
    clear q
    obtain ⟨j, rfl, hjl, hno, q⟩ := hrel
    rcases Nat.lt_or_ge (j + 1) l.length with hlt | hge
    · have d1 : decide ((j : Int) + 1 < (l.length : Int)) = true := decide_eq_true (by omega)
      have d0 : ((j : Int) + 1 < (l.length : Int)) = True := eq_true (by omega)
      obtain ⟨b, off, A, C, A2, C2, rfl, hb, c0, c1, hk1, hk2⟩ := (hl.below q).pq j (by omega)
      obtain ⟨b', off', A', C', A2', C2', ee, hb', c0', c1', hk1', hk2'⟩ := (hl.below q).pq (j + 1) hlt
      obtain ⟨rfl, rfl⟩ : b = b' ∧ off = off' := by simpa using ee
      have hj9 : (j : Int) ≤ 9223372036854775806 := by omega
      have w0 : IntKind.i64.wrap (j : Int) = (j : Int) := by rw [IntKind.wrap_i64]; omega
      have ec := Lib.hid (cmp_ge (l[j]'(by omega)).key (l[j + 1]'hlt).key)
      obtain ⟨k1, hk10⟩ : ∃ k1, k1 = (l[j]'(by omega)).key := ⟨_, rfl⟩
      obtain ⟨k2, hk20⟩ : ∃ k2, k2 = (l[j + 1]'hlt).key := ⟨_, rfl⟩
      have ej : ((j + 1 : Nat) : Int) = (j : Int) + 1 := by omega
      rw [← hk10] at c0 hk1 ec
      rw [← hk20] at c0' hk1' ec
      have hnn : (0 : Int) ≤ (j : Int) + 1 := by omega
      have hj0 : j < l.length := by omega
      clear c1 c1' hk2 hk2' ej ee hb hb'
      cases h3 : ltB k1 k2 with
      | true =>
        have d3 : decide (0 ≤ Lib.compareBytes k1 k2) = false := by rw [ec.out, h3]; rfl
        have H := Lib.hid (show ∀ i (h : i + 1 < l.length), i < j + 1 → ltB (l[i]'(by omega)).key (l[i + 1]'h).key = true from fun i h hi => by
          by_cases e : i = j
          · subst e; rw [← hk10, ← hk20]; exact h3
          · exact hno.out i h (by omega))
        clear h3 hno ec hk10 hk20 hjl
        go_upto_region 4 with (fail)
        go_quiet (exact compare_quiet hk1 hk1')
        go_wp2_with fail
        go_roundw
        case rel => exact ⟨j + 1, by go_num, .inl hlt, H, Go.Proofs.Ytjbdkhddnblieaa.Below.drewN q _⟩
        case measure => simp [intOf]; omega
      | false =>
        have d3 : decide (0 ≤ Lib.compareBytes k1 k2) = true := by rw [ec.out, h3]; rfl
        have H := Lib.hid (show decide (SrtQ l) = false from decide_eq_false fun h => by
          have := srtQ_iff.1 h j hlt
          rw [← hk10, ← hk20, h3] at this
          cases this)
        clear h3 hno ec hk10 hk20 hjl
        go_upto_region 4 with (fail)
        go_quiet (exact compare_quiet hk1 hk1')
        go_wp2_with fail
        go_ret
        exact ⟨by rw [H.out]; rfl, Go.Proofs.Ytjbdkhddnblieaa.Below.drewN q _⟩
    · have d1 : decide ((j : Int) + 1 < (l.length : Int)) = false := decide_eq_false (by omega)
      have d0 : ((j : Int) + 1 < (l.length : Int)) = False := eq_false (by omega)
      have H := Lib.hid (show decide (SrtQ l) = true from decide_eq_true (srtQ_iff.2 fun i h => hno.out i h (by omega)))
      clear hge hjl hno
      go_wp2_with fail
      go_ret
      exact ⟨by rw [H.out]; rfl, q⟩
set_option maxRecDepth 100000 in
set_option maxHeartbeats 4000000 in
theorem in_any (w : World) {S S2 : Nat → Prop} {p v : Value} {u : Wr} {x : Sp} (hu : RdWr S w p u) (hx : RdSp S2 w v x) :
    Calls Try.prog 45 #[p, v] w fun e w' => e = .returned (.bool (decide (u.table = x.table) && inS x u.key)) ∧ Below w.heap.size w w' := by
  obtain ⟨a, c, a2, c2, rfl, hk, hv, ht⟩ := hu
  obtain ⟨a', c', a2', c2', rfl, hl, hh, ht'⟩ := hx
  obtain ⟨W, hW, q, bn, bm, hsz⟩ := boxes2 w 28 39 [.int .i64 u.table, .slice a u.key.length c, .bool u.gone, .slice a2 u.val.length c2] [.int .i64 x.table, .slice a' x.lo.length c', .slice a2' x.hi.length c2', .bool x.isOpen]
  clear hsz
  go_enter Try.func45, Try.ntmps45
  go_upto_region 1 with (fail)
  rw [show (w.alloc (.cells #[.int .i64 u.table, .slice a u.key.length c, .bool u.gone, .slice a2 u.val.length c2] 28)).alloc (.cells #[.int .i64 x.table, .slice a' x.lo.length c', .slice a2' x.hi.length c2', .bool x.isOpen] 39) = W from hW.symm]
  clear hW
  have b0 := bn.cell (i := 0) rfl
  have b1 := bn.cell (i := 1) rfl
  have f0 := bm.cell (i := 0) rfl
  have f1 := bm.cell (i := 1) rfl
  have f2 := bm.cell (i := 2) rfl
  have f3 := bm.cell (i := 3) rfl
  have r1 := hk.below q
  have r2 := hl.below q
  have r3 := hh.below q
  by_cases h1 : u.table = x.table
  · have d1 : (u.table == x.table) = true := beq_iff_eq.2 h1
    have d12 : decide (u.table = x.table) = true := decide_eq_true h1
    have d13 : (u.table = x.table) = True := eq_true h1
    have e2 := Lib.hid (cmp_ge u.key x.lo)
    have e3 := Lib.hid (cmp_lt u.key x.hi)
    cases h2 : ltB u.key x.lo with
    | true =>
      have d2 : decide (0 ≤ Lib.compareBytes u.key x.lo) = false := by rw [e2.out, h2]; rfl
      have H := Lib.hid (show (decide (u.table = x.table) && inS x u.key) = false by unfold inS; simp [h2])
      clear h1 h2
      go_wp2_with fail
      refine (compare_any _ r1 r2).mono ?_
      rintro e w1 ⟨rfl, rfl⟩
      go_wp2_with fail
      go_ret
      exact ⟨by rw [H.out]; rfl, q⟩
    | false =>
      have d2 : decide (0 ≤ Lib.compareBytes u.key x.lo) = true := by rw [e2.out, h2]; rfl
      cases h3 : x.isOpen with
      | true =>
        rw [h3] at f3
        have H := Lib.hid (show (decide (u.table = x.table) && inS x u.key) = true by unfold inS; simp [h1, h2, h3])
        clear h1 h2 h3
        go_wp2_with fail
        refine (compare_any _ r1 r2).mono ?_
        rintro e w1 ⟨rfl, rfl⟩
        go_wp2_with fail
        go_ret
        exact ⟨by rw [H.out]; rfl, q⟩
      | false =>
        rw [h3] at f3
        cases h4 : ltB u.key x.hi with
        | true =>
          have d4 : decide (Lib.compareBytes u.key x.hi < 0) = true := by rw [e3.out, h4]
          have H := Lib.hid (show (decide (u.table = x.table) && inS x u.key) = true by unfold inS; simp [h1, h2, h3, h4])
          clear h1 h2 h3 h4
          go_wp2_with fail
          refine (compare_any _ r1 r2).mono ?_
          rintro e w1 ⟨rfl, rfl⟩
          go_wp2_with fail
          refine (compare_any _ r1 r3).mono ?_
          rintro e w2 ⟨rfl, rfl⟩
          go_wp2_with fail
          go_ret
          exact ⟨by rw [H.out]; rfl, q⟩
        | false =>
          have d4 : decide (Lib.compareBytes u.key x.hi < 0) = false := by rw [e3.out, h4]
          have H := Lib.hid (show (decide (u.table = x.table) && inS x u.key) = false by unfold inS; simp [h2, h3, h4])
          clear h1 h2 h3 h4
          go_wp2_with fail
          refine (compare_any _ r1 r2).mono ?_
          rintro e w1 ⟨rfl, rfl⟩
          go_wp2_with fail
          refine (compare_any _ r1 r3).mono ?_
          rintro e w2 ⟨rfl, rfl⟩
          go_wp2_with fail
          go_ret
          exact ⟨by rw [H.out]; rfl, q⟩
  · have d1 : (u.table == x.table) = false := beq_eq_false_iff_ne.2 h1
    have d12 : decide (u.table = x.table) = false := decide_eq_false h1
    have H := Lib.hid (show (decide (u.table = x.table) && inS x u.key) = false by unfold inS; simp [h1])
    clear h1
    go_wp2_with fail
    go_ret
    exact ⟨by rw [H.out]; rfl, q⟩
end Go.Proofs.Ytjbdkhddnblieaa
namespace Go.Proofs.Ytjbdkhddnblieaa
open Go.RowKit
theorem grown_setRow (w : World) (g : Nat) (cs : Array Value) : w.grownBy (w.setRow g cs) (some g) :=
  ⟨rfl, rfl, rfl, by unfold World.setRow; simp, fun k _ hk => setRow_other w g k cs (fun e => hk (by rw [e]))⟩
end Go.Proofs.Ytjbdkhddnblieaa
namespace Go.Proofs.Ytjbdkhddnblieaa
open Go.RowKit
def ApJ {α : Type} (E : Elt α) (Te : TypeId) (base lo : Nat) (r : Option Nat) (W : World) (xs ys : List α) : List Value → World → Prop
  | [], V => Below W.heap.size W V
  | s :: rest, V => (∀ u ∈ rest, u = s) ∧ W.grownBy V r ∧ ∃ ad c, s = .slice ad (xs ++ ys).length c ∧ OwnL E Te base lo V (.slice ad (xs ++ ys).length c) (xs ++ ys)
section
variable {α : Type} {E : Elt α} {Te : TypeId} {base lo : Nat} {r : Option Nat} {W : World} {xs ys : List α}
theorem grownB {A B : World} (h : Below A.heap.size A B) (r : Option Nat) : A.grownBy B r := ⟨h.os, h.tape, h.output, h.size, fun k hk _ => h.block k hk⟩
theorem grownT {A B C : World} (h : A.grownBy B r) (k : B.grownBy C r) : A.grownBy C r := ⟨k.os.trans h.os, k.tape.trans h.tape, k.output.trans h.output, Nat.le_trans h.size k.size, fun j hj hn => (k.block j (Nat.lt_of_lt_of_le hj h.size) hn).trans (h.block j hj hn)⟩
theorem ApJ.below : ∀ (l : List Value) (V V' : World), ApJ E Te base lo r W xs ys l V → Below V.heap.size V V' → ApJ E Te base lo r W xs ys l V'
  | [], _, _, h, hb => Below.trans h (hb.mono (Below.size h))
  | _ :: _, _, _, ⟨h0, h1, ad, c, e, h2⟩, hb => ⟨h0, grownT h1 (grownB hb r), ad, c, e, h2.below hb⟩
theorem ApJ.grown : ∀ {l : List Value} {V : World}, ApJ E Te base lo r W xs ys l V → W.grownBy V r
  | [], _, h => grownB h r
  | _ :: _, _, ⟨_, h, _⟩ => h
theorem RdS.grownR {S : Nat → Prop} {V : World} {v : Value} {l : List UInt8} (h : RdS S W v l) (hg : W.grownBy V r) (hr : ∀ k, r = some k → ¬ S k) : RdS S V v l := (h.fit.keep fun k hk => hg.block k hk.2 fun e => hr k e.symm hk.1).weak fun _ hk => hk.1
theorem RdL.grownR {β : Type} {F : Elt β} {S : Nat → Prop} {V : World} {v : Value} {l : List β} (h : RdL F S W v l) (hg : W.grownBy V r) (hr : ∀ k, r = some k → ¬ S k) : RdL F S V v l := (h.fit.keep fun k hk => hg.block k hk.2 fun e => hr k e.symm hk.1).weak fun _ hk => hk.1
def inNew (S : Nat → Prop) (W V : World) : Nat → Prop := fun k => (S k ∨ W.heap.size ≤ k) ∧ k < V.heap.size
theorem inNew.ne {S : Nat → Prop} {V : World} {k : Nat} (hr : ∀ k, r = some k → k < W.heap.size) (hS : ∀ k, S k → some k ≠ r) (h : inNew S W V k) : some k ≠ r := by
  rcases h.1 with h1 | h1
  · exact hS k h1
  · intro e; have := hr k e.symm; omega
def aElt (E : Elt α) (W : World) (r : Option Nat) (S : Nat → Prop) (x : α) (hr : ∀ k, r = some k → k < W.heap.size) (hS : ∀ k, S k → some k ≠ r) : SGn (fun A B => A.grownBy B r) :=
  ⟨fun V v => ∃ us : List Value, v.cells = us.toArray ∧ E.R (inNew S W V) V x us,
  fun _ _ _ ⟨us, e, h⟩ hb => ⟨us, e, E.weak (Elt.below h hb) fun _ hk => ⟨hk.1, Nat.lt_of_lt_of_le hk.2 hb.size⟩⟩,
  fun _ _ _ ⟨us, e, h⟩ hk => ⟨us, e, E.weak (E.keep h fun k h2 => hk.block k h2.2 (inNew.ne hr hS h2)) fun _ h2 => ⟨h2.1, Nat.lt_of_lt_of_le h2.2 hk.size⟩⟩⟩
def aRd (W : World) (r : Option Nat) (S : Nat → Prop) (x : List UInt8) (hr : ∀ k, r = some k → k < W.heap.size) (hS : ∀ k, S k → some k ≠ r) : SGn (fun A B => A.grownBy B r) :=
  ⟨fun V v => RdS (inNew S W V) V v x,
  fun _ _ _ h hb => (h.below hb).weak fun _ hk => ⟨hk.1, Nat.lt_of_lt_of_le hk.2 hb.size⟩,
  fun _ _ _ h hk => (h.keep fun k h2 => hk.block k h2.2 (inNew.ne hr hS h2)).weak fun _ h2 => ⟨h2.1, Nat.lt_of_lt_of_le h2.2 hk.size⟩⟩
def aRow (E : Elt α) (Te : TypeId) (W : World) (r : Option Nat) (S : Nat → Prop) (x : α) (hr : ∀ k, r = some k → k < W.heap.size) (hS : ∀ k, S k → some k ≠ r) : SGn (fun A B => A.grownBy B r) :=
  ⟨fun V v => ∃ g, ∃ us : List Value, v = .slice (some ⟨g, 0, none⟩) 1 1 ∧ W.heap.size ≤ g ∧ V.heap[g]? = some (.cells us.toArray Te (0, 0)) ∧ E.R (inNew S W V) V x us,
  fun _ _ _ ⟨g, us, h, h0, hc, hR⟩ hb => ⟨g, us, h, h0, (hb.block g (Array.getElem?_eq_some_iff.1 hc).1).trans hc, E.weak (Elt.below hR hb) fun _ hk => ⟨hk.1, Nat.lt_of_lt_of_le hk.2 hb.size⟩⟩,
  fun _ _ _ ⟨g, us, h, h0, hc, hR⟩ hk => ⟨g, us, h, h0, (hk.block g (Array.getElem?_eq_some_iff.1 hc).1 (fun e => by have := hr g e.symm; omega)).trans hc, E.weak (E.keep hR fun k h2 => hk.block k h2.2 (inNew.ne hr hS h2)) fun _ h2 => ⟨h2.1, Nat.lt_of_lt_of_le h2.2 hk.size⟩⟩⟩
theorem aRow.mk {S : Nat → Prop} {x : α} {us : List Value} {hr : ∀ k, r = some k → k < W.heap.size} {hS : ∀ k, S k → some k ≠ r} {V : World} (hWV : W.heap.size ≤ V.heap.size) (hR : E.R (inNew S W V) V x us) :
    (aRow E Te W r S x hr hS).1 (V.alloc (.cells us.toArray Te)) (.slice (some ⟨V.heap.size, 0, none⟩) 1 1) := by
  have hb : Below V.heap.size V (V.alloc (.cells us.toArray Te)) := (Below.refl _ _).alloc (Nat.le_refl _) _
  exact ⟨_, us, rfl, hWV, by simp only [World.alloc, Array.getElem?_push_size], E.weak (Elt.below hR hb) fun k hk => ⟨hk.1, Nat.lt_of_lt_of_le hk.2 hb.size⟩⟩
variable {P : Program} {T : TypeId} {o : Oper} {a : Act} {Q : Exit → Act → World → Prop} {K : Act → World → Prop}
theorem wp_apv (hP : LoP P T Te E.size) {x y : Operand} {S : Nat → Prop} {e : α} {hr : ∀ k, r = some k → k < W.heap.size} {hS : ∀ k, S k → some k ≠ r} {V : World} (hJ : Below W.heap.size W V) (ho : o.op = .call { callee := .builtin .append, args := #[x, y], argTypes := #[T, T] }) {v u : Value} (hx : a.eval x = v) (hy : a.eval y = u)
    (hO : OwnL E Te base lo W v xs) (hro : r = v.ownBlock) (hu : (aRow E Te W r S e hr hS).1 V u) (hSl : ∀ k, S k → lo ≤ k) (hlo : lo ≤ W.heap.size) (hbase : base ≤ W.heap.size) (hlen : xs.length + 1 ≤ 1073741824)
    (h : ∀ v' V', ApJ E Te base lo r W xs [e] [v'] V' → V.grownBy V' r → K (a.put o.dst v') V') : o.wp P a V K Q := by
  obtain ⟨g, us, eg, hg0, hgc, hgR⟩ := hu
  subst eg
  subst hro
  refine wp_appendL (E := E) (ys := [e]) hP ho hx (hO.below hJ) hy (fun j u hj => by rw [Addr.add_lit, World.cell?, hgc]; simpa using hj) (Flat.single hgR) (fun k hk => ⟨?_, hk.2, inNew.ne hr hS hk⟩) (Nat.le_trans hbase hJ.size) (fun ad7 k7 cap7 w2 h2 hg h3 => ?_) hlen
  · rcases hk.1 with h1 | h1
    · exact hSl k h1
    · exact Nat.le_trans hlo h1
  · obtain rfl : k7 = (xs ++ [e]).length := h2.len
    exact h _ _ ⟨(fun _ h => by cases h), grownT (grownB hJ _) hg, ad7, cap7, rfl, h2⟩ hg
variable {ops : Array Oper} {rest : List Oper} {w : World}
theorem wpList_buildOne {n : Nat} (hP : LoP P T Te n) {y : Operand} {v : Value} {us : List Value} (ho : o.op = .buildSlice T 1 #[(0, y)]) (hgd : Region.wanted o (yielded ops a.tmps) = true) (hy : a.eval y = v) (hv : v.cells = us.toArray) (hl : us.length = n) (h0 : 0 < n) (hn : n ≤ 4096)
    (h : ∀ w', Below w.heap.size w w' → w'.heap[w.heap.size]? = some (.cells us.toArray Te (0, 0)) → wpList P ops Q rest (a.put o.dst (.slice (some ⟨w.heap.size, 0, none⟩) 1 1)) w') : wpList P ops Q (o :: rest) a w :=
  BigFrame.wpList_want hgd fun _ hK => wp_buildOne hP ho hy hv hl h0 hn (hK _ _ (h _ ((Below.refl _ _).alloc (Nat.le_refl _) _) (by simp only [World.alloc, Array.getElem?_push_size])))
end
end Go.Proofs.Ytjbdkhddnblieaa
namespace Go.Proofs.Ytjbdkhddnblieaa
open Go.RowKit Go.Shelf
def smQ (l : List Pq) : Prop := l.length ≤ 1000000 ∧ ∀ x ∈ l, x.key.length ≤ 1000000 ∧ x.val.length ≤ 1000000
def PqEnd (w : World) (l : List Pq) (e : Ending) (w' : World) : Prop := ∃ a c, e = .returned (.slice a l.length c) ∧ OwnL Elt.pq 53 w.heap.size w.heap.size w' (.slice a l.length c) l ∧ Below w.heap.size w w'
set_option maxRecDepth 100000 in
set_option maxHeartbeats 4000000 in
theorem dPairs_any (w : World) {S : Nat → Prop} {a : Option Addr} {n c : Nat} {l : List Pq} (hl : RdL Elt.pq S w (.slice a n c) l) (hs : smQ l) : Calls Try.prog 43 #[.slice a n c] w (PqEnd w l) := by
  obtain ⟨rfl, hnc, hcm⟩ := hl.len
  obtain ⟨hs1, hs2⟩ := hs
  replace hl := hl.fit
  have eC : ∀ args w, (callFunc 48 args).run Try.prog w = .ok (.enter 48 args) w := enters_of Try.func48 (by kernel_rfl) rfl
  have q := Below.refl w.heap.size w
  go_enter Try.func43, Try.ntmps43
  go_upto_region 3 with (fail)
  go_loopw [3, 8] (fun ov iv wr => ∃ (k : Nat) (ad : Option Addr) (ko : Nat), iv = .int .i64 k ∧ k ≤ l.length ∧ ov = .slice ad (l.take k).length ko ∧ OwnL Elt.pq 53 w.heap.size w.heap.size wr (.slice ad (l.take k).length ko) (l.take k) ∧ Below w.heap.size w wr)
    (fun _ i _ => l.length - (intOf i).toNat)
  case atStart => exact ⟨0, none, 0, rfl, Nat.zero_le _, rfl, OwnL.nil _ _ _ _ _, q⟩
  case round =>
    clear q
    obtain ⟨k, ad, ko, rfl, hkl, rfl, hO, q⟩ := hrel
    rcases Nat.lt_or_ge k l.length with hlt | hge
    · obtain ⟨b, off, KA, KC, VA, VC, rfl, hb, c0, c1, hk1, hk2⟩ := (hl.below q).pq k hlt
      obtain ⟨hx1, hx2⟩ := hs2 _ (List.getElem_mem hlt)
      have hsn := Lib.hid (show l.take (k + 1) = l.take k ++ [l[k]] from List.take_succ_eq_append_getElem hlt)
      obtain ⟨x, ex⟩ : ∃ x, x = l[k] := ⟨_, rfl⟩
      obtain ⟨xs, exs⟩ : ∃ xs, xs = l.take k := ⟨_, rfl⟩
      have hxl : xs.length ≤ 1000000 := by rw [exs, List.length_take]; omega
      rw [← ex] at c0 c1 hk1 hk2 hx1 hx2 hsn
      rw [← exs] at hO hsn
      rw [← exs]
      clear ex exs
      go_upto_region 5 with (first | (refine wpList_boxNew (vs := [.slice none 0 0, .slice none 0 0]) (by kernel_rfl) rfl rfl ?_; intro wa hba hBa) | (refine wpList_boxStore (us := [.slice KA x.key.length KC, .slice VA x.val.length VC]) (by kernel_rfl) rfl rfl rfl rfl rfl rfl hBa rfl ?_; intro W hgw hXW) | fail)
      go_simp
      have hbw : Below wr.heap.size wr W := hba.grown hgw hba.size fun k hk => by injection hk with hk; omega
      have qW := q.trans (hbw.mono q.size)
      have hrr : ∀ k, Value.ownBlock (.slice ad xs.length ko) = some k → w.heap.size ≤ k ∧ k < wr.heap.size := fun k hk => hO.block_lt k hk
      have hzw := hbw.size
      have hrW : ∀ k, Value.ownBlock (.slice ad xs.length ko) = some k → k < W.heap.size := fun k hk => by have := hrr k hk; omega
      have hS : ∀ k, (fun _ => False) k → some k ≠ Value.ownBlock (.slice ad xs.length ko) := fun _ h => h.elim
      have hrS : ∀ k, Value.ownBlock (.slice ad xs.length ko) = some k → ¬ (S k ∧ k < w.heap.size) := fun k hk h2 => by have := hrr k hk; omega
      have hxr : Value.ownBlock (.slice ad xs.length ko) ≠ some wr.heap.size := fun e => by have := hrr _ e; omega
      replace hO := hO.below hbw
      replace hk1 := hk1.below hbw
      replace hk2 := hk2.below hbw
      have hlo : w.heap.size ≤ W.heap.size := qW.size
      clear c0 c1 hba hBa hgw hbw q hzw
      refine wp_region_lnl (K := fun A B => A.grownBy B (Value.ownBlock (.slice ad xs.length ko))) (by kernel_rfl) (by kernel_rfl) [9, 10] (by kernel_rfl) [lEq (.slice ad xs.length ko), lEq (.pointer (some ⟨wr.heap.size, 0 + 0, none⟩)), lEq (.slice KA x.key.length KC), aRd (W) (Value.ownBlock (.slice ad xs.length ko)) (fun _ => False) (x.key) hrW hS, lEq (.pointer (some ⟨wr.heap.size, 0 + 1, none⟩)), lEq (.slice VA x.val.length VC), aRd (W) (Value.ownBlock (.slice ad xs.length ko)) (fun _ => False) (x.val) hrW hS, aElt Elt.pq (W) (Value.ownBlock (.slice ad xs.length ko)) (fun _ => False) (x) hrW hS, aRow Elt.pq 53 (W) (Value.ownBlock (.slice ad xs.length ko)) (fun _ => False) (x) hrW hS, lAny, lAny] (ApJ Elt.pq 53 (w.heap.size) (w.heap.size) (Value.ownBlock (.slice ad xs.length ko)) (W) (xs) [x]) ApJ.below (show Below (W).heap.size (W) (W) from Below.refl _ _)
        ⟨?o0, ?o1, ?o2, ?o3, ?o4, ?o5, ?o6, ?o7, ?o8, ?o9, ?o10, trivial⟩ ?fin
      case o0 =>
        refine LnOp.side rfl (by kernel_rfl) (fun A va w' k hF hT hk hJ hb hu hp hd => ?_)
        have e1 : A.eval (.tmp 3) = .slice ad xs.length ko := (hT 3 10 (by simp) rfl).trans (hu 1 10 3 (hb 1 10 rfl (by kernel_rfl)) rfl rfl)
        exact BigFrame.wp_move _ rfl ⟨_, rfl, e1, Below.refl _ _⟩
      case o1 =>
        refine LnOp.side rfl (by kernel_rfl) (fun A va w' k hF hT hk hJ hb hu hp hd => ?_)
        have e1 : A.eval (.tmp 5) = .pointer (some ⟨wr.heap.size, 0, none⟩) := hF 5 rfl
        exact wp_fieldN pqS rfl (e1) (by omega) ⟨_, rfl, rfl, Below.refl _ _⟩
      case o2 =>
        refine LnOp.side rfl (by kernel_rfl) (fun A va w' k hF hT hk hJ hb hu hp hd => ?_)
        have e1 : A.eval (.tmp 13) = .pointer (some ⟨wr.heap.size, 0 + 0, none⟩) := (hT 13 1 (by simp) rfl).trans (hd ⟨1, .data⟩ (by simp) rfl rfl)
        have hJg : (W).grownBy w' (Value.ownBlock (.slice ad xs.length ko)) := ApJ.grown hJ
        exact wp_ld_slice (e := 5) rfl e1 (by kernel_rfl) ((hXW.other hJg hxr).cell (i := 0) rfl) ⟨_, rfl, rfl, Below.refl _ _⟩
      case o3 =>
        refine LnOp.side rfl (by kernel_rfl) (fun A va w' k hF hT hk hJ hb hu hp hd => ?_)
        have e1 : A.eval (.tmp 14) = .slice KA x.key.length KC := (hT 14 2 (by simp) rfl).trans (hd ⟨2, .data⟩ (by simp) rfl rfl)
        have hJg : (W).grownBy w' (Value.ownBlock (.slice ad xs.length ko)) := ApJ.grown hJ
        refine wp_callFn rfl eC (by simp only [List.map_toArray, List.map_cons, List.map_nil, e1]) ((clone_any w' (hk1.grownR hJg hrS).rd (Nat.le_refl _) hx1).mono ?_)
        rintro e w2 ⟨ad', k', c', rfl, hf⟩
        exact ⟨_, rfl, _, rfl, hf.2.rdS.weak (fun k hk => ⟨.inr (Nat.le_trans hJg.size hk.1), hk.2⟩), hf.1⟩
      case o4 =>
        refine LnOp.side rfl (by kernel_rfl) (fun A va w' k hF hT hk hJ hb hu hp hd => ?_)
        have e1 : A.eval (.tmp 5) = .pointer (some ⟨wr.heap.size, 0, none⟩) := hF 5 rfl
        exact wp_fieldN pqS rfl (e1) (by omega) ⟨_, rfl, rfl, Below.refl _ _⟩
      case o5 =>
        refine LnOp.side rfl (by kernel_rfl) (fun A va w' k hF hT hk hJ hb hu hp hd => ?_)
        have e1 : A.eval (.tmp 16) = .pointer (some ⟨wr.heap.size, 0 + 1, none⟩) := (hT 16 4 (by simp) rfl).trans (hd ⟨4, .data⟩ (by simp) rfl rfl)
        have hJg : (W).grownBy w' (Value.ownBlock (.slice ad xs.length ko)) := ApJ.grown hJ
        exact wp_ld_slice (e := 5) rfl e1 (by kernel_rfl) ((hXW.other hJg hxr).cell (i := 1) rfl) ⟨_, rfl, rfl, Below.refl _ _⟩
      case o6 =>
        refine LnOp.side rfl (by kernel_rfl) (fun A va w' k hF hT hk hJ hb hu hp hd => ?_)
        have e1 : A.eval (.tmp 17) = .slice VA x.val.length VC := (hT 17 5 (by simp) rfl).trans (hd ⟨5, .data⟩ (by simp) rfl rfl)
        have hJg : (W).grownBy w' (Value.ownBlock (.slice ad xs.length ko)) := ApJ.grown hJ
        refine wp_callFn rfl eC (by simp only [List.map_toArray, List.map_cons, List.map_nil, e1]) ((clone_any w' (hk2.grownR hJg hrS).rd (Nat.le_refl _) hx2).mono ?_)
        rintro e w2 ⟨ad', k', c', rfl, hf⟩
        exact ⟨_, rfl, _, rfl, hf.2.rdS.weak (fun k hk => ⟨.inr (Nat.le_trans hJg.size hk.1), hk.2⟩), hf.1⟩
      case o7 =>
        refine LnOp.side rfl (by kernel_rfl) (fun A va w' k hF hT hk hJ hb hu hp hd => ?_)
        have x1 : A.eval (.tmp 15) = va 3 := hT 15 3 (by simp) rfl
        have y1 := hd ⟨3, .data⟩ (by simp) rfl rfl
        have x2 : A.eval (.tmp 18) = va 6 := hT 18 6 (by simp) rfl
        have y2 := hd ⟨6, .data⟩ (by simp) rfl rfl
        have z1 : RdS (inNew (fun _ => False) (W) w') w' (va 3) (x.key) := y1
        have z2 : RdS (inNew (fun _ => False) (W) w') w' (va 6) (x.val) := y2
        obtain ⟨A1, C1, q1, _, _⟩ := z1.shape
        obtain ⟨A2, C2, q2, _, _⟩ := z2.shape
        exact wp_build2 pqS rfl (x1.trans q1) (x2.trans q2) rfl rfl ⟨_, rfl, ⟨_, rfl, _, _, rfl, q1 ▸ z1, q2 ▸ z2⟩, Below.refl _ _⟩
      case o8 =>
        refine LnOp.side rfl (by kernel_rfl) (fun A va w' k hF hT hk hJ hb hu hp hd => ?_)
        have x1 : A.eval (.tmp 19) = va 7 := hT 19 7 (by simp) rfl
        have y1 := hd ⟨7, .data⟩ (by simp) rfl rfl
        obtain rfl : k = 0 := by have := hb 0 9 rfl (by kernel_rfl); omega
        have hJ0 : Below (W).heap.size (W) w' := hJ
        obtain ⟨us, eus, hR⟩ : ∃ us : List Value, (va 7).cells = us.toArray ∧ Elt.R Elt.pq (inNew (fun _ => False) (W) w') w' (x) us := y1
        exact wp_buildOne pqP rfl x1 eus (Elt.len _ hR) (by decide) (by decide) ⟨_, rfl, aRow.mk (hr := hrW) (hS := hS) hJ0.size hR, (Below.refl _ _).alloc (Nat.le_refl _) _⟩
      case o9 =>
        refine LnOp.line 0 rfl rfl (fun A va w' hF hT hJ hu hd => ?_)
        have e1 : A.eval (.tmp 12) = .slice ad xs.length ko := (hT 12 0 (by simp) rfl).trans (hd ⟨0, .data⟩ (by simp) rfl rfl)
        have x2 : A.eval (.tmp 20) = va 8 := hT 20 8 (by simp) rfl
        have y2 := hd ⟨8, .data⟩ (by simp) rfl rfl
        exact wp_apv (hr := hrW) (hS := hS) pqP hJ rfl e1 x2 hO rfl y2 (fun _ h => h.elim) hlo hlo (by omega) (fun v' V' h1 h2 => ⟨_, rfl, h1, h2⟩)
      case o10 =>
        refine LnOp.line 1 rfl rfl (fun A va w' hF hT hJ hu hd => ?_)
        have x1 : A.eval (.tmp 21) = va 9 := hT 21 9 (by simp) rfl
        have hJ' : ApJ Elt.pq 53 (w.heap.size) (w.heap.size) (Value.ownBlock (.slice ad xs.length ko)) (W) (xs) [x] [va 9, A.eval (.tmp 21)] w' := ⟨fun u hu => by obtain rfl := List.mem_singleton.1 hu; exact x1, hJ.2⟩
        exact BigFrame.wp_assign _ rfl ⟨_, rfl, hJ', grownB (Below.refl _ _) _⟩
      case fin =>
        intro vs1 W9 hJ hG
        obtain ⟨hsame, hg9, ad9, c9, e9, hO9⟩ := hJ
        have ea := hsame _ (List.mem_singleton.2 rfl)
        obtain ⟨L9, hL9⟩ : ∃ L9, L9 = (xs ++ [x]).length := ⟨_, rfl⟩
        rw [← hL9] at e9 hO9
        replace hL9 := Lib.hid hL9
        have g0 : vs1 0 = .slice ad xs.length ko := hG 0 (by decide) rfl
        have g1 : vs1 1 = .pointer (some ⟨wr.heap.size, 0 + 0, none⟩) := hG 1 (by decide) rfl
        have g2 : vs1 2 = .slice KA x.key.length KC := hG 2 (by decide) rfl
        have g4 : vs1 4 = .pointer (some ⟨wr.heap.size, 0 + 1, none⟩) := hG 4 (by decide) rfl
        have g5 : vs1 5 = .slice VA x.val.length VC := hG 5 (by decide) rfl
        clear hG hsame
        simp only [putAll, ea, e9, g0, g1, g2, g4, g5]
        clear ea e9 g0 g1 g2 g4 g5
        go_simp
        have q9 : Below w.heap.size w W9 := qW.grown hg9 qW.size fun k hk => (hrr k hk).1
        clear hXW hO hk1 hk2 hg9
        go_wp2_with fail
        go_roundw
        case rel =>
          have e := hL9.out
          rw [← hsn.out] at e hO9
          subst e
          exact ⟨k + 1, ad9, c9, by go_num, by omega, rfl, hO9, q9⟩
        case measure => simp [intOf]; omega
    · obtain rfl : k = l.length := by omega
      rw [List.take_length] at hO
      rw [List.take_length]
      go_wp2_with fail
      go_ret
      exact ⟨_, _, rfl, hO, q⟩
end Go.Proofs.Ytjbdkhddnblieaa
