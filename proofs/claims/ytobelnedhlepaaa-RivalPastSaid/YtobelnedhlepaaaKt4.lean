/-
  TEXTS OF ONE PROOF, merged: SpD, Push, DltE, RvD, RpE, RpF, RvM, RvA.
-/
import Derived.Test.YtobelnedhlepaaaKt3
namespace Go.Proofs.Ytobelnedhlepaaa
open Go.RowKit Go.Shelf
theorem take_bothS {α : Type} {l m : List α} {i : Nat} (h1 : i < l.length) (h2 : i < m.length) (h : l.take i = m.take i) (e : l[i] = m[i]) : l.take (i + 1) = m.take (i + 1) := by
  rw [List.take_succ_eq_append_getElem h1, List.take_succ_eq_append_getElem h2, h, e]
set_option maxRecDepth 100000 in
set_option maxHeartbeats 4000000 in
theorem rCopy_any (w : World) {S : Nat → Prop} {a : Option Addr} {n c : Nat} {l : List Sp} (hl : RdL Elt.sp S w (.slice a n c) l) (hs : smL l) : Calls Try.prog 64 #[.slice a n c] w (SlEnd w l) := by
  obtain ⟨rfl, hnc, hcm⟩ := hl.len
  have hlm : l.length ≤ 9223372036854775807 := by unfold maxLen at hcm; omega
  obtain ⟨hs1, hs2⟩ := hs
  replace hl := hl.fit
  have q := Below.refl w.heap.size w
  go_enter Try.func64, Try.ntmps64
  go_upto_region 3 with (fail)
  go_loopw [3, 4] (fun ov iv wr => ∃ (i0 : Nat) (ad : Option Addr) (ko : Nat), iv = .int .i64 i0 ∧ i0 ≤ l.length ∧ ov = .slice ad (l.take i0).length ko ∧ OwnL Elt.sp 57 w.heap.size w.heap.size wr (.slice ad (l.take i0).length ko) (l.take i0) ∧ Below w.heap.size w wr)
    (fun _ i _ => l.length - (intOf i).toNat)
  case atStart => exact ⟨0, none, 0, rfl, Nat.zero_le _, rfl, OwnL.nil _ _ _ _ _, q⟩
  case round =>
    clear q
    obtain ⟨i0, ad, ko, rfl, hkl, rfl, hO, q⟩ := hrel
    rcases Nat.lt_or_ge i0 l.length with hlt | hge
    · obtain ⟨b, off, KA, KC, VA, VC, rfl, hb, c0, c1, c2, c3, hk1, hk2, ht⟩ := (hl.below q).sp i0 hlt
      obtain ⟨hx1, hx2⟩ := hs2 _ (List.getElem_mem hlt)
      have hsn := Lib.hid (show l.take (i0 + 1) = l.take i0 ++ [l[i0]] from List.take_succ_eq_append_getElem hlt)
      obtain ⟨x, ex⟩ : ∃ x, x = l[i0] := ⟨_, rfl⟩
      obtain ⟨xs, exs⟩ : ∃ xs, xs = l.take i0 := ⟨_, rfl⟩
      have hxl : xs.length ≤ 1000000 := by rw [exs, List.length_take]; omega
      rw [← ex] at c0 c1 c2 c3 hk1 hk2 ht hx1 hx2 hsn
      rw [← exs] at hO hsn
      rw [← exs]
      clear ex exs
      go_upto_region 5 with (fail)
      go_simp
      have hrr : ∀ k, Value.ownBlock (.slice ad xs.length ko) = some k → w.heap.size ≤ k ∧ k < wr.heap.size := fun k hk => hO.block_lt k hk
      have hrW : ∀ k, Value.ownBlock (.slice ad xs.length ko) = some k → k < wr.heap.size := fun k hk => (hrr k hk).2
      have hS : ∀ k, (fun _ => False) k → some k ≠ Value.ownBlock (.slice ad xs.length ko) := fun _ h => h.elim
      have hrS : ∀ k, Value.ownBlock (.slice ad xs.length ko) = some k → ¬ (S k ∧ k < w.heap.size) := fun k hk h2 => by have := hrr k hk; omega
      have hbW : b < wr.heap.size := cell_lt c0
      have hbr : some b ≠ Value.ownBlock (.slice ad xs.length ko) := fun e => by have := hrr b e.symm; have := hb.2; omega
      have hlo : w.heap.size ≤ wr.heap.size := q.size
      refine wp_region_lnl (K := fun A B => A.grownBy B (Value.ownBlock (.slice ad xs.length ko))) (by kernel_rfl) (by kernel_rfl) [27, 28] (by kernel_rfl) [lEq (.slice ad xs.length ko), lEq (.slice (some ⟨b, off, none⟩) l.length c), lEq (.int .i64 (i0 : Nat)), lEq (.pointer (some ⟨b, off + i0 * 4, none⟩)), lEq (.pointer (some ⟨b, off + i0 * 4 + 0, none⟩)), lEq (.int .i64 x.table), aZb 5 wr (Value.ownBlock (.slice ad xs.length ko)) hrW, lEq (.slice (some ⟨b, off, none⟩) l.length c), lEq (.int .i64 (i0 : Nat)), lEq (.pointer (some ⟨b, off + i0 * 4, none⟩)), lEq (.pointer (some ⟨b, off + i0 * 4 + 1, none⟩)), lEq (.slice KA x.lo.length KC), aRd (wr) (Value.ownBlock (.slice ad xs.length ko)) (fun _ => False) (x.lo) hrW hS, aZb 5 wr (Value.ownBlock (.slice ad xs.length ko)) hrW, lEq (.slice (some ⟨b, off, none⟩) l.length c), lEq (.int .i64 (i0 : Nat)), lEq (.pointer (some ⟨b, off + i0 * 4, none⟩)), lEq (.pointer (some ⟨b, off + i0 * 4 + 2, none⟩)), lEq (.slice VA x.hi.length VC), aRd (wr) (Value.ownBlock (.slice ad xs.length ko)) (fun _ => False) (x.hi) hrW hS, lEq (.slice (some ⟨b, off, none⟩) l.length c), lEq (.int .i64 (i0 : Nat)), lEq (.pointer (some ⟨b, off + i0 * 4, none⟩)), lEq (.pointer (some ⟨b, off + i0 * 4 + 3, none⟩)), lEq (.bool x.isOpen), aElt Elt.sp (wr) (Value.ownBlock (.slice ad xs.length ko)) (fun _ => False) (x) hrW hS, aRow Elt.sp 57 (wr) (Value.ownBlock (.slice ad xs.length ko)) (fun _ => False) (x) hrW hS, lAny, lAny] (ApJ Elt.sp 57 (w.heap.size) (w.heap.size) (Value.ownBlock (.slice ad xs.length ko)) (wr) (xs) [x]) ApJ.below (show Below (wr).heap.size (wr) (wr) from Below.refl _ _)
        ⟨?o0, ?o1, ?o2, ?o3, ?o4, ?o5, ?o6, ?o7, ?o8, ?o9, ?o10, ?o11, ?o12, ?o13, ?o14, ?o15, ?o16, ?o17, ?o18, ?o19, ?o20, ?o21, ?o22, ?o23, ?o24, ?o25, ?o26, ?o27, ?o28, trivial⟩ ?fin
      case o0 =>
        refine LnOp.side rfl (by kernel_rfl) (fun A va w' k hF hT hk hJ hb hu hp hd => ?_)
        have e1 : A.eval (.tmp 3) = .slice ad xs.length ko := (hT 3 28 (by simp) rfl).trans (hu 1 28 3 (hb 1 28 rfl (by kernel_rfl)) rfl rfl)
        exact BigFrame.wp_move _ rfl ⟨_, rfl, e1, Below.refl _ _⟩
      case o1 =>
        refine LnOp.side rfl (by kernel_rfl) (fun A va w' k hF hT hk hJ hb hu hp hd => ?_)
        have e1 : A.eval (.tmp 0) = .slice (some ⟨b, off, none⟩) l.length c := hF 0 rfl
        exact BigFrame.wp_move _ rfl ⟨_, rfl, e1, Below.refl _ _⟩
      case o2 =>
        refine LnOp.side rfl (by kernel_rfl) (fun A va w' k hF hT hk hJ hb hu hp hd => ?_)
        have e1 : A.eval (.tmp 4) = .int .i64 (i0 : Nat) := hF 4 rfl
        exact BigFrame.wp_move _ rfl ⟨_, rfl, e1, Below.refl _ _⟩
      case o3 =>
        refine LnOp.side rfl (by kernel_rfl) (fun A va w' k hF hT hk hJ hb hu hp hd => ?_)
        have e1 : A.eval (.tmp 12) = .slice (some ⟨b, off, none⟩) l.length c := (hT 12 1 (by simp) rfl).trans (hd ⟨1, .data⟩ (by simp) rfl rfl)
        have e2 : A.eval (.tmp 13) = .int .i64 (i0 : Nat) := (hT 13 2 (by simp) rfl).trans (hd ⟨2, .data⟩ (by simp) rfl rfl)
        exact wp_ixN (e := 57) rfl (by kernel_rfl) (by kernel_rfl) (e1) (e2) rfl (by omega) ⟨_, rfl, rfl, Below.refl _ _⟩
      case o4 =>
        refine LnOp.side rfl (by kernel_rfl) (fun A va w' k hF hT hk hJ hb hu hp hd => ?_)
        have e1 : A.eval (.tmp 14) = .pointer (some ⟨b, off + i0 * 4, none⟩) := (hT 14 3 (by simp) rfl).trans (hd ⟨3, .data⟩ (by simp) rfl rfl)
        exact wp_fieldN spS rfl (e1) (by omega) ⟨_, rfl, rfl, Below.refl _ _⟩
      case o5 =>
        refine LnOp.side rfl (by kernel_rfl) (fun A va w' k hF hT hk hJ hb hu hp hd => ?_)
        have e1 : A.eval (.tmp 15) = .pointer (some ⟨b, off + i0 * 4 + 0, none⟩) := (hT 15 4 (by simp) rfl).trans (hd ⟨4, .data⟩ (by simp) rfl rfl)
        have hJg : (wr).grownBy w' (Value.ownBlock (.slice ad xs.length ko)) := ApJ.grown hJ
        have c9 := (cell_keep (hJg.block b hbW hbr) _).trans c0
        exact wp_ld_int (k := .i64) rfl e1 (by kernel_rfl) c9 ⟨_, rfl, rfl, Below.refl _ _⟩
      case o6 =>
        refine LnOp.side rfl (by kernel_rfl) (fun A va w' k hF hT hk hJ hb hu hp hd => ?_)
        have hJg : (wr).grownBy w' (Value.ownBlock (.slice ad xs.length ko)) := ApJ.grown hJ
        exact wp_buildZ byP rfl (fun w2 hf => ⟨_, rfl, ⟨_, rfl, hf.2.to hJg.size⟩, hf.1⟩)
      case o7 =>
        refine LnOp.side rfl (by kernel_rfl) (fun A va w' k hF hT hk hJ hb hu hp hd => ?_)
        have e1 : A.eval (.tmp 0) = .slice (some ⟨b, off, none⟩) l.length c := hF 0 rfl
        exact BigFrame.wp_move _ rfl ⟨_, rfl, e1, Below.refl _ _⟩
      case o8 =>
        refine LnOp.side rfl (by kernel_rfl) (fun A va w' k hF hT hk hJ hb hu hp hd => ?_)
        have e1 : A.eval (.tmp 4) = .int .i64 (i0 : Nat) := hF 4 rfl
        exact BigFrame.wp_move _ rfl ⟨_, rfl, e1, Below.refl _ _⟩
      case o9 =>
        refine LnOp.side rfl (by kernel_rfl) (fun A va w' k hF hT hk hJ hb hu hp hd => ?_)
        have e1 : A.eval (.tmp 18) = .slice (some ⟨b, off, none⟩) l.length c := (hT 18 7 (by simp) rfl).trans (hd ⟨7, .data⟩ (by simp) rfl rfl)
        have e2 : A.eval (.tmp 19) = .int .i64 (i0 : Nat) := (hT 19 8 (by simp) rfl).trans (hd ⟨8, .data⟩ (by simp) rfl rfl)
        exact wp_ixN (e := 57) rfl (by kernel_rfl) (by kernel_rfl) (e1) (e2) rfl (by omega) ⟨_, rfl, rfl, Below.refl _ _⟩
      case o10 =>
        refine LnOp.side rfl (by kernel_rfl) (fun A va w' k hF hT hk hJ hb hu hp hd => ?_)
        have e1 : A.eval (.tmp 20) = .pointer (some ⟨b, off + i0 * 4, none⟩) := (hT 20 9 (by simp) rfl).trans (hd ⟨9, .data⟩ (by simp) rfl rfl)
        exact wp_fieldN spS rfl (e1) (by omega) ⟨_, rfl, rfl, Below.refl _ _⟩
      case o11 =>
        refine LnOp.side rfl (by kernel_rfl) (fun A va w' k hF hT hk hJ hb hu hp hd => ?_)
        have e1 : A.eval (.tmp 21) = .pointer (some ⟨b, off + i0 * 4 + 1, none⟩) := (hT 21 10 (by simp) rfl).trans (hd ⟨10, .data⟩ (by simp) rfl rfl)
        have hJg : (wr).grownBy w' (Value.ownBlock (.slice ad xs.length ko)) := ApJ.grown hJ
        have c9 := (cell_keep (hJg.block b hbW hbr) _).trans c1
        exact wp_ld_slice (e := 5) rfl e1 (by kernel_rfl) c9 ⟨_, rfl, rfl, Below.refl _ _⟩
      case o12 =>
        refine LnOp.side rfl (by kernel_rfl) (fun A va w' k hF hT hk hJ hb hu hp hd => ?_)
        have x1 : A.eval (.tmp 17) = va 6 := hT 17 6 (by simp) rfl
        have y1 := hd ⟨6, .data⟩ (by simp) rfl rfl
        have e2 : A.eval (.tmp 22) = .slice KA x.lo.length KC := (hT 22 11 (by simp) rfl).trans (hd ⟨11, .data⟩ (by simp) rfl rfl)
        have hJg : (wr).grownBy w' (Value.ownBlock (.slice ad xs.length ko)) := ApJ.grown hJ
        obtain ⟨g0, eg, hO0⟩ : ∃ g, va 6 = .slice (some g) 0 0 ∧ Own 5 wr.heap.size w' (va 6) [] := y1
        refine wp_append_zero byP rfl (x1.trans eg) (by rw [← eg]; exact hO0) e2 (hk1.grownR hJg hrS).rd hJg.size (fun ad7 k7 c7 w2 hO2 hb2 => ?_) (by omega)
        obtain rfl : k7 = x.lo.length := hO2.len
        exact ⟨_, rfl, hO2.rdS.weak (fun k hk => ⟨.inr hk.1, hk.2⟩), hb2⟩
      case o13 =>
        refine LnOp.side rfl (by kernel_rfl) (fun A va w' k hF hT hk hJ hb hu hp hd => ?_)
        have hJg : (wr).grownBy w' (Value.ownBlock (.slice ad xs.length ko)) := ApJ.grown hJ
        exact wp_buildZ byP rfl (fun w2 hf => ⟨_, rfl, ⟨_, rfl, hf.2.to hJg.size⟩, hf.1⟩)
      case o14 =>
        refine LnOp.side rfl (by kernel_rfl) (fun A va w' k hF hT hk hJ hb hu hp hd => ?_)
        have e1 : A.eval (.tmp 0) = .slice (some ⟨b, off, none⟩) l.length c := hF 0 rfl
        exact BigFrame.wp_move _ rfl ⟨_, rfl, e1, Below.refl _ _⟩
      case o15 =>
        refine LnOp.side rfl (by kernel_rfl) (fun A va w' k hF hT hk hJ hb hu hp hd => ?_)
        have e1 : A.eval (.tmp 4) = .int .i64 (i0 : Nat) := hF 4 rfl
        exact BigFrame.wp_move _ rfl ⟨_, rfl, e1, Below.refl _ _⟩
      case o16 =>
        refine LnOp.side rfl (by kernel_rfl) (fun A va w' k hF hT hk hJ hb hu hp hd => ?_)
        have e1 : A.eval (.tmp 25) = .slice (some ⟨b, off, none⟩) l.length c := (hT 25 14 (by simp) rfl).trans (hd ⟨14, .data⟩ (by simp) rfl rfl)
        have e2 : A.eval (.tmp 26) = .int .i64 (i0 : Nat) := (hT 26 15 (by simp) rfl).trans (hd ⟨15, .data⟩ (by simp) rfl rfl)
        exact wp_ixN (e := 57) rfl (by kernel_rfl) (by kernel_rfl) (e1) (e2) rfl (by omega) ⟨_, rfl, rfl, Below.refl _ _⟩
      case o17 =>
        refine LnOp.side rfl (by kernel_rfl) (fun A va w' k hF hT hk hJ hb hu hp hd => ?_)
        have e1 : A.eval (.tmp 27) = .pointer (some ⟨b, off + i0 * 4, none⟩) := (hT 27 16 (by simp) rfl).trans (hd ⟨16, .data⟩ (by simp) rfl rfl)
        exact wp_fieldN spS rfl (e1) (by omega) ⟨_, rfl, rfl, Below.refl _ _⟩
      case o18 =>
        refine LnOp.side rfl (by kernel_rfl) (fun A va w' k hF hT hk hJ hb hu hp hd => ?_)
        have e1 : A.eval (.tmp 28) = .pointer (some ⟨b, off + i0 * 4 + 2, none⟩) := (hT 28 17 (by simp) rfl).trans (hd ⟨17, .data⟩ (by simp) rfl rfl)
        have hJg : (wr).grownBy w' (Value.ownBlock (.slice ad xs.length ko)) := ApJ.grown hJ
        have c9 := (cell_keep (hJg.block b hbW hbr) _).trans c2
        exact wp_ld_slice (e := 5) rfl e1 (by kernel_rfl) c9 ⟨_, rfl, rfl, Below.refl _ _⟩
      case o19 =>
        refine LnOp.side rfl (by kernel_rfl) (fun A va w' k hF hT hk hJ hb hu hp hd => ?_)
        have x1 : A.eval (.tmp 24) = va 13 := hT 24 13 (by simp) rfl
        have y1 := hd ⟨13, .data⟩ (by simp) rfl rfl
        have e2 : A.eval (.tmp 29) = .slice VA x.hi.length VC := (hT 29 18 (by simp) rfl).trans (hd ⟨18, .data⟩ (by simp) rfl rfl)
        have hJg : (wr).grownBy w' (Value.ownBlock (.slice ad xs.length ko)) := ApJ.grown hJ
        obtain ⟨g0, eg, hO0⟩ : ∃ g, va 13 = .slice (some g) 0 0 ∧ Own 5 wr.heap.size w' (va 13) [] := y1
        refine wp_append_zero byP rfl (x1.trans eg) (by rw [← eg]; exact hO0) e2 (hk2.grownR hJg hrS).rd hJg.size (fun ad7 k7 c7 w2 hO2 hb2 => ?_) (by omega)
        obtain rfl : k7 = x.hi.length := hO2.len
        exact ⟨_, rfl, hO2.rdS.weak (fun k hk => ⟨.inr hk.1, hk.2⟩), hb2⟩
      case o20 =>
        refine LnOp.side rfl (by kernel_rfl) (fun A va w' k hF hT hk hJ hb hu hp hd => ?_)
        have e1 : A.eval (.tmp 0) = .slice (some ⟨b, off, none⟩) l.length c := hF 0 rfl
        exact BigFrame.wp_move _ rfl ⟨_, rfl, e1, Below.refl _ _⟩
      case o21 =>
        refine LnOp.side rfl (by kernel_rfl) (fun A va w' k hF hT hk hJ hb hu hp hd => ?_)
        have e1 : A.eval (.tmp 4) = .int .i64 (i0 : Nat) := hF 4 rfl
        exact BigFrame.wp_move _ rfl ⟨_, rfl, e1, Below.refl _ _⟩
      case o22 =>
        refine LnOp.side rfl (by kernel_rfl) (fun A va w' k hF hT hk hJ hb hu hp hd => ?_)
        have e1 : A.eval (.tmp 31) = .slice (some ⟨b, off, none⟩) l.length c := (hT 31 20 (by simp) rfl).trans (hd ⟨20, .data⟩ (by simp) rfl rfl)
        have e2 : A.eval (.tmp 32) = .int .i64 (i0 : Nat) := (hT 32 21 (by simp) rfl).trans (hd ⟨21, .data⟩ (by simp) rfl rfl)
        exact wp_ixN (e := 57) rfl (by kernel_rfl) (by kernel_rfl) (e1) (e2) rfl (by omega) ⟨_, rfl, rfl, Below.refl _ _⟩
      case o23 =>
        refine LnOp.side rfl (by kernel_rfl) (fun A va w' k hF hT hk hJ hb hu hp hd => ?_)
        have e1 : A.eval (.tmp 33) = .pointer (some ⟨b, off + i0 * 4, none⟩) := (hT 33 22 (by simp) rfl).trans (hd ⟨22, .data⟩ (by simp) rfl rfl)
        exact wp_fieldN spS rfl (e1) (by omega) ⟨_, rfl, rfl, Below.refl _ _⟩
      case o24 =>
        refine LnOp.side rfl (by kernel_rfl) (fun A va w' k hF hT hk hJ hb hu hp hd => ?_)
        have e1 : A.eval (.tmp 34) = .pointer (some ⟨b, off + i0 * 4 + 3, none⟩) := (hT 34 23 (by simp) rfl).trans (hd ⟨23, .data⟩ (by simp) rfl rfl)
        have hJg : (wr).grownBy w' (Value.ownBlock (.slice ad xs.length ko)) := ApJ.grown hJ
        have c9 := (cell_keep (hJg.block b hbW hbr) _).trans c3
        exact wp_ld_bool rfl e1 (by kernel_rfl) c9 ⟨_, rfl, rfl, Below.refl _ _⟩
      case o25 =>
        refine LnOp.side rfl (by kernel_rfl) (fun A va w' k hF hT hk hJ hb hu hp hd => ?_)
        have e1 : A.eval (.tmp 16) = .int .i64 x.table := (hT 16 5 (by simp) rfl).trans (hd ⟨5, .data⟩ (by simp) rfl rfl)
        have x2 : A.eval (.tmp 23) = va 12 := hT 23 12 (by simp) rfl
        have y2 := hd ⟨12, .data⟩ (by simp) rfl rfl
        have x3 : A.eval (.tmp 30) = va 19 := hT 30 19 (by simp) rfl
        have y3 := hd ⟨19, .data⟩ (by simp) rfl rfl
        have e4 : A.eval (.tmp 35) = .bool x.isOpen := (hT 35 24 (by simp) rfl).trans (hd ⟨24, .data⟩ (by simp) rfl rfl)
        have z2 : RdS (inNew (fun _ => False) (wr) w') w' (va 12) (x.lo) := y2
        have z3 : RdS (inNew (fun _ => False) (wr) w') w' (va 19) (x.hi) := y3
        obtain ⟨A1, C1, q1, _, _⟩ := z2.shape
        obtain ⟨A2, C2, q2, _, _⟩ := z3.shape
        exact wp_build4 spS rfl e1 (x2.trans q1) (x3.trans q2) e4 rfl rfl rfl rfl ⟨_, rfl, ⟨_, rfl, _, _, rfl, q1 ▸ z2, q2 ▸ z3, ht⟩, Below.refl _ _⟩
      case o26 =>
        refine LnOp.side rfl (by kernel_rfl) (fun A va w' k hF hT hk hJ hb hu hp hd => ?_)
        have x1 : A.eval (.tmp 36) = va 25 := hT 36 25 (by simp) rfl
        have y1 := hd ⟨25, .data⟩ (by simp) rfl rfl
        obtain rfl : k = 0 := by have := hb 0 27 rfl (by kernel_rfl); omega
        have hJ0 : Below (wr).heap.size (wr) w' := hJ
        obtain ⟨us, eus, hR⟩ : ∃ us : List Value, (va 25).cells = us.toArray ∧ Elt.R Elt.sp (inNew (fun _ => False) (wr) w') w' (x) us := y1
        exact wp_buildOne spP rfl x1 eus (Elt.len _ hR) (by decide) (by decide) ⟨_, rfl, aRow.mk (hr := hrW) (hS := hS) hJ0.size hR, (Below.refl _ _).alloc (Nat.le_refl _) _⟩
      case o27 =>
        refine LnOp.line 0 rfl rfl (fun A va w' hF hT hJ hu hd => ?_)
        have e1 : A.eval (.tmp 11) = .slice ad xs.length ko := (hT 11 0 (by simp) rfl).trans (hd ⟨0, .data⟩ (by simp) rfl rfl)
        have x2 : A.eval (.tmp 37) = va 26 := hT 37 26 (by simp) rfl
        have y2 := hd ⟨26, .data⟩ (by simp) rfl rfl
        exact wp_apv (hr := hrW) (hS := hS) spP hJ rfl e1 x2 hO rfl y2 (fun _ h => h.elim) hlo hlo (by omega) (fun v' V' h1 h2 => ⟨_, rfl, h1, h2⟩)
      case o28 =>
        refine LnOp.line 1 rfl rfl (fun A va w' hF hT hJ hu hd => ?_)
        have x1 : A.eval (.tmp 38) = va 27 := hT 38 27 (by simp) rfl
        have hJ' : ApJ Elt.sp 57 (w.heap.size) (w.heap.size) (Value.ownBlock (.slice ad xs.length ko)) (wr) (xs) [x] [va 27, A.eval (.tmp 38)] w' := ⟨fun u hu => by obtain rfl := List.mem_singleton.1 hu; exact x1, hJ.2⟩
        exact BigFrame.wp_assign _ rfl ⟨_, rfl, hJ', grownB (Below.refl _ _) _⟩
      case fin =>
        intro vs1 W9 hJ hG
        obtain ⟨hsame, hg9, ad9, c9, e9, hO9⟩ := hJ
        have ea := hsame _ (List.mem_singleton.2 rfl)
        obtain ⟨L9, hL9⟩ : ∃ L9, L9 = (xs ++ [x]).length := ⟨_, rfl⟩
        rw [← hL9] at e9 hO9
        replace hL9 := Lib.hid hL9
        have g0 : vs1 0 = .slice ad xs.length ko := hG 0 (by decide) rfl
        have g1 : vs1 1 = .slice (some ⟨b, off, none⟩) l.length c := hG 1 (by decide) rfl
        have g2 : vs1 2 = .int .i64 (i0 : Nat) := hG 2 (by decide) rfl
        have g3 : vs1 3 = .pointer (some ⟨b, off + i0 * 4, none⟩) := hG 3 (by decide) rfl
        have g4 : vs1 4 = .pointer (some ⟨b, off + i0 * 4 + 0, none⟩) := hG 4 (by decide) rfl
        have g5 : vs1 5 = .int .i64 x.table := hG 5 (by decide) rfl
        have g7 : vs1 7 = .slice (some ⟨b, off, none⟩) l.length c := hG 7 (by decide) rfl
        have g8 : vs1 8 = .int .i64 (i0 : Nat) := hG 8 (by decide) rfl
        have g9 : vs1 9 = .pointer (some ⟨b, off + i0 * 4, none⟩) := hG 9 (by decide) rfl
        have g10 : vs1 10 = .pointer (some ⟨b, off + i0 * 4 + 1, none⟩) := hG 10 (by decide) rfl
        have g11 : vs1 11 = .slice KA x.lo.length KC := hG 11 (by decide) rfl
        have g14 : vs1 14 = .slice (some ⟨b, off, none⟩) l.length c := hG 14 (by decide) rfl
        have g15 : vs1 15 = .int .i64 (i0 : Nat) := hG 15 (by decide) rfl
        have g16 : vs1 16 = .pointer (some ⟨b, off + i0 * 4, none⟩) := hG 16 (by decide) rfl
        have g17 : vs1 17 = .pointer (some ⟨b, off + i0 * 4 + 2, none⟩) := hG 17 (by decide) rfl
        have g18 : vs1 18 = .slice VA x.hi.length VC := hG 18 (by decide) rfl
        have g20 : vs1 20 = .slice (some ⟨b, off, none⟩) l.length c := hG 20 (by decide) rfl
        have g21 : vs1 21 = .int .i64 (i0 : Nat) := hG 21 (by decide) rfl
        have g22 : vs1 22 = .pointer (some ⟨b, off + i0 * 4, none⟩) := hG 22 (by decide) rfl
        have g23 : vs1 23 = .pointer (some ⟨b, off + i0 * 4 + 3, none⟩) := hG 23 (by decide) rfl
        have g24 : vs1 24 = .bool x.isOpen := hG 24 (by decide) rfl
        clear hG hsame
        simp only [putAll, ea, e9, g0, g1, g2, g3, g4, g5, g7, g8, g9, g10, g11, g14, g15, g16, g17, g18, g20, g21, g22, g23, g24]
        clear ea e9 g0 g1 g2 g3 g4 g5 g7 g8 g9 g10 g11 g14 g15 g16 g17 g18 g20 g21 g22 g23 g24
        go_simp
        have q9 : Below w.heap.size w W9 := q.grown hg9 q.size fun k hk => (hrr k hk).1
        clear hO hk1 hk2 hg9 q
        go_wp2_with fail
        go_roundw
        case rel =>
          have e := hL9.out
          rw [← hsn.out] at e hO9
          subst e
          exact ⟨i0 + 1, ad9, c9, by go_num, by omega, rfl, hO9, q9⟩
        case measure => simp [intOf]; omega
    · obtain rfl : i0 = l.length := by omega
      rw [List.take_length] at hO
      rw [List.take_length]
      go_wp2_with fail
      go_ret
      exact ⟨_, _, rfl, hO, q⟩
set_option maxRecDepth 100000 in
set_option maxHeartbeats 4000000 in
theorem rFew_any (w : World) {S : Nat → Prop} {a : Option Addr} {n c : Nat} {l : List Sp} (hl : RdL Elt.sp S w (.slice a n c) l) :
    Calls Try.prog 9 #[.slice a n c] w fun e w' => e = .returned (.bool (decide (fewS l))) ∧ Below w.heap.size w w' := by
  obtain ⟨rfl, hnc, hcm⟩ := hl.len
  have hlm : l.length ≤ 9223372036854775807 := by unfold maxLen at hcm; omega
  have q := Below.refl w.heap.size w
  go_enter Try.func9, Try.ntmps9
  rcases Nat.lt_or_ge 100 l.length with h1 | h1
  · have d1 : decide ((100 : Int) < (l.length : Int)) = true := decide_eq_true (by omega)
    have HK := Lib.hid (show decide (fewS l) = false from decide_eq_false fun h => by have := h.1; omega)
    go_wp2_with fail
    go_ret
    exact ⟨by first | (rw [HK.out]; done) | (rw [HK.out]; rfl), q⟩
  have d1 : decide ((100 : Int) < (l.length : Int)) = false := decide_eq_false (by omega)
  go_upto_region 4 with (fail)
  go_loopw [3] (fun iv wr => ∃ (k : Nat), iv = .int .i64 k ∧ k ≤ l.length ∧ (∀ x ∈ l.take k, x.lo.length ≤ 100 ∧ x.hi.length ≤ 100) ∧ Below w.heap.size w wr)
    (fun i _ => l.length - (intOf i).toNat)
  case atStart => exact ⟨0, rfl, Nat.zero_le _, by simp, q⟩
  case round =>
    clear q
    obtain ⟨k, rfl, hkl, hall, q⟩ := hrel
    rcases Nat.lt_or_ge k l.length with hlt | hge
    · obtain ⟨b, off, A, C, A2, C2, rfl, hb, c0, c1, c2, c3, hk1, hk2, hw64⟩ := (hl.below q).sp k hlt
      have m1 : l[k].lo.length ≤ 9223372036854775807 := by have := hk1.len; unfold maxLen at this; omega
      have m2 : l[k].hi.length ≤ 9223372036854775807 := by have := hk2.len; unfold maxLen at this; omega
      have dk : decide ((k : Int) < (l.length : Int)) = true := decide_eq_true (by omega)
      clear hk1 hk2
      rcases Nat.lt_or_ge 100 l[k].lo.length with h2 | h2
      · have d2 : decide ((100 : Int) < (l[k].lo.length : Int)) = true := decide_eq_true (by omega)
        have HK := Lib.hid (show decide (fewS l) = false from decide_eq_false fun h => by have := (h.2 _ (List.getElem_mem hlt)).1; omega)
        clear hall
        go_wp2_with fail
        go_ret
        exact ⟨by first | (rw [HK.out]; done) | (rw [HK.out]; rfl), q⟩
      have d2 : decide ((100 : Int) < (l[k].lo.length : Int)) = false := decide_eq_false (by omega)
      rcases Nat.lt_or_ge 100 l[k].hi.length with h3 | h3
      · have d3 : decide ((100 : Int) < (l[k].hi.length : Int)) = true := decide_eq_true (by omega)
        have HK := Lib.hid (show decide (fewS l) = false from decide_eq_false fun h => by have := (h.2 _ (List.getElem_mem hlt)).2; omega)
        clear hall
        go_wp2_with fail
        go_ret
        exact ⟨by first | (rw [HK.out]; done) | (rw [HK.out]; rfl), q⟩
      have d3 : decide ((100 : Int) < (l[k].hi.length : Int)) = false := decide_eq_false (by omega)
      have hall2 := Lib.hid (show ∀ x ∈ l.take (k + 1), x.lo.length ≤ 100 ∧ x.hi.length ≤ 100 from fun x hx => by
        rw [List.take_succ_eq_append_getElem hlt] at hx
        rcases List.mem_append.1 hx with h | h
        · exact hall x h
        · simp at h; rw [h]; exact ⟨h2, h3⟩)
      clear hall
      go_wp2_with fail
      go_roundw
      case rel => exact ⟨k + 1, by go_num, by omega, hall2.out, q⟩
      case measure => simp [intOf]; omega
    · obtain rfl : k = l.length := by omega
      rw [List.take_length] at hall
      have dk : decide ((l.length : Int) < (l.length : Int)) = false := decide_eq_false (by omega)
      have HK := Lib.hid (show decide (fewS l) = true from decide_eq_true ⟨h1, hall⟩)
      clear hall
      go_wp2_with fail
      go_ret
      exact ⟨by first | (rw [HK.out]; done) | (rw [HK.out]; rfl), q⟩
set_option maxRecDepth 100000 in
set_option maxHeartbeats 4000000 in
theorem rSame_any (w : World) {S S2 : Nat → Prop} {a a2 : Option Addr} {n cx n2 cy : Nat} {l m : List Sp} (hl : RdL Elt.sp S w (.slice a n cx) l) (hm : RdL Elt.sp S2 w (.slice a2 n2 cy) m) :
    Calls Try.prog 48 #[.slice a n cx, .slice a2 n2 cy] w fun e w' => e = .returned (.bool (decide (l = m))) ∧ Below w.heap.size w w' := by
  obtain ⟨rfl, hnc, hcm⟩ := hl.len
  have hlm : l.length ≤ 9223372036854775807 := by unfold maxLen at hcm; omega
  obtain ⟨rfl, hnc2, hcm2⟩ := hm.len
  have hmm : m.length ≤ 9223372036854775807 := by unfold maxLen at hcm2; omega
  have q := Below.refl w.heap.size w
  have eO : ∀ args w, (callFunc 57 args).run Try.prog w = .ok (.enter 57 args) w := enters_of Try.func57 (by kernel_rfl) rfl
  go_enter Try.func48, Try.ntmps48
  by_cases hlen : l.length = m.length
  case neg =>
    have d1 : ((l.length : Int) == (m.length : Int)) = false := beq_eq_false_iff_ne.2 (by omega)
    have d2 : (l.length == m.length) = false := beq_eq_false_iff_ne.2 hlen
    have d3 : ((l.length : Int) != (m.length : Int)) = true := bne_iff_ne.2 (by omega)
    have HK := Lib.hid (show decide (l = m) = false from decide_eq_false fun h => hlen (by rw [h]))
    clear hlen
    go_wp2_with fail
    go_ret
    exact ⟨by first | (rw [HK.out]; done) | (rw [HK.out]; rfl), q⟩
  have d1 : ((l.length : Int) == (m.length : Int)) = true := beq_iff_eq.2 (by omega)
  have d2 : (l.length == m.length) = true := beq_iff_eq.2 hlen
  have d3 : ((l.length : Int) != (m.length : Int)) = false := by rw [bne, d1]; rfl
  replace hlen := Lib.hid hlen
  go_upto_region 4 with (fail)
  clear d1 d2 d3
  go_loopw [5] (fun iv wr => ∃ (k : Nat), iv = .int .i64 k ∧ k ≤ l.length ∧ l.take k = m.take k ∧ Below w.heap.size w wr)
    (fun i _ => l.length - (intOf i).toNat)
  case atStart => exact ⟨0, rfl, Nat.zero_le _, by simp, q⟩
  case round =>
    clear q
    obtain ⟨k, rfl, hkl, hall, q⟩ := hrel
    replace hall := Lib.hid hall
    rcases Nat.lt_or_ge k l.length with hlt | hge
    · have hltm : k < m.length := by have := hlen.out; omega
      have dk : decide ((k : Int) < (l.length : Int)) = true := decide_eq_true (by omega)
      obtain ⟨b1, o1, A1, A2, A3, A4, rfl, _, c0, c1, c2, c3, hk1, hk2, hw64⟩ := (hl.below q).sp k hlt
      obtain ⟨b2, o2, B1, B2, B3, B4, rfl, _, d0, d1, d2, d3, hk3, hk4, hw65⟩ := (hm.below q).sp k hltm
      have hx : RdSp S wr (.agg #[.int .i64 l[k].table, .slice A1 l[k].lo.length A2, .slice A3 l[k].hi.length A4, .bool l[k].isOpen]) l[k] := ⟨_, _, _, _, rfl, hk1, hk2, hw64⟩
      have hy : RdSp S2 wr (.agg #[.int .i64 m[k].table, .slice B1 m[k].lo.length B2, .slice B3 m[k].hi.length B4, .bool m[k].isOpen]) m[k] := ⟨_, _, _, _, rfl, hk3, hk4, hw65⟩
      clear hk1 hk2 hk3 hk4
      go_upto_region 6 with (fail)
      refine wp_region_gsg (by kernel_rfl) (by kernel_rfl) [sgEq (.slice (some ⟨b1, o1, none⟩) l.length cx), sgEq (.int .i64 (k : Nat)), sgEq (.pointer (some ⟨b1, o1 + k * 4, none⟩)), sgEq (.agg #[.int .i64 l[k].table, .slice A1 l[k].lo.length A2, .slice A3 l[k].hi.length A4, .bool l[k].isOpen]), sgEq (.slice (some ⟨b2, o2, none⟩) m.length cy), sgEq (.int .i64 (k : Nat)), sgEq (.pointer (some ⟨b2, o2 + k * 4, none⟩)), sgEq (.agg #[.int .i64 m[k].table, .slice B1 m[k].lo.length B2, .slice B3 m[k].hi.length B4, .bool m[k].isOpen]), sgEq (.bool (decide (l[k] = m[k]))), sgEq (.bool (decide (l[k] = m[k])))]
        ⟨?o0, ?o1, ?o2, ?o3, ?o4, ?o5, ?o6, ?o7, ?o8, ?o9, trivial⟩ ?fin
      case o0 =>
        refine GdOp.plain rfl (fun A vs w' hF hT hb hd => ?_)
        have e1 : A.eval (.tmp 0) = .slice (some ⟨b1, o1, none⟩) l.length cx := hF 0 rfl
        exact BigFrame.wp_move _ rfl ⟨_, rfl, e1, Below.refl _ _⟩
      case o1 =>
        refine GdOp.plain rfl (fun A vs w' hF hT hb hd => ?_)
        have e1 : A.eval (.tmp 5) = .int .i64 (k : Nat) := hF 5 rfl
        exact BigFrame.wp_move _ rfl ⟨_, rfl, e1, Below.refl _ _⟩
      case o2 =>
        refine GdOp.plain rfl (fun A vs w' hF hT hb hd => ?_)
        have e1 : A.eval (.tmp 18) = .slice (some ⟨b1, o1, none⟩) l.length cx := (hT 18 0 (by simp) rfl).trans (hd ⟨0, .data⟩ (by simp) rfl)
        have e2 : A.eval (.tmp 19) = .int .i64 (k : Nat) := (hT 19 1 (by simp) rfl).trans (hd ⟨1, .data⟩ (by simp) rfl)
        exact wp_ixN (e := 57) rfl (by kernel_rfl) (by kernel_rfl) (e1) (e2) rfl (by omega) ⟨_, rfl, rfl, Below.refl _ _⟩
      case o3 =>
        refine GdOp.plain rfl (fun A vs w' hF hT hb hd => ?_)
        have e1 : A.eval (.tmp 20) = .pointer (some ⟨b1, o1 + k * 4, none⟩) := (hT 20 2 (by simp) rfl).trans (hd ⟨2, .data⟩ (by simp) rfl)
        exact wp_load4 spS rfl e1 ((hb.cell (p := ⟨_, _, none⟩) (cell_lt c0)).trans c0) ((hb.cell (p := ⟨_, _, none⟩) (cell_lt c1)).trans c1) ((hb.cell (p := ⟨_, _, none⟩) (cell_lt c2)).trans c2) ((hb.cell (p := ⟨_, _, none⟩) (cell_lt c3)).trans c3) ⟨_, rfl, rfl, Below.refl _ _⟩
      case o4 =>
        refine GdOp.plain rfl (fun A vs w' hF hT hb hd => ?_)
        have e1 : A.eval (.tmp 1) = .slice (some ⟨b2, o2, none⟩) m.length cy := hF 1 rfl
        exact BigFrame.wp_move _ rfl ⟨_, rfl, e1, Below.refl _ _⟩
      case o5 =>
        refine GdOp.plain rfl (fun A vs w' hF hT hb hd => ?_)
        have e1 : A.eval (.tmp 5) = .int .i64 (k : Nat) := hF 5 rfl
        exact BigFrame.wp_move _ rfl ⟨_, rfl, e1, Below.refl _ _⟩
      case o6 =>
        refine GdOp.plain rfl (fun A vs w' hF hT hb hd => ?_)
        have e1 : A.eval (.tmp 22) = .slice (some ⟨b2, o2, none⟩) m.length cy := (hT 22 4 (by simp) rfl).trans (hd ⟨4, .data⟩ (by simp) rfl)
        have e2 : A.eval (.tmp 23) = .int .i64 (k : Nat) := (hT 23 5 (by simp) rfl).trans (hd ⟨5, .data⟩ (by simp) rfl)
        exact wp_ixN (e := 57) rfl (by kernel_rfl) (by kernel_rfl) (e1) (e2) rfl (by omega) ⟨_, rfl, rfl, Below.refl _ _⟩
      case o7 =>
        refine GdOp.plain rfl (fun A vs w' hF hT hb hd => ?_)
        have e1 : A.eval (.tmp 24) = .pointer (some ⟨b2, o2 + k * 4, none⟩) := (hT 24 6 (by simp) rfl).trans (hd ⟨6, .data⟩ (by simp) rfl)
        exact wp_load4 spS rfl e1 ((hb.cell (p := ⟨_, _, none⟩) (cell_lt d0)).trans d0) ((hb.cell (p := ⟨_, _, none⟩) (cell_lt d1)).trans d1) ((hb.cell (p := ⟨_, _, none⟩) (cell_lt d2)).trans d2) ((hb.cell (p := ⟨_, _, none⟩) (cell_lt d3)).trans d3) ⟨_, rfl, rfl, Below.refl _ _⟩
      case o8 =>
        refine GdOp.plain rfl (fun A vs w' hF hT hb hd => ?_)
        have e1 : A.eval (.tmp 21) = .agg #[.int .i64 l[k].table, .slice A1 l[k].lo.length A2, .slice A3 l[k].hi.length A4, .bool l[k].isOpen] := (hT 21 3 (by simp) rfl).trans (hd ⟨3, .data⟩ (by simp) rfl)
        have e2 : A.eval (.tmp 25) = .agg #[.int .i64 m[k].table, .slice B1 m[k].lo.length B2, .slice B3 m[k].hi.length B4, .bool m[k].isOpen] := (hT 25 7 (by simp) rfl).trans (hd ⟨7, .data⟩ (by simp) rfl)
        refine wp_callFn rfl eO (args := #[.agg #[.int .i64 l[k].table, .slice A1 l[k].lo.length A2, .slice A3 l[k].hi.length A4, .bool l[k].isOpen], .agg #[.int .i64 m[k].table, .slice B1 m[k].lo.length B2, .slice B3 m[k].hi.length B4, .bool m[k].isOpen]]) (by simp only [List.map_toArray, List.map_cons, List.map_nil, e1, e2]) ((rOne_any w' (hx.below hb) (hy.below hb)).mono ?_)
        rintro e w2 ⟨rfl, hb2⟩
        exact ⟨_, rfl, _, rfl, rfl, hb2⟩
      case o9 =>
        refine GdOp.plain rfl (fun A vs w' hF hT hb hd => ?_)
        have e1 : A.eval (.tmp 26) = .bool (decide (l[k] = m[k])) := (hT 26 8 (by simp) rfl).trans (hd ⟨8, .data⟩ (by simp) rfl)
        exact BigFrame.wp_assign _ rfl ⟨_, rfl, e1, Below.refl _ _⟩
      case fin =>
      intro vs9 W9 hb9 hG9
      have e0 : vs9 0 = .slice (some ⟨b1, o1, none⟩) l.length cx := hG9 0 (by decide)
      have e1 : vs9 1 = .int .i64 (k : Nat) := hG9 1 (by decide)
      have e2 : vs9 2 = .pointer (some ⟨b1, o1 + k * 4, none⟩) := hG9 2 (by decide)
      have e3 : vs9 3 = .agg #[.int .i64 l[k].table, .slice A1 l[k].lo.length A2, .slice A3 l[k].hi.length A4, .bool l[k].isOpen] := hG9 3 (by decide)
      have e4 : vs9 4 = .slice (some ⟨b2, o2, none⟩) m.length cy := hG9 4 (by decide)
      have e5 : vs9 5 = .int .i64 (k : Nat) := hG9 5 (by decide)
      have e6 : vs9 6 = .pointer (some ⟨b2, o2 + k * 4, none⟩) := hG9 6 (by decide)
      have e7 : vs9 7 = .agg #[.int .i64 m[k].table, .slice B1 m[k].lo.length B2, .slice B3 m[k].hi.length B4, .bool m[k].isOpen] := hG9 7 (by decide)
      have e8 : vs9 8 = .bool (decide (l[k] = m[k])) := hG9 8 (by decide)
      have e9 : vs9 9 = .bool (decide (l[k] = m[k])) := hG9 9 (by decide)
      simp only [putAll, e0, e1, e2, e3, e4, e5, e6, e7, e8, e9]
      clear hG9 e0 e1 e2 e3 e4 e5 e6 e7 e8 e9
      replace q := q.trans (hb9.mono q.size)
      clear hb9 hx hy c0 c1 c2 c3 d0 d1 d2 d3
      go_simp
      by_cases he : l[k] = m[k]
      · rw [decide_eq_true he]
        have hall2 := Lib.hid (take_bothS hlt hltm hall.out he)
        clear he hall
        go_wp2_with fail
        go_roundw
        case rel => exact ⟨k + 1, by go_num, by omega, hall2.out, q⟩
        case measure => simp [intOf]; omega
      · rw [decide_eq_false he]
        have HK := Lib.hid (show decide (l = m) = false from decide_eq_false fun h => he (by subst h; rfl))
        clear he hall
        go_wp2_with fail
        go_ret
        exact ⟨by first | (rw [HK.out]; done) | (rw [HK.out]; rfl), q⟩
    · obtain rfl : k = l.length := by omega
      have dk : decide ((l.length : Int) < (l.length : Int)) = false := decide_eq_false (by omega)
      have HK := Lib.hid (show decide (l = m) = true from decide_eq_true (by have h := hall.out; rw [List.take_length] at h; rw [hlen.out, List.take_length] at h; exact h))
      clear hall
      go_wp2_with fail
      go_ret
      exact ⟨by first | (rw [HK.out]; done) | (rw [HK.out]; rfl), q⟩
end Go.Proofs.Ytobelnedhlepaaa
namespace Go.Proofs.Ytobelnedhlepaaa
open Go.RowKit
structure Twb (w A : World) (r : Option Nat) (b : Nat) : Prop where
  os : A.os = w.os
  tape : A.tape = w.tape
  output : A.output = w.output
  size : w.heap.size ≤ A.heap.size
  block : ∀ k, k < w.heap.size → some k ≠ r → k ≠ b → A.heap[k]? = w.heap[k]?
section
variable {w0 w A B : World} {r : Option Nat} {b : Nat}
theorem Twb.of_below (h : Below w.heap.size w A) : Twb w A r b := ⟨h.os, h.tape, h.output, h.size, fun k hk _ _ => h.block k hk⟩
theorem Twb.below (h : Twb w A r b) (k : Below A.heap.size A B) : Twb w B r b :=
  ⟨k.os.trans h.os, k.tape.trans h.tape, k.output.trans h.output, Nat.le_trans h.size k.size, fun j h1 h2 h3 => (k.block j (Nat.lt_of_lt_of_le h1 h.size)).trans (h.block j h1 h2 h3)⟩
theorem Twb.row (h : Twb w A r b) (k : A.grownBy B r) : Twb w B r b :=
  ⟨k.os.trans h.os, k.tape.trans h.tape, k.output.trans h.output, Nat.le_trans h.size k.size, fun j h1 h2 h3 => (k.block j (Nat.lt_of_lt_of_le h1 h.size) h2).trans (h.block j h1 h2 h3)⟩
theorem Twb.box (h : Twb w A r b) (k : A.grownBy B (some b)) : Twb w B r b :=
  ⟨k.os.trans h.os, k.tape.trans h.tape, k.output.trans h.output, Nat.le_trans h.size k.size, fun j h1 h2 h3 => (k.block j (Nat.lt_of_lt_of_le h1 h.size) (fun e => h3 (by injection e))).trans (h.block j h1 h2 h3)⟩
theorem Twb.refl : Twb w w r b := ⟨rfl, rfl, rfl, Nat.le_refl _, fun _ _ _ _ => rfl⟩
theorem Twb.belowB (h : Twb w A r b) (q : Below w0.heap.size w0 w) (hr : ∀ k, r = some k → w0.heap.size ≤ k) (hb : w0.heap.size ≤ b) : Below w0.heap.size w0 A :=
  ⟨h.os.trans q.os, h.tape.trans q.tape, h.output.trans q.output, Nat.le_trans q.size h.size, fun k hk => (h.block k (Nat.lt_of_lt_of_le hk q.size) (fun e => by have := hr k e.symm; omega) (by omega)).trans (q.block k hk)⟩
theorem Twb.boxN {g : Nat} {t : TypeId} {vs : List Value} (h : Twb w A r b) (hT : BoxN w g t vs) (hr : some g ≠ r) (hb : g ≠ b) : BoxN A g t vs := (h.block g hT.lt hr hb).trans hT
end
def Elt.but {α : Type} (E : Elt α) (b : Nat) : Elt α where
  size := E.size
  pos := E.pos
  R S w x vs := E.R (fun k => S k ∧ k ≠ b) w x vs
  len h := E.len h
  keep h hk := E.keep h fun k h2 => hk k h2.1
  weak h hs := E.weak h fun k h2 => ⟨hs k h2.1, h2.2⟩
  fit h := E.weak (E.fit h) fun _ h2 => ⟨⟨h2.1.1, h2.2⟩, h2.1.2⟩
  one h := E.one h
section
variable {α : Type} {E : Elt α} {Te : TypeId} {base lo : Nat} {b : Nat} {w w' : World} {v : Value} {xs : List α}
theorem Flat.but {S : Nat → Prop} (h : ∀ k, S k → k ≠ b) : ∀ {xs : List α} {vs : List Value}, Flat E S w xs vs → Flat (Elt.but E b) S w xs vs
  | [], _, hf => hf
  | _ :: _, _, ⟨us, ws, e, h1, h2⟩ => ⟨us, ws, e, E.weak h1 fun k hk => ⟨hk, h k hk⟩, Flat.but h h2⟩
theorem Flat.unbut {S : Nat → Prop} : ∀ {xs : List α} {vs : List Value}, Flat (Elt.but E b) S w xs vs → Flat E S w xs vs
  | [], _, hf => hf
  | _ :: _, _, ⟨us, ws, e, h1, h2⟩ => ⟨us, ws, e, E.weak h1 fun _ hk => hk.1, Flat.unbut h2⟩
theorem OwnL.but (h : OwnL E Te base lo w v xs) (hb : ∀ k, lo ≤ k → k < w.heap.size → k ≠ b) : OwnL (Elt.but E b) Te base lo w v xs := by
  obtain ⟨vs, h1, h2⟩ := h
  exact ⟨vs, h1, Flat.but (fun k hk => hb k hk.1 hk.2.1) h2⟩
theorem OwnL.unbut (h : OwnL (Elt.but E b) Te base lo w v xs) : OwnL E Te base lo w v xs := by
  obtain ⟨vs, h1, h2⟩ := h
  exact ⟨vs, h1, Flat.unbut h2⟩
theorem Flat.butKeep {S : Nat → Prop} (hk : ∀ k, S k → k ≠ b → w'.heap[k]? = w.heap[k]?) : ∀ {xs : List α} {vs : List Value}, Flat (Elt.but E b) S w xs vs → Flat (Elt.but E b) S w' xs vs
  | [], _, hf => hf
  | _ :: _, _, ⟨us, ws, e, h1, h2⟩ => ⟨us, ws, e, E.keep h1 fun k h3 => hk k h3.1 h3.2, Flat.butKeep hk h2⟩
theorem OwnL.butOther (h : OwnL (Elt.but E b) Te base lo w v xs) (hg : w.grownBy w' (some b)) (hv : v.ownBlock ≠ some b) : OwnL (Elt.but E b) Te base lo w' v xs := by
  obtain ⟨vs, h1, h2⟩ := h
  refine ⟨vs, h1.kept hg (.inr fun e => hv e), ?_⟩
  exact (Flat.butKeep (fun k hk hb => hg.block k hk.2.1 fun e => by injection e with e; exact hb e) h2).weak fun k hk => ⟨hk.1, Nat.lt_of_lt_of_le hk.2.1 hg.size, hk.2.2⟩
end
def PshJ {α : Type} (E : Elt α) (Te : TypeId) (base lo : Nat) (r : Option Nat) (b : Nat) (t : TypeId) (vs : List Value) (f : Nat) (W : World) (xs : List α) (x : α) : List Value → World → Prop
  | [], V => Below W.heap.size W V
  | [v], V => Below W.heap.size W V ∧ ∃ us : List Value, v.cells = us.toArray ∧ E.R (fun k => W.heap.size ≤ k ∧ k < V.heap.size) V x us
  | [_, s], V => Twb W V r b ∧ ∃ ad c, s = .slice ad (xs ++ [x]).length c ∧ OwnL (Elt.but E b) Te base lo V (.slice ad (xs ++ [x]).length c) (xs ++ [x]) ∧ BoxN V b t vs ∧ Value.ownBlock (.slice ad (xs ++ [x]).length c) ≠ some b
  | _, V => Twb W V r b ∧ ∃ ad c, OwnL (Elt.but E b) Te base lo V (.slice ad (xs ++ [x]).length c) (xs ++ [x]) ∧ BoxN V b t (vs.set f (.slice ad (xs ++ [x]).length c)) ∧ Value.ownBlock (.slice ad (xs ++ [x]).length c) ≠ some b
section
variable {α : Type} {E : Elt α} {Te : TypeId} {base lo : Nat} {r : Option Nat} {b : Nat} {t : TypeId} {vs : List Value} {f : Nat} {W : World} {xs : List α} {x : α}
theorem PshJ.below : ∀ (l : List Value) (V V' : World), PshJ E Te base lo r b t vs f W xs x l V → Below V.heap.size V V' → PshJ E Te base lo r b t vs f W xs x l V'
  | [], _, _, h, hb => Below.trans h (hb.mono (Below.size h))
  | [_], _, _, ⟨h, us, e, h1⟩, hb => ⟨h.trans (hb.mono h.size), us, e, E.weak (Elt.below h1 hb) fun _ hk => ⟨hk.1, Nat.lt_of_lt_of_le hk.2 hb.size⟩⟩
  | [_, _], _, _, ⟨h, ad, c, e, h1, h2, h3⟩, hb => ⟨h.below hb, ad, c, e, h1.below hb, h2.below hb h2.lt, h3⟩
  | _ :: _ :: _ :: _, _, _, ⟨h, ad, c, h1, h2, h3⟩, hb => ⟨h.below hb, ad, c, h1.below hb, h2.below hb h2.lt, h3⟩
theorem PshJ.two : ∀ {l : List Value} {V : World}, PshJ E Te base lo r b t vs f W xs x l V → Twb W V r b
  | [], _, h => Twb.of_below h
  | [_], _, ⟨h, _⟩ => Twb.of_below h
  | [_, _], _, ⟨h, _⟩ => h
  | _ :: _ :: _ :: _, _, ⟨h, _⟩ => h
theorem PshJ.early {V : World} {vl : List Value} (h : PshJ E Te base lo r b t vs f W xs x vl V) (hk : vl.length ≤ 1) : Below W.heap.size W V := by
  match vl, h with
  | [], h => exact h
  | [_], h => exact h.1
  | _ :: _ :: _, _ => simp at hk
def pRow {α : Type} (E : Elt α) (Te : TypeId) (W : World) (r : Option Nat) (b : Nat) (x : α) (hr : ∀ k, r = some k → k < W.heap.size) (hb : b < W.heap.size) : SGn (fun A B => Twb A B r b) :=
  ⟨fun w v => ∃ g, ∃ us : List Value, v = .slice (some ⟨g, 0, none⟩) 1 1 ∧ W.heap.size ≤ g ∧ w.heap[g]? = some (.cells us.toArray Te (0, 0)) ∧ E.R (fun k => W.heap.size ≤ k ∧ k < w.heap.size) w x us,
  fun _ _ _ ⟨g, us, h, h0, hc, hR⟩ hb => ⟨g, us, h, h0, (hb.block g (Array.getElem?_eq_some_iff.1 hc).1).trans hc, E.weak (Elt.below hR hb) fun _ hk => ⟨hk.1, Nat.lt_of_lt_of_le hk.2 hb.size⟩⟩,
  fun _ _ _ ⟨g, us, h, h0, hc, hR⟩ hk => ⟨g, us, h, h0, (hk.block g (Array.getElem?_eq_some_iff.1 hc).1 (fun e => by have := hr g e.symm; omega) (fun e => by omega)).trans hc, E.weak (E.keep hR fun k hh => hk.block k hh.2 (fun e => by have := hr k e.symm; omega) (fun e => by omega)) fun _ hh => ⟨hh.1, Nat.lt_of_lt_of_le hh.2 hk.size⟩⟩⟩
theorem PshJ.app {V V' : World} {v : Value} {v0 : Value} {ad : Option Addr} {c : Nat} (h : PshJ E Te base lo r b t vs f W xs x [v] V) (hB : BoxN W b t vs) (hO : OwnL (Elt.but E b) Te base lo V' (.slice ad (xs ++ [x]).length c) (xs ++ [x])) (hg : V.grownBy V' r) (hbr : r ≠ some b) (ho : Value.ownBlock (.slice ad (xs ++ [x]).length c) = r ∨ Value.ownBlock (.slice ad (xs ++ [x]).length c) = some V.heap.size) :
    PshJ E Te base lo r b t vs f W xs x [v0, .slice ad (xs ++ [x]).length c] V' :=
  ⟨(Twb.of_below h.1).row hg, ad, c, rfl, hO, (hB.below h.1 hB.lt).other hg hbr, by
    rcases ho with e | e
    · rw [e]; exact hbr
    · rw [e]; intro e2; injection e2 with e2; have := hB.lt; have := h.1.size; omega⟩
theorem PshJ.sto {V V' : World} {v s u v0 s0 : Value} {ad : Option Addr} {c : Nat} (h : PshJ E Te base lo r b t vs f W xs x [v, s] V) (hO : OwnL (Elt.but E b) Te base lo V (.slice ad (xs ++ [x]).length c) (xs ++ [x])) (hn : Value.ownBlock (.slice ad (xs ++ [x]).length c) ≠ some b) (hg : V.grownBy V' (some b)) (hB : BoxN V' b t (vs.set f (.slice ad (xs ++ [x]).length c))) :
    PshJ E Te base lo r b t vs f W xs x [v0, s0, u] V' :=
  ⟨h.1.box hg, ad, c, hO.butOther hg hn, hB, hn⟩
end
end Go.Proofs.Ytobelnedhlepaaa
namespace Go.Proofs.Ytobelnedhlepaaa
open Go.RowKit Go.Shelf
theorem OwnL.num {Te : TypeId} {base lo lo' : Nat} {w : World} {v : Value} {xs : List Int} (h : OwnL Elt.int Te base lo w v xs) : OwnL Elt.int Te base lo' w v xs := by
  obtain ⟨vs, h1, h2⟩ := h
  have hf : ∀ {S S' : Nat → Prop} {l : List Int} {us : List Value}, Flat Elt.int S w l us → Flat Elt.int S' w l us := by
    intro S S' l
    induction l with
    | nil => intro us h; exact h
    | cons x l ih => rintro us ⟨a, b, e, h3, h4⟩; exact ⟨a, b, e, h3, ih h4⟩
  exact ⟨vs, h1, hf h2⟩
def smD (d : Dl) : Prop := d.writes.length ≤ 1000000 ∧ d.marks.length ≤ 1000000 ∧ ∀ x ∈ d.writes, x.key.length ≤ 1000000 ∧ x.val.length ≤ 1000000
def OwnD (B : Nat) (w : World) (v : Value) (d : Dl) : Prop := ∃ a c a2 c2 M, B ≤ M ∧ M ≤ w.heap.size ∧ v = .agg #[.slice a d.writes.length c, .slice a2 d.marks.length c2] ∧ OwnL Elt.wr 59 M M w (.slice a d.writes.length c) d.writes ∧ OwnL Elt.int 3 B B w (.slice a2 d.marks.length c2) d.marks ∧ ∀ g, Value.ownBlock (.slice a2 d.marks.length c2) = some g → g < M
end Go.Proofs.Ytobelnedhlepaaa
namespace Go.Proofs.Ytobelnedhlepaaa
open Go.RowKit Go.Shelf
set_option maxRecDepth 100000 in
set_option maxHeartbeats 4000000 in
theorem dlCopy_any (w : World) {S : Nat → Prop} {v : Value} {d : Dl} (h : RdDl S w v d) (hs : smD d) :
    Calls Try.prog 65 #[v] w fun e w' => ∃ v', e = .returned v' ∧ OwnD w.heap.size w' v' d ∧ Below w.heap.size w w' := by
  replace h : RdDl (· < w.heap.size) w v d := by
    obtain ⟨a, c, a2, c2, e, h1, h2⟩ := h
    exact ⟨a, c, a2, c2, e, h1.fit.weak fun _ hk => hk.2, h2.fit.weak fun _ hk => hk.2⟩
  obtain ⟨a, c, a2, c2, rfl, hw, hm⟩ := h
  obtain ⟨_, hc1, hm1⟩ := hw.len
  obtain ⟨hs1, hs2, hs3⟩ := hs
  obtain ⟨W0, hW, q, bn, bz, hsz⟩ := boxes2 w 33 33 [.slice a d.writes.length c, .slice a2 d.marks.length c2] [.slice none 0 0, .slice none 0 0]
  have eA : ∀ args w, (callFunc 68 args).run Try.prog w = .ok (.enter 68 args) w := enters_of Try.func68 (by kernel_rfl) rfl
  go_enter Try.func65, Try.ntmps65
  go_upto_region 1 with (fail)
  rw [show (w.alloc (.cells #[.slice a d.writes.length c, .slice a2 d.marks.length c2] 33)).alloc (.cells #[.slice none 0 0, .slice none 0 0] 33) = W0 from hW.symm]
  clear hW
  replace hsz := Lib.hid hsz
  go_upto_region 3 with (first
    | (refine wpList_buildZero (E := Elt.int) inP rfl rfl ?_; intro wz hbz hOz; have b1 := (bn.below hbz bn.lt).cell (i := 1) rfl)
    | (refine wpList_append_zeroL (E := Elt.int) inP rfl rfl rfl (hOz.to (Nat.le_refl _) (Nat.zero_le _)) rfl ((hm.below (q.trans (hbz.mono q.size))).fit.weak fun k hk => hk.2) (fun k hk => ⟨Nat.zero_le _, hk⟩) hbz.size ?_ (by omega); intro m1 ml mc w1 hM hbm; obtain rfl := hM.len; clear b1)
    | (refine wpList_boxNew (vs := [.slice none 0 0, .slice none 0 0]) (by kernel_rfl) rfl rfl ?_; intro w2 hb2 hB2)
    | (refine wpList_boxStore (us := [.slice none 0 0, .slice m1 d.marks.length mc]) (by kernel_rfl) rfl rfl rfl rfl rfl rfl hB2 rfl ?_; intro w3 hg3 hB3)
    | fail)
  have hsz1 : w.heap.size + 1 < W0.heap.size := by have := hsz.out; omega
  replace hM := hM.num (lo' := W0.heap.size)
  have hb1 : Below W0.heap.size W0 w1 := hbz.trans (hbm.mono hbz.size)
  have q1 := q.trans (hb1.mono q.size)
  have bn1 := bn.below hb1 bn.lt
  have bz1 := bz.below hb1 bz.lt
  have hn1 := bn1.lt
  have qb3 : Below w1.heap.size w1 w3 := hb2.grown hg3 hb2.size fun k hk => by injection hk with hk; omega
  have hs3x := hB3.lt
  clear hb2 hB2 hg3 hOz hbm hbz bn bz
  go_loopw [4] (fun iv wr => ∃ (n : Nat) (ad : Option Addr) (ko : Nat), iv = .int .i64 n ∧ n ≤ d.writes.length ∧ OwnL Elt.wr 59 (w1.heap.size + 1) (w1.heap.size + 1) wr (.slice ad (d.writes.take n).length ko) (d.writes.take n) ∧ BoxN wr w1.heap.size 33 [.slice ad (d.writes.take n).length ko, .slice m1 d.marks.length mc] ∧ Below w1.heap.size w1 wr)
    (fun i _ => d.writes.length - (intOf i).toNat)
  case atStart => exact ⟨0, none, 0, rfl, Nat.zero_le _, OwnL.nil _ _ _ _ _, hB3, qb3⟩
  case round =>
    clear hB3 qb3
    obtain ⟨n, ad, ko, rfl, hkl, hO, hB, qr⟩ := hrel
    have q := q1.trans (qr.mono q1.size)
    have bnr := bn1.below qr bn1.lt
    have b0 := bnr.cell (i := 0) rfl
    rcases Nat.lt_or_ge n d.writes.length with hlt | hge
    · obtain ⟨b, off, KA, KC, VA, VC, rfl, hbw, c0, c1, c2, c3, hk1, hk2, hw64⟩ := (hw.below q).wr n hlt
      obtain ⟨hx1, hx2⟩ := hs3 _ (List.getElem_mem hlt)
      have hsn := Lib.hid (show d.writes.take (n + 1) = d.writes.take n ++ [d.writes[n]] from List.take_succ_eq_append_getElem hlt)
      obtain ⟨x, ex⟩ : ∃ x, x = d.writes[n] := ⟨_, rfl⟩
      obtain ⟨xs, exs⟩ : ∃ xs, xs = d.writes.take n := ⟨_, rfl⟩
      have hxl : xs.length ≤ 1000000 := by rw [exs, List.length_take]; omega
      rw [← ex] at c0 c1 c2 c3 hk1 hk2 hw64 hx1 hx2 hsn
      rw [← exs] at hO hB hsn
      clear ex exs
      have hx : RdWr (· < w.heap.size) wr (.agg #[.int .i64 x.table, .slice KA x.key.length KC, .bool x.gone, .slice VA x.val.length VC]) x := ⟨KA, KC, VA, VC, rfl, hk1, hk2, hw64⟩
      go_upto_region 5 with (fail)
      go_simp
      have hBlt := hB.lt
      have hrr : ∀ k, Value.ownBlock (.slice ad xs.length ko) = some k → w1.heap.size + 1 ≤ k ∧ k < wr.heap.size := fun k hk => hO.block_lt k hk
      have hrW : ∀ k, Value.ownBlock (.slice ad xs.length ko) = some k → k < wr.heap.size := fun k hk => (hrr k hk).2
      replace hO := hO.but (b := w1.heap.size) (fun k hk _ => by omega)
      have hlo : w1.heap.size + 1 ≤ wr.heap.size := by omega
      have hnr : some w.heap.size ≠ Value.ownBlock (.slice ad xs.length ko) := fun e => by have := hrr _ e.symm; omega
      have hnb : w.heap.size ≠ w1.heap.size := by omega
      have hbr : Value.ownBlock (.slice ad xs.length ko) ≠ some w1.heap.size := fun e => by have := hrr _ e; omega
      have hb1 : w1.heap.size < w1.heap.size + 1 := by omega
      have hbW : b < wr.heap.size := by have := q.size; omega
      clear hk1 hk2
      refine wp_region_lnl (K := fun A B => Twb A B (Value.ownBlock (.slice ad xs.length ko)) (w1.heap.size)) (by kernel_rfl) (by kernel_rfl) [7, 9, 11] (by kernel_rfl) [lEq (.pointer (some ⟨w1.heap.size, 0 + 0, none⟩)), lEq (.slice ad xs.length ko), lEq (.pointer (some ⟨w.heap.size, 0 + 0, none⟩)), lEq (.slice (some ⟨b, off, none⟩) d.writes.length c), lEq (.int .i64 (n : Int)), lEq (.pointer (some ⟨b, off + n * 4, none⟩)), lEq (.agg #[.int .i64 x.table, .slice KA x.key.length KC, .bool x.gone, .slice VA x.val.length VC]), lAny, pRow Elt.wr 59 (wr) (Value.ownBlock (.slice ad xs.length ko)) (w1.heap.size) x hrW hB.lt, lAny, lEq (.pointer (some ⟨w1.heap.size, 0 + 0, none⟩)), lAny] (PshJ Elt.wr 59 ((w1.heap.size + 1)) ((w1.heap.size + 1)) (Value.ownBlock (.slice ad xs.length ko)) (w1.heap.size) 33 [.slice ad xs.length ko, .slice m1 d.marks.length mc] 0 (wr) (xs) x) PshJ.below (show Below (wr).heap.size (wr) (wr) from Below.refl _ _)
        ⟨?o0, ?o1, ?o2, ?o3, ?o4, ?o5, ?o6, ?o7, ?o8, ?o9, ?o10, ?o11, trivial⟩ ?fin
      case o0 =>
        refine LnOp.side rfl (by kernel_rfl) (fun A va w' k hF hT hk hJ hb hu hp hd => ?_)
        have e1 : A.eval (.tmp 3) = .pointer (some ⟨w1.heap.size, 0, none⟩) := hF 3 rfl
        exact wp_fieldN dlS rfl (e1) (by omega) ⟨_, rfl, rfl, Below.refl _ _⟩
      case o1 =>
        refine LnOp.side rfl (by kernel_rfl) (fun A va w' k hF hT hk hJ hb hu hp hd => ?_)
        have e1 : A.eval (.tmp 17) = .pointer (some ⟨w1.heap.size, 0 + 0, none⟩) := (hT 17 0 (by simp) rfl).trans (hd ⟨0, .data⟩ (by simp) rfl rfl)
        have hk1 : k ≤ 1 := hb 1 9 rfl (by kernel_rfl)
        have hJ0 := PshJ.early hJ (by simp only [List.length_map, List.length_take]; omega)
        exact wp_ld_slice (e := 59) rfl e1 (by kernel_rfl) ((hB.below hJ0 hB.lt).cell (i := 0) rfl) ⟨_, rfl, rfl, Below.refl _ _⟩
      case o2 =>
        refine LnOp.side rfl (by kernel_rfl) (fun A va w' k hF hT hk hJ hb hu hp hd => ?_)
        have e1 : A.eval (.tmp 1) = .pointer (some ⟨w.heap.size, 0, none⟩) := hF 1 rfl
        exact wp_fieldN dlS rfl (e1) (by omega) ⟨_, rfl, rfl, Below.refl _ _⟩
      case o3 =>
        refine LnOp.side rfl (by kernel_rfl) (fun A va w' k hF hT hk hJ hb hu hp hd => ?_)
        have e1 : A.eval (.tmp 19) = .pointer (some ⟨w.heap.size, 0 + 0, none⟩) := (hT 19 2 (by simp) rfl).trans (hd ⟨2, .data⟩ (by simp) rfl rfl)
        exact wp_ld_slice (e := 59) rfl (e1) (by kernel_rfl) (((PshJ.two hJ).boxN bnr hnr hnb).cell (i := 0) rfl) ⟨_, rfl, rfl, Below.refl _ _⟩
      case o4 =>
        refine LnOp.side rfl (by kernel_rfl) (fun A va w' k hF hT hk hJ hb hu hp hd => ?_)
        have e1 : A.eval (.tmp 4) = .int .i64 (n : Int) := hF 4 rfl
        exact BigFrame.wp_move _ rfl ⟨_, rfl, e1, Below.refl _ _⟩
      case o5 =>
        refine LnOp.side rfl (by kernel_rfl) (fun A va w' k hF hT hk hJ hb hu hp hd => ?_)
        have e1 : A.eval (.tmp 20) = .slice (some ⟨b, off, none⟩) d.writes.length c := (hT 20 3 (by simp) rfl).trans (hd ⟨3, .data⟩ (by simp) rfl rfl)
        have e2 : A.eval (.tmp 21) = .int .i64 (n : Int) := (hT 21 4 (by simp) rfl).trans (hd ⟨4, .data⟩ (by simp) rfl rfl)
        exact wp_ixN (e := 59) rfl (by kernel_rfl) (by kernel_rfl) (e1) (e2) rfl (by omega) ⟨_, rfl, rfl, Below.refl _ _⟩
      case o6 =>
        refine LnOp.side rfl (by kernel_rfl) (fun A va w' k hF hT hk hJ hb hu hp hd => ?_)
        have e1 : A.eval (.tmp 22) = .pointer (some ⟨b, off + n * 4, none⟩) := (hT 22 5 (by simp) rfl).trans (hd ⟨5, .data⟩ (by simp) rfl rfl)
        obtain rfl : k = 0 := by have := hb 0 7 rfl (by kernel_rfl); omega
        have hJ0 : Below wr.heap.size wr w' := hJ
        exact wp_load4 wrS rfl e1 ((hJ0.cell (p := ⟨b, off + n * 4, none⟩) hbW).trans c0) ((hJ0.cell (p := ⟨b, off + n * 4 + 1, none⟩) hbW).trans c1) ((hJ0.cell (p := ⟨b, off + n * 4 + 2, none⟩) hbW).trans c2) ((hJ0.cell (p := ⟨b, off + n * 4 + 3, none⟩) hbW).trans c3) ⟨_, rfl, rfl, Below.refl _ _⟩
      case o7 =>
        refine LnOp.line 0 rfl rfl (fun A va w' hF hT hJ hu hd => ?_)
        have e1 : A.eval (.tmp 23) = .agg #[.int .i64 x.table, .slice KA x.key.length KC, .bool x.gone, .slice VA x.val.length VC] := (hT 23 6 (by simp) rfl).trans (hd ⟨6, .data⟩ (by simp) rfl rfl)
        have hJ0 : Below (wr).heap.size (wr) w' := hJ
        refine wp_callFn rfl eA (by simp only [List.map_toArray, List.map_cons, List.map_nil, e1]) ((rWrite_any w' (hx.below hJ0) hx1 hx2).mono ?_)
        rintro e w2 ⟨v2, rfl, ⟨ka, kc, va2, vc, rfl, hk2, hv2, ht2⟩, hb2⟩
        have hR : Elt.wr.R (fun k => wr.heap.size ≤ k ∧ k < w2.heap.size) w2 x (wrC x (.slice ka x.key.length kc) (.slice va2 x.val.length vc)) := ⟨_, _, rfl, hk2.weak fun k hk => ⟨Nat.le_trans hJ0.size hk.1, hk.2⟩, hv2.weak fun k hk => ⟨Nat.le_trans hJ0.size hk.1, hk.2⟩, ht2⟩
        exact ⟨_, rfl, _, rfl, ⟨hJ0.trans (hb2.mono hJ0.size), _, rfl, hR⟩, (Twb.refl (r := Value.ownBlock (.slice ad xs.length ko)) (b := w1.heap.size)).below hb2⟩
      case o8 =>
        refine LnOp.side rfl (by kernel_rfl) (fun A va w' k hF hT hk hJ hb hu hp hd => ?_)
        have x1 : A.eval (.tmp 24) = va 7 := hT 24 7 (by simp) rfl
        obtain rfl : k = 1 := by
          have h1 := hp ⟨7, .data⟩ (by simp) rfl 0 rfl
          have h2 := hb 1 9 rfl (by kernel_rfl)
          omega
        obtain ⟨hJ0, us, eus, hR⟩ := hJ
        have hb1 : Below w'.heap.size w' (w'.alloc (.cells us.toArray 59)) := (Below.refl _ _).alloc (Nat.le_refl _) _
        exact wp_buildOne wrP rfl x1 eus (Elt.len _ hR) (by decide) (by decide) ⟨_, rfl, ⟨_, us, rfl, hJ0.size, by simp only [World.alloc, Array.getElem?_push_size], Elt.weak _ (Elt.below hR hb1) fun k hk => ⟨hk.1, Nat.lt_of_lt_of_le hk.2 hb1.size⟩⟩, hb1⟩
      case o9 =>
        refine LnOp.line 1 rfl rfl (fun A va w' hF hT hJ hu hd => ?_)
        have e1 : A.eval (.tmp 18) = .slice ad xs.length ko := (hT 18 1 (by simp) rfl).trans (hd ⟨1, .data⟩ (by simp) rfl rfl)
        have x2 : A.eval (.tmp 25) = va 8 := hT 25 8 (by simp) rfl
        have y2 := hd ⟨8, .data⟩ (by simp) rfl rfl
        have hJ' := hJ
        obtain ⟨hJ0, _⟩ := hJ
        obtain ⟨g, us, eg, hg0, hgc, hgR⟩ : ∃ g, ∃ us : List Value, va 8 = .slice (some ⟨g, 0, none⟩) 1 1 ∧ (wr).heap.size ≤ g ∧ w'.heap[g]? = some (.cells us.toArray 59 (0, 0)) ∧ Elt.R Elt.wr (fun k => (wr).heap.size ≤ k ∧ k < w'.heap.size) w' x us := y2
        refine wp_appendL (E := Elt.but Elt.wr (w1.heap.size)) (ys := [x]) wrP rfl e1 (hO.below hJ0) (x2.trans eg) (fun j u hj => by rw [Addr.add_lit, World.cell?, hgc]; simpa using hj) (Flat.single (Elt.weak Elt.wr hgR fun k hk => ⟨hk, fun e => by have := hk.1; have := hB.lt; omega⟩)) (fun k hk => ⟨Nat.le_trans hlo hk.1, hk.2, fun e => by have := hrW k e.symm; omega⟩) (Nat.le_trans hlo hJ0.size) (fun ad7 k7 cap7 w2 h2 hg h3 => ?_) (by simp; omega)
        obtain rfl : k7 = (xs ++ [x]).length := h2.len
        exact ⟨_, rfl, PshJ.app hJ' hB h2 hg hbr h3, (Twb.refl (b := w1.heap.size)).row hg⟩
      case o10 =>
        refine LnOp.side rfl (by kernel_rfl) (fun A va w' k hF hT hk hJ hb hu hp hd => ?_)
        have e1 : A.eval (.tmp 3) = .pointer (some ⟨w1.heap.size, 0, none⟩) := hF 3 rfl
        exact wp_fieldN dlS rfl (e1) (by omega) ⟨_, rfl, rfl, Below.refl _ _⟩
      case o11 =>
        refine LnOp.line 2 rfl rfl (fun A va w' hF hT hJ hu hd => ?_)
        have e1 : A.eval (.tmp 27) = .pointer (some ⟨w1.heap.size, 0 + 0, none⟩) := (hT 27 10 (by simp) rfl).trans (hd ⟨10, .data⟩ (by simp) rfl rfl)
        have x2 : A.eval (.tmp 26) = va 9 := hT 26 9 (by simp) rfl
        have hJ' := hJ
        obtain ⟨hJ0, ad7, c7, es, hOs, hBs, hn7⟩ := hJ
        refine wp_boxSet (j := 0) rfl (by kernel_rfl) e1 (x2.trans es) rfl rfl hBs (by simp) (fun w2 hg hB2 => ?_)
        exact ⟨_, rfl, PshJ.sto hJ' hOs hn7 hg hB2, (Twb.refl (r := Value.ownBlock (.slice ad xs.length ko))).box hg⟩
      case fin =>
        intro vs1 W9 hJ hG
        obtain ⟨htw, ad9, c9, hO9, hB9, hn9⟩ := hJ
        have g0 : vs1 0 = .pointer (some ⟨w1.heap.size, 0 + 0, none⟩) := hG 0 (by decide) rfl
        have g1 : vs1 1 = .slice ad xs.length ko := hG 1 (by decide) rfl
        have g2 : vs1 2 = .pointer (some ⟨w.heap.size, 0 + 0, none⟩) := hG 2 (by decide) rfl
        have g3 : vs1 3 = .slice (some ⟨b, off, none⟩) d.writes.length c := hG 3 (by decide) rfl
        have g4 : vs1 4 = .int .i64 (n : Int) := hG 4 (by decide) rfl
        have g5 : vs1 5 = .pointer (some ⟨b, off + n * 4, none⟩) := hG 5 (by decide) rfl
        have g6 : vs1 6 = .agg #[.int .i64 x.table, .slice KA x.key.length KC, .bool x.gone, .slice VA x.val.length VC] := hG 6 (by decide) rfl
        have g10 : vs1 10 = .pointer (some ⟨w1.heap.size, 0 + 0, none⟩) := hG 10 (by decide) rfl
        clear hG
        simp only [putAll, g0, g1, g2, g3, g4, g5, g6, g10]
        clear g0 g1 g2 g3 g4 g5 g6 g10
        go_simp
        have q9 := htw.belowB (w0 := w1) qr (fun k hk => by have := hrr k hk; omega) (Nat.le_refl _)
        replace hO9 := hO9.unbut
        rw [← hsn.out] at hO9 hB9
        clear hB bnr b0 hO hx hsn htw hn9 c0 c1 c2 c3
        go_wp2_with fail
        go_roundw
        case rel => exact ⟨n + 1, ad9, c9, by go_num, by omega, hO9, hB9, q9⟩
        case measure => simp [intOf]; omega
    · obtain rfl : n = d.writes.length := by omega
      rw [List.take_length] at hO hB
      have b1 := hB.cell (i := 1) rfl
      have b2 := hB.cell (i := 0) rfl
      have bz2 := bz1.below qr bz1.lt
      have hM2 := hM.below qr
      go_wp2_with (first | (refine wpList_boxStore (us := [.slice ad d.writes.length ko, .slice m1 d.marks.length mc]) (by kernel_rfl) rfl rfl rfl rfl rfl rfl bz2 rfl ?_; intro wd hgd hBd) | fail)
      have d0 := hBd.cell (i := 0) rfl
      have d1 := hBd.cell (i := 1) rfl
      obtain ⟨fs, hu, _⟩ := dlS.hu
      refine bodyPost_ret (v := .agg #[.slice ad d.writes.length ko, .slice m1 d.marks.length mc]) (by simp [results, Try.results65, go_sem, loadVar, isAgg, run_underlying hu, run_sizeOf' dlS.hs, loadCellsFrom, Addr.add, d0, d1]) rfl ?_
      have hz1 := hb1.size
      have hzd := hgd.size
      have hB2 := hB.lt
      exact ⟨_, rfl, ⟨ad, ko, m1, mc, w1.heap.size + 1, by omega, by omega, rfl, hO.other hgd (by omega) (by omega), (hM2.other hgd (by omega) (by omega)).to (by omega) (by omega), fun g hg => by have := (hM.block_lt g hg).2; omega⟩, q.grown hgd q.size fun k e => by injection e with e; omega⟩
end Go.Proofs.Ytobelnedhlepaaa
namespace Go.Proofs.Ytobelnedhlepaaa
open Go.RowKit Go.Shelf
theorem BxeL.bl {R : (Nat → Prop) → World → Value → Prop} {Te : TypeId} {Z : List Value} {mk : Value → List Value} {W w : World} : ∀ {l : List (Option Value)}, BxeL R Te Z mk W l w → Below W.heap.size W w
  | [_, _, _, _], h => BxE.bl h
def mk13 (x : Ps) (c : Value) : List Value := [.int .i64 x.snap, .int .i64 x.stamp, .bool x.held, c, .slice none 0 0, .bool x.out]
def R13 (x : Ps) (S : Nat → Prop) (w : World) (v : Value) : Prop := ∃ a c, v = .slice a x.reads.length c ∧ RdL Elt.sp S w (.slice a x.reads.length c) x.reads
theorem rdq13 {x : Ps} : RdQ (R13 x) := ⟨fun ⟨a, c, e, h⟩ hk => ⟨a, c, e, h.keep hk⟩, fun ⟨a, c, e, h⟩ hk => ⟨a, c, e, h.weak hk⟩⟩
theorem run_build13 (w : World) (s t : Int) (h o : Bool) (a : Option Addr) (n c : Nat) : (Instr.build 50 #[(0, .int .i64 s), (1, .int .i64 t), (2, .bool h), (3, .slice a n c), (5, .bool o)]).run Try.prog w = .ok (.agg #[.int .i64 s, .int .i64 t, .bool h, .slice a n c, .slice none 0 0, .bool o]) w := by kernel_rfl
theorem run_fieldDl (w : World) (a b : Option Addr) (n c m d : Nat) : (Instr.field 33 (.agg #[.slice a n c, .slice b m d]) 0).run Try.prog w = .ok (.slice a n c) w := by kernel_rfl
attribute [local go_sem] run_fieldDl
set_option maxRecDepth 100000 in
set_option maxHeartbeats 8000000 in
theorem rCopyP_any (w : World) {S : Nat → Prop} {v : Value} {x : Ps} (hx : RdPs S w v x) (hsm : smP x) :
    Calls Try.prog 52 #[v] w (P1End w x) := by
  obtain ⟨a1, a2, a3, a4, rfl, hxr, hxw, h64⟩ := hx
  obtain ⟨W, hW, q, Bx, Bz, hsz⟩ := spBoxes2 w 50 50 [.int .i64 x.snap, .int .i64 x.stamp, .bool x.held, .slice a1 x.reads.length a2, .slice a3 x.writes.length a4, .bool x.out] [.int .i64 0, .int .i64 0, .bool false, .slice none 0 0, .slice none 0 0, .bool false]
  have eC : ∀ args w, (callFunc 64 args).run Try.prog w = .ok (.enter 64 args) w := enters_of Try.func64 (by kernel_rfl) rfl
  replace hxr := hxr.below q
  replace hxw := hxw.below q
  go_enter Try.func52, Try.ntmps52
  go_upto_region 1 with (fail)
  rw [show (w.alloc (.cells #[.int .i64 x.snap, .int .i64 x.stamp, .bool x.held, .slice a1 x.reads.length a2, .slice a3 x.writes.length a4, .bool x.out] 50)).alloc (.cells #[.int .i64 0, .int .i64 0, .bool false, .slice none 0 0, .slice none 0 0, .bool false] 50) = W from hW.symm]
  clear hW
  refine wp_region_setl (K := fun _ _ => True) (by kernel_rfl) (by kernel_rfl) [8, 11, 12, 13] (by kernel_rfl) [lEq (.pointer (some ⟨w.heap.size, 0 + 0, none⟩)), lEq (.int .i64 x.snap), lEq (.pointer (some ⟨w.heap.size, 0 + 1, none⟩)), lEq (.int .i64 x.stamp), lEq (.pointer (some ⟨w.heap.size, 0 + 2, none⟩)), lEq (.bool x.held), lEq (.pointer (some ⟨w.heap.size, 0 + 3, none⟩)), lEq (.slice a1 x.reads.length a2), lAny, lEq (.pointer (some ⟨w.heap.size, 0 + 5, none⟩)), lEq (.bool x.out), lAny, lAny, lAny]
    (BxeL (R13 x) 50 [.int .i64 0, .int .i64 0, .bool false, .slice none 0 0, .slice none 0 0, .bool false] (mk13 x) W) (BxeL.more rdq13) BxE.start
    ⟨?o0, ?o1, ?o2, ?o3, ?o4, ?o5, ?o6, ?o7, ?o8, ?o9, ?o10, ?o11, ?o12, ?o13, trivial⟩ ?fin
  case o0 =>
    refine StOp.free rfl (by kernel_rfl) (fun A va D w' hF hT hN hE hd hu hg => ?_)
    have e1 : A.eval (.tmp 1) = .pointer (some ⟨w.heap.size, 0, none⟩) := hF 1 rfl
    exact wp_fieldN psS rfl (e1) (by omega) ⟨_, rfl, rfl, Below.refl _ _⟩
  case o1 =>
    refine StOp.free rfl (by kernel_rfl) (fun A va D w' hF hT hN hE hd hu hg => ?_)
    have e1 : A.eval (.tmp 4) = .pointer (some ⟨w.heap.size, 0 + 0, none⟩) := (hT 4 0 (by simp) rfl).trans (hg ⟨0, .data⟩ (by simp) rfl rfl)
    exact wp_ld_int (k := .i64) rfl (e1) (by kernel_rfl) (((BxeL.bl hE).cell (p := ⟨_, _, none⟩) Bx.lt).trans (Bx.cell (i := 0) rfl)) ⟨_, rfl, rfl, Below.refl _ _⟩
  case o2 =>
    refine StOp.free rfl (by kernel_rfl) (fun A va D w' hF hT hN hE hd hu hg => ?_)
    have e1 : A.eval (.tmp 1) = .pointer (some ⟨w.heap.size, 0, none⟩) := hF 1 rfl
    exact wp_fieldN psS rfl (e1) (by omega) ⟨_, rfl, rfl, Below.refl _ _⟩
  case o3 =>
    refine StOp.free rfl (by kernel_rfl) (fun A va D w' hF hT hN hE hd hu hg => ?_)
    have e1 : A.eval (.tmp 6) = .pointer (some ⟨w.heap.size, 0 + 1, none⟩) := (hT 6 2 (by simp) rfl).trans (hg ⟨2, .data⟩ (by simp) rfl rfl)
    exact wp_ld_int (k := .i64) rfl (e1) (by kernel_rfl) (((BxeL.bl hE).cell (p := ⟨_, _, none⟩) Bx.lt).trans (Bx.cell (i := 1) rfl)) ⟨_, rfl, rfl, Below.refl _ _⟩
  case o4 =>
    refine StOp.free rfl (by kernel_rfl) (fun A va D w' hF hT hN hE hd hu hg => ?_)
    have e1 : A.eval (.tmp 1) = .pointer (some ⟨w.heap.size, 0, none⟩) := hF 1 rfl
    exact wp_fieldN psS rfl (e1) (by omega) ⟨_, rfl, rfl, Below.refl _ _⟩
  case o5 =>
    refine StOp.free rfl (by kernel_rfl) (fun A va D w' hF hT hN hE hd hu hg => ?_)
    have e1 : A.eval (.tmp 8) = .pointer (some ⟨w.heap.size, 0 + 2, none⟩) := (hT 8 4 (by simp) rfl).trans (hg ⟨4, .data⟩ (by simp) rfl rfl)
    exact wp_ld_bool  rfl (e1) (by kernel_rfl) (((BxeL.bl hE).cell (p := ⟨_, _, none⟩) Bx.lt).trans (Bx.cell (i := 2) rfl)) ⟨_, rfl, rfl, Below.refl _ _⟩
  case o6 =>
    refine StOp.free rfl (by kernel_rfl) (fun A va D w' hF hT hN hE hd hu hg => ?_)
    have e1 : A.eval (.tmp 1) = .pointer (some ⟨w.heap.size, 0, none⟩) := hF 1 rfl
    exact wp_fieldN psS rfl (e1) (by omega) ⟨_, rfl, rfl, Below.refl _ _⟩
  case o7 =>
    refine StOp.free rfl (by kernel_rfl) (fun A va D w' hF hT hN hE hd hu hg => ?_)
    have e1 : A.eval (.tmp 10) = .pointer (some ⟨w.heap.size, 0 + 3, none⟩) := (hT 10 6 (by simp) rfl).trans (hg ⟨6, .data⟩ (by simp) rfl rfl)
    exact wp_ld_slice (e := 57) rfl (e1) (by kernel_rfl) (((BxeL.bl hE).cell (p := ⟨_, _, none⟩) Bx.lt).trans (Bx.cell (i := 3) rfl)) ⟨_, rfl, rfl, Below.refl _ _⟩
  case o8 =>
    refine StOp.set rfl (by kernel_rfl) (fun A va D w' hF hT hN hE hd hu hg => ?_)
    have e1 : A.eval (.tmp 11) = .slice a1 x.reads.length a2 := (hT 11 7 (by simp) rfl).trans (hg ⟨7, .data⟩ (by simp) rfl rfl)
    have hE2 := hE
    simp only [told, List.map_cons, List.map_nil, hN, Bool.false_eq_true, if_false] at hE2
    refine wp_callFn rfl eC (args := #[.slice a1 x.reads.length a2]) (by simp only [List.map_toArray, List.map_cons, List.map_nil, e1]) ((rCopy_any w' (hxr.below hE2.bl) hsm.1).mono ?_)
    rintro e w2 ⟨a5, c5, rfl, hO, hb2⟩
    have h5 := BxE.call rdq13 hE2 hb2 (u := .slice a5 x.reads.length c5) ⟨a5, c5, rfl, hO.rdS fun k hk hl => ⟨by omega, hl⟩⟩
    exact ⟨_, rfl, _, rfl, by simpa [BxeL, told, don, upd] using h5, trivial⟩
  case o9 =>
    refine StOp.free rfl (by kernel_rfl) (fun A va D w' hF hT hN hE hd hu hg => ?_)
    have e1 : A.eval (.tmp 1) = .pointer (some ⟨w.heap.size, 0, none⟩) := hF 1 rfl
    exact wp_fieldN psS rfl (e1) (by omega) ⟨_, rfl, rfl, Below.refl _ _⟩
  case o10 =>
    refine StOp.free rfl (by kernel_rfl) (fun A va D w' hF hT hN hE hd hu hg => ?_)
    have e1 : A.eval (.tmp 13) = .pointer (some ⟨w.heap.size, 0 + 5, none⟩) := (hT 13 9 (by simp) rfl).trans (hg ⟨9, .data⟩ (by simp) rfl rfl)
    exact wp_ld_bool  rfl (e1) (by kernel_rfl) (((BxeL.bl hE).cell (p := ⟨_, _, none⟩) Bx.lt).trans (Bx.cell (i := 5) rfl)) ⟨_, rfl, rfl, Below.refl _ _⟩
  case o11 =>
    refine StOp.set rfl (by kernel_rfl) (fun A va D w' hF hT hN hE hd hu hg => ?_)
    have e1 : A.eval (.tmp 5) = .int .i64 x.snap := (hT 5 1 (by simp) rfl).trans (hg ⟨1, .data⟩ (by simp) rfl rfl)
    have e2 : A.eval (.tmp 7) = .int .i64 x.stamp := (hT 7 3 (by simp) rfl).trans (hg ⟨3, .data⟩ (by simp) rfl rfl)
    have e3 : A.eval (.tmp 9) = .bool x.held := (hT 9 5 (by simp) rfl).trans (hg ⟨5, .data⟩ (by simp) rfl rfl)
    have x4 : A.eval (.tmp 12) = va 8 := hT 12 8 (by simp) rfl
    have e5 : A.eval (.tmp 14) = .bool x.out := (hT 14 10 (by simp) rfl).trans (hg ⟨10, .data⟩ (by simp) rfl rfl)
    have hE2 := hE
    have d8 : D 8 = true := hd ⟨8, .data⟩ (by simp) rfl
    simp only [told, List.map_cons, List.map_nil, hN, d8, Bool.false_eq_true, if_false, if_true] at hE2
    obtain ⟨a5, c5, ec, _⟩ := hE2.cl _ rfl
    rw [ec] at hE2
    have h5 := BxE.build hE2
    refine wp_run' (v := .agg #[.int .i64 x.snap, .int .i64 x.stamp, .bool x.held, .slice a5 x.reads.length c5, .slice none 0 0, .bool x.out]) (w := w') (by simp only [execOp, List.map_toArray, List.map_cons, List.map_nil, e1, e2, e3, x4.trans ec, e5]; rw [Sem.run_bind, run_build13]; rfl) ?_
    exact ⟨_, rfl, by simpa [BxeL, told, don, upd, d8, ec, mk13] using h5, trivial⟩
  case o12 =>
    refine StOp.set rfl (by kernel_rfl) (fun A va D w' hF hT hN hE hd hu hg => ?_)
    have hE2 := hE
    simp only [told, List.map_cons, List.map_nil, hN, Bool.false_eq_true, if_false] at hE2
    refine wp_boxNew (vs := [.int .i64 0, .int .i64 0, .bool false, .slice none 0 0, .slice none 0 0, .bool false]) (by kernel_rfl) rfl (fun w2 hb2 hz => ⟨_, rfl, ?_, trivial⟩)
    have h5 := BxE.alloc rdq13 hE2 hb2 hz.lt hz
    simpa [BxeL, told, don, upd] using h5
  case o13 =>
    refine StOp.set rfl (by kernel_rfl) (fun A va D w' hF hT hN hE hd hu hg => ?_)
    have x1 : A.eval (.tmp 3) = va 12 := hT 3 12 (by simp) rfl
    have x2 : A.eval (.tmp 15) = va 11 := hT 15 11 (by simp) rfl
    have hE2 := hE
    have d11 : D 11 = true := hd ⟨11, .data⟩ (by simp) rfl
    have d12 : D 12 = true := hd ⟨12, .data⟩ (by simp) rfl
    simp only [told, List.map_cons, List.map_nil, hN, d11, d12, Bool.false_eq_true, if_false, if_true] at hE2
    obtain ⟨c, ec, eu⟩ := BxE.built hE2
    rw [ec] at hE2
    obtain ⟨b9, eb, hz⟩ := BxE.box hE2
    obtain ⟨a5, c5, ec5, _⟩ := hE2.cl _ rfl
    subst ec5
    refine wp_boxStore (vs := [.int .i64 0, .int .i64 0, .bool false, .slice none 0 0, .slice none 0 0, .bool false]) (us := mk13 x (.slice a5 x.reads.length c5)) (by kernel_rfl) rfl (x1.trans eb) (x2.trans eu) rfl hz rfl (fun w2 hg2 ht2 => ⟨_, rfl, ?_, trivial⟩)
    rw [eb] at hE2
    have h5 := BxE.sto (s := undef) rdq13 hE2 hg2 ht2
    simpa [BxeL, told, don, upd, d11, d12, ec, eb] using h5
  case fin =>
    intro vs1 W1 hE hG
    obtain ⟨eb, b, ea, hbl, hB, ⟨a5, c5, e5, hr5⟩, hb1⟩ := BxE.done rdq13 hE
    have g0 := hG 0 (by decide) rfl
    simp only [putAll, ea, eb, e5]
    rw [e5] at hB
    clear hE hG ea eb e5 g0
    go_simp
    have hBx := Bx.below hb1 Bx.lt
    have c4 := hBx.cell (i := 4) rfl
    have hcl := dlCopy_any W1 (d := ⟨x.writes, []⟩) (S := S) ⟨a3, a4, none, 0, rfl, hxw.below hb1, RdL.nil _ _ _⟩ ⟨hsm.2.1, Nat.zero_le _, hsm.2.2⟩
    go_wp2_with fail
    refine hcl.mono ?_
    rintro e W2 ⟨v, rfl, hO, hb2⟩
    clear hcl c4
    obtain ⟨a6, c6, a7, c7, M, _, _, rfl, hW6, _, _⟩ := id hO
    have hs1 := hb1.size
    have hB2 := hB.below hb2 hB.lt
    have Bz2 := (Bz.below hb1 Bz.lt).below hb2 (by have := Bz.lt; omega)
    have hr6 : RdL Elt.wr (fun k => W1.heap.size ≤ k ∧ k < W2.heap.size) W2 (.slice a6 x.writes.length c6) x.writes := hW6.rdS fun k hk hl => ⟨by omega, hl⟩
    have hr2 : RdL Elt.sp (fun k => (W.heap.size ≤ k ∧ k < W1.heap.size) ∧ k ≠ b) W2 (.slice a5 x.reads.length c5) x.reads := hr5.keep fun k hk => hb2.block k hk.1.2
    have hn2 : x.writes.length ≤ 1000000 := hsm.2.1
    clear hO hW6 hB hBx hxr hxw
    have hZ : mk13 x (.slice a5 x.reads.length c5) = [.int .i64 x.snap, .int .i64 x.stamp, .bool x.held, .slice a5 x.reads.length c5, .slice none 0 0, .bool x.out] := rfl
    rw [hZ] at hB2
    clear hZ
    go_wp2_with (first
      | (refine wpList_boxSet (j := 4) (u := .slice a6 x.writes.length c6) rfl rfl rfl (by kernel_rfl) rfl rfl rfl rfl hB2 (by simp) ?_; intro W3 hg3 hB3; have b3 := (Bz2.other hg3 (by intro e; injection e with e; omega)); replace hB3 : BoxN W3 b 50 [.int .i64 x.snap, .int .i64 x.stamp, .bool x.held, .slice a5 x.reads.length c5, .slice a6 x.writes.length c6, .bool x.out] := hB3; have d0 := hB3.cell (i := 0) rfl; have d1 := hB3.cell (i := 1) rfl; have d2 := hB3.cell (i := 2) rfl; have d3 := hB3.cell (i := 3) rfl; have d4 := hB3.cell (i := 4) rfl; have d5 := hB3.cell (i := 5) rfl)
      | (refine wpList_boxStore (us := [.int .i64 x.snap, .int .i64 x.stamp, .bool x.held, .slice a5 x.reads.length c5, .slice a6 x.writes.length c6, .bool x.out]) (by kernel_rfl) rfl rfl rfl rfl rfl rfl b3 rfl ?_; intro W4 hg4 hB4; clear d0 d1 d2 d3 d4 d5)
      | fail)
    have d0 := hB4.cell (i := 0) rfl
    have d1 := hB4.cell (i := 1) rfl
    have d2 := hB4.cell (i := 2) rfl
    have d3 := hB4.cell (i := 3) rfl
    have d4 := hB4.cell (i := 4) rfl
    have d5 := hB4.cell (i := 5) rfl
    obtain ⟨fs, hu, _⟩ := psS.hu
    refine bodyPost_ret (v := .agg #[.int .i64 x.snap, .int .i64 x.stamp, .bool x.held, .slice a5 x.reads.length c5, .slice a6 x.writes.length c6, .bool x.out]) (by simp [results, Try.results52, go_sem, loadVar, isAgg, run_underlying hu, run_sizeOf' psS.hs, loadCellsFrom, Addr.add, d0, d1, d2, d3, d4, d5]) rfl ?_
    have hs2 := hb2.size
    have hs3 := hg3.size
    have hs4 := hg4.size
    have hk3 : ∀ k, k < W2.heap.size → k ≠ b → k ≠ w.heap.size + 1 → W4.heap[k]? = W2.heap[k]? := fun k h1 h2 h3 => (hg4.block k (by omega) fun e => by injection e with e; omega).trans (hg3.block k h1 fun e => by injection e with e; omega)
    have q2 := (q.trans (hb1.mono q.size)).trans (hb2.mono (by have := q.size; omega))
    have q4 : Below w.heap.size w W4 := (q2.grown hg3 (by omega) fun k e => by injection e with e; omega).grown hg4 (by omega) fun k e => by injection e with e; omega
    exact ⟨_, rfl, ⟨a5, c5, a6, c6, rfl, (hr2.keep fun k hk => hk3 k (by omega) hk.2 (by omega)).weak fun k hk => by omega, (hr6.keep fun k hk => hk3 k hk.2 (by omega) (by omega)).weak fun k hk => by omega, h64⟩, q4⟩
end Go.Proofs.Ytobelnedhlepaaa
namespace Go.Proofs.Ytobelnedhlepaaa
open Go.RowKit Go.Shelf
theorem metP_snoc {lv : List Lv} {p : Ps} {k : Nat} (h : k < lv.length) : metP (lv.take (k + 1)) p = (metP (lv.take k) p || decide (lv[k].snap < p.stamp)) := by
  unfold metP
  rw [List.take_succ_eq_append_getElem h, List.any_append]
  simp
set_option maxRecDepth 100000 in
set_option maxHeartbeats 8000000 in
theorem rKeepP_any (w : World) {S S2 : Nat → Prop} {a a2 : Option Addr} {n cx n2 cy : Nat} {l : List Ps} {lv : List Lv} (hl : RdL Elt.ps S w (.slice a n cx) l) (hm : RdL Elt.lv S2 w (.slice a2 n2 cy) lv) (hsm : smPs l) :
    Calls Try.prog 34 #[.slice a n cx, .slice a2 n2 cy] w (PsEnd w (keepP l lv)) := by
  obtain ⟨rfl, hnc, hcm⟩ := hl.len
  have hlm : l.length ≤ 9223372036854775807 := by unfold maxLen at hcm; omega
  obtain ⟨rfl, hnc2, hcm2⟩ := hm.len
  have hmm : lv.length ≤ 9223372036854775807 := by unfold maxLen at hcm2; omega
  have q := Below.refl w.heap.size w
  have hl1 := hsm.1
  replace hsm := Lib.hid hsm.2
  clear hnc hnc2 hcm hcm2
  go_enter Try.func34, Try.ntmps34
  go_upto_region 3 with (fail)
  go_loopw [5, 6] (fun ov iv wr => ∃ (i : Nat) (ad : Option Addr) (ko : Nat), iv = .int .i64 i ∧ i ≤ l.length ∧ ov = .slice ad (keepP (l.take i) lv).length ko ∧ OwnL Elt.ps 50 w.heap.size w.heap.size wr (.slice ad (keepP (l.take i) lv).length ko) (keepP (l.take i) lv) ∧ Below w.heap.size w wr) (fun _ i _ => l.length - (intOf i).toNat)
  case atStart => exact ⟨0, none, 0, rfl, Nat.zero_le _, rfl, OwnL.nil _ _ _ _ _, q⟩
  case round =>
    clear q
    obtain ⟨i, ad, ko, rfl, hil, rfl, hO, q⟩ := hrel
    rcases Nat.lt_or_ge i l.length with hlt | hge
    · have di : decide ((i : Int) < (l.length : Int)) = true := decide_eq_true (by omega)
      have hsn := Lib.hid (keepP_snoc (lv := lv) hlt)
      have hp := Lib.hid (hsm.out _ (List.getElem_mem hlt))
      obtain ⟨xs, exs⟩ : ∃ xs, xs = keepP (l.take i) lv := ⟨_, rfl⟩
      have hxl : xs.length ≤ 1000000 := by rw [exs]; refine Nat.le_trans (keepP_len _ _) ?_; rw [List.length_take]; omega
      rw [← exs] at hO hsn
      rw [← exs]
      clear exs
      go_upto_region 7 with (fail)
      go_loopw [7, 8] (fun mv kv wr => ∃ (k : Nat), kv = .int .i64 k ∧ k ≤ lv.length ∧ mv = .bool (metP (lv.take k) l[i]) ∧ OwnL Elt.ps 50 w.heap.size w.heap.size wr (.slice ad xs.length ko) xs ∧ Below w.heap.size w wr) (fun _ k _ => lv.length - (intOf k).toNat)
      case atStart => exact ⟨0, rfl, Nat.zero_le _, rfl, hO, q⟩
      case round =>
        clear q hO
        obtain ⟨k, rfl, hkm, rfl, hO, q⟩ := hrel
        rcases Nat.lt_or_ge k lv.length with hlt2 | hge
        · have dk : decide ((k : Int) < (lv.length : Int)) = true := decide_eq_true (by omega)
          have hms := Lib.hid (metP_snoc (p := l[i]) hlt2)
          obtain ⟨g1, o1, A1, A2, A3, A4, rfl, _, ⟨c0, c1, c2, c3, c4, c5⟩, _, _, _⟩ := (hl.below q).ps i hlt
          obtain ⟨g2, o2, B1, B2, rfl, _, d0, _, _, _⟩ := (hm.below q).lv k hlt2
          clear c0 c2 c3 c4 c5
          obtain ⟨bm, ebm⟩ : ∃ bm, bm = metP (lv.take k) l[i] := ⟨_, rfl⟩
          rw [← ebm] at hms
          rw [← ebm]
          clear ebm
          go_upto_region 9 with (fail)
          cases bm with
          | true =>
            go_quiet (fail)
            go_wp2_with fail
            go_roundw
            case rel => exact ⟨k + 1, by go_num, by omega, by rw [hms.out]; rfl, hO.below (Below.drewN (Below.refl _ _) _), Below.drewN q _⟩
            case measure => simp [intOf]; omega
          | false =>
            go_quiet (fail)
            go_wp2_with fail
            go_roundw
            case rel => exact ⟨k + 1, by go_num, by omega, by rw [hms.out, Bool.false_or], hO.below (Below.drewN (Below.refl _ _) _), Below.drewN q _⟩
            case measure => simp [intOf]; omega
        · obtain rfl : k = lv.length := by omega
          have dk : decide ((lv.length : Int) < (lv.length : Int)) = false := decide_eq_false (by omega)
          rw [List.take_length]
          obtain ⟨bm, ebm⟩ : ∃ bm, bm = metP lv l[i] := ⟨_, rfl⟩
          rw [← ebm] at hsn
          rw [← ebm]
          clear ebm
          cases bm with
          | false =>
            have hs2 := Lib.hid (show keepP (l.take (i + 1)) lv = xs by rw [hsn.out]; simp)
            clear hsn
            go_wp2_with fail
            go_roundw
            case rel => exact ⟨i + 1, ad, ko, by go_num, by omega, by rw [hs2.out], by rw [hs2.out]; exact hO, q⟩
            case measure => simp [intOf]; omega
          | true =>
            have hs2 := Lib.hid (show keepP (l.take (i + 1)) lv = xs ++ [l[i]] by rw [hsn.out]; simp)
            clear hsn
            obtain ⟨g1, o1, A1, A2, A3, A4, rfl, _, ⟨c0, c1, c2, c3, c4, c5⟩, hk1, hk2, hw64⟩ := (hl.below q).ps i hlt
            obtain ⟨x, ex⟩ : ∃ x, x = l[i] := ⟨_, rfl⟩
            rw [← ex] at hs2 hp c0 c1 c2 c3 c4 c5 hk1 hk2 hw64
            clear ex
            have hx : RdPs S wr (.agg #[.int .i64 x.snap, .int .i64 x.stamp, .bool x.held, .slice A1 x.reads.length A2, .slice A3 x.writes.length A4, .bool x.out]) x := ⟨_, _, _, _, rfl, hk1, hk2, hw64⟩
            clear hk1 hk2 hw64
            go_wp2_with fail
            refine (rCopyP_any wr hx hp.out).mono ?_
            rintro e w1 ⟨v, rfl, hv, hb⟩
            clear c0 c1 c2 c3 c4 c5 hx
            obtain ⟨us, rfl, hR, hus⟩ := hv.R
            have hown : ∀ k, Value.ownBlock (.slice ad xs.length ko) = some k → w.heap.size ≤ k ∧ k < wr.heap.size := fun k hk => hO.block_lt k hk
            replace hO := hO.below hb
            have q1 := q.trans (hb.mono q.size)
            have hs0 := hb.size
            have hqs := q.size
            go_wp2_with (first
              | (refine wpList_buildOne psP rfl rfl rfl rfl hus (by decide) (by decide) ?_; intro w2 hb2 hrow)
              | (refine wpList_apvRow (E := Elt.ps) (n := xs.length + 1) (S := fun k => wr.heap.size ≤ k ∧ k < w2.heap.size) psP rfl rfl rfl rfl (hO.below hb2) hrow (Elt.weak Elt.ps (Elt.below hR hb2) fun k hk => ⟨hk.1, Nat.lt_of_lt_of_le hk.2 hb2.size⟩) (fun k hk => ⟨by omega, hk.2, fun e => by have := hown k e.symm; omega⟩) (by have := hb2.size; omega) (by omega) rfl ?_; intro ad9 c9 w3 hO9 hg9 ho9)
              | fail)
            have q2 := q1.trans (hb2.mono q1.size)
            have q3 := q2.grown hg9 q2.size fun k hk => (hown k hk).1
            go_roundw
            case rel => exact ⟨i + 1, ad9, c9, by go_num, by omega, by rw [hs2.out, List.length_append]; rfl, by rw [hs2.out, List.length_append]; exact hO9, q3⟩
            case measure => simp [intOf]; omega
    · obtain rfl : i = l.length := by omega
      have di : decide ((l.length : Int) < (l.length : Int)) = false := decide_eq_false (by omega)
      rw [List.take_length] at hO
      rw [List.take_length]
      go_wp2_with fail
      go_ret
      exact ⟨_, _, rfl, hO, q⟩
end Go.Proofs.Ytobelnedhlepaaa
namespace Go.Proofs.Ytobelnedhlepaaa
def meetsP (s : Int) (l : List Ps) : List Ps := l.filter fun p => decide (s < p.stamp)
def badP (r : List Sp) (ws : List Wr) (p : Ps) : Bool := sameW p.writes ws || (hitL r p.writes && p.out)
def overP (r : List Sp) (p : Ps) : Bool := hitL r p.writes
def underP (ws : List Wr) (p : Ps) : Bool := hitL p.reads ws
def underL (ws : List Wr) (x : Lv) : Bool := hitL x.reads ws
def judgeM (r : List Sp) (ws : List Wr) (m : List Ps) (lv : List Lv) : Bool × Nat :=
  if m.any (badP r ws) = true then (false, 140) else if (m.any (overP r) && (m.any (underP ws) || lv.any (underL ws))) = true then (false, 140) else (m.any (overP r), 0)
def judgeP (me : Lv) (ws : List Wr) (l : List Ps) (lv : List Lv) : Bool × Nat := judgeM me.reads ws (meetsP me.snap l) lv
def edgeP (a b : Ps) : Bool := (sameW a.writes b.writes && decide (a.stamp < b.stamp)) || (hitL b.reads a.writes && decide (a.stamp ≤ b.snap)) || (hitL a.reads b.writes && decide (a.snap < b.stamp))
theorem meetsP_keep (s : Int) (r : List Sp) (l : List Ps) : keepP l [⟨s, r⟩] = meetsP s l := by
  unfold keepP meetsP metP
  congr 1
  funext p
  simp
theorem meetsP_twice (s : Int) (l : List Ps) : meetsP s (meetsP s l) = meetsP s l := by
  unfold meetsP
  rw [List.filter_filter]
  congr 1
  funext p
  simp
theorem judgeM_ok {r : List Sp} {ws : List Wr} {m : List Ps} {lv : List Lv} {o : Bool} (h : judgeM r ws m lv = (o, 0)) :
    (∀ p ∈ m, sameW p.writes ws = false ∧ (hitL r p.writes = true → p.out = false)) ∧ o = m.any (overP r) ∧ (o = true → ∀ p ∈ m, hitL p.reads ws = false) := by
  unfold judgeM at h
  split at h
  · cases h
  split at h
  · cases h
  rename_i h1 h2
  injection h with h3 _
  refine ⟨fun p hp => ?_, h3.symm, fun ho p hp => ?_⟩
  · have h4 : badP r ws p = false := by
      cases e : badP r ws p with
      | false => rfl
      | true => exact absurd (List.any_eq_true.2 ⟨p, hp, e⟩) h1
    unfold badP at h4
    rw [Bool.or_eq_false_iff, Bool.and_eq_false_iff] at h4
    refine ⟨h4.1, fun e => ?_⟩
    rcases h4.2 with h5 | h5
    · rw [e] at h5; cases h5
    · exact h5
  · rw [← h3] at ho
    cases e : hitL p.reads ws with
    | false => rfl
    | true =>
      refine absurd ?_ h2
      rw [ho, Bool.true_and, Bool.or_eq_true]
      exact .inl (List.any_eq_true.2 ⟨p, hp, e⟩)
def GoodP (P : List Ps) : Prop := ∀ i (h : i < P.length), P[i].stamp = (i : Int) + 1 ∧ P[i].snap ≤ (i : Int) ∧ (P[i].held = true → P[i].snap = (i : Int)) ∧ (P[i].held = false → ∃ lv, judgeP ⟨P[i].snap, P[i].reads⟩ P[i].writes (P.take i) lv = (P[i].out, 0))
theorem mem_meets {P : List Ps} {s : Int} {i j : Nat} (hi : i < P.length) (hj : j < i) (hs : s < P[j].stamp) : P[j] ∈ meetsP s (P.take i) := by
  unfold meetsP
  refine List.mem_filter.2 ⟨?_, by simpa using hs⟩
  rw [List.mem_take_iff_getElem]
  exact ⟨j, by omega, rfl⟩
theorem GoodP.free {P : List Ps} (hP : GoodP P) {U : Nat → Prop} {c : Nat} (hc : c < P.length) (hUc : U c) (hmin : ∀ k, k < c → ¬ U k) (hno : ∀ i (h : i < P.length), U i → ∃ k, ∃ hk : k < P.length, U k ∧ k ≠ i ∧ edgeP P[k] P[i] = true) : False := by
  obtain ⟨b, hb, hUb, hbc, he⟩ := hno c hc hUc
  have hcb : c < b := by
    rcases Nat.lt_trichotomy b c with h | h | h
    · exact absurd hUb (hmin b h)
    · exact absurd h hbc
    · exact h
  obtain ⟨sc, nc, _, _⟩ := hP c hc
  obtain ⟨sb, nb, gb, jb⟩ := hP b hb
  have he1 : hitL P[b].reads P[c].writes = true ∧ P[b].snap < P[c].stamp := by
    unfold edgeP at he
    simp only [Bool.or_eq_true, Bool.and_eq_true, decide_eq_true_eq] at he
    rcases he with (h | h) | h
    · have := h.2; omega
    · have := h.2; omega
    · exact h
  have hbh : P[b].held = false := by
    cases e : P[b].held with
    | false => rfl
    | true => have := gb e; have := he1.2; omega
  obtain ⟨lb, hjb⟩ := jb hbh
  obtain ⟨b1, b2, b3⟩ := judgeM_ok hjb
  have hob : P[b].out = true := by
    rw [b2]
    exact List.any_eq_true.2 ⟨P[c], mem_meets hb hcb he1.2, he1.1⟩
  obtain ⟨a, ha, hUa, hab, hf⟩ := hno b hb hUb
  have hca : c ≤ a := by
    rcases Nat.lt_or_ge a c with h | h
    · exact absurd hUa (hmin a h)
    · exact h
  obtain ⟨sa, na, ga, ja⟩ := hP a ha
  unfold edgeP at hf
  simp only [Bool.or_eq_true, Bool.and_eq_true, decide_eq_true_eq] at hf
  rcases hf with (h | h) | h
  · have := h.2
    have h5 := (b1 _ (mem_meets hb (j := a) (by omega) (by show P[b].snap < _; omega))).1
    rw [show sameW P[a].writes P[b].writes = true from h.1] at h5
    cases h5
  · have := h.2; omega
  · rcases Nat.lt_or_ge a b with h6 | h6
    · have h5 := b3 hob _ (mem_meets hb (j := a) h6 (by show P[b].snap < _; omega))
      rw [show hitL P[a].reads P[b].writes = true from h.1] at h5
      cases h5
    · have hba : b < a := by omega
      have hah : P[a].held = false := by
        cases e : P[a].held with
        | false => rfl
        | true => have := ga e; have := h.2; omega
      obtain ⟨la, hja⟩ := ja hah
      obtain ⟨a1, _, _⟩ := judgeM_ok hja
      have h5 := (a1 _ (mem_meets ha (j := b) hba (by show P[a].snap < _; exact h.2))).2 h.1
      rw [hob] at h5
      cases h5
theorem GoodP.next {P : List Ps} (hP : GoodP P) {U : Nat → Prop} (hU : ∃ i, i < P.length ∧ U i) : ∃ i, ∃ h : i < P.length, U i ∧ ∀ k (hk : k < P.length), U k → k ≠ i → edgeP P[k] P[i] = false := by
  apply Classical.byContradiction
  intro hno
  have hmin : ∃ c, c < P.length ∧ U c ∧ ∀ k, k < c → ¬ U k := by
    obtain ⟨i, hi, hu⟩ := hU
    induction i using Nat.strongRecOn with
    | _ i ih =>
      by_cases h : ∃ k, k < i ∧ U k
      · obtain ⟨k, hk, hu2⟩ := h
        exact ih k hk (by omega) hu2
      · exact ⟨i, hi, hu, fun k hk hu2 => h ⟨k, hk, hu2⟩⟩
  obtain ⟨c, hc, hUc, hm⟩ := hmin
  refine hP.free hc hUc hm fun i hi hu => ?_
  apply Classical.byContradiction
  intro h2
  refine hno ⟨i, hi, hu, fun k hk hku hne => ?_⟩
  cases e : edgeP P[k] P[i] with
  | false => rfl
  | true => exact absurd ⟨k, hk, hku, hne, e⟩ h2
theorem GoodP.snoc {P : List Ps} (hP : GoodP P) {x : Ps} (h1 : x.stamp = (P.length : Int) + 1) (h2 : x.snap ≤ (P.length : Int)) (h3 : x.held = true → x.snap = (P.length : Int)) (h4 : x.held = false → ∃ lv, judgeP ⟨x.snap, x.reads⟩ x.writes P lv = (x.out, 0)) : GoodP (P ++ [x]) := by
  intro i hi
  rw [List.length_append, List.length_singleton] at hi
  rcases Nat.lt_or_ge i P.length with h | h
  · rw [List.getElem_append_left h, List.take_append_of_le_length (by omega)]
    exact hP i h
  · obtain rfl : i = P.length := by omega
    rw [List.getElem_append_right (Nat.le_refl _), List.take_left' rfl]
    simp only [Nat.sub_self, List.getElem_cons_zero]
    exact ⟨h1, h2, h3, h4⟩
theorem GoodP.nil : GoodP [] := fun _ h => absurd h (Nat.not_lt_zero _)
theorem judgeM_more {r : List Sp} {ws : List Wr} {m : List Ps} {lv lv2 : List Lv} (h : (judgeM r ws m (lv ++ lv2)).2 = 0) : judgeM r ws m lv = judgeM r ws m (lv ++ lv2) := by
  unfold judgeM at h ⊢
  by_cases h1 : m.any (badP r ws) = true
  · rw [if_pos h1] at h; cases h
  · rw [if_neg h1] at h ⊢
    by_cases h2 : (m.any (overP r) && (m.any (underP ws) || (lv ++ lv2).any (underL ws))) = true
    · rw [if_pos h2] at h; cases h
    · rw [if_neg h1, if_neg h2, if_neg fun h3 => h2 ?_]
      rw [List.any_append]
      rw [Bool.and_eq_true, Bool.or_eq_true] at h3 ⊢
      exact ⟨h3.1, h3.2.imp id fun h => by rw [h]; rfl⟩
theorem judgeM_err {r : List Sp} {ws : List Wr} {m : List Ps} {lv : List Lv} (h : (judgeM r ws m lv).2 ≠ 0) : judgeM r ws m lv = (false, 140) := by
  unfold judgeM at h ⊢
  split
  · rfl
  · rename_i h1
    rw [if_neg h1] at h
    split
    · rfl
    · rename_i h2
      rw [if_neg h2] at h
      exact absurd rfl h
theorem judgeM_turn {r : List Sp} {ws : List Wr} {m m2 : List Ps} {lv : List Lv} (h : ∀ p, p ∈ m ↔ p ∈ m2) : judgeM r ws m lv = judgeM r ws m2 lv := by
  have ha : ∀ f : Ps → Bool, m.any f = m2.any f := fun f => by
    rw [Bool.eq_iff_iff, List.any_eq_true, List.any_eq_true]
    exact ⟨fun ⟨p, hp, e⟩ => ⟨p, (h p).1 hp, e⟩, fun ⟨p, hp, e⟩ => ⟨p, (h p).2 hp, e⟩⟩
  unfold judgeM
  rw [ha, ha, ha]
theorem judgeM_free {r : List Sp} {ws : List Wr} {m : List Ps} {lv : List Lv} (h : ∀ p ∈ m, hitL r p.writes = false ∧ sameW p.writes ws = false) : judgeM r ws m lv = (false, 0) := by
  have h1 : m.any (badP r ws) = false := List.any_eq_false.2 fun p hp => by
    obtain ⟨a, b⟩ := h p hp
    unfold badP
    rw [a, b]
    simp
  have h2 : m.any (overP r) = false := List.any_eq_false.2 fun p hp => by
    unfold overP
    rw [(h p hp).1]
    simp
  unfold judgeM
  rw [if_neg (by rw [h1]; simp), if_neg (by rw [h2]; simp), h2]
end Go.Proofs.Ytobelnedhlepaaa
namespace Go.Proofs.Ytobelnedhlepaaa
open Go.RowKit
theorem rd_row1 {α : Type} {E : Elt α} {S : Nat → Prop} {w : World} {b : Nat} {t : TypeId} {x : α} {us : List Value} (hrow : w.heap[b]? = some (.cells us.toArray t (0, 0))) (hS : S b) (hx : E.R S w x us) : RdL E S w (.slice (some ⟨b, 0, none⟩) 1 1) [x] :=
  ⟨_, 1, rfl, Nat.le_refl _, by unfold maxLen; omega, .inr ⟨b, 0, rfl, hS, fun r h => by
    match r, h with
    | 0, _ => exact ⟨us, hx, fun j u hj => by rw [World.cell?, show w.heap[(⟨b, 0 + 0 * E.size + j, none⟩ : Addr).block]? = some (.cells us.toArray t (0, 0)) from hrow]; simpa using hj⟩⟩⟩
theorem run_buildLv (w : World) (s : Int) : (Instr.build 24 #[(0, .int .i64 s)]).run Try.prog w = .ok (.agg #[.int .i64 s, .slice none 0 0]) w := by kernel_rfl
attribute [local go_sem] run_buildLv
set_option maxRecDepth 100000 in
set_option maxHeartbeats 8000000 in
theorem rMeets_any (w : World) {S : Nat → Prop} {a : Option Addr} {n cx : Nat} {l : List Ps} {s : Int} (hw : W64 s) (hl : RdL Elt.ps S w (.slice a n cx) l) (hsm : smPs l) :
    Calls Try.prog 16 #[.int .i64 s, .slice a n cx] w (PsEnd w (meetsP s l)) := by
  go_enter Try.func16, Try.ntmps16
  go_wp2_with (first | (refine wpList_buildOne (us := [.int .i64 s, .slice none 0 0]) lvP rfl rfl rfl rfl rfl (by decide) (by decide) ?_; intro w2 hb2 hrow) | fail)
  have hlv : RdL Elt.lv (fun _ => True) w2 (.slice (some ⟨w.heap.size, 0, none⟩) 1 1) [⟨s, []⟩] :=
    rd_row1 hrow trivial ⟨_, rfl, RdL.nil _ _ _, hw⟩
  refine (rKeepP_any w2 (hl.below hb2) hlv hsm).mono ?_
  rintro e w3 ⟨a3, c3, rfl, hO, hb⟩
  rw [meetsP_keep] at hO ⊢
  have hs := hb2.size
  go_wp2_with fail
  go_ret
  exact ⟨_, _, rfl, hO.to (by omega) (by omega), hb2.trans (hb.mono hs)⟩
end Go.Proofs.Ytobelnedhlepaaa
