/-
  TEXTS OF ONE PROOF, merged: SpD, SpG, Quo, Slg, SlSi.
-/
import Derived.Laws.Externs
import Derived.Lib.AppendZerosOnto
import Derived.Lib.Overlaps
import Derived.WalkMore
import Derived.Test.YtmcleffpjfeegaaRk3
namespace Go.Proofs.Ytmcleffpjfeegaa
open Go.RowKit Go.Shelf
theorem take_bothS {α : Type} {l m : List α} {i : Nat} (h1 : i < l.length) (h2 : i < m.length) (h : l.take i = m.take i) (e : l[i] = m[i]) : l.take (i + 1) = m.take (i + 1) := by
  rw [List.take_succ_eq_append_getElem h1, List.take_succ_eq_append_getElem h2, h, e]
set_option maxRecDepth 100000 in
set_option maxHeartbeats 4000000 in
theorem rCopy_any (w : World) {S : Nat → Prop} {a : Option Addr} {n c : Nat} {l : List Sp} (hl : RdL Elt.sp S w (.slice a n c) l) (hs : smL l) : Calls Try.prog 48 #[.slice a n c] w (SlEnd w l) := by
  obtain ⟨rfl, hnc, hcm⟩ := hl.len
  have hlm : l.length ≤ 9223372036854775807 := by unfold maxLen at hcm; omega
  obtain ⟨hs1, hs2⟩ := hs
  replace hl := hl.fit
  have q := Below.refl w.heap.size w
  go_enter Try.func48, Try.ntmps48
  go_upto_region 3 with (fail)
  go_loopw [3, 4] (fun ov iv wr => ∃ (i0 : Nat) (ad : Option Addr) (ko : Nat), iv = .int .i64 i0 ∧ i0 ≤ l.length ∧ ov = .slice ad (l.take i0).length ko ∧ OwnL Elt.sp 25 w.heap.size w.heap.size wr (.slice ad (l.take i0).length ko) (l.take i0) ∧ Below w.heap.size w wr)
    (fun _ i _ => l.length - (intOf i).toNat)
  case atStart => exact ⟨0, none, 0, rfl, Nat.zero_le _, rfl, OwnL.nil _ _ _ _ _, q⟩
  case round =>
    clear q
    obtain ⟨i0, ad, ko, rfl, hkl, rfl, hO, q⟩ := hrel
    rcases Nat.lt_or_ge i0 l.length with hlt | hge
    · obtain ⟨b, off, KA, KC, VA, VC, rfl, hb, c0, c1, c2, c3, hk1, hk2, ht⟩ := (hl.below q).sp i0 hlt
      obtain ⟨hx1, hx2⟩ := hs2 _ (List.getElem_mem hlt)
      have hsn := Lib.hid (show l.take (i0 + 1) = l.take i0 ++ [l[i0]] from List.take_succ_eq_append_getElem hlt)
      obtain ⟨x, ex⟩ : ∃ x, x = l[i0] := ⟨_, rfl⟩
      obtain ⟨xs, exs⟩ : ∃ xs, xs = l.take i0 := ⟨_, rfl⟩
      have hxl : xs.length ≤ 1000000 := by rw [exs, List.length_take]; omega
      rw [← ex] at c0 c1 c2 c3 hk1 hk2 ht hx1 hx2 hsn
      rw [← exs] at hO hsn
      rw [← exs]
      clear ex exs
      go_upto_region 5 with (fail)
      go_simp
      have hrr : ∀ k, Value.ownBlock (.slice ad xs.length ko) = some k → w.heap.size ≤ k ∧ k < wr.heap.size := fun k hk => hO.block_lt k hk
      have hrW : ∀ k, Value.ownBlock (.slice ad xs.length ko) = some k → k < wr.heap.size := fun k hk => (hrr k hk).2
      have hS : ∀ k, (fun _ => False) k → some k ≠ Value.ownBlock (.slice ad xs.length ko) := fun _ h => h.elim
      have hrS : ∀ k, Value.ownBlock (.slice ad xs.length ko) = some k → ¬ (S k ∧ k < w.heap.size) := fun k hk h2 => by have := hrr k hk; omega
      have hbW : b < wr.heap.size := cell_lt c0
      have hbr : some b ≠ Value.ownBlock (.slice ad xs.length ko) := fun e => by have := hrr b e.symm; have := hb.2; omega
      have hlo : w.heap.size ≤ wr.heap.size := q.size
      refine wp_region_lnl (K := fun A B => A.grownBy B (Value.ownBlock (.slice ad xs.length ko))) (by kernel_rfl) (by kernel_rfl) [27, 28] (by kernel_rfl) [lEq (.slice ad xs.length ko), lEq (.slice (some ⟨b, off, none⟩) l.length c), lEq (.int .i64 (i0 : Nat)), lEq (.pointer (some ⟨b, off + i0 * 4, none⟩)), lEq (.pointer (some ⟨b, off + i0 * 4 + 0, none⟩)), lEq (.int .i64 x.table), aZb 5 wr (Value.ownBlock (.slice ad xs.length ko)) hrW, lEq (.slice (some ⟨b, off, none⟩) l.length c), lEq (.int .i64 (i0 : Nat)), lEq (.pointer (some ⟨b, off + i0 * 4, none⟩)), lEq (.pointer (some ⟨b, off + i0 * 4 + 1, none⟩)), lEq (.slice KA x.lo.length KC), aRd (wr) (Value.ownBlock (.slice ad xs.length ko)) (fun _ => False) (x.lo) hrW hS, aZb 5 wr (Value.ownBlock (.slice ad xs.length ko)) hrW, lEq (.slice (some ⟨b, off, none⟩) l.length c), lEq (.int .i64 (i0 : Nat)), lEq (.pointer (some ⟨b, off + i0 * 4, none⟩)), lEq (.pointer (some ⟨b, off + i0 * 4 + 2, none⟩)), lEq (.slice VA x.hi.length VC), aRd (wr) (Value.ownBlock (.slice ad xs.length ko)) (fun _ => False) (x.hi) hrW hS, lEq (.slice (some ⟨b, off, none⟩) l.length c), lEq (.int .i64 (i0 : Nat)), lEq (.pointer (some ⟨b, off + i0 * 4, none⟩)), lEq (.pointer (some ⟨b, off + i0 * 4 + 3, none⟩)), lEq (.bool x.isOpen), aElt Elt.sp (wr) (Value.ownBlock (.slice ad xs.length ko)) (fun _ => False) (x) hrW hS, aRow Elt.sp 25 (wr) (Value.ownBlock (.slice ad xs.length ko)) (fun _ => False) (x) hrW hS, lAny, lAny] (ApJ Elt.sp 25 (w.heap.size) (w.heap.size) (Value.ownBlock (.slice ad xs.length ko)) (wr) (xs) [x]) ApJ.below (show Below (wr).heap.size (wr) (wr) from Below.refl _ _)
        ⟨?o0, ?o1, ?o2, ?o3, ?o4, ?o5, ?o6, ?o7, ?o8, ?o9, ?o10, ?o11, ?o12, ?o13, ?o14, ?o15, ?o16, ?o17, ?o18, ?o19, ?o20, ?o21, ?o22, ?o23, ?o24, ?o25, ?o26, ?o27, ?o28, trivial⟩ ?fin
      case o0 =>
        refine LnOp.side rfl (by kernel_rfl) (fun A va w' k hF hT hk hJ hb hu hp hd => ?_)
        have e1 : A.eval (.tmp 3) = .slice ad xs.length ko := (hT 3 28 (by simp) rfl).trans (hu 1 28 3 (hb 1 28 rfl (by kernel_rfl)) rfl rfl)
        exact BigFrame.wp_move _ rfl ⟨_, rfl, e1, Below.refl _ _⟩
      case o1 =>
        refine LnOp.side rfl (by kernel_rfl) (fun A va w' k hF hT hk hJ hb hu hp hd => ?_)
        have e1 : A.eval (.tmp 0) = .slice (some ⟨b, off, none⟩) l.length c := hF 0 rfl
        exact BigFrame.wp_move _ rfl ⟨_, rfl, e1, Below.refl _ _⟩
      case o2 =>
        refine LnOp.side rfl (by kernel_rfl) (fun A va w' k hF hT hk hJ hb hu hp hd => ?_)
        have e1 : A.eval (.tmp 4) = .int .i64 (i0 : Nat) := hF 4 rfl
        exact BigFrame.wp_move _ rfl ⟨_, rfl, e1, Below.refl _ _⟩
      case o3 =>
        refine LnOp.side rfl (by kernel_rfl) (fun A va w' k hF hT hk hJ hb hu hp hd => ?_)
        have e1 : A.eval (.tmp 12) = .slice (some ⟨b, off, none⟩) l.length c := (hT 12 1 (by simp) rfl).trans (hd ⟨1, .data⟩ (by simp) rfl rfl)
        have e2 : A.eval (.tmp 13) = .int .i64 (i0 : Nat) := (hT 13 2 (by simp) rfl).trans (hd ⟨2, .data⟩ (by simp) rfl rfl)
        exact wp_ixN (e := 25) rfl (by kernel_rfl) (by kernel_rfl) (e1) (e2) rfl (by omega) ⟨_, rfl, rfl, Below.refl _ _⟩
      case o4 =>
        refine LnOp.side rfl (by kernel_rfl) (fun A va w' k hF hT hk hJ hb hu hp hd => ?_)
        have e1 : A.eval (.tmp 14) = .pointer (some ⟨b, off + i0 * 4, none⟩) := (hT 14 3 (by simp) rfl).trans (hd ⟨3, .data⟩ (by simp) rfl rfl)
        exact wp_fieldN spS rfl (e1) (by omega) ⟨_, rfl, rfl, Below.refl _ _⟩
      case o5 =>
        refine LnOp.side rfl (by kernel_rfl) (fun A va w' k hF hT hk hJ hb hu hp hd => ?_)
        have e1 : A.eval (.tmp 15) = .pointer (some ⟨b, off + i0 * 4 + 0, none⟩) := (hT 15 4 (by simp) rfl).trans (hd ⟨4, .data⟩ (by simp) rfl rfl)
        have hJg : (wr).grownBy w' (Value.ownBlock (.slice ad xs.length ko)) := ApJ.grown hJ
        have c9 := (cell_keep (hJg.block b hbW hbr) _).trans c0
        exact wp_ld_int (k := .i64) rfl e1 (by kernel_rfl) c9 ⟨_, rfl, rfl, Below.refl _ _⟩
      case o6 =>
        refine LnOp.side rfl (by kernel_rfl) (fun A va w' k hF hT hk hJ hb hu hp hd => ?_)
        have hJg : (wr).grownBy w' (Value.ownBlock (.slice ad xs.length ko)) := ApJ.grown hJ
        exact wp_buildZ byP rfl (fun w2 hf => ⟨_, rfl, ⟨_, rfl, hf.2.to hJg.size⟩, hf.1⟩)
      case o7 =>
        refine LnOp.side rfl (by kernel_rfl) (fun A va w' k hF hT hk hJ hb hu hp hd => ?_)
        have e1 : A.eval (.tmp 0) = .slice (some ⟨b, off, none⟩) l.length c := hF 0 rfl
        exact BigFrame.wp_move _ rfl ⟨_, rfl, e1, Below.refl _ _⟩
      case o8 =>
        refine LnOp.side rfl (by kernel_rfl) (fun A va w' k hF hT hk hJ hb hu hp hd => ?_)
        have e1 : A.eval (.tmp 4) = .int .i64 (i0 : Nat) := hF 4 rfl
        exact BigFrame.wp_move _ rfl ⟨_, rfl, e1, Below.refl _ _⟩
      case o9 =>
        refine LnOp.side rfl (by kernel_rfl) (fun A va w' k hF hT hk hJ hb hu hp hd => ?_)
        have e1 : A.eval (.tmp 18) = .slice (some ⟨b, off, none⟩) l.length c := (hT 18 7 (by simp) rfl).trans (hd ⟨7, .data⟩ (by simp) rfl rfl)
        have e2 : A.eval (.tmp 19) = .int .i64 (i0 : Nat) := (hT 19 8 (by simp) rfl).trans (hd ⟨8, .data⟩ (by simp) rfl rfl)
        exact wp_ixN (e := 25) rfl (by kernel_rfl) (by kernel_rfl) (e1) (e2) rfl (by omega) ⟨_, rfl, rfl, Below.refl _ _⟩
      case o10 =>
        refine LnOp.side rfl (by kernel_rfl) (fun A va w' k hF hT hk hJ hb hu hp hd => ?_)
        have e1 : A.eval (.tmp 20) = .pointer (some ⟨b, off + i0 * 4, none⟩) := (hT 20 9 (by simp) rfl).trans (hd ⟨9, .data⟩ (by simp) rfl rfl)
        exact wp_fieldN spS rfl (e1) (by omega) ⟨_, rfl, rfl, Below.refl _ _⟩
      case o11 =>
        refine LnOp.side rfl (by kernel_rfl) (fun A va w' k hF hT hk hJ hb hu hp hd => ?_)
        have e1 : A.eval (.tmp 21) = .pointer (some ⟨b, off + i0 * 4 + 1, none⟩) := (hT 21 10 (by simp) rfl).trans (hd ⟨10, .data⟩ (by simp) rfl rfl)
        have hJg : (wr).grownBy w' (Value.ownBlock (.slice ad xs.length ko)) := ApJ.grown hJ
        have c9 := (cell_keep (hJg.block b hbW hbr) _).trans c1
        exact wp_ld_slice (e := 5) rfl e1 (by kernel_rfl) c9 ⟨_, rfl, rfl, Below.refl _ _⟩
      case o12 =>
        refine LnOp.side rfl (by kernel_rfl) (fun A va w' k hF hT hk hJ hb hu hp hd => ?_)
        have x1 : A.eval (.tmp 17) = va 6 := hT 17 6 (by simp) rfl
        have y1 := hd ⟨6, .data⟩ (by simp) rfl rfl
        have e2 : A.eval (.tmp 22) = .slice KA x.lo.length KC := (hT 22 11 (by simp) rfl).trans (hd ⟨11, .data⟩ (by simp) rfl rfl)
        have hJg : (wr).grownBy w' (Value.ownBlock (.slice ad xs.length ko)) := ApJ.grown hJ
        obtain ⟨g0, eg, hO0⟩ : ∃ g, va 6 = .slice (some g) 0 0 ∧ Own 5 wr.heap.size w' (va 6) [] := y1
        refine wp_append_zero byP rfl (x1.trans eg) (by rw [← eg]; exact hO0) e2 (hk1.grownR hJg hrS).rd hJg.size (fun ad7 k7 c7 w2 hO2 hb2 => ?_) (by omega)
        obtain rfl : k7 = x.lo.length := hO2.len
        exact ⟨_, rfl, hO2.rdS.weak (fun k hk => ⟨.inr hk.1, hk.2⟩), hb2⟩
      case o13 =>
        refine LnOp.side rfl (by kernel_rfl) (fun A va w' k hF hT hk hJ hb hu hp hd => ?_)
        have hJg : (wr).grownBy w' (Value.ownBlock (.slice ad xs.length ko)) := ApJ.grown hJ
        exact wp_buildZ byP rfl (fun w2 hf => ⟨_, rfl, ⟨_, rfl, hf.2.to hJg.size⟩, hf.1⟩)
      case o14 =>
        refine LnOp.side rfl (by kernel_rfl) (fun A va w' k hF hT hk hJ hb hu hp hd => ?_)
        have e1 : A.eval (.tmp 0) = .slice (some ⟨b, off, none⟩) l.length c := hF 0 rfl
        exact BigFrame.wp_move _ rfl ⟨_, rfl, e1, Below.refl _ _⟩
      case o15 =>
        refine LnOp.side rfl (by kernel_rfl) (fun A va w' k hF hT hk hJ hb hu hp hd => ?_)
        have e1 : A.eval (.tmp 4) = .int .i64 (i0 : Nat) := hF 4 rfl
        exact BigFrame.wp_move _ rfl ⟨_, rfl, e1, Below.refl _ _⟩
      case o16 =>
        refine LnOp.side rfl (by kernel_rfl) (fun A va w' k hF hT hk hJ hb hu hp hd => ?_)
        have e1 : A.eval (.tmp 25) = .slice (some ⟨b, off, none⟩) l.length c := (hT 25 14 (by simp) rfl).trans (hd ⟨14, .data⟩ (by simp) rfl rfl)
        have e2 : A.eval (.tmp 26) = .int .i64 (i0 : Nat) := (hT 26 15 (by simp) rfl).trans (hd ⟨15, .data⟩ (by simp) rfl rfl)
        exact wp_ixN (e := 25) rfl (by kernel_rfl) (by kernel_rfl) (e1) (e2) rfl (by omega) ⟨_, rfl, rfl, Below.refl _ _⟩
      case o17 =>
        refine LnOp.side rfl (by kernel_rfl) (fun A va w' k hF hT hk hJ hb hu hp hd => ?_)
        have e1 : A.eval (.tmp 27) = .pointer (some ⟨b, off + i0 * 4, none⟩) := (hT 27 16 (by simp) rfl).trans (hd ⟨16, .data⟩ (by simp) rfl rfl)
        exact wp_fieldN spS rfl (e1) (by omega) ⟨_, rfl, rfl, Below.refl _ _⟩
      case o18 =>
        refine LnOp.side rfl (by kernel_rfl) (fun A va w' k hF hT hk hJ hb hu hp hd => ?_)
        have e1 : A.eval (.tmp 28) = .pointer (some ⟨b, off + i0 * 4 + 2, none⟩) := (hT 28 17 (by simp) rfl).trans (hd ⟨17, .data⟩ (by simp) rfl rfl)
        have hJg : (wr).grownBy w' (Value.ownBlock (.slice ad xs.length ko)) := ApJ.grown hJ
        have c9 := (cell_keep (hJg.block b hbW hbr) _).trans c2
        exact wp_ld_slice (e := 5) rfl e1 (by kernel_rfl) c9 ⟨_, rfl, rfl, Below.refl _ _⟩
      case o19 =>
        refine LnOp.side rfl (by kernel_rfl) (fun A va w' k hF hT hk hJ hb hu hp hd => ?_)
        have x1 : A.eval (.tmp 24) = va 13 := hT 24 13 (by simp) rfl
        have y1 := hd ⟨13, .data⟩ (by simp) rfl rfl
        have e2 : A.eval (.tmp 29) = .slice VA x.hi.length VC := (hT 29 18 (by simp) rfl).trans (hd ⟨18, .data⟩ (by simp) rfl rfl)
        have hJg : (wr).grownBy w' (Value.ownBlock (.slice ad xs.length ko)) := ApJ.grown hJ
        obtain ⟨g0, eg, hO0⟩ : ∃ g, va 13 = .slice (some g) 0 0 ∧ Own 5 wr.heap.size w' (va 13) [] := y1
        refine wp_append_zero byP rfl (x1.trans eg) (by rw [← eg]; exact hO0) e2 (hk2.grownR hJg hrS).rd hJg.size (fun ad7 k7 c7 w2 hO2 hb2 => ?_) (by omega)
        obtain rfl : k7 = x.hi.length := hO2.len
        exact ⟨_, rfl, hO2.rdS.weak (fun k hk => ⟨.inr hk.1, hk.2⟩), hb2⟩
      case o20 =>
        refine LnOp.side rfl (by kernel_rfl) (fun A va w' k hF hT hk hJ hb hu hp hd => ?_)
        have e1 : A.eval (.tmp 0) = .slice (some ⟨b, off, none⟩) l.length c := hF 0 rfl
        exact BigFrame.wp_move _ rfl ⟨_, rfl, e1, Below.refl _ _⟩
      case o21 =>
        refine LnOp.side rfl (by kernel_rfl) (fun A va w' k hF hT hk hJ hb hu hp hd => ?_)
        have e1 : A.eval (.tmp 4) = .int .i64 (i0 : Nat) := hF 4 rfl
        exact BigFrame.wp_move _ rfl ⟨_, rfl, e1, Below.refl _ _⟩
      case o22 =>
        refine LnOp.side rfl (by kernel_rfl) (fun A va w' k hF hT hk hJ hb hu hp hd => ?_)
        have e1 : A.eval (.tmp 31) = .slice (some ⟨b, off, none⟩) l.length c := (hT 31 20 (by simp) rfl).trans (hd ⟨20, .data⟩ (by simp) rfl rfl)
        have e2 : A.eval (.tmp 32) = .int .i64 (i0 : Nat) := (hT 32 21 (by simp) rfl).trans (hd ⟨21, .data⟩ (by simp) rfl rfl)
        exact wp_ixN (e := 25) rfl (by kernel_rfl) (by kernel_rfl) (e1) (e2) rfl (by omega) ⟨_, rfl, rfl, Below.refl _ _⟩
      case o23 =>
        refine LnOp.side rfl (by kernel_rfl) (fun A va w' k hF hT hk hJ hb hu hp hd => ?_)
        have e1 : A.eval (.tmp 33) = .pointer (some ⟨b, off + i0 * 4, none⟩) := (hT 33 22 (by simp) rfl).trans (hd ⟨22, .data⟩ (by simp) rfl rfl)
        exact wp_fieldN spS rfl (e1) (by omega) ⟨_, rfl, rfl, Below.refl _ _⟩
      case o24 =>
        refine LnOp.side rfl (by kernel_rfl) (fun A va w' k hF hT hk hJ hb hu hp hd => ?_)
        have e1 : A.eval (.tmp 34) = .pointer (some ⟨b, off + i0 * 4 + 3, none⟩) := (hT 34 23 (by simp) rfl).trans (hd ⟨23, .data⟩ (by simp) rfl rfl)
        have hJg : (wr).grownBy w' (Value.ownBlock (.slice ad xs.length ko)) := ApJ.grown hJ
        have c9 := (cell_keep (hJg.block b hbW hbr) _).trans c3
        exact wp_ld_bool rfl e1 (by kernel_rfl) c9 ⟨_, rfl, rfl, Below.refl _ _⟩
      case o25 =>
        refine LnOp.side rfl (by kernel_rfl) (fun A va w' k hF hT hk hJ hb hu hp hd => ?_)
        have e1 : A.eval (.tmp 16) = .int .i64 x.table := (hT 16 5 (by simp) rfl).trans (hd ⟨5, .data⟩ (by simp) rfl rfl)
        have x2 : A.eval (.tmp 23) = va 12 := hT 23 12 (by simp) rfl
        have y2 := hd ⟨12, .data⟩ (by simp) rfl rfl
        have x3 : A.eval (.tmp 30) = va 19 := hT 30 19 (by simp) rfl
        have y3 := hd ⟨19, .data⟩ (by simp) rfl rfl
        have e4 : A.eval (.tmp 35) = .bool x.isOpen := (hT 35 24 (by simp) rfl).trans (hd ⟨24, .data⟩ (by simp) rfl rfl)
        have z2 : RdS (inNew (fun _ => False) (wr) w') w' (va 12) (x.lo) := y2
        have z3 : RdS (inNew (fun _ => False) (wr) w') w' (va 19) (x.hi) := y3
        obtain ⟨A1, C1, q1, _, _⟩ := z2.shape
        obtain ⟨A2, C2, q2, _, _⟩ := z3.shape
        exact wp_build4 spS rfl e1 (x2.trans q1) (x3.trans q2) e4 rfl rfl rfl rfl ⟨_, rfl, ⟨_, rfl, _, _, rfl, q1 ▸ z2, q2 ▸ z3, ht⟩, Below.refl _ _⟩
      case o26 =>
        refine LnOp.side rfl (by kernel_rfl) (fun A va w' k hF hT hk hJ hb hu hp hd => ?_)
        have x1 : A.eval (.tmp 36) = va 25 := hT 36 25 (by simp) rfl
        have y1 := hd ⟨25, .data⟩ (by simp) rfl rfl
        obtain rfl : k = 0 := by have := hb 0 27 rfl (by kernel_rfl); omega
        have hJ0 : Below (wr).heap.size (wr) w' := hJ
        obtain ⟨us, eus, hR⟩ : ∃ us : List Value, (va 25).cells = us.toArray ∧ Elt.R Elt.sp (inNew (fun _ => False) (wr) w') w' (x) us := y1
        exact wp_buildOne spP rfl x1 eus (Elt.len _ hR) (by decide) (by decide) ⟨_, rfl, aRow.mk (hr := hrW) (hS := hS) hJ0.size hR, (Below.refl _ _).alloc (Nat.le_refl _) _⟩
      case o27 =>
        refine LnOp.line 0 rfl rfl (fun A va w' hF hT hJ hu hd => ?_)
        have e1 : A.eval (.tmp 11) = .slice ad xs.length ko := (hT 11 0 (by simp) rfl).trans (hd ⟨0, .data⟩ (by simp) rfl rfl)
        have x2 : A.eval (.tmp 37) = va 26 := hT 37 26 (by simp) rfl
        have y2 := hd ⟨26, .data⟩ (by simp) rfl rfl
        exact wp_apv (hr := hrW) (hS := hS) spP hJ rfl e1 x2 hO rfl y2 (fun _ h => h.elim) hlo hlo (by omega) (fun v' V' h1 h2 => ⟨_, rfl, h1, h2⟩)
      case o28 =>
        refine LnOp.line 1 rfl rfl (fun A va w' hF hT hJ hu hd => ?_)
        have x1 : A.eval (.tmp 38) = va 27 := hT 38 27 (by simp) rfl
        have hJ' : ApJ Elt.sp 25 (w.heap.size) (w.heap.size) (Value.ownBlock (.slice ad xs.length ko)) (wr) (xs) [x] [va 27, A.eval (.tmp 38)] w' := ⟨fun u hu => by obtain rfl := List.mem_singleton.1 hu; exact x1, hJ.2⟩
        exact BigFrame.wp_assign _ rfl ⟨_, rfl, hJ', grownB (Below.refl _ _) _⟩
      case fin =>
        intro vs1 W9 hJ hG
        obtain ⟨hsame, hg9, ad9, c9, e9, hO9⟩ := hJ
        have ea := hsame _ (List.mem_singleton.2 rfl)
        obtain ⟨L9, hL9⟩ : ∃ L9, L9 = (xs ++ [x]).length := ⟨_, rfl⟩
        rw [← hL9] at e9 hO9
        replace hL9 := Lib.hid hL9
        have g0 : vs1 0 = .slice ad xs.length ko := hG 0 (by decide) rfl
        have g1 : vs1 1 = .slice (some ⟨b, off, none⟩) l.length c := hG 1 (by decide) rfl
        have g2 : vs1 2 = .int .i64 (i0 : Nat) := hG 2 (by decide) rfl
        have g3 : vs1 3 = .pointer (some ⟨b, off + i0 * 4, none⟩) := hG 3 (by decide) rfl
        have g4 : vs1 4 = .pointer (some ⟨b, off + i0 * 4 + 0, none⟩) := hG 4 (by decide) rfl
        have g5 : vs1 5 = .int .i64 x.table := hG 5 (by decide) rfl
        have g7 : vs1 7 = .slice (some ⟨b, off, none⟩) l.length c := hG 7 (by decide) rfl
        have g8 : vs1 8 = .int .i64 (i0 : Nat) := hG 8 (by decide) rfl
        have g9 : vs1 9 = .pointer (some ⟨b, off + i0 * 4, none⟩) := hG 9 (by decide) rfl
        have g10 : vs1 10 = .pointer (some ⟨b, off + i0 * 4 + 1, none⟩) := hG 10 (by decide) rfl
        have g11 : vs1 11 = .slice KA x.lo.length KC := hG 11 (by decide) rfl
        have g14 : vs1 14 = .slice (some ⟨b, off, none⟩) l.length c := hG 14 (by decide) rfl
        have g15 : vs1 15 = .int .i64 (i0 : Nat) := hG 15 (by decide) rfl
        have g16 : vs1 16 = .pointer (some ⟨b, off + i0 * 4, none⟩) := hG 16 (by decide) rfl
        have g17 : vs1 17 = .pointer (some ⟨b, off + i0 * 4 + 2, none⟩) := hG 17 (by decide) rfl
        have g18 : vs1 18 = .slice VA x.hi.length VC := hG 18 (by decide) rfl
        have g20 : vs1 20 = .slice (some ⟨b, off, none⟩) l.length c := hG 20 (by decide) rfl
        have g21 : vs1 21 = .int .i64 (i0 : Nat) := hG 21 (by decide) rfl
        have g22 : vs1 22 = .pointer (some ⟨b, off + i0 * 4, none⟩) := hG 22 (by decide) rfl
        have g23 : vs1 23 = .pointer (some ⟨b, off + i0 * 4 + 3, none⟩) := hG 23 (by decide) rfl
        have g24 : vs1 24 = .bool x.isOpen := hG 24 (by decide) rfl
        clear hG hsame
        simp only [putAll, ea, e9, g0, g1, g2, g3, g4, g5, g7, g8, g9, g10, g11, g14, g15, g16, g17, g18, g20, g21, g22, g23, g24]
        clear ea e9 g0 g1 g2 g3 g4 g5 g7 g8 g9 g10 g11 g14 g15 g16 g17 g18 g20 g21 g22 g23 g24
        go_simp
        have q9 : Below w.heap.size w W9 := q.grown hg9 q.size fun k hk => (hrr k hk).1
        clear hO hk1 hk2 hg9 q
        go_wp2_with fail
        go_roundw
        case rel =>
          have e := hL9.out
          rw [← hsn.out] at e hO9
          subst e
          exact ⟨i0 + 1, ad9, c9, by go_num, by omega, rfl, hO9, q9⟩
        case measure => simp [intOf]; omega
    · obtain rfl : i0 = l.length := by omega
      rw [List.take_length] at hO
      rw [List.take_length]
      go_wp2_with fail
      go_ret
      exact ⟨_, _, rfl, hO, q⟩
set_option maxRecDepth 100000 in
set_option maxHeartbeats 4000000 in
theorem copied_any (w : World) {S : Nat → Prop} {a : Option Addr} {n c : Nat} {l : List Sp} (hl : RdL Elt.sp S w (.slice a n c) l) (hs : smL l) : Calls Try.prog 43 #[.slice a n c] w (SlEnd w l) := by
  obtain ⟨rfl, hnc, hcm⟩ := hl.len
  have hlm : l.length ≤ 9223372036854775807 := by unfold maxLen at hcm; omega
  obtain ⟨hs1, hs2⟩ := hs
  replace hl := hl.fit
  have q := Below.refl w.heap.size w
  go_enter Try.func43, Try.ntmps43
  go_upto_region 3 with (fail)
  go_loopw [3, 8] (fun ov iv wr => ∃ (i0 : Nat) (ad : Option Addr) (ko : Nat), iv = .int .i64 i0 ∧ i0 ≤ l.length ∧ ov = .slice ad (l.take i0).length ko ∧ OwnL Elt.sp 25 w.heap.size w.heap.size wr (.slice ad (l.take i0).length ko) (l.take i0) ∧ Below w.heap.size w wr)
    (fun _ i _ => l.length - (intOf i).toNat)
  case atStart => exact ⟨0, none, 0, rfl, Nat.zero_le _, rfl, OwnL.nil _ _ _ _ _, q⟩
  case round =>
    clear q
    obtain ⟨i0, ad, ko, rfl, hkl, rfl, hO, q⟩ := hrel
    rcases Nat.lt_or_ge i0 l.length with hlt | hge
    · obtain ⟨b, off, KA, KC, VA, VC, rfl, hb, c0, c1, c2, c3, hk1, hk2, ht⟩ := (hl.below q).sp i0 hlt
      obtain ⟨hx1, hx2⟩ := hs2 _ (List.getElem_mem hlt)
      have hsn := Lib.hid (show l.take (i0 + 1) = l.take i0 ++ [l[i0]] from List.take_succ_eq_append_getElem hlt)
      obtain ⟨x, ex⟩ : ∃ x, x = l[i0] := ⟨_, rfl⟩
      obtain ⟨xs, exs⟩ : ∃ xs, xs = l.take i0 := ⟨_, rfl⟩
      have hxl : xs.length ≤ 1000000 := by rw [exs, List.length_take]; omega
      rw [← ex] at c0 c1 c2 c3 hk1 hk2 ht hx1 hx2 hsn
      rw [← exs] at hO hsn
      rw [← exs]
      clear ex exs
      go_upto_region 5 with (first | (refine wpList_boxNew (vs := [.int .i64 0, .slice none 0 0, .slice none 0 0, .bool false]) (by kernel_rfl) rfl rfl ?_; intro wa hba hBa) | (refine wpList_boxStore (us := [.int .i64 x.table, .slice KA x.lo.length KC, .slice VA x.hi.length VC, .bool x.isOpen]) (by kernel_rfl) rfl rfl rfl rfl rfl rfl hBa rfl ?_; intro W hgw hXW) | fail)
      go_simp
      have hbw : Below wr.heap.size wr W := hba.grown hgw hba.size fun k hk => by injection hk with hk; omega
      have qW := q.trans (hbw.mono q.size)
      have hrr : ∀ k, Value.ownBlock (.slice ad xs.length ko) = some k → w.heap.size ≤ k ∧ k < wr.heap.size := fun k hk => hO.block_lt k hk
      have hx : RdSp (fun k => S k ∧ k < w.heap.size) W (.agg #[.int .i64 x.table, .slice KA x.lo.length KC, .slice VA x.hi.length VC, .bool x.isOpen]) x := ⟨_, _, _, _, rfl, hk1.below hbw, hk2.below hbw, ht⟩
      replace hO := hO.below hbw
      have zw := hbw.size
      clear c0 c1 c2 c3 hba hBa hgw hbw q hk1 hk2 hb
      have f0 := hXW.cell (i := 0) rfl
      have f1 := hXW.cell (i := 1) rfl
      have f2 := hXW.cell (i := 2) rfl
      have f3 := hXW.cell (i := 3) rfl
      go_wp2_with fail
      refine (sAlone_any W hx hx1 hx2).mono ?_
      rintro e w3 ⟨v2, rfl, ⟨ka, kc, va, vc, rfl, hk3, hv3, ht3⟩, hb3⟩
      have q3 := qW.trans (hb3.mono qW.size)
      have hO3 := hO.below hb3
      have hR : Elt.sp.R (fun k => W.heap.size ≤ k ∧ k < w3.heap.size) w3 x (spC x (.slice ka x.lo.length kc) (.slice va x.hi.length vc)) := ⟨_, _, rfl, hk3, hv3, ht3⟩
      have z3 := hb3.size
      have zq := qW.size
      clear f0 f1 f2 f3 hx hXW qW hb3 hO
      go_wp2_with (first
        | (refine wpList_buildOne spP rfl rfl rfl (us := spC x (.slice ka x.lo.length kc) (.slice va x.hi.length vc)) rfl rfl (by decide) (by decide) ?_; intro w4 hb4 hrow)
        | (refine wpList_apvRow (E := Elt.sp) (n := xs.length + 1) spP rfl rfl rfl rfl (hO3.below hb4) hrow (Elt.below hR hb4) (fun k hk => ⟨by omega, Nat.lt_of_lt_of_le hk.2 hb4.size, fun e => by have := hrr k e.symm; omega⟩) (by have := hb4.size; omega) (by omega) rfl ?_; intro ad9 c9 w5 hO9 hg5 _)
        | fail)
      have q4 := q3.trans (hb4.mono q3.size)
      have q9 := q4.grown hg5 q4.size fun k hk => (hrr k hk).1
      have hL9 := Lib.hid (show xs.length + 1 = (xs ++ [x]).length by simp)
      clear hO3 hR hk3 hv3 q3 q4 hg5 hrow hb4
      go_roundw
      case rel =>
        have e := hL9.out
        rw [e] at hO9
        rw [← hsn.out] at e hO9
        rw [e]
        exact ⟨i0 + 1, ad9, c9, by go_num, by omega, rfl, hO9, q9⟩
      case measure => simp [intOf]; omega
    · obtain rfl : i0 = l.length := by omega
      rw [List.take_length] at hO
      rw [List.take_length]
      go_wp2_with fail
      go_ret
      exact ⟨_, _, rfl, hO, q⟩
set_option maxRecDepth 100000 in
set_option maxHeartbeats 4000000 in
theorem rMay_any (w : World) {S : Nat → Prop} {a : Option Addr} {n c : Nat} {l : List Sp} (hl : RdL Elt.sp S w (.slice a n c) l) :
    Calls Try.prog 47 #[.slice a n c] w fun e w' => e = .returned (.bool (decide (∀ x ∈ l, mayS x))) ∧ Below w.heap.size w w' := by
  obtain ⟨rfl, hnc, hcm⟩ := hl.len
  have hlm : l.length ≤ 9223372036854775807 := by unfold maxLen at hcm; omega
  have q := Below.refl w.heap.size w
  go_enter Try.func47, Try.ntmps47
  go_upto_region 2 with (fail)
  go_loopw [3] (fun iv wr => ∃ (k : Nat), iv = .int .i64 k ∧ k ≤ l.length ∧ (∀ x ∈ l.take k, mayS x) ∧ Below w.heap.size w wr)
    (fun i _ => l.length - (intOf i).toNat)
  case atStart => exact ⟨0, rfl, Nat.zero_le _, by simp, q⟩
  case round =>
    clear q
    obtain ⟨k, rfl, hkl, hall, q⟩ := hrel
    rcases Nat.lt_or_ge k l.length with hlt | hge
    · obtain ⟨b, off, A, C, A2, C2, rfl, hb, c0, c1, c2, c3, hk1, hk2, hw64⟩ := (hl.below q).sp k hlt
      have hw : RdSp S wr (.agg #[.int .i64 l[k].table, .slice A l[k].lo.length C, .slice A2 l[k].hi.length C2, .bool l[k].isOpen]) l[k] := ⟨A, C, A2, C2, rfl, hk1, hk2, hw64⟩
      go_upto_region 4 with (fail)
      go_wp2_with fail
      refine (rCheck_any wr hw).mono ?_
      rintro e w1 ⟨rfl, hb1⟩
      replace q := q.trans (hb1.mono q.size)
      clear c0 c1 c2 c3 hk1 hk2 hw
      by_cases hm : mayS l[k]
      · have hall2 : ∀ x ∈ l.take (k + 1), mayS x := fun x hx => by
          rw [List.take_succ_eq_append_getElem hlt] at hx
          rcases List.mem_append.1 hx with h | h
          · exact hall x h
          · simp at h; rw [h]; exact hm
        rw [decide_eq_true hm]
        clear hall hm
        go_wp2_with fail
        go_roundw
        case rel => exact ⟨k + 1, by go_num, by omega, hall2, q⟩
        case measure => simp [intOf]; omega
      · rw [decide_eq_false hm]
        have hno := Lib.hid (show decide (∀ x ∈ l, mayS x) = false from decide_eq_false fun h => hm (h _ (List.getElem_mem hlt)))
        clear hall hm
        go_wp2_with fail
        go_ret
        exact ⟨by first | (rw [hno.out]; done) | (rw [hno.out]; rfl), q⟩
    · obtain rfl : k = l.length := by omega
      rw [List.take_length] at hall
      have hno := Lib.hid (show decide (∀ x ∈ l, mayS x) = true from decide_eq_true hall)
      clear hall
      go_wp2_with fail
      go_ret
      exact ⟨by first | (rw [hno.out]; done) | (rw [hno.out]; rfl), q⟩
set_option maxRecDepth 100000 in
set_option maxHeartbeats 4000000 in
theorem rFew_any (w : World) {S : Nat → Prop} {a : Option Addr} {n c : Nat} {l : List Sp} (hl : RdL Elt.sp S w (.slice a n c) l) :
    Calls Try.prog 22 #[.slice a n c] w fun e w' => e = .returned (.bool (decide (fewS l))) ∧ Below w.heap.size w w' := by
  obtain ⟨rfl, hnc, hcm⟩ := hl.len
  have hlm : l.length ≤ 9223372036854775807 := by unfold maxLen at hcm; omega
  have q := Below.refl w.heap.size w
  go_enter Try.func22, Try.ntmps22
  rcases Nat.lt_or_ge 100 l.length with h1 | h1
  · have d1 : decide ((100 : Int) < (l.length : Int)) = true := decide_eq_true (by omega)
    have HK := Lib.hid (show decide (fewS l) = false from decide_eq_false fun h => by have := h.1; omega)
    go_wp2_with fail
    go_ret
    exact ⟨by first | (rw [HK.out]; done) | (rw [HK.out]; rfl), q⟩
  have d1 : decide ((100 : Int) < (l.length : Int)) = false := decide_eq_false (by omega)
  go_upto_region 4 with (fail)
  go_loopw [3] (fun iv wr => ∃ (k : Nat), iv = .int .i64 k ∧ k ≤ l.length ∧ (∀ x ∈ l.take k, x.lo.length ≤ 100 ∧ x.hi.length ≤ 100) ∧ Below w.heap.size w wr)
    (fun i _ => l.length - (intOf i).toNat)
  case atStart => exact ⟨0, rfl, Nat.zero_le _, by simp, q⟩
  case round =>
    clear q
    obtain ⟨k, rfl, hkl, hall, q⟩ := hrel
    rcases Nat.lt_or_ge k l.length with hlt | hge
    · obtain ⟨b, off, A, C, A2, C2, rfl, hb, c0, c1, c2, c3, hk1, hk2, hw64⟩ := (hl.below q).sp k hlt
      have m1 : l[k].lo.length ≤ 9223372036854775807 := by have := hk1.len; unfold maxLen at this; omega
      have m2 : l[k].hi.length ≤ 9223372036854775807 := by have := hk2.len; unfold maxLen at this; omega
      have dk : decide ((k : Int) < (l.length : Int)) = true := decide_eq_true (by omega)
      clear hk1 hk2
      rcases Nat.lt_or_ge 100 l[k].lo.length with h2 | h2
      · have d2 : decide ((100 : Int) < (l[k].lo.length : Int)) = true := decide_eq_true (by omega)
        have HK := Lib.hid (show decide (fewS l) = false from decide_eq_false fun h => by have := (h.2 _ (List.getElem_mem hlt)).1; omega)
        clear hall
        go_wp2_with fail
        go_ret
        exact ⟨by first | (rw [HK.out]; done) | (rw [HK.out]; rfl), q⟩
      have d2 : decide ((100 : Int) < (l[k].lo.length : Int)) = false := decide_eq_false (by omega)
      rcases Nat.lt_or_ge 100 l[k].hi.length with h3 | h3
      · have d3 : decide ((100 : Int) < (l[k].hi.length : Int)) = true := decide_eq_true (by omega)
        have HK := Lib.hid (show decide (fewS l) = false from decide_eq_false fun h => by have := (h.2 _ (List.getElem_mem hlt)).2; omega)
        clear hall
        go_wp2_with fail
        go_ret
        exact ⟨by first | (rw [HK.out]; done) | (rw [HK.out]; rfl), q⟩
      have d3 : decide ((100 : Int) < (l[k].hi.length : Int)) = false := decide_eq_false (by omega)
      have hall2 := Lib.hid (show ∀ x ∈ l.take (k + 1), x.lo.length ≤ 100 ∧ x.hi.length ≤ 100 from fun x hx => by
        rw [List.take_succ_eq_append_getElem hlt] at hx
        rcases List.mem_append.1 hx with h | h
        · exact hall x h
        · simp at h; rw [h]; exact ⟨h2, h3⟩)
      clear hall
      go_wp2_with fail
      go_roundw
      case rel => exact ⟨k + 1, by go_num, by omega, hall2.out, q⟩
      case measure => simp [intOf]; omega
    · obtain rfl : k = l.length := by omega
      rw [List.take_length] at hall
      have dk : decide ((l.length : Int) < (l.length : Int)) = false := decide_eq_false (by omega)
      have HK := Lib.hid (show decide (fewS l) = true from decide_eq_true ⟨h1, hall⟩)
      clear hall
      go_wp2_with fail
      go_ret
      exact ⟨by first | (rw [HK.out]; done) | (rw [HK.out]; rfl), q⟩
set_option maxRecDepth 100000 in
set_option maxHeartbeats 4000000 in
theorem rSame_any (w : World) {S S2 : Nat → Prop} {a a2 : Option Addr} {n cx n2 cy : Nat} {l m : List Sp} (hl : RdL Elt.sp S w (.slice a n cx) l) (hm : RdL Elt.sp S2 w (.slice a2 n2 cy) m) :
    Calls Try.prog 12 #[.slice a n cx, .slice a2 n2 cy] w fun e w' => e = .returned (.bool (decide (l = m))) ∧ Below w.heap.size w w' := by
  obtain ⟨rfl, hnc, hcm⟩ := hl.len
  have hlm : l.length ≤ 9223372036854775807 := by unfold maxLen at hcm; omega
  obtain ⟨rfl, hnc2, hcm2⟩ := hm.len
  have hmm : m.length ≤ 9223372036854775807 := by unfold maxLen at hcm2; omega
  have q := Below.refl w.heap.size w
  have eO : ∀ args w, (callFunc 26 args).run Try.prog w = .ok (.enter 26 args) w := enters_of Try.func26 (by kernel_rfl) rfl
  go_enter Try.func12, Try.ntmps12
  by_cases hlen : l.length = m.length
  case neg =>
    have d1 : ((l.length : Int) == (m.length : Int)) = false := beq_eq_false_iff_ne.2 (by omega)
    have d2 : (l.length == m.length) = false := beq_eq_false_iff_ne.2 hlen
    have d3 : ((l.length : Int) != (m.length : Int)) = true := bne_iff_ne.2 (by omega)
    have HK := Lib.hid (show decide (l = m) = false from decide_eq_false fun h => hlen (by rw [h]))
    clear hlen
    go_wp2_with fail
    go_ret
    exact ⟨by first | (rw [HK.out]; done) | (rw [HK.out]; rfl), q⟩
  have d1 : ((l.length : Int) == (m.length : Int)) = true := beq_iff_eq.2 (by omega)
  have d2 : (l.length == m.length) = true := beq_iff_eq.2 hlen
  have d3 : ((l.length : Int) != (m.length : Int)) = false := by rw [bne, d1]; rfl
  replace hlen := Lib.hid hlen
  go_upto_region 4 with (fail)
  clear d1 d2 d3
  go_loopw [5] (fun iv wr => ∃ (k : Nat), iv = .int .i64 k ∧ k ≤ l.length ∧ l.take k = m.take k ∧ Below w.heap.size w wr)
    (fun i _ => l.length - (intOf i).toNat)
  case atStart => exact ⟨0, rfl, Nat.zero_le _, by simp, q⟩
  case round =>
    clear q
    obtain ⟨k, rfl, hkl, hall, q⟩ := hrel
    replace hall := Lib.hid hall
    rcases Nat.lt_or_ge k l.length with hlt | hge
    · have hltm : k < m.length := by have := hlen.out; omega
      have dk : decide ((k : Int) < (l.length : Int)) = true := decide_eq_true (by omega)
      obtain ⟨b1, o1, A1, A2, A3, A4, rfl, _, c0, c1, c2, c3, hk1, hk2, hw64⟩ := (hl.below q).sp k hlt
      obtain ⟨b2, o2, B1, B2, B3, B4, rfl, _, d0, d1, d2, d3, hk3, hk4, hw65⟩ := (hm.below q).sp k hltm
      have hx : RdSp S wr (.agg #[.int .i64 l[k].table, .slice A1 l[k].lo.length A2, .slice A3 l[k].hi.length A4, .bool l[k].isOpen]) l[k] := ⟨_, _, _, _, rfl, hk1, hk2, hw64⟩
      have hy : RdSp S2 wr (.agg #[.int .i64 m[k].table, .slice B1 m[k].lo.length B2, .slice B3 m[k].hi.length B4, .bool m[k].isOpen]) m[k] := ⟨_, _, _, _, rfl, hk3, hk4, hw65⟩
      clear hk1 hk2 hk3 hk4
      go_upto_region 6 with (fail)
      refine wp_region_gsg (by kernel_rfl) (by kernel_rfl) [sgEq (.slice (some ⟨b1, o1, none⟩) l.length cx), sgEq (.int .i64 (k : Nat)), sgEq (.pointer (some ⟨b1, o1 + k * 4, none⟩)), sgEq (.agg #[.int .i64 l[k].table, .slice A1 l[k].lo.length A2, .slice A3 l[k].hi.length A4, .bool l[k].isOpen]), sgEq (.slice (some ⟨b2, o2, none⟩) m.length cy), sgEq (.int .i64 (k : Nat)), sgEq (.pointer (some ⟨b2, o2 + k * 4, none⟩)), sgEq (.agg #[.int .i64 m[k].table, .slice B1 m[k].lo.length B2, .slice B3 m[k].hi.length B4, .bool m[k].isOpen]), sgEq (.bool (decide (l[k] = m[k]))), sgEq (.bool (decide (l[k] = m[k])))]
        ⟨?o0, ?o1, ?o2, ?o3, ?o4, ?o5, ?o6, ?o7, ?o8, ?o9, trivial⟩ ?fin
      case o0 =>
        refine GdOp.plain rfl (fun A vs w' hF hT hb hd => ?_)
        have e1 : A.eval (.tmp 0) = .slice (some ⟨b1, o1, none⟩) l.length cx := hF 0 rfl
        exact BigFrame.wp_move _ rfl ⟨_, rfl, e1, Below.refl _ _⟩
      case o1 =>
        refine GdOp.plain rfl (fun A vs w' hF hT hb hd => ?_)
        have e1 : A.eval (.tmp 5) = .int .i64 (k : Nat) := hF 5 rfl
        exact BigFrame.wp_move _ rfl ⟨_, rfl, e1, Below.refl _ _⟩
      case o2 =>
        refine GdOp.plain rfl (fun A vs w' hF hT hb hd => ?_)
        have e1 : A.eval (.tmp 18) = .slice (some ⟨b1, o1, none⟩) l.length cx := (hT 18 0 (by simp) rfl).trans (hd ⟨0, .data⟩ (by simp) rfl)
        have e2 : A.eval (.tmp 19) = .int .i64 (k : Nat) := (hT 19 1 (by simp) rfl).trans (hd ⟨1, .data⟩ (by simp) rfl)
        exact wp_ixN (e := 25) rfl (by kernel_rfl) (by kernel_rfl) (e1) (e2) rfl (by omega) ⟨_, rfl, rfl, Below.refl _ _⟩
      case o3 =>
        refine GdOp.plain rfl (fun A vs w' hF hT hb hd => ?_)
        have e1 : A.eval (.tmp 20) = .pointer (some ⟨b1, o1 + k * 4, none⟩) := (hT 20 2 (by simp) rfl).trans (hd ⟨2, .data⟩ (by simp) rfl)
        exact wp_load4 spS rfl e1 ((hb.cell (p := ⟨_, _, none⟩) (cell_lt c0)).trans c0) ((hb.cell (p := ⟨_, _, none⟩) (cell_lt c1)).trans c1) ((hb.cell (p := ⟨_, _, none⟩) (cell_lt c2)).trans c2) ((hb.cell (p := ⟨_, _, none⟩) (cell_lt c3)).trans c3) ⟨_, rfl, rfl, Below.refl _ _⟩
      case o4 =>
        refine GdOp.plain rfl (fun A vs w' hF hT hb hd => ?_)
        have e1 : A.eval (.tmp 1) = .slice (some ⟨b2, o2, none⟩) m.length cy := hF 1 rfl
        exact BigFrame.wp_move _ rfl ⟨_, rfl, e1, Below.refl _ _⟩
      case o5 =>
        refine GdOp.plain rfl (fun A vs w' hF hT hb hd => ?_)
        have e1 : A.eval (.tmp 5) = .int .i64 (k : Nat) := hF 5 rfl
        exact BigFrame.wp_move _ rfl ⟨_, rfl, e1, Below.refl _ _⟩
      case o6 =>
        refine GdOp.plain rfl (fun A vs w' hF hT hb hd => ?_)
        have e1 : A.eval (.tmp 22) = .slice (some ⟨b2, o2, none⟩) m.length cy := (hT 22 4 (by simp) rfl).trans (hd ⟨4, .data⟩ (by simp) rfl)
        have e2 : A.eval (.tmp 23) = .int .i64 (k : Nat) := (hT 23 5 (by simp) rfl).trans (hd ⟨5, .data⟩ (by simp) rfl)
        exact wp_ixN (e := 25) rfl (by kernel_rfl) (by kernel_rfl) (e1) (e2) rfl (by omega) ⟨_, rfl, rfl, Below.refl _ _⟩
      case o7 =>
        refine GdOp.plain rfl (fun A vs w' hF hT hb hd => ?_)
        have e1 : A.eval (.tmp 24) = .pointer (some ⟨b2, o2 + k * 4, none⟩) := (hT 24 6 (by simp) rfl).trans (hd ⟨6, .data⟩ (by simp) rfl)
        exact wp_load4 spS rfl e1 ((hb.cell (p := ⟨_, _, none⟩) (cell_lt d0)).trans d0) ((hb.cell (p := ⟨_, _, none⟩) (cell_lt d1)).trans d1) ((hb.cell (p := ⟨_, _, none⟩) (cell_lt d2)).trans d2) ((hb.cell (p := ⟨_, _, none⟩) (cell_lt d3)).trans d3) ⟨_, rfl, rfl, Below.refl _ _⟩
      case o8 =>
        refine GdOp.plain rfl (fun A vs w' hF hT hb hd => ?_)
        have e1 : A.eval (.tmp 21) = .agg #[.int .i64 l[k].table, .slice A1 l[k].lo.length A2, .slice A3 l[k].hi.length A4, .bool l[k].isOpen] := (hT 21 3 (by simp) rfl).trans (hd ⟨3, .data⟩ (by simp) rfl)
        have e2 : A.eval (.tmp 25) = .agg #[.int .i64 m[k].table, .slice B1 m[k].lo.length B2, .slice B3 m[k].hi.length B4, .bool m[k].isOpen] := (hT 25 7 (by simp) rfl).trans (hd ⟨7, .data⟩ (by simp) rfl)
        refine wp_callFn rfl eO (args := #[.agg #[.int .i64 l[k].table, .slice A1 l[k].lo.length A2, .slice A3 l[k].hi.length A4, .bool l[k].isOpen], .agg #[.int .i64 m[k].table, .slice B1 m[k].lo.length B2, .slice B3 m[k].hi.length B4, .bool m[k].isOpen]]) (by simp only [List.map_toArray, List.map_cons, List.map_nil, e1, e2]) ((rOne_any w' (hx.below hb) (hy.below hb)).mono ?_)
        rintro e w2 ⟨rfl, hb2⟩
        exact ⟨_, rfl, _, rfl, rfl, hb2⟩
      case o9 =>
        refine GdOp.plain rfl (fun A vs w' hF hT hb hd => ?_)
        have e1 : A.eval (.tmp 26) = .bool (decide (l[k] = m[k])) := (hT 26 8 (by simp) rfl).trans (hd ⟨8, .data⟩ (by simp) rfl)
        exact BigFrame.wp_assign _ rfl ⟨_, rfl, e1, Below.refl _ _⟩
      case fin =>
      intro vs9 W9 hb9 hG9
      have e0 : vs9 0 = .slice (some ⟨b1, o1, none⟩) l.length cx := hG9 0 (by decide)
      have e1 : vs9 1 = .int .i64 (k : Nat) := hG9 1 (by decide)
      have e2 : vs9 2 = .pointer (some ⟨b1, o1 + k * 4, none⟩) := hG9 2 (by decide)
      have e3 : vs9 3 = .agg #[.int .i64 l[k].table, .slice A1 l[k].lo.length A2, .slice A3 l[k].hi.length A4, .bool l[k].isOpen] := hG9 3 (by decide)
      have e4 : vs9 4 = .slice (some ⟨b2, o2, none⟩) m.length cy := hG9 4 (by decide)
      have e5 : vs9 5 = .int .i64 (k : Nat) := hG9 5 (by decide)
      have e6 : vs9 6 = .pointer (some ⟨b2, o2 + k * 4, none⟩) := hG9 6 (by decide)
      have e7 : vs9 7 = .agg #[.int .i64 m[k].table, .slice B1 m[k].lo.length B2, .slice B3 m[k].hi.length B4, .bool m[k].isOpen] := hG9 7 (by decide)
      have e8 : vs9 8 = .bool (decide (l[k] = m[k])) := hG9 8 (by decide)
      have e9 : vs9 9 = .bool (decide (l[k] = m[k])) := hG9 9 (by decide)
      simp only [putAll, e0, e1, e2, e3, e4, e5, e6, e7, e8, e9]
      clear hG9 e0 e1 e2 e3 e4 e5 e6 e7 e8 e9
      replace q := q.trans (hb9.mono q.size)
      clear hb9 hx hy c0 c1 c2 c3 d0 d1 d2 d3
      go_simp
      by_cases he : l[k] = m[k]
      · rw [decide_eq_true he]
        have hall2 := Lib.hid (take_bothS hlt hltm hall.out he)
        clear he hall
        go_wp2_with fail
        go_roundw
        case rel => exact ⟨k + 1, by go_num, by omega, hall2.out, q⟩
        case measure => simp [intOf]; omega
      · rw [decide_eq_false he]
        have HK := Lib.hid (show decide (l = m) = false from decide_eq_false fun h => he (by subst h; rfl))
        clear he hall
        go_wp2_with fail
        go_ret
        exact ⟨by first | (rw [HK.out]; done) | (rw [HK.out]; rfl), q⟩
    · obtain rfl : k = l.length := by omega
      have dk : decide ((l.length : Int) < (l.length : Int)) = false := decide_eq_false (by omega)
      have HK := Lib.hid (show decide (l = m) = true from decide_eq_true (by have h := hall.out; rw [List.take_length] at h; rw [hlen.out, List.take_length] at h; exact h))
      clear hall
      go_wp2_with fail
      go_ret
      exact ⟨by first | (rw [HK.out]; done) | (rw [HK.out]; rfl), q⟩
end Go.Proofs.Ytmcleffpjfeegaa
namespace Go.Proofs.Ytmcleffpjfeegaa
open Go.RowKit Go.Shelf
theorem beside_snoc {l : List Sp} {x : Sp} {j : Nat} (h : j < l.length) : besideS (l.take (j + 1)) x = besideS (l.take j) x ++ (if coversS x l[j] = true then [] else [l[j]]) := by
  unfold besideS
  rw [List.take_succ_eq_append_getElem h, List.filter_append]
  congr 1
  cases e : coversS x l[j] <;> simp [e]
set_option maxRecDepth 100000 in
set_option maxHeartbeats 8000000 in
theorem beside_any (w : World) {S S2 : Nat → Prop} {a : Option Addr} {n c : Nat} {l : List Sp} {v : Value} {x : Sp} (hl : RdL Elt.sp S w (.slice a n c) l) (hs : smL l) (hx : RdSp S2 w v x) :
    Calls Try.prog 44 #[.slice a n c, v] w fun e w' => ∃ u, e = .returned (.tuple #[u, .bool (!stays l x)]) ∧ (stays l x = false → ∃ a c, u = .slice a (besideS l x).length c ∧ OwnL Elt.sp 25 w.heap.size w.heap.size w' (.slice a (besideS l x).length c) (besideS l x)) ∧ Below w.heap.size w w' := by
  obtain ⟨rfl, hnc, hcm⟩ := hl.len
  have hlm : l.length ≤ 9223372036854775807 := by unfold maxLen at hcm; omega
  obtain ⟨hs1, hs2⟩ := hs
  replace hl := hl.fit
  have hxs := hx.fit
  obtain ⟨a1, a2, a3, a4, rfl, hlx, hhx, htx⟩ := hx
  obtain ⟨W0, hW, q, Bx, hsz⟩ := spBox w 25 [.int .i64 x.table, .slice a1 x.lo.length a2, .slice a3 x.hi.length a4, .bool x.isOpen]
  go_enter Try.func44, Try.ntmps44
  go_upto_region 1 with (fail)
  rw [show w.alloc (.cells #[.int .i64 x.table, .slice a1 x.lo.length a2, .slice a3 x.hi.length a4, .bool x.isOpen] 25) = W0 from hW.symm]
  clear hW hlx hhx htx
  have c0 := Bx.cell (i := 0) rfl
  have c1 := Bx.cell (i := 1) rfl
  have c2 := Bx.cell (i := 2) rfl
  have c3 := Bx.cell (i := 3) rfl
  go_step3
  go_wp2_with fail
  refine (sEmpty_any W0 (hxs.below q)).mono ?_
  rintro e w1 ⟨rfl, hb⟩
  have q1 := q.trans (hb.mono q.size)
  have Bx1 := Bx.below hb Bx.lt
  clear c0 c1 c2 c3 Bx hb
  go_wp2_with fail
  go_step3
  go_upto_region 4 with (fail)
  have zw : w.heap.size < w1.heap.size := Bx1.lt
  go_loopw [6, 7, 15] (fun iv ov kv wr => ∃ (k : Nat) (ad : Option Addr) (ko : Nat), kv = .int .i64 k ∧ k ≤ l.length ∧ iv = .bool (!emptyS x) ∧ ov = .slice ad (besideS (l.take k) x).length ko ∧ OwnL Elt.sp 25 (w.heap.size + 1) (w.heap.size + 1) wr (.slice ad (besideS (l.take k) x).length ko) (besideS (l.take k) x) ∧ (∀ s ∈ l.take k, coversS s x = false) ∧ BoxN wr w.heap.size 25 [.int .i64 x.table, .slice a1 x.lo.length a2, .slice a3 x.hi.length a4, .bool x.isOpen] ∧ Below w.heap.size w wr ∧ w.heap.size < wr.heap.size)
    (fun _ _ i _ => l.length - (intOf i).toNat)
  case atStart => exact ⟨0, none, 0, rfl, Nat.zero_le _, rfl, rfl, OwnL.nil _ _ _ _ _, by simp, Bx1, q1, zw⟩
  case round =>
    clear q1 Bx1 q hsz zw
    obtain ⟨k, ad, ko, rfl, hkl, rfl, rfl, hO, hno, Bx, q, zw⟩ := hrel
    replace hno := Lib.hid hno
    rcases Nat.lt_or_ge k l.length with hlt | hge
    · obtain ⟨b, off, KA, KC, VA, VC, rfl, hb, c0, c1, c2, c3, hk1, hk2, ht⟩ := (hl.below q).sp k hlt
      obtain ⟨hx1, hx2⟩ := hs2 _ (List.getElem_mem hlt)
      have hsn := Lib.hid (show besideS (l.take (k + 1)) x = besideS (l.take k) x ++ (if coversS x l[k] = true then [] else [l[k]]) from beside_snoc hlt)
      have hcv := Lib.hid (show ∀ b, coversS l[k] x = b → (b = true → stays l x = true) ∧ (b = false → ∀ s ∈ l.take (k + 1), coversS s x = false) from fun b hb => ⟨fun h => by
          unfold stays; rw [List.any_eq_true.2 ⟨_, List.getElem_mem hlt, by rw [hb, h]⟩]; simp, fun h s hs => by
          rw [List.take_succ_eq_append_getElem hlt] at hs
          rcases List.mem_append.1 hs with h2 | h2
          · exact hno.out s h2
          · simp at h2; rw [h2, hb, h]⟩)
      obtain ⟨s, es⟩ : ∃ s, s = l[k] := ⟨_, rfl⟩
      obtain ⟨xs, exs⟩ : ∃ xs, xs = besideS (l.take k) x := ⟨_, rfl⟩
      have hxl : xs.length ≤ 1000000 := by rw [exs]; refine Nat.le_trans (List.length_filter_le _ _) ?_; rw [List.length_take]; omega
      rw [← es] at c0 c1 c2 c3 hk1 hk2 ht hx1 hx2 hsn hcv
      rw [← exs] at hO hsn
      rw [← exs]
      clear es exs hno
      go_upto_region 6 with (first | (refine wpList_boxNew (vs := [.int .i64 0, .slice none 0 0, .slice none 0 0, .bool false]) (by kernel_rfl) rfl rfl ?_; intro wa hba hBa) | (refine wpList_boxStore (us := [.int .i64 s.table, .slice KA s.lo.length KC, .slice VA s.hi.length VC, .bool s.isOpen]) (by kernel_rfl) rfl rfl rfl rfl rfl rfl hBa rfl ?_; intro W hgw hXW) | fail)
      go_simp
      have hbw : Below wr.heap.size wr W := hba.grown hgw hba.size fun k hk => by injection hk with hk; omega
      have hrr : ∀ k, Value.ownBlock (.slice ad xs.length ko) = some k → w.heap.size + 1 ≤ k ∧ k < wr.heap.size := fun k hk => hO.block_lt k hk
      have hss : RdSp (fun k => S k ∧ k < w.heap.size) W (.agg #[.int .i64 s.table, .slice KA s.lo.length KC, .slice VA s.hi.length VC, .bool s.isOpen]) s := ⟨_, _, _, _, rfl, hk1.below hbw, hk2.below hbw, ht⟩
      replace hO := hO.below hbw
      replace Bx := Bx.below hbw Bx.lt
      replace q := q.trans (hbw.mono q.size)
      have zw2 : wr.heap.size ≤ W.heap.size := hbw.size
      clear c0 c1 c2 c3 hba hBa hgw hbw hk1 hk2 hb ht
      have hxq := hxs.below q
      have f0 := hXW.cell (i := 0) rfl
      have f1 := hXW.cell (i := 1) rfl
      have f2 := hXW.cell (i := 2) rfl
      have f3 := hXW.cell (i := 3) rfl
      have c0 := Bx.cell (i := 0) rfl
      have c1 := Bx.cell (i := 1) rfl
      have c2 := Bx.cell (i := 2) rfl
      have c3 := Bx.cell (i := 3) rfl
      go_wp2_with fail
      refine (sCovers_any W hss hxq).mono ?_
      rintro e w2 ⟨rfl, hb2⟩
      replace hss := hss.below hb2
      replace hO := hO.below hb2
      replace Bx := Bx.below hb2 Bx.lt
      replace hXW := hXW.below hb2 hXW.lt
      replace q := q.trans (hb2.mono q.size)
      have zw3 := hb2.size
      clear f0 f1 f2 f3 c0 c1 c2 c3 hxq hb2
      cases hc : coversS s x with
      | true =>
        have H := Lib.hid ((hcv.out _ hc).1 rfl)
        clear hc hcv hsn
        go_wp2_with fail
        simp only [Exit.noGoto_ret]
        go_ret2
        rw [H.out]
        exact ⟨_, rfl, (fun h => by cases h), q⟩
      | false =>
        have hno := Lib.hid ((hcv.out _ hc).2 rfl)
        clear hc hcv
        have hxq := hxs.below q
        have f0 := hXW.cell (i := 0) rfl
        have f1 := hXW.cell (i := 1) rfl
        have f2 := hXW.cell (i := 2) rfl
        have f3 := hXW.cell (i := 3) rfl
        have c0 := Bx.cell (i := 0) rfl
        have c1 := Bx.cell (i := 1) rfl
        have c2 := Bx.cell (i := 2) rfl
        have c3 := Bx.cell (i := 3) rfl
        go_wp2_with fail
        refine (sCovers_any w2 hxq hss).mono ?_
        rintro e w3 ⟨rfl, hb3⟩
        replace hss := hss.below hb3
        replace hO := hO.below hb3
        replace Bx := Bx.below hb3 Bx.lt
        replace hXW := hXW.below hb3 hXW.lt
        replace q := q.trans (hb3.mono q.size)
        have zw4 := hb3.size
        clear f0 f1 f2 f3 c0 c1 c2 c3 hxq hb3
        cases hc : coversS x s with
        | true =>
          have hn2 := Lib.hid (show besideS (l.take (k + 1)) x = xs by rw [hsn.out, if_pos hc, List.append_nil])
          clear hc hsn hss hXW
          go_wp2_with fail
          go_roundw
          case rel => exact ⟨k + 1, ad, ko, by go_num, by omega, rfl, by rw [hn2.out], by rw [hn2.out]; exact hO, hno.out, Bx, q, by omega⟩
          case measure => simp [intOf]; omega
        | false =>
          have hn2 := Lib.hid (show besideS (l.take (k + 1)) x = xs ++ [s] by rw [hsn.out, if_neg (by rw [hc]; simp)])
          clear hc hsn
          have f0 := hXW.cell (i := 0) rfl
          have f1 := hXW.cell (i := 1) rfl
          have f2 := hXW.cell (i := 2) rfl
          have f3 := hXW.cell (i := 3) rfl
          go_wp2_with fail
          refine (sAlone_any w3 hss hx1 hx2).mono ?_
          rintro e w4 ⟨v2, rfl, ⟨ka, kc, va, vc, rfl, hk3, hv3, ht3⟩, hb4⟩
          have hR : Elt.sp.R (fun k => w3.heap.size ≤ k ∧ k < w4.heap.size) w4 s (spC s (.slice ka s.lo.length kc) (.slice va s.hi.length vc)) := ⟨_, _, rfl, hk3, hv3, ht3⟩
          replace hO := hO.below hb4
          replace Bx := Bx.below hb4 Bx.lt
          replace q := q.trans (hb4.mono q.size)
          have z4 := hb4.size
          clear f0 f1 f2 f3 hss hXW hb4
          go_wp2_with (first
            | (refine wpList_buildOne spP rfl rfl rfl (us := spC s (.slice ka s.lo.length kc) (.slice va s.hi.length vc)) rfl rfl (by decide) (by decide) ?_; intro w5 hb5 hrow)
            | (refine wpList_apvRow (E := Elt.sp) (n := xs.length + 1) spP rfl rfl rfl rfl (hO.below hb5) hrow (Elt.below hR hb5) (fun k hk => ⟨by omega, Nat.lt_of_lt_of_le hk.2 hb5.size, fun e => by have := hrr k e.symm; omega⟩) (by have := hb5.size; omega) (by omega) rfl ?_; intro ad9 c9 w6 hO9 hg6 _)
            | fail)
          have q5 := q.trans (hb5.mono q.size)
          have q9 := q5.grown hg6 q5.size fun k hk => by have := hrr k hk; omega
          have Bx9 := (Bx.below hb5 Bx.lt).other hg6 fun e => by have := hrr _ e; omega
          have hz9 : w.heap.size < w6.heap.size := Bx9.lt
          have hL9 := Lib.hid (show xs.length + 1 = (besideS (l.take (k + 1)) x).length by rw [hn2.out]; simp)
          clear hO hR hk3 hv3 q q5 hg6 hrow hb5 Bx
          go_roundw
          case rel =>
            have e := hL9.out
            rw [e, ← hn2.out] at hO9
            rw [e]
            exact ⟨k + 1, ad9, c9, by go_num, by omega, rfl, rfl, hO9, hno.out, Bx9, q9, hz9⟩
          case measure => simp [intOf]; omega
    · obtain rfl : k = l.length := by omega
      rw [List.take_length] at hO hno
      rw [List.take_length]
      have H := Lib.hid (show (!emptyS x) = !stays l x by
        unfold stays
        rw [show (l.any fun s => coversS s x) = false from List.any_eq_false.2 fun s hs => by rw [hno.out s hs]; simp, Bool.or_false])
      clear hno Bx
      go_wp2_with fail
      simp only [Exit.noGoto_ret]
      go_ret2
      rw [← H.out]
      exact ⟨_, rfl, (fun _ => ⟨_, _, rfl, hO.to (by omega) (by omega)⟩), q⟩
end Go.Proofs.Ytmcleffpjfeegaa
namespace Go.Proofs.Ytmcleffpjfeegaa
open Go.RowKit
structure Trd (F : Nat → Prop) (w w' : World) : Prop where
  os : w'.os = w.os
  tape : w'.tape = w.tape
  output : w'.output = w.output
  size : w.heap.size ≤ w'.heap.size
  block : ∀ k, k < w.heap.size → ¬ F k → w'.heap[k]? = w.heap[k]?
section
variable {F F' : Nat → Prop} {a b c w w' : World}
theorem Trd.refl (F : Nat → Prop) (w : World) : Trd F w w := ⟨rfl, rfl, rfl, Nat.le_refl _, fun _ _ _ => rfl⟩
theorem Trd.mono (h : Trd F w w') (hf : ∀ k, k < w.heap.size → F k → F' k) : Trd F' w w' := ⟨h.os, h.tape, h.output, h.size, fun k hk hn => h.block k hk fun hF => hn (hf k hk hF)⟩
theorem Trd.trans (h : Trd F a b) (k : Trd F' b c) (hf : ∀ k, k < a.heap.size → F' k → F k) : Trd F a c :=
  ⟨k.os.trans h.os, k.tape.trans h.tape, k.output.trans h.output, Nat.le_trans h.size k.size, fun i hi hn => (k.block i (Nat.lt_of_lt_of_le hi h.size) fun hF => hn (hf i hi hF)).trans (h.block i hi hn)⟩
theorem Trd.of (h : Below w.heap.size w w') : Trd F w w' := ⟨h.os, h.tape, h.output, h.size, fun k hk _ => h.block k hk⟩
theorem Trd.ofGrown {r : Option Nat} (h : w.grownBy w' r) (hr : ∀ k, r = some k → F k) : Trd F w w' := ⟨h.os, h.tape, h.output, h.size, fun k hk hn => h.block k hk fun e => hn (hr k e.symm)⟩
theorem Trd.below {n : Nat} (h : Trd F w w') (hn : n ≤ w.heap.size) (hf : ∀ k, k < n → ¬ F k) : Below n w w' := ⟨h.os, h.tape, h.output, h.size, fun k hk => h.block k (Nat.lt_of_lt_of_le hk hn) (hf k hk)⟩
theorem Trd.cell (h : Trd F w w') {k o : Nat} {v : Value} (hc : w.cell? ⟨k, o, none⟩ = some v) (hn : ¬ F k) : w'.cell? ⟨k, o, none⟩ = some v :=
  (cell_keep (h.block k (cell_lt hc) hn) o).trans hc
end
def RowQ (Te : TypeId) (sz : Nat) (w : World) (v : Value) (n : Nat) (vs : List Value) : Prop := w.ownsRow 0 Te sz v n vs ∧ ∀ u ∈ vs, u.oneCell' = true
section
variable {Te : TypeId} {sz n : Nat} {w w' : World} {v : Value} {vs : List Value}
theorem RowQ.len (h : RowQ Te sz w v n vs) : vs.length = n * sz := h.1.1
theorem RowQ.cases (h : RowQ Te sz w v n vs) : (v = .slice none 0 0 ∧ n = 0 ∧ vs = []) ∨ ∃ g cap cur, v = .slice (some ⟨g, 0, none⟩) n cap ∧ w.heap[g]? = some (.cells cur Te (0, 0)) ∧ n ≤ cap ∧ cap ≤ maxLen ∧ cur.size = cap * sz ∧ cur.toList.take (n * sz) = vs := by
  rcases h.1.2 with ⟨h1, h2⟩ | ⟨g, cap, cur, h1, _, h2, h3, h4, h5, h6⟩
  · refine .inl ⟨h1, h2, List.eq_nil_of_length_eq_zero ?_⟩
    rw [h.len, h2, Nat.zero_mul]
  · exact .inr ⟨g, cap, cur, h1, h2, h3, h4, h5, h6⟩
theorem RowQ.of {g cap : Nat} {cur : Array Value} (hg : w.heap[g]? = some (.cells cur Te (0, 0))) (h1 : n ≤ cap) (h2 : cap ≤ maxLen) (h3 : cur.size = cap * sz) (h4 : cur.toList.take (n * sz) = vs) (h5 : ∀ u ∈ vs, u.oneCell' = true) : RowQ Te sz w (.slice (some ⟨g, 0, none⟩) n cap) n vs := by
  refine ⟨⟨?_, .inr ⟨g, cap, cur, rfl, Nat.zero_le _, hg, h1, h2, h3, h4⟩⟩, h5⟩
  rw [← h4, List.length_take, Array.length_toList, h3]
  exact Nat.min_eq_left (Nat.mul_le_mul_right _ h1)
theorem RowQ.nil (Te : TypeId) (sz : Nat) (w : World) : RowQ Te sz w (.slice none 0 0) 0 [] := ⟨World.ownsRow_nil _ _ _ _, fun _ h => by cases h⟩
theorem RowQ.shape (h : RowQ Te sz w v n vs) : ∃ a c, v = .slice a n c ∧ n ≤ c ∧ c ≤ maxLen := by
  rcases h.cases with ⟨rfl, rfl, _⟩ | ⟨g, cap, cur, rfl, _, h1, h2, _⟩
  · exact ⟨none, 0, rfl, Nat.le_refl _, by unfold maxLen; omega⟩
  · exact ⟨_, _, rfl, h1, h2⟩
theorem RowQ.block (h : RowQ Te sz w v n vs) {k : Nat} (hk : v.ownBlock = some k) : ∃ cur, w.heap[k]? = some (.cells cur Te (0, 0)) := by
  rcases h.cases with ⟨rfl, _, _⟩ | ⟨g, cap, cur, rfl, hg, _⟩
  · simp [Value.ownBlock] at hk
  · simp [Value.ownBlock] at hk
    subst hk
    exact ⟨_, hg⟩
theorem RowQ.lt (h : RowQ Te sz w v n vs) {k : Nat} (hk : v.ownBlock = some k) : k < w.heap.size := by
  obtain ⟨_, hg⟩ := h.block hk
  exact (Array.getElem?_eq_some_iff.1 hg).1
theorem RowQ.kept (h : RowQ Te sz w v n vs) (hk : ∀ k, v.ownBlock = some k → w'.heap[k]? = w.heap[k]?) : RowQ Te sz w' v n vs := by
  refine ⟨⟨h.1.1, ?_⟩, h.2⟩
  rcases h.1.2 with h | ⟨g, cap, cur, rfl, h1, h2, h3⟩
  · exact .inl h
  · exact .inr ⟨g, cap, cur, rfl, h1, (hk g rfl).trans h2, h3⟩
theorem RowQ.below (h : RowQ Te sz w v n vs) (hb : Below w.heap.size w w') : RowQ Te sz w' v n vs := h.kept fun k e => hb.block k (h.lt e)
theorem RowQ.cell (h : RowQ Te sz w v n vs) {g : Nat} (hg : v.ownBlock = some g) {j : Nat} {u : Value} (hj : vs[j]? = some u) : w.cell? ⟨g, j, none⟩ = some u := by
  rcases h.cases with ⟨rfl, _, _⟩ | ⟨g', cap, cur, rfl, hb, _, _, _, ht⟩
  · simp [Value.ownBlock] at hg
  · simp [Value.ownBlock] at hg
    subst hg
    subst ht
    rw [List.getElem?_take] at hj
    split at hj
    · simp [World.cell?, hb, ← Array.getElem?_toList, hj]
    · cases hj
end
section
variable {P : Program} {T Te : TypeId} {n : Nat} {ops : Array Oper} {rest : List Oper} {o : Oper} {a : Act} {Q : Exit → Act → World → Prop} {w : World} {K : Act → World → Prop}
theorem wp_sliceRaw (hP : LsP P T Te n) {x : Operand} {lo hi : Option Operand} (ho : o.op = .slice T x lo hi none) {ad : Option Addr} {k c : Nat} (hx : a.eval x = .slice ad k c) {lov hiv : Option Value} (hlo : lo.map a.eval = lov) (hhi : hi.map a.eval = hiv)
    {l r : Nat} (hb : (Instr.sliceBounds true k c lov hiv none).run P w = .ok (l, r, c) w)
    (h : K (a.put o.dst (.slice (if c = l then ad else ad.map (·.add (l * n))) (r - l) (c - l))) w) : o.wp P a w K Q := by
  subst hlo; subst hhi
  unfold Oper.wp execOp
  simp only [ho, hx, Option.map_none, Sem.run_bind, Sem.run_pure, Result.andThen_ok, run_sliceL hP hb]
  exact h
theorem wp_sliceAny (hP : LsP P T Te n) {x : Operand} {lo hi : Option Operand} (ho : o.op = .slice T x lo hi none) {ad : Option Addr} {k c : Nat} (hx : a.eval x = .slice ad k c) {lov hiv : Option Value} (hlo : lo.map a.eval = lov) (hhi : hi.map a.eval = hiv)
    {l r : Nat} (hb : (Instr.sliceBounds true k c lov hiv none).run P w = .ok (l, r, c) w)
    (h : ∀ ad', K (a.put o.dst (.slice ad' (r - l) (c - l))) w) : o.wp P a w K Q := wp_sliceRaw hP ho hx hlo hhi hb (h _)
theorem wp_sliceFrom (hP : LsP P T Te n) {x : Operand} {lo hi : Option Operand} (ho : o.op = .slice T x lo hi none) {g off k c : Nat} (hx : a.eval x = .slice (some ⟨g, off, none⟩) k c) {lov hiv : Option Value} (hlo : lo.map a.eval = lov) (hhi : hi.map a.eval = hiv)
    {l r : Nat} (hb : (Instr.sliceBounds true k c lov hiv none).run P w = .ok (l, r, c) w) (hne : c ≠ l)
    (h : K (a.put o.dst (.slice (some ⟨g, off + l * n, none⟩) (r - l) (c - l))) w) : o.wp P a w K Q := by
  refine wp_sliceRaw hP ho hx hlo hhi hb ?_
  rw [if_neg hne]
  simpa [Addr.add_lit] using h
theorem wp_sliceTo (hP : LsP P T Te n) {x : Operand} {hi : Option Operand} (ho : o.op = .slice T x none hi none) {g off k c : Nat} (hx : a.eval x = .slice (some ⟨g, off, none⟩) k c) {hiv : Option Value} (hhi : hi.map a.eval = hiv)
    {r : Nat} (hb : (Instr.sliceBounds true k c none hiv none).run P w = .ok (0, r, c) w)
    (h : K (a.put o.dst (.slice (some ⟨g, off, none⟩) r c)) w) : o.wp P a w K Q := by
  refine wp_sliceRaw hP ho hx rfl hhi hb ?_
  simp only [Nat.sub_zero, Nat.zero_mul, Option.map_some, Addr.add_lit, Nat.add_zero]
  split <;> exact h
theorem wpList_sliceAny (hP : LsP P T Te n) {x : Operand} {lo hi : Option Operand} (ho : o.op = .slice T x lo hi none) (hgd : Region.wanted o (yielded ops a.tmps) = true) {ad : Option Addr} {k c : Nat} (hx : a.eval x = .slice ad k c)
    {l r : Nat} (hb : (Instr.sliceBounds true k c (lo.map a.eval) (hi.map a.eval) none).run P w = .ok (l, r, c) w)
    (h : ∀ ad', wpList P ops Q rest (a.put o.dst (.slice ad' (r - l) (c - l))) w) : wpList P ops Q (o :: rest) a w :=
  BigFrame.wpList_want hgd fun _ hK => wp_sliceAny hP ho hx rfl rfl hb fun ad' => hK _ _ (h ad')
theorem wpList_sliceFrom (hP : LsP P T Te n) {x : Operand} {lo hi : Option Operand} (ho : o.op = .slice T x lo hi none) (hgd : Region.wanted o (yielded ops a.tmps) = true) {g off k c : Nat} (hx : a.eval x = .slice (some ⟨g, off, none⟩) k c)
    {l r : Nat} (hb : (Instr.sliceBounds true k c (lo.map a.eval) (hi.map a.eval) none).run P w = .ok (l, r, c) w) (hne : c ≠ l)
    (h : wpList P ops Q rest (a.put o.dst (.slice (some ⟨g, off + l * n, none⟩) (r - l) (c - l))) w) : wpList P ops Q (o :: rest) a w :=
  BigFrame.wpList_want hgd fun _ hK => wp_sliceFrom hP ho hx rfl rfl hb hne (hK _ _ h)
theorem wpList_sliceTo (hP : LsP P T Te n) {x : Operand} {hi : Option Operand} (ho : o.op = .slice T x none hi none) (hgd : Region.wanted o (yielded ops a.tmps) = true) {g off k c : Nat} (hx : a.eval x = .slice (some ⟨g, off, none⟩) k c)
    {r : Nat} (hb : (Instr.sliceBounds true k c none (hi.map a.eval) none).run P w = .ok (0, r, c) w)
    (h : wpList P ops Q rest (a.put o.dst (.slice (some ⟨g, off, none⟩) r c)) w) : wpList P ops Q (o :: rest) a w :=
  BigFrame.wpList_want hgd fun _ hK => wp_sliceTo hP ho hx rfl hb (hK _ _ h)
theorem run_copyRaw (hP : LsP P T Te n) (w : World) (ty : TypeId) {sa : Addr} {nx cx : Nat} {cs : List Value} {g off dl dc : Nat} {cur : Array Value} {t : TypeId}
    (hg : w.heap[g]? = some (.cells cur t (0, 0))) (hl : cs.length = min nx dl * n) (hc : ∀ j u, cs[j]? = some u → w.cell? (sa.add j) = some u) (h1 : ∀ u ∈ cs, u.oneCell' = true) (hfit : off + cs.length ≤ cur.size) :
    (Builtin.copy_ #[T, T] ty #[.slice (some ⟨g, off, none⟩) dl dc, .slice (some sa) nx cx]).run P w = .ok (.int .i64 (min nx dl : Nat)) (w.setRow g (cur.toList.take off ++ cs ++ cur.toList.drop (off + cs.length)).toArray) := by
  obtain ⟨i, hi, hsz⟩ := hP.info
  have hst := run_storeCells_at P g off t cs 0 cur w hg (by simpa using hfit) h1
  simp only [Nat.add_zero] at hst
  have hfc : (Builtin.firstCells n (Nat.min nx dl) (.slice (some sa) nx cx)).run P w = .ok cs.toArray w := by
    have := run_loadCells_list (P := P) w sa cs hc
    rw [hl] at this
    simpa [Builtin.firstCells] using this
  simp [Builtin.copy_, run_underlying hP.hT, Builtin.lenOf, sizeOf, typeInfo, hi, hsz, hfc, hst, goInt]
theorem wp_copyRaw (hP : LsP P T Te n) {d s : Operand} (ho : o.op = .call { callee := .builtin .copy, args := #[d, s], argTypes := #[T, T] }) {sa : Addr} {nx cx : Nat} {cs : List Value} {g off dl dc : Nat} {cur : Array Value} {t : TypeId} (hd : a.eval d = .slice (some ⟨g, off, none⟩) dl dc) (hs : a.eval s = .slice (some sa) nx cx)
    (hg : w.heap[g]? = some (.cells cur t (0, 0))) (hl : cs.length = min nx dl * n) (hc : ∀ j u, cs[j]? = some u → w.cell? (sa.add j) = some u) (h1 : ∀ u ∈ cs, u.oneCell' = true) (hfit : off + cs.length ≤ cur.size)
    (h : ∀ w', w'.heap[g]? = some (.cells (cur.toList.take off ++ cs ++ cur.toList.drop (off + cs.length)).toArray t (0, 0)) → w.grownBy w' (some g) → K (a.put o.dst (.int .i64 (min nx dl : Nat))) w') : o.wp P a w K Q := by
  have hr := run_copyRaw hP w o.type hg hl hc h1 hfit (dc := dc) (cx := cx)
  unfold Oper.wp execOp
  simp only [ho, resolve, invoke, builtin, Sem.run_bind, Sem.run_pure, Result.andThen_ok, List.map_toArray, List.map_cons, List.map_nil, hd, hs, hr]
  exact h _ (setRow_heap _ _ _ _ _ _ hg) (grown_setRow _ _ _)
theorem wpList_copyRaw (hP : LsP P T Te n) {d s : Operand} (ho : o.op = .call { callee := .builtin .copy, args := #[d, s], argTypes := #[T, T] }) (hgd : Region.wanted o (yielded ops a.tmps) = true) {sa : Addr} {nx cx : Nat} {cs : List Value} {g off dl dc : Nat} {cur : Array Value} {t : TypeId} (hd : a.eval d = .slice (some ⟨g, off, none⟩) dl dc) (hs : a.eval s = .slice (some sa) nx cx)
    (hg : w.heap[g]? = some (.cells cur t (0, 0))) (hl : cs.length = min nx dl * n) (hc : ∀ j u, cs[j]? = some u → w.cell? (sa.add j) = some u) (h1 : ∀ u ∈ cs, u.oneCell' = true) (hfit : off + cs.length ≤ cur.size)
    (h : ∀ w', w'.heap[g]? = some (.cells (cur.toList.take off ++ cs ++ cur.toList.drop (off + cs.length)).toArray t (0, 0)) → w.grownBy w' (some g) → wpList P ops Q rest (a.put o.dst (.int .i64 (min nx dl : Nat))) w') : wpList P ops Q (o :: rest) a w :=
  BigFrame.wpList_want hgd fun _ hK => wp_copyRaw hP ho hd hs hg hl hc h1 hfit fun w' h2 h3 => hK _ _ (h w' h2 h3)
def RowTo (Te : TypeId) (sz : Nat) (w : World) (v : Value) (n' : Nat) (vs' : List Value) (v' : Value) (w' : World) : Prop :=
  RowQ Te sz w' v' n' vs' ∧ w.grownBy w' v.ownBlock ∧ (v'.ownBlock = v.ownBlock ∨ ∃ k, v'.ownBlock = some k ∧ w.heap.size ≤ k)
theorem run_appQ (hP : LoP P T Te n) (h0 : 0 < n) (w : World) (ty : TypeId) {v : Value} {k : Nat} {vs : List Value} (hv : RowQ Te n w v k vs) {p : Addr} {m c : Nat} {cs : List Value} (hl : cs.length = m * n) (hc : ∀ j u, cs[j]? = some u → w.cell? (p.add j) = some u) (h1 : ∀ u ∈ cs, u.oneCell' = true) (hlen : k + m ≤ 1073741824) :
    ∃ v' w', (Builtin.append_ #[T, T] ty #[v, .slice (some p) m c]).run P w = .ok v' w' ∧ RowTo Te n w v (k + m) (vs ++ cs) v' w' := by
  obtain ⟨i, z, hi, hz, hsz, hby, hzs⟩ := hP.all
  obtain ⟨v', w', hr, ho, hg, _, hb⟩ := run_append_own_at (P := P) (w := w) 0 T ty Te i z n i.bytes hP.hT hi hz hsz rfl hzs h0 v k vs hv.1 p m c cs hl hc h1 (by unfold maxLen; omega)
    (by have := Nat.mul_le_mul hlen hby; omega) (Nat.zero_le _)
  exact ⟨v', w', hr, ⟨ho, fun u hu => (List.mem_append.1 hu).elim (hv.2 u) (h1 u)⟩, hg, hb.imp id fun e => ⟨_, e, Nat.le_refl _⟩⟩
theorem wp_appQ (hP : LoP P T Te n) (h0 : 0 < n) {s x : Operand} (ho : o.op = .call { callee := .builtin .append, args := #[s, x], argTypes := #[T, T] }) {v : Value} {k : Nat} {vs : List Value} (hs : a.eval s = v) (hv : RowQ Te n w v k vs) {p : Addr} {m c : Nat} {cs : List Value} (hx : a.eval x = .slice (some p) m c)
    (hl : cs.length = m * n) (hc : ∀ j u, cs[j]? = some u → w.cell? (p.add j) = some u) (h1 : ∀ u ∈ cs, u.oneCell' = true) (hlen : k + m ≤ 1073741824)
    (h : ∀ ad cap w', RowTo Te n w v (k + m) (vs ++ cs) (.slice ad (k + m) cap) w' → K (a.put o.dst (.slice ad (k + m) cap)) w') : o.wp P a w K Q := by
  obtain ⟨v', w', hrun, h2⟩ := run_appQ hP h0 w o.type hv hl hc h1 hlen (c := c)
  obtain ⟨ad, cap, rfl, _⟩ := h2.1.shape
  unfold Oper.wp execOp
  simp only [ho, resolve, invoke, builtin, Sem.run_bind, Sem.run_pure, Result.andThen_ok, List.map_toArray, List.map_cons, List.map_nil, hs, hx, hrun]
  exact h _ _ _ h2
theorem wpList_appQ (hP : LoP P T Te n) (h0 : 0 < n) {s x : Operand} (ho : o.op = .call { callee := .builtin .append, args := #[s, x], argTypes := #[T, T] }) (hgd : Region.wanted o (yielded ops a.tmps) = true) {v : Value} {k : Nat} {vs : List Value} (hs : a.eval s = v) (hv : RowQ Te n w v k vs) {p : Addr} {m c : Nat} {cs : List Value} (hx : a.eval x = .slice (some p) m c)
    (hl : cs.length = m * n) (hc : ∀ j u, cs[j]? = some u → w.cell? (p.add j) = some u) (h1 : ∀ u ∈ cs, u.oneCell' = true) (hlen : k + m ≤ 1073741824)
    (h : ∀ ad cap w', RowTo Te n w v (k + m) (vs ++ cs) (.slice ad (k + m) cap) w' → wpList P ops Q rest (a.put o.dst (.slice ad (k + m) cap)) w') : wpList P ops Q (o :: rest) a w :=
  BigFrame.wpList_want hgd fun _ hK => wp_appQ hP h0 ho hs hv hx hl hc h1 hlen fun ad cap w' h2 => hK _ _ (h ad cap w' h2)
theorem run_appZ (hP : LoP P T Te n) (h0 : 0 < n) {Ti : TypeId} (hTi : P.underlying Ti = some (.int .i64)) (w : World) (ty : TypeId) {p : Option Addr} {k cap : Nat} {cs : List Value} (hl : cs.length = k * n) (hc : ∀ q, p = some q → ∀ j u, cs[j]? = some u → w.cell? (q.add j) = some u) (hm : p = none → k = 0) {m : Nat} (hm0 : 0 < m) (hg : cap < k + m) (hlen : k + m ≤ 1073741824) :
    ∃ (G : Nat) (cur : Array Value), k + m ≤ G ∧ G ≤ maxLen ∧ cur.size = G * n ∧ cur.toList.take (k * n) = cs ∧
      (Builtin.append_ #[T, Ti] ty #[.slice p k cap, .int .i64 m]).run P w = .ok (.slice (some ⟨w.heap.size, 0, none⟩) (k + m) G) (w.drew.alloc (.cells cur Te)) := by
  obtain ⟨i, z, hi, hz, hsz, hby, hzs⟩ := hP.all
  have hold : (Builtin.firstCells i.size k (.slice p k cap)).run P w.drew = .ok cs.toArray w.drew := by
    rw [hsz]
    cases p with
    | none =>
      obtain rfl := hm rfl
      obtain rfl : cs = [] := List.eq_nil_of_length_eq_zero (by omega)
      simp [Builtin.firstCells]
    | some q => exact run_firstCells_some w.drew n k q k cap cs hl (hc q rfl)
  have hbytes : (k + m) * i.bytes ≤ 1073741824 * 4096 := Nat.mul_le_mul hlen hby
  have hmb : m * i.bytes ≤ 1073741824 * 4096 := Nat.mul_le_mul (by omega) hby
  have hr := Lib.run_append_grow_zeros w T Ti ty Te i z .i64 .i64 hP.hT hTi hi hz p k cap cs hold m hm0 (by omega) hg (by omega) (by omega) (growslice_fits hg (by omega))
  refine ⟨_, _, grownCap_ge w (k + m) cap Te, grownCap_le_maxLen w _ _ _ (by unfold maxLen; omega), ?_, ?_, hr⟩
  · have hge := grownCap_ge w (k + m) cap Te
    simp only [Array.size_append, List.size_toArray, size_zeroCells, hzs, hl, ← Nat.add_mul]
    congr 1
    omega
  · simp only [Array.toList_append, List.append_assoc]
    rw [← hl]
    exact List.take_left
theorem wpList_appZ (hP : LoP P T Te n) (h0 : 0 < n) {Ti : TypeId} (hTi : P.underlying Ti = some (.int .i64)) {s x : Operand} (ho : o.op = .call { callee := .builtin .append, args := #[s, x], argTypes := #[T, Ti] }) (hgd : Region.wanted o (yielded ops a.tmps) = true) {p : Option Addr} {k cap m : Nat} {i : Int} (hs : a.eval s = .slice p k cap) (hx : a.eval x = .int .i64 i) (him : i = (m : Int))
    {cs : List Value} (hl : cs.length = k * n) (hc : ∀ q, p = some q → ∀ j u, cs[j]? = some u → w.cell? (q.add j) = some u) (hm : p = none → k = 0) (hm0 : 0 < m) (hg : cap < k + m) (hlen : k + m ≤ 1073741824)
    (h : ∀ (G : Nat) (cur : Array Value), k + m ≤ G → G ≤ maxLen → cur.size = G * n → cur.toList.take (k * n) = cs → wpList P ops Q rest (a.put o.dst (.slice (some ⟨w.heap.size, 0, none⟩) (k + m) G)) (w.drew.alloc (.cells cur Te))) : wpList P ops Q (o :: rest) a w := by
  subst him
  refine BigFrame.wpList_want hgd fun K hK => ?_
  obtain ⟨G, cur, h1, h2, h3, h4, hr⟩ := run_appZ hP h0 hTi w o.type hl hc hm hm0 hg hlen
  unfold Oper.wp execOp
  simp only [ho, resolve, invoke, builtin, Sem.run_bind, Sem.run_pure, Result.andThen_ok, List.map_toArray, List.map_cons, List.map_nil, hs, hx, hr]
  exact hK _ _ (h G cur h1 h2 h3 h4)
theorem run_clearQ (hP : LoP P T Te n) (hz1 : ∀ i z, P.info? Te = some i → i.zero = some z → ∀ u ∈ z.cells.toList, u.oneCell' = true) (w : World) (ty : TypeId) {ad : Option Addr} {m c : Nat} {g off : Nat} {cur : Array Value} {t : TypeId} (hg : w.heap[g]? = some (.cells cur t (0, 0))) (had : m = 0 ∨ ad = some ⟨g, off, none⟩) (hfit : m = 0 ∨ off + m * n ≤ cur.size) :
    ∃ w' cur', (Builtin.clear_ #[T] ty #[.slice ad m c]).run P w = .ok (.tuple #[]) w' ∧ w'.heap[g]? = some (.cells cur' t (0, 0)) ∧ cur'.size = cur.size ∧ (m ≠ 0 → cur'.toList.take off = cur.toList.take off) ∧ (m = 0 → cur' = cur) ∧ w.grownBy w' (some g) := by
  obtain ⟨i, z, hi, hz, hsz, hby, hzs⟩ := hP.all
  by_cases h0 : m = 0
  · subst h0
    refine ⟨w, cur, ?_, hg, rfl, fun _ => rfl, fun _ => rfl, ⟨rfl, rfl, rfl, Nat.le_refl _, fun _ _ _ => rfl⟩⟩
    cases ad <;> simp [Builtin.clear_, run_underlying hP.hT]
  · obtain rfl := had.resolve_left h0
    have hfit := hfit.resolve_left h0
    have hzl : (Builtin.zeroCells z.cells m).toList.length = m * n := by rw [Array.length_toList, size_zeroCells, hzs]
    have h1 : ∀ u ∈ (Builtin.zeroCells z.cells m).toList, u.oneCell' = true := by
      intro u hu
      simp only [Builtin.zeroCells, Array.toList_map, List.mem_map] at hu
      obtain ⟨j, hj, rfl⟩ := hu
      simp only [Array.toList_range, List.mem_range] at hj
      have h2 : 0 < z.cells.size := by
        rcases Nat.eq_zero_or_pos z.cells.size with h | h
        · rw [h, Nat.mul_zero] at hj; omega
        · exact h
      have h3 := Nat.mod_lt j h2
      rw [getElem!_pos z.cells _ h3]
      exact hz1 i z hi hz _ (by simp)
    have hst := run_storeCells_at P g off t _ 0 cur w hg (by rw [hzl]; simpa using hfit) h1
    simp only [Nat.add_zero] at hst
    refine ⟨_, (cur.toList.take off ++ (Builtin.zeroCells z.cells m).toList ++ cur.toList.drop (off + (Builtin.zeroCells z.cells m).toList.length)).toArray, ?_, setRow_heap w g cur _ t _ hg, ?_, ?_, fun h => absurd h h0, grown_setRow _ _ _⟩
    rotate_left
    · simp only [List.size_toArray, List.length_append, List.length_take, List.length_drop, hzl, Array.length_toList]
      omega
    · intro _
      simp only [List.append_assoc]
      rw [List.take_append_of_le_length (by rw [List.length_take, Array.length_toList]; omega), List.take_take, Nat.min_self]
    · obtain ⟨m', rfl⟩ : ∃ m', m = m' + 1 := ⟨m - 1, by omega⟩
      have hzv : (zeroValue Te).run P w = .ok z w := by simp [zeroValue, typeInfo, hi, hz]
      simp only [Builtin.clear_, List.getElem?_toArray, List.getElem?_cons_zero, Sem.run_bind, run_underlying hP.hT, Result.andThen_ok, hzv, hst, Sem.run_pure]
end
end Go.Proofs.Ytmcleffpjfeegaa
namespace Go.Proofs.Ytmcleffpjfeegaa
open Go.RowKit
def RetRow (Te : TypeId) (sz : Nat) (w : World) (v : Value) (n' : Nat) (vs' : List Value) (e : Ending) (w' : World) : Prop := ∃ v', e = .returned v' ∧ RowTo Te sz w v n' vs' v' w'
theorem new_cells {w : World} {b : Nat} {us : List Value} {t : TypeId} (hb : w.heap[b]? = some (.cells us.toArray t (0, 0))) (j : Nat) (u : Value) (h : us[j]? = some u) : w.cell? (Addr.add ⟨b, 0, none⟩ j) = some u := by
  simp [Addr.add_lit, World.cell?, hb, h]
theorem ins_cells {cur us : List Value} {p q r : Nat} (h1 : p ≤ q) (h2 : us.length = r) (h3 : q + r ≤ cur.length) :
    ((cur.take (p + r) ++ (cur.take q).drop p ++ cur.drop (p + r + ((cur.take q).drop p).length)).take p ++ us ++ (cur.take (p + r) ++ (cur.take q).drop p ++ cur.drop (p + r + ((cur.take q).drop p).length)).drop (p + us.length)).take (q + r) = (cur.take q).take p ++ us ++ (cur.take q).drop p := by
  have e0 : ((cur.take q).drop p).length = q - p := by rw [List.length_drop, List.length_take]; omega
  have e1 : (cur.take (p + r) ++ (cur.take q).drop p ++ cur.drop (p + r + ((cur.take q).drop p).length)).take p = (cur.take q).take p := by
    rw [List.append_assoc, List.take_append_of_le_length (by rw [List.length_take]; omega), List.take_take, List.take_take]
    congr 1; omega
  have e2 : (cur.take (p + r) ++ (cur.take q).drop p ++ cur.drop (p + r + ((cur.take q).drop p).length)).drop (p + us.length) = (cur.take q).drop p ++ cur.drop (p + r + (q - p)) := by
    rw [e0, h2, List.append_assoc, List.drop_append_of_le_length (by rw [List.length_take]; omega), List.drop_of_length_le (by rw [List.length_take]; omega), List.nil_append]
  rw [e1, e2, ← List.append_assoc]
  rw [List.take_append_of_le_length (by simp only [List.length_append, List.length_take, List.length_drop, h2]; omega), List.take_of_length_le (by simp only [List.length_append, List.length_take, List.length_drop, h2]; omega)]
theorem ins_new {cur vs us : List Value} {p q r : Nat} (h1 : p ≤ q) (h0 : vs.length = q) (h2 : us.length = r) (h4 : cur.take p = vs.take p) :
    ((cur.take p ++ us ++ cur.drop (p + us.length)).take (p + r) ++ vs.drop p ++ (cur.take p ++ us ++ cur.drop (p + us.length)).drop (p + r + (vs.drop p).length)).take (q + r) = vs.take p ++ us ++ vs.drop p := by
  have e0 : (vs.drop p).length = q - p := by rw [List.length_drop, h0]
  have e1 : (cur.take p ++ us ++ cur.drop (p + us.length)).take (p + r) = vs.take p ++ us := by
    rw [h4, List.take_append_of_le_length (by simp only [List.length_append, List.length_take, h2]; omega), List.take_of_length_le (by simp only [List.length_append, List.length_take, h2]; omega)]
  rw [e1, List.take_append_of_le_length (by simp only [List.length_append, List.length_take, List.length_drop, h2]; omega), List.take_of_length_le (by simp only [List.length_append, List.length_take, List.length_drop, h2]; omega)]
theorem overlaps_apart {P : Program} {T Te Tb : TypeId} {sz : Nat} (hP : LsP P T Te sz) {f : FuncId} {fn : Func} (hf : P.funcs[f]? = some fn) (hname : (fn.name == "runtime.NumGoroutine") = false) (hb : fn.body.isNone = true) (hn : Extern.findNext fn = none) (he : Extern.find fn = some (Extern.SlicesOverlaps.overlaps #[T, T] #[Tb]))
    {w : World} {b g off m k mc kc : Nat} {us : List Value} {cur : Array Value} (hbc : w.heap[b]? = some (.cells us.toArray Te (0, 0))) (hg : w.heap[g]? = some (.cells cur Te (0, 0))) (hne : b ≠ g) (hcur : cur.size ≠ 0) :
    (callFunc f #[.slice (some ⟨b, 0, none⟩) m mc, .slice (some ⟨g, off, none⟩) k kc]).run P w = .ok (.value (.bool false)) w := by
  obtain ⟨i, hi, hsz⟩ := hP.info
  rw [run_callFunc_extern hf hname hb hn he, Lib.run_overlaps_apart w T Tb Te hP.hT sz (fun w => by simp [sizeOf, typeInfo, hi, hsz]) ⟨b, 0, none⟩ ⟨g, off, none⟩ m mc k kc hne Te Te us.length cur.size (by simp [World.shape?, hbc]) (by simp [World.shape?, hg]) hcur (by simp [World.frozen?, hbc]) (by simp [World.frozen?, hbc])]
  rfl
section
variable {P : Program} {T Te : TypeId} {n : Nat} {ops : Array Oper} {rest : List Oper} {o : Oper} {a : Act} {Q : Exit → Act → World → Prop} {w : World} {K : Act → World → Prop}
theorem wpList_clearQ (hP : LoP P T Te n) (hz1 : ∀ i z, P.info? Te = some i → i.zero = some z → ∀ u ∈ z.cells.toList, u.oneCell' = true) {x : Operand} (ho : o.op = .call { callee := .builtin .clear, args := #[x], argTypes := #[T] }) (hd : o.dst = none) (hgd : Region.wanted o (yielded ops a.tmps) = true) {ad : Option Addr} {m c : Nat} (hx : a.eval x = .slice ad m c) {g off : Nat} {cur : Array Value} {t : TypeId} (hg : w.heap[g]? = some (.cells cur t (0, 0))) (had : m = 0 ∨ ad = some ⟨g, off, none⟩) (hfit : m = 0 ∨ off + m * n ≤ cur.size)
    (h : ∀ w' cur', w'.heap[g]? = some (.cells cur' t (0, 0)) → cur'.size = cur.size → (m ≠ 0 → cur'.toList.take off = cur.toList.take off) → (m = 0 → cur' = cur) → w.grownBy w' (some g) → wpList P ops Q rest a w') : wpList P ops Q (o :: rest) a w := by
  refine BigFrame.wpList_want hgd fun K hK => ?_
  obtain ⟨w', cur', hr, h1, h2, h3, h4, h5⟩ := run_clearQ hP hz1 w o.type hg had hfit (c := c)
  unfold Oper.wp execOp
  simp only [ho, resolve, invoke, builtin, Sem.run_bind, Sem.run_pure, Result.andThen_ok, List.map_toArray, List.map_cons, List.map_nil, hx, hr]
  refine hK _ _ ?_
  rw [hd]
  exact h w' cur' h1 h2 h3 h4 h5
end
theorem ones_of {t : TypeId} {z0 : Value} (h : (Try.prog.info? t).bind (·.zero) = some z0) (h1 : ∀ u ∈ z0.cells.toList, u.oneCell' = true) : ∀ i z, Try.prog.info? t = some i → i.zero = some z → ∀ u ∈ z.cells.toList, u.oneCell' = true := fun i z hi hz => by
  rw [hi] at h
  simp only [Option.bind_some, hz] at h
  cases h
  exact h1
end Go.Proofs.Ytmcleffpjfeegaa
namespace Go.Proofs.Ytmcleffpjfeegaa
open Go.RowKit
set_option maxRecDepth 100000 in
set_option maxHeartbeats 4000000 in
theorem insertEnd_s (w : World) {v : Value} {i b m : Nat} {vs us : List Value} (hv : RowQ 25 4 w v i vs) (hn : i + m ≤ 1000000) (hm : 0 < m) (hb : w.heap[b]? = some (.cells us.toArray 25 (0, 0))) (hu : us.length = m * 4) (hu1 : ∀ u ∈ us, u.oneCell' = true) :
    Calls Try.prog 64 #[v, .int .i64 i, .slice (some ⟨b, 0, none⟩) m m] w (RetRow 25 4 w v (i + m) (vs.take (i * 4) ++ us ++ vs.drop (i * 4))) := by
  have hz1 : ((m : Int) == 0) = false := beq_eq_false_iff_ne.2 (by omega)
  have hcs := new_cells hb
  have hl : vs.take (i * 4) ++ us ++ vs.drop (i * 4) = vs ++ us := by rw [List.take_of_length_le (by rw [hv.len]; omega), List.drop_of_length_le (by rw [hv.len]; omega), List.append_nil]
  rw [hl]
  clear hl
  obtain ⟨a, c, rfl, hnc, hcm⟩ := hv.shape
  go_enter Try.func64, Try.ntmps64
  go_upto_region 7 with (go_big_may; first
    | (refine wpList_sliceAny spP.toLsP rfl rfl rfl (l := i) (r := i) (run_bounds_l _ (by omega)) ?_; intro _)
    | fail)
  go_wp2_with (first
    | (refine wpList_appQ spP (by omega) rfl rfl rfl hv rfl hu hcs hu1 (by omega) ?_; intro ad cap w' hR)
    | fail)
  go_ret
  exact ⟨_, rfl, hR⟩
set_option maxRecDepth 100000 in
set_option maxHeartbeats 4000000 in
theorem insertGrow_s (w : World) {n i b m g cap : Nat} {vs us : List Value} (hv : RowQ 25 4 w (.slice (some ⟨g, 0, none⟩) n cap) n vs) (hi : i < n) (hn : n + m ≤ 1000000) (hm : 0 < m) (hb : w.heap[b]? = some (.cells us.toArray 25 (0, 0))) (hu : us.length = m * 4) (hu1 : ∀ u ∈ us, u.oneCell' = true) (hnc : n ≤ cap) (hroom : cap < n + m) :
    Calls Try.prog 64 #[.slice (some ⟨g, 0, none⟩) n cap, .int .i64 i, .slice (some ⟨b, 0, none⟩) m m] w (RetRow 25 4 w (.slice (some ⟨g, 0, none⟩) n cap) (n + m) (vs.take (i * 4) ++ us ++ vs.drop (i * 4))) := by
  have hz1 : ((m : Int) == 0) = false := beq_eq_false_iff_ne.2 (by omega)
  have hz2 : ((i : Int) == (n : Int)) = false := beq_eq_false_iff_ne.2 (by omega)
  have hz3 : decide ((cap : Int) < (n : Int) + (m : Int)) = true := decide_eq_true (by omega)
  have hcs := new_cells hb
  have hglt := hv.lt (k := g) rfl
  have hblt := (Array.getElem?_eq_some_iff.1 hb).1
  have hcs0 : ∀ (j : Nat) (u : Value), (vs.take (i * 4))[j]? = some u → w.cell? (Addr.add ⟨g, 0, none⟩ j) = some u := fun j u hj => by
    rw [List.getElem?_take] at hj
    split at hj
    · rw [Addr.add_lit, Nat.zero_add]; exact hv.cell rfl hj
    · cases hj
  have hl0 : (vs.take (i * 4)).length = i * 4 := by rw [List.length_take, hv.len]; exact Nat.min_eq_left (Nat.mul_le_mul_right _ (Nat.le_of_lt hi))
  go_enter Try.func64, Try.ntmps64
  go_upto_region 10 with (go_big_may; first
    | (refine wpList_sliceAny spP.toLsP rfl rfl rfl (l := i) (r := n) (run_bounds_l _ (by omega)) ?_; intro _)
    | (refine wpList_sliceTo spP.toLsP rfl rfl rfl (r := i) (run_bounds_h _ (by omega)) ?_)
    | (refine wpList_appZ spP (by omega) (by kernel_rfl) rfl rfl rfl (m := n + m - i) rfl (by omega) hl0 (fun q hq => by cases hq; exact hcs0) (fun h => by cases h) (by omega) (by omega) (by omega) ?_; intro G cr hG1 hG2 hG3 hG4)
    | fail)
  have hL : i + (n + m - i) = n + m := by omega
  rw [hL] at hG1 ⊢
  clear hL
  have hg1 : ((w.alloc (.cells cr 25)).drew).heap[w.heap.size]? = some (.cells cr 25 (0, 0)) := by simp only [World.alloc, World.drew, Array.getElem?_push_size]
  have q1 : Below w.heap.size w ((w.alloc (.cells cr 25)).drew) := ((Below.refl _ _).alloc (Nat.le_refl _) _).drew
  generalize (w.alloc (.cells cr 25)).drew = W1 at *
  have hcs1 : ∀ (j : Nat) (u : Value), us[j]? = some u → W1.cell? (Addr.add ⟨b, 0, none⟩ j) = some u := fun j u hj => by
    have := hcs j u hj
    rw [Addr.add_lit] at this ⊢
    exact (cell_keep (q1.block b hblt) _).trans this
  have hGs : (n + m) * 4 ≤ G * 4 := Nat.mul_le_mul_right _ hG1
  have hLs : (n + m) * 4 = n * 4 + m * 4 := by rw [Nat.add_mul]
  have his : i * 4 ≤ n * 4 := Nat.mul_le_mul_right _ (Nat.le_of_lt hi)
  go_upto_region 11 with (go_big_may; first
    | (refine wpList_sliceFrom spP.toLsP rfl rfl rfl (l := i) (r := n + m) (run_bounds_l _ (by omega)) (by omega) ?_)
    | (refine wpList_copyRaw spP.toLsP rfl rfl rfl rfl hg1 (cs := us) (by rw [Nat.min_eq_left (by omega)]; exact hu) hcs1 hu1 (by rw [hG3, hu]; omega) ?_; intro W2 hg2 hgr2)
    | fail)
  have q2 : Below w.heap.size w W2 := q1.grown hgr2 q1.size (fun k hk => by injection hk with hk; omega)
  have hdl : (vs.drop (i * 4)).length = (n - i) * 4 := by rw [List.length_drop, hv.len, Nat.sub_mul]
  have hgc : ∀ (W : World), Below w.heap.size w W → ∀ (j : Nat) (u : Value), (vs.drop (i * 4))[j]? = some u → W.cell? (Addr.add ⟨g, 0 + i * 4, none⟩ j) = some u := fun W hW j u hj => by
    rw [List.getElem?_drop] at hj
    rw [Addr.add_lit, Nat.zero_add]
    exact (cell_keep (hW.block g hglt) _).trans (hv.cell rfl hj)
  obtain ⟨C1, hC1⟩ : ∃ C1 : Array Value, C1 = (cr.toList.take (0 + i * 4) ++ us ++ cr.toList.drop (0 + i * 4 + us.length)).toArray := ⟨_, rfl⟩
  replace hg2 : W2.heap[w.heap.size]? = some (.cells C1 25 (0, 0)) := by rw [hC1]; simpa using hg2
  have hC1s : C1.size = G * 4 := by
    rw [hC1]
    simp only [List.size_toArray, List.length_append, List.length_take, List.length_drop, Array.length_toList, hG3, hu]
    omega
  refine wp_region_lnl (K := fun _ _ => True) (by kernel_rfl) (by kernel_rfl) [8] (by kernel_rfl) [lEq (.slice (some ⟨w.heap.size, 0, none⟩) (n + m) G), lEq (.int .i64 (i : Int)), lEq (.int .i64 (m : Int)), lEq (.int .i64 ((i : Int) + (m : Int))), lEq (.slice (some ⟨w.heap.size, 0 + (i + m) * 4, none⟩) (n + m - (i + m)) (G - (i + m))), lEq (.slice (some ⟨g, 0, none⟩) n cap), lEq (.int .i64 (i : Int)), lEq (.slice (some ⟨g, 0 + i * 4, none⟩) (n - i) (cap - i)), lAny] (fun l W => Below w.heap.size w W ∧ W.heap[w.heap.size]? = some (.cells (match l with | [] => C1 | _ :: _ => (C1.toList.take (0 + (i + m) * 4) ++ vs.drop (i * 4) ++ C1.toList.drop (0 + (i + m) * 4 + (vs.drop (i * 4)).length)).toArray) 25 (0, 0))) (fun l A B h hb => ⟨h.1.trans (hb.mono h.1.size), (hb.block _ (Array.getElem?_eq_some_iff.1 h.2).1).trans h.2⟩) ⟨q2, hg2⟩
    ⟨?o0, ?o1, ?o2, ?o3, ?o4, ?o5, ?o6, ?o7, ?o8, trivial⟩ ?fin
  case o0 =>
    refine LnOp.side rfl (by kernel_rfl) (fun A va w' k hF hT hk hJ hb hu hp hd => ?_)
    have e1 : A.eval (.tmp 9) = .slice (some ⟨w.heap.size, 0, none⟩) (n + m) G := hF 9 rfl
    exact BigFrame.wp_move _ rfl ⟨_, rfl, e1, Below.refl _ _⟩
  case o1 =>
    refine LnOp.side rfl (by kernel_rfl) (fun A va w' k hF hT hk hJ hb hu hp hd => ?_)
    have e1 : A.eval (.tmp 1) = .int .i64 (i : Int) := hF 1 rfl
    exact BigFrame.wp_move _ rfl ⟨_, rfl, e1, Below.refl _ _⟩
  case o2 =>
    refine LnOp.side rfl (by kernel_rfl) (fun A va w' k hF hT hk hJ hb hu hp hd => ?_)
    have e1 : A.eval (.tmp 7) = .int .i64 (m : Int) := hF 7 rfl
    exact BigFrame.wp_move _ rfl ⟨_, rfl, e1, Below.refl _ _⟩
  case o3 =>
    refine LnOp.side rfl (by kernel_rfl) (fun A va w' k hF hT hk hJ hb hu hp hd => ?_)
    have e1 : A.eval (.tmp 47) = .int .i64 (i : Int) := (hT 47 1 (by simp [size_put]) rfl).trans (hd ⟨1, .data⟩ (by simp) rfl rfl)
    have e2 : A.eval (.tmp 48) = .int .i64 (m : Int) := (hT 48 2 (by simp [size_put]) rfl).trans (hd ⟨2, .data⟩ (by simp) rfl rfl)
    exact wp_addI rfl (e1) (e2) (by omega) (by omega) ⟨_, rfl, rfl, Below.refl _ _⟩
  case o4 =>
    refine LnOp.side rfl (by kernel_rfl) (fun A va w' k hF hT hk hJ hb hu hp hd => ?_)
    have e1 : A.eval (.tmp 46) = .slice (some ⟨w.heap.size, 0, none⟩) (n + m) G := (hT 46 0 (by simp [size_put]) rfl).trans (hd ⟨0, .data⟩ (by simp) rfl rfl)
    have e2 : A.eval (.tmp 49) = .int .i64 ((i : Int) + (m : Int)) := (hT 49 3 (by simp [size_put]) rfl).trans (hd ⟨3, .data⟩ (by simp) rfl rfl)
    exact wp_sliceFrom spP.toLsP rfl (e1) (congrArg some e2) rfl (run_bounds_l' _ (by omega) (by omega)) (by omega) ⟨_, rfl, rfl, Below.refl _ _⟩
  case o5 =>
    refine LnOp.side rfl (by kernel_rfl) (fun A va w' k hF hT hk hJ hb hu hp hd => ?_)
    have e1 : A.eval (.tmp 0) = .slice (some ⟨g, 0, none⟩) n cap := hF 0 rfl
    exact BigFrame.wp_move _ rfl ⟨_, rfl, e1, Below.refl _ _⟩
  case o6 =>
    refine LnOp.side rfl (by kernel_rfl) (fun A va w' k hF hT hk hJ hb hu hp hd => ?_)
    have e1 : A.eval (.tmp 1) = .int .i64 (i : Int) := hF 1 rfl
    exact BigFrame.wp_move _ rfl ⟨_, rfl, e1, Below.refl _ _⟩
  case o7 =>
    refine LnOp.side rfl (by kernel_rfl) (fun A va w' k hF hT hk hJ hb hu hp hd => ?_)
    have e1 : A.eval (.tmp 51) = .slice (some ⟨g, 0, none⟩) n cap := (hT 51 5 (by simp [size_put]) rfl).trans (hd ⟨5, .data⟩ (by simp) rfl rfl)
    have e2 : A.eval (.tmp 52) = .int .i64 (i : Int) := (hT 52 6 (by simp [size_put]) rfl).trans (hd ⟨6, .data⟩ (by simp) rfl rfl)
    exact wp_sliceFrom spP.toLsP rfl (e1) (congrArg some e2) rfl (run_bounds_l' _ (by omega) (by omega)) (by omega) ⟨_, rfl, rfl, Below.refl _ _⟩
  case o8 =>
    refine LnOp.line 0 rfl rfl (fun A va w' hF hT hJ hu hd => ?_)
    have e1 : A.eval (.tmp 50) = .slice (some ⟨w.heap.size, 0 + (i + m) * 4, none⟩) (n + m - (i + m)) (G - (i + m)) := (hT 50 4 (by simp [size_put]) rfl).trans (hd ⟨4, .data⟩ (by simp) rfl rfl)
    have e2 : A.eval (.tmp 53) = .slice (some ⟨g, 0 + i * 4, none⟩) (n - i) (cap - i) := (hT 53 7 (by simp [size_put]) rfl).trans (hd ⟨7, .data⟩ (by simp) rfl rfl)
    refine wp_copyRaw spP.toLsP rfl e1 e2 hJ.2 (cs := vs.drop (i * 4)) (by rw [hdl, Nat.min_eq_left (by omega)]) (hgc _ hJ.1) (fun u hu => hv.2 u (List.mem_of_mem_drop hu)) ?_ ?_
    · show 0 + (i + m) * 4 + (vs.drop (i * 4)).length ≤ C1.size
      rw [hC1s, hdl, Nat.sub_mul, Nat.add_mul]
      omega
    · intro W3 hg3 hgr3
      exact ⟨_, rfl, ⟨hJ.1.grown hgr3 hJ.1.size (fun k hk => by injection hk with hk; omega), hg3⟩, trivial⟩
  case fin =>
    intro vs1 W3 hJ hG
    have e0 : vs1 0 = .slice (some ⟨w.heap.size, 0, none⟩) (n + m) G := hG 0 (by decide) rfl
    have e1 : vs1 1 = .int .i64 (i : Int) := hG 1 (by decide) rfl
    have e2 : vs1 2 = .int .i64 (m : Int) := hG 2 (by decide) rfl
    have e3 : vs1 3 = .int .i64 ((i : Int) + (m : Int)) := hG 3 (by decide) rfl
    have e4 : vs1 4 = .slice (some ⟨w.heap.size, 0 + (i + m) * 4, none⟩) (n + m - (i + m)) (G - (i + m)) := hG 4 (by decide) rfl
    have e5 : vs1 5 = .slice (some ⟨g, 0, none⟩) n cap := hG 5 (by decide) rfl
    have e6 : vs1 6 = .int .i64 (i : Int) := hG 6 (by decide) rfl
    have e7 : vs1 7 = .slice (some ⟨g, 0 + i * 4, none⟩) (n - i) (cap - i) := hG 7 (by decide) rfl
    simp only [putAll, e0, e1, e2, e3, e4, e5, e6, e7]
    clear hG e0 e1 e2 e3 e4 e5 e6 e7
    go_simp
    go_wp2_with fail
    go_ret
    refine ⟨_, rfl, RowQ.of hJ.2 hG1 hG2 ?_ ?_ ?_, ⟨hJ.1.os, hJ.1.tape, hJ.1.output, hJ.1.size, fun k hk _ => hJ.1.block k hk⟩, .inr ⟨_, rfl, Nat.le_refl _⟩⟩
    · show (List.toArray _).size = _
      simp only [List.size_toArray, List.length_append, List.length_take, List.length_drop, Array.length_toList, hC1s, hv.len, Nat.add_mul]
      rw [Nat.add_mul] at hGs
      omega
    · show List.take _ (C1.toList.take _ ++ _ ++ C1.toList.drop _) = _
      have := ins_new (cur := cr.toList) (vs := vs) (us := us) (p := i * 4) (q := n * 4) (r := m * 4) his hv.len hu hG4
      rw [hC1]
      simp only [Nat.add_mul, Nat.zero_add] at this ⊢
      exact this
    · intro u hu
      rcases List.mem_append.1 hu with h | h
      · rcases List.mem_append.1 h with h | h
        · exact hv.2 u (List.mem_of_mem_take h)
        · exact hu1 u h
      · exact hv.2 u (List.mem_of_mem_drop h)
set_option maxRecDepth 100000 in
set_option maxHeartbeats 4000000 in
theorem insertFit_s (w : World) {n i b m g cap : Nat} {vs us : List Value} (hv : RowQ 25 4 w (.slice (some ⟨g, 0, none⟩) n cap) n vs) (hi : i < n) (hn : n + m ≤ 1000000) (hm : 0 < m) (hb : w.heap[b]? = some (.cells us.toArray 25 (0, 0))) (hu : us.length = m * 4) (hu1 : ∀ u ∈ us, u.oneCell' = true) (hbg : b ≠ g) (hroom : n + m ≤ cap) :
    Calls Try.prog 64 #[.slice (some ⟨g, 0, none⟩) n cap, .int .i64 i, .slice (some ⟨b, 0, none⟩) m m] w (RetRow 25 4 w (.slice (some ⟨g, 0, none⟩) n cap) (n + m) (vs.take (i * 4) ++ us ++ vs.drop (i * 4))) := by
  have hz1 : ((m : Int) == 0) = false := beq_eq_false_iff_ne.2 (by omega)
  have hz2 : ((i : Int) == (n : Int)) = false := beq_eq_false_iff_ne.2 (by omega)
  have hz3 : decide ((cap : Int) < (n : Int) + (m : Int)) = false := decide_eq_false (by omega)
  have hcs := new_cells hb
  have hblt := (Array.getElem?_eq_some_iff.1 hb).1
  have hglt := hv.lt (k := g) rfl
  obtain ⟨cur, hg, hcm, hcs1, hct⟩ : ∃ cur, w.heap[g]? = some (.cells cur 25 (0, 0)) ∧ cap ≤ maxLen ∧ cur.size = cap * 4 ∧ cur.toList.take (n * 4) = vs := by
    rcases hv.cases with ⟨h, _⟩ | ⟨g', cap', cur, h, h1, h2, h3, h4, h5⟩
    · cases h
    · cases h
      exact ⟨cur, h1, h3, h4, h5⟩
  have his : i * 4 ≤ n * 4 := Nat.mul_le_mul_right _ (Nat.le_of_lt hi)
  have hns : (n + m) * 4 ≤ cap * 4 := Nat.mul_le_mul_right _ hroom
  have hdl : (vs.drop (i * 4)).length = (n - i) * 4 := by rw [List.length_drop, hv.len, Nat.sub_mul]
  have hov : ∀ off k kc, (callFunc 71 #[.slice (some ⟨b, 0, none⟩) m m, .slice (some ⟨g, off, none⟩) k kc]).run Try.prog w = .ok (.value (.bool false)) w := fun off k kc =>
    overlaps_apart (Tb := 4) spP.toLsP Try.func71 (by kernel_rfl) rfl (by kernel_rfl) (by kernel_rfl) hb hg hbg (by rw [hcs1]; have : 0 < cap * 4 := Nat.mul_pos (by omega) (by omega); omega)
  go_enter Try.func64, Try.ntmps64
  go_upto_region 15 with (go_big_may; first
    | (refine wpList_sliceAny spP.toLsP rfl rfl rfl (l := i) (r := n) (run_bounds_l _ (by omega)) ?_; intro _)
    | (refine wpList_sliceTo spP.toLsP rfl rfl rfl (r := n + m) (run_bounds_h _ (by omega)) ?_)
    | (refine wpList_sliceFrom spP.toLsP rfl rfl rfl (l := i + m) (r := n + m) (run_bounds_l' _ (by omega) (by omega)) (by omega) ?_)
    | fail)
  have hg0 := hg
  refine wp_region_lnl (K := fun _ _ => True) (by kernel_rfl) (by kernel_rfl) [8] (by kernel_rfl) [lEq (.slice (some ⟨g, 0, none⟩) (n + m) cap), lEq (.int .i64 (i : Int)), lEq (.int .i64 (m : Int)), lEq (.int .i64 ((i : Int) + (m : Int))), lEq (.slice (some ⟨g, 0 + (i + m) * 4, none⟩) (n + m - (i + m)) (cap - (i + m))), lEq (.slice (some ⟨g, 0, none⟩) (n + m) cap), lEq (.int .i64 (i : Int)), lEq (.slice (some ⟨g, 0 + i * 4, none⟩) (n + m - i) (cap - i)), lAny] (fun l W => Trd (· = g) w W ∧ W.heap[g]? = some (.cells (match l with | [] => cur | _ :: _ => (cur.toList.take (0 + (i + m) * 4) ++ vs.drop (i * 4) ++ cur.toList.drop (0 + (i + m) * 4 + (vs.drop (i * 4)).length)).toArray) 25 (0, 0))) (fun l A B h hb => ⟨h.1.trans (Trd.of (F := (· = g)) hb) (fun _ _ h => h), (hb.block _ (Array.getElem?_eq_some_iff.1 h.2).1).trans h.2⟩) ⟨Trd.refl _ _, hg⟩
    ⟨?o0, ?o1, ?o2, ?o3, ?o4, ?o5, ?o6, ?o7, ?o8, trivial⟩ ?fin
  case o0 =>
    refine LnOp.side rfl (by kernel_rfl) (fun A va w' k hF hT hk hJ hb hu hp hd => ?_)
    have e1 : A.eval (.tmp 0) = .slice (some ⟨g, 0, none⟩) (n + m) cap := hF 0 rfl
    exact BigFrame.wp_move _ rfl ⟨_, rfl, e1, Below.refl _ _⟩
  case o1 =>
    refine LnOp.side rfl (by kernel_rfl) (fun A va w' k hF hT hk hJ hb hu hp hd => ?_)
    have e1 : A.eval (.tmp 1) = .int .i64 (i : Int) := hF 1 rfl
    exact BigFrame.wp_move _ rfl ⟨_, rfl, e1, Below.refl _ _⟩
  case o2 =>
    refine LnOp.side rfl (by kernel_rfl) (fun A va w' k hF hT hk hJ hb hu hp hd => ?_)
    have e1 : A.eval (.tmp 7) = .int .i64 (m : Int) := hF 7 rfl
    exact BigFrame.wp_move _ rfl ⟨_, rfl, e1, Below.refl _ _⟩
  case o3 =>
    refine LnOp.side rfl (by kernel_rfl) (fun A va w' k hF hT hk hJ hb hu hp hd => ?_)
    have e1 : A.eval (.tmp 70) = .int .i64 (i : Int) := (hT 70 1 (by simp) rfl).trans (hd ⟨1, .data⟩ (by simp) rfl rfl)
    have e2 : A.eval (.tmp 71) = .int .i64 (m : Int) := (hT 71 2 (by simp) rfl).trans (hd ⟨2, .data⟩ (by simp) rfl rfl)
    exact wp_addI rfl (e1) (e2) (by omega) (by omega) ⟨_, rfl, rfl, Below.refl _ _⟩
  case o4 =>
    refine LnOp.side rfl (by kernel_rfl) (fun A va w' k hF hT hk hJ hb hu hp hd => ?_)
    have e1 : A.eval (.tmp 69) = .slice (some ⟨g, 0, none⟩) (n + m) cap := (hT 69 0 (by simp) rfl).trans (hd ⟨0, .data⟩ (by simp) rfl rfl)
    have e2 : A.eval (.tmp 72) = .int .i64 ((i : Int) + (m : Int)) := (hT 72 3 (by simp) rfl).trans (hd ⟨3, .data⟩ (by simp) rfl rfl)
    exact wp_sliceFrom spP.toLsP rfl (e1) (congrArg some e2) rfl (run_bounds_l' _ (by omega) (by omega)) (by omega) ⟨_, rfl, rfl, Below.refl _ _⟩
  case o5 =>
    refine LnOp.side rfl (by kernel_rfl) (fun A va w' k hF hT hk hJ hb hu hp hd => ?_)
    have e1 : A.eval (.tmp 0) = .slice (some ⟨g, 0, none⟩) (n + m) cap := hF 0 rfl
    exact BigFrame.wp_move _ rfl ⟨_, rfl, e1, Below.refl _ _⟩
  case o6 =>
    refine LnOp.side rfl (by kernel_rfl) (fun A va w' k hF hT hk hJ hb hu hp hd => ?_)
    have e1 : A.eval (.tmp 1) = .int .i64 (i : Int) := hF 1 rfl
    exact BigFrame.wp_move _ rfl ⟨_, rfl, e1, Below.refl _ _⟩
  case o7 =>
    refine LnOp.side rfl (by kernel_rfl) (fun A va w' k hF hT hk hJ hb hu hp hd => ?_)
    have e1 : A.eval (.tmp 74) = .slice (some ⟨g, 0, none⟩) (n + m) cap := (hT 74 5 (by simp) rfl).trans (hd ⟨5, .data⟩ (by simp) rfl rfl)
    have e2 : A.eval (.tmp 75) = .int .i64 (i : Int) := (hT 75 6 (by simp) rfl).trans (hd ⟨6, .data⟩ (by simp) rfl rfl)
    exact wp_sliceFrom spP.toLsP rfl (e1) (congrArg some e2) rfl (run_bounds_l' _ (by omega) (by omega)) (by omega) ⟨_, rfl, rfl, Below.refl _ _⟩
  case o8 =>
    refine LnOp.line 0 rfl rfl (fun A va w' hF hT hJ hu hd => ?_)
    have e1 : A.eval (.tmp 73) = .slice (some ⟨g, 0 + (i + m) * 4, none⟩) (n + m - (i + m)) (cap - (i + m)) := (hT 73 4 (by simp) rfl).trans (hd ⟨4, .data⟩ (by simp) rfl rfl)
    have e2 : A.eval (.tmp 76) = .slice (some ⟨g, 0 + i * 4, none⟩) (n + m - i) (cap - i) := (hT 76 7 (by simp) rfl).trans (hd ⟨7, .data⟩ (by simp) rfl rfl)
    refine wp_copyRaw spP.toLsP rfl e1 e2 hJ.2 (cs := vs.drop (i * 4)) (by rw [hdl, Nat.min_eq_right (by omega)]; congr 1; omega) (fun j u hj => ?_) (fun u hu => hv.2 u (List.mem_of_mem_drop hu)) ?_ ?_
    · rw [List.getElem?_drop, ← hct, List.getElem?_take] at hj
      split at hj
      · rw [Addr.add_lit, Nat.zero_add]
        have h5 : w'.heap[g]? = some (.cells cur 25 (0, 0)) := hJ.2
        simpa [World.cell?, h5, ← Array.getElem?_toList] using hj
      · cases hj
    · show 0 + (i + m) * 4 + (vs.drop (i * 4)).length ≤ cur.size
      rw [hcs1, hdl, Nat.zero_add, ← Nat.add_mul]
      exact Nat.mul_le_mul_right _ (by omega)
    · intro W3 hg3 hgr3
      exact ⟨_, rfl, ⟨hJ.1.trans (Trd.ofGrown (F := (· = g)) hgr3 fun k hk => by injection hk with hk; exact hk.symm) (fun _ _ h => h), hg3⟩, trivial⟩
  case fin =>
    intro vs1 W3 hJ hG
    have e0 : vs1 0 = .slice (some ⟨g, 0, none⟩) (n + m) cap := hG 0 (by decide) rfl
    have e1 : vs1 1 = .int .i64 (i : Int) := hG 1 (by decide) rfl
    have e2 : vs1 2 = .int .i64 (m : Int) := hG 2 (by decide) rfl
    have e3 : vs1 3 = .int .i64 ((i : Int) + (m : Int)) := hG 3 (by decide) rfl
    have e4 : vs1 4 = .slice (some ⟨g, 0 + (i + m) * 4, none⟩) (n + m - (i + m)) (cap - (i + m)) := hG 4 (by decide) rfl
    have e5 : vs1 5 = .slice (some ⟨g, 0, none⟩) (n + m) cap := hG 5 (by decide) rfl
    have e6 : vs1 6 = .int .i64 (i : Int) := hG 6 (by decide) rfl
    have e7 : vs1 7 = .slice (some ⟨g, 0 + i * 4, none⟩) (n + m - i) (cap - i) := hG 7 (by decide) rfl
    simp only [putAll, e0, e1, e2, e3, e4, e5, e6, e7]
    clear hG e0 e1 e2 e3 e4 e5 e6 e7
    obtain ⟨C1, hC1⟩ : ∃ C1 : Array Value, C1 = (cur.toList.take (0 + (i + m) * 4) ++ vs.drop (i * 4) ++ cur.toList.drop (0 + (i + m) * 4 + (vs.drop (i * 4)).length)).toArray := ⟨_, rfl⟩
    have hg3 : W3.heap[g]? = some (.cells C1 25 (0, 0)) := by rw [hC1]; exact hJ.2
    have hC1s : C1.size = cap * 4 := by
      rw [hC1]
      simp only [List.size_toArray, List.length_append, List.length_take, List.length_drop, Array.length_toList, hcs1, hv.len, Nat.add_mul]
      rw [Nat.add_mul] at hns
      omega
    have hcs3 : ∀ (j : Nat) (u : Value), us[j]? = some u → W3.cell? (Addr.add ⟨b, 0, none⟩ j) = some u := fun j u hj => by
      have := hcs j u hj
      rw [Addr.add_lit] at this ⊢
      exact (cell_keep (hJ.1.block b hblt hbg) _).trans this
    go_simp
    go_wp2_with (go_big_may; first
      | (refine wpList_sliceFrom spP.toLsP rfl rfl rfl (l := i) (r := n + m) (run_bounds_l _ (by omega)) (by omega) ?_)
      | (refine wpList_copyRaw spP.toLsP rfl rfl rfl rfl hg3 (cs := us) (by rw [Nat.min_eq_left (by omega)]; exact hu) hcs3 hu1 (by rw [hC1s, hu]; omega) ?_; intro W4 hg4 hgr4)
      | fail)
    go_ret
    have q4 : Trd (· = g) w W4 := hJ.1.trans (Trd.ofGrown (F := (· = g)) hgr4 fun k hk => by injection hk with hk; exact hk.symm) (fun _ _ h => h)
    refine ⟨_, rfl, RowQ.of hg4 hroom hcm ?_ ?_ ?_, ⟨q4.os, q4.tape, q4.output, q4.size, fun k hk hn => q4.block k hk fun h => hn (by rw [h]; rfl)⟩, .inl rfl⟩
    · simp only [List.size_toArray, List.length_append, List.length_take, List.length_drop, Array.length_toList, hC1s, hu]
      rw [Nat.add_mul] at hns
      omega
    · have := ins_cells (cur := cur.toList) (us := us) (p := i * 4) (q := n * 4) (r := m * 4) his hu (by rw [Array.length_toList, hcs1, ← Nat.add_mul]; exact hns)
      rw [hct] at this
      rw [hC1]
      simp only [Nat.zero_add, Nat.add_mul] at this ⊢
      exact this
    · intro u hu
      rcases List.mem_append.1 hu with h | h
      · rcases List.mem_append.1 h with h | h
        · exact hv.2 u (List.mem_of_mem_take h)
        · exact hu1 u h
      · exact hv.2 u (List.mem_of_mem_drop h)
theorem insert_s (w : World) {v : Value} {n i b m : Nat} {vs us : List Value} (hv : RowQ 25 4 w v n vs) (hi : i ≤ n) (hn : n + m ≤ 1000000) (hm : 0 < m) (hb : w.heap[b]? = some (.cells us.toArray 25 (0, 0))) (hu : us.length = m * 4) (hu1 : ∀ u ∈ us, u.oneCell' = true) (hbg : v.ownBlock ≠ some b) :
    Calls Try.prog 64 #[v, .int .i64 i, .slice (some ⟨b, 0, none⟩) m m] w (RetRow 25 4 w v (n + m) (vs.take (i * 4) ++ us ++ vs.drop (i * 4))) := by
  rcases Nat.lt_or_ge i n with h | h
  · rcases hv.cases with ⟨_, h2, _⟩ | ⟨g, cap, cur, rfl, _, h3, _⟩
    · omega
    · rcases Nat.lt_or_ge cap (n + m) with h4 | h4
      · exact insertGrow_s w hv h hn hm hb hu hu1 h3 h4
      · exact insertFit_s w hv h hn hm hb hu hu1 (fun e => hbg (by rw [e]; rfl)) h4
  · obtain rfl : i = n := by omega
    exact insertEnd_s w hv hn hm hb hu hu1
end Go.Proofs.Ytmcleffpjfeegaa
