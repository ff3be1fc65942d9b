/-
  TEXTS OF ONE PROOF, merged: Dmd, Quo, Cut, Slg.
-/
import Derived.Laws.Externs
import Derived.Lib.AppendZerosOnto
import Derived.Lib.Overlaps
import Derived.Test.YtjbdkhddnblieaaMa7
namespace Go.Proofs.Ytjbdkhddnblieaa
open Go.RowKit Go.Shelf
theorem str_leD {a b : List UInt8} : (Op.bytesLess (strOf a).toList (strOf b).toList || (strOf a).toList == (strOf b).toList) = !ltB b a := by
  rw [str_ltD, str_eqD]
  cases h : ltB a b with
  | true => rw [ltB_asymm h]; rfl
  | false =>
    by_cases e : a = b
    · subst e; rw [ltB_irrefl]; simp
    · rw [ltB_total e h]; simp [e]
theorem refGo_cons (w : Wr) (d : Bool) (p : Pq) (l : List Pq) : refGo w d (p :: l) = (if !d && !ltB p.key w.key then [⟨w.key, w.val⟩] else []) ++ ((if w.key = p.key then [] else [p]) ++ refGo w (d || !ltB p.key w.key) l) := rfl
theorem done_len (w : Wr) (l : List Pq) : (doneW w l).length ≤ l.length + 1 := by
  unfold doneW
  split
  · have := List.length_filter_le (fun y : Pq => decide (y.key ≠ w.key)) l
    unfold delE
    omega
  · generalize (⟨w.key, w.val⟩ : Pq) = x
    induction l with
    | nil => simp [insE]
    | cons y l ih =>
      unfold insE
      split
      · simp
      · split
        · simp
        · simpa using ih
set_option maxRecDepth 100000 in
set_option maxHeartbeats 16000000 in
theorem rOver_any (w : World) {S S2 S3 : Nat → Prop} {v v2 : Value} {d : Dl} {x0 : Sp} {aq : Option Addr} {n cq : Nat} {l : List Pq} (h : RdDl S w v d) (hx : RdSp S2 w v2 x0) (hl : RdL Elt.pq S3 w (.slice aq n cq) l) (hs : smQ l) :
    Calls Try.prog 27 #[v, v2, .slice aq n cq] w (PqEnd w (overD d x0 l)) := by
  have hd := h
  have hxs := hx
  obtain ⟨a, c, a2, c2, rfl, hw, hm⟩ := h
  obtain ⟨a', c', a2', c2', rfl, hlo', hhi', hxt⟩ := hx
  obtain ⟨rfl, hnc, hcm⟩ := hl.len
  obtain ⟨hs1, hs2⟩ := hs
  replace hl := hl.fit
  obtain ⟨W0, hW, q, bn, bx, hsz⟩ := boxes2 w 25 39 [.slice a d.writes.length c, .slice a2 d.marks.length c2] [.int .i64 x0.table, .slice a' x0.lo.length c', .slice a2' x0.hi.length c2', .bool x0.isOpen]
  have hsz2 : w.heap.size + 2 ≤ W0.heap.size := by omega
  clear hsz
  go_enter Try.func27, Try.ntmps27
  go_upto_region 1 with (fail)
  rw [show (w.alloc (.cells #[.slice a d.writes.length c, .slice a2 d.marks.length c2] 25)).alloc (.cells #[.int .i64 x0.table, .slice a' x0.lo.length c', .slice a2' x0.hi.length c2', .bool x0.isOpen] 39) = W0 from hW.symm]
  clear hW
  go_upto_region 3 with (fail)
  go_loopw [7, 8] (fun ov iv wr => ∃ (i0 : Nat) (ad : Option Addr) (ko : Nat), iv = .int .i64 i0 ∧ i0 ≤ l.length ∧ ov = .slice ad (l.take i0).length ko ∧ OwnL Elt.pq 53 (w.heap.size + 2) (w.heap.size + 2) wr (.slice ad (l.take i0).length ko) (l.take i0) ∧ BoxN wr w.heap.size 25 [.slice a d.writes.length c, .slice a2 d.marks.length c2] ∧ BoxN wr (w.heap.size + 1) 39 [.int .i64 x0.table, .slice a' x0.lo.length c', .slice a2' x0.hi.length c2', .bool x0.isOpen] ∧ Below w.heap.size w wr ∧ w.heap.size + 2 ≤ wr.heap.size)
    (fun _ i _ => l.length - (intOf i).toNat)
  case atStart => exact ⟨0, none, 0, rfl, Nat.zero_le _, rfl, OwnL.nil _ _ _ _ _, bn, bx, q, hsz2⟩
  case round =>
    clear q bn bx hsz2
    obtain ⟨i0, ad, ko, rfl, hkl, rfl, hO, bn, bx, q, hsz2⟩ := hrel
    rcases Nat.lt_or_ge i0 l.length with hlt | hge
    · obtain ⟨b, off, KA, KC, VA, VC, rfl, hb, c0', c1, hk1, hk2⟩ := (hl.below q).pq i0 hlt
      obtain ⟨hx1, hx2⟩ := hs2 _ (List.getElem_mem hlt)
      have hsn := Lib.hid (show l.take (i0 + 1) = l.take i0 ++ [l[i0]] from List.take_succ_eq_append_getElem hlt)
      obtain ⟨x, ex⟩ : ∃ x, x = l[i0] := ⟨_, rfl⟩
      obtain ⟨xs, exs⟩ : ∃ xs, xs = l.take i0 := ⟨_, rfl⟩
      have hxl : xs.length ≤ 1000000 := by rw [exs, List.length_take]; omega
      rw [← ex] at c0' c1 hk1 hk2 hx1 hx2 hsn
      rw [← exs] at hO hsn
      rw [← exs]
      clear ex exs
      have hrr : ∀ k, Value.ownBlock (.slice ad xs.length ko) = some k → w.heap.size + 2 ≤ k ∧ k < wr.heap.size := fun k hk => hO.block_lt k hk
      have hrW : ∀ k, Value.ownBlock (.slice ad xs.length ko) = some k → k < wr.heap.size := fun k hk => (hrr k hk).2
      have hS : ∀ k, (fun _ => False) k → some k ≠ Value.ownBlock (.slice ad xs.length ko) := fun _ h => h.elim
      have hrS : ∀ k, Value.ownBlock (.slice ad xs.length ko) = some k → ¬ (S3 k ∧ k < w.heap.size) := fun k hk h2 => by have := hrr k hk; omega
      have hbW : b < wr.heap.size := by omega
      have hbr : some b ≠ Value.ownBlock (.slice ad xs.length ko) := fun e => by have := hrr b e.symm; omega
      have hlo : w.heap.size + 2 ≤ wr.heap.size := hsz2
      have c0 := c0'
      go_upto_region 5 with (fail)
      refine wp_region_lnl (K := fun A B => A.grownBy B (Value.ownBlock (.slice ad xs.length ko))) (by kernel_rfl) (by kernel_rfl) [17, 18] (by kernel_rfl) [lEq (.slice ad xs.length ko), aZb 5 wr (Value.ownBlock (.slice ad xs.length ko)) hrW, lEq (.slice (some ⟨b, off, none⟩) l.length cq), lEq (.int .i64 (i0 : Nat)), lEq (.pointer (some ⟨b, off + i0 * 2, none⟩)), lEq (.pointer (some ⟨b, off + i0 * 2 + 0, none⟩)), lEq (.slice KA x.key.length KC), aRd (wr) (Value.ownBlock (.slice ad xs.length ko)) (fun _ => False) (x.key) hrW hS, aZb 5 wr (Value.ownBlock (.slice ad xs.length ko)) hrW, lEq (.slice (some ⟨b, off, none⟩) l.length cq), lEq (.int .i64 (i0 : Nat)), lEq (.pointer (some ⟨b, off + i0 * 2, none⟩)), lEq (.pointer (some ⟨b, off + i0 * 2 + 1, none⟩)), lEq (.slice VA x.val.length VC), aRd (wr) (Value.ownBlock (.slice ad xs.length ko)) (fun _ => False) (x.val) hrW hS, aElt Elt.pq (wr) (Value.ownBlock (.slice ad xs.length ko)) (fun _ => False) (x) hrW hS, aRow Elt.pq 53 (wr) (Value.ownBlock (.slice ad xs.length ko)) (fun _ => False) (x) hrW hS, lAny, lAny] (ApJ Elt.pq 53 (w.heap.size + 2) (w.heap.size + 2) (Value.ownBlock (.slice ad xs.length ko)) (wr) (xs) [x]) ApJ.below (show Below (wr).heap.size (wr) (wr) from Below.refl _ _)
        ⟨?o0, ?o1, ?o2, ?o3, ?o4, ?o5, ?o6, ?o7, ?o8, ?o9, ?o10, ?o11, ?o12, ?o13, ?o14, ?o15, ?o16, ?o17, ?o18, trivial⟩ ?fin
      case o0 =>
        refine LnOp.side rfl (by kernel_rfl) (fun A va w' k hF hT hk hJ hb hu hp hd => ?_)
        have e1 : A.eval (.tmp 7) = .slice ad xs.length ko := (hT 7 18 (by simp) rfl).trans (hu 1 18 7 (hb 1 18 rfl (by kernel_rfl)) rfl rfl)
        exact BigFrame.wp_move _ rfl ⟨_, rfl, e1, Below.refl _ _⟩
      case o1 =>
        refine LnOp.side rfl (by kernel_rfl) (fun A va w' k hF hT hk hJ hb hu hp hd => ?_)
        have hJg : (wr).grownBy w' (Value.ownBlock (.slice ad xs.length ko)) := ApJ.grown hJ
        exact wp_buildZ byP rfl (fun w2 hf => ⟨_, rfl, ⟨_, rfl, hf.2.to hJg.size⟩, hf.1⟩)
      case o2 =>
        refine LnOp.side rfl (by kernel_rfl) (fun A va w' k hF hT hk hJ hb hu hp hd => ?_)
        have e1 : A.eval (.tmp 2) = .slice (some ⟨b, off, none⟩) l.length cq := hF 2 rfl
        exact BigFrame.wp_move _ rfl ⟨_, rfl, e1, Below.refl _ _⟩
      case o3 =>
        refine LnOp.side rfl (by kernel_rfl) (fun A va w' k hF hT hk hJ hb hu hp hd => ?_)
        have e1 : A.eval (.tmp 8) = .int .i64 (i0 : Nat) := hF 8 rfl
        exact BigFrame.wp_move _ rfl ⟨_, rfl, e1, Below.refl _ _⟩
      case o4 =>
        refine LnOp.side rfl (by kernel_rfl) (fun A va w' k hF hT hk hJ hb hu hp hd => ?_)
        have e1 : A.eval (.tmp 25) = .slice (some ⟨b, off, none⟩) l.length cq := (hT 25 2 (by simp) rfl).trans (hd ⟨2, .data⟩ (by simp) rfl rfl)
        have e2 : A.eval (.tmp 26) = .int .i64 (i0 : Nat) := (hT 26 3 (by simp) rfl).trans (hd ⟨3, .data⟩ (by simp) rfl rfl)
        exact wp_ixN (e := 53) rfl (by kernel_rfl) (by kernel_rfl) (e1) (e2) rfl (by omega) ⟨_, rfl, rfl, Below.refl _ _⟩
      case o5 =>
        refine LnOp.side rfl (by kernel_rfl) (fun A va w' k hF hT hk hJ hb hu hp hd => ?_)
        have e1 : A.eval (.tmp 27) = .pointer (some ⟨b, off + i0 * 2, none⟩) := (hT 27 4 (by simp) rfl).trans (hd ⟨4, .data⟩ (by simp) rfl rfl)
        exact wp_fieldN pqS rfl (e1) (by omega) ⟨_, rfl, rfl, Below.refl _ _⟩
      case o6 =>
        refine LnOp.side rfl (by kernel_rfl) (fun A va w' k hF hT hk hJ hb hu hp hd => ?_)
        have e1 : A.eval (.tmp 28) = .pointer (some ⟨b, off + i0 * 2 + 0, none⟩) := (hT 28 5 (by simp) rfl).trans (hd ⟨5, .data⟩ (by simp) rfl rfl)
        have hJg : (wr).grownBy w' (Value.ownBlock (.slice ad xs.length ko)) := ApJ.grown hJ
        have c9 := (cell_keep (hJg.block b hbW hbr) _).trans c0
        exact wp_ld_slice (e := 5) rfl e1 (by kernel_rfl) c9 ⟨_, rfl, rfl, Below.refl _ _⟩
      case o7 =>
        refine LnOp.side rfl (by kernel_rfl) (fun A va w' k hF hT hk hJ hb hu hp hd => ?_)
        have x1 : A.eval (.tmp 24) = va 1 := hT 24 1 (by simp) rfl
        have y1 := hd ⟨1, .data⟩ (by simp) rfl rfl
        have e2 : A.eval (.tmp 29) = .slice KA x.key.length KC := (hT 29 6 (by simp) rfl).trans (hd ⟨6, .data⟩ (by simp) rfl rfl)
        have hJg : (wr).grownBy w' (Value.ownBlock (.slice ad xs.length ko)) := ApJ.grown hJ
        obtain ⟨g0, eg, hO0⟩ : ∃ g, va 1 = .slice (some g) 0 0 ∧ Own 5 wr.heap.size w' (va 1) [] := y1
        refine wp_append_zero byP rfl (x1.trans eg) (by rw [← eg]; exact hO0) e2 (hk1.grownR hJg hrS).rd hJg.size (fun ad7 k7 c7 w2 hO2 hb2 => ?_) (by omega)
        obtain rfl : k7 = x.key.length := hO2.len
        exact ⟨_, rfl, hO2.rdS.weak (fun k hk => ⟨.inr hk.1, hk.2⟩), hb2⟩
      case o8 =>
        refine LnOp.side rfl (by kernel_rfl) (fun A va w' k hF hT hk hJ hb hu hp hd => ?_)
        have hJg : (wr).grownBy w' (Value.ownBlock (.slice ad xs.length ko)) := ApJ.grown hJ
        exact wp_buildZ byP rfl (fun w2 hf => ⟨_, rfl, ⟨_, rfl, hf.2.to hJg.size⟩, hf.1⟩)
      case o9 =>
        refine LnOp.side rfl (by kernel_rfl) (fun A va w' k hF hT hk hJ hb hu hp hd => ?_)
        have e1 : A.eval (.tmp 2) = .slice (some ⟨b, off, none⟩) l.length cq := hF 2 rfl
        exact BigFrame.wp_move _ rfl ⟨_, rfl, e1, Below.refl _ _⟩
      case o10 =>
        refine LnOp.side rfl (by kernel_rfl) (fun A va w' k hF hT hk hJ hb hu hp hd => ?_)
        have e1 : A.eval (.tmp 8) = .int .i64 (i0 : Nat) := hF 8 rfl
        exact BigFrame.wp_move _ rfl ⟨_, rfl, e1, Below.refl _ _⟩
      case o11 =>
        refine LnOp.side rfl (by kernel_rfl) (fun A va w' k hF hT hk hJ hb hu hp hd => ?_)
        have e1 : A.eval (.tmp 32) = .slice (some ⟨b, off, none⟩) l.length cq := (hT 32 9 (by simp) rfl).trans (hd ⟨9, .data⟩ (by simp) rfl rfl)
        have e2 : A.eval (.tmp 33) = .int .i64 (i0 : Nat) := (hT 33 10 (by simp) rfl).trans (hd ⟨10, .data⟩ (by simp) rfl rfl)
        exact wp_ixN (e := 53) rfl (by kernel_rfl) (by kernel_rfl) (e1) (e2) rfl (by omega) ⟨_, rfl, rfl, Below.refl _ _⟩
      case o12 =>
        refine LnOp.side rfl (by kernel_rfl) (fun A va w' k hF hT hk hJ hb hu hp hd => ?_)
        have e1 : A.eval (.tmp 34) = .pointer (some ⟨b, off + i0 * 2, none⟩) := (hT 34 11 (by simp) rfl).trans (hd ⟨11, .data⟩ (by simp) rfl rfl)
        exact wp_fieldN pqS rfl (e1) (by omega) ⟨_, rfl, rfl, Below.refl _ _⟩
      case o13 =>
        refine LnOp.side rfl (by kernel_rfl) (fun A va w' k hF hT hk hJ hb hu hp hd => ?_)
        have e1 : A.eval (.tmp 35) = .pointer (some ⟨b, off + i0 * 2 + 1, none⟩) := (hT 35 12 (by simp) rfl).trans (hd ⟨12, .data⟩ (by simp) rfl rfl)
        have hJg : (wr).grownBy w' (Value.ownBlock (.slice ad xs.length ko)) := ApJ.grown hJ
        have c9 := (cell_keep (hJg.block b hbW hbr) _).trans c1
        exact wp_ld_slice (e := 5) rfl e1 (by kernel_rfl) c9 ⟨_, rfl, rfl, Below.refl _ _⟩
      case o14 =>
        refine LnOp.side rfl (by kernel_rfl) (fun A va w' k hF hT hk hJ hb hu hp hd => ?_)
        have x1 : A.eval (.tmp 31) = va 8 := hT 31 8 (by simp) rfl
        have y1 := hd ⟨8, .data⟩ (by simp) rfl rfl
        have e2 : A.eval (.tmp 36) = .slice VA x.val.length VC := (hT 36 13 (by simp) rfl).trans (hd ⟨13, .data⟩ (by simp) rfl rfl)
        have hJg : (wr).grownBy w' (Value.ownBlock (.slice ad xs.length ko)) := ApJ.grown hJ
        obtain ⟨g0, eg, hO0⟩ : ∃ g, va 8 = .slice (some g) 0 0 ∧ Own 5 wr.heap.size w' (va 8) [] := y1
        refine wp_append_zero byP rfl (x1.trans eg) (by rw [← eg]; exact hO0) e2 (hk2.grownR hJg hrS).rd hJg.size (fun ad7 k7 c7 w2 hO2 hb2 => ?_) (by omega)
        obtain rfl : k7 = x.val.length := hO2.len
        exact ⟨_, rfl, hO2.rdS.weak (fun k hk => ⟨.inr hk.1, hk.2⟩), hb2⟩
      case o15 =>
        refine LnOp.side rfl (by kernel_rfl) (fun A va w' k hF hT hk hJ hb hu hp hd => ?_)
        have x1 : A.eval (.tmp 30) = va 7 := hT 30 7 (by simp) rfl
        have y1 := hd ⟨7, .data⟩ (by simp) rfl rfl
        have x2 : A.eval (.tmp 37) = va 14 := hT 37 14 (by simp) rfl
        have y2 := hd ⟨14, .data⟩ (by simp) rfl rfl
        have z1 : RdS (inNew (fun _ => False) (wr) w') w' (va 7) (x.key) := y1
        have z2 : RdS (inNew (fun _ => False) (wr) w') w' (va 14) (x.val) := y2
        obtain ⟨A1, C1, q1, _, _⟩ := z1.shape
        obtain ⟨A2, C2, q2, _, _⟩ := z2.shape
        exact wp_build2 pqS rfl (x1.trans q1) (x2.trans q2) rfl rfl ⟨_, rfl, ⟨_, rfl, _, _, rfl, q1 ▸ z1, q2 ▸ z2⟩, Below.refl _ _⟩
      case o16 =>
        refine LnOp.side rfl (by kernel_rfl) (fun A va w' k hF hT hk hJ hb hu hp hd => ?_)
        have x1 : A.eval (.tmp 38) = va 15 := hT 38 15 (by simp) rfl
        have y1 := hd ⟨15, .data⟩ (by simp) rfl rfl
        obtain rfl : k = 0 := by have := hb 0 17 rfl (by kernel_rfl); omega
        have hJ0 : Below (wr).heap.size (wr) w' := hJ
        obtain ⟨us, eus, hR⟩ : ∃ us : List Value, (va 15).cells = us.toArray ∧ Elt.R Elt.pq (inNew (fun _ => False) (wr) w') w' (x) us := y1
        exact wp_buildOne pqP rfl x1 eus (Elt.len _ hR) (by decide) (by decide) ⟨_, rfl, aRow.mk (hr := hrW) (hS := hS) hJ0.size hR, (Below.refl _ _).alloc (Nat.le_refl _) _⟩
      case o17 =>
        refine LnOp.line 0 rfl rfl (fun A va w' hF hT hJ hu hd => ?_)
        have e1 : A.eval (.tmp 23) = .slice ad xs.length ko := (hT 23 0 (by simp) rfl).trans (hd ⟨0, .data⟩ (by simp) rfl rfl)
        have x2 : A.eval (.tmp 39) = va 16 := hT 39 16 (by simp) rfl
        have y2 := hd ⟨16, .data⟩ (by simp) rfl rfl
        exact wp_apv (hr := hrW) (hS := hS) pqP hJ rfl e1 x2 hO rfl y2 (fun _ h => h.elim) hlo hlo (by omega) (fun v' V' h1 h2 => ⟨_, rfl, h1, h2⟩)
      case o18 =>
        refine LnOp.line 1 rfl rfl (fun A va w' hF hT hJ hu hd => ?_)
        have x1 : A.eval (.tmp 40) = va 17 := hT 40 17 (by simp) rfl
        have hJ' : ApJ Elt.pq 53 (w.heap.size + 2) (w.heap.size + 2) (Value.ownBlock (.slice ad xs.length ko)) (wr) (xs) [x] [va 17, A.eval (.tmp 40)] w' := ⟨fun u hu => by obtain rfl := List.mem_singleton.1 hu; exact x1, hJ.2⟩
        exact BigFrame.wp_assign _ rfl ⟨_, rfl, hJ', grownB (Below.refl _ _) _⟩
      case fin =>
        intro vs1 W9 hJ hG
        obtain ⟨hsame, hg9, ad9, c9, e9, hO9⟩ := hJ
        have ea := hsame _ (List.mem_singleton.2 rfl)
        obtain ⟨L9, hL9⟩ : ∃ L9, L9 = (xs ++ [x]).length := ⟨_, rfl⟩
        rw [← hL9] at e9 hO9
        replace hL9 := Lib.hid hL9
        have g0 : vs1 0 = .slice ad xs.length ko := hG 0 (by decide) rfl
        have g2 : vs1 2 = .slice (some ⟨b, off, none⟩) l.length cq := hG 2 (by decide) rfl
        have g3 : vs1 3 = .int .i64 (i0 : Nat) := hG 3 (by decide) rfl
        have g4 : vs1 4 = .pointer (some ⟨b, off + i0 * 2, none⟩) := hG 4 (by decide) rfl
        have g5 : vs1 5 = .pointer (some ⟨b, off + i0 * 2 + 0, none⟩) := hG 5 (by decide) rfl
        have g6 : vs1 6 = .slice KA x.key.length KC := hG 6 (by decide) rfl
        have g9 : vs1 9 = .slice (some ⟨b, off, none⟩) l.length cq := hG 9 (by decide) rfl
        have g10 : vs1 10 = .int .i64 (i0 : Nat) := hG 10 (by decide) rfl
        have g11 : vs1 11 = .pointer (some ⟨b, off + i0 * 2, none⟩) := hG 11 (by decide) rfl
        have g12 : vs1 12 = .pointer (some ⟨b, off + i0 * 2 + 1, none⟩) := hG 12 (by decide) rfl
        have g13 : vs1 13 = .slice VA x.val.length VC := hG 13 (by decide) rfl
        clear hG hsame
        simp only [putAll, ea, e9, g0, g2, g3, g4, g5, g6, g9, g10, g11, g12, g13]
        clear ea e9 g0 g2 g3 g4 g5 g6 g9 g10 g11 g12 g13
        go_simp
        have q9 : Below w.heap.size w W9 := q.grown hg9 q.size fun k hk => by have := hrr k hk; omega
        have bn9 := bn.other hg9 (fun e => by have := hrr _ e; omega)
        have bx9 := bx.other hg9 (fun e => by have := hrr _ e; omega)
        have hz9 := hg9.size
        clear hO hk1 hk2 hg9 c0 c0' c1 bn bx
        go_wp2_with fail
        go_roundw
        case rel =>
          have e := hL9.out
          rw [← hsn.out] at e hO9
          subst e
          exact ⟨i0 + 1, ad9, c9, by go_num, by omega, rfl, hO9, bn9, bx9, q9, by omega⟩
        case measure => simp [intOf]; omega
    · obtain rfl : i0 = l.length := by omega
      rw [List.take_length] at hO
      rw [List.take_length]
      rename World => wa
      go_upto_region 7 with (fail)
      go_loopw [9] (fun iv wr => ∃ j : Nat, iv = .int .i64 ((j : Int) + 1) ∧ (j < l.length ∨ j = 0) ∧ RowKit.Hid (∀ i (h : i + 1 < l.length), i < j → ltB (l[i]'(by omega)).key (l[i + 1]'h).key = true) ∧ Below wa.heap.size wa wr) (fun i _ => l.length + 1 - (intOf i).toNat)
      case atStart => exact ⟨0, rfl, .inr rfl, Lib.hid (fun i _ h => absurd h (Nat.not_lt_zero _)), Below.refl _ _⟩
      case round =>
        obtain ⟨j, rfl, hjl, hno, qa⟩ := hrel
        have qq := q.trans (qa.mono q.size)
        rcases Nat.lt_or_ge (j + 1) l.length with hlt | hge
        · have d1 : decide ((j : Int) + 1 < (l.length : Int)) = true := decide_eq_true (by omega)
          have d0 : ((j : Int) + 1 < (l.length : Int)) = True := eq_true (by omega)
          obtain ⟨b, off, A, C, A2, C2, rfl, hb, e0, e1, hk1, hk2⟩ := (hl.below qq).pq j (by omega)
          obtain ⟨b', off', A', C', A2', C2', ee, hb', e0', e1', hk1', hk2'⟩ := (hl.below qq).pq (j + 1) hlt
          obtain ⟨rfl, rfl⟩ : b = b' ∧ off = off' := by simpa using ee
          have hj9 : (j : Int) ≤ 9223372036854775806 := by omega
          have w0 : IntKind.i64.wrap (j : Int) = (j : Int) := by rw [IntKind.wrap_i64]; omega
          obtain ⟨k1, hk10⟩ : ∃ k1, k1 = (l[j]'(by omega)).key := ⟨_, rfl⟩
          obtain ⟨k2, hk20⟩ : ∃ k2, k2 = (l[j + 1]'hlt).key := ⟨_, rfl⟩
          rw [← hk10] at e0 hk1
          rw [← hk20] at e0' hk1'
          have hnn : (0 : Int) ≤ (j : Int) + 1 := by omega
          have hj0 : j < l.length := by omega
          have r1 := hk1.rd
          have r2 := hk1'.rd
          clear e1 e1' hk2 hk2' ee hb hb' hk1 hk1'
          cases h3 : ltB k1 k2 with
          | true =>
            have d3 : Op.bytesLess (strOf k1).toList (strOf k2).toList = true := str_ltD.trans h3
            have d4 : (!Op.bytesLess (strOf k1).toList (strOf k2).toList) = false := by rw [d3]; rfl
            have H := Lib.hid (show ∀ i (h : i + 1 < l.length), i < j + 1 → ltB (l[i]'(by omega)).key (l[i + 1]'h).key = true from fun i h hi => by
              by_cases e : i = j
              · subst e; rw [← hk10, ← hk20]; exact h3
              · exact hno.out i h (by omega))
            clear h3 hno hk10 hk20 hjl
            go_upto_region 9 with (fail)
            refine wp_region_quiet_lit (by kernel_rfl) (by kernel_rfl) ?_
            repeat (first | go_big_quiet_step (fail) | (go_big_quiet_want; refine quiet_conv byP rfl rfl r1 ?_; go_big_quiet_on; go_simp) | (go_big_quiet_want; refine quiet_conv byP rfl rfl r2 ?_; go_big_quiet_on; go_simp))
            first | (refine wpQuiet_nil ?_; intro _ hw'; obtain ⟨nq, hw''⟩ := hw'; subst hw'') | intro nq
            go_wp2_with fail
            go_roundw
            case rel => exact ⟨j + 1, by go_num, .inl hlt, H, Go.Proofs.Ytjbdkhddnblieaa.Below.drewN qa _⟩
            case measure => simp [intOf]; omega
          | false =>
            have d3 : Op.bytesLess (strOf k1).toList (strOf k2).toList = false := str_ltD.trans h3
            have d4 : (!Op.bytesLess (strOf k1).toList (strOf k2).toList) = true := by rw [d3]; rfl
            have H := Lib.hid (show overD d x0 l = l from by
              unfold overD
              rw [if_neg fun h => by
                have := srtQ_iff.1 h j hlt
                rw [← hk10, ← hk20, h3] at this
                cases this])
            clear h3 hno hk10 hk20 hjl
            go_upto_region 9 with (fail)
            refine wp_region_quiet_lit (by kernel_rfl) (by kernel_rfl) ?_
            repeat (first | go_big_quiet_step (fail) | (go_big_quiet_want; refine quiet_conv byP rfl rfl r1 ?_; go_big_quiet_on; go_simp) | (go_big_quiet_want; refine quiet_conv byP rfl rfl r2 ?_; go_big_quiet_on; go_simp))
            first | (refine wpQuiet_nil ?_; intro _ hw'; obtain ⟨nq, hw''⟩ := hw'; subst hw'') | intro nq
            go_wp2_with fail
            go_ret
            rw [PqEnd, H.out]
            exact ⟨_, _, rfl, (hO.below (Go.Proofs.Ytjbdkhddnblieaa.Below.drewN qa _)).to (by omega) (by omega), Go.Proofs.Ytjbdkhddnblieaa.Below.drewN qq _⟩
        · have d1 : decide ((j : Int) + 1 < (l.length : Int)) = false := decide_eq_false (by omega)
          have d0 : ((j : Int) + 1 < (l.length : Int)) = False := eq_false (by omega)
          have hsrt := Lib.hid (show SrtQ l from srtQ_iff.2 fun i h => hno.out i h (by omega))
          clear hge hjl hno
          have bnA := bn.below qa bn.lt
          have bxA := bx.below qa bx.lt
          have hOA := hO.below qa
          have f0 := bnA.cell (i := 0) rfl
          have f1 := bnA.cell (i := 1) rfl
          go_wp2_with fail
          refine (rLast_any _ (hd.below qq)).mono ?_
          rintro e w3 ⟨la, lc, rfl, hLw, hb3⟩
          clear f0 f1
          have qq3 := qq.trans (hb3.mono qq.size)
          have bx3 := bxA.below hb3 bxA.lt
          have hO3 := hOA.below hb3
          have hz2 : w.heap.size + 2 ≤ wr.heap.size := by have := qa.size; omega
          have hz3 := hb3.size
          have hWs : RdL Elt.wr (fun k => w.heap.size + 2 ≤ k ∧ k < w3.heap.size) w3 (.slice la (lastD d).length lc) (lastD d) := hLw.rdS fun k hk hl => ⟨by omega, hl⟩
          have hwl : (lastD d).length ≤ 20 := by
            unfold lastD
            split
            · rename_i h; exact Nat.le_trans (last_len _) h.1
            · simp
          have hsmw : ∀ y ∈ lastD d, y.key.length ≤ 16 ∧ y.val.length ≤ 32 := fun y hy => by
            unfold lastD at hy
            split at hy
            · rename_i h; have := h.2.2.1 y (last_mem hy); exact ⟨this.2.2.1, this.2.2.2.1⟩
            · cases hy
          obtain ⟨ws, ews⟩ : ∃ ws, ws = lastD d := ⟨_, rfl⟩
          rw [← ews] at hWs hwl hsmw
          rw [← ews]
          have HD := Lib.hid (show overD d x0 l = overW x0 ws l by unfold overD; rw [if_pos hsrt.out, ews])
          replace hsmw := Lib.hid hsmw
          clear ews hLw hOA bnA bxA hO q bn bx qa hsz2 hb3
          go_upto_region 13 with (fail)
          clear hz2
          go_loopw [7, 11] (fun ov iv wr => ∃ (i : Nat) (ad : Option Addr) (ko : Nat) (cur : List Pq), iv = .int .i64 i ∧ i ≤ ws.length ∧ ov = .slice ad cur.length ko ∧ OwnL Elt.pq 53 (w.heap.size + 2) (w.heap.size + 2) wr (.slice ad cur.length ko) cur ∧ cur.length ≤ 1000000 + i ∧ RowKit.Hid (cur = overW x0 (ws.take i) l ∧ SrtQ cur) ∧ Below w3.heap.size w3 wr)
            (fun _ i _ => ws.length - (intOf i).toNat)
          case atStart => exact ⟨0, ad, ko, l, rfl, Nat.zero_le _, rfl, hO3, by omega, Lib.hid ⟨rfl, hsrt.out⟩, Below.refl _ _⟩
          case round =>
            clear hO3
            obtain ⟨i, ad, ko, cur, rfl, hil, rfl, hO, hcl, hcur, q3⟩ := hrel
            have bx := bx3.below q3 bx3.lt
            rcases Nat.lt_or_ge i ws.length with hlt | hge
            · obtain ⟨ub, uo, KA, KC, VA, VC, rfl, hub, c0, c1, c2, c3, hk1, hk2, hut⟩ := (hWs.below q3).wr i hlt
              obtain ⟨hm1, hm2⟩ := hsmw.out _ (List.getElem_mem hlt)
              have htk := Lib.hid (show ws.take (i + 1) = ws.take i ++ [ws[i]] from List.take_succ_eq_append_getElem hlt)
              obtain ⟨u, eu⟩ : ∃ u, u = ws[i] := ⟨_, rfl⟩
              rw [← eu] at c0 c1 c2 c3 hk1 hk2 hut hm1 hm2 htk
              clear eu
              go_upto_region 16 with (first | (refine wpList_boxNew (vs := [.int .i64 0, .slice none 0 0, .bool false, .slice none 0 0]) (by kernel_rfl) rfl rfl ?_; intro wa2 hba hBa) | (refine wpList_boxStore (us := [.int .i64 u.table, .slice KA u.key.length KC, .bool u.gone, .slice VA u.val.length VC]) (by kernel_rfl) rfl rfl rfl rfl rfl rfl hBa rfl ?_; intro W4 hgw hU) | fail)
              go_simp
              have hbw : Below wr.heap.size wr W4 := hba.grown hgw hba.size fun k hk => by injection hk with hk; omega
              have q4 := q3.trans (hbw.mono q3.size)
              have bx4 := bx.below hbw bx.lt
              have hk1' := hk1.below hbw
              have hzu : wr.heap.size < W4.heap.size := hU.lt
              clear c0 c1 c2 c3 hba hBa hgw
              have f0 := bx4.cell (i := 0) rfl
              have f1 := bx4.cell (i := 1) rfl
              have f2 := bx4.cell (i := 2) rfl
              have f3 := bx4.cell (i := 3) rfl
              have g1 := hU.cell (i := 1) rfl
              go_wp2_with fail
              refine (refIn_any W4 (hxs.below (qq3.trans (q4.mono qq3.size))) hk1').mono ?_
              rintro e W5 ⟨rfl, hb5⟩
              have q5 := q4.trans (hb5.mono q4.size)
              have hq5 := hbw.trans (hb5.mono hbw.size)
              have hU5 := hU.below hb5 hU.lt
              have bx5 := bx4.below hb5 bx4.lt
              have hz5 := hb5.size
              have hz4 := q3.size
              have hz34 := qq3.size
              have hkK : RdS (fun k => w.heap.size + 2 ≤ k ∧ k < W5.heap.size) W5 (.slice KA u.key.length KC) u.key := (hk1'.below hb5).weak fun k hk => ⟨hk.1, by omega⟩
              have hkV : RdS (fun k => w.heap.size + 2 ≤ k ∧ k < W5.heap.size) W5 (.slice VA u.val.length VC) u.val := ((hk2.below hbw).below hb5).weak fun k hk => ⟨hk.1, by omega⟩
              clear f0 f1 f2 f3 g1 hk1 hk2 hk1' bx bx4 hU
              have f0 := bx5.cell (i := 0) rfl
              have g0 := hU5.cell (i := 0) rfl
              have g2 := hU5.cell (i := 2) rfl
              by_cases htb : u.table = x0.table
              · have d1 : (u.table == x0.table) = true := beq_iff_eq.2 htb
                have d12 : (u.table != x0.table) = false := bne_eq_false_iff_eq.2 htb
                have d13 : decide (u.table = x0.table) = true := decide_eq_true htb
                cases hin : inS x0 u.key with
                | false =>
                  have hneg := Lib.hid (show ¬ (u.table = x0.table ∧ inS x0 u.key = true) from fun h => by rw [hin] at h; cases h.2)
                  clear htb hin
                  go_wp2_with fail
                  go_roundw
                  case rel => exact ⟨i + 1, ad, ko, cur, by go_num, by omega, rfl, hO.below hq5, by omega, Lib.hid ⟨by rw [htk.out, overW_snoc, ← hcur.out.1, stepW, if_neg hneg.out], hcur.out.2⟩, q5⟩
                  case measure => simp [intOf]; omega
                | true =>
                  have hstep := Lib.hid (show doneW u cur = overW x0 (ws.take (i + 1)) l by rw [htk.out, overW_snoc, ← hcur.out.1, stepW, if_pos ⟨htb, hin⟩])
                  have hcurR : RdL Elt.pq (fun k => w.heap.size + 2 ≤ k ∧ k < W5.heap.size) W5 (.slice ad cur.length ko) cur := (hO.below hq5).rdS fun k hk hl => ⟨by omega, hl⟩
                  clear htb hin hO hbw
                  go_upto_region 21 with (fail)
                  go_loopw [14, 15, 16] (fun nv dv kv wq => ∃ (k : Nat) (an : Option Addr) (kn : Nat) (acc : List Pq) (dn : Bool), nv = .slice an acc.length kn ∧ dv = .bool dn ∧ kv = .int .i64 k ∧ k ≤ cur.length ∧ acc.length ≤ 2 * k ∧ OwnL Elt.pq 53 W5.heap.size (w.heap.size + 2) wq (.slice an acc.length kn) acc ∧ RowKit.Hid (acc ++ refGo u dn (cur.drop k) = refGo u u.gone cur) ∧ Below W5.heap.size W5 wq)
                    (fun _ _ kv _ => cur.length - (intOf kv).toNat)
                  case atStart => exact ⟨0, none, 0, [], u.gone, rfl, rfl, rfl, Nat.zero_le _, Nat.zero_le _, OwnL.nil _ _ _ _ _, Lib.hid (by simp), Below.refl _ _⟩
                  case round =>
                    obtain ⟨k, an, kn, acc, dn, rfl, rfl, rfl, hkl, hal, hA, hgo, q6⟩ := hrel
                    rcases Nat.lt_or_ge k cur.length with hlt | hge
                    · obtain ⟨pb, po, PA, PC, PB, PD, rfl, hpb, p0, p1, hp1, hp2⟩ := hcurR.pq k hlt
                      obtain ⟨p, ep⟩ : ∃ p, p = cur[k] := ⟨_, rfl⟩
                      rw [← ep] at p0 p1 hp1 hp2
                      replace ep := Lib.hid ep
                      cases dn with
                      | true =>
                        have v0 := (q6.cell (p := ⟨pb, po + k * 2, none⟩) hpb.2).trans p0
                        have v1 := (q6.cell (p := ⟨pb, po + k * 2 + 1, none⟩) hpb.2).trans p1
                        have g1 := (hU5.below q6 hU5.lt).cell (i := 1) rfl
                        have g3 := (hU5.below q6 hU5.lt).cell (i := 3) rfl
                        have r1 := (hkK.below q6).rd
                        have r2 := (hp1.below q6).rd
                        go_upto_region 23 with (fail)
                        refine wp_region_quiet_lit (by kernel_rfl) (by kernel_rfl) ?_
                        repeat (first | go_big_quiet_step (fail) | (go_big_quiet_want; refine quiet_conv byP rfl rfl r1 ?_; go_big_quiet_on; go_simp) | (go_big_quiet_want; refine quiet_conv byP rfl rfl r2 ?_; go_big_quiet_on; go_simp))
                        first | (refine wpQuiet_nil ?_; intro _ hw'; obtain ⟨nq, hw''⟩ := hw'; subst hw'') | intro nq
                        have hbq : Below wr.heap.size wr (wr.drewN nq) := Go.Proofs.Ytjbdkhddnblieaa.Below.drewN (Below.refl _ _) nq
                        generalize wr.drewN nq = W7 at hbq ⊢
                        clear v0 v1 g1 g3 r1 r2
                        have q7 := q6.trans (hbq.mono q6.size)
                        have hA7 := hA.below hbq
                        clear hbq
                        by_cases he : u.key = p.key
                        · have d5 : ((strOf u.key).toList == (strOf p.key).toList) = true := str_eqD.trans (decide_eq_true he)
                          have d6 : ((strOf u.key).toList != (strOf p.key).toList) = false := by rw [bne, d5]; rfl
                          replace he := Lib.hid he
                          have v0 := (q7.cell (p := ⟨pb, po + k * 2, none⟩) hpb.2).trans p0
                          have v1 := (q7.cell (p := ⟨pb, po + k * 2 + 1, none⟩) hpb.2).trans p1
                          have g1 := (hU5.below q7 hU5.lt).cell (i := 1) rfl
                          have g3 := (hU5.below q7 hU5.lt).cell (i := 3) rfl
                          have r1 := (hkK.below q7).rd
                          have r2 := (hp1.below q7).rd
                          go_upto_region 26 with (fail)
                          refine wp_region_quiet_lit (by kernel_rfl) (by kernel_rfl) ?_
                          repeat (first | go_big_quiet_step (fail) | (go_big_quiet_want; refine quiet_conv byP rfl rfl r1 ?_; go_big_quiet_on; go_simp) | (go_big_quiet_want; refine quiet_conv byP rfl rfl r2 ?_; go_big_quiet_on; go_simp))
                          first | (refine wpQuiet_nil ?_; intro _ hw'; obtain ⟨nq, hw''⟩ := hw'; subst hw'') | intro nq
                          have hbq : Below W7.heap.size W7 (W7.drewN nq) := Go.Proofs.Ytjbdkhddnblieaa.Below.drewN (Below.refl _ _) nq
                          generalize W7.drewN nq = W8 at hbq ⊢
                          clear v0 v1 g1 g3 r1 r2
                          have q8 := q7.trans (hbq.mono q7.size)
                          have hA8 := hA7.below hbq
                          clear hbq
                          go_wp2_with fail
                          go_roundw
                          case rel =>
                            refine ⟨k + 1, an, kn, acc, true, by simp, rfl, by go_num, by omega, by first | omega | (simp; omega), by simpa using hA8, Lib.hid ?_, q8⟩
                            rw [← hgo.out, List.drop_eq_getElem_cons hlt, ← ep, refGo_cons]
                            simp [he.out]
                          case measure => simp [intOf]; omega
                        · have d5 : ((strOf u.key).toList == (strOf p.key).toList) = false := str_eqD.trans (decide_eq_false he)
                          have d6 : ((strOf u.key).toList != (strOf p.key).toList) = true := by rw [bne, d5]; rfl
                          replace he := Lib.hid he
                          have v0 := (q7.cell (p := ⟨pb, po + k * 2, none⟩) hpb.2).trans p0
                          have v1 := (q7.cell (p := ⟨pb, po + k * 2 + 1, none⟩) hpb.2).trans p1
                          have g1 := (hU5.below q7 hU5.lt).cell (i := 1) rfl
                          have g3 := (hU5.below q7 hU5.lt).cell (i := 3) rfl
                          have r1 := (hkK.below q7).rd
                          have r2 := (hp1.below q7).rd
                          go_upto_region 26 with (fail)
                          refine wp_region_quiet_lit (by kernel_rfl) (by kernel_rfl) ?_
                          repeat (first | go_big_quiet_step (fail) | (go_big_quiet_want; refine quiet_conv byP rfl rfl r1 ?_; go_big_quiet_on; go_simp) | (go_big_quiet_want; refine quiet_conv byP rfl rfl r2 ?_; go_big_quiet_on; go_simp))
                          first | (refine wpQuiet_nil ?_; intro _ hw'; obtain ⟨nq, hw''⟩ := hw'; subst hw'') | intro nq
                          have hbq : Below W7.heap.size W7 (W7.drewN nq) := Go.Proofs.Ytjbdkhddnblieaa.Below.drewN (Below.refl _ _) nq
                          generalize W7.drewN nq = W8 at hbq ⊢
                          clear v0 v1 g1 g3 r1 r2
                          have q8 := q7.trans (hbq.mono q7.size)
                          have hA8 := hA7.below hbq
                          clear hbq
                          have v0 := (q8.cell (p := ⟨pb, po + k * 2, none⟩) hpb.2).trans p0
                          have v1 := (q8.cell (p := ⟨pb, po + k * 2 + 1, none⟩) hpb.2).trans p1
                          have g1 := (hU5.below q8 hU5.lt).cell (i := 1) rfl
                          have g3 := (hU5.below q8 hU5.lt).cell (i := 3) rfl
                          have r1 := (hkK.below q8).rd
                          have r2 := (hp1.below q8).rd
                          have hob : ∀ k, Value.ownBlock (.slice an (acc.length) kn) = some k → W5.heap.size ≤ k := fun k hk => (hA8.block_lt k hk).1
                          have hzV := q8.size
                          have hR : Elt.pq.R (fun k => w.heap.size + 2 ≤ k ∧ k < W5.heap.size) _ p [.slice PA p.key.length PC, .slice PB p.val.length PD] := ⟨_, _, rfl, hp1.below q8, hp2.below q8⟩
                          go_wp2_with (first | (refine wpList_buildOne pqP rfl rfl rfl (us := [.slice PA p.key.length PC, .slice PB p.val.length PD]) rfl rfl (by decide) (by decide) ?_; intro w4 hb4 hrow) | (refine wpList_apvRow (E := Elt.pq) (n := acc.length + 1) pqP rfl rfl rfl rfl (hA8.below hb4) hrow (Elt.below hR hb4) (fun k hk => ⟨by omega, by have := hb4.size; omega, fun e => by have := hob k e.symm; omega⟩) (by have := hb4.size; omega) (by first | omega | (simp only [List.length_append, List.length_cons, List.length_nil]; omega)) rfl ?_; intro ad4 cap4 w5 hA5 hg5 _) | fail)
                          have q9 := (q8.trans (hb4.mono q8.size)).grown hg5 (by have := hb4.size; omega) hob
                          go_roundw
                          case rel =>
                            refine ⟨k + 1, ad4, cap4, (acc ++ [p]), true, by simp, rfl, by go_num, by omega, by first | omega | (simp; omega), by simpa using hA5, Lib.hid ?_, q9⟩
                            rw [← hgo.out, List.drop_eq_getElem_cons hlt, ← ep, refGo_cons]
                            simp [he.out]
                          case measure => simp [intOf]; omega
                      | false =>
                        cases hlt3 : ltB p.key u.key with
                        | true =>
                          have d3 : Op.bytesLess (strOf p.key).toList (strOf u.key).toList = true := str_ltD.trans hlt3
                          have d4 : (Op.bytesLess (strOf u.key).toList (strOf p.key).toList || (strOf u.key).toList == (strOf p.key).toList) = false := by rw [str_leD, hlt3]; rfl
                          replace hlt3 := Lib.hid hlt3
                          have v0 := (q6.cell (p := ⟨pb, po + k * 2, none⟩) hpb.2).trans p0
                          have v1 := (q6.cell (p := ⟨pb, po + k * 2 + 1, none⟩) hpb.2).trans p1
                          have g1 := (hU5.below q6 hU5.lt).cell (i := 1) rfl
                          have g3 := (hU5.below q6 hU5.lt).cell (i := 3) rfl
                          have r1 := (hkK.below q6).rd
                          have r2 := (hp1.below q6).rd
                          go_upto_region 23 with (fail)
                          refine wp_region_quiet_lit (by kernel_rfl) (by kernel_rfl) ?_
                          repeat (first | go_big_quiet_step (fail) | (go_big_quiet_want; refine quiet_conv byP rfl rfl r1 ?_; go_big_quiet_on; go_simp) | (go_big_quiet_want; refine quiet_conv byP rfl rfl r2 ?_; go_big_quiet_on; go_simp))
                          first | (refine wpQuiet_nil ?_; intro _ hw'; obtain ⟨nq, hw''⟩ := hw'; subst hw'') | intro nq
                          have hbq : Below wr.heap.size wr (wr.drewN nq) := Go.Proofs.Ytjbdkhddnblieaa.Below.drewN (Below.refl _ _) nq
                          generalize wr.drewN nq = W7 at hbq ⊢
                          clear v0 v1 g1 g3 r1 r2
                          have q7 := q6.trans (hbq.mono q6.size)
                          have hA7 := hA.below hbq
                          clear hbq
                          by_cases he : u.key = p.key
                          · have d5 : ((strOf u.key).toList == (strOf p.key).toList) = true := str_eqD.trans (decide_eq_true he)
                            have d6 : ((strOf u.key).toList != (strOf p.key).toList) = false := by rw [bne, d5]; rfl
                            replace he := Lib.hid he
                            have v0 := (q7.cell (p := ⟨pb, po + k * 2, none⟩) hpb.2).trans p0
                            have v1 := (q7.cell (p := ⟨pb, po + k * 2 + 1, none⟩) hpb.2).trans p1
                            have g1 := (hU5.below q7 hU5.lt).cell (i := 1) rfl
                            have g3 := (hU5.below q7 hU5.lt).cell (i := 3) rfl
                            have r1 := (hkK.below q7).rd
                            have r2 := (hp1.below q7).rd
                            go_upto_region 26 with (fail)
                            refine wp_region_quiet_lit (by kernel_rfl) (by kernel_rfl) ?_
                            repeat (first | go_big_quiet_step (fail) | (go_big_quiet_want; refine quiet_conv byP rfl rfl r1 ?_; go_big_quiet_on; go_simp) | (go_big_quiet_want; refine quiet_conv byP rfl rfl r2 ?_; go_big_quiet_on; go_simp))
                            first | (refine wpQuiet_nil ?_; intro _ hw'; obtain ⟨nq, hw''⟩ := hw'; subst hw'') | intro nq
                            have hbq : Below W7.heap.size W7 (W7.drewN nq) := Go.Proofs.Ytjbdkhddnblieaa.Below.drewN (Below.refl _ _) nq
                            generalize W7.drewN nq = W8 at hbq ⊢
                            clear v0 v1 g1 g3 r1 r2
                            have q8 := q7.trans (hbq.mono q7.size)
                            have hA8 := hA7.below hbq
                            clear hbq
                            go_wp2_with fail
                            go_roundw
                            case rel =>
                              refine ⟨k + 1, an, kn, acc, false, by simp, rfl, by go_num, by omega, by first | omega | (simp; omega), by simpa using hA8, Lib.hid ?_, q8⟩
                              rw [← hgo.out, List.drop_eq_getElem_cons hlt, ← ep, refGo_cons, hlt3.out]
                              simp [he.out]
                            case measure => simp [intOf]; omega
                          · have d5 : ((strOf u.key).toList == (strOf p.key).toList) = false := str_eqD.trans (decide_eq_false he)
                            have d6 : ((strOf u.key).toList != (strOf p.key).toList) = true := by rw [bne, d5]; rfl
                            replace he := Lib.hid he
                            have v0 := (q7.cell (p := ⟨pb, po + k * 2, none⟩) hpb.2).trans p0
                            have v1 := (q7.cell (p := ⟨pb, po + k * 2 + 1, none⟩) hpb.2).trans p1
                            have g1 := (hU5.below q7 hU5.lt).cell (i := 1) rfl
                            have g3 := (hU5.below q7 hU5.lt).cell (i := 3) rfl
                            have r1 := (hkK.below q7).rd
                            have r2 := (hp1.below q7).rd
                            go_upto_region 26 with (fail)
                            refine wp_region_quiet_lit (by kernel_rfl) (by kernel_rfl) ?_
                            repeat (first | go_big_quiet_step (fail) | (go_big_quiet_want; refine quiet_conv byP rfl rfl r1 ?_; go_big_quiet_on; go_simp) | (go_big_quiet_want; refine quiet_conv byP rfl rfl r2 ?_; go_big_quiet_on; go_simp))
                            first | (refine wpQuiet_nil ?_; intro _ hw'; obtain ⟨nq, hw''⟩ := hw'; subst hw'') | intro nq
                            have hbq : Below W7.heap.size W7 (W7.drewN nq) := Go.Proofs.Ytjbdkhddnblieaa.Below.drewN (Below.refl _ _) nq
                            generalize W7.drewN nq = W8 at hbq ⊢
                            clear v0 v1 g1 g3 r1 r2
                            have q8 := q7.trans (hbq.mono q7.size)
                            have hA8 := hA7.below hbq
                            clear hbq
                            have v0 := (q8.cell (p := ⟨pb, po + k * 2, none⟩) hpb.2).trans p0
                            have v1 := (q8.cell (p := ⟨pb, po + k * 2 + 1, none⟩) hpb.2).trans p1
                            have g1 := (hU5.below q8 hU5.lt).cell (i := 1) rfl
                            have g3 := (hU5.below q8 hU5.lt).cell (i := 3) rfl
                            have r1 := (hkK.below q8).rd
                            have r2 := (hp1.below q8).rd
                            have hob : ∀ k, Value.ownBlock (.slice an (acc.length) kn) = some k → W5.heap.size ≤ k := fun k hk => (hA8.block_lt k hk).1
                            have hzV := q8.size
                            have hR : Elt.pq.R (fun k => w.heap.size + 2 ≤ k ∧ k < W5.heap.size) _ p [.slice PA p.key.length PC, .slice PB p.val.length PD] := ⟨_, _, rfl, hp1.below q8, hp2.below q8⟩
                            go_wp2_with (first | (refine wpList_buildOne pqP rfl rfl rfl (us := [.slice PA p.key.length PC, .slice PB p.val.length PD]) rfl rfl (by decide) (by decide) ?_; intro w4 hb4 hrow) | (refine wpList_apvRow (E := Elt.pq) (n := acc.length + 1) pqP rfl rfl rfl rfl (hA8.below hb4) hrow (Elt.below hR hb4) (fun k hk => ⟨by omega, by have := hb4.size; omega, fun e => by have := hob k e.symm; omega⟩) (by have := hb4.size; omega) (by first | omega | (simp only [List.length_append, List.length_cons, List.length_nil]; omega)) rfl ?_; intro ad4 cap4 w5 hA5 hg5 _) | fail)
                            have q9 := (q8.trans (hb4.mono q8.size)).grown hg5 (by have := hb4.size; omega) hob
                            go_roundw
                            case rel =>
                              refine ⟨k + 1, ad4, cap4, (acc ++ [p]), false, by simp, rfl, by go_num, by omega, by first | omega | (simp; omega), by simpa using hA5, Lib.hid ?_, q9⟩
                              rw [← hgo.out, List.drop_eq_getElem_cons hlt, ← ep, refGo_cons, hlt3.out]
                              simp [he.out]
                            case measure => simp [intOf]; omega
                        | false =>
                          have d3 : Op.bytesLess (strOf p.key).toList (strOf u.key).toList = false := str_ltD.trans hlt3
                          have d4 : (Op.bytesLess (strOf u.key).toList (strOf p.key).toList || (strOf u.key).toList == (strOf p.key).toList) = true := by rw [str_leD, hlt3]; rfl
                          replace hlt3 := Lib.hid hlt3
                          have v0 := (q6.cell (p := ⟨pb, po + k * 2, none⟩) hpb.2).trans p0
                          have v1 := (q6.cell (p := ⟨pb, po + k * 2 + 1, none⟩) hpb.2).trans p1
                          have g1 := (hU5.below q6 hU5.lt).cell (i := 1) rfl
                          have g3 := (hU5.below q6 hU5.lt).cell (i := 3) rfl
                          have r1 := (hkK.below q6).rd
                          have r2 := (hp1.below q6).rd
                          go_upto_region 23 with (fail)
                          refine wp_region_quiet_lit (by kernel_rfl) (by kernel_rfl) ?_
                          repeat (first | go_big_quiet_step (fail) | (go_big_quiet_want; refine quiet_conv byP rfl rfl r1 ?_; go_big_quiet_on; go_simp) | (go_big_quiet_want; refine quiet_conv byP rfl rfl r2 ?_; go_big_quiet_on; go_simp))
                          first | (refine wpQuiet_nil ?_; intro _ hw'; obtain ⟨nq, hw''⟩ := hw'; subst hw'') | intro nq
                          have hbq : Below wr.heap.size wr (wr.drewN nq) := Go.Proofs.Ytjbdkhddnblieaa.Below.drewN (Below.refl _ _) nq
                          generalize wr.drewN nq = W6 at hbq ⊢
                          clear v0 v1 g1 g3 r1 r2
                          have qx := q6.trans (hbq.mono q6.size)
                          have hAx := hA.below hbq
                          clear hbq
                          have v0 := (qx.cell (p := ⟨pb, po + k * 2, none⟩) hpb.2).trans p0
                          have v1 := (qx.cell (p := ⟨pb, po + k * 2 + 1, none⟩) hpb.2).trans p1
                          have g1 := (hU5.below qx hU5.lt).cell (i := 1) rfl
                          have g3 := (hU5.below qx hU5.lt).cell (i := 3) rfl
                          have r1 := (hkK.below qx).rd
                          have r2 := (hp1.below qx).rd
                          have hob : ∀ k, Value.ownBlock (.slice an acc.length kn) = some k → W5.heap.size ≤ k := fun k hk => (hAx.block_lt k hk).1
                          have hzV := qx.size
                          have hR : Elt.pq.R (fun k => w.heap.size + 2 ≤ k ∧ k < W5.heap.size) _ ⟨u.key, u.val⟩ [.slice KA u.key.length KC, .slice VA u.val.length VC] := ⟨_, _, rfl, hkK.below qx, hkV.below qx⟩
                          go_upto_region 26 with (first | (refine wpList_buildOne pqP rfl rfl rfl (us := [.slice KA u.key.length KC, .slice VA u.val.length VC]) rfl rfl (by decide) (by decide) ?_; intro w4 hb4 hrow) | (refine wpList_apvRow (E := Elt.pq) (n := acc.length + 1) pqP rfl rfl rfl rfl (hAx.below hb4) hrow (Elt.below hR hb4) (fun k hk => ⟨by omega, by have := hb4.size; omega, fun e => by have := hob k e.symm; omega⟩) (by have := hb4.size; omega) (by first | omega | (simp only [List.length_append, List.length_cons, List.length_nil]; omega)) rfl ?_; intro ad4 cap4 w5 hA5 hg5 _) | fail)
                          go_simp
                          have q7 := (qx.trans (hb4.mono qx.size)).grown hg5 (by have := hb4.size; omega) hob
                          clear v0 v1 g1 g3 r1 r2
                          clear hob hzV hR hrow hA hAx
                          by_cases he : u.key = p.key
                          · have d5 : ((strOf u.key).toList == (strOf p.key).toList) = true := str_eqD.trans (decide_eq_true he)
                            have d6 : ((strOf u.key).toList != (strOf p.key).toList) = false := by rw [bne, d5]; rfl
                            replace he := Lib.hid he
                            have v0 := (q7.cell (p := ⟨pb, po + k * 2, none⟩) hpb.2).trans p0
                            have v1 := (q7.cell (p := ⟨pb, po + k * 2 + 1, none⟩) hpb.2).trans p1
                            have g1 := (hU5.below q7 hU5.lt).cell (i := 1) rfl
                            have g3 := (hU5.below q7 hU5.lt).cell (i := 3) rfl
                            have r1 := (hkK.below q7).rd
                            have r2 := (hp1.below q7).rd
                            go_upto_region 26 with (fail)
                            refine wp_region_quiet_lit (by kernel_rfl) (by kernel_rfl) ?_
                            repeat (first | go_big_quiet_step (fail) | (go_big_quiet_want; refine quiet_conv byP rfl rfl r1 ?_; go_big_quiet_on; go_simp) | (go_big_quiet_want; refine quiet_conv byP rfl rfl r2 ?_; go_big_quiet_on; go_simp))
                            first | (refine wpQuiet_nil ?_; intro _ hw'; obtain ⟨nq, hw''⟩ := hw'; subst hw'') | intro nq
                            have hbq : Below w5.heap.size w5 (w5.drewN nq) := Go.Proofs.Ytjbdkhddnblieaa.Below.drewN (Below.refl _ _) nq
                            generalize w5.drewN nq = W8 at hbq ⊢
                            clear v0 v1 g1 g3 r1 r2
                            have q8 := q7.trans (hbq.mono q7.size)
                            have hA8 := hA5.below hbq
                            clear hbq
                            go_wp2_with fail
                            go_roundw
                            case rel =>
                              refine ⟨k + 1, ad4, cap4, (acc ++ [⟨u.key, u.val⟩]), true, by simp, rfl, by go_num, by omega, by first | omega | (simp; omega), by simpa using hA8, Lib.hid ?_, q8⟩
                              rw [← hgo.out, List.drop_eq_getElem_cons hlt, ← ep, refGo_cons, hlt3.out]
                              simp [he.out]
                            case measure => simp [intOf]; omega
                          · have d5 : ((strOf u.key).toList == (strOf p.key).toList) = false := str_eqD.trans (decide_eq_false he)
                            have d6 : ((strOf u.key).toList != (strOf p.key).toList) = true := by rw [bne, d5]; rfl
                            replace he := Lib.hid he
                            have v0 := (q7.cell (p := ⟨pb, po + k * 2, none⟩) hpb.2).trans p0
                            have v1 := (q7.cell (p := ⟨pb, po + k * 2 + 1, none⟩) hpb.2).trans p1
                            have g1 := (hU5.below q7 hU5.lt).cell (i := 1) rfl
                            have g3 := (hU5.below q7 hU5.lt).cell (i := 3) rfl
                            have r1 := (hkK.below q7).rd
                            have r2 := (hp1.below q7).rd
                            go_upto_region 26 with (fail)
                            refine wp_region_quiet_lit (by kernel_rfl) (by kernel_rfl) ?_
                            repeat (first | go_big_quiet_step (fail) | (go_big_quiet_want; refine quiet_conv byP rfl rfl r1 ?_; go_big_quiet_on; go_simp) | (go_big_quiet_want; refine quiet_conv byP rfl rfl r2 ?_; go_big_quiet_on; go_simp))
                            first | (refine wpQuiet_nil ?_; intro _ hw'; obtain ⟨nq, hw''⟩ := hw'; subst hw'') | intro nq
                            have hbq : Below w5.heap.size w5 (w5.drewN nq) := Go.Proofs.Ytjbdkhddnblieaa.Below.drewN (Below.refl _ _) nq
                            generalize w5.drewN nq = W8 at hbq ⊢
                            clear v0 v1 g1 g3 r1 r2
                            have q8 := q7.trans (hbq.mono q7.size)
                            have hA8 := hA5.below hbq
                            clear hbq
                            have v0 := (q8.cell (p := ⟨pb, po + k * 2, none⟩) hpb.2).trans p0
                            have v1 := (q8.cell (p := ⟨pb, po + k * 2 + 1, none⟩) hpb.2).trans p1
                            have g1 := (hU5.below q8 hU5.lt).cell (i := 1) rfl
                            have g3 := (hU5.below q8 hU5.lt).cell (i := 3) rfl
                            have r1 := (hkK.below q8).rd
                            have r2 := (hp1.below q8).rd
                            have hob : ∀ k, Value.ownBlock (.slice ad4 (acc.length + 1) cap4) = some k → W5.heap.size ≤ k := fun k hk => (hA8.block_lt k hk).1
                            have hzV := q8.size
                            have hR : Elt.pq.R (fun k => w.heap.size + 2 ≤ k ∧ k < W5.heap.size) _ p [.slice PA p.key.length PC, .slice PB p.val.length PD] := ⟨_, _, rfl, hp1.below q8, hp2.below q8⟩
                            go_wp2_with (first | (refine wpList_buildOne pqP rfl rfl rfl (us := [.slice PA p.key.length PC, .slice PB p.val.length PD]) rfl rfl (by decide) (by decide) ?_; intro w4 hb4 hrow) | (refine wpList_apvRow (E := Elt.pq) (n := acc.length + 1 + 1) pqP rfl rfl rfl rfl (hA8.below hb4) hrow (Elt.below hR hb4) (fun k hk => ⟨by omega, by have := hb4.size; omega, fun e => by have := hob k e.symm; omega⟩) (by have := hb4.size; omega) (by first | omega | (simp only [List.length_append, List.length_cons, List.length_nil]; omega)) (by simp) ?_; intro ad4 cap4 w5 hA5 hg5 _) | fail)
                            have q9 := (q8.trans (hb4.mono q8.size)).grown hg5 (by have := hb4.size; omega) hob
                            go_roundw
                            case rel =>
                              refine ⟨k + 1, ad4, cap4, ((acc ++ [⟨u.key, u.val⟩]) ++ [p]), true, by simp, rfl, by go_num, by omega, by first | omega | (simp; omega), by simpa using hA5, Lib.hid ?_, q9⟩
                              rw [← hgo.out, List.drop_eq_getElem_cons hlt, ← ep, refGo_cons, hlt3.out]
                              simp [he.out]
                            case measure => simp [intOf]; omega
                    · have hkn : k = cur.length := by omega
                      have hfin := hgo.out
                      rw [hkn, List.drop_length, refGo_done hcur.out.2] at hfin
                      have dge : decide ((k : Int) < (cur.length : Int)) = false := decide_eq_false (by omega)
                      have dge2 : ((k : Int) < (cur.length : Int)) = False := eq_false (by omega)
                      have g1 := (hU5.below q6 hU5.lt).cell (i := 1) rfl
                      have g3 := (hU5.below q6 hU5.lt).cell (i := 3) rfl
                      clear hgo hge hkn
                      cases dn with
                      | true =>
                        have HF := Lib.hid (show acc = doneW u cur by simpa [refGo] using hfin)
                        clear hfin
                        go_wp2_with fail
                        go_roundw
                        case rel => exact ⟨i + 1, an, kn, acc, by go_num, by omega, rfl, hA.to (by omega) (Nat.le_refl _), by rw [HF.out]; have := done_len u cur; omega, Lib.hid ⟨by rw [HF.out, hstep.out], by rw [HF.out]; exact done_srt hcur.out.2⟩, q5.trans (q6.mono q5.size)⟩
                        case measure => simp [intOf]; omega
                      | false =>
                        have HF := Lib.hid (show acc ++ [⟨u.key, u.val⟩] = doneW u cur by simpa [refGo] using hfin)
                        clear hfin
                        have hob : ∀ k, Value.ownBlock (.slice an acc.length kn) = some k → W5.heap.size ≤ k := fun k hk => (hA.block_lt k hk).1
                        have hzV := q6.size
                        have hR : Elt.pq.R (fun k => w.heap.size + 2 ≤ k ∧ k < W5.heap.size) _ ⟨u.key, u.val⟩ [.slice KA u.key.length KC, .slice VA u.val.length VC] := ⟨_, _, rfl, hkK.below q6, hkV.below q6⟩
                        go_wp2_with (first | (refine wpList_buildOne pqP rfl rfl rfl (us := [.slice KA u.key.length KC, .slice VA u.val.length VC]) rfl rfl (by decide) (by decide) ?_; intro w4 hb4 hrow) | (refine wpList_apvRow (E := Elt.pq) (n := acc.length + 1) pqP rfl rfl rfl rfl (hA.below hb4) hrow (Elt.below hR hb4) (fun k hk => ⟨by omega, by have := hb4.size; omega, fun e => by have := hob k e.symm; omega⟩) (by have := hb4.size; omega) (by first | omega | (simp only [List.length_append, List.length_cons, List.length_nil]; omega)) rfl ?_; intro ad4 cap4 w5 hA5 hg5 _) | fail)
                        go_roundw
                        case rel =>
                          have q9 := (q6.trans (hb4.mono q6.size)).grown hg5 (by have := hb4.size; omega) hob
                          have hlen : (doneW u cur).length = acc.length + 1 := by rw [← HF.out]; simp
                          have hA6 : OwnL Elt.pq 53 W5.heap.size (w.heap.size + 2) w5 (.slice ad4 (doneW u cur).length cap4) (doneW u cur) := by rw [hlen, ← HF.out]; exact hA5
                          exact ⟨i + 1, ad4, cap4, doneW u cur, by go_num, by omega, by rw [hlen], hA6.to (by omega) (Nat.le_refl _), by have := done_len u cur; omega, Lib.hid ⟨hstep.out, done_srt hcur.out.2⟩, q5.trans (q9.mono q5.size)⟩
                        case measure => simp [intOf]; omega
              · have d1 : (u.table == x0.table) = false := beq_eq_false_iff_ne.2 htb
                have d12 : (u.table != x0.table) = true := bne_iff_ne.2 htb
                have d13 : decide (u.table = x0.table) = false := decide_eq_false htb
                have hneg := Lib.hid (show ¬ (u.table = x0.table ∧ inS x0 u.key = true) from fun h => htb h.1)
                clear htb
                go_wp2_with fail
                go_roundw
                case rel => exact ⟨i + 1, ad, ko, cur, by go_num, by omega, rfl, hO.below hq5, by omega, Lib.hid ⟨by rw [htk.out, overW_snoc, ← hcur.out.1, stepW, if_neg hneg.out], hcur.out.2⟩, q5⟩
                case measure => simp [intOf]; omega
            · obtain hin : i = ws.length := by omega
              have HE := Lib.hid (show overW x0 (ws.take i) l = overW x0 ws l by rw [hin, List.take_length])
              have dge : decide ((i : Int) < (ws.length : Int)) = false := decide_eq_false (by omega)
              have dge2 : ((i : Int) < (ws.length : Int)) = False := eq_false (by omega)
              clear hge hil hin
              go_wp2_with fail
              go_ret
              rw [PqEnd, HD.out, ← HE.out, ← hcur.out.1]
              exact ⟨_, _, rfl, hO.to (by omega) (by omega), qq3.trans (q3.mono qq3.size)⟩
end Go.Proofs.Ytjbdkhddnblieaa
namespace Go.Proofs.Ytjbdkhddnblieaa
open Go.RowKit
structure Trd (F : Nat → Prop) (w w' : World) : Prop where
  os : w'.os = w.os
  tape : w'.tape = w.tape
  output : w'.output = w.output
  size : w.heap.size ≤ w'.heap.size
  block : ∀ k, k < w.heap.size → ¬ F k → w'.heap[k]? = w.heap[k]?
section
variable {F F' : Nat → Prop} {a b c w w' : World}
theorem Trd.refl (F : Nat → Prop) (w : World) : Trd F w w := ⟨rfl, rfl, rfl, Nat.le_refl _, fun _ _ _ => rfl⟩
theorem Trd.trans (h : Trd F a b) (k : Trd F' b c) (hf : ∀ k, k < a.heap.size → F' k → F k) : Trd F a c :=
  ⟨k.os.trans h.os, k.tape.trans h.tape, k.output.trans h.output, Nat.le_trans h.size k.size, fun i hi hn => (k.block i (Nat.lt_of_lt_of_le hi h.size) fun hF => hn (hf i hi hF)).trans (h.block i hi hn)⟩
theorem Trd.of (h : Below w.heap.size w w') : Trd F w w' := ⟨h.os, h.tape, h.output, h.size, fun k hk _ => h.block k hk⟩
theorem Trd.ofGrown {r : Option Nat} (h : w.grownBy w' r) (hr : ∀ k, r = some k → F k) : Trd F w w' := ⟨h.os, h.tape, h.output, h.size, fun k hk hn => h.block k hk fun e => hn (hr k e.symm)⟩
end
def RowQ (Te : TypeId) (sz : Nat) (w : World) (v : Value) (n : Nat) (vs : List Value) : Prop := w.ownsRow 0 Te sz v n vs ∧ ∀ u ∈ vs, u.oneCell' = true
section
variable {Te : TypeId} {sz n : Nat} {w w' : World} {v : Value} {vs : List Value}
theorem RowQ.len (h : RowQ Te sz w v n vs) : vs.length = n * sz := h.1.1
theorem RowQ.cases (h : RowQ Te sz w v n vs) : (v = .slice none 0 0 ∧ n = 0 ∧ vs = []) ∨ ∃ g cap cur, v = .slice (some ⟨g, 0, none⟩) n cap ∧ w.heap[g]? = some (.cells cur Te (0, 0)) ∧ n ≤ cap ∧ cap ≤ maxLen ∧ cur.size = cap * sz ∧ cur.toList.take (n * sz) = vs := by
  rcases h.1.2 with ⟨h1, h2⟩ | ⟨g, cap, cur, h1, _, h2, h3, h4, h5, h6⟩
  · refine .inl ⟨h1, h2, List.eq_nil_of_length_eq_zero ?_⟩
    rw [h.len, h2, Nat.zero_mul]
  · exact .inr ⟨g, cap, cur, h1, h2, h3, h4, h5, h6⟩
theorem RowQ.of {g cap : Nat} {cur : Array Value} (hg : w.heap[g]? = some (.cells cur Te (0, 0))) (h1 : n ≤ cap) (h2 : cap ≤ maxLen) (h3 : cur.size = cap * sz) (h4 : cur.toList.take (n * sz) = vs) (h5 : ∀ u ∈ vs, u.oneCell' = true) : RowQ Te sz w (.slice (some ⟨g, 0, none⟩) n cap) n vs := by
  refine ⟨⟨?_, .inr ⟨g, cap, cur, rfl, Nat.zero_le _, hg, h1, h2, h3, h4⟩⟩, h5⟩
  rw [← h4, List.length_take, Array.length_toList, h3]
  exact Nat.min_eq_left (Nat.mul_le_mul_right _ h1)
theorem RowQ.shape (h : RowQ Te sz w v n vs) : ∃ a c, v = .slice a n c ∧ n ≤ c ∧ c ≤ maxLen := by
  rcases h.cases with ⟨rfl, rfl, _⟩ | ⟨g, cap, cur, rfl, _, h1, h2, _⟩
  · exact ⟨none, 0, rfl, Nat.le_refl _, by unfold maxLen; omega⟩
  · exact ⟨_, _, rfl, h1, h2⟩
theorem RowQ.block (h : RowQ Te sz w v n vs) {k : Nat} (hk : v.ownBlock = some k) : ∃ cur, w.heap[k]? = some (.cells cur Te (0, 0)) := by
  rcases h.cases with ⟨rfl, _, _⟩ | ⟨g, cap, cur, rfl, hg, _⟩
  · simp [Value.ownBlock] at hk
  · simp [Value.ownBlock] at hk
    subst hk
    exact ⟨_, hg⟩
theorem RowQ.lt (h : RowQ Te sz w v n vs) {k : Nat} (hk : v.ownBlock = some k) : k < w.heap.size := by
  obtain ⟨_, hg⟩ := h.block hk
  exact (Array.getElem?_eq_some_iff.1 hg).1
theorem RowQ.cell (h : RowQ Te sz w v n vs) {g : Nat} (hg : v.ownBlock = some g) {j : Nat} {u : Value} (hj : vs[j]? = some u) : w.cell? ⟨g, j, none⟩ = some u := by
  rcases h.cases with ⟨rfl, _, _⟩ | ⟨g', cap, cur, rfl, hb, _, _, _, ht⟩
  · simp [Value.ownBlock] at hg
  · simp [Value.ownBlock] at hg
    subst hg
    subst ht
    rw [List.getElem?_take] at hj
    split at hj
    · simp [World.cell?, hb, ← Array.getElem?_toList, hj]
    · cases hj
end
section
variable {P : Program} {T Te : TypeId} {n : Nat} {ops : Array Oper} {rest : List Oper} {o : Oper} {a : Act} {Q : Exit → Act → World → Prop} {w : World} {K : Act → World → Prop}
theorem wp_sliceRaw (hP : LsP P T Te n) {x : Operand} {lo hi : Option Operand} (ho : o.op = .slice T x lo hi none) {ad : Option Addr} {k c : Nat} (hx : a.eval x = .slice ad k c) {lov hiv : Option Value} (hlo : lo.map a.eval = lov) (hhi : hi.map a.eval = hiv)
    {l r : Nat} (hb : (Instr.sliceBounds true k c lov hiv none).run P w = .ok (l, r, c) w)
    (h : K (a.put o.dst (.slice (if c = l then ad else ad.map (·.add (l * n))) (r - l) (c - l))) w) : o.wp P a w K Q := by
  subst hlo; subst hhi
  unfold Oper.wp execOp
  simp only [ho, hx, Option.map_none, Sem.run_bind, Sem.run_pure, Result.andThen_ok, run_sliceL hP hb]
  exact h
theorem wp_sliceAny (hP : LsP P T Te n) {x : Operand} {lo hi : Option Operand} (ho : o.op = .slice T x lo hi none) {ad : Option Addr} {k c : Nat} (hx : a.eval x = .slice ad k c) {lov hiv : Option Value} (hlo : lo.map a.eval = lov) (hhi : hi.map a.eval = hiv)
    {l r : Nat} (hb : (Instr.sliceBounds true k c lov hiv none).run P w = .ok (l, r, c) w)
    (h : ∀ ad', K (a.put o.dst (.slice ad' (r - l) (c - l))) w) : o.wp P a w K Q := wp_sliceRaw hP ho hx hlo hhi hb (h _)
theorem wp_sliceFrom (hP : LsP P T Te n) {x : Operand} {lo hi : Option Operand} (ho : o.op = .slice T x lo hi none) {g off k c : Nat} (hx : a.eval x = .slice (some ⟨g, off, none⟩) k c) {lov hiv : Option Value} (hlo : lo.map a.eval = lov) (hhi : hi.map a.eval = hiv)
    {l r : Nat} (hb : (Instr.sliceBounds true k c lov hiv none).run P w = .ok (l, r, c) w) (hne : c ≠ l)
    (h : K (a.put o.dst (.slice (some ⟨g, off + l * n, none⟩) (r - l) (c - l))) w) : o.wp P a w K Q := by
  refine wp_sliceRaw hP ho hx hlo hhi hb ?_
  rw [if_neg hne]
  simpa [Addr.add_lit] using h
theorem wp_sliceTo (hP : LsP P T Te n) {x : Operand} {hi : Option Operand} (ho : o.op = .slice T x none hi none) {g off k c : Nat} (hx : a.eval x = .slice (some ⟨g, off, none⟩) k c) {hiv : Option Value} (hhi : hi.map a.eval = hiv)
    {r : Nat} (hb : (Instr.sliceBounds true k c none hiv none).run P w = .ok (0, r, c) w)
    (h : K (a.put o.dst (.slice (some ⟨g, off, none⟩) r c)) w) : o.wp P a w K Q := by
  refine wp_sliceRaw hP ho hx rfl hhi hb ?_
  simp only [Nat.sub_zero, Nat.zero_mul, Option.map_some, Addr.add_lit, Nat.add_zero]
  split <;> exact h
theorem wpList_sliceAny (hP : LsP P T Te n) {x : Operand} {lo hi : Option Operand} (ho : o.op = .slice T x lo hi none) (hgd : Region.wanted o (yielded ops a.tmps) = true) {ad : Option Addr} {k c : Nat} (hx : a.eval x = .slice ad k c)
    {l r : Nat} (hb : (Instr.sliceBounds true k c (lo.map a.eval) (hi.map a.eval) none).run P w = .ok (l, r, c) w)
    (h : ∀ ad', wpList P ops Q rest (a.put o.dst (.slice ad' (r - l) (c - l))) w) : wpList P ops Q (o :: rest) a w :=
  BigFrame.wpList_want hgd fun _ hK => wp_sliceAny hP ho hx rfl rfl hb fun ad' => hK _ _ (h ad')
theorem wpList_sliceFrom (hP : LsP P T Te n) {x : Operand} {lo hi : Option Operand} (ho : o.op = .slice T x lo hi none) (hgd : Region.wanted o (yielded ops a.tmps) = true) {g off k c : Nat} (hx : a.eval x = .slice (some ⟨g, off, none⟩) k c)
    {l r : Nat} (hb : (Instr.sliceBounds true k c (lo.map a.eval) (hi.map a.eval) none).run P w = .ok (l, r, c) w) (hne : c ≠ l)
    (h : wpList P ops Q rest (a.put o.dst (.slice (some ⟨g, off + l * n, none⟩) (r - l) (c - l))) w) : wpList P ops Q (o :: rest) a w :=
  BigFrame.wpList_want hgd fun _ hK => wp_sliceFrom hP ho hx rfl rfl hb hne (hK _ _ h)
theorem wpList_sliceTo (hP : LsP P T Te n) {x : Operand} {hi : Option Operand} (ho : o.op = .slice T x none hi none) (hgd : Region.wanted o (yielded ops a.tmps) = true) {g off k c : Nat} (hx : a.eval x = .slice (some ⟨g, off, none⟩) k c)
    {r : Nat} (hb : (Instr.sliceBounds true k c none (hi.map a.eval) none).run P w = .ok (0, r, c) w)
    (h : wpList P ops Q rest (a.put o.dst (.slice (some ⟨g, off, none⟩) r c)) w) : wpList P ops Q (o :: rest) a w :=
  BigFrame.wpList_want hgd fun _ hK => wp_sliceTo hP ho hx rfl hb (hK _ _ h)
theorem run_copyRaw (hP : LsP P T Te n) (w : World) (ty : TypeId) {sa : Addr} {nx cx : Nat} {cs : List Value} {g off dl dc : Nat} {cur : Array Value} {t : TypeId}
    (hg : w.heap[g]? = some (.cells cur t (0, 0))) (hl : cs.length = min nx dl * n) (hc : ∀ j u, cs[j]? = some u → w.cell? (sa.add j) = some u) (h1 : ∀ u ∈ cs, u.oneCell' = true) (hfit : off + cs.length ≤ cur.size) :
    (Builtin.copy_ #[T, T] ty #[.slice (some ⟨g, off, none⟩) dl dc, .slice (some sa) nx cx]).run P w = .ok (.int .i64 (min nx dl : Nat)) (w.setRow g (cur.toList.take off ++ cs ++ cur.toList.drop (off + cs.length)).toArray) := by
  obtain ⟨i, hi, hsz⟩ := hP.info
  have hst := run_storeCells_at P g off t cs 0 cur w hg (by simpa using hfit) h1
  simp only [Nat.add_zero] at hst
  have hfc : (Builtin.firstCells n (Nat.min nx dl) (.slice (some sa) nx cx)).run P w = .ok cs.toArray w := by
    have := run_loadCells_list (P := P) w sa cs hc
    rw [hl] at this
    simpa [Builtin.firstCells] using this
  simp [Builtin.copy_, run_underlying hP.hT, Builtin.lenOf, sizeOf, typeInfo, hi, hsz, hfc, hst, goInt]
theorem wp_copyRaw (hP : LsP P T Te n) {d s : Operand} (ho : o.op = .call { callee := .builtin .copy, args := #[d, s], argTypes := #[T, T] }) {sa : Addr} {nx cx : Nat} {cs : List Value} {g off dl dc : Nat} {cur : Array Value} {t : TypeId} (hd : a.eval d = .slice (some ⟨g, off, none⟩) dl dc) (hs : a.eval s = .slice (some sa) nx cx)
    (hg : w.heap[g]? = some (.cells cur t (0, 0))) (hl : cs.length = min nx dl * n) (hc : ∀ j u, cs[j]? = some u → w.cell? (sa.add j) = some u) (h1 : ∀ u ∈ cs, u.oneCell' = true) (hfit : off + cs.length ≤ cur.size)
    (h : ∀ w', w'.heap[g]? = some (.cells (cur.toList.take off ++ cs ++ cur.toList.drop (off + cs.length)).toArray t (0, 0)) → w.grownBy w' (some g) → K (a.put o.dst (.int .i64 (min nx dl : Nat))) w') : o.wp P a w K Q := by
  have hr := run_copyRaw hP w o.type hg hl hc h1 hfit (dc := dc) (cx := cx)
  unfold Oper.wp execOp
  simp only [ho, resolve, invoke, builtin, Sem.run_bind, Sem.run_pure, Result.andThen_ok, List.map_toArray, List.map_cons, List.map_nil, hd, hs, hr]
  exact h _ (setRow_heap _ _ _ _ _ _ hg) (grown_setRow _ _ _)
theorem wpList_copyRaw (hP : LsP P T Te n) {d s : Operand} (ho : o.op = .call { callee := .builtin .copy, args := #[d, s], argTypes := #[T, T] }) (hgd : Region.wanted o (yielded ops a.tmps) = true) {sa : Addr} {nx cx : Nat} {cs : List Value} {g off dl dc : Nat} {cur : Array Value} {t : TypeId} (hd : a.eval d = .slice (some ⟨g, off, none⟩) dl dc) (hs : a.eval s = .slice (some sa) nx cx)
    (hg : w.heap[g]? = some (.cells cur t (0, 0))) (hl : cs.length = min nx dl * n) (hc : ∀ j u, cs[j]? = some u → w.cell? (sa.add j) = some u) (h1 : ∀ u ∈ cs, u.oneCell' = true) (hfit : off + cs.length ≤ cur.size)
    (h : ∀ w', w'.heap[g]? = some (.cells (cur.toList.take off ++ cs ++ cur.toList.drop (off + cs.length)).toArray t (0, 0)) → w.grownBy w' (some g) → wpList P ops Q rest (a.put o.dst (.int .i64 (min nx dl : Nat))) w') : wpList P ops Q (o :: rest) a w :=
  BigFrame.wpList_want hgd fun _ hK => wp_copyRaw hP ho hd hs hg hl hc h1 hfit fun w' h2 h3 => hK _ _ (h w' h2 h3)
theorem run_appFit (hP : LsP P T Te n) (w : World) (ty : TypeId) {g k cap : Nat} {cur : Array Value} {t : TypeId} {sa : Addr} {m c : Nat} {cs : List Value} (hg : w.heap[g]? = some (.cells cur t (0, 0))) (hl : cs.length = m * n) (hc : ∀ j u, cs[j]? = some u → w.cell? (sa.add j) = some u)
    (h1 : ∀ u ∈ cs, u.oneCell' = true) (hroom : k + m ≤ cap) (hfit : k * n + cs.length ≤ cur.size) :
    (Builtin.append_ #[T, T] ty #[.slice (some ⟨g, 0, none⟩) k cap, .slice (some sa) m c]).run P w = .ok (.slice (some ⟨g, 0, none⟩) (k + m) cap) (w.setRow g (cur.toList.take (k * n) ++ cs ++ cur.toList.drop (k * n + cs.length)).toArray) := by
  obtain ⟨i, hi, hsz⟩ := hP.info
  have hst := run_storeCells_at P g (k * n) t cs 0 cur w hg (by simpa using hfit) h1
  simp only [Nat.add_zero] at hst
  have hfc : (Builtin.firstCells n m (.slice (some sa) m c)).run P w = .ok cs.toArray w := by
    have := run_loadCells_list (P := P) w sa cs hc
    rw [hl] at this
    simpa [Builtin.firstCells] using this
  simp [Builtin.append_, run_underlying hP.hT, sizeOf, typeInfo, hi, hsz, Builtin.lenOf, hroom, hfc, Addr.add_lit, hst]
theorem wp_appFit (hP : LsP P T Te n) {s x : Operand} (ho : o.op = .call { callee := .builtin .append, args := #[s, x], argTypes := #[T, T] }) {g k cap : Nat} {cur : Array Value} {t : TypeId} {sa : Addr} {m c : Nat} {cs : List Value} (hs : a.eval s = .slice (some ⟨g, 0, none⟩) k cap) (hx : a.eval x = .slice (some sa) m c)
    (hg : w.heap[g]? = some (.cells cur t (0, 0))) (hl : cs.length = m * n) (hc : ∀ j u, cs[j]? = some u → w.cell? (sa.add j) = some u)
    (h1 : ∀ u ∈ cs, u.oneCell' = true) (hroom : k + m ≤ cap) (hfit : k * n + cs.length ≤ cur.size)
    (h : ∀ w', w'.heap[g]? = some (.cells (cur.toList.take (k * n) ++ cs ++ cur.toList.drop (k * n + cs.length)).toArray t (0, 0)) → w.grownBy w' (some g) → K (a.put o.dst (.slice (some ⟨g, 0, none⟩) (k + m) cap)) w') : o.wp P a w K Q := by
  have hr := run_appFit hP w o.type hg hl hc h1 hroom hfit (c := c)
  unfold Oper.wp execOp
  simp only [ho, resolve, invoke, builtin, Sem.run_bind, Sem.run_pure, Result.andThen_ok, List.map_toArray, List.map_cons, List.map_nil, hs, hx, hr]
  exact h _ (setRow_heap _ _ _ _ _ _ hg) (grown_setRow _ _ _)
def RowTo (Te : TypeId) (sz : Nat) (w : World) (v : Value) (n' : Nat) (vs' : List Value) (v' : Value) (w' : World) : Prop :=
  RowQ Te sz w' v' n' vs' ∧ w.grownBy w' v.ownBlock ∧ (v'.ownBlock = v.ownBlock ∨ ∃ k, v'.ownBlock = some k ∧ w.heap.size ≤ k)
theorem run_appQ (hP : LoP P T Te n) (h0 : 0 < n) (w : World) (ty : TypeId) {v : Value} {k : Nat} {vs : List Value} (hv : RowQ Te n w v k vs) {p : Addr} {m c : Nat} {cs : List Value} (hl : cs.length = m * n) (hc : ∀ j u, cs[j]? = some u → w.cell? (p.add j) = some u) (h1 : ∀ u ∈ cs, u.oneCell' = true) (hlen : k + m ≤ 1073741824) :
    ∃ v' w', (Builtin.append_ #[T, T] ty #[v, .slice (some p) m c]).run P w = .ok v' w' ∧ RowTo Te n w v (k + m) (vs ++ cs) v' w' := by
  obtain ⟨i, z, hi, hz, hsz, hby, hzs⟩ := hP.all
  obtain ⟨v', w', hr, ho, hg, _, hb⟩ := run_append_own_at (P := P) (w := w) 0 T ty Te i z n i.bytes hP.hT hi hz hsz rfl hzs h0 v k vs hv.1 p m c cs hl hc h1 (by unfold maxLen; omega)
    (by have := Nat.mul_le_mul hlen hby; omega) (Nat.zero_le _)
  exact ⟨v', w', hr, ⟨ho, fun u hu => (List.mem_append.1 hu).elim (hv.2 u) (h1 u)⟩, hg, hb.imp id fun e => ⟨_, e, Nat.le_refl _⟩⟩
theorem wp_appQ (hP : LoP P T Te n) (h0 : 0 < n) {s x : Operand} (ho : o.op = .call { callee := .builtin .append, args := #[s, x], argTypes := #[T, T] }) {v : Value} {k : Nat} {vs : List Value} (hs : a.eval s = v) (hv : RowQ Te n w v k vs) {p : Addr} {m c : Nat} {cs : List Value} (hx : a.eval x = .slice (some p) m c)
    (hl : cs.length = m * n) (hc : ∀ j u, cs[j]? = some u → w.cell? (p.add j) = some u) (h1 : ∀ u ∈ cs, u.oneCell' = true) (hlen : k + m ≤ 1073741824)
    (h : ∀ ad cap w', RowTo Te n w v (k + m) (vs ++ cs) (.slice ad (k + m) cap) w' → K (a.put o.dst (.slice ad (k + m) cap)) w') : o.wp P a w K Q := by
  obtain ⟨v', w', hrun, h2⟩ := run_appQ hP h0 w o.type hv hl hc h1 hlen (c := c)
  obtain ⟨ad, cap, rfl, _⟩ := h2.1.shape
  unfold Oper.wp execOp
  simp only [ho, resolve, invoke, builtin, Sem.run_bind, Sem.run_pure, Result.andThen_ok, List.map_toArray, List.map_cons, List.map_nil, hs, hx, hrun]
  exact h _ _ _ h2
theorem wpList_appQ (hP : LoP P T Te n) (h0 : 0 < n) {s x : Operand} (ho : o.op = .call { callee := .builtin .append, args := #[s, x], argTypes := #[T, T] }) (hgd : Region.wanted o (yielded ops a.tmps) = true) {v : Value} {k : Nat} {vs : List Value} (hs : a.eval s = v) (hv : RowQ Te n w v k vs) {p : Addr} {m c : Nat} {cs : List Value} (hx : a.eval x = .slice (some p) m c)
    (hl : cs.length = m * n) (hc : ∀ j u, cs[j]? = some u → w.cell? (p.add j) = some u) (h1 : ∀ u ∈ cs, u.oneCell' = true) (hlen : k + m ≤ 1073741824)
    (h : ∀ ad cap w', RowTo Te n w v (k + m) (vs ++ cs) (.slice ad (k + m) cap) w' → wpList P ops Q rest (a.put o.dst (.slice ad (k + m) cap)) w') : wpList P ops Q (o :: rest) a w :=
  BigFrame.wpList_want hgd fun _ hK => wp_appQ hP h0 ho hs hv hx hl hc h1 hlen fun ad cap w' h2 => hK _ _ (h ad cap w' h2)
theorem run_appZ (hP : LoP P T Te n) (h0 : 0 < n) {Ti : TypeId} (hTi : P.underlying Ti = some (.int .i64)) (w : World) (ty : TypeId) {p : Option Addr} {k cap : Nat} {cs : List Value} (hl : cs.length = k * n) (hc : ∀ q, p = some q → ∀ j u, cs[j]? = some u → w.cell? (q.add j) = some u) (hm : p = none → k = 0) {m : Nat} (hm0 : 0 < m) (hg : cap < k + m) (hlen : k + m ≤ 1073741824) :
    ∃ (G : Nat) (cur : Array Value), k + m ≤ G ∧ G ≤ maxLen ∧ cur.size = G * n ∧ cur.toList.take (k * n) = cs ∧
      (Builtin.append_ #[T, Ti] ty #[.slice p k cap, .int .i64 m]).run P w = .ok (.slice (some ⟨w.heap.size, 0, none⟩) (k + m) G) (w.drew.alloc (.cells cur Te)) := by
  obtain ⟨i, z, hi, hz, hsz, hby, hzs⟩ := hP.all
  have hold : (Builtin.firstCells i.size k (.slice p k cap)).run P w.drew = .ok cs.toArray w.drew := by
    rw [hsz]
    cases p with
    | none =>
      obtain rfl := hm rfl
      obtain rfl : cs = [] := List.eq_nil_of_length_eq_zero (by omega)
      simp [Builtin.firstCells]
    | some q => exact run_firstCells_some w.drew n k q k cap cs hl (hc q rfl)
  have hbytes : (k + m) * i.bytes ≤ 1073741824 * 4096 := Nat.mul_le_mul hlen hby
  have hmb : m * i.bytes ≤ 1073741824 * 4096 := Nat.mul_le_mul (by omega) hby
  have hr := Lib.run_append_grow_zeros w T Ti ty Te i z .i64 .i64 hP.hT hTi hi hz p k cap cs hold m hm0 (by omega) hg (by omega) (by omega) (growslice_fits hg (by omega))
  refine ⟨_, _, grownCap_ge w (k + m) cap Te, grownCap_le_maxLen w _ _ _ (by unfold maxLen; omega), ?_, ?_, hr⟩
  · have hge := grownCap_ge w (k + m) cap Te
    simp only [Array.size_append, List.size_toArray, size_zeroCells, hzs, hl, ← Nat.add_mul]
    congr 1
    omega
  · simp only [Array.toList_append, List.append_assoc]
    rw [← hl]
    exact List.take_left
theorem wpList_appZ (hP : LoP P T Te n) (h0 : 0 < n) {Ti : TypeId} (hTi : P.underlying Ti = some (.int .i64)) {s x : Operand} (ho : o.op = .call { callee := .builtin .append, args := #[s, x], argTypes := #[T, Ti] }) (hgd : Region.wanted o (yielded ops a.tmps) = true) {p : Option Addr} {k cap m : Nat} {i : Int} (hs : a.eval s = .slice p k cap) (hx : a.eval x = .int .i64 i) (him : i = (m : Int))
    {cs : List Value} (hl : cs.length = k * n) (hc : ∀ q, p = some q → ∀ j u, cs[j]? = some u → w.cell? (q.add j) = some u) (hm : p = none → k = 0) (hm0 : 0 < m) (hg : cap < k + m) (hlen : k + m ≤ 1073741824)
    (h : ∀ (G : Nat) (cur : Array Value), k + m ≤ G → G ≤ maxLen → cur.size = G * n → cur.toList.take (k * n) = cs → wpList P ops Q rest (a.put o.dst (.slice (some ⟨w.heap.size, 0, none⟩) (k + m) G)) (w.drew.alloc (.cells cur Te))) : wpList P ops Q (o :: rest) a w := by
  subst him
  refine BigFrame.wpList_want hgd fun K hK => ?_
  obtain ⟨G, cur, h1, h2, h3, h4, hr⟩ := run_appZ hP h0 hTi w o.type hl hc hm hm0 hg hlen
  unfold Oper.wp execOp
  simp only [ho, resolve, invoke, builtin, Sem.run_bind, Sem.run_pure, Result.andThen_ok, List.map_toArray, List.map_cons, List.map_nil, hs, hx, hr]
  exact hK _ _ (h G cur h1 h2 h3 h4)
theorem run_clearQ (hP : LoP P T Te n) (hz1 : ∀ i z, P.info? Te = some i → i.zero = some z → ∀ u ∈ z.cells.toList, u.oneCell' = true) (w : World) (ty : TypeId) {ad : Option Addr} {m c : Nat} {g off : Nat} {cur : Array Value} {t : TypeId} (hg : w.heap[g]? = some (.cells cur t (0, 0))) (had : m = 0 ∨ ad = some ⟨g, off, none⟩) (hfit : m = 0 ∨ off + m * n ≤ cur.size) :
    ∃ w' cur', (Builtin.clear_ #[T] ty #[.slice ad m c]).run P w = .ok (.tuple #[]) w' ∧ w'.heap[g]? = some (.cells cur' t (0, 0)) ∧ cur'.size = cur.size ∧ (m ≠ 0 → cur'.toList.take off = cur.toList.take off) ∧ (m = 0 → cur' = cur) ∧ w.grownBy w' (some g) := by
  obtain ⟨i, z, hi, hz, hsz, hby, hzs⟩ := hP.all
  by_cases h0 : m = 0
  · subst h0
    refine ⟨w, cur, ?_, hg, rfl, fun _ => rfl, fun _ => rfl, ⟨rfl, rfl, rfl, Nat.le_refl _, fun _ _ _ => rfl⟩⟩
    cases ad <;> simp [Builtin.clear_, run_underlying hP.hT]
  · obtain rfl := had.resolve_left h0
    have hfit := hfit.resolve_left h0
    have hzl : (Builtin.zeroCells z.cells m).toList.length = m * n := by rw [Array.length_toList, size_zeroCells, hzs]
    have h1 : ∀ u ∈ (Builtin.zeroCells z.cells m).toList, u.oneCell' = true := by
      intro u hu
      simp only [Builtin.zeroCells, Array.toList_map, List.mem_map] at hu
      obtain ⟨j, hj, rfl⟩ := hu
      simp only [Array.toList_range, List.mem_range] at hj
      have h2 : 0 < z.cells.size := by
        rcases Nat.eq_zero_or_pos z.cells.size with h | h
        · rw [h, Nat.mul_zero] at hj; omega
        · exact h
      have h3 := Nat.mod_lt j h2
      rw [getElem!_pos z.cells _ h3]
      exact hz1 i z hi hz _ (by simp)
    have hst := run_storeCells_at P g off t _ 0 cur w hg (by rw [hzl]; simpa using hfit) h1
    simp only [Nat.add_zero] at hst
    refine ⟨_, (cur.toList.take off ++ (Builtin.zeroCells z.cells m).toList ++ cur.toList.drop (off + (Builtin.zeroCells z.cells m).toList.length)).toArray, ?_, setRow_heap w g cur _ t _ hg, ?_, ?_, fun h => absurd h h0, grown_setRow _ _ _⟩
    rotate_left
    · simp only [List.size_toArray, List.length_append, List.length_take, List.length_drop, hzl, Array.length_toList]
      omega
    · intro _
      simp only [List.append_assoc]
      rw [List.take_append_of_le_length (by rw [List.length_take, Array.length_toList]; omega), List.take_take, Nat.min_self]
    · obtain ⟨m', rfl⟩ : ∃ m', m = m' + 1 := ⟨m - 1, by omega⟩
      have hzv : (zeroValue Te).run P w = .ok z w := by simp [zeroValue, typeInfo, hi, hz]
      simp only [Builtin.clear_, List.getElem?_toArray, List.getElem?_cons_zero, Sem.run_bind, run_underlying hP.hT, Result.andThen_ok, hzv, hst, Sem.run_pure]
end
end Go.Proofs.Ytjbdkhddnblieaa
namespace Go.Proofs.Ytjbdkhddnblieaa
open Go.RowKit
section
variable {P : Program} {T E S : TypeId} {ops : Array Oper} {rest : List Oper} {o : Oper} {a : Act} {Q : Exit → Act → World → Prop} {w : World}
theorem run_bounds3 (w : World) {n c l h m : Nat} {i j k : Int} (hi : i = (l : Int)) (hj : j = (h : Int)) (hk : k = (m : Int)) (hl : l ≤ h) (hh : h ≤ m) (hm : m ≤ c) :
    (Instr.sliceBounds true n c (some (.int .i64 i)) (some (.int .i64 j)) (some (.int .i64 k))).run P w = .ok (l, h, m) w := by
  subst hi; subst hj; subst hk
  simp [Instr.sliceBounds, Instr.sliceBound, asIntOf, hl, hh, hm]
end
end Go.Proofs.Ytjbdkhddnblieaa
namespace Go.Proofs.Ytjbdkhddnblieaa
open Go.RowKit
def RetRow (Te : TypeId) (sz : Nat) (w : World) (v : Value) (n' : Nat) (vs' : List Value) (e : Ending) (w' : World) : Prop := ∃ v', e = .returned v' ∧ RowTo Te sz w v n' vs' v' w'
theorem new_cells {w : World} {b : Nat} {us : List Value} {t : TypeId} (hb : w.heap[b]? = some (.cells us.toArray t (0, 0))) (j : Nat) (u : Value) (h : us[j]? = some u) : w.cell? (Addr.add ⟨b, 0, none⟩ j) = some u := by
  simp [Addr.add_lit, World.cell?, hb, h]
theorem ins_cells {cur us : List Value} {p q r : Nat} (h1 : p ≤ q) (h2 : us.length = r) (h3 : q + r ≤ cur.length) :
    ((cur.take (p + r) ++ (cur.take q).drop p ++ cur.drop (p + r + ((cur.take q).drop p).length)).take p ++ us ++ (cur.take (p + r) ++ (cur.take q).drop p ++ cur.drop (p + r + ((cur.take q).drop p).length)).drop (p + us.length)).take (q + r) = (cur.take q).take p ++ us ++ (cur.take q).drop p := by
  have e0 : ((cur.take q).drop p).length = q - p := by rw [List.length_drop, List.length_take]; omega
  have e1 : (cur.take (p + r) ++ (cur.take q).drop p ++ cur.drop (p + r + ((cur.take q).drop p).length)).take p = (cur.take q).take p := by
    rw [List.append_assoc, List.take_append_of_le_length (by rw [List.length_take]; omega), List.take_take, List.take_take]
    congr 1; omega
  have e2 : (cur.take (p + r) ++ (cur.take q).drop p ++ cur.drop (p + r + ((cur.take q).drop p).length)).drop (p + us.length) = (cur.take q).drop p ++ cur.drop (p + r + (q - p)) := by
    rw [e0, h2, List.append_assoc, List.drop_append_of_le_length (by rw [List.length_take]; omega), List.drop_of_length_le (by rw [List.length_take]; omega), List.nil_append]
  rw [e1, e2, ← List.append_assoc]
  rw [List.take_append_of_le_length (by simp only [List.length_append, List.length_take, List.length_drop, h2]; omega), List.take_of_length_le (by simp only [List.length_append, List.length_take, List.length_drop, h2]; omega)]
theorem ins_new {cur vs us : List Value} {p q r : Nat} (h1 : p ≤ q) (h0 : vs.length = q) (h2 : us.length = r) (h4 : cur.take p = vs.take p) :
    ((cur.take p ++ us ++ cur.drop (p + us.length)).take (p + r) ++ vs.drop p ++ (cur.take p ++ us ++ cur.drop (p + us.length)).drop (p + r + (vs.drop p).length)).take (q + r) = vs.take p ++ us ++ vs.drop p := by
  have e0 : (vs.drop p).length = q - p := by rw [List.length_drop, h0]
  have e1 : (cur.take p ++ us ++ cur.drop (p + us.length)).take (p + r) = vs.take p ++ us := by
    rw [h4, List.take_append_of_le_length (by simp only [List.length_append, List.length_take, h2]; omega), List.take_of_length_le (by simp only [List.length_append, List.length_take, h2]; omega)]
  rw [e1, List.take_append_of_le_length (by simp only [List.length_append, List.length_take, List.length_drop, h2]; omega), List.take_of_length_le (by simp only [List.length_append, List.length_take, List.length_drop, h2]; omega)]
theorem overlaps_apart {P : Program} {T Te Tb : TypeId} {sz : Nat} (hP : LsP P T Te sz) {f : FuncId} {fn : Func} (hf : P.funcs[f]? = some fn) (hname : (fn.name == "runtime.NumGoroutine") = false) (hb : fn.body.isNone = true) (hn : Extern.findNext fn = none) (he : Extern.find fn = some (Extern.SlicesOverlaps.overlaps #[T, T] #[Tb]))
    {w : World} {b g off m k mc kc : Nat} {us : List Value} {cur : Array Value} (hbc : w.heap[b]? = some (.cells us.toArray Te (0, 0))) (hg : w.heap[g]? = some (.cells cur Te (0, 0))) (hne : b ≠ g) (hcur : cur.size ≠ 0) :
    (callFunc f #[.slice (some ⟨b, 0, none⟩) m mc, .slice (some ⟨g, off, none⟩) k kc]).run P w = .ok (.value (.bool false)) w := by
  obtain ⟨i, hi, hsz⟩ := hP.info
  rw [run_callFunc_extern hf hname hb hn he, Lib.run_overlaps_apart w T Tb Te hP.hT sz (fun w => by simp [sizeOf, typeInfo, hi, hsz]) ⟨b, 0, none⟩ ⟨g, off, none⟩ m mc k kc hne Te Te us.length cur.size (by simp [World.shape?, hbc]) (by simp [World.shape?, hg]) hcur (by simp [World.frozen?, hbc]) (by simp [World.frozen?, hbc])]
  rfl
section
variable {P : Program} {T Te : TypeId} {n : Nat} {ops : Array Oper} {rest : List Oper} {o : Oper} {a : Act} {Q : Exit → Act → World → Prop} {w : World} {K : Act → World → Prop}
theorem wpList_slice3Any (hP : LsP P T Te n) {x lo hi mx : Operand} (ho : o.op = .slice T x (some lo) (some hi) (some mx)) (hgd : Region.wanted o (yielded ops a.tmps) = true) {ad : Option Addr} {k c : Nat} (hx : a.eval x = .slice ad k c)
    {l r m : Nat} (hb : (Instr.sliceBounds true k c (some (a.eval lo)) (some (a.eval hi)) (some (a.eval mx))).run P w = .ok (l, r, m) w)
    (h : ∀ ad', wpList P ops Q rest (a.put o.dst (.slice ad' (r - l) (m - l))) w) : wpList P ops Q (o :: rest) a w := by
  refine BigFrame.wpList_want hgd fun K hK => ?_
  obtain ⟨i, hi', hsz⟩ := hP.info
  have hrun : (Instr.slice T (.slice ad k c) (some (a.eval lo)) (some (a.eval hi)) (some (a.eval mx))).run P w = .ok (.slice (if m = l then ad else ad.map (·.add (l * n))) (r - l) (m - l)) w := by
    simp [Instr.slice, run_underlying hP.hT, hb, sizeOf, typeInfo, hi', hsz]
  unfold Oper.wp execOp
  have hat : (Instr.sliceAt T (.slice ad k c) (some (a.eval lo)) (some (a.eval hi)) (some (a.eval mx))).run P w = .ok (.slice (if m = l then ad else ad.map (·.add (l * n))) (r - l) (m - l)) w := by
    rw [show (Instr.sliceAt T (.slice ad k c) (some (a.eval lo)) (some (a.eval hi)) (some (a.eval mx))).run P w = (Instr.slice T (.slice ad k c) (some (a.eval lo)) (some (a.eval hi)) (some (a.eval mx))).run P w by simp [Instr.sliceAt, run_underlying hP.hT]]; exact hrun
  simp only [ho, hx, Option.map_some, Sem.run_bind, Sem.run_pure, Result.andThen_ok, hat]
  exact hK _ _ (h _)
theorem wpList_clearQ (hP : LoP P T Te n) (hz1 : ∀ i z, P.info? Te = some i → i.zero = some z → ∀ u ∈ z.cells.toList, u.oneCell' = true) {x : Operand} (ho : o.op = .call { callee := .builtin .clear, args := #[x], argTypes := #[T] }) (hd : o.dst = none) (hgd : Region.wanted o (yielded ops a.tmps) = true) {ad : Option Addr} {m c : Nat} (hx : a.eval x = .slice ad m c) {g off : Nat} {cur : Array Value} {t : TypeId} (hg : w.heap[g]? = some (.cells cur t (0, 0))) (had : m = 0 ∨ ad = some ⟨g, off, none⟩) (hfit : m = 0 ∨ off + m * n ≤ cur.size)
    (h : ∀ w' cur', w'.heap[g]? = some (.cells cur' t (0, 0)) → cur'.size = cur.size → (m ≠ 0 → cur'.toList.take off = cur.toList.take off) → (m = 0 → cur' = cur) → w.grownBy w' (some g) → wpList P ops Q rest a w') : wpList P ops Q (o :: rest) a w := by
  refine BigFrame.wpList_want hgd fun K hK => ?_
  obtain ⟨w', cur', hr, h1, h2, h3, h4, h5⟩ := run_clearQ hP hz1 w o.type hg had hfit (c := c)
  unfold Oper.wp execOp
  simp only [ho, resolve, invoke, builtin, Sem.run_bind, Sem.run_pure, Result.andThen_ok, List.map_toArray, List.map_cons, List.map_nil, hx, hr]
  refine hK _ _ ?_
  rw [hd]
  exact h w' cur' h1 h2 h3 h4 h5
end
theorem ones_of {t : TypeId} {z0 : Value} (h : (Try.prog.info? t).bind (·.zero) = some z0) (h1 : ∀ u ∈ z0.cells.toList, u.oneCell' = true) : ∀ i z, Try.prog.info? t = some i → i.zero = some z → ∀ u ∈ z.cells.toList, u.oneCell' = true := fun i z hi hz => by
  rw [hi] at h
  simp only [Option.bind_some, hz] at h
  cases h
  exact h1
theorem part_at (g sz l cap : Nat) : ∃ sa : Addr, (if cap = l then (some (⟨g, 0, none⟩ : Addr)) else (some (⟨g, 0, none⟩ : Addr)).map (·.add (l * sz))) = some sa ∧ (cap ≠ l → sa = ⟨g, l * sz, none⟩) := by
  by_cases h : cap = l
  · exact ⟨_, by rw [if_pos h], fun hn => absurd h hn⟩
  · exact ⟨_, by rw [if_neg h]; rfl, fun _ => by simp [Addr.add_lit]⟩
theorem del_cells {cur : List Value} {p q r : Nat} (h1 : p ≤ r) (h2 : r ≤ q) (h3 : q ≤ cur.length) :
    (cur.take p ++ (cur.take q).drop r ++ cur.drop (p + (q - r))).take (p + (q - r)) = (cur.take q).take p ++ (cur.take q).drop r := by
  rw [List.take_append_of_le_length (by simp only [List.length_append, List.length_take, List.length_drop]; omega), List.take_of_length_le (by simp only [List.length_append, List.length_take, List.length_drop]; omega), List.take_take]
  congr 2
  omega
end Go.Proofs.Ytjbdkhddnblieaa
