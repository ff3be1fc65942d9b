/-
  TEXTS OF ONE PROOF, merged: VerF, TreC, TreE.
-/
import Derived.Test.YtdegjkfjaklkjaaMf8
namespace Go.Proofs.Ytdegjkfjaklkjaa
open Go.RowKit
theorem wp_neqB {P : Program} {o : Oper} {a : Act} {K : Act → World → Prop} {Q : Exit → Act → World → Prop} {w : World} {t t2 : TypeId} {x y : Operand} {m n : Bool} (hu : P.underlying t = some .bool) (ho : o.op = .binOp .neq t x y t2) (hx : a.eval x = .bool m) (hy : a.eval y = .bool n) (h : K (a.put o.dst (.bool (m != n))) w) : o.wp P a w K Q := by
  refine wp_run (v := .bool (m != n)) ?_ h
  simp only [execOp, ho, hx, hy]
  simp [eqGuard, binOp, run_equal_bool w t m n hu, go_sem]
  cases m <;> cases n <;> rfl
theorem ver_eq {x y : Ver} : x = y ↔ x.stamp = y.stamp ∧ x.gone = y.gone ∧ x.value = y.value := by cases x; cases y; simp
set_option maxRecDepth 100000 in
set_option maxHeartbeats 4000000 in
theorem sameV_any (w : World) {S S' : Nat → Prop} {a a' : Option Addr} {n c n' c' : Nat} {l m : List Ver} (hl : RdL Elt.ver S w (.slice a n c) l) (hm : RdL Elt.ver S' w (.slice a' n' c') m) :
    Calls Try.prog 21 #[.slice a n c, .slice a' n' c'] w fun e w' => e = .returned (.bool (decide (l = m))) ∧ Below w.heap.size w w' := by
  obtain ⟨rfl, hnc, hcm⟩ := hl.len
  obtain ⟨rfl, hnc', hcm'⟩ := hm.len
  have hlm : l.length ≤ 9223372036854775807 := by unfold maxLen at hcm; omega
  have hlm' : m.length ≤ 9223372036854775807 := by unfold maxLen at hcm'; omega
  have q := Below.refl w.heap.size w
  by_cases hln : l.length = m.length
  · have d : ((l.length : Int) != (m.length : Int)) = false := by rw [bne_eq_false_iff_eq]; omega
    go_enter Try.func21, Try.ntmps21
    go_upto_region 4 with (fail)
    clear d
    have HLN := Lib.hid hln
    clear hln
    go_loopw [5] (fun iv wr => ∃ k : Nat, iv = .int .i64 k ∧ k ≤ l.length ∧ (∀ r (h : r < l.length), r < k → m[r]? = some l[r]) ∧ Below w.heap.size w wr) (fun i _ => l.length - (intOf i).toNat)
    case atStart => exact ⟨0, rfl, Nat.zero_le _, fun r _ h => by omega, q⟩
    case round =>
      clear q
      obtain ⟨k, rfl, hkl, hsm, q⟩ := hrel
      rcases Nat.lt_or_ge k l.length with hlt | hge
      · have hltm : k < m.length := by have := HLN.out; omega
        obtain ⟨b, off, Av, Cv, rfl, hb, c0, c1, c2, hv, hi, hn1, hn2⟩ := (hl.below q).ver k hlt
        obtain ⟨b', off', A', C', rfl, hb', c0', c1', c2', hv', hi', hn1', hn2'⟩ := (hm.below q).ver k hltm
        have hne : l[k] ≠ m[k] → decide (l = m) = false := fun h => decide_eq_false (fun e => by subst e; exact h rfl)
        have hsn : l[k] = m[k] → ∀ r (h : r < l.length), r < k + 1 → m[r]? = some l[r] := fun h r hr h2 => by
          rcases Nat.lt_or_ge r k with h4 | h4
          · exact hsm r hr h4
          · obtain rfl : r = k := by omega
            rw [List.getElem?_eq_getElem hltm, h]
        obtain ⟨x, ex⟩ : ∃ x, x = l[k] := ⟨_, rfl⟩
        obtain ⟨y, ey⟩ : ∃ y, y = m[k] := ⟨_, rfl⟩
        rw [← ex] at c0 c1 c2 hv hi hn1 hne hsn
        rw [← ey] at c0' c1' c2' hv' hi' hn1' hne hsn
        clear ex ey hsm hi hi' hn1 hn2 hn1' hn2' hb hb'
        have hvr := hv.rd
        have hvr' := hv'.rd
        clear hv hv'
        go_upto_region 6 with (fail)
        by_cases h1 : x.stamp = y.stamp
        · by_cases h2 : x.gone = y.gone
          · by_cases h3 : x.value = y.value
            · have H := Lib.hid (hsn (ver_eq.2 ⟨h1, h2, h3⟩))
              clear hne hsn
              refine wp_region_gsg (by kernel_rfl) (by kernel_rfl) [sgEq (.slice (some ⟨b, off, none⟩) l.length c), sgEq (.int .i64 k), sgEq (.pointer (some ⟨b, off + k * 3, none⟩)), sgEq (.pointer (some ⟨b, off + k * 3, none⟩)), sgEq (.int .i64 x.stamp), sgEq (.slice (some ⟨b', off', none⟩) m.length c'), sgEq (.int .i64 k), sgEq (.pointer (some ⟨b', off' + k * 3, none⟩)), sgEq (.pointer (some ⟨b', off' + k * 3, none⟩)), sgEq (.int .i64 y.stamp), sgEq (.bool false), sgEq (.bool false), sgEq (.slice (some ⟨b, off, none⟩) l.length c), sgEq (.int .i64 k), sgEq (.pointer (some ⟨b, off + k * 3, none⟩)), sgEq (.pointer (some ⟨b, off + k * 3 + 1, none⟩)), sgEq (.bool x.gone), sgEq (.slice (some ⟨b', off', none⟩) m.length c'), sgEq (.int .i64 k), sgEq (.pointer (some ⟨b', off' + k * 3, none⟩)), sgEq (.pointer (some ⟨b', off' + k * 3 + 1, none⟩)), sgEq (.bool y.gone), sgEq (.bool false), sgEq (.bool false), sgEq (.bool false), sgEq (.slice (some ⟨b, off, none⟩) l.length c), sgEq (.int .i64 k), sgEq (.pointer (some ⟨b, off + k * 3, none⟩)), sgEq (.pointer (some ⟨b, off + k * 3 + 2, none⟩)), sgEq (.slice Av x.value.length Cv), sgEq (.string (strOf x.value)), sgEq (.slice (some ⟨b', off', none⟩) m.length c'), sgEq (.int .i64 k), sgEq (.pointer (some ⟨b', off' + k * 3, none⟩)), sgEq (.pointer (some ⟨b', off' + k * 3 + 2, none⟩)), sgEq (.slice A' y.value.length C'), sgEq (.string (strOf y.value)), sgEq (.bool false), sgEq (.bool false)]
                ⟨?o0, ?o1, ?o2, ?o3, ?o4, ?o5, ?o6, ?o7, ?o8, ?o9, ?o10, ?o11, ?o12, ?o13, ?o14, ?o15, ?o16, ?o17, ?o18, ?o19, ?o20, ?o21, ?o22, ?o23, ?o24, ?o25, ?o26, ?o27, ?o28, ?o29, ?o30, ?o31, ?o32, ?o33, ?o34, ?o35, ?o36, ?o37, ?o38, trivial⟩ ?fin
              case o0 =>
                refine GdOp.plain rfl (fun A vs w' hF hT hb hd => ?_)
                have e1 : A.eval (.tmp 0) = .slice (some ⟨b, off, none⟩) l.length c := hF 0 rfl
                exact BigFrame.wp_move _ rfl ⟨_, rfl, e1, Below.refl _ _⟩
              case o1 =>
                refine GdOp.plain rfl (fun A vs w' hF hT hb hd => ?_)
                have e1 : A.eval (.tmp 5) = .int .i64 k := hF 5 rfl
                exact BigFrame.wp_move _ rfl ⟨_, rfl, e1, Below.refl _ _⟩
              case o2 =>
                refine GdOp.plain rfl (fun A vs w' hF hT hb hd => ?_)
                have e1 : A.eval (.tmp 17) = .slice (some ⟨b, off, none⟩) l.length c := (hT 17 0 (by simp) rfl).trans (hd ⟨0, .data⟩ (by simp) rfl)
                have e2 : A.eval (.tmp 18) = .int .i64 k := (hT 18 1 (by simp) rfl).trans (hd ⟨1, .data⟩ (by simp) rfl)
                exact wp_ixN (e := 61) rfl (by kernel_rfl) (by kernel_rfl) (e1) (e2) rfl (by omega) ⟨_, rfl, rfl, Below.refl _ _⟩
              case o3 =>
                refine GdOp.plain rfl (fun A vs w' hF hT hb hd => ?_)
                have e1 : A.eval (.tmp 19) = .pointer (some ⟨b, off + k * 3, none⟩) := (hT 19 2 (by simp) rfl).trans (hd ⟨2, .data⟩ (by simp) rfl)
                exact wp_fieldN verS rfl (e1) (by omega) ⟨_, rfl, rfl, Below.refl _ _⟩
              case o4 =>
                refine GdOp.plain rfl (fun A vs w' hF hT hb hd => ?_)
                have e1 : A.eval (.tmp 20) = .pointer (some ⟨b, off + k * 3, none⟩) := (hT 20 3 (by simp) rfl).trans (hd ⟨3, .data⟩ (by simp) rfl)
                exact wp_ld_int (k := .i64) rfl e1 (by kernel_rfl) (((hb.cell (p := ⟨b, off + k * 3, none⟩) (cell_lt c0)).trans c0)) ⟨_, rfl, rfl, Below.refl _ _⟩
              case o5 =>
                refine GdOp.plain rfl (fun A vs w' hF hT hb hd => ?_)
                have e1 : A.eval (.tmp 1) = .slice (some ⟨b', off', none⟩) m.length c' := hF 1 rfl
                exact BigFrame.wp_move _ rfl ⟨_, rfl, e1, Below.refl _ _⟩
              case o6 =>
                refine GdOp.plain rfl (fun A vs w' hF hT hb hd => ?_)
                have e1 : A.eval (.tmp 5) = .int .i64 k := hF 5 rfl
                exact BigFrame.wp_move _ rfl ⟨_, rfl, e1, Below.refl _ _⟩
              case o7 =>
                refine GdOp.plain rfl (fun A vs w' hF hT hb hd => ?_)
                have e1 : A.eval (.tmp 22) = .slice (some ⟨b', off', none⟩) m.length c' := (hT 22 5 (by simp) rfl).trans (hd ⟨5, .data⟩ (by simp) rfl)
                have e2 : A.eval (.tmp 23) = .int .i64 k := (hT 23 6 (by simp) rfl).trans (hd ⟨6, .data⟩ (by simp) rfl)
                exact wp_ixN (e := 61) rfl (by kernel_rfl) (by kernel_rfl) (e1) (e2) rfl (by omega) ⟨_, rfl, rfl, Below.refl _ _⟩
              case o8 =>
                refine GdOp.plain rfl (fun A vs w' hF hT hb hd => ?_)
                have e1 : A.eval (.tmp 24) = .pointer (some ⟨b', off' + k * 3, none⟩) := (hT 24 7 (by simp) rfl).trans (hd ⟨7, .data⟩ (by simp) rfl)
                exact wp_fieldN verS rfl (e1) (by omega) ⟨_, rfl, rfl, Below.refl _ _⟩
              case o9 =>
                refine GdOp.plain rfl (fun A vs w' hF hT hb hd => ?_)
                have e1 : A.eval (.tmp 25) = .pointer (some ⟨b', off' + k * 3, none⟩) := (hT 25 8 (by simp) rfl).trans (hd ⟨8, .data⟩ (by simp) rfl)
                exact wp_ld_int (k := .i64) rfl e1 (by kernel_rfl) (((hb.cell (p := ⟨b', off' + k * 3, none⟩) (cell_lt c0')).trans c0')) ⟨_, rfl, rfl, Below.refl _ _⟩
              case o10 =>
                refine GdOp.plain rfl (fun A vs w' hF hT hb hd => ?_)
                have e1 : A.eval (.tmp 21) = .int .i64 x.stamp := (hT 21 4 (by simp) rfl).trans (hd ⟨4, .data⟩ (by simp) rfl)
                have e2 : A.eval (.tmp 26) = .int .i64 y.stamp := (hT 26 9 (by simp) rfl).trans (hd ⟨9, .data⟩ (by simp) rfl)
                exact wp_neqI rfl e1 e2 ⟨_, rfl, congrArg Value.bool (by simp [h1]), Below.refl _ _⟩
              case o11 =>
                refine GdOp.plain rfl (fun A vs w' hF hT hb hd => ?_)
                have e1 : A.eval (.tmp 27) = .bool false := (hT 27 10 (by simp) rfl).trans (hd ⟨10, .data⟩ (by simp) rfl)
                exact BigFrame.wp_move _ rfl ⟨_, rfl, e1, Below.refl _ _⟩
              case o12 =>
                refine GdOp.taken rfl ⟨_, _, rfl, rfl, by simp⟩ (by kernel_rfl) (fun w v h => h) (fun A vs w' hF hT hb hd => ?_)
                have e1 : A.eval (.tmp 0) = .slice (some ⟨b, off, none⟩) l.length c := hF 0 rfl
                exact BigFrame.wp_move _ rfl ⟨_, rfl, e1, Below.refl _ _⟩
              case o13 =>
                refine GdOp.taken rfl ⟨_, _, rfl, rfl, by simp⟩ (by kernel_rfl) (fun w v h => h) (fun A vs w' hF hT hb hd => ?_)
                have e1 : A.eval (.tmp 5) = .int .i64 k := hF 5 rfl
                exact BigFrame.wp_move _ rfl ⟨_, rfl, e1, Below.refl _ _⟩
              case o14 =>
                refine GdOp.taken rfl ⟨_, _, rfl, rfl, by simp⟩ (by kernel_rfl) (fun w v h => h) (fun A vs w' hF hT hb hd => ?_)
                have e1 : A.eval (.tmp 29) = .slice (some ⟨b, off, none⟩) l.length c := (hT 29 12 (by simp) rfl).trans (hd ⟨12, .data⟩ (by simp) rfl)
                have e2 : A.eval (.tmp 30) = .int .i64 k := (hT 30 13 (by simp) rfl).trans (hd ⟨13, .data⟩ (by simp) rfl)
                exact wp_ixN (e := 61) rfl (by kernel_rfl) (by kernel_rfl) (e1) (e2) rfl (by omega) ⟨_, rfl, rfl, Below.refl _ _⟩
              case o15 =>
                refine GdOp.taken rfl ⟨_, _, rfl, rfl, by simp⟩ (by kernel_rfl) (fun w v h => h) (fun A vs w' hF hT hb hd => ?_)
                have e1 : A.eval (.tmp 31) = .pointer (some ⟨b, off + k * 3, none⟩) := (hT 31 14 (by simp) rfl).trans (hd ⟨14, .data⟩ (by simp) rfl)
                exact wp_fieldN verS rfl (e1) (by omega) ⟨_, rfl, rfl, Below.refl _ _⟩
              case o16 =>
                refine GdOp.taken rfl ⟨_, _, rfl, rfl, by simp⟩ (by kernel_rfl) (fun w v h => h) (fun A vs w' hF hT hb hd => ?_)
                have e1 : A.eval (.tmp 32) = .pointer (some ⟨b, off + k * 3 + 1, none⟩) := (hT 32 15 (by simp) rfl).trans (hd ⟨15, .data⟩ (by simp) rfl)
                exact wp_ld_bool  rfl e1 (by kernel_rfl) (((hb.cell (p := ⟨b, off + k * 3 + 1, none⟩) (cell_lt c1)).trans c1)) ⟨_, rfl, rfl, Below.refl _ _⟩
              case o17 =>
                refine GdOp.taken rfl ⟨_, _, rfl, rfl, by simp⟩ (by kernel_rfl) (fun w v h => h) (fun A vs w' hF hT hb hd => ?_)
                have e1 : A.eval (.tmp 1) = .slice (some ⟨b', off', none⟩) m.length c' := hF 1 rfl
                exact BigFrame.wp_move _ rfl ⟨_, rfl, e1, Below.refl _ _⟩
              case o18 =>
                refine GdOp.taken rfl ⟨_, _, rfl, rfl, by simp⟩ (by kernel_rfl) (fun w v h => h) (fun A vs w' hF hT hb hd => ?_)
                have e1 : A.eval (.tmp 5) = .int .i64 k := hF 5 rfl
                exact BigFrame.wp_move _ rfl ⟨_, rfl, e1, Below.refl _ _⟩
              case o19 =>
                refine GdOp.taken rfl ⟨_, _, rfl, rfl, by simp⟩ (by kernel_rfl) (fun w v h => h) (fun A vs w' hF hT hb hd => ?_)
                have e1 : A.eval (.tmp 34) = .slice (some ⟨b', off', none⟩) m.length c' := (hT 34 17 (by simp) rfl).trans (hd ⟨17, .data⟩ (by simp) rfl)
                have e2 : A.eval (.tmp 35) = .int .i64 k := (hT 35 18 (by simp) rfl).trans (hd ⟨18, .data⟩ (by simp) rfl)
                exact wp_ixN (e := 61) rfl (by kernel_rfl) (by kernel_rfl) (e1) (e2) rfl (by omega) ⟨_, rfl, rfl, Below.refl _ _⟩
              case o20 =>
                refine GdOp.taken rfl ⟨_, _, rfl, rfl, by simp⟩ (by kernel_rfl) (fun w v h => h) (fun A vs w' hF hT hb hd => ?_)
                have e1 : A.eval (.tmp 36) = .pointer (some ⟨b', off' + k * 3, none⟩) := (hT 36 19 (by simp) rfl).trans (hd ⟨19, .data⟩ (by simp) rfl)
                exact wp_fieldN verS rfl (e1) (by omega) ⟨_, rfl, rfl, Below.refl _ _⟩
              case o21 =>
                refine GdOp.taken rfl ⟨_, _, rfl, rfl, by simp⟩ (by kernel_rfl) (fun w v h => h) (fun A vs w' hF hT hb hd => ?_)
                have e1 : A.eval (.tmp 37) = .pointer (some ⟨b', off' + k * 3 + 1, none⟩) := (hT 37 20 (by simp) rfl).trans (hd ⟨20, .data⟩ (by simp) rfl)
                exact wp_ld_bool  rfl e1 (by kernel_rfl) (((hb.cell (p := ⟨b', off' + k * 3 + 1, none⟩) (cell_lt c1')).trans c1')) ⟨_, rfl, rfl, Below.refl _ _⟩
              case o22 =>
                refine GdOp.taken rfl ⟨_, _, rfl, rfl, by simp⟩ (by kernel_rfl) (fun w v h => h) (fun A vs w' hF hT hb hd => ?_)
                have e1 : A.eval (.tmp 33) = .bool x.gone := (hT 33 16 (by simp) rfl).trans (hd ⟨16, .data⟩ (by simp) rfl)
                have e2 : A.eval (.tmp 38) = .bool y.gone := (hT 38 21 (by simp) rfl).trans (hd ⟨21, .data⟩ (by simp) rfl)
                exact wp_neqB (by kernel_rfl) rfl e1 e2 ⟨_, rfl, congrArg Value.bool (by simp [h2]), Below.refl _ _⟩
              case o23 =>
                refine GdOp.plain rfl (fun A vs w' hF hT hb hd => ?_)
                have e1 : A.eval (.tmp 28) = .bool false := (hT 28 11 (by simp) rfl).trans (hd ⟨11, .data⟩ (by simp) rfl)
                have e3 : A.eval (.tmp 39) = .bool false := (hT 39 22 (by simp) rfl).trans (hd ⟨22, .data⟩ (by simp) rfl)
                exact wp_pk rfl e1 (by simp) (fun _ => e3) ⟨_, rfl, rfl, Below.refl _ _⟩
              case o24 =>
                refine GdOp.plain rfl (fun A vs w' hF hT hb hd => ?_)
                have e1 : A.eval (.tmp 40) = .bool false := (hT 40 23 (by simp) rfl).trans (hd ⟨23, .data⟩ (by simp) rfl)
                exact BigFrame.wp_move _ rfl ⟨_, rfl, e1, Below.refl _ _⟩
              case o25 =>
                refine GdOp.taken rfl ⟨_, _, rfl, rfl, by simp⟩ (by kernel_rfl) (fun w v h => h) (fun A vs w' hF hT hb hd => ?_)
                have e1 : A.eval (.tmp 0) = .slice (some ⟨b, off, none⟩) l.length c := hF 0 rfl
                exact BigFrame.wp_move _ rfl ⟨_, rfl, e1, Below.refl _ _⟩
              case o26 =>
                refine GdOp.taken rfl ⟨_, _, rfl, rfl, by simp⟩ (by kernel_rfl) (fun w v h => h) (fun A vs w' hF hT hb hd => ?_)
                have e1 : A.eval (.tmp 5) = .int .i64 k := hF 5 rfl
                exact BigFrame.wp_move _ rfl ⟨_, rfl, e1, Below.refl _ _⟩
              case o27 =>
                refine GdOp.taken rfl ⟨_, _, rfl, rfl, by simp⟩ (by kernel_rfl) (fun w v h => h) (fun A vs w' hF hT hb hd => ?_)
                have e1 : A.eval (.tmp 42) = .slice (some ⟨b, off, none⟩) l.length c := (hT 42 25 (by simp) rfl).trans (hd ⟨25, .data⟩ (by simp) rfl)
                have e2 : A.eval (.tmp 43) = .int .i64 k := (hT 43 26 (by simp) rfl).trans (hd ⟨26, .data⟩ (by simp) rfl)
                exact wp_ixN (e := 61) rfl (by kernel_rfl) (by kernel_rfl) (e1) (e2) rfl (by omega) ⟨_, rfl, rfl, Below.refl _ _⟩
              case o28 =>
                refine GdOp.taken rfl ⟨_, _, rfl, rfl, by simp⟩ (by kernel_rfl) (fun w v h => h) (fun A vs w' hF hT hb hd => ?_)
                have e1 : A.eval (.tmp 44) = .pointer (some ⟨b, off + k * 3, none⟩) := (hT 44 27 (by simp) rfl).trans (hd ⟨27, .data⟩ (by simp) rfl)
                exact wp_fieldN verS rfl (e1) (by omega) ⟨_, rfl, rfl, Below.refl _ _⟩
              case o29 =>
                refine GdOp.taken rfl ⟨_, _, rfl, rfl, by simp⟩ (by kernel_rfl) (fun w v h => h) (fun A vs w' hF hT hb hd => ?_)
                have e1 : A.eval (.tmp 45) = .pointer (some ⟨b, off + k * 3 + 2, none⟩) := (hT 45 28 (by simp) rfl).trans (hd ⟨28, .data⟩ (by simp) rfl)
                exact wp_ld_slice (e := 5) rfl e1 (by kernel_rfl) (((hb.cell (p := ⟨b, off + k * 3 + 2, none⟩) (cell_lt c2)).trans c2)) ⟨_, rfl, rfl, Below.refl _ _⟩
              case o30 =>
                refine GdOp.taken rfl ⟨_, _, rfl, rfl, by simp⟩ (by kernel_rfl) (fun w v h => h) (fun A vs w' hF hT hb hd => ?_)
                have e1 : A.eval (.tmp 46) = .slice Av x.value.length Cv := (hT 46 29 (by simp) rfl).trans (hd ⟨29, .data⟩ (by simp) rfl)
                exact wp_conv byP rfl e1 (hvr.below hb) ⟨_, rfl, rfl, Below.refl _ _⟩
              case o31 =>
                refine GdOp.taken rfl ⟨_, _, rfl, rfl, by simp⟩ (by kernel_rfl) (fun w v h => h) (fun A vs w' hF hT hb hd => ?_)
                have e1 : A.eval (.tmp 1) = .slice (some ⟨b', off', none⟩) m.length c' := hF 1 rfl
                exact BigFrame.wp_move _ rfl ⟨_, rfl, e1, Below.refl _ _⟩
              case o32 =>
                refine GdOp.taken rfl ⟨_, _, rfl, rfl, by simp⟩ (by kernel_rfl) (fun w v h => h) (fun A vs w' hF hT hb hd => ?_)
                have e1 : A.eval (.tmp 5) = .int .i64 k := hF 5 rfl
                exact BigFrame.wp_move _ rfl ⟨_, rfl, e1, Below.refl _ _⟩
              case o33 =>
                refine GdOp.taken rfl ⟨_, _, rfl, rfl, by simp⟩ (by kernel_rfl) (fun w v h => h) (fun A vs w' hF hT hb hd => ?_)
                have e1 : A.eval (.tmp 48) = .slice (some ⟨b', off', none⟩) m.length c' := (hT 48 31 (by simp) rfl).trans (hd ⟨31, .data⟩ (by simp) rfl)
                have e2 : A.eval (.tmp 49) = .int .i64 k := (hT 49 32 (by simp) rfl).trans (hd ⟨32, .data⟩ (by simp) rfl)
                exact wp_ixN (e := 61) rfl (by kernel_rfl) (by kernel_rfl) (e1) (e2) rfl (by omega) ⟨_, rfl, rfl, Below.refl _ _⟩
              case o34 =>
                refine GdOp.taken rfl ⟨_, _, rfl, rfl, by simp⟩ (by kernel_rfl) (fun w v h => h) (fun A vs w' hF hT hb hd => ?_)
                have e1 : A.eval (.tmp 50) = .pointer (some ⟨b', off' + k * 3, none⟩) := (hT 50 33 (by simp) rfl).trans (hd ⟨33, .data⟩ (by simp) rfl)
                exact wp_fieldN verS rfl (e1) (by omega) ⟨_, rfl, rfl, Below.refl _ _⟩
              case o35 =>
                refine GdOp.taken rfl ⟨_, _, rfl, rfl, by simp⟩ (by kernel_rfl) (fun w v h => h) (fun A vs w' hF hT hb hd => ?_)
                have e1 : A.eval (.tmp 51) = .pointer (some ⟨b', off' + k * 3 + 2, none⟩) := (hT 51 34 (by simp) rfl).trans (hd ⟨34, .data⟩ (by simp) rfl)
                exact wp_ld_slice (e := 5) rfl e1 (by kernel_rfl) (((hb.cell (p := ⟨b', off' + k * 3 + 2, none⟩) (cell_lt c2')).trans c2')) ⟨_, rfl, rfl, Below.refl _ _⟩
              case o36 =>
                refine GdOp.taken rfl ⟨_, _, rfl, rfl, by simp⟩ (by kernel_rfl) (fun w v h => h) (fun A vs w' hF hT hb hd => ?_)
                have e1 : A.eval (.tmp 52) = .slice A' y.value.length C' := (hT 52 35 (by simp) rfl).trans (hd ⟨35, .data⟩ (by simp) rfl)
                exact wp_conv byP rfl e1 (hvr'.below hb) ⟨_, rfl, rfl, Below.refl _ _⟩
              case o37 =>
                refine GdOp.taken rfl ⟨_, _, rfl, rfl, by simp⟩ (by kernel_rfl) (fun w v h => h) (fun A vs w' hF hT hb hd => ?_)
                have e1 : A.eval (.tmp 47) = .string (strOf x.value) := (hT 47 30 (by simp) rfl).trans (hd ⟨30, .data⟩ (by simp) rfl)
                have e2 : A.eval (.tmp 53) = .string (strOf y.value) := (hT 53 36 (by simp) rfl).trans (hd ⟨36, .data⟩ (by simp) rfl)
                exact wp_neqS rfl e1 e2 ⟨_, rfl, congrArg Value.bool (by simp [h3]), Below.refl _ _⟩
              case o38 =>
                refine GdOp.plain rfl (fun A vs w' hF hT hb hd => ?_)
                have e1 : A.eval (.tmp 41) = .bool false := (hT 41 24 (by simp) rfl).trans (hd ⟨24, .data⟩ (by simp) rfl)
                have e3 : A.eval (.tmp 54) = .bool false := (hT 54 37 (by simp) rfl).trans (hd ⟨37, .data⟩ (by simp) rfl)
                exact wp_pk rfl e1 (by simp) (fun _ => e3) ⟨_, rfl, rfl, Below.refl _ _⟩
              case fin =>
                intro vs w' hb hG
                have e0 : vs 0 = .slice (some ⟨b, off, none⟩) l.length c := hG 0 (by decide)
                have e1 : vs 1 = .int .i64 k := hG 1 (by decide)
                have e2 : vs 2 = .pointer (some ⟨b, off + k * 3, none⟩) := hG 2 (by decide)
                have e3 : vs 3 = .pointer (some ⟨b, off + k * 3, none⟩) := hG 3 (by decide)
                have e4 : vs 4 = .int .i64 x.stamp := hG 4 (by decide)
                have e5 : vs 5 = .slice (some ⟨b', off', none⟩) m.length c' := hG 5 (by decide)
                have e6 : vs 6 = .int .i64 k := hG 6 (by decide)
                have e7 : vs 7 = .pointer (some ⟨b', off' + k * 3, none⟩) := hG 7 (by decide)
                have e8 : vs 8 = .pointer (some ⟨b', off' + k * 3, none⟩) := hG 8 (by decide)
                have e9 : vs 9 = .int .i64 y.stamp := hG 9 (by decide)
                have e10 : vs 10 = .bool false := hG 10 (by decide)
                have e11 : vs 11 = .bool false := hG 11 (by decide)
                have e12 : vs 12 = .slice (some ⟨b, off, none⟩) l.length c := hG 12 (by decide)
                have e13 : vs 13 = .int .i64 k := hG 13 (by decide)
                have e14 : vs 14 = .pointer (some ⟨b, off + k * 3, none⟩) := hG 14 (by decide)
                have e15 : vs 15 = .pointer (some ⟨b, off + k * 3 + 1, none⟩) := hG 15 (by decide)
                have e16 : vs 16 = .bool x.gone := hG 16 (by decide)
                have e17 : vs 17 = .slice (some ⟨b', off', none⟩) m.length c' := hG 17 (by decide)
                have e18 : vs 18 = .int .i64 k := hG 18 (by decide)
                have e19 : vs 19 = .pointer (some ⟨b', off' + k * 3, none⟩) := hG 19 (by decide)
                have e20 : vs 20 = .pointer (some ⟨b', off' + k * 3 + 1, none⟩) := hG 20 (by decide)
                have e21 : vs 21 = .bool y.gone := hG 21 (by decide)
                have e22 : vs 22 = .bool false := hG 22 (by decide)
                have e23 : vs 23 = .bool false := hG 23 (by decide)
                have e24 : vs 24 = .bool false := hG 24 (by decide)
                have e25 : vs 25 = .slice (some ⟨b, off, none⟩) l.length c := hG 25 (by decide)
                have e26 : vs 26 = .int .i64 k := hG 26 (by decide)
                have e27 : vs 27 = .pointer (some ⟨b, off + k * 3, none⟩) := hG 27 (by decide)
                have e28 : vs 28 = .pointer (some ⟨b, off + k * 3 + 2, none⟩) := hG 28 (by decide)
                have e29 : vs 29 = .slice Av x.value.length Cv := hG 29 (by decide)
                have e30 : vs 30 = .string (strOf x.value) := hG 30 (by decide)
                have e31 : vs 31 = .slice (some ⟨b', off', none⟩) m.length c' := hG 31 (by decide)
                have e32 : vs 32 = .int .i64 k := hG 32 (by decide)
                have e33 : vs 33 = .pointer (some ⟨b', off' + k * 3, none⟩) := hG 33 (by decide)
                have e34 : vs 34 = .pointer (some ⟨b', off' + k * 3 + 2, none⟩) := hG 34 (by decide)
                have e35 : vs 35 = .slice A' y.value.length C' := hG 35 (by decide)
                have e36 : vs 36 = .string (strOf y.value) := hG 36 (by decide)
                have e37 : vs 37 = .bool false := hG 37 (by decide)
                have e38 : vs 38 = .bool false := hG 38 (by decide)
                simp only [putAll, e0, e1, e2, e3, e4, e5, e6, e7, e8, e9, e10, e11, e12, e13, e14, e15, e16, e17, e18, e19, e20, e21, e22, e23, e24, e25, e26, e27, e28, e29, e30, e31, e32, e33, e34, e35, e36, e37, e38]
                clear hG e0 e1 e2 e3 e4 e5 e6 e7 e8 e9 e10 e11 e12 e13 e14 e15 e16 e17 e18 e19 e20 e21 e22 e23 e24 e25 e26 e27 e28 e29 e30 e31 e32 e33 e34 e35 e36 e37 e38
                have q2 := q.trans (hb.mono q.size)
                clear hb q
                go_simp
                go_wp2_with fail
                go_roundw
                case rel => exact ⟨k + 1, by go_num, by omega, H.out, q2⟩
                case measure => simp [intOf]; omega
            · have H := Lib.hid (hne (fun e => h3 (by rw [e])))
              clear hne hsn
              refine wp_region_gsg (by kernel_rfl) (by kernel_rfl) [sgEq (.slice (some ⟨b, off, none⟩) l.length c), sgEq (.int .i64 k), sgEq (.pointer (some ⟨b, off + k * 3, none⟩)), sgEq (.pointer (some ⟨b, off + k * 3, none⟩)), sgEq (.int .i64 x.stamp), sgEq (.slice (some ⟨b', off', none⟩) m.length c'), sgEq (.int .i64 k), sgEq (.pointer (some ⟨b', off' + k * 3, none⟩)), sgEq (.pointer (some ⟨b', off' + k * 3, none⟩)), sgEq (.int .i64 y.stamp), sgEq (.bool false), sgEq (.bool false), sgEq (.slice (some ⟨b, off, none⟩) l.length c), sgEq (.int .i64 k), sgEq (.pointer (some ⟨b, off + k * 3, none⟩)), sgEq (.pointer (some ⟨b, off + k * 3 + 1, none⟩)), sgEq (.bool x.gone), sgEq (.slice (some ⟨b', off', none⟩) m.length c'), sgEq (.int .i64 k), sgEq (.pointer (some ⟨b', off' + k * 3, none⟩)), sgEq (.pointer (some ⟨b', off' + k * 3 + 1, none⟩)), sgEq (.bool y.gone), sgEq (.bool false), sgEq (.bool false), sgEq (.bool false), sgEq (.slice (some ⟨b, off, none⟩) l.length c), sgEq (.int .i64 k), sgEq (.pointer (some ⟨b, off + k * 3, none⟩)), sgEq (.pointer (some ⟨b, off + k * 3 + 2, none⟩)), sgEq (.slice Av x.value.length Cv), sgEq (.string (strOf x.value)), sgEq (.slice (some ⟨b', off', none⟩) m.length c'), sgEq (.int .i64 k), sgEq (.pointer (some ⟨b', off' + k * 3, none⟩)), sgEq (.pointer (some ⟨b', off' + k * 3 + 2, none⟩)), sgEq (.slice A' y.value.length C'), sgEq (.string (strOf y.value)), sgEq (.bool true), sgEq (.bool true)]
                ⟨?o0, ?o1, ?o2, ?o3, ?o4, ?o5, ?o6, ?o7, ?o8, ?o9, ?o10, ?o11, ?o12, ?o13, ?o14, ?o15, ?o16, ?o17, ?o18, ?o19, ?o20, ?o21, ?o22, ?o23, ?o24, ?o25, ?o26, ?o27, ?o28, ?o29, ?o30, ?o31, ?o32, ?o33, ?o34, ?o35, ?o36, ?o37, ?o38, trivial⟩ ?fin
              case o0 =>
                refine GdOp.plain rfl (fun A vs w' hF hT hb hd => ?_)
                have e1 : A.eval (.tmp 0) = .slice (some ⟨b, off, none⟩) l.length c := hF 0 rfl
                exact BigFrame.wp_move _ rfl ⟨_, rfl, e1, Below.refl _ _⟩
              case o1 =>
                refine GdOp.plain rfl (fun A vs w' hF hT hb hd => ?_)
                have e1 : A.eval (.tmp 5) = .int .i64 k := hF 5 rfl
                exact BigFrame.wp_move _ rfl ⟨_, rfl, e1, Below.refl _ _⟩
              case o2 =>
                refine GdOp.plain rfl (fun A vs w' hF hT hb hd => ?_)
                have e1 : A.eval (.tmp 17) = .slice (some ⟨b, off, none⟩) l.length c := (hT 17 0 (by simp) rfl).trans (hd ⟨0, .data⟩ (by simp) rfl)
                have e2 : A.eval (.tmp 18) = .int .i64 k := (hT 18 1 (by simp) rfl).trans (hd ⟨1, .data⟩ (by simp) rfl)
                exact wp_ixN (e := 61) rfl (by kernel_rfl) (by kernel_rfl) (e1) (e2) rfl (by omega) ⟨_, rfl, rfl, Below.refl _ _⟩
              case o3 =>
                refine GdOp.plain rfl (fun A vs w' hF hT hb hd => ?_)
                have e1 : A.eval (.tmp 19) = .pointer (some ⟨b, off + k * 3, none⟩) := (hT 19 2 (by simp) rfl).trans (hd ⟨2, .data⟩ (by simp) rfl)
                exact wp_fieldN verS rfl (e1) (by omega) ⟨_, rfl, rfl, Below.refl _ _⟩
              case o4 =>
                refine GdOp.plain rfl (fun A vs w' hF hT hb hd => ?_)
                have e1 : A.eval (.tmp 20) = .pointer (some ⟨b, off + k * 3, none⟩) := (hT 20 3 (by simp) rfl).trans (hd ⟨3, .data⟩ (by simp) rfl)
                exact wp_ld_int (k := .i64) rfl e1 (by kernel_rfl) (((hb.cell (p := ⟨b, off + k * 3, none⟩) (cell_lt c0)).trans c0)) ⟨_, rfl, rfl, Below.refl _ _⟩
              case o5 =>
                refine GdOp.plain rfl (fun A vs w' hF hT hb hd => ?_)
                have e1 : A.eval (.tmp 1) = .slice (some ⟨b', off', none⟩) m.length c' := hF 1 rfl
                exact BigFrame.wp_move _ rfl ⟨_, rfl, e1, Below.refl _ _⟩
              case o6 =>
                refine GdOp.plain rfl (fun A vs w' hF hT hb hd => ?_)
                have e1 : A.eval (.tmp 5) = .int .i64 k := hF 5 rfl
                exact BigFrame.wp_move _ rfl ⟨_, rfl, e1, Below.refl _ _⟩
              case o7 =>
                refine GdOp.plain rfl (fun A vs w' hF hT hb hd => ?_)
                have e1 : A.eval (.tmp 22) = .slice (some ⟨b', off', none⟩) m.length c' := (hT 22 5 (by simp) rfl).trans (hd ⟨5, .data⟩ (by simp) rfl)
                have e2 : A.eval (.tmp 23) = .int .i64 k := (hT 23 6 (by simp) rfl).trans (hd ⟨6, .data⟩ (by simp) rfl)
                exact wp_ixN (e := 61) rfl (by kernel_rfl) (by kernel_rfl) (e1) (e2) rfl (by omega) ⟨_, rfl, rfl, Below.refl _ _⟩
              case o8 =>
                refine GdOp.plain rfl (fun A vs w' hF hT hb hd => ?_)
                have e1 : A.eval (.tmp 24) = .pointer (some ⟨b', off' + k * 3, none⟩) := (hT 24 7 (by simp) rfl).trans (hd ⟨7, .data⟩ (by simp) rfl)
                exact wp_fieldN verS rfl (e1) (by omega) ⟨_, rfl, rfl, Below.refl _ _⟩
              case o9 =>
                refine GdOp.plain rfl (fun A vs w' hF hT hb hd => ?_)
                have e1 : A.eval (.tmp 25) = .pointer (some ⟨b', off' + k * 3, none⟩) := (hT 25 8 (by simp) rfl).trans (hd ⟨8, .data⟩ (by simp) rfl)
                exact wp_ld_int (k := .i64) rfl e1 (by kernel_rfl) (((hb.cell (p := ⟨b', off' + k * 3, none⟩) (cell_lt c0')).trans c0')) ⟨_, rfl, rfl, Below.refl _ _⟩
              case o10 =>
                refine GdOp.plain rfl (fun A vs w' hF hT hb hd => ?_)
                have e1 : A.eval (.tmp 21) = .int .i64 x.stamp := (hT 21 4 (by simp) rfl).trans (hd ⟨4, .data⟩ (by simp) rfl)
                have e2 : A.eval (.tmp 26) = .int .i64 y.stamp := (hT 26 9 (by simp) rfl).trans (hd ⟨9, .data⟩ (by simp) rfl)
                exact wp_neqI rfl e1 e2 ⟨_, rfl, congrArg Value.bool (by simp [h1]), Below.refl _ _⟩
              case o11 =>
                refine GdOp.plain rfl (fun A vs w' hF hT hb hd => ?_)
                have e1 : A.eval (.tmp 27) = .bool false := (hT 27 10 (by simp) rfl).trans (hd ⟨10, .data⟩ (by simp) rfl)
                exact BigFrame.wp_move _ rfl ⟨_, rfl, e1, Below.refl _ _⟩
              case o12 =>
                refine GdOp.taken rfl ⟨_, _, rfl, rfl, by simp⟩ (by kernel_rfl) (fun w v h => h) (fun A vs w' hF hT hb hd => ?_)
                have e1 : A.eval (.tmp 0) = .slice (some ⟨b, off, none⟩) l.length c := hF 0 rfl
                exact BigFrame.wp_move _ rfl ⟨_, rfl, e1, Below.refl _ _⟩
              case o13 =>
                refine GdOp.taken rfl ⟨_, _, rfl, rfl, by simp⟩ (by kernel_rfl) (fun w v h => h) (fun A vs w' hF hT hb hd => ?_)
                have e1 : A.eval (.tmp 5) = .int .i64 k := hF 5 rfl
                exact BigFrame.wp_move _ rfl ⟨_, rfl, e1, Below.refl _ _⟩
              case o14 =>
                refine GdOp.taken rfl ⟨_, _, rfl, rfl, by simp⟩ (by kernel_rfl) (fun w v h => h) (fun A vs w' hF hT hb hd => ?_)
                have e1 : A.eval (.tmp 29) = .slice (some ⟨b, off, none⟩) l.length c := (hT 29 12 (by simp) rfl).trans (hd ⟨12, .data⟩ (by simp) rfl)
                have e2 : A.eval (.tmp 30) = .int .i64 k := (hT 30 13 (by simp) rfl).trans (hd ⟨13, .data⟩ (by simp) rfl)
                exact wp_ixN (e := 61) rfl (by kernel_rfl) (by kernel_rfl) (e1) (e2) rfl (by omega) ⟨_, rfl, rfl, Below.refl _ _⟩
              case o15 =>
                refine GdOp.taken rfl ⟨_, _, rfl, rfl, by simp⟩ (by kernel_rfl) (fun w v h => h) (fun A vs w' hF hT hb hd => ?_)
                have e1 : A.eval (.tmp 31) = .pointer (some ⟨b, off + k * 3, none⟩) := (hT 31 14 (by simp) rfl).trans (hd ⟨14, .data⟩ (by simp) rfl)
                exact wp_fieldN verS rfl (e1) (by omega) ⟨_, rfl, rfl, Below.refl _ _⟩
              case o16 =>
                refine GdOp.taken rfl ⟨_, _, rfl, rfl, by simp⟩ (by kernel_rfl) (fun w v h => h) (fun A vs w' hF hT hb hd => ?_)
                have e1 : A.eval (.tmp 32) = .pointer (some ⟨b, off + k * 3 + 1, none⟩) := (hT 32 15 (by simp) rfl).trans (hd ⟨15, .data⟩ (by simp) rfl)
                exact wp_ld_bool  rfl e1 (by kernel_rfl) (((hb.cell (p := ⟨b, off + k * 3 + 1, none⟩) (cell_lt c1)).trans c1)) ⟨_, rfl, rfl, Below.refl _ _⟩
              case o17 =>
                refine GdOp.taken rfl ⟨_, _, rfl, rfl, by simp⟩ (by kernel_rfl) (fun w v h => h) (fun A vs w' hF hT hb hd => ?_)
                have e1 : A.eval (.tmp 1) = .slice (some ⟨b', off', none⟩) m.length c' := hF 1 rfl
                exact BigFrame.wp_move _ rfl ⟨_, rfl, e1, Below.refl _ _⟩
              case o18 =>
                refine GdOp.taken rfl ⟨_, _, rfl, rfl, by simp⟩ (by kernel_rfl) (fun w v h => h) (fun A vs w' hF hT hb hd => ?_)
                have e1 : A.eval (.tmp 5) = .int .i64 k := hF 5 rfl
                exact BigFrame.wp_move _ rfl ⟨_, rfl, e1, Below.refl _ _⟩
              case o19 =>
                refine GdOp.taken rfl ⟨_, _, rfl, rfl, by simp⟩ (by kernel_rfl) (fun w v h => h) (fun A vs w' hF hT hb hd => ?_)
                have e1 : A.eval (.tmp 34) = .slice (some ⟨b', off', none⟩) m.length c' := (hT 34 17 (by simp) rfl).trans (hd ⟨17, .data⟩ (by simp) rfl)
                have e2 : A.eval (.tmp 35) = .int .i64 k := (hT 35 18 (by simp) rfl).trans (hd ⟨18, .data⟩ (by simp) rfl)
                exact wp_ixN (e := 61) rfl (by kernel_rfl) (by kernel_rfl) (e1) (e2) rfl (by omega) ⟨_, rfl, rfl, Below.refl _ _⟩
              case o20 =>
                refine GdOp.taken rfl ⟨_, _, rfl, rfl, by simp⟩ (by kernel_rfl) (fun w v h => h) (fun A vs w' hF hT hb hd => ?_)
                have e1 : A.eval (.tmp 36) = .pointer (some ⟨b', off' + k * 3, none⟩) := (hT 36 19 (by simp) rfl).trans (hd ⟨19, .data⟩ (by simp) rfl)
                exact wp_fieldN verS rfl (e1) (by omega) ⟨_, rfl, rfl, Below.refl _ _⟩
              case o21 =>
                refine GdOp.taken rfl ⟨_, _, rfl, rfl, by simp⟩ (by kernel_rfl) (fun w v h => h) (fun A vs w' hF hT hb hd => ?_)
                have e1 : A.eval (.tmp 37) = .pointer (some ⟨b', off' + k * 3 + 1, none⟩) := (hT 37 20 (by simp) rfl).trans (hd ⟨20, .data⟩ (by simp) rfl)
                exact wp_ld_bool  rfl e1 (by kernel_rfl) (((hb.cell (p := ⟨b', off' + k * 3 + 1, none⟩) (cell_lt c1')).trans c1')) ⟨_, rfl, rfl, Below.refl _ _⟩
              case o22 =>
                refine GdOp.taken rfl ⟨_, _, rfl, rfl, by simp⟩ (by kernel_rfl) (fun w v h => h) (fun A vs w' hF hT hb hd => ?_)
                have e1 : A.eval (.tmp 33) = .bool x.gone := (hT 33 16 (by simp) rfl).trans (hd ⟨16, .data⟩ (by simp) rfl)
                have e2 : A.eval (.tmp 38) = .bool y.gone := (hT 38 21 (by simp) rfl).trans (hd ⟨21, .data⟩ (by simp) rfl)
                exact wp_neqB (by kernel_rfl) rfl e1 e2 ⟨_, rfl, congrArg Value.bool (by simp [h2]), Below.refl _ _⟩
              case o23 =>
                refine GdOp.plain rfl (fun A vs w' hF hT hb hd => ?_)
                have e1 : A.eval (.tmp 28) = .bool false := (hT 28 11 (by simp) rfl).trans (hd ⟨11, .data⟩ (by simp) rfl)
                have e3 : A.eval (.tmp 39) = .bool false := (hT 39 22 (by simp) rfl).trans (hd ⟨22, .data⟩ (by simp) rfl)
                exact wp_pk rfl e1 (by simp) (fun _ => e3) ⟨_, rfl, rfl, Below.refl _ _⟩
              case o24 =>
                refine GdOp.plain rfl (fun A vs w' hF hT hb hd => ?_)
                have e1 : A.eval (.tmp 40) = .bool false := (hT 40 23 (by simp) rfl).trans (hd ⟨23, .data⟩ (by simp) rfl)
                exact BigFrame.wp_move _ rfl ⟨_, rfl, e1, Below.refl _ _⟩
              case o25 =>
                refine GdOp.taken rfl ⟨_, _, rfl, rfl, by simp⟩ (by kernel_rfl) (fun w v h => h) (fun A vs w' hF hT hb hd => ?_)
                have e1 : A.eval (.tmp 0) = .slice (some ⟨b, off, none⟩) l.length c := hF 0 rfl
                exact BigFrame.wp_move _ rfl ⟨_, rfl, e1, Below.refl _ _⟩
              case o26 =>
                refine GdOp.taken rfl ⟨_, _, rfl, rfl, by simp⟩ (by kernel_rfl) (fun w v h => h) (fun A vs w' hF hT hb hd => ?_)
                have e1 : A.eval (.tmp 5) = .int .i64 k := hF 5 rfl
                exact BigFrame.wp_move _ rfl ⟨_, rfl, e1, Below.refl _ _⟩
              case o27 =>
                refine GdOp.taken rfl ⟨_, _, rfl, rfl, by simp⟩ (by kernel_rfl) (fun w v h => h) (fun A vs w' hF hT hb hd => ?_)
                have e1 : A.eval (.tmp 42) = .slice (some ⟨b, off, none⟩) l.length c := (hT 42 25 (by simp) rfl).trans (hd ⟨25, .data⟩ (by simp) rfl)
                have e2 : A.eval (.tmp 43) = .int .i64 k := (hT 43 26 (by simp) rfl).trans (hd ⟨26, .data⟩ (by simp) rfl)
                exact wp_ixN (e := 61) rfl (by kernel_rfl) (by kernel_rfl) (e1) (e2) rfl (by omega) ⟨_, rfl, rfl, Below.refl _ _⟩
              case o28 =>
                refine GdOp.taken rfl ⟨_, _, rfl, rfl, by simp⟩ (by kernel_rfl) (fun w v h => h) (fun A vs w' hF hT hb hd => ?_)
                have e1 : A.eval (.tmp 44) = .pointer (some ⟨b, off + k * 3, none⟩) := (hT 44 27 (by simp) rfl).trans (hd ⟨27, .data⟩ (by simp) rfl)
                exact wp_fieldN verS rfl (e1) (by omega) ⟨_, rfl, rfl, Below.refl _ _⟩
              case o29 =>
                refine GdOp.taken rfl ⟨_, _, rfl, rfl, by simp⟩ (by kernel_rfl) (fun w v h => h) (fun A vs w' hF hT hb hd => ?_)
                have e1 : A.eval (.tmp 45) = .pointer (some ⟨b, off + k * 3 + 2, none⟩) := (hT 45 28 (by simp) rfl).trans (hd ⟨28, .data⟩ (by simp) rfl)
                exact wp_ld_slice (e := 5) rfl e1 (by kernel_rfl) (((hb.cell (p := ⟨b, off + k * 3 + 2, none⟩) (cell_lt c2)).trans c2)) ⟨_, rfl, rfl, Below.refl _ _⟩
              case o30 =>
                refine GdOp.taken rfl ⟨_, _, rfl, rfl, by simp⟩ (by kernel_rfl) (fun w v h => h) (fun A vs w' hF hT hb hd => ?_)
                have e1 : A.eval (.tmp 46) = .slice Av x.value.length Cv := (hT 46 29 (by simp) rfl).trans (hd ⟨29, .data⟩ (by simp) rfl)
                exact wp_conv byP rfl e1 (hvr.below hb) ⟨_, rfl, rfl, Below.refl _ _⟩
              case o31 =>
                refine GdOp.taken rfl ⟨_, _, rfl, rfl, by simp⟩ (by kernel_rfl) (fun w v h => h) (fun A vs w' hF hT hb hd => ?_)
                have e1 : A.eval (.tmp 1) = .slice (some ⟨b', off', none⟩) m.length c' := hF 1 rfl
                exact BigFrame.wp_move _ rfl ⟨_, rfl, e1, Below.refl _ _⟩
              case o32 =>
                refine GdOp.taken rfl ⟨_, _, rfl, rfl, by simp⟩ (by kernel_rfl) (fun w v h => h) (fun A vs w' hF hT hb hd => ?_)
                have e1 : A.eval (.tmp 5) = .int .i64 k := hF 5 rfl
                exact BigFrame.wp_move _ rfl ⟨_, rfl, e1, Below.refl _ _⟩
              case o33 =>
                refine GdOp.taken rfl ⟨_, _, rfl, rfl, by simp⟩ (by kernel_rfl) (fun w v h => h) (fun A vs w' hF hT hb hd => ?_)
                have e1 : A.eval (.tmp 48) = .slice (some ⟨b', off', none⟩) m.length c' := (hT 48 31 (by simp) rfl).trans (hd ⟨31, .data⟩ (by simp) rfl)
                have e2 : A.eval (.tmp 49) = .int .i64 k := (hT 49 32 (by simp) rfl).trans (hd ⟨32, .data⟩ (by simp) rfl)
                exact wp_ixN (e := 61) rfl (by kernel_rfl) (by kernel_rfl) (e1) (e2) rfl (by omega) ⟨_, rfl, rfl, Below.refl _ _⟩
              case o34 =>
                refine GdOp.taken rfl ⟨_, _, rfl, rfl, by simp⟩ (by kernel_rfl) (fun w v h => h) (fun A vs w' hF hT hb hd => ?_)
                have e1 : A.eval (.tmp 50) = .pointer (some ⟨b', off' + k * 3, none⟩) := (hT 50 33 (by simp) rfl).trans (hd ⟨33, .data⟩ (by simp) rfl)
                exact wp_fieldN verS rfl (e1) (by omega) ⟨_, rfl, rfl, Below.refl _ _⟩
              case o35 =>
                refine GdOp.taken rfl ⟨_, _, rfl, rfl, by simp⟩ (by kernel_rfl) (fun w v h => h) (fun A vs w' hF hT hb hd => ?_)
                have e1 : A.eval (.tmp 51) = .pointer (some ⟨b', off' + k * 3 + 2, none⟩) := (hT 51 34 (by simp) rfl).trans (hd ⟨34, .data⟩ (by simp) rfl)
                exact wp_ld_slice (e := 5) rfl e1 (by kernel_rfl) (((hb.cell (p := ⟨b', off' + k * 3 + 2, none⟩) (cell_lt c2')).trans c2')) ⟨_, rfl, rfl, Below.refl _ _⟩
              case o36 =>
                refine GdOp.taken rfl ⟨_, _, rfl, rfl, by simp⟩ (by kernel_rfl) (fun w v h => h) (fun A vs w' hF hT hb hd => ?_)
                have e1 : A.eval (.tmp 52) = .slice A' y.value.length C' := (hT 52 35 (by simp) rfl).trans (hd ⟨35, .data⟩ (by simp) rfl)
                exact wp_conv byP rfl e1 (hvr'.below hb) ⟨_, rfl, rfl, Below.refl _ _⟩
              case o37 =>
                refine GdOp.taken rfl ⟨_, _, rfl, rfl, by simp⟩ (by kernel_rfl) (fun w v h => h) (fun A vs w' hF hT hb hd => ?_)
                have e1 : A.eval (.tmp 47) = .string (strOf x.value) := (hT 47 30 (by simp) rfl).trans (hd ⟨30, .data⟩ (by simp) rfl)
                have e2 : A.eval (.tmp 53) = .string (strOf y.value) := (hT 53 36 (by simp) rfl).trans (hd ⟨36, .data⟩ (by simp) rfl)
                exact wp_neqS rfl e1 e2 ⟨_, rfl, congrArg Value.bool (by simp [h3]), Below.refl _ _⟩
              case o38 =>
                refine GdOp.plain rfl (fun A vs w' hF hT hb hd => ?_)
                have e1 : A.eval (.tmp 41) = .bool false := (hT 41 24 (by simp) rfl).trans (hd ⟨24, .data⟩ (by simp) rfl)
                have e3 : A.eval (.tmp 54) = .bool true := (hT 54 37 (by simp) rfl).trans (hd ⟨37, .data⟩ (by simp) rfl)
                exact wp_pk rfl e1 (by simp) (fun _ => e3) ⟨_, rfl, rfl, Below.refl _ _⟩
              case fin =>
                intro vs w' hb hG
                have e38 : vs 38 = .bool true := hG 38 (by decide)
                simp only [putAll, e38]
                clear hG e38
                have q2 := q.trans (hb.mono q.size)
                clear hb q
                go_simp
                go_wp2_with fail
                go_ret
                exact ⟨by rw [H.out]; rfl, q2⟩
          · have H := Lib.hid (hne (fun e => h2 (by rw [e])))
            clear hne hsn
            refine wp_region_gsg (by kernel_rfl) (by kernel_rfl) [sgEq (.slice (some ⟨b, off, none⟩) l.length c), sgEq (.int .i64 k), sgEq (.pointer (some ⟨b, off + k * 3, none⟩)), sgEq (.pointer (some ⟨b, off + k * 3, none⟩)), sgEq (.int .i64 x.stamp), sgEq (.slice (some ⟨b', off', none⟩) m.length c'), sgEq (.int .i64 k), sgEq (.pointer (some ⟨b', off' + k * 3, none⟩)), sgEq (.pointer (some ⟨b', off' + k * 3, none⟩)), sgEq (.int .i64 y.stamp), sgEq (.bool false), sgEq (.bool false), sgEq (.slice (some ⟨b, off, none⟩) l.length c), sgEq (.int .i64 k), sgEq (.pointer (some ⟨b, off + k * 3, none⟩)), sgEq (.pointer (some ⟨b, off + k * 3 + 1, none⟩)), sgEq (.bool x.gone), sgEq (.slice (some ⟨b', off', none⟩) m.length c'), sgEq (.int .i64 k), sgEq (.pointer (some ⟨b', off' + k * 3, none⟩)), sgEq (.pointer (some ⟨b', off' + k * 3 + 1, none⟩)), sgEq (.bool y.gone), sgEq (.bool true), sgEq (.bool true), sgEq (.bool true), sgEq undef, sgEq undef, sgEq undef, sgEq undef, sgEq undef, sgEq undef, sgEq undef, sgEq undef, sgEq undef, sgEq undef, sgEq undef, sgEq undef, sgEq undef, sgEq (.bool true)]
              ⟨?o0, ?o1, ?o2, ?o3, ?o4, ?o5, ?o6, ?o7, ?o8, ?o9, ?o10, ?o11, ?o12, ?o13, ?o14, ?o15, ?o16, ?o17, ?o18, ?o19, ?o20, ?o21, ?o22, ?o23, ?o24, ?o25, ?o26, ?o27, ?o28, ?o29, ?o30, ?o31, ?o32, ?o33, ?o34, ?o35, ?o36, ?o37, ?o38, trivial⟩ ?fin
            case o0 =>
              refine GdOp.plain rfl (fun A vs w' hF hT hb hd => ?_)
              have e1 : A.eval (.tmp 0) = .slice (some ⟨b, off, none⟩) l.length c := hF 0 rfl
              exact BigFrame.wp_move _ rfl ⟨_, rfl, e1, Below.refl _ _⟩
            case o1 =>
              refine GdOp.plain rfl (fun A vs w' hF hT hb hd => ?_)
              have e1 : A.eval (.tmp 5) = .int .i64 k := hF 5 rfl
              exact BigFrame.wp_move _ rfl ⟨_, rfl, e1, Below.refl _ _⟩
            case o2 =>
              refine GdOp.plain rfl (fun A vs w' hF hT hb hd => ?_)
              have e1 : A.eval (.tmp 17) = .slice (some ⟨b, off, none⟩) l.length c := (hT 17 0 (by simp) rfl).trans (hd ⟨0, .data⟩ (by simp) rfl)
              have e2 : A.eval (.tmp 18) = .int .i64 k := (hT 18 1 (by simp) rfl).trans (hd ⟨1, .data⟩ (by simp) rfl)
              exact wp_ixN (e := 61) rfl (by kernel_rfl) (by kernel_rfl) (e1) (e2) rfl (by omega) ⟨_, rfl, rfl, Below.refl _ _⟩
            case o3 =>
              refine GdOp.plain rfl (fun A vs w' hF hT hb hd => ?_)
              have e1 : A.eval (.tmp 19) = .pointer (some ⟨b, off + k * 3, none⟩) := (hT 19 2 (by simp) rfl).trans (hd ⟨2, .data⟩ (by simp) rfl)
              exact wp_fieldN verS rfl (e1) (by omega) ⟨_, rfl, rfl, Below.refl _ _⟩
            case o4 =>
              refine GdOp.plain rfl (fun A vs w' hF hT hb hd => ?_)
              have e1 : A.eval (.tmp 20) = .pointer (some ⟨b, off + k * 3, none⟩) := (hT 20 3 (by simp) rfl).trans (hd ⟨3, .data⟩ (by simp) rfl)
              exact wp_ld_int (k := .i64) rfl e1 (by kernel_rfl) (((hb.cell (p := ⟨b, off + k * 3, none⟩) (cell_lt c0)).trans c0)) ⟨_, rfl, rfl, Below.refl _ _⟩
            case o5 =>
              refine GdOp.plain rfl (fun A vs w' hF hT hb hd => ?_)
              have e1 : A.eval (.tmp 1) = .slice (some ⟨b', off', none⟩) m.length c' := hF 1 rfl
              exact BigFrame.wp_move _ rfl ⟨_, rfl, e1, Below.refl _ _⟩
            case o6 =>
              refine GdOp.plain rfl (fun A vs w' hF hT hb hd => ?_)
              have e1 : A.eval (.tmp 5) = .int .i64 k := hF 5 rfl
              exact BigFrame.wp_move _ rfl ⟨_, rfl, e1, Below.refl _ _⟩
            case o7 =>
              refine GdOp.plain rfl (fun A vs w' hF hT hb hd => ?_)
              have e1 : A.eval (.tmp 22) = .slice (some ⟨b', off', none⟩) m.length c' := (hT 22 5 (by simp) rfl).trans (hd ⟨5, .data⟩ (by simp) rfl)
              have e2 : A.eval (.tmp 23) = .int .i64 k := (hT 23 6 (by simp) rfl).trans (hd ⟨6, .data⟩ (by simp) rfl)
              exact wp_ixN (e := 61) rfl (by kernel_rfl) (by kernel_rfl) (e1) (e2) rfl (by omega) ⟨_, rfl, rfl, Below.refl _ _⟩
            case o8 =>
              refine GdOp.plain rfl (fun A vs w' hF hT hb hd => ?_)
              have e1 : A.eval (.tmp 24) = .pointer (some ⟨b', off' + k * 3, none⟩) := (hT 24 7 (by simp) rfl).trans (hd ⟨7, .data⟩ (by simp) rfl)
              exact wp_fieldN verS rfl (e1) (by omega) ⟨_, rfl, rfl, Below.refl _ _⟩
            case o9 =>
              refine GdOp.plain rfl (fun A vs w' hF hT hb hd => ?_)
              have e1 : A.eval (.tmp 25) = .pointer (some ⟨b', off' + k * 3, none⟩) := (hT 25 8 (by simp) rfl).trans (hd ⟨8, .data⟩ (by simp) rfl)
              exact wp_ld_int (k := .i64) rfl e1 (by kernel_rfl) (((hb.cell (p := ⟨b', off' + k * 3, none⟩) (cell_lt c0')).trans c0')) ⟨_, rfl, rfl, Below.refl _ _⟩
            case o10 =>
              refine GdOp.plain rfl (fun A vs w' hF hT hb hd => ?_)
              have e1 : A.eval (.tmp 21) = .int .i64 x.stamp := (hT 21 4 (by simp) rfl).trans (hd ⟨4, .data⟩ (by simp) rfl)
              have e2 : A.eval (.tmp 26) = .int .i64 y.stamp := (hT 26 9 (by simp) rfl).trans (hd ⟨9, .data⟩ (by simp) rfl)
              exact wp_neqI rfl e1 e2 ⟨_, rfl, congrArg Value.bool (by simp [h1]), Below.refl _ _⟩
            case o11 =>
              refine GdOp.plain rfl (fun A vs w' hF hT hb hd => ?_)
              have e1 : A.eval (.tmp 27) = .bool false := (hT 27 10 (by simp) rfl).trans (hd ⟨10, .data⟩ (by simp) rfl)
              exact BigFrame.wp_move _ rfl ⟨_, rfl, e1, Below.refl _ _⟩
            case o12 =>
              refine GdOp.taken rfl ⟨_, _, rfl, rfl, by simp⟩ (by kernel_rfl) (fun w v h => h) (fun A vs w' hF hT hb hd => ?_)
              have e1 : A.eval (.tmp 0) = .slice (some ⟨b, off, none⟩) l.length c := hF 0 rfl
              exact BigFrame.wp_move _ rfl ⟨_, rfl, e1, Below.refl _ _⟩
            case o13 =>
              refine GdOp.taken rfl ⟨_, _, rfl, rfl, by simp⟩ (by kernel_rfl) (fun w v h => h) (fun A vs w' hF hT hb hd => ?_)
              have e1 : A.eval (.tmp 5) = .int .i64 k := hF 5 rfl
              exact BigFrame.wp_move _ rfl ⟨_, rfl, e1, Below.refl _ _⟩
            case o14 =>
              refine GdOp.taken rfl ⟨_, _, rfl, rfl, by simp⟩ (by kernel_rfl) (fun w v h => h) (fun A vs w' hF hT hb hd => ?_)
              have e1 : A.eval (.tmp 29) = .slice (some ⟨b, off, none⟩) l.length c := (hT 29 12 (by simp) rfl).trans (hd ⟨12, .data⟩ (by simp) rfl)
              have e2 : A.eval (.tmp 30) = .int .i64 k := (hT 30 13 (by simp) rfl).trans (hd ⟨13, .data⟩ (by simp) rfl)
              exact wp_ixN (e := 61) rfl (by kernel_rfl) (by kernel_rfl) (e1) (e2) rfl (by omega) ⟨_, rfl, rfl, Below.refl _ _⟩
            case o15 =>
              refine GdOp.taken rfl ⟨_, _, rfl, rfl, by simp⟩ (by kernel_rfl) (fun w v h => h) (fun A vs w' hF hT hb hd => ?_)
              have e1 : A.eval (.tmp 31) = .pointer (some ⟨b, off + k * 3, none⟩) := (hT 31 14 (by simp) rfl).trans (hd ⟨14, .data⟩ (by simp) rfl)
              exact wp_fieldN verS rfl (e1) (by omega) ⟨_, rfl, rfl, Below.refl _ _⟩
            case o16 =>
              refine GdOp.taken rfl ⟨_, _, rfl, rfl, by simp⟩ (by kernel_rfl) (fun w v h => h) (fun A vs w' hF hT hb hd => ?_)
              have e1 : A.eval (.tmp 32) = .pointer (some ⟨b, off + k * 3 + 1, none⟩) := (hT 32 15 (by simp) rfl).trans (hd ⟨15, .data⟩ (by simp) rfl)
              exact wp_ld_bool  rfl e1 (by kernel_rfl) (((hb.cell (p := ⟨b, off + k * 3 + 1, none⟩) (cell_lt c1)).trans c1)) ⟨_, rfl, rfl, Below.refl _ _⟩
            case o17 =>
              refine GdOp.taken rfl ⟨_, _, rfl, rfl, by simp⟩ (by kernel_rfl) (fun w v h => h) (fun A vs w' hF hT hb hd => ?_)
              have e1 : A.eval (.tmp 1) = .slice (some ⟨b', off', none⟩) m.length c' := hF 1 rfl
              exact BigFrame.wp_move _ rfl ⟨_, rfl, e1, Below.refl _ _⟩
            case o18 =>
              refine GdOp.taken rfl ⟨_, _, rfl, rfl, by simp⟩ (by kernel_rfl) (fun w v h => h) (fun A vs w' hF hT hb hd => ?_)
              have e1 : A.eval (.tmp 5) = .int .i64 k := hF 5 rfl
              exact BigFrame.wp_move _ rfl ⟨_, rfl, e1, Below.refl _ _⟩
            case o19 =>
              refine GdOp.taken rfl ⟨_, _, rfl, rfl, by simp⟩ (by kernel_rfl) (fun w v h => h) (fun A vs w' hF hT hb hd => ?_)
              have e1 : A.eval (.tmp 34) = .slice (some ⟨b', off', none⟩) m.length c' := (hT 34 17 (by simp) rfl).trans (hd ⟨17, .data⟩ (by simp) rfl)
              have e2 : A.eval (.tmp 35) = .int .i64 k := (hT 35 18 (by simp) rfl).trans (hd ⟨18, .data⟩ (by simp) rfl)
              exact wp_ixN (e := 61) rfl (by kernel_rfl) (by kernel_rfl) (e1) (e2) rfl (by omega) ⟨_, rfl, rfl, Below.refl _ _⟩
            case o20 =>
              refine GdOp.taken rfl ⟨_, _, rfl, rfl, by simp⟩ (by kernel_rfl) (fun w v h => h) (fun A vs w' hF hT hb hd => ?_)
              have e1 : A.eval (.tmp 36) = .pointer (some ⟨b', off' + k * 3, none⟩) := (hT 36 19 (by simp) rfl).trans (hd ⟨19, .data⟩ (by simp) rfl)
              exact wp_fieldN verS rfl (e1) (by omega) ⟨_, rfl, rfl, Below.refl _ _⟩
            case o21 =>
              refine GdOp.taken rfl ⟨_, _, rfl, rfl, by simp⟩ (by kernel_rfl) (fun w v h => h) (fun A vs w' hF hT hb hd => ?_)
              have e1 : A.eval (.tmp 37) = .pointer (some ⟨b', off' + k * 3 + 1, none⟩) := (hT 37 20 (by simp) rfl).trans (hd ⟨20, .data⟩ (by simp) rfl)
              exact wp_ld_bool  rfl e1 (by kernel_rfl) (((hb.cell (p := ⟨b', off' + k * 3 + 1, none⟩) (cell_lt c1')).trans c1')) ⟨_, rfl, rfl, Below.refl _ _⟩
            case o22 =>
              refine GdOp.taken rfl ⟨_, _, rfl, rfl, by simp⟩ (by kernel_rfl) (fun w v h => h) (fun A vs w' hF hT hb hd => ?_)
              have e1 : A.eval (.tmp 33) = .bool x.gone := (hT 33 16 (by simp) rfl).trans (hd ⟨16, .data⟩ (by simp) rfl)
              have e2 : A.eval (.tmp 38) = .bool y.gone := (hT 38 21 (by simp) rfl).trans (hd ⟨21, .data⟩ (by simp) rfl)
              exact wp_neqB (by kernel_rfl) rfl e1 e2 ⟨_, rfl, congrArg Value.bool (by simp [h2]), Below.refl _ _⟩
            case o23 =>
              refine GdOp.plain rfl (fun A vs w' hF hT hb hd => ?_)
              have e1 : A.eval (.tmp 28) = .bool false := (hT 28 11 (by simp) rfl).trans (hd ⟨11, .data⟩ (by simp) rfl)
              have e3 : A.eval (.tmp 39) = .bool true := (hT 39 22 (by simp) rfl).trans (hd ⟨22, .data⟩ (by simp) rfl)
              exact wp_pk rfl e1 (by simp) (fun _ => e3) ⟨_, rfl, rfl, Below.refl _ _⟩
            case o24 =>
              refine GdOp.plain rfl (fun A vs w' hF hT hb hd => ?_)
              have e1 : A.eval (.tmp 40) = .bool true := (hT 40 23 (by simp) rfl).trans (hd ⟨23, .data⟩ (by simp) rfl)
              exact BigFrame.wp_move _ rfl ⟨_, rfl, e1, Below.refl _ _⟩
            case o25 =>
              exact GdOp.left rfl ⟨_, _, rfl, rfl, by simp⟩ (by kernel_rfl) (fun w v h => .inl h) (fun w => rfl)
            case o26 =>
              exact GdOp.left rfl ⟨_, _, rfl, rfl, by simp⟩ (by kernel_rfl) (fun w v h => .inl h) (fun w => rfl)
            case o27 =>
              exact GdOp.left rfl ⟨_, _, rfl, rfl, by simp⟩ (by kernel_rfl) (fun w v h => .inl h) (fun w => rfl)
            case o28 =>
              exact GdOp.left rfl ⟨_, _, rfl, rfl, by simp⟩ (by kernel_rfl) (fun w v h => .inl h) (fun w => rfl)
            case o29 =>
              exact GdOp.left rfl ⟨_, _, rfl, rfl, by simp⟩ (by kernel_rfl) (fun w v h => .inl h) (fun w => rfl)
            case o30 =>
              exact GdOp.left rfl ⟨_, _, rfl, rfl, by simp⟩ (by kernel_rfl) (fun w v h => .inl h) (fun w => rfl)
            case o31 =>
              exact GdOp.left rfl ⟨_, _, rfl, rfl, by simp⟩ (by kernel_rfl) (fun w v h => .inl h) (fun w => rfl)
            case o32 =>
              exact GdOp.left rfl ⟨_, _, rfl, rfl, by simp⟩ (by kernel_rfl) (fun w v h => .inl h) (fun w => rfl)
            case o33 =>
              exact GdOp.left rfl ⟨_, _, rfl, rfl, by simp⟩ (by kernel_rfl) (fun w v h => .inl h) (fun w => rfl)
            case o34 =>
              exact GdOp.left rfl ⟨_, _, rfl, rfl, by simp⟩ (by kernel_rfl) (fun w v h => .inl h) (fun w => rfl)
            case o35 =>
              exact GdOp.left rfl ⟨_, _, rfl, rfl, by simp⟩ (by kernel_rfl) (fun w v h => .inl h) (fun w => rfl)
            case o36 =>
              exact GdOp.left rfl ⟨_, _, rfl, rfl, by simp⟩ (by kernel_rfl) (fun w v h => .inl h) (fun w => rfl)
            case o37 =>
              exact GdOp.left rfl ⟨_, _, rfl, rfl, by simp⟩ (by kernel_rfl) (fun w v h => .inl h) (fun w => rfl)
            case o38 =>
              refine GdOp.plain rfl (fun A vs w' hF hT hb hd => ?_)
              have e1 : A.eval (.tmp 41) = .bool true := (hT 41 24 (by simp) rfl).trans (hd ⟨24, .data⟩ (by simp) rfl)
              have e3 : A.eval (.tmp 54) = undef := (hT 54 37 (by simp) rfl).trans (hd ⟨37, .data⟩ (by simp) rfl)
              exact wp_pk rfl e1 (fun _ => rfl) (by simp) ⟨_, rfl, rfl, Below.refl _ _⟩
            case fin =>
              intro vs w' hb hG
              have e38 : vs 38 = .bool true := hG 38 (by decide)
              simp only [putAll, e38]
              clear hG e38
              have q2 := q.trans (hb.mono q.size)
              clear hb q
              go_simp
              go_wp2_with fail
              go_ret
              exact ⟨by rw [H.out]; rfl, q2⟩
        · have H := Lib.hid (hne (fun e => h1 (by rw [e])))
          clear hne hsn
          refine wp_region_gsg (by kernel_rfl) (by kernel_rfl) [sgEq (.slice (some ⟨b, off, none⟩) l.length c), sgEq (.int .i64 k), sgEq (.pointer (some ⟨b, off + k * 3, none⟩)), sgEq (.pointer (some ⟨b, off + k * 3, none⟩)), sgEq (.int .i64 x.stamp), sgEq (.slice (some ⟨b', off', none⟩) m.length c'), sgEq (.int .i64 k), sgEq (.pointer (some ⟨b', off' + k * 3, none⟩)), sgEq (.pointer (some ⟨b', off' + k * 3, none⟩)), sgEq (.int .i64 y.stamp), sgEq (.bool true), sgEq (.bool true), sgEq undef, sgEq undef, sgEq undef, sgEq undef, sgEq undef, sgEq undef, sgEq undef, sgEq undef, sgEq undef, sgEq undef, sgEq undef, sgEq (.bool true), sgEq (.bool true), sgEq undef, sgEq undef, sgEq undef, sgEq undef, sgEq undef, sgEq undef, sgEq undef, sgEq undef, sgEq undef, sgEq undef, sgEq undef, sgEq undef, sgEq undef, sgEq (.bool true)]
            ⟨?o0, ?o1, ?o2, ?o3, ?o4, ?o5, ?o6, ?o7, ?o8, ?o9, ?o10, ?o11, ?o12, ?o13, ?o14, ?o15, ?o16, ?o17, ?o18, ?o19, ?o20, ?o21, ?o22, ?o23, ?o24, ?o25, ?o26, ?o27, ?o28, ?o29, ?o30, ?o31, ?o32, ?o33, ?o34, ?o35, ?o36, ?o37, ?o38, trivial⟩ ?fin
          case o0 =>
            refine GdOp.plain rfl (fun A vs w' hF hT hb hd => ?_)
            have e1 : A.eval (.tmp 0) = .slice (some ⟨b, off, none⟩) l.length c := hF 0 rfl
            exact BigFrame.wp_move _ rfl ⟨_, rfl, e1, Below.refl _ _⟩
          case o1 =>
            refine GdOp.plain rfl (fun A vs w' hF hT hb hd => ?_)
            have e1 : A.eval (.tmp 5) = .int .i64 k := hF 5 rfl
            exact BigFrame.wp_move _ rfl ⟨_, rfl, e1, Below.refl _ _⟩
          case o2 =>
            refine GdOp.plain rfl (fun A vs w' hF hT hb hd => ?_)
            have e1 : A.eval (.tmp 17) = .slice (some ⟨b, off, none⟩) l.length c := (hT 17 0 (by simp) rfl).trans (hd ⟨0, .data⟩ (by simp) rfl)
            have e2 : A.eval (.tmp 18) = .int .i64 k := (hT 18 1 (by simp) rfl).trans (hd ⟨1, .data⟩ (by simp) rfl)
            exact wp_ixN (e := 61) rfl (by kernel_rfl) (by kernel_rfl) (e1) (e2) rfl (by omega) ⟨_, rfl, rfl, Below.refl _ _⟩
          case o3 =>
            refine GdOp.plain rfl (fun A vs w' hF hT hb hd => ?_)
            have e1 : A.eval (.tmp 19) = .pointer (some ⟨b, off + k * 3, none⟩) := (hT 19 2 (by simp) rfl).trans (hd ⟨2, .data⟩ (by simp) rfl)
            exact wp_fieldN verS rfl (e1) (by omega) ⟨_, rfl, rfl, Below.refl _ _⟩
          case o4 =>
            refine GdOp.plain rfl (fun A vs w' hF hT hb hd => ?_)
            have e1 : A.eval (.tmp 20) = .pointer (some ⟨b, off + k * 3, none⟩) := (hT 20 3 (by simp) rfl).trans (hd ⟨3, .data⟩ (by simp) rfl)
            exact wp_ld_int (k := .i64) rfl e1 (by kernel_rfl) (((hb.cell (p := ⟨b, off + k * 3, none⟩) (cell_lt c0)).trans c0)) ⟨_, rfl, rfl, Below.refl _ _⟩
          case o5 =>
            refine GdOp.plain rfl (fun A vs w' hF hT hb hd => ?_)
            have e1 : A.eval (.tmp 1) = .slice (some ⟨b', off', none⟩) m.length c' := hF 1 rfl
            exact BigFrame.wp_move _ rfl ⟨_, rfl, e1, Below.refl _ _⟩
          case o6 =>
            refine GdOp.plain rfl (fun A vs w' hF hT hb hd => ?_)
            have e1 : A.eval (.tmp 5) = .int .i64 k := hF 5 rfl
            exact BigFrame.wp_move _ rfl ⟨_, rfl, e1, Below.refl _ _⟩
          case o7 =>
            refine GdOp.plain rfl (fun A vs w' hF hT hb hd => ?_)
            have e1 : A.eval (.tmp 22) = .slice (some ⟨b', off', none⟩) m.length c' := (hT 22 5 (by simp) rfl).trans (hd ⟨5, .data⟩ (by simp) rfl)
            have e2 : A.eval (.tmp 23) = .int .i64 k := (hT 23 6 (by simp) rfl).trans (hd ⟨6, .data⟩ (by simp) rfl)
            exact wp_ixN (e := 61) rfl (by kernel_rfl) (by kernel_rfl) (e1) (e2) rfl (by omega) ⟨_, rfl, rfl, Below.refl _ _⟩
          case o8 =>
            refine GdOp.plain rfl (fun A vs w' hF hT hb hd => ?_)
            have e1 : A.eval (.tmp 24) = .pointer (some ⟨b', off' + k * 3, none⟩) := (hT 24 7 (by simp) rfl).trans (hd ⟨7, .data⟩ (by simp) rfl)
            exact wp_fieldN verS rfl (e1) (by omega) ⟨_, rfl, rfl, Below.refl _ _⟩
          case o9 =>
            refine GdOp.plain rfl (fun A vs w' hF hT hb hd => ?_)
            have e1 : A.eval (.tmp 25) = .pointer (some ⟨b', off' + k * 3, none⟩) := (hT 25 8 (by simp) rfl).trans (hd ⟨8, .data⟩ (by simp) rfl)
            exact wp_ld_int (k := .i64) rfl e1 (by kernel_rfl) (((hb.cell (p := ⟨b', off' + k * 3, none⟩) (cell_lt c0')).trans c0')) ⟨_, rfl, rfl, Below.refl _ _⟩
          case o10 =>
            refine GdOp.plain rfl (fun A vs w' hF hT hb hd => ?_)
            have e1 : A.eval (.tmp 21) = .int .i64 x.stamp := (hT 21 4 (by simp) rfl).trans (hd ⟨4, .data⟩ (by simp) rfl)
            have e2 : A.eval (.tmp 26) = .int .i64 y.stamp := (hT 26 9 (by simp) rfl).trans (hd ⟨9, .data⟩ (by simp) rfl)
            exact wp_neqI rfl e1 e2 ⟨_, rfl, congrArg Value.bool (by simp [h1]), Below.refl _ _⟩
          case o11 =>
            refine GdOp.plain rfl (fun A vs w' hF hT hb hd => ?_)
            have e1 : A.eval (.tmp 27) = .bool true := (hT 27 10 (by simp) rfl).trans (hd ⟨10, .data⟩ (by simp) rfl)
            exact BigFrame.wp_move _ rfl ⟨_, rfl, e1, Below.refl _ _⟩
          case o12 =>
            exact GdOp.left rfl ⟨_, _, rfl, rfl, by simp⟩ (by kernel_rfl) (fun w v h => .inl h) (fun w => rfl)
          case o13 =>
            exact GdOp.left rfl ⟨_, _, rfl, rfl, by simp⟩ (by kernel_rfl) (fun w v h => .inl h) (fun w => rfl)
          case o14 =>
            exact GdOp.left rfl ⟨_, _, rfl, rfl, by simp⟩ (by kernel_rfl) (fun w v h => .inl h) (fun w => rfl)
          case o15 =>
            exact GdOp.left rfl ⟨_, _, rfl, rfl, by simp⟩ (by kernel_rfl) (fun w v h => .inl h) (fun w => rfl)
          case o16 =>
            exact GdOp.left rfl ⟨_, _, rfl, rfl, by simp⟩ (by kernel_rfl) (fun w v h => .inl h) (fun w => rfl)
          case o17 =>
            exact GdOp.left rfl ⟨_, _, rfl, rfl, by simp⟩ (by kernel_rfl) (fun w v h => .inl h) (fun w => rfl)
          case o18 =>
            exact GdOp.left rfl ⟨_, _, rfl, rfl, by simp⟩ (by kernel_rfl) (fun w v h => .inl h) (fun w => rfl)
          case o19 =>
            exact GdOp.left rfl ⟨_, _, rfl, rfl, by simp⟩ (by kernel_rfl) (fun w v h => .inl h) (fun w => rfl)
          case o20 =>
            exact GdOp.left rfl ⟨_, _, rfl, rfl, by simp⟩ (by kernel_rfl) (fun w v h => .inl h) (fun w => rfl)
          case o21 =>
            exact GdOp.left rfl ⟨_, _, rfl, rfl, by simp⟩ (by kernel_rfl) (fun w v h => .inl h) (fun w => rfl)
          case o22 =>
            exact GdOp.left rfl ⟨_, _, rfl, rfl, by simp⟩ (by kernel_rfl) (fun w v h => .inl h) (fun w => rfl)
          case o23 =>
            refine GdOp.plain rfl (fun A vs w' hF hT hb hd => ?_)
            have e1 : A.eval (.tmp 28) = .bool true := (hT 28 11 (by simp) rfl).trans (hd ⟨11, .data⟩ (by simp) rfl)
            have e3 : A.eval (.tmp 39) = undef := (hT 39 22 (by simp) rfl).trans (hd ⟨22, .data⟩ (by simp) rfl)
            exact wp_pk rfl e1 (fun _ => rfl) (by simp) ⟨_, rfl, rfl, Below.refl _ _⟩
          case o24 =>
            refine GdOp.plain rfl (fun A vs w' hF hT hb hd => ?_)
            have e1 : A.eval (.tmp 40) = .bool true := (hT 40 23 (by simp) rfl).trans (hd ⟨23, .data⟩ (by simp) rfl)
            exact BigFrame.wp_move _ rfl ⟨_, rfl, e1, Below.refl _ _⟩
          case o25 =>
            exact GdOp.left rfl ⟨_, _, rfl, rfl, by simp⟩ (by kernel_rfl) (fun w v h => .inl h) (fun w => rfl)
          case o26 =>
            exact GdOp.left rfl ⟨_, _, rfl, rfl, by simp⟩ (by kernel_rfl) (fun w v h => .inl h) (fun w => rfl)
          case o27 =>
            exact GdOp.left rfl ⟨_, _, rfl, rfl, by simp⟩ (by kernel_rfl) (fun w v h => .inl h) (fun w => rfl)
          case o28 =>
            exact GdOp.left rfl ⟨_, _, rfl, rfl, by simp⟩ (by kernel_rfl) (fun w v h => .inl h) (fun w => rfl)
          case o29 =>
            exact GdOp.left rfl ⟨_, _, rfl, rfl, by simp⟩ (by kernel_rfl) (fun w v h => .inl h) (fun w => rfl)
          case o30 =>
            exact GdOp.left rfl ⟨_, _, rfl, rfl, by simp⟩ (by kernel_rfl) (fun w v h => .inl h) (fun w => rfl)
          case o31 =>
            exact GdOp.left rfl ⟨_, _, rfl, rfl, by simp⟩ (by kernel_rfl) (fun w v h => .inl h) (fun w => rfl)
          case o32 =>
            exact GdOp.left rfl ⟨_, _, rfl, rfl, by simp⟩ (by kernel_rfl) (fun w v h => .inl h) (fun w => rfl)
          case o33 =>
            exact GdOp.left rfl ⟨_, _, rfl, rfl, by simp⟩ (by kernel_rfl) (fun w v h => .inl h) (fun w => rfl)
          case o34 =>
            exact GdOp.left rfl ⟨_, _, rfl, rfl, by simp⟩ (by kernel_rfl) (fun w v h => .inl h) (fun w => rfl)
          case o35 =>
            exact GdOp.left rfl ⟨_, _, rfl, rfl, by simp⟩ (by kernel_rfl) (fun w v h => .inl h) (fun w => rfl)
          case o36 =>
            exact GdOp.left rfl ⟨_, _, rfl, rfl, by simp⟩ (by kernel_rfl) (fun w v h => .inl h) (fun w => rfl)
          case o37 =>
            exact GdOp.left rfl ⟨_, _, rfl, rfl, by simp⟩ (by kernel_rfl) (fun w v h => .inl h) (fun w => rfl)
          case o38 =>
            refine GdOp.plain rfl (fun A vs w' hF hT hb hd => ?_)
            have e1 : A.eval (.tmp 41) = .bool true := (hT 41 24 (by simp) rfl).trans (hd ⟨24, .data⟩ (by simp) rfl)
            have e3 : A.eval (.tmp 54) = undef := (hT 54 37 (by simp) rfl).trans (hd ⟨37, .data⟩ (by simp) rfl)
            exact wp_pk rfl e1 (fun _ => rfl) (by simp) ⟨_, rfl, rfl, Below.refl _ _⟩
          case fin =>
            intro vs w' hb hG
            have e38 : vs 38 = .bool true := hG 38 (by decide)
            simp only [putAll, e38]
            clear hG e38
            have q2 := q.trans (hb.mono q.size)
            clear hb q
            go_simp
            go_wp2_with fail
            go_ret
            exact ⟨by rw [H.out]; rfl, q2⟩
      · obtain rfl : k = l.length := by omega
        have H := Lib.hid (show decide (l = m) = true from decide_eq_true (List.ext_getElem HLN.out (fun r h1 h2 => by have := hsm r h1 h1; rw [List.getElem?_eq_getElem h2] at this; injection this with this; exact this.symm)))
        clear hsm
        go_wp2_with fail
        go_ret
        exact ⟨by rw [H.out]; rfl, q⟩
  · have d : ((l.length : Int) != (m.length : Int)) = true := by rw [bne_iff_ne]; omega
    have H := Lib.hid (show decide (l = m) = false from decide_eq_false (fun e => hln (by rw [e])))
    clear hln
    go_enter Try.func21, Try.ntmps21
    go_wp2_with fail
    go_ret
    exact ⟨by rw [H.out]; rfl, q⟩
end Go.Proofs.Ytdegjkfjaklkjaa
namespace Go.Proofs.Ytdegjkfjaklkjaa
open Go.RowKit
theorem PairsEnd.read {S : Nat → Prop} {w w' : World} {l : List Pr} {a : Option Addr} {k c : Nat} (h : OwnL (Elt.pin Elt.pair S) 41 w.heap.size 0 w' (.slice a k c) l) : RdL Elt.pair (fun _ => True) w' (.slice a k c) l := (h.rdL.unpin).weak fun _ _ => trivial
theorem okP_no {l : List Pr} {i : Nat} (h : i < l.length) (hn : ¬ (okV l[i].chain ∧ l[i].chain ≠ [] ∧ l[i].key.length ≤ 16 ∧ (0 < i → ltB l[i - 1].key l[i].key = true))) : decide (okP l) = false := decide_eq_false fun h2 => hn (h2 i h)
set_option maxRecDepth 100000 in
set_option maxHeartbeats 2000000 in
theorem refCheckN_any (w : World) {S : Nat → Prop} {v : Value} {n : Nd} (hr : RdN S w v n) (hw : wN n ≤ 1000000) :
    Calls Try.prog 23 #[v] w fun e w' => e = .returned (.bool (decide (okN n))) ∧ Below w.heap.size w w' := by
  replace hr := hr.fit.weak (S' := fun k => k < w.heap.size) fun _ h => h.2
  have hr0 := hr
  obtain ⟨a1, c1, a2, c2, a3, c3, rfl, r1, r2, r3⟩ := hr
  have hT := TriV.new w 26 (.slice a1 n.keys.length c1) (.slice a2 n.chains.length c2) (.slice a3 n.kids.length c3)
  have q : Below w.heap.size w (w.alloc (.cells #[.slice a1 n.keys.length c1, .slice a2 n.chains.length c2, .slice a3 n.kids.length c3] 26)) := (Below.refl _ _).alloc (Nat.le_refl _) _
  go_enter Try.func23, Try.ntmps23
  go_upto_region 1 with (fail)
  generalize w.alloc (.cells #[.slice a1 n.keys.length c1, .slice a2 n.chains.length c2, .slice a3 n.kids.length c3] 26) = W at *
  have t0 := hT.cell0
  have t1 := hT.cell1
  have t2 := hT.cell2
  go_wp2_with fail
  refine (refForm_any 1000000 n true _ _ _ hw (by omega) (hr0.below q)).mono ?_
  rintro e w1 ⟨rfl, hb⟩
  replace q := q.trans (hb.mono q.size)
  replace hT := hT.below hb hT.lt
  clear hb t0 t1 t2
  by_cases hf : formI n true < 0
  · have H := Lib.hid (show decide (okN n) = false from decide_eq_false fun h => by have := h.1; omega)
    have d : decide (formI n true < 0) = true := decide_eq_true hf
    clear hf
    go_wp2_with fail
    go_ret
    exact ⟨by rw [H.out]; rfl, q⟩
  · have d : decide (formI n true < 0) = false := decide_eq_false hf
    have hf0 : 0 ≤ formI n true := by omega
    have t0 := hT.cell0
    have t1 := hT.cell1
    have t2 := hT.cell2
    have HF := Lib.hid hf0
    clear hf hf0
    go_wp2_with fail
    refine (refPairs_any 1000000 n true _ _ _ hw (Nat.le_refl _) (hr0.below q) (fun k hk => Nat.lt_of_lt_of_le hk q.size) HF.out).mono ?_
    rintro e w2 ⟨a, k, c, rfl, hO, hb⟩
    replace q := q.trans (hb.mono q.size)
    have hl := PairsEnd.read hO
    have hiff := Lib.hid (show decide (okN n) = decide (okP (pairsN n)) from by
      rw [decide_eq_decide]
      exact ⟨fun h => h.2, fun h => ⟨HF.out, h⟩⟩)
    clear hb hO hT t0 t1 t2 d
    generalize pairsN n = l at *
    obtain ⟨rfl, hnc, hcm⟩ := hl.len
    have hlm : l.length ≤ 9223372036854775807 := by unfold maxLen at hcm; omega
    go_upto_region 5 with (fail)
    go_loopw [4] (fun iv wr => ∃ i : Nat, iv = .int .i64 i ∧ i ≤ l.length ∧ (∀ j (h : j < l.length), j < i → okV l[j].chain ∧ l[j].chain ≠ [] ∧ l[j].key.length ≤ 16 ∧ (0 < j → ltB l[j - 1].key l[j].key = true)) ∧ Below w2.heap.size w2 wr) (fun i _ => l.length - (intOf i).toNat)
    case atStart => exact ⟨0, rfl, Nat.zero_le _, fun j _ h => absurd h (Nat.not_lt_zero _), Below.refl _ _⟩
    case round =>
      obtain ⟨i, rfl, hil, hok, q2⟩ := hrel
      rcases Nat.lt_or_ge i l.length with hlt | hge
      · obtain ⟨b, off, A, C, B, D, rfl, c0, c1, hky, hcc⟩ := (hl.below q2).pr i hlt
        go_wp2_with fail
        refine (refCheckV_any _ hcc).mono ?_
        rintro e w3 ⟨rfl, hb⟩
        replace q2 := q2.trans (hb.mono q2.size)
        clear hb c0 c1 hky hcc
        obtain ⟨b', off', A, C, B, D, e', c0, c1, hky, hcc⟩ := (hl.below q2).pr i hlt
        injection e' with e'; injection e' with e1 e2; subst e1; subst e2
        have hkl := hky.len
        have hcl := hcc.len
        unfold maxLen at hkl hcl
        have hk2 := hky.rd
        have hno := Lib.hid (okP_no hlt)
        by_cases h1 : okV l[i].chain
        · rw [decide_eq_true h1]
          by_cases h2 : l[i].chain.length = 0
          · have H := Lib.hid (hno.out fun h => h.2.1 (List.eq_nil_of_length_eq_zero h2))
            have d2 : ((l[i].chain.length : Int) == 0) = true := by rw [beq_iff_eq]; omega
            clear h1 h2 hok
            go_upto_region 8 with (fail)
            refine wp_region_quiet_lit (by kernel_rfl) (by kernel_rfl) ?_
            repeat (first | go_big_quiet_step (fail))
            first | (refine wpQuiet_nil ?_; intro _ hw'; obtain ⟨nq, hw''⟩ := hw'; subst hw'') | intro nq
            go_wp2_with fail
            go_ret
            exact ⟨by rw [hiff.out, H.out]; rfl, q.trans ((Below.drewN q2 _).mono q.size)⟩
          · have d2 : ((l[i].chain.length : Int) == 0) = false := by rw [beq_eq_false_iff_ne]; omega
            have h2' : l[i].chain ≠ [] := fun e => h2 (by rw [e]; rfl)
            by_cases h3 : 16 < l[i].key.length
            · have H := Lib.hid (hno.out fun h => by have := h.2.2.1; omega)
              have d3 : decide ((16 : Int) < l[i].key.length) = true := decide_eq_true (by omega)
              clear h1 h2 h2' hok
              go_upto_region 8 with (fail)
              refine wp_region_quiet_lit (by kernel_rfl) (by kernel_rfl) ?_
              repeat (first | go_big_quiet_step (fail))
              first | (refine wpQuiet_nil ?_; intro _ hw'; obtain ⟨nq, hw''⟩ := hw'; subst hw'') | intro nq
              go_wp2_with fail
              go_ret
              exact ⟨by rw [hiff.out, H.out]; rfl, q.trans ((Below.drewN q2 _).mono q.size)⟩
            · have d3 : decide ((16 : Int) < l[i].key.length) = false := decide_eq_false (by omega)
              have h3' : l[i].key.length ≤ 16 := by omega
              cases i with
              | zero =>
                have H := Lib.hid (show ∀ j (h : j < l.length), j < 1 → okV l[j].chain ∧ l[j].chain ≠ [] ∧ l[j].key.length ≤ 16 ∧ (0 < j → ltB l[j - 1].key l[j].key = true) from fun j hj h => by
                  obtain rfl : j = 0 := by omega
                  exact ⟨h1, h2', h3', fun h => absurd h (Nat.lt_irrefl _)⟩)
                clear h1 h2 h2' h3 h3' hok
                simp only [Nat.zero_mul, Nat.add_zero] at c0 c1
                go_upto_region 8 with (fail)
                refine wp_region_quiet_lit (by kernel_rfl) (by kernel_rfl) ?_
                repeat (first | go_big_quiet_step (fail))
                first | (refine wpQuiet_nil ?_; intro _ hw'; obtain ⟨nq, hw''⟩ := hw'; subst hw'') | intro nq
                go_wp2_with fail
                go_roundw
                case rel => exact ⟨1, by go_num, by omega, H.out, Below.drewN q2 _⟩
                case measure => simp [intOf]; omega
              | succ i =>
                have hlt' : i < l.length := by omega
                obtain ⟨b', off', A', C', B', D', e', c0', c1', hky', hcc'⟩ := (hl.below q2).pr i hlt'
                injection e' with e'; injection e' with e1 e2; subst e1; subst e2
                have hk2' := hky'.rd
                have e1 : ((i + 1 : Nat) : Int) - 1 = (i : Int) := by omega
                cases h4 : ltB l[i].key l[i + 1].key with
                | true =>
                  have H := Lib.hid (show ∀ j (h : j < l.length), j < i + 2 → okV l[j].chain ∧ l[j].chain ≠ [] ∧ l[j].key.length ≤ 16 ∧ (0 < j → ltB l[j - 1].key l[j].key = true) from fun j hj h => by
                    rcases Nat.lt_or_ge j (i + 1) with h5 | h5
                    · exact hok j hj h5
                    · obtain rfl : j = i + 1 := by omega
                      exact ⟨h1, h2', h3', fun _ => h4⟩)
                  have d4 : Op.bytesLess (strOf l[i].key).toList (strOf l[i + 1].key).toList = true := str_lt.trans h4
                  clear h1 h2 h2' h3 h3' h4 hok
                  go_upto_region 8 with (fail)
                  refine wp_region_quiet_lit (by kernel_rfl) (by kernel_rfl) ?_
                  repeat (first | go_big_quiet_step (fail) | (go_big_quiet_want; refine quiet_conv byP rfl rfl hk2' ?_; go_big_quiet_on; go_simp) | (go_big_quiet_want; refine quiet_conv byP rfl rfl hk2 ?_; go_big_quiet_on; go_simp))
                  first | (refine wpQuiet_nil ?_; intro _ hw'; obtain ⟨nq, hw''⟩ := hw'; subst hw'') | intro nq
                  go_wp2_with fail
                  go_roundw
                  case rel => exact ⟨i + 2, by go_num, by omega, H.out, Below.drewN q2 _⟩
                  case measure => simp [intOf]; omega
                | false =>
                  have H := Lib.hid (hno.out fun h => by have := h.2.2.2 (Nat.succ_pos _); simp only [Nat.add_sub_cancel] at this; rw [h4] at this; cases this)
                  have d4 : Op.bytesLess (strOf l[i].key).toList (strOf l[i + 1].key).toList = false := str_lt.trans h4
                  clear h1 h2 h2' h3 h3' h4 hok
                  go_upto_region 8 with (fail)
                  refine wp_region_quiet_lit (by kernel_rfl) (by kernel_rfl) ?_
                  repeat (first | go_big_quiet_step (fail) | (go_big_quiet_want; refine quiet_conv byP rfl rfl hk2' ?_; go_big_quiet_on; go_simp) | (go_big_quiet_want; refine quiet_conv byP rfl rfl hk2 ?_; go_big_quiet_on; go_simp))
                  first | (refine wpQuiet_nil ?_; intro _ hw'; obtain ⟨nq, hw''⟩ := hw'; subst hw'') | intro nq
                  go_wp2_with fail
                  go_ret
                  exact ⟨by rw [hiff.out, H.out]; rfl, q.trans ((Below.drewN q2 _).mono q.size)⟩
        · rw [decide_eq_false h1]
          have H := Lib.hid (hno.out fun h => h1 h.1)
          clear h1 hok
          go_upto_region 8 with (fail)
          refine wp_region_quiet_lit (by kernel_rfl) (by kernel_rfl) ?_
          repeat (first | go_big_quiet_step (fail))
          first | (refine wpQuiet_nil ?_; intro _ hw'; obtain ⟨nq, hw''⟩ := hw'; subst hw'') | intro nq
          go_wp2_with fail
          go_ret
          exact ⟨by rw [hiff.out, H.out]; rfl, q.trans ((Below.drewN q2 _).mono q.size)⟩
      · obtain rfl : i = l.length := by omega
        have H := Lib.hid (show decide (okP l) = true from decide_eq_true fun j hj => hok j hj hj)
        clear hok
        go_wp2_with fail
        go_ret
        exact ⟨by rw [hiff.out, H.out]; rfl, q.trans (q2.mono q.size)⟩
theorem refPairsN_any (w : World) {S : Nat → Prop} {v : Value} {n : Nd} (hr : RdN S w v n) (hw : wN n ≤ 1000000) :
    Calls Try.prog 14 #[v] w (PairsEnd (fun k => k < w.heap.size) w (prN n)) := by
  replace hr := hr.fit.weak (S' := fun k => k < w.heap.size) fun _ h => h.2
  have hr0 := hr
  obtain ⟨a1, c1, a2, c2, a3, c3, rfl, r1, r2, r3⟩ := hr
  have hT := TriV.new w 26 (.slice a1 n.keys.length c1) (.slice a2 n.chains.length c2) (.slice a3 n.kids.length c3)
  have q : Below w.heap.size w (w.alloc (.cells #[.slice a1 n.keys.length c1, .slice a2 n.chains.length c2, .slice a3 n.kids.length c3] 26)) := (Below.refl _ _).alloc (Nat.le_refl _) _
  go_enter Try.func14, Try.ntmps14
  go_upto_region 1 with (fail)
  generalize w.alloc (.cells #[.slice a1 n.keys.length c1, .slice a2 n.chains.length c2, .slice a3 n.kids.length c3] 26) = W at *
  have t0 := hT.cell0
  have t1 := hT.cell1
  have t2 := hT.cell2
  go_wp2_with fail
  refine (refCheckN_any _ (hr0.below q) hw).mono ?_
  rintro e w1 ⟨rfl, hb⟩
  replace q := q.trans (hb.mono q.size)
  replace hT := hT.below hb hT.lt
  clear hb t0 t1 t2
  by_cases hk : okN n
  · rw [decide_eq_true hk]
    have H := Lib.hid (show prN n = pairsN n from if_pos hk)
    have HF := Lib.hid hk.1
    have t0 := hT.cell0
    have t1 := hT.cell1
    have t2 := hT.cell2
    clear hk
    go_wp2_with fail
    refine (refPairs_any 1000000 n true _ _ _ hw (Nat.le_refl _) (hr0.below q) (fun k hk => Nat.lt_of_lt_of_le hk q.size) HF.out).mono ?_
    rintro e w2 ⟨a, k, c, rfl, hO, hb⟩
    go_wp2_with fail
    go_ret
    rw [H.out]
    exact ⟨_, _, _, rfl, hO.to q.size (Nat.le_refl _), q.trans (hb.mono q.size)⟩
  · rw [decide_eq_false hk]
    have H := Lib.hid (show prN n = [] from if_neg hk)
    clear hk
    go_wp2_with fail
    go_ret
    rw [H.out]
    exact ⟨_, _, _, rfl, OwnL.nil _ _ _ _ _, q⟩
end Go.Proofs.Ytdegjkfjaklkjaa
namespace Go.Proofs.Ytdegjkfjaklkjaa
open Go.RowKit
theorem filter_snoc {l : List Pr} {k : List UInt8} {i : Nat} (h : i < l.length) : (l.take (i + 1)).filter (fun p => !decide (p.key = k)) = (l.take i).filter (fun p => !decide (p.key = k)) ++ (if l[i].key = k then [] else [l[i]]) := by
  rw [List.take_succ_eq_append_getElem h, List.filter_append]
  by_cases e : l[i].key = k <;> simp [e]
theorem filter_len {l : List Pr} {k : List UInt8} (i : Nat) : ((l.take i).filter (fun p => !decide (p.key = k))).length ≤ l.length :=
  Nat.le_trans (List.length_filter_le _ _) (by rw [List.length_take]; omega)
set_option maxRecDepth 100000 in
set_option maxHeartbeats 1000000 in
theorem refDelP_any (w : World) {S S2 : Nat → Prop} {a : Option Addr} {n c : Nat} {l : List Pr} {A : Option Addr} {nk ck : Nat} {k : List UInt8} (hl : RdL Elt.pair S w (.slice a n c) l) (hk : RdS S2 w (.slice A nk ck) k) (hn : l.length ≤ 1000000) :
    Calls Try.prog 33 #[.slice a n c, .slice A nk ck] w (PairsEnd (fun j => j < w.heap.size) w (delP l k)) := by
  obtain ⟨rfl, hnc, hcm⟩ := hl.len
  obtain ⟨rfl, hnc2, hcm2⟩ := hk.len
  replace hl := hl.fit.weak (S' := fun j => j < w.heap.size) fun _ h => h.2
  have q := Below.refl w.heap.size w
  go_enter Try.func33, Try.ntmps33
  go_upto_region 3 with (fail)
  go_loopw [5, 6] (fun ov iv wr => ∃ (i : Nat) (ad : Option Addr) (ko co : Nat), iv = .int .i64 i ∧ i ≤ l.length ∧ ov = .slice ad ko co ∧ OwnL (Elt.pin Elt.pair (fun j => j < w.heap.size)) 41 w.heap.size 0 wr (.slice ad ko co) ((l.take i).filter (fun p => !decide (p.key = k))) ∧ Below w.heap.size w wr) (fun _ i _ => l.length - (intOf i).toNat)
  case atStart => exact ⟨0, none, 0, 0, rfl, Nat.zero_le _, rfl, OwnL.nil _ _ _ _ _, q⟩
  case round =>
    clear q
    obtain ⟨i, ad, ko, co, rfl, hil, rfl, hO, q⟩ := hrel
    rcases Nat.lt_or_ge i l.length with hlt | hge
    · obtain ⟨b, off, Ak, C, B, D, rfl, c0, c1, hky, hcc⟩ := (hl.below q).pr i hlt
      have hk2 := (hk.below q).rd
      have hky2 := hky.rd
      have hkl := hky.len
      have hcl := hcc.len
      unfold maxLen at hkl hcl
      have HO := Lib.hid (filter_snoc (k := k) hlt)
      have hfl := filter_len (l := l) (k := k) i
      by_cases e : l[i].key = k
      · have d : ((strOf l[i].key).toList == (strOf k).toList) = true := str_eq.trans (decide_eq_true e)
        have HO2 := Lib.hid (HO.out.trans (by rw [if_pos e, List.append_nil]))
        clear e
        go_upto_region 5 with (fail)
        refine wp_region_quiet_lit (by kernel_rfl) (by kernel_rfl) ?_
        repeat (first | go_big_quiet_step (fail) | (go_big_quiet_want; refine quiet_conv byP rfl rfl hky2 ?_; go_big_quiet_on; go_simp) | (go_big_quiet_want; refine quiet_conv byP rfl rfl hk2 ?_; go_big_quiet_on; go_simp))
        first | (refine wpQuiet_nil ?_; intro _ hw'; obtain ⟨nq, hw''⟩ := hw'; subst hw'') | intro nq
        have qd := Below.drewN (Below.refl wr.heap.size wr) nq
        generalize wr.drewN nq = wa at *
        replace q := q.trans (qd.mono q.size)
        replace hO := hO.below qd
        clear qd
        clear c0 c1 hky hcc hk2 hky2 hkl hcl
        rw [← HO2.out] at hO
        go_wp2_with fail
        go_roundw
        case rel => exact ⟨i + 1, _, _, _, by go_num, by omega, rfl, hO, q⟩
        case measure => simp [intOf]; omega
      · have d : ((strOf l[i].key).toList == (strOf k).toList) = false := str_eq.trans (decide_eq_false e)
        have HO2 := Lib.hid (HO.out.trans (by rw [if_neg e]))
        clear e HO
        go_upto_region 5 with (fail)
        refine wp_region_quiet_lit (by kernel_rfl) (by kernel_rfl) ?_
        repeat (first | go_big_quiet_step (fail) | (go_big_quiet_want; refine quiet_conv byP rfl rfl hky2 ?_; go_big_quiet_on; go_simp) | (go_big_quiet_want; refine quiet_conv byP rfl rfl hk2 ?_; go_big_quiet_on; go_simp))
        first | (refine wpQuiet_nil ?_; intro _ hw'; obtain ⟨nq, hw''⟩ := hw'; subst hw'') | intro nq
        have qd := Below.drewN (Below.refl wr.heap.size wr) nq
        generalize wr.drewN nq = wa at *
        replace q := q.trans (qd.mono q.size)
        replace hO := hO.below qd
        clear qd
        clear c0 c1 hky hcc hk2 hky2 hkl hcl
        obtain ⟨b', off', Ak, C, B, D, e', c0, c1, hky, hcc⟩ := (hl.below q).pr i hlt
        injection e' with e'; injection e' with e1 e2; subst e1; subst e2
        have hkl := hky.len
        have hcl := hcc.len
        unfold maxLen at hkl hcl
        have hbA := (Below.refl wa.heap.size wa).alloc (Nat.le_refl _) (.cells #[.slice Ak l[i].key.length C, .slice B l[i].chain.length D] 41)
        go_wp2_with (first
          | (at_builtin; refine wpList_appendL (E := Elt.pin Elt.pair (fun j => j < w.heap.size)) (ys := [⟨l[i].key, l[i].chain⟩]) (ns := [.slice Ak l[i].key.length C, .slice B l[i].chain.length D]) prP rfl rfl rfl (hO.below hbA) rfl (cells_new _ [.slice Ak l[i].key.length C, .slice B l[i].chain.length D] _) (Flat.single (E := Elt.pin Elt.pair (fun j => j < w.heap.size)) (S := fun j => j < w.heap.size) (pin_in ⟨_, _, rfl, hky.below hbA, hcc.below hbA⟩)) (fun j hj => ⟨Nat.zero_le _, Nat.lt_of_lt_of_le hj (Nat.le_trans q.size hbA.size), fun e => by have h5 := (hO.block_lt j e.symm).1; exact absurd (show j < w.heap.size from hj) (by omega)⟩) (Nat.le_trans q.size hbA.size) ?_ (by first | omega | (simp; omega)); intro ad2 kad2 cad2 wb hO2 hg2 h32)
          | fail)
        replace q := (q.trans (hbA.mono q.size)).grown hg2 (Nat.le_trans q.size hbA.size) (fun j e => (hO.block_lt j e).1)
        clear hO hbA hg2 h32
        have hO := hO2
        clear hO2
        rw [← HO2.out] at hO
        go_roundw
        case rel => exact ⟨i + 1, _, _, _, by go_num, by omega, rfl, hO, q⟩
        case measure => simp [intOf]; omega
    · obtain rfl : i = l.length := by omega
      rw [List.take_length] at hO
      go_wp2_with fail
      go_ret
      exact ⟨_, _, _, rfl, hO, q⟩
theorem drop_cons {l : List Pr} {i : Nat} (h : i < l.length) : l.drop i = l[i] :: l.drop (i + 1) := List.drop_eq_getElem_cons h
set_option maxRecDepth 100000 in
set_option maxHeartbeats 2000000 in
theorem refPutP_any (w : World) {S S2 S3 : Nat → Prop} {a : Option Addr} {n c : Nat} {l : List Pr} {A : Option Addr} {nk ck : Nat} {k : List UInt8} {E : Option Addr} {ne ce : Nat} {x : List Ver} (hl : RdL Elt.pair S w (.slice a n c) l) (hk : RdS S2 w (.slice A nk ck) k) (hx : RdL Elt.ver S3 w (.slice E ne ce) x) (hn : l.length ≤ 1000000) :
    Calls Try.prog 32 #[.slice a n c, .slice A nk ck, .slice E ne ce] w (PairsEnd (fun j => j < w.heap.size) w (putP l k x)) := by
  obtain ⟨rfl, hnc, hcm⟩ := hl.len
  obtain ⟨rfl, hnc2, hcm2⟩ := hk.len
  obtain ⟨rfl, hnc3, hcm3⟩ := hx.len
  replace hl := hl.fit.weak (S' := fun j => j < w.heap.size) fun _ h => h.2
  replace hk := hk.fit.weak (S' := fun j => j < w.heap.size) fun _ h => h.2
  replace hx := hx.fit.weak (S' := fun j => j < w.heap.size) fun _ h => h.2
  have q := Below.refl w.heap.size w
  go_enter Try.func32, Try.ntmps32
  go_upto_region 4 with (fail)
  go_loopw [7, 8, 9] (fun ov dv iv wr => ∃ (i : Nat) (ad : Option Addr) (ko co : Nat) (dn : Bool) (X : List Pr), iv = .int .i64 i ∧ i ≤ l.length ∧ ov = .slice ad ko co ∧ dv = .bool dn ∧ X.length ≤ i + 1 ∧ X ++ putGo k x dn (l.drop i) = putP l k x ∧ OwnL (Elt.pin Elt.pair (fun j => j < w.heap.size)) 41 w.heap.size 0 wr (.slice ad ko co) X ∧ Below w.heap.size w wr ∧ (dn = false → X.length ≤ i)) (fun _ _ i _ => l.length - (intOf i).toNat)
  case atStart => exact ⟨0, none, 0, 0, false, [], rfl, Nat.zero_le _, rfl, rfl, Nat.zero_le _, rfl, OwnL.nil _ _ _ _ _, q, fun _ => Nat.le_refl _⟩
  case round =>
    clear q
    obtain ⟨i, ad, ko, co, dn, X, rfl, hil, rfl, rfl, hXl, hX, hO, q, hXf⟩ := hrel
    rcases Nat.lt_or_ge i l.length with hlt | hge
    · have hdc := drop_cons hlt
      obtain ⟨b, off, Ak, C, B, D, rfl, c0, c1, hky, hcc⟩ := (hl.below q).pr i hlt
      have hk2 := (hk.below q).rd
      have hky2 := hky.rd
      rw [hdc] at hX
      generalize hpp : l[i] = p at *
      have HPP := Lib.hid hpp
      have HL := Lib.hid hXf
      clear hdc hpp hXf
      cases dn with
      | true =>
        clear hk2 hky2
        by_cases e : k = p.key
        · have de : ((strOf k).toList == (strOf p.key).toList) = true := str_eq.trans (decide_eq_true e)
          have HX := Lib.hid (show X ++ putGo k x true (l.drop (i + 1)) = putP l k x by rw [← hX, putGo, if_pos e, List.nil_append])
          clear e hX
          go_upto_region 6 with (fail)
          refine wp_region_quiet_lit (by kernel_rfl) (by kernel_rfl) ?_
          repeat (first | go_big_quiet_step (fail))
          first | (refine wpQuiet_nil ?_; intro _ hw'; obtain ⟨nq, hw''⟩ := hw'; subst hw'') | intro nq
          have qd := Below.drewN (Below.refl wr.heap.size wr) nq
          generalize wr.drewN nq = wa at *
          replace q := q.trans (qd.mono q.size)
          replace hO := hO.below qd
          clear qd
          have hopn := (hl.below q).pr i hlt
          rw [HPP.out] at hopn
          obtain ⟨bx, offx, Ak, C, B, D, e', c0, c1, hky, hcc⟩ := hopn
          injection e' with e'; injection e' with e1 e2; subst e1; subst e2
          have hk2 := (hk.below q).rd
          have hky2 := hky.rd
          have hkl := hky.len
          have hcl := hcc.len
          unfold maxLen at hkl hcl
          go_upto_region 9 with (fail)
          refine wp_region_quiet_lit (by kernel_rfl) (by kernel_rfl) ?_
          repeat (first | go_big_quiet_step (fail) | (go_big_quiet_want; refine quiet_conv byP rfl rfl hk2 ?_; go_big_quiet_on; go_simp) | (go_big_quiet_want; refine quiet_conv byP rfl rfl hky2 ?_; go_big_quiet_on; go_simp))
          first | (refine wpQuiet_nil ?_; intro _ hw'; obtain ⟨nq, hw''⟩ := hw'; subst hw'') | intro nq
          have qd := Below.drewN (Below.refl wa.heap.size wa) nq
          generalize wa.drewN nq = wb at *
          replace q := q.trans (qd.mono q.size)
          replace hO := hO.below qd
          clear qd
          clear c0 c1 hky hcc hk2 hky2
          go_wp2_with fail
          go_roundw
          case rel => exact ⟨i + 1, _, _, _, true, X, by go_num, by omega, rfl, rfl, by omega, HX.out, hO, q, fun h => by cases h⟩
          case measure => simp [intOf]; omega
        · have de : ((strOf k).toList == (strOf p.key).toList) = false := str_eq.trans (decide_eq_false e)
          have HX := Lib.hid (show (X ++ [⟨p.key, p.chain⟩]) ++ putGo k x true (l.drop (i + 1)) = putP l k x by rw [← hX, putGo, if_neg e, List.append_assoc])
          clear e hX
          go_upto_region 6 with (fail)
          refine wp_region_quiet_lit (by kernel_rfl) (by kernel_rfl) ?_
          repeat (first | go_big_quiet_step (fail))
          first | (refine wpQuiet_nil ?_; intro _ hw'; obtain ⟨nq, hw''⟩ := hw'; subst hw'') | intro nq
          have qd := Below.drewN (Below.refl wr.heap.size wr) nq
          generalize wr.drewN nq = wa at *
          replace q := q.trans (qd.mono q.size)
          replace hO := hO.below qd
          clear qd
          have hopn := (hl.below q).pr i hlt
          rw [HPP.out] at hopn
          obtain ⟨bx, offx, Ak, C, B, D, e', c0, c1, hky, hcc⟩ := hopn
          injection e' with e'; injection e' with e1 e2; subst e1; subst e2
          have hk2 := (hk.below q).rd
          have hky2 := hky.rd
          have hkl := hky.len
          have hcl := hcc.len
          unfold maxLen at hkl hcl
          go_upto_region 9 with (fail)
          refine wp_region_quiet_lit (by kernel_rfl) (by kernel_rfl) ?_
          repeat (first | go_big_quiet_step (fail) | (go_big_quiet_want; refine quiet_conv byP rfl rfl hk2 ?_; go_big_quiet_on; go_simp) | (go_big_quiet_want; refine quiet_conv byP rfl rfl hky2 ?_; go_big_quiet_on; go_simp))
          first | (refine wpQuiet_nil ?_; intro _ hw'; obtain ⟨nq, hw''⟩ := hw'; subst hw'') | intro nq
          have qd := Below.drewN (Below.refl wa.heap.size wa) nq
          generalize wa.drewN nq = wb at *
          replace q := q.trans (qd.mono q.size)
          replace hO := hO.below qd
          clear qd
          have hopn := (hl.below q).pr i hlt
          rw [HPP.out] at hopn
          obtain ⟨bx, offx, Ak, C, B, D, e', c0, c1, hky, hcc⟩ := hopn
          injection e' with e'; injection e' with e1 e2; subst e1; subst e2
          have hk2 := (hk.below q).rd
          have hky2 := hky.rd
          have hkl := hky.len
          have hcl := hcc.len
          unfold maxLen at hkl hcl
          clear hk2 hky2
          have hbA := (Below.refl wb.heap.size wb).alloc (Nat.le_refl _) (.cells #[.slice Ak p.key.length C, .slice B p.chain.length D] 41)
          go_wp2_with (first
            | (at_builtin; refine wpList_appendL (E := Elt.pin Elt.pair (fun j => j < w.heap.size)) (ys := [⟨p.key, p.chain⟩]) (ns := [.slice Ak p.key.length C, .slice B p.chain.length D]) prP rfl rfl rfl (hO.below hbA) rfl (cells_new _ [.slice Ak p.key.length C, .slice B p.chain.length D] _) (Flat.single (E := Elt.pin Elt.pair (fun j => j < w.heap.size)) (S := fun j => j < w.heap.size) (pin_in ⟨_, _, rfl, hky.below hbA, hcc.below hbA⟩)) (fun j hj => ⟨Nat.zero_le _, Nat.lt_of_lt_of_le hj (Nat.le_trans q.size hbA.size), fun e => by have h5 := (hO.block_lt j e.symm).1; exact absurd (show j < w.heap.size from hj) (by omega)⟩) (Nat.le_trans q.size hbA.size) ?_ (by first | omega | (simp; omega)); intro ad2 kad2 cad2 wc hO2 hg2 h32)
            | fail)
          replace q := (q.trans (hbA.mono q.size)).grown hg2 (Nat.le_trans q.size hbA.size) (fun j e => (hO.block_lt j e).1)
          clear hO hbA hg2 h32
          have hO := hO2
          clear hO2
          go_roundw
          case rel => exact ⟨i + 1, _, _, _, true, _, by go_num, by omega, rfl, rfl, by simp; omega, HX.out, hO, q, fun h => by cases h⟩
          case measure => simp [intOf]; omega
      | false =>
        have hXi := HL.out rfl
        by_cases e : k = p.key
        · have de : ((strOf k).toList == (strOf p.key).toList) = true := str_eq.trans (decide_eq_true e)
          have HX := Lib.hid (show (X ++ [⟨k, x⟩]) ++ putGo k x true (l.drop (i + 1)) = putP l k x by rw [← hX, putGo, if_pos (by simp [e]), if_pos e, List.append_assoc]; rfl)
          clear e hX
          go_upto_region 6 with (fail)
          refine wp_region_quiet_lit (by kernel_rfl) (by kernel_rfl) ?_
          repeat (first | go_big_quiet_step (fail) | (go_big_quiet_want; refine quiet_conv byP rfl rfl hk2 ?_; go_big_quiet_on; go_simp) | (go_big_quiet_want; refine quiet_conv byP rfl rfl hky2 ?_; go_big_quiet_on; go_simp))
          first | (refine wpQuiet_nil ?_; intro _ hw'; obtain ⟨nq, hw''⟩ := hw'; subst hw'') | intro nq
          have qd := Below.drewN (Below.refl wr.heap.size wr) nq
          generalize wr.drewN nq = wa at *
          replace q := q.trans (qd.mono q.size)
          replace hO := hO.below qd
          clear qd
          clear c0 c1 hky hcc hk2 hky2
          have hkw := hk.below q
          have hxw := hx.below q
          have hbA := (Below.refl wa.heap.size wa).alloc (Nat.le_refl _) (.cells #[.slice A k.length ck, .slice E x.length ce] 41)
          go_wp2_with (first
            | (at_builtin; refine wpList_appendL (E := Elt.pin Elt.pair (fun j => j < w.heap.size)) (ys := [⟨k, x⟩]) (ns := [.slice A k.length ck, .slice E x.length ce]) prP rfl rfl rfl (hO.below hbA) rfl (cells_new _ [.slice A k.length ck, .slice E x.length ce] _) (Flat.single (E := Elt.pin Elt.pair (fun j => j < w.heap.size)) (S := fun j => j < w.heap.size) (pin_in ⟨_, _, rfl, hkw.below hbA, hxw.below hbA⟩)) (fun j hj => ⟨Nat.zero_le _, Nat.lt_of_lt_of_le hj (Nat.le_trans q.size hbA.size), fun e => by have h5 := (hO.block_lt j e.symm).1; exact absurd (show j < w.heap.size from hj) (by omega)⟩) (Nat.le_trans q.size hbA.size) ?_ (by first | omega | (simp; omega)); intro ad2 kad2 cad2 wb hO2 hg2 h32)
            | fail)
          replace q := (q.trans (hbA.mono q.size)).grown hg2 (Nat.le_trans q.size hbA.size) (fun j e => (hO.block_lt j e).1)
          clear hO hbA hg2 h32
          have hO := hO2
          clear hO2
          have hopn := (hl.below q).pr i hlt
          rw [HPP.out] at hopn
          obtain ⟨bx, offx, Ak, C, B, D, e', c0, c1, hky, hcc⟩ := hopn
          injection e' with e'; injection e' with e1 e2; subst e1; subst e2
          have hk2 := (hk.below q).rd
          have hky2 := hky.rd
          have hkl := hky.len
          have hcl := hcc.len
          unfold maxLen at hkl hcl
          refine wp_region_quiet_lit (by kernel_rfl) (by kernel_rfl) ?_
          repeat (first | go_big_quiet_step (fail) | (go_big_quiet_want; refine quiet_conv byP rfl rfl hk2 ?_; go_big_quiet_on; go_simp) | (go_big_quiet_want; refine quiet_conv byP rfl rfl hky2 ?_; go_big_quiet_on; go_simp))
          first | (refine wpQuiet_nil ?_; intro _ hw'; obtain ⟨nq, hw''⟩ := hw'; subst hw'') | intro nq
          have qd := Below.drewN (Below.refl wb.heap.size wb) nq
          generalize wb.drewN nq = wc at *
          replace q := q.trans (qd.mono q.size)
          replace hO := hO.below qd
          clear qd
          clear c0 c1 hky hcc hk2 hky2
          go_wp2_with fail
          go_roundw
          case rel => exact ⟨i + 1, _, _, _, true, _, by go_num, by omega, rfl, rfl, by simp; omega, HX.out, hO, q, fun h => by cases h⟩
          case measure => simp [intOf]; omega
        · have de : ((strOf k).toList == (strOf p.key).toList) = false := str_eq.trans (decide_eq_false e)
          cases h2 : ltB k p.key with
          | true =>
            have dl : Op.bytesLess (strOf k).toList (strOf p.key).toList = true := str_lt.trans h2
            have HX := Lib.hid (show ((X ++ [⟨k, x⟩]) ++ [⟨p.key, p.chain⟩]) ++ putGo k x true (l.drop (i + 1)) = putP l k x by rw [← hX, putGo, if_pos (by simp [h2]), if_neg e, List.append_assoc, List.append_assoc]; rfl)
            clear e hX h2
            go_upto_region 6 with (fail)
            refine wp_region_quiet_lit (by kernel_rfl) (by kernel_rfl) ?_
            repeat (first | go_big_quiet_step (fail) | (go_big_quiet_want; refine quiet_conv byP rfl rfl hk2 ?_; go_big_quiet_on; go_simp) | (go_big_quiet_want; refine quiet_conv byP rfl rfl hky2 ?_; go_big_quiet_on; go_simp))
            first | (refine wpQuiet_nil ?_; intro _ hw'; obtain ⟨nq, hw''⟩ := hw'; subst hw'') | intro nq
            have qd := Below.drewN (Below.refl wr.heap.size wr) nq
            generalize wr.drewN nq = wa at *
            replace q := q.trans (qd.mono q.size)
            replace hO := hO.below qd
            clear qd
            clear c0 c1 hky hcc hk2 hky2
            have hkw := hk.below q
            have hxw := hx.below q
            have hbA := (Below.refl wa.heap.size wa).alloc (Nat.le_refl _) (.cells #[.slice A k.length ck, .slice E x.length ce] 41)
            go_wp2_with (first
              | (at_builtin; refine wpList_appendL (E := Elt.pin Elt.pair (fun j => j < w.heap.size)) (ys := [⟨k, x⟩]) (ns := [.slice A k.length ck, .slice E x.length ce]) prP rfl rfl rfl (hO.below hbA) rfl (cells_new _ [.slice A k.length ck, .slice E x.length ce] _) (Flat.single (E := Elt.pin Elt.pair (fun j => j < w.heap.size)) (S := fun j => j < w.heap.size) (pin_in ⟨_, _, rfl, hkw.below hbA, hxw.below hbA⟩)) (fun j hj => ⟨Nat.zero_le _, Nat.lt_of_lt_of_le hj (Nat.le_trans q.size hbA.size), fun e => by have h5 := (hO.block_lt j e.symm).1; exact absurd (show j < w.heap.size from hj) (by omega)⟩) (Nat.le_trans q.size hbA.size) ?_ (by first | omega | (simp; omega)); intro ad2 kad2 cad2 wb hO2 hg2 h32)
              | fail)
            replace q := (q.trans (hbA.mono q.size)).grown hg2 (Nat.le_trans q.size hbA.size) (fun j e => (hO.block_lt j e).1)
            clear hO hbA hg2 h32
            have hO := hO2
            clear hO2
            have hopn := (hl.below q).pr i hlt
            rw [HPP.out] at hopn
            obtain ⟨bx, offx, Ak, C, B, D, e', c0, c1, hky, hcc⟩ := hopn
            injection e' with e'; injection e' with e1 e2; subst e1; subst e2
            have hk2 := (hk.below q).rd
            have hky2 := hky.rd
            have hkl := hky.len
            have hcl := hcc.len
            unfold maxLen at hkl hcl
            refine wp_region_quiet_lit (by kernel_rfl) (by kernel_rfl) ?_
            repeat (first | go_big_quiet_step (fail) | (go_big_quiet_want; refine quiet_conv byP rfl rfl hk2 ?_; go_big_quiet_on; go_simp) | (go_big_quiet_want; refine quiet_conv byP rfl rfl hky2 ?_; go_big_quiet_on; go_simp))
            first | (refine wpQuiet_nil ?_; intro _ hw'; obtain ⟨nq, hw''⟩ := hw'; subst hw'') | intro nq
            have qd := Below.drewN (Below.refl wb.heap.size wb) nq
            generalize wb.drewN nq = wc at *
            replace q := q.trans (qd.mono q.size)
            replace hO := hO.below qd
            clear qd
            have hopn := (hl.below q).pr i hlt
            rw [HPP.out] at hopn
            obtain ⟨bx, offx, Ak, C, B, D, e', c0, c1, hky, hcc⟩ := hopn
            injection e' with e'; injection e' with e1 e2; subst e1; subst e2
            have hk2 := (hk.below q).rd
            have hky2 := hky.rd
            have hkl := hky.len
            have hcl := hcc.len
            unfold maxLen at hkl hcl
            clear hk2 hky2
            have hbA := (Below.refl wc.heap.size wc).alloc (Nat.le_refl _) (.cells #[.slice Ak p.key.length C, .slice B p.chain.length D] 41)
            go_wp2_with (first
              | (at_builtin; refine wpList_appendL (E := Elt.pin Elt.pair (fun j => j < w.heap.size)) (ys := [⟨p.key, p.chain⟩]) (ns := [.slice Ak p.key.length C, .slice B p.chain.length D]) prP rfl rfl rfl (hO.below hbA) rfl (cells_new _ [.slice Ak p.key.length C, .slice B p.chain.length D] _) (Flat.single (E := Elt.pin Elt.pair (fun j => j < w.heap.size)) (S := fun j => j < w.heap.size) (pin_in ⟨_, _, rfl, hky.below hbA, hcc.below hbA⟩)) (fun j hj => ⟨Nat.zero_le _, Nat.lt_of_lt_of_le hj (Nat.le_trans q.size hbA.size), fun e => by have h5 := (hO.block_lt j e.symm).1; exact absurd (show j < w.heap.size from hj) (by omega)⟩) (Nat.le_trans q.size hbA.size) ?_ (by first | omega | (simp; omega)); intro ad3 kad3 cad3 wd hO2 hg2 h32)
              | fail)
            replace q := (q.trans (hbA.mono q.size)).grown hg2 (Nat.le_trans q.size hbA.size) (fun j e => (hO.block_lt j e).1)
            clear hO hbA hg2 h32
            have hO := hO2
            clear hO2
            go_roundw
            case rel => exact ⟨i + 1, _, _, _, true, _, by go_num, by omega, rfl, rfl, by simp; omega, HX.out, hO, q, fun h => by cases h⟩
            case measure => simp [intOf]; omega
          | false =>
            have dl : Op.bytesLess (strOf k).toList (strOf p.key).toList = false := str_lt.trans h2
            have HX := Lib.hid (show (X ++ [⟨p.key, p.chain⟩]) ++ putGo k x false (l.drop (i + 1)) = putP l k x by rw [← hX, putGo, if_neg (by simp [h2, e]), List.append_assoc]; rfl)
            clear e hX h2
            go_upto_region 6 with (fail)
            refine wp_region_quiet_lit (by kernel_rfl) (by kernel_rfl) ?_
            repeat (first | go_big_quiet_step (fail) | (go_big_quiet_want; refine quiet_conv byP rfl rfl hk2 ?_; go_big_quiet_on; go_simp) | (go_big_quiet_want; refine quiet_conv byP rfl rfl hky2 ?_; go_big_quiet_on; go_simp))
            first | (refine wpQuiet_nil ?_; intro _ hw'; obtain ⟨nq, hw''⟩ := hw'; subst hw'') | intro nq
            have qd := Below.drewN (Below.refl wr.heap.size wr) nq
            generalize wr.drewN nq = wa at *
            replace q := q.trans (qd.mono q.size)
            replace hO := hO.below qd
            clear qd
            have hopn := (hl.below q).pr i hlt
            rw [HPP.out] at hopn
            obtain ⟨bx, offx, Ak, C, B, D, e', c0, c1, hky, hcc⟩ := hopn
            injection e' with e'; injection e' with e1 e2; subst e1; subst e2
            have hk2 := (hk.below q).rd
            have hky2 := hky.rd
            have hkl := hky.len
            have hcl := hcc.len
            unfold maxLen at hkl hcl
            go_upto_region 9 with (fail)
            refine wp_region_quiet_lit (by kernel_rfl) (by kernel_rfl) ?_
            repeat (first | go_big_quiet_step (fail) | (go_big_quiet_want; refine quiet_conv byP rfl rfl hk2 ?_; go_big_quiet_on; go_simp) | (go_big_quiet_want; refine quiet_conv byP rfl rfl hky2 ?_; go_big_quiet_on; go_simp))
            first | (refine wpQuiet_nil ?_; intro _ hw'; obtain ⟨nq, hw''⟩ := hw'; subst hw'') | intro nq
            have qd := Below.drewN (Below.refl wa.heap.size wa) nq
            generalize wa.drewN nq = wb at *
            replace q := q.trans (qd.mono q.size)
            replace hO := hO.below qd
            clear qd
            have hopn := (hl.below q).pr i hlt
            rw [HPP.out] at hopn
            obtain ⟨bx, offx, Ak, C, B, D, e', c0, c1, hky, hcc⟩ := hopn
            injection e' with e'; injection e' with e1 e2; subst e1; subst e2
            have hk2 := (hk.below q).rd
            have hky2 := hky.rd
            have hkl := hky.len
            have hcl := hcc.len
            unfold maxLen at hkl hcl
            clear hk2 hky2
            have hbA := (Below.refl wb.heap.size wb).alloc (Nat.le_refl _) (.cells #[.slice Ak p.key.length C, .slice B p.chain.length D] 41)
            go_wp2_with (first
              | (at_builtin; refine wpList_appendL (E := Elt.pin Elt.pair (fun j => j < w.heap.size)) (ys := [⟨p.key, p.chain⟩]) (ns := [.slice Ak p.key.length C, .slice B p.chain.length D]) prP rfl rfl rfl (hO.below hbA) rfl (cells_new _ [.slice Ak p.key.length C, .slice B p.chain.length D] _) (Flat.single (E := Elt.pin Elt.pair (fun j => j < w.heap.size)) (S := fun j => j < w.heap.size) (pin_in ⟨_, _, rfl, hky.below hbA, hcc.below hbA⟩)) (fun j hj => ⟨Nat.zero_le _, Nat.lt_of_lt_of_le hj (Nat.le_trans q.size hbA.size), fun e => by have h5 := (hO.block_lt j e.symm).1; exact absurd (show j < w.heap.size from hj) (by omega)⟩) (Nat.le_trans q.size hbA.size) ?_ (by first | omega | (simp; omega)); intro ad2 kad2 cad2 wc hO2 hg2 h32)
              | fail)
            replace q := (q.trans (hbA.mono q.size)).grown hg2 (Nat.le_trans q.size hbA.size) (fun j e => (hO.block_lt j e).1)
            clear hO hbA hg2 h32
            have hO := hO2
            clear hO2
            go_roundw
            case rel => exact ⟨i + 1, _, _, _, false, _, by go_num, by omega, rfl, rfl, by simp; omega, HX.out, hO, q, fun _ => by simp; omega⟩
            case measure => simp [intOf]; omega
    · obtain rfl : i = l.length := by omega
      rw [List.drop_length] at hX
      cases dn with
      | true =>
        have HX := Lib.hid (show X = putP l k x by rw [← hX, putGo, List.append_nil])
        clear hX
        go_wp2_with fail
        go_ret
        rw [← HX.out]
        exact ⟨_, _, _, rfl, hO, q⟩
      | false =>
        have HX := Lib.hid (show X ++ [⟨k, x⟩] = putP l k x by rw [← hX, putGo])
        clear hX
        go_upto_region 12 with (fail)
        have hkw := hk.below q
        have hxw := hx.below q
        have hbA := (Below.refl wr.heap.size wr).alloc (Nat.le_refl _) (.cells #[.slice A k.length ck, .slice E x.length ce] 41)
        go_wp2_with (first
          | (at_builtin; refine wpList_appendL (E := Elt.pin Elt.pair (fun j => j < w.heap.size)) (ys := [⟨k, x⟩]) (ns := [.slice A k.length ck, .slice E x.length ce]) prP rfl rfl rfl (hO.below hbA) rfl (cells_new _ [.slice A k.length ck, .slice E x.length ce] _) (Flat.single (E := Elt.pin Elt.pair (fun j => j < w.heap.size)) (S := fun j => j < w.heap.size) (pin_in ⟨_, _, rfl, hkw.below hbA, hxw.below hbA⟩)) (fun j hj => ⟨Nat.zero_le _, Nat.lt_of_lt_of_le hj (Nat.le_trans q.size hbA.size), fun e => by have h5 := (hO.block_lt j e.symm).1; exact absurd (show j < w.heap.size from hj) (by omega)⟩) (Nat.le_trans q.size hbA.size) ?_ (by first | omega | (simp; omega)); intro ad2 kad2 cad2 wb hO2 hg2 h32)
          | fail)
        replace q := (q.trans (hbA.mono q.size)).grown hg2 (Nat.le_trans q.size hbA.size) (fun j e => (hO.block_lt j e).1)
        clear hO hbA hg2 h32
        have hO := hO2
        clear hO2
        go_ret
        rw [← HX.out]
        exact ⟨_, _, _, rfl, hO, q⟩
end Go.Proofs.Ytdegjkfjaklkjaa
