/-
  TEXTS OF ONE PROOF, merged: VerF.
-/
import Derived.BigQuiet
import Derived.Deep.Cut
import Derived.Deep.QuietTactic
import Derived.Lib.Hide
import Derived.Test.YtdegjkfjaklkjaaProg
import Derived.WalkKit
import Derived.WalkLawsBesides
import Derived.WalkSpells
import Derived.Test.YtdegjkfjaklkjaaMe1
import Derived.Test.YtdegjkfjaklkjaaMe2
namespace Go.Proofs.Ytdegjkfjaklkjaa
open Go.RowKit
theorem wp_neqB {P : Program} {o : Oper} {a : Act} {K : Act → World → Prop} {Q : Exit → Act → World → Prop} {w : World} {t t2 : TypeId} {x y : Operand} {m n : Bool} (hu : P.underlying t = some .bool) (ho : o.op = .binOp .neq t x y t2) (hx : a.eval x = .bool m) (hy : a.eval y = .bool n) (h : K (a.put o.dst (.bool (m != n))) w) : o.wp P a w K Q := by
  refine wp_run (v := .bool (m != n)) ?_ h
  simp only [execOp, ho, hx, hy]
  simp [eqGuard, binOp, run_equal_bool w t m n hu, go_sem]
  cases m <;> cases n <;> rfl
theorem ver_eq {x y : Ver} : x = y ↔ x.stamp = y.stamp ∧ x.gone = y.gone ∧ x.value = y.value := by cases x; cases y; simp
set_option maxRecDepth 100000 in
set_option maxHeartbeats 4000000 in
theorem sameV_any (w : World) {S S' : Nat → Prop} {a a' : Option Addr} {n c n' c' : Nat} {l m : List Ver} (hl : RdL Elt.ver S w (.slice a n c) l) (hm : RdL Elt.ver S' w (.slice a' n' c') m) :
    Calls Try.prog 21 #[.slice a n c, .slice a' n' c'] w fun e w' => e = .returned (.bool (decide (l = m))) ∧ Below w.heap.size w w' := by
  obtain ⟨rfl, hnc, hcm⟩ := hl.len
  obtain ⟨rfl, hnc', hcm'⟩ := hm.len
  have hlm : l.length ≤ 9223372036854775807 := by unfold maxLen at hcm; omega
  have hlm' : m.length ≤ 9223372036854775807 := by unfold maxLen at hcm'; omega
  have q := Below.refl w.heap.size w
  by_cases hln : l.length = m.length
  · have d : ((l.length : Int) != (m.length : Int)) = false := by rw [bne_eq_false_iff_eq]; omega
    go_enter Try.func21, Try.ntmps21
    go_upto_region 4 with (fail)
    clear d
    have HLN := Lib.hid hln
    clear hln
    go_loopw [5] (fun iv wr => ∃ k : Nat, iv = .int .i64 k ∧ k ≤ l.length ∧ (∀ r (h : r < l.length), r < k → m[r]? = some l[r]) ∧ Below w.heap.size w wr) (fun i _ => l.length - (intOf i).toNat)
    case atStart => exact ⟨0, rfl, Nat.zero_le _, fun r _ h => by omega, q⟩
    case round =>
      clear q
      obtain ⟨k, rfl, hkl, hsm, q⟩ := hrel
      rcases Nat.lt_or_ge k l.length with hlt | hge
      · have hltm : k < m.length := by have := HLN.out; omega
        obtain ⟨b, off, Av, Cv, rfl, hb, c0, c1, c2, hv, hi, hn1, hn2⟩ := (hl.below q).ver k hlt
        obtain ⟨b', off', A', C', rfl, hb', c0', c1', c2', hv', hi', hn1', hn2'⟩ := (hm.below q).ver k hltm
        have hne : l[k] ≠ m[k] → decide (l = m) = false := fun h => decide_eq_false (fun e => by subst e; exact h rfl)
        have hsn : l[k] = m[k] → ∀ r (h : r < l.length), r < k + 1 → m[r]? = some l[r] := fun h r hr h2 => by
          rcases Nat.lt_or_ge r k with h4 | h4
          · exact hsm r hr h4
          · obtain rfl : r = k := by omega
            rw [List.getElem?_eq_getElem hltm, h]
        obtain ⟨x, ex⟩ : ∃ x, x = l[k] := ⟨_, rfl⟩
        obtain ⟨y, ey⟩ : ∃ y, y = m[k] := ⟨_, rfl⟩
        rw [← ex] at c0 c1 c2 hv hi hn1 hne hsn
        rw [← ey] at c0' c1' c2' hv' hi' hn1' hne hsn
        clear ex ey hsm hi hi' hn1 hn2 hn1' hn2' hb hb'
        have hvr := hv.rd
        have hvr' := hv'.rd
        clear hv hv'
        go_upto_region 6 with (fail)
        by_cases h1 : x.stamp = y.stamp
        · by_cases h2 : x.gone = y.gone
          · by_cases h3 : x.value = y.value
            · have H := Lib.hid (hsn (ver_eq.2 ⟨h1, h2, h3⟩))
              clear hne hsn
              refine wp_region_gsg (by kernel_rfl) (by kernel_rfl) [sgEq (.slice (some ⟨b, off, none⟩) l.length c), sgEq (.int .i64 k), sgEq (.pointer (some ⟨b, off + k * 3, none⟩)), sgEq (.pointer (some ⟨b, off + k * 3, none⟩)), sgEq (.int .i64 x.stamp), sgEq (.slice (some ⟨b', off', none⟩) m.length c'), sgEq (.int .i64 k), sgEq (.pointer (some ⟨b', off' + k * 3, none⟩)), sgEq (.pointer (some ⟨b', off' + k * 3, none⟩)), sgEq (.int .i64 y.stamp), sgEq (.bool false), sgEq (.bool false), sgEq (.slice (some ⟨b, off, none⟩) l.length c), sgEq (.int .i64 k), sgEq (.pointer (some ⟨b, off + k * 3, none⟩)), sgEq (.pointer (some ⟨b, off + k * 3 + 1, none⟩)), sgEq (.bool x.gone), sgEq (.slice (some ⟨b', off', none⟩) m.length c'), sgEq (.int .i64 k), sgEq (.pointer (some ⟨b', off' + k * 3, none⟩)), sgEq (.pointer (some ⟨b', off' + k * 3 + 1, none⟩)), sgEq (.bool y.gone), sgEq (.bool false), sgEq (.bool false), sgEq (.bool false), sgEq (.slice (some ⟨b, off, none⟩) l.length c), sgEq (.int .i64 k), sgEq (.pointer (some ⟨b, off + k * 3, none⟩)), sgEq (.pointer (some ⟨b, off + k * 3 + 2, none⟩)), sgEq (.slice Av x.value.length Cv), sgEq (.string (strOf x.value)), sgEq (.slice (some ⟨b', off', none⟩) m.length c'), sgEq (.int .i64 k), sgEq (.pointer (some ⟨b', off' + k * 3, none⟩)), sgEq (.pointer (some ⟨b', off' + k * 3 + 2, none⟩)), sgEq (.slice A' y.value.length C'), sgEq (.string (strOf y.value)), sgEq (.bool false), sgEq (.bool false)]
                ⟨?o0, ?o1, ?o2, ?o3, ?o4, ?o5, ?o6, ?o7, ?o8, ?o9, ?o10, ?o11, ?o12, ?o13, ?o14, ?o15, ?o16, ?o17, ?o18, ?o19, ?o20, ?o21, ?o22, ?o23, ?o24, ?o25, ?o26, ?o27, ?o28, ?o29, ?o30, ?o31, ?o32, ?o33, ?o34, ?o35, ?o36, ?o37, ?o38, trivial⟩ ?fin
              case o0 =>
                refine GdOp.plain rfl (fun A vs w' hF hT hb hd => ?_)
                have e1 : A.eval (.tmp 0) = .slice (some ⟨b, off, none⟩) l.length c := hF 0 rfl
                exact BigFrame.wp_move _ rfl ⟨_, rfl, e1, Below.refl _ _⟩
              case o1 =>
                refine GdOp.plain rfl (fun A vs w' hF hT hb hd => ?_)
                have e1 : A.eval (.tmp 5) = .int .i64 k := hF 5 rfl
                exact BigFrame.wp_move _ rfl ⟨_, rfl, e1, Below.refl _ _⟩
              case o2 =>
                refine GdOp.plain rfl (fun A vs w' hF hT hb hd => ?_)
                have e1 : A.eval (.tmp 17) = .slice (some ⟨b, off, none⟩) l.length c := (hT 17 0 (by simp) rfl).trans (hd ⟨0, .data⟩ (by simp) rfl)
                have e2 : A.eval (.tmp 18) = .int .i64 k := (hT 18 1 (by simp) rfl).trans (hd ⟨1, .data⟩ (by simp) rfl)
                exact wp_ixN (e := 61) rfl (by kernel_rfl) (by kernel_rfl) (e1) (e2) rfl (by omega) ⟨_, rfl, rfl, Below.refl _ _⟩
              case o3 =>
                refine GdOp.plain rfl (fun A vs w' hF hT hb hd => ?_)
                have e1 : A.eval (.tmp 19) = .pointer (some ⟨b, off + k * 3, none⟩) := (hT 19 2 (by simp) rfl).trans (hd ⟨2, .data⟩ (by simp) rfl)
                exact wp_fieldN verS rfl (e1) (by omega) ⟨_, rfl, rfl, Below.refl _ _⟩
              case o4 =>
                refine GdOp.plain rfl (fun A vs w' hF hT hb hd => ?_)
                have e1 : A.eval (.tmp 20) = .pointer (some ⟨b, off + k * 3, none⟩) := (hT 20 3 (by simp) rfl).trans (hd ⟨3, .data⟩ (by simp) rfl)
                exact wp_ld_int (k := .i64) rfl e1 (by kernel_rfl) (((hb.cell (p := ⟨b, off + k * 3, none⟩) (cell_lt c0)).trans c0)) ⟨_, rfl, rfl, Below.refl _ _⟩
              case o5 =>
                refine GdOp.plain rfl (fun A vs w' hF hT hb hd => ?_)
                have e1 : A.eval (.tmp 1) = .slice (some ⟨b', off', none⟩) m.length c' := hF 1 rfl
                exact BigFrame.wp_move _ rfl ⟨_, rfl, e1, Below.refl _ _⟩
              case o6 =>
                refine GdOp.plain rfl (fun A vs w' hF hT hb hd => ?_)
                have e1 : A.eval (.tmp 5) = .int .i64 k := hF 5 rfl
                exact BigFrame.wp_move _ rfl ⟨_, rfl, e1, Below.refl _ _⟩
              case o7 =>
                refine GdOp.plain rfl (fun A vs w' hF hT hb hd => ?_)
                have e1 : A.eval (.tmp 22) = .slice (some ⟨b', off', none⟩) m.length c' := (hT 22 5 (by simp) rfl).trans (hd ⟨5, .data⟩ (by simp) rfl)
                have e2 : A.eval (.tmp 23) = .int .i64 k := (hT 23 6 (by simp) rfl).trans (hd ⟨6, .data⟩ (by simp) rfl)
                exact wp_ixN (e := 61) rfl (by kernel_rfl) (by kernel_rfl) (e1) (e2) rfl (by omega) ⟨_, rfl, rfl, Below.refl _ _⟩
              case o8 =>
                refine GdOp.plain rfl (fun A vs w' hF hT hb hd => ?_)
                have e1 : A.eval (.tmp 24) = .pointer (some ⟨b', off' + k * 3, none⟩) := (hT 24 7 (by simp) rfl).trans (hd ⟨7, .data⟩ (by simp) rfl)
                exact wp_fieldN verS rfl (e1) (by omega) ⟨_, rfl, rfl, Below.refl _ _⟩
              case o9 =>
                refine GdOp.plain rfl (fun A vs w' hF hT hb hd => ?_)
                have e1 : A.eval (.tmp 25) = .pointer (some ⟨b', off' + k * 3, none⟩) := (hT 25 8 (by simp) rfl).trans (hd ⟨8, .data⟩ (by simp) rfl)
                exact wp_ld_int (k := .i64) rfl e1 (by kernel_rfl) (((hb.cell (p := ⟨b', off' + k * 3, none⟩) (cell_lt c0')).trans c0')) ⟨_, rfl, rfl, Below.refl _ _⟩
              case o10 =>
                refine GdOp.plain rfl (fun A vs w' hF hT hb hd => ?_)
                have e1 : A.eval (.tmp 21) = .int .i64 x.stamp := (hT 21 4 (by simp) rfl).trans (hd ⟨4, .data⟩ (by simp) rfl)
                have e2 : A.eval (.tmp 26) = .int .i64 y.stamp := (hT 26 9 (by simp) rfl).trans (hd ⟨9, .data⟩ (by simp) rfl)
                exact wp_neqI rfl e1 e2 ⟨_, rfl, congrArg Value.bool (by simp [h1]), Below.refl _ _⟩
              case o11 =>
                refine GdOp.plain rfl (fun A vs w' hF hT hb hd => ?_)
                have e1 : A.eval (.tmp 27) = .bool false := (hT 27 10 (by simp) rfl).trans (hd ⟨10, .data⟩ (by simp) rfl)
                exact BigFrame.wp_move _ rfl ⟨_, rfl, e1, Below.refl _ _⟩
              case o12 =>
                refine GdOp.taken rfl ⟨_, _, rfl, rfl, by simp⟩ (by kernel_rfl) (fun w v h => h) (fun A vs w' hF hT hb hd => ?_)
                have e1 : A.eval (.tmp 0) = .slice (some ⟨b, off, none⟩) l.length c := hF 0 rfl
                exact BigFrame.wp_move _ rfl ⟨_, rfl, e1, Below.refl _ _⟩
              case o13 =>
                refine GdOp.taken rfl ⟨_, _, rfl, rfl, by simp⟩ (by kernel_rfl) (fun w v h => h) (fun A vs w' hF hT hb hd => ?_)
                have e1 : A.eval (.tmp 5) = .int .i64 k := hF 5 rfl
                exact BigFrame.wp_move _ rfl ⟨_, rfl, e1, Below.refl _ _⟩
              case o14 =>
                refine GdOp.taken rfl ⟨_, _, rfl, rfl, by simp⟩ (by kernel_rfl) (fun w v h => h) (fun A vs w' hF hT hb hd => ?_)
                have e1 : A.eval (.tmp 29) = .slice (some ⟨b, off, none⟩) l.length c := (hT 29 12 (by simp) rfl).trans (hd ⟨12, .data⟩ (by simp) rfl)
                have e2 : A.eval (.tmp 30) = .int .i64 k := (hT 30 13 (by simp) rfl).trans (hd ⟨13, .data⟩ (by simp) rfl)
                exact wp_ixN (e := 61) rfl (by kernel_rfl) (by kernel_rfl) (e1) (e2) rfl (by omega) ⟨_, rfl, rfl, Below.refl _ _⟩
              case o15 =>
                refine GdOp.taken rfl ⟨_, _, rfl, rfl, by simp⟩ (by kernel_rfl) (fun w v h => h) (fun A vs w' hF hT hb hd => ?_)
                have e1 : A.eval (.tmp 31) = .pointer (some ⟨b, off + k * 3, none⟩) := (hT 31 14 (by simp) rfl).trans (hd ⟨14, .data⟩ (by simp) rfl)
                exact wp_fieldN verS rfl (e1) (by omega) ⟨_, rfl, rfl, Below.refl _ _⟩
              case o16 =>
                refine GdOp.taken rfl ⟨_, _, rfl, rfl, by simp⟩ (by kernel_rfl) (fun w v h => h) (fun A vs w' hF hT hb hd => ?_)
                have e1 : A.eval (.tmp 32) = .pointer (some ⟨b, off + k * 3 + 1, none⟩) := (hT 32 15 (by simp) rfl).trans (hd ⟨15, .data⟩ (by simp) rfl)
                exact wp_ld_bool  rfl e1 (by kernel_rfl) (((hb.cell (p := ⟨b, off + k * 3 + 1, none⟩) (cell_lt c1)).trans c1)) ⟨_, rfl, rfl, Below.refl _ _⟩
              case o17 =>
                refine GdOp.taken rfl ⟨_, _, rfl, rfl, by simp⟩ (by kernel_rfl) (fun w v h => h) (fun A vs w' hF hT hb hd => ?_)
                have e1 : A.eval (.tmp 1) = .slice (some ⟨b', off', none⟩) m.length c' := hF 1 rfl
                exact BigFrame.wp_move _ rfl ⟨_, rfl, e1, Below.refl _ _⟩
              case o18 =>
                refine GdOp.taken rfl ⟨_, _, rfl, rfl, by simp⟩ (by kernel_rfl) (fun w v h => h) (fun A vs w' hF hT hb hd => ?_)
                have e1 : A.eval (.tmp 5) = .int .i64 k := hF 5 rfl
                exact BigFrame.wp_move _ rfl ⟨_, rfl, e1, Below.refl _ _⟩
              case o19 =>
                refine GdOp.taken rfl ⟨_, _, rfl, rfl, by simp⟩ (by kernel_rfl) (fun w v h => h) (fun A vs w' hF hT hb hd => ?_)
                have e1 : A.eval (.tmp 34) = .slice (some ⟨b', off', none⟩) m.length c' := (hT 34 17 (by simp) rfl).trans (hd ⟨17, .data⟩ (by simp) rfl)
                have e2 : A.eval (.tmp 35) = .int .i64 k := (hT 35 18 (by simp) rfl).trans (hd ⟨18, .data⟩ (by simp) rfl)
                exact wp_ixN (e := 61) rfl (by kernel_rfl) (by kernel_rfl) (e1) (e2) rfl (by omega) ⟨_, rfl, rfl, Below.refl _ _⟩
              case o20 =>
                refine GdOp.taken rfl ⟨_, _, rfl, rfl, by simp⟩ (by kernel_rfl) (fun w v h => h) (fun A vs w' hF hT hb hd => ?_)
                have e1 : A.eval (.tmp 36) = .pointer (some ⟨b', off' + k * 3, none⟩) := (hT 36 19 (by simp) rfl).trans (hd ⟨19, .data⟩ (by simp) rfl)
                exact wp_fieldN verS rfl (e1) (by omega) ⟨_, rfl, rfl, Below.refl _ _⟩
              case o21 =>
                refine GdOp.taken rfl ⟨_, _, rfl, rfl, by simp⟩ (by kernel_rfl) (fun w v h => h) (fun A vs w' hF hT hb hd => ?_)
                have e1 : A.eval (.tmp 37) = .pointer (some ⟨b', off' + k * 3 + 1, none⟩) := (hT 37 20 (by simp) rfl).trans (hd ⟨20, .data⟩ (by simp) rfl)
                exact wp_ld_bool  rfl e1 (by kernel_rfl) (((hb.cell (p := ⟨b', off' + k * 3 + 1, none⟩) (cell_lt c1')).trans c1')) ⟨_, rfl, rfl, Below.refl _ _⟩
              case o22 =>
                refine GdOp.taken rfl ⟨_, _, rfl, rfl, by simp⟩ (by kernel_rfl) (fun w v h => h) (fun A vs w' hF hT hb hd => ?_)
                have e1 : A.eval (.tmp 33) = .bool x.gone := (hT 33 16 (by simp) rfl).trans (hd ⟨16, .data⟩ (by simp) rfl)
                have e2 : A.eval (.tmp 38) = .bool y.gone := (hT 38 21 (by simp) rfl).trans (hd ⟨21, .data⟩ (by simp) rfl)
                exact wp_neqB (by kernel_rfl) rfl e1 e2 ⟨_, rfl, congrArg Value.bool (by simp [h2]), Below.refl _ _⟩
              case o23 =>
                refine GdOp.plain rfl (fun A vs w' hF hT hb hd => ?_)
                have e1 : A.eval (.tmp 28) = .bool false := (hT 28 11 (by simp) rfl).trans (hd ⟨11, .data⟩ (by simp) rfl)
                have e3 : A.eval (.tmp 39) = .bool false := (hT 39 22 (by simp) rfl).trans (hd ⟨22, .data⟩ (by simp) rfl)
                exact wp_pk rfl e1 (by simp) (fun _ => e3) ⟨_, rfl, rfl, Below.refl _ _⟩
              case o24 =>
                refine GdOp.plain rfl (fun A vs w' hF hT hb hd => ?_)
                have e1 : A.eval (.tmp 40) = .bool false := (hT 40 23 (by simp) rfl).trans (hd ⟨23, .data⟩ (by simp) rfl)
                exact BigFrame.wp_move _ rfl ⟨_, rfl, e1, Below.refl _ _⟩
              case o25 =>
                refine GdOp.taken rfl ⟨_, _, rfl, rfl, by simp⟩ (by kernel_rfl) (fun w v h => h) (fun A vs w' hF hT hb hd => ?_)
                have e1 : A.eval (.tmp 0) = .slice (some ⟨b, off, none⟩) l.length c := hF 0 rfl
                exact BigFrame.wp_move _ rfl ⟨_, rfl, e1, Below.refl _ _⟩
              case o26 =>
                refine GdOp.taken rfl ⟨_, _, rfl, rfl, by simp⟩ (by kernel_rfl) (fun w v h => h) (fun A vs w' hF hT hb hd => ?_)
                have e1 : A.eval (.tmp 5) = .int .i64 k := hF 5 rfl
                exact BigFrame.wp_move _ rfl ⟨_, rfl, e1, Below.refl _ _⟩
              case o27 =>
                refine GdOp.taken rfl ⟨_, _, rfl, rfl, by simp⟩ (by kernel_rfl) (fun w v h => h) (fun A vs w' hF hT hb hd => ?_)
                have e1 : A.eval (.tmp 42) = .slice (some ⟨b, off, none⟩) l.length c := (hT 42 25 (by simp) rfl).trans (hd ⟨25, .data⟩ (by simp) rfl)
                have e2 : A.eval (.tmp 43) = .int .i64 k := (hT 43 26 (by simp) rfl).trans (hd ⟨26, .data⟩ (by simp) rfl)
                exact wp_ixN (e := 61) rfl (by kernel_rfl) (by kernel_rfl) (e1) (e2) rfl (by omega) ⟨_, rfl, rfl, Below.refl _ _⟩
              case o28 =>
                refine GdOp.taken rfl ⟨_, _, rfl, rfl, by simp⟩ (by kernel_rfl) (fun w v h => h) (fun A vs w' hF hT hb hd => ?_)
                have e1 : A.eval (.tmp 44) = .pointer (some ⟨b, off + k * 3, none⟩) := (hT 44 27 (by simp) rfl).trans (hd ⟨27, .data⟩ (by simp) rfl)
                exact wp_fieldN verS rfl (e1) (by omega) ⟨_, rfl, rfl, Below.refl _ _⟩
              case o29 =>
                refine GdOp.taken rfl ⟨_, _, rfl, rfl, by simp⟩ (by kernel_rfl) (fun w v h => h) (fun A vs w' hF hT hb hd => ?_)
                have e1 : A.eval (.tmp 45) = .pointer (some ⟨b, off + k * 3 + 2, none⟩) := (hT 45 28 (by simp) rfl).trans (hd ⟨28, .data⟩ (by simp) rfl)
                exact wp_ld_slice (e := 5) rfl e1 (by kernel_rfl) (((hb.cell (p := ⟨b, off + k * 3 + 2, none⟩) (cell_lt c2)).trans c2)) ⟨_, rfl, rfl, Below.refl _ _⟩
              case o30 =>
                refine GdOp.taken rfl ⟨_, _, rfl, rfl, by simp⟩ (by kernel_rfl) (fun w v h => h) (fun A vs w' hF hT hb hd => ?_)
                have e1 : A.eval (.tmp 46) = .slice Av x.value.length Cv := (hT 46 29 (by simp) rfl).trans (hd ⟨29, .data⟩ (by simp) rfl)
                exact wp_conv byP rfl e1 (hvr.below hb) ⟨_, rfl, rfl, Below.refl _ _⟩
              case o31 =>
                refine GdOp.taken rfl ⟨_, _, rfl, rfl, by simp⟩ (by kernel_rfl) (fun w v h => h) (fun A vs w' hF hT hb hd => ?_)
                have e1 : A.eval (.tmp 1) = .slice (some ⟨b', off', none⟩) m.length c' := hF 1 rfl
                exact BigFrame.wp_move _ rfl ⟨_, rfl, e1, Below.refl _ _⟩
              case o32 =>
                refine GdOp.taken rfl ⟨_, _, rfl, rfl, by simp⟩ (by kernel_rfl) (fun w v h => h) (fun A vs w' hF hT hb hd => ?_)
                have e1 : A.eval (.tmp 5) = .int .i64 k := hF 5 rfl
                exact BigFrame.wp_move _ rfl ⟨_, rfl, e1, Below.refl _ _⟩
              case o33 =>
                refine GdOp.taken rfl ⟨_, _, rfl, rfl, by simp⟩ (by kernel_rfl) (fun w v h => h) (fun A vs w' hF hT hb hd => ?_)
                have e1 : A.eval (.tmp 48) = .slice (some ⟨b', off', none⟩) m.length c' := (hT 48 31 (by simp) rfl).trans (hd ⟨31, .data⟩ (by simp) rfl)
                have e2 : A.eval (.tmp 49) = .int .i64 k := (hT 49 32 (by simp) rfl).trans (hd ⟨32, .data⟩ (by simp) rfl)
                exact wp_ixN (e := 61) rfl (by kernel_rfl) (by kernel_rfl) (e1) (e2) rfl (by omega) ⟨_, rfl, rfl, Below.refl _ _⟩
              case o34 =>
                refine GdOp.taken rfl ⟨_, _, rfl, rfl, by simp⟩ (by kernel_rfl) (fun w v h => h) (fun A vs w' hF hT hb hd => ?_)
                have e1 : A.eval (.tmp 50) = .pointer (some ⟨b', off' + k * 3, none⟩) := (hT 50 33 (by simp) rfl).trans (hd ⟨33, .data⟩ (by simp) rfl)
                exact wp_fieldN verS rfl (e1) (by omega) ⟨_, rfl, rfl, Below.refl _ _⟩
              case o35 =>
                refine GdOp.taken rfl ⟨_, _, rfl, rfl, by simp⟩ (by kernel_rfl) (fun w v h => h) (fun A vs w' hF hT hb hd => ?_)
                have e1 : A.eval (.tmp 51) = .pointer (some ⟨b', off' + k * 3 + 2, none⟩) := (hT 51 34 (by simp) rfl).trans (hd ⟨34, .data⟩ (by simp) rfl)
                exact wp_ld_slice (e := 5) rfl e1 (by kernel_rfl) (((hb.cell (p := ⟨b', off' + k * 3 + 2, none⟩) (cell_lt c2')).trans c2')) ⟨_, rfl, rfl, Below.refl _ _⟩
              case o36 =>
                refine GdOp.taken rfl ⟨_, _, rfl, rfl, by simp⟩ (by kernel_rfl) (fun w v h => h) (fun A vs w' hF hT hb hd => ?_)
                have e1 : A.eval (.tmp 52) = .slice A' y.value.length C' := (hT 52 35 (by simp) rfl).trans (hd ⟨35, .data⟩ (by simp) rfl)
                exact wp_conv byP rfl e1 (hvr'.below hb) ⟨_, rfl, rfl, Below.refl _ _⟩
              case o37 =>
                refine GdOp.taken rfl ⟨_, _, rfl, rfl, by simp⟩ (by kernel_rfl) (fun w v h => h) (fun A vs w' hF hT hb hd => ?_)
                have e1 : A.eval (.tmp 47) = .string (strOf x.value) := (hT 47 30 (by simp) rfl).trans (hd ⟨30, .data⟩ (by simp) rfl)
                have e2 : A.eval (.tmp 53) = .string (strOf y.value) := (hT 53 36 (by simp) rfl).trans (hd ⟨36, .data⟩ (by simp) rfl)
                exact wp_neqS rfl e1 e2 ⟨_, rfl, congrArg Value.bool (by simp [h3]), Below.refl _ _⟩
              case o38 =>
                refine GdOp.plain rfl (fun A vs w' hF hT hb hd => ?_)
                have e1 : A.eval (.tmp 41) = .bool false := (hT 41 24 (by simp) rfl).trans (hd ⟨24, .data⟩ (by simp) rfl)
                have e3 : A.eval (.tmp 54) = .bool false := (hT 54 37 (by simp) rfl).trans (hd ⟨37, .data⟩ (by simp) rfl)
                exact wp_pk rfl e1 (by simp) (fun _ => e3) ⟨_, rfl, rfl, Below.refl _ _⟩
              case fin =>
                intro vs w' hb hG
                have e0 : vs 0 = .slice (some ⟨b, off, none⟩) l.length c := hG 0 (by decide)
                have e1 : vs 1 = .int .i64 k := hG 1 (by decide)
                have e2 : vs 2 = .pointer (some ⟨b, off + k * 3, none⟩) := hG 2 (by decide)
                have e3 : vs 3 = .pointer (some ⟨b, off + k * 3, none⟩) := hG 3 (by decide)
                have e4 : vs 4 = .int .i64 x.stamp := hG 4 (by decide)
                have e5 : vs 5 = .slice (some ⟨b', off', none⟩) m.length c' := hG 5 (by decide)
                have e6 : vs 6 = .int .i64 k := hG 6 (by decide)
                have e7 : vs 7 = .pointer (some ⟨b', off' + k * 3, none⟩) := hG 7 (by decide)
                have e8 : vs 8 = .pointer (some ⟨b', off' + k * 3, none⟩) := hG 8 (by decide)
                have e9 : vs 9 = .int .i64 y.stamp := hG 9 (by decide)
                have e10 : vs 10 = .bool false := hG 10 (by decide)
                have e11 : vs 11 = .bool false := hG 11 (by decide)
                have e12 : vs 12 = .slice (some ⟨b, off, none⟩) l.length c := hG 12 (by decide)
                have e13 : vs 13 = .int .i64 k := hG 13 (by decide)
                have e14 : vs 14 = .pointer (some ⟨b, off + k * 3, none⟩) := hG 14 (by decide)
                have e15 : vs 15 = .pointer (some ⟨b, off + k * 3 + 1, none⟩) := hG 15 (by decide)
                have e16 : vs 16 = .bool x.gone := hG 16 (by decide)
                have e17 : vs 17 = .slice (some ⟨b', off', none⟩) m.length c' := hG 17 (by decide)
                have e18 : vs 18 = .int .i64 k := hG 18 (by decide)
                have e19 : vs 19 = .pointer (some ⟨b', off' + k * 3, none⟩) := hG 19 (by decide)
                have e20 : vs 20 = .pointer (some ⟨b', off' + k * 3 + 1, none⟩) := hG 20 (by decide)
                have e21 : vs 21 = .bool y.gone := hG 21 (by decide)
                have e22 : vs 22 = .bool false := hG 22 (by decide)
                have e23 : vs 23 = .bool false := hG 23 (by decide)
                have e24 : vs 24 = .bool false := hG 24 (by decide)
                have e25 : vs 25 = .slice (some ⟨b, off, none⟩) l.length c := hG 25 (by decide)
                have e26 : vs 26 = .int .i64 k := hG 26 (by decide)
                have e27 : vs 27 = .pointer (some ⟨b, off + k * 3, none⟩) := hG 27 (by decide)
                have e28 : vs 28 = .pointer (some ⟨b, off + k * 3 + 2, none⟩) := hG 28 (by decide)
                have e29 : vs 29 = .slice Av x.value.length Cv := hG 29 (by decide)
                have e30 : vs 30 = .string (strOf x.value) := hG 30 (by decide)
                have e31 : vs 31 = .slice (some ⟨b', off', none⟩) m.length c' := hG 31 (by decide)
                have e32 : vs 32 = .int .i64 k := hG 32 (by decide)
                have e33 : vs 33 = .pointer (some ⟨b', off' + k * 3, none⟩) := hG 33 (by decide)
                have e34 : vs 34 = .pointer (some ⟨b', off' + k * 3 + 2, none⟩) := hG 34 (by decide)
                have e35 : vs 35 = .slice A' y.value.length C' := hG 35 (by decide)
                have e36 : vs 36 = .string (strOf y.value) := hG 36 (by decide)
                have e37 : vs 37 = .bool false := hG 37 (by decide)
                have e38 : vs 38 = .bool false := hG 38 (by decide)
                simp only [putAll, e0, e1, e2, e3, e4, e5, e6, e7, e8, e9, e10, e11, e12, e13, e14, e15, e16, e17, e18, e19, e20, e21, e22, e23, e24, e25, e26, e27, e28, e29, e30, e31, e32, e33, e34, e35, e36, e37, e38]
                clear hG e0 e1 e2 e3 e4 e5 e6 e7 e8 e9 e10 e11 e12 e13 e14 e15 e16 e17 e18 e19 e20 e21 e22 e23 e24 e25 e26 e27 e28 e29 e30 e31 e32 e33 e34 e35 e36 e37 e38
                have q2 := q.trans (hb.mono q.size)
                clear hb q
                go_simp
                go_wp2_with fail
                go_roundw
                case rel => exact ⟨k + 1, by go_num, by omega, H.out, q2⟩
                case measure => simp [intOf]; omega
            · have H := Lib.hid (hne (fun e => h3 (by rw [e])))
              clear hne hsn
              refine wp_region_gsg (by kernel_rfl) (by kernel_rfl) [sgEq (.slice (some ⟨b, off, none⟩) l.length c), sgEq (.int .i64 k), sgEq (.pointer (some ⟨b, off + k * 3, none⟩)), sgEq (.pointer (some ⟨b, off + k * 3, none⟩)), sgEq (.int .i64 x.stamp), sgEq (.slice (some ⟨b', off', none⟩) m.length c'), sgEq (.int .i64 k), sgEq (.pointer (some ⟨b', off' + k * 3, none⟩)), sgEq (.pointer (some ⟨b', off' + k * 3, none⟩)), sgEq (.int .i64 y.stamp), sgEq (.bool false), sgEq (.bool false), sgEq (.slice (some ⟨b, off, none⟩) l.length c), sgEq (.int .i64 k), sgEq (.pointer (some ⟨b, off + k * 3, none⟩)), sgEq (.pointer (some ⟨b, off + k * 3 + 1, none⟩)), sgEq (.bool x.gone), sgEq (.slice (some ⟨b', off', none⟩) m.length c'), sgEq (.int .i64 k), sgEq (.pointer (some ⟨b', off' + k * 3, none⟩)), sgEq (.pointer (some ⟨b', off' + k * 3 + 1, none⟩)), sgEq (.bool y.gone), sgEq (.bool false), sgEq (.bool false), sgEq (.bool false), sgEq (.slice (some ⟨b, off, none⟩) l.length c), sgEq (.int .i64 k), sgEq (.pointer (some ⟨b, off + k * 3, none⟩)), sgEq (.pointer (some ⟨b, off + k * 3 + 2, none⟩)), sgEq (.slice Av x.value.length Cv), sgEq (.string (strOf x.value)), sgEq (.slice (some ⟨b', off', none⟩) m.length c'), sgEq (.int .i64 k), sgEq (.pointer (some ⟨b', off' + k * 3, none⟩)), sgEq (.pointer (some ⟨b', off' + k * 3 + 2, none⟩)), sgEq (.slice A' y.value.length C'), sgEq (.string (strOf y.value)), sgEq (.bool true), sgEq (.bool true)]
                ⟨?o0, ?o1, ?o2, ?o3, ?o4, ?o5, ?o6, ?o7, ?o8, ?o9, ?o10, ?o11, ?o12, ?o13, ?o14, ?o15, ?o16, ?o17, ?o18, ?o19, ?o20, ?o21, ?o22, ?o23, ?o24, ?o25, ?o26, ?o27, ?o28, ?o29, ?o30, ?o31, ?o32, ?o33, ?o34, ?o35, ?o36, ?o37, ?o38, trivial⟩ ?fin
              case o0 =>
                refine GdOp.plain rfl (fun A vs w' hF hT hb hd => ?_)
                have e1 : A.eval (.tmp 0) = .slice (some ⟨b, off, none⟩) l.length c := hF 0 rfl
                exact BigFrame.wp_move _ rfl ⟨_, rfl, e1, Below.refl _ _⟩
              case o1 =>
                refine GdOp.plain rfl (fun A vs w' hF hT hb hd => ?_)
                have e1 : A.eval (.tmp 5) = .int .i64 k := hF 5 rfl
                exact BigFrame.wp_move _ rfl ⟨_, rfl, e1, Below.refl _ _⟩
              case o2 =>
                refine GdOp.plain rfl (fun A vs w' hF hT hb hd => ?_)
                have e1 : A.eval (.tmp 17) = .slice (some ⟨b, off, none⟩) l.length c := (hT 17 0 (by simp) rfl).trans (hd ⟨0, .data⟩ (by simp) rfl)
                have e2 : A.eval (.tmp 18) = .int .i64 k := (hT 18 1 (by simp) rfl).trans (hd ⟨1, .data⟩ (by simp) rfl)
                exact wp_ixN (e := 61) rfl (by kernel_rfl) (by kernel_rfl) (e1) (e2) rfl (by omega) ⟨_, rfl, rfl, Below.refl _ _⟩
              case o3 =>
                refine GdOp.plain rfl (fun A vs w' hF hT hb hd => ?_)
                have e1 : A.eval (.tmp 19) = .pointer (some ⟨b, off + k * 3, none⟩) := (hT 19 2 (by simp) rfl).trans (hd ⟨2, .data⟩ (by simp) rfl)
                exact wp_fieldN verS rfl (e1) (by omega) ⟨_, rfl, rfl, Below.refl _ _⟩
              case o4 =>
                refine GdOp.plain rfl (fun A vs w' hF hT hb hd => ?_)
                have e1 : A.eval (.tmp 20) = .pointer (some ⟨b, off + k * 3, none⟩) := (hT 20 3 (by simp) rfl).trans (hd ⟨3, .data⟩ (by simp) rfl)
                exact wp_ld_int (k := .i64) rfl e1 (by kernel_rfl) (((hb.cell (p := ⟨b, off + k * 3, none⟩) (cell_lt c0)).trans c0)) ⟨_, rfl, rfl, Below.refl _ _⟩
              case o5 =>
                refine GdOp.plain rfl (fun A vs w' hF hT hb hd => ?_)
                have e1 : A.eval (.tmp 1) = .slice (some ⟨b', off', none⟩) m.length c' := hF 1 rfl
                exact BigFrame.wp_move _ rfl ⟨_, rfl, e1, Below.refl _ _⟩
              case o6 =>
                refine GdOp.plain rfl (fun A vs w' hF hT hb hd => ?_)
                have e1 : A.eval (.tmp 5) = .int .i64 k := hF 5 rfl
                exact BigFrame.wp_move _ rfl ⟨_, rfl, e1, Below.refl _ _⟩
              case o7 =>
                refine GdOp.plain rfl (fun A vs w' hF hT hb hd => ?_)
                have e1 : A.eval (.tmp 22) = .slice (some ⟨b', off', none⟩) m.length c' := (hT 22 5 (by simp) rfl).trans (hd ⟨5, .data⟩ (by simp) rfl)
                have e2 : A.eval (.tmp 23) = .int .i64 k := (hT 23 6 (by simp) rfl).trans (hd ⟨6, .data⟩ (by simp) rfl)
                exact wp_ixN (e := 61) rfl (by kernel_rfl) (by kernel_rfl) (e1) (e2) rfl (by omega) ⟨_, rfl, rfl, Below.refl _ _⟩
              case o8 =>
                refine GdOp.plain rfl (fun A vs w' hF hT hb hd => ?_)
                have e1 : A.eval (.tmp 24) = .pointer (some ⟨b', off' + k * 3, none⟩) := (hT 24 7 (by simp) rfl).trans (hd ⟨7, .data⟩ (by simp) rfl)
                exact wp_fieldN verS rfl (e1) (by omega) ⟨_, rfl, rfl, Below.refl _ _⟩
              case o9 =>
                refine GdOp.plain rfl (fun A vs w' hF hT hb hd => ?_)
                have e1 : A.eval (.tmp 25) = .pointer (some ⟨b', off' + k * 3, none⟩) := (hT 25 8 (by simp) rfl).trans (hd ⟨8, .data⟩ (by simp) rfl)
                exact wp_ld_int (k := .i64) rfl e1 (by kernel_rfl) (((hb.cell (p := ⟨b', off' + k * 3, none⟩) (cell_lt c0')).trans c0')) ⟨_, rfl, rfl, Below.refl _ _⟩
              case o10 =>
                refine GdOp.plain rfl (fun A vs w' hF hT hb hd => ?_)
                have e1 : A.eval (.tmp 21) = .int .i64 x.stamp := (hT 21 4 (by simp) rfl).trans (hd ⟨4, .data⟩ (by simp) rfl)
                have e2 : A.eval (.tmp 26) = .int .i64 y.stamp := (hT 26 9 (by simp) rfl).trans (hd ⟨9, .data⟩ (by simp) rfl)
                exact wp_neqI rfl e1 e2 ⟨_, rfl, congrArg Value.bool (by simp [h1]), Below.refl _ _⟩
              case o11 =>
                refine GdOp.plain rfl (fun A vs w' hF hT hb hd => ?_)
                have e1 : A.eval (.tmp 27) = .bool false := (hT 27 10 (by simp) rfl).trans (hd ⟨10, .data⟩ (by simp) rfl)
                exact BigFrame.wp_move _ rfl ⟨_, rfl, e1, Below.refl _ _⟩
              case o12 =>
                refine GdOp.taken rfl ⟨_, _, rfl, rfl, by simp⟩ (by kernel_rfl) (fun w v h => h) (fun A vs w' hF hT hb hd => ?_)
                have e1 : A.eval (.tmp 0) = .slice (some ⟨b, off, none⟩) l.length c := hF 0 rfl
                exact BigFrame.wp_move _ rfl ⟨_, rfl, e1, Below.refl _ _⟩
              case o13 =>
                refine GdOp.taken rfl ⟨_, _, rfl, rfl, by simp⟩ (by kernel_rfl) (fun w v h => h) (fun A vs w' hF hT hb hd => ?_)
                have e1 : A.eval (.tmp 5) = .int .i64 k := hF 5 rfl
                exact BigFrame.wp_move _ rfl ⟨_, rfl, e1, Below.refl _ _⟩
              case o14 =>
                refine GdOp.taken rfl ⟨_, _, rfl, rfl, by simp⟩ (by kernel_rfl) (fun w v h => h) (fun A vs w' hF hT hb hd => ?_)
                have e1 : A.eval (.tmp 29) = .slice (some ⟨b, off, none⟩) l.length c := (hT 29 12 (by simp) rfl).trans (hd ⟨12, .data⟩ (by simp) rfl)
                have e2 : A.eval (.tmp 30) = .int .i64 k := (hT 30 13 (by simp) rfl).trans (hd ⟨13, .data⟩ (by simp) rfl)
                exact wp_ixN (e := 61) rfl (by kernel_rfl) (by kernel_rfl) (e1) (e2) rfl (by omega) ⟨_, rfl, rfl, Below.refl _ _⟩
              case o15 =>
                refine GdOp.taken rfl ⟨_, _, rfl, rfl, by simp⟩ (by kernel_rfl) (fun w v h => h) (fun A vs w' hF hT hb hd => ?_)
                have e1 : A.eval (.tmp 31) = .pointer (some ⟨b, off + k * 3, none⟩) := (hT 31 14 (by simp) rfl).trans (hd ⟨14, .data⟩ (by simp) rfl)
                exact wp_fieldN verS rfl (e1) (by omega) ⟨_, rfl, rfl, Below.refl _ _⟩
              case o16 =>
                refine GdOp.taken rfl ⟨_, _, rfl, rfl, by simp⟩ (by kernel_rfl) (fun w v h => h) (fun A vs w' hF hT hb hd => ?_)
                have e1 : A.eval (.tmp 32) = .pointer (some ⟨b, off + k * 3 + 1, none⟩) := (hT 32 15 (by simp) rfl).trans (hd ⟨15, .data⟩ (by simp) rfl)
                exact wp_ld_bool  rfl e1 (by kernel_rfl) (((hb.cell (p := ⟨b, off + k * 3 + 1, none⟩) (cell_lt c1)).trans c1)) ⟨_, rfl, rfl, Below.refl _ _⟩
              case o17 =>
                refine GdOp.taken rfl ⟨_, _, rfl, rfl, by simp⟩ (by kernel_rfl) (fun w v h => h) (fun A vs w' hF hT hb hd => ?_)
                have e1 : A.eval (.tmp 1) = .slice (some ⟨b', off', none⟩) m.length c' := hF 1 rfl
                exact BigFrame.wp_move _ rfl ⟨_, rfl, e1, Below.refl _ _⟩
              case o18 =>
                refine GdOp.taken rfl ⟨_, _, rfl, rfl, by simp⟩ (by kernel_rfl) (fun w v h => h) (fun A vs w' hF hT hb hd => ?_)
                have e1 : A.eval (.tmp 5) = .int .i64 k := hF 5 rfl
                exact BigFrame.wp_move _ rfl ⟨_, rfl, e1, Below.refl _ _⟩
              case o19 =>
                refine GdOp.taken rfl ⟨_, _, rfl, rfl, by simp⟩ (by kernel_rfl) (fun w v h => h) (fun A vs w' hF hT hb hd => ?_)
                have e1 : A.eval (.tmp 34) = .slice (some ⟨b', off', none⟩) m.length c' := (hT 34 17 (by simp) rfl).trans (hd ⟨17, .data⟩ (by simp) rfl)
                have e2 : A.eval (.tmp 35) = .int .i64 k := (hT 35 18 (by simp) rfl).trans (hd ⟨18, .data⟩ (by simp) rfl)
                exact wp_ixN (e := 61) rfl (by kernel_rfl) (by kernel_rfl) (e1) (e2) rfl (by omega) ⟨_, rfl, rfl, Below.refl _ _⟩
              case o20 =>
                refine GdOp.taken rfl ⟨_, _, rfl, rfl, by simp⟩ (by kernel_rfl) (fun w v h => h) (fun A vs w' hF hT hb hd => ?_)
                have e1 : A.eval (.tmp 36) = .pointer (some ⟨b', off' + k * 3, none⟩) := (hT 36 19 (by simp) rfl).trans (hd ⟨19, .data⟩ (by simp) rfl)
                exact wp_fieldN verS rfl (e1) (by omega) ⟨_, rfl, rfl, Below.refl _ _⟩
              case o21 =>
                refine GdOp.taken rfl ⟨_, _, rfl, rfl, by simp⟩ (by kernel_rfl) (fun w v h => h) (fun A vs w' hF hT hb hd => ?_)
                have e1 : A.eval (.tmp 37) = .pointer (some ⟨b', off' + k * 3 + 1, none⟩) := (hT 37 20 (by simp) rfl).trans (hd ⟨20, .data⟩ (by simp) rfl)
                exact wp_ld_bool  rfl e1 (by kernel_rfl) (((hb.cell (p := ⟨b', off' + k * 3 + 1, none⟩) (cell_lt c1')).trans c1')) ⟨_, rfl, rfl, Below.refl _ _⟩
              case o22 =>
                refine GdOp.taken rfl ⟨_, _, rfl, rfl, by simp⟩ (by kernel_rfl) (fun w v h => h) (fun A vs w' hF hT hb hd => ?_)
                have e1 : A.eval (.tmp 33) = .bool x.gone := (hT 33 16 (by simp) rfl).trans (hd ⟨16, .data⟩ (by simp) rfl)
                have e2 : A.eval (.tmp 38) = .bool y.gone := (hT 38 21 (by simp) rfl).trans (hd ⟨21, .data⟩ (by simp) rfl)
                exact wp_neqB (by kernel_rfl) rfl e1 e2 ⟨_, rfl, congrArg Value.bool (by simp [h2]), Below.refl _ _⟩
              case o23 =>
                refine GdOp.plain rfl (fun A vs w' hF hT hb hd => ?_)
                have e1 : A.eval (.tmp 28) = .bool false := (hT 28 11 (by simp) rfl).trans (hd ⟨11, .data⟩ (by simp) rfl)
                have e3 : A.eval (.tmp 39) = .bool false := (hT 39 22 (by simp) rfl).trans (hd ⟨22, .data⟩ (by simp) rfl)
                exact wp_pk rfl e1 (by simp) (fun _ => e3) ⟨_, rfl, rfl, Below.refl _ _⟩
              case o24 =>
                refine GdOp.plain rfl (fun A vs w' hF hT hb hd => ?_)
                have e1 : A.eval (.tmp 40) = .bool false := (hT 40 23 (by simp) rfl).trans (hd ⟨23, .data⟩ (by simp) rfl)
                exact BigFrame.wp_move _ rfl ⟨_, rfl, e1, Below.refl _ _⟩
              case o25 =>
                refine GdOp.taken rfl ⟨_, _, rfl, rfl, by simp⟩ (by kernel_rfl) (fun w v h => h) (fun A vs w' hF hT hb hd => ?_)
                have e1 : A.eval (.tmp 0) = .slice (some ⟨b, off, none⟩) l.length c := hF 0 rfl
                exact BigFrame.wp_move _ rfl ⟨_, rfl, e1, Below.refl _ _⟩
              case o26 =>
                refine GdOp.taken rfl ⟨_, _, rfl, rfl, by simp⟩ (by kernel_rfl) (fun w v h => h) (fun A vs w' hF hT hb hd => ?_)
                have e1 : A.eval (.tmp 5) = .int .i64 k := hF 5 rfl
                exact BigFrame.wp_move _ rfl ⟨_, rfl, e1, Below.refl _ _⟩
              case o27 =>
                refine GdOp.taken rfl ⟨_, _, rfl, rfl, by simp⟩ (by kernel_rfl) (fun w v h => h) (fun A vs w' hF hT hb hd => ?_)
                have e1 : A.eval (.tmp 42) = .slice (some ⟨b, off, none⟩) l.length c := (hT 42 25 (by simp) rfl).trans (hd ⟨25, .data⟩ (by simp) rfl)
                have e2 : A.eval (.tmp 43) = .int .i64 k := (hT 43 26 (by simp) rfl).trans (hd ⟨26, .data⟩ (by simp) rfl)
                exact wp_ixN (e := 61) rfl (by kernel_rfl) (by kernel_rfl) (e1) (e2) rfl (by omega) ⟨_, rfl, rfl, Below.refl _ _⟩
              case o28 =>
                refine GdOp.taken rfl ⟨_, _, rfl, rfl, by simp⟩ (by kernel_rfl) (fun w v h => h) (fun A vs w' hF hT hb hd => ?_)
                have e1 : A.eval (.tmp 44) = .pointer (some ⟨b, off + k * 3, none⟩) := (hT 44 27 (by simp) rfl).trans (hd ⟨27, .data⟩ (by simp) rfl)
                exact wp_fieldN verS rfl (e1) (by omega) ⟨_, rfl, rfl, Below.refl _ _⟩
              case o29 =>
                refine GdOp.taken rfl ⟨_, _, rfl, rfl, by simp⟩ (by kernel_rfl) (fun w v h => h) (fun A vs w' hF hT hb hd => ?_)
                have e1 : A.eval (.tmp 45) = .pointer (some ⟨b, off + k * 3 + 2, none⟩) := (hT 45 28 (by simp) rfl).trans (hd ⟨28, .data⟩ (by simp) rfl)
                exact wp_ld_slice (e := 5) rfl e1 (by kernel_rfl) (((hb.cell (p := ⟨b, off + k * 3 + 2, none⟩) (cell_lt c2)).trans c2)) ⟨_, rfl, rfl, Below.refl _ _⟩
              case o30 =>
                refine GdOp.taken rfl ⟨_, _, rfl, rfl, by simp⟩ (by kernel_rfl) (fun w v h => h) (fun A vs w' hF hT hb hd => ?_)
                have e1 : A.eval (.tmp 46) = .slice Av x.value.length Cv := (hT 46 29 (by simp) rfl).trans (hd ⟨29, .data⟩ (by simp) rfl)
                exact wp_conv byP rfl e1 (hvr.below hb) ⟨_, rfl, rfl, Below.refl _ _⟩
              case o31 =>
                refine GdOp.taken rfl ⟨_, _, rfl, rfl, by simp⟩ (by kernel_rfl) (fun w v h => h) (fun A vs w' hF hT hb hd => ?_)
                have e1 : A.eval (.tmp 1) = .slice (some ⟨b', off', none⟩) m.length c' := hF 1 rfl
                exact BigFrame.wp_move _ rfl ⟨_, rfl, e1, Below.refl _ _⟩
              case o32 =>
                refine GdOp.taken rfl ⟨_, _, rfl, rfl, by simp⟩ (by kernel_rfl) (fun w v h => h) (fun A vs w' hF hT hb hd => ?_)
                have e1 : A.eval (.tmp 5) = .int .i64 k := hF 5 rfl
                exact BigFrame.wp_move _ rfl ⟨_, rfl, e1, Below.refl _ _⟩
              case o33 =>
                refine GdOp.taken rfl ⟨_, _, rfl, rfl, by simp⟩ (by kernel_rfl) (fun w v h => h) (fun A vs w' hF hT hb hd => ?_)
                have e1 : A.eval (.tmp 48) = .slice (some ⟨b', off', none⟩) m.length c' := (hT 48 31 (by simp) rfl).trans (hd ⟨31, .data⟩ (by simp) rfl)
                have e2 : A.eval (.tmp 49) = .int .i64 k := (hT 49 32 (by simp) rfl).trans (hd ⟨32, .data⟩ (by simp) rfl)
                exact wp_ixN (e := 61) rfl (by kernel_rfl) (by kernel_rfl) (e1) (e2) rfl (by omega) ⟨_, rfl, rfl, Below.refl _ _⟩
              case o34 =>
                refine GdOp.taken rfl ⟨_, _, rfl, rfl, by simp⟩ (by kernel_rfl) (fun w v h => h) (fun A vs w' hF hT hb hd => ?_)
                have e1 : A.eval (.tmp 50) = .pointer (some ⟨b', off' + k * 3, none⟩) := (hT 50 33 (by simp) rfl).trans (hd ⟨33, .data⟩ (by simp) rfl)
                exact wp_fieldN verS rfl (e1) (by omega) ⟨_, rfl, rfl, Below.refl _ _⟩
              case o35 =>
                refine GdOp.taken rfl ⟨_, _, rfl, rfl, by simp⟩ (by kernel_rfl) (fun w v h => h) (fun A vs w' hF hT hb hd => ?_)
                have e1 : A.eval (.tmp 51) = .pointer (some ⟨b', off' + k * 3 + 2, none⟩) := (hT 51 34 (by simp) rfl).trans (hd ⟨34, .data⟩ (by simp) rfl)
                exact wp_ld_slice (e := 5) rfl e1 (by kernel_rfl) (((hb.cell (p := ⟨b', off' + k * 3 + 2, none⟩) (cell_lt c2')).trans c2')) ⟨_, rfl, rfl, Below.refl _ _⟩
              case o36 =>
                refine GdOp.taken rfl ⟨_, _, rfl, rfl, by simp⟩ (by kernel_rfl) (fun w v h => h) (fun A vs w' hF hT hb hd => ?_)
                have e1 : A.eval (.tmp 52) = .slice A' y.value.length C' := (hT 52 35 (by simp) rfl).trans (hd ⟨35, .data⟩ (by simp) rfl)
                exact wp_conv byP rfl e1 (hvr'.below hb) ⟨_, rfl, rfl, Below.refl _ _⟩
              case o37 =>
                refine GdOp.taken rfl ⟨_, _, rfl, rfl, by simp⟩ (by kernel_rfl) (fun w v h => h) (fun A vs w' hF hT hb hd => ?_)
                have e1 : A.eval (.tmp 47) = .string (strOf x.value) := (hT 47 30 (by simp) rfl).trans (hd ⟨30, .data⟩ (by simp) rfl)
                have e2 : A.eval (.tmp 53) = .string (strOf y.value) := (hT 53 36 (by simp) rfl).trans (hd ⟨36, .data⟩ (by simp) rfl)
                exact wp_neqS rfl e1 e2 ⟨_, rfl, congrArg Value.bool (by simp [h3]), Below.refl _ _⟩
              case o38 =>
                refine GdOp.plain rfl (fun A vs w' hF hT hb hd => ?_)
                have e1 : A.eval (.tmp 41) = .bool false := (hT 41 24 (by simp) rfl).trans (hd ⟨24, .data⟩ (by simp) rfl)
                have e3 : A.eval (.tmp 54) = .bool true := (hT 54 37 (by simp) rfl).trans (hd ⟨37, .data⟩ (by simp) rfl)
                exact wp_pk rfl e1 (by simp) (fun _ => e3) ⟨_, rfl, rfl, Below.refl _ _⟩
              case fin =>
                intro vs w' hb hG
                have e38 : vs 38 = .bool true := hG 38 (by decide)
                simp only [putAll, e38]
                clear hG e38
                have q2 := q.trans (hb.mono q.size)
                clear hb q
                go_simp
                go_wp2_with fail
                go_ret
                exact ⟨by rw [H.out]; rfl, q2⟩
          · have H := Lib.hid (hne (fun e => h2 (by rw [e])))
            clear hne hsn
            refine wp_region_gsg (by kernel_rfl) (by kernel_rfl) [sgEq (.slice (some ⟨b, off, none⟩) l.length c), sgEq (.int .i64 k), sgEq (.pointer (some ⟨b, off + k * 3, none⟩)), sgEq (.pointer (some ⟨b, off + k * 3, none⟩)), sgEq (.int .i64 x.stamp), sgEq (.slice (some ⟨b', off', none⟩) m.length c'), sgEq (.int .i64 k), sgEq (.pointer (some ⟨b', off' + k * 3, none⟩)), sgEq (.pointer (some ⟨b', off' + k * 3, none⟩)), sgEq (.int .i64 y.stamp), sgEq (.bool false), sgEq (.bool false), sgEq (.slice (some ⟨b, off, none⟩) l.length c), sgEq (.int .i64 k), sgEq (.pointer (some ⟨b, off + k * 3, none⟩)), sgEq (.pointer (some ⟨b, off + k * 3 + 1, none⟩)), sgEq (.bool x.gone), sgEq (.slice (some ⟨b', off', none⟩) m.length c'), sgEq (.int .i64 k), sgEq (.pointer (some ⟨b', off' + k * 3, none⟩)), sgEq (.pointer (some ⟨b', off' + k * 3 + 1, none⟩)), sgEq (.bool y.gone), sgEq (.bool true), sgEq (.bool true), sgEq (.bool true), sgEq undef, sgEq undef, sgEq undef, sgEq undef, sgEq undef, sgEq undef, sgEq undef, sgEq undef, sgEq undef, sgEq undef, sgEq undef, sgEq undef, sgEq undef, sgEq (.bool true)]
              ⟨?o0, ?o1, ?o2, ?o3, ?o4, ?o5, ?o6, ?o7, ?o8, ?o9, ?o10, ?o11, ?o12, ?o13, ?o14, ?o15, ?o16, ?o17, ?o18, ?o19, ?o20, ?o21, ?o22, ?o23, ?o24, ?o25, ?o26, ?o27, ?o28, ?o29, ?o30, ?o31, ?o32, ?o33, ?o34, ?o35, ?o36, ?o37, ?o38, trivial⟩ ?fin
            case o0 =>
              refine GdOp.plain rfl (fun A vs w' hF hT hb hd => ?_)
              have e1 : A.eval (.tmp 0) = .slice (some ⟨b, off, none⟩) l.length c := hF 0 rfl
              exact BigFrame.wp_move _ rfl ⟨_, rfl, e1, Below.refl _ _⟩
            case o1 =>
              refine GdOp.plain rfl (fun A vs w' hF hT hb hd => ?_)
              have e1 : A.eval (.tmp 5) = .int .i64 k := hF 5 rfl
              exact BigFrame.wp_move _ rfl ⟨_, rfl, e1, Below.refl _ _⟩
            case o2 =>
              refine GdOp.plain rfl (fun A vs w' hF hT hb hd => ?_)
              have e1 : A.eval (.tmp 17) = .slice (some ⟨b, off, none⟩) l.length c := (hT 17 0 (by simp) rfl).trans (hd ⟨0, .data⟩ (by simp) rfl)
              have e2 : A.eval (.tmp 18) = .int .i64 k := (hT 18 1 (by simp) rfl).trans (hd ⟨1, .data⟩ (by simp) rfl)
              exact wp_ixN (e := 61) rfl (by kernel_rfl) (by kernel_rfl) (e1) (e2) rfl (by omega) ⟨_, rfl, rfl, Below.refl _ _⟩
            case o3 =>
              refine GdOp.plain rfl (fun A vs w' hF hT hb hd => ?_)
              have e1 : A.eval (.tmp 19) = .pointer (some ⟨b, off + k * 3, none⟩) := (hT 19 2 (by simp) rfl).trans (hd ⟨2, .data⟩ (by simp) rfl)
              exact wp_fieldN verS rfl (e1) (by omega) ⟨_, rfl, rfl, Below.refl _ _⟩
            case o4 =>
              refine GdOp.plain rfl (fun A vs w' hF hT hb hd => ?_)
              have e1 : A.eval (.tmp 20) = .pointer (some ⟨b, off + k * 3, none⟩) := (hT 20 3 (by simp) rfl).trans (hd ⟨3, .data⟩ (by simp) rfl)
              exact wp_ld_int (k := .i64) rfl e1 (by kernel_rfl) (((hb.cell (p := ⟨b, off + k * 3, none⟩) (cell_lt c0)).trans c0)) ⟨_, rfl, rfl, Below.refl _ _⟩
            case o5 =>
              refine GdOp.plain rfl (fun A vs w' hF hT hb hd => ?_)
              have e1 : A.eval (.tmp 1) = .slice (some ⟨b', off', none⟩) m.length c' := hF 1 rfl
              exact BigFrame.wp_move _ rfl ⟨_, rfl, e1, Below.refl _ _⟩
            case o6 =>
              refine GdOp.plain rfl (fun A vs w' hF hT hb hd => ?_)
              have e1 : A.eval (.tmp 5) = .int .i64 k := hF 5 rfl
              exact BigFrame.wp_move _ rfl ⟨_, rfl, e1, Below.refl _ _⟩
            case o7 =>
              refine GdOp.plain rfl (fun A vs w' hF hT hb hd => ?_)
              have e1 : A.eval (.tmp 22) = .slice (some ⟨b', off', none⟩) m.length c' := (hT 22 5 (by simp) rfl).trans (hd ⟨5, .data⟩ (by simp) rfl)
              have e2 : A.eval (.tmp 23) = .int .i64 k := (hT 23 6 (by simp) rfl).trans (hd ⟨6, .data⟩ (by simp) rfl)
              exact wp_ixN (e := 61) rfl (by kernel_rfl) (by kernel_rfl) (e1) (e2) rfl (by omega) ⟨_, rfl, rfl, Below.refl _ _⟩
            case o8 =>
              refine GdOp.plain rfl (fun A vs w' hF hT hb hd => ?_)
              have e1 : A.eval (.tmp 24) = .pointer (some ⟨b', off' + k * 3, none⟩) := (hT 24 7 (by simp) rfl).trans (hd ⟨7, .data⟩ (by simp) rfl)
              exact wp_fieldN verS rfl (e1) (by omega) ⟨_, rfl, rfl, Below.refl _ _⟩
            case o9 =>
              refine GdOp.plain rfl (fun A vs w' hF hT hb hd => ?_)
              have e1 : A.eval (.tmp 25) = .pointer (some ⟨b', off' + k * 3, none⟩) := (hT 25 8 (by simp) rfl).trans (hd ⟨8, .data⟩ (by simp) rfl)
              exact wp_ld_int (k := .i64) rfl e1 (by kernel_rfl) (((hb.cell (p := ⟨b', off' + k * 3, none⟩) (cell_lt c0')).trans c0')) ⟨_, rfl, rfl, Below.refl _ _⟩
            case o10 =>
              refine GdOp.plain rfl (fun A vs w' hF hT hb hd => ?_)
              have e1 : A.eval (.tmp 21) = .int .i64 x.stamp := (hT 21 4 (by simp) rfl).trans (hd ⟨4, .data⟩ (by simp) rfl)
              have e2 : A.eval (.tmp 26) = .int .i64 y.stamp := (hT 26 9 (by simp) rfl).trans (hd ⟨9, .data⟩ (by simp) rfl)
              exact wp_neqI rfl e1 e2 ⟨_, rfl, congrArg Value.bool (by simp [h1]), Below.refl _ _⟩
            case o11 =>
              refine GdOp.plain rfl (fun A vs w' hF hT hb hd => ?_)
              have e1 : A.eval (.tmp 27) = .bool false := (hT 27 10 (by simp) rfl).trans (hd ⟨10, .data⟩ (by simp) rfl)
              exact BigFrame.wp_move _ rfl ⟨_, rfl, e1, Below.refl _ _⟩
            case o12 =>
              refine GdOp.taken rfl ⟨_, _, rfl, rfl, by simp⟩ (by kernel_rfl) (fun w v h => h) (fun A vs w' hF hT hb hd => ?_)
              have e1 : A.eval (.tmp 0) = .slice (some ⟨b, off, none⟩) l.length c := hF 0 rfl
              exact BigFrame.wp_move _ rfl ⟨_, rfl, e1, Below.refl _ _⟩
            case o13 =>
              refine GdOp.taken rfl ⟨_, _, rfl, rfl, by simp⟩ (by kernel_rfl) (fun w v h => h) (fun A vs w' hF hT hb hd => ?_)
              have e1 : A.eval (.tmp 5) = .int .i64 k := hF 5 rfl
              exact BigFrame.wp_move _ rfl ⟨_, rfl, e1, Below.refl _ _⟩
            case o14 =>
              refine GdOp.taken rfl ⟨_, _, rfl, rfl, by simp⟩ (by kernel_rfl) (fun w v h => h) (fun A vs w' hF hT hb hd => ?_)
              have e1 : A.eval (.tmp 29) = .slice (some ⟨b, off, none⟩) l.length c := (hT 29 12 (by simp) rfl).trans (hd ⟨12, .data⟩ (by simp) rfl)
              have e2 : A.eval (.tmp 30) = .int .i64 k := (hT 30 13 (by simp) rfl).trans (hd ⟨13, .data⟩ (by simp) rfl)
              exact wp_ixN (e := 61) rfl (by kernel_rfl) (by kernel_rfl) (e1) (e2) rfl (by omega) ⟨_, rfl, rfl, Below.refl _ _⟩
            case o15 =>
              refine GdOp.taken rfl ⟨_, _, rfl, rfl, by simp⟩ (by kernel_rfl) (fun w v h => h) (fun A vs w' hF hT hb hd => ?_)
              have e1 : A.eval (.tmp 31) = .pointer (some ⟨b, off + k * 3, none⟩) := (hT 31 14 (by simp) rfl).trans (hd ⟨14, .data⟩ (by simp) rfl)
              exact wp_fieldN verS rfl (e1) (by omega) ⟨_, rfl, rfl, Below.refl _ _⟩
            case o16 =>
              refine GdOp.taken rfl ⟨_, _, rfl, rfl, by simp⟩ (by kernel_rfl) (fun w v h => h) (fun A vs w' hF hT hb hd => ?_)
              have e1 : A.eval (.tmp 32) = .pointer (some ⟨b, off + k * 3 + 1, none⟩) := (hT 32 15 (by simp) rfl).trans (hd ⟨15, .data⟩ (by simp) rfl)
              exact wp_ld_bool  rfl e1 (by kernel_rfl) (((hb.cell (p := ⟨b, off + k * 3 + 1, none⟩) (cell_lt c1)).trans c1)) ⟨_, rfl, rfl, Below.refl _ _⟩
            case o17 =>
              refine GdOp.taken rfl ⟨_, _, rfl, rfl, by simp⟩ (by kernel_rfl) (fun w v h => h) (fun A vs w' hF hT hb hd => ?_)
              have e1 : A.eval (.tmp 1) = .slice (some ⟨b', off', none⟩) m.length c' := hF 1 rfl
              exact BigFrame.wp_move _ rfl ⟨_, rfl, e1, Below.refl _ _⟩
            case o18 =>
              refine GdOp.taken rfl ⟨_, _, rfl, rfl, by simp⟩ (by kernel_rfl) (fun w v h => h) (fun A vs w' hF hT hb hd => ?_)
              have e1 : A.eval (.tmp 5) = .int .i64 k := hF 5 rfl
              exact BigFrame.wp_move _ rfl ⟨_, rfl, e1, Below.refl _ _⟩
            case o19 =>
              refine GdOp.taken rfl ⟨_, _, rfl, rfl, by simp⟩ (by kernel_rfl) (fun w v h => h) (fun A vs w' hF hT hb hd => ?_)
              have e1 : A.eval (.tmp 34) = .slice (some ⟨b', off', none⟩) m.length c' := (hT 34 17 (by simp) rfl).trans (hd ⟨17, .data⟩ (by simp) rfl)
              have e2 : A.eval (.tmp 35) = .int .i64 k := (hT 35 18 (by simp) rfl).trans (hd ⟨18, .data⟩ (by simp) rfl)
              exact wp_ixN (e := 61) rfl (by kernel_rfl) (by kernel_rfl) (e1) (e2) rfl (by omega) ⟨_, rfl, rfl, Below.refl _ _⟩
            case o20 =>
              refine GdOp.taken rfl ⟨_, _, rfl, rfl, by simp⟩ (by kernel_rfl) (fun w v h => h) (fun A vs w' hF hT hb hd => ?_)
              have e1 : A.eval (.tmp 36) = .pointer (some ⟨b', off' + k * 3, none⟩) := (hT 36 19 (by simp) rfl).trans (hd ⟨19, .data⟩ (by simp) rfl)
              exact wp_fieldN verS rfl (e1) (by omega) ⟨_, rfl, rfl, Below.refl _ _⟩
            case o21 =>
              refine GdOp.taken rfl ⟨_, _, rfl, rfl, by simp⟩ (by kernel_rfl) (fun w v h => h) (fun A vs w' hF hT hb hd => ?_)
              have e1 : A.eval (.tmp 37) = .pointer (some ⟨b', off' + k * 3 + 1, none⟩) := (hT 37 20 (by simp) rfl).trans (hd ⟨20, .data⟩ (by simp) rfl)
              exact wp_ld_bool  rfl e1 (by kernel_rfl) (((hb.cell (p := ⟨b', off' + k * 3 + 1, none⟩) (cell_lt c1')).trans c1')) ⟨_, rfl, rfl, Below.refl _ _⟩
            case o22 =>
              refine GdOp.taken rfl ⟨_, _, rfl, rfl, by simp⟩ (by kernel_rfl) (fun w v h => h) (fun A vs w' hF hT hb hd => ?_)
              have e1 : A.eval (.tmp 33) = .bool x.gone := (hT 33 16 (by simp) rfl).trans (hd ⟨16, .data⟩ (by simp) rfl)
              have e2 : A.eval (.tmp 38) = .bool y.gone := (hT 38 21 (by simp) rfl).trans (hd ⟨21, .data⟩ (by simp) rfl)
              exact wp_neqB (by kernel_rfl) rfl e1 e2 ⟨_, rfl, congrArg Value.bool (by simp [h2]), Below.refl _ _⟩
            case o23 =>
              refine GdOp.plain rfl (fun A vs w' hF hT hb hd => ?_)
              have e1 : A.eval (.tmp 28) = .bool false := (hT 28 11 (by simp) rfl).trans (hd ⟨11, .data⟩ (by simp) rfl)
              have e3 : A.eval (.tmp 39) = .bool true := (hT 39 22 (by simp) rfl).trans (hd ⟨22, .data⟩ (by simp) rfl)
              exact wp_pk rfl e1 (by simp) (fun _ => e3) ⟨_, rfl, rfl, Below.refl _ _⟩
            case o24 =>
              refine GdOp.plain rfl (fun A vs w' hF hT hb hd => ?_)
              have e1 : A.eval (.tmp 40) = .bool true := (hT 40 23 (by simp) rfl).trans (hd ⟨23, .data⟩ (by simp) rfl)
              exact BigFrame.wp_move _ rfl ⟨_, rfl, e1, Below.refl _ _⟩
            case o25 =>
              exact GdOp.left rfl ⟨_, _, rfl, rfl, by simp⟩ (by kernel_rfl) (fun w v h => .inl h) (fun w => rfl)
            case o26 =>
              exact GdOp.left rfl ⟨_, _, rfl, rfl, by simp⟩ (by kernel_rfl) (fun w v h => .inl h) (fun w => rfl)
            case o27 =>
              exact GdOp.left rfl ⟨_, _, rfl, rfl, by simp⟩ (by kernel_rfl) (fun w v h => .inl h) (fun w => rfl)
            case o28 =>
              exact GdOp.left rfl ⟨_, _, rfl, rfl, by simp⟩ (by kernel_rfl) (fun w v h => .inl h) (fun w => rfl)
            case o29 =>
              exact GdOp.left rfl ⟨_, _, rfl, rfl, by simp⟩ (by kernel_rfl) (fun w v h => .inl h) (fun w => rfl)
            case o30 =>
              exact GdOp.left rfl ⟨_, _, rfl, rfl, by simp⟩ (by kernel_rfl) (fun w v h => .inl h) (fun w => rfl)
            case o31 =>
              exact GdOp.left rfl ⟨_, _, rfl, rfl, by simp⟩ (by kernel_rfl) (fun w v h => .inl h) (fun w => rfl)
            case o32 =>
              exact GdOp.left rfl ⟨_, _, rfl, rfl, by simp⟩ (by kernel_rfl) (fun w v h => .inl h) (fun w => rfl)
            case o33 =>
              exact GdOp.left rfl ⟨_, _, rfl, rfl, by simp⟩ (by kernel_rfl) (fun w v h => .inl h) (fun w => rfl)
            case o34 =>
              exact GdOp.left rfl ⟨_, _, rfl, rfl, by simp⟩ (by kernel_rfl) (fun w v h => .inl h) (fun w => rfl)
            case o35 =>
              exact GdOp.left rfl ⟨_, _, rfl, rfl, by simp⟩ (by kernel_rfl) (fun w v h => .inl h) (fun w => rfl)
            case o36 =>
              exact GdOp.left rfl ⟨_, _, rfl, rfl, by simp⟩ (by kernel_rfl) (fun w v h => .inl h) (fun w => rfl)
            case o37 =>
              exact GdOp.left rfl ⟨_, _, rfl, rfl, by simp⟩ (by kernel_rfl) (fun w v h => .inl h) (fun w => rfl)
            case o38 =>
              refine GdOp.plain rfl (fun A vs w' hF hT hb hd => ?_)
              have e1 : A.eval (.tmp 41) = .bool true := (hT 41 24 (by simp) rfl).trans (hd ⟨24, .data⟩ (by simp) rfl)
              have e3 : A.eval (.tmp 54) = undef := (hT 54 37 (by simp) rfl).trans (hd ⟨37, .data⟩ (by simp) rfl)
              exact wp_pk rfl e1 (fun _ => rfl) (by simp) ⟨_, rfl, rfl, Below.refl _ _⟩
            case fin =>
              intro vs w' hb hG
              have e38 : vs 38 = .bool true := hG 38 (by decide)
              simp only [putAll, e38]
              clear hG e38
              have q2 := q.trans (hb.mono q.size)
              clear hb q
              go_simp
              go_wp2_with fail
              go_ret
              exact ⟨by rw [H.out]; rfl, q2⟩
        · have H := Lib.hid (hne (fun e => h1 (by rw [e])))
          clear hne hsn
          refine wp_region_gsg (by kernel_rfl) (by kernel_rfl) [sgEq (.slice (some ⟨b, off, none⟩) l.length c), sgEq (.int .i64 k), sgEq (.pointer (some ⟨b, off + k * 3, none⟩)), sgEq (.pointer (some ⟨b, off + k * 3, none⟩)), sgEq (.int .i64 x.stamp), sgEq (.slice (some ⟨b', off', none⟩) m.length c'), sgEq (.int .i64 k), sgEq (.pointer (some ⟨b', off' + k * 3, none⟩)), sgEq (.pointer (some ⟨b', off' + k * 3, none⟩)), sgEq (.int .i64 y.stamp), sgEq (.bool true), sgEq (.bool true), sgEq undef, sgEq undef, sgEq undef, sgEq undef, sgEq undef, sgEq undef, sgEq undef, sgEq undef, sgEq undef, sgEq undef, sgEq undef, sgEq (.bool true), sgEq (.bool true), sgEq undef, sgEq undef, sgEq undef, sgEq undef, sgEq undef, sgEq undef, sgEq undef, sgEq undef, sgEq undef, sgEq undef, sgEq undef, sgEq undef, sgEq undef, sgEq (.bool true)]
            ⟨?o0, ?o1, ?o2, ?o3, ?o4, ?o5, ?o6, ?o7, ?o8, ?o9, ?o10, ?o11, ?o12, ?o13, ?o14, ?o15, ?o16, ?o17, ?o18, ?o19, ?o20, ?o21, ?o22, ?o23, ?o24, ?o25, ?o26, ?o27, ?o28, ?o29, ?o30, ?o31, ?o32, ?o33, ?o34, ?o35, ?o36, ?o37, ?o38, trivial⟩ ?fin
          case o0 =>
            refine GdOp.plain rfl (fun A vs w' hF hT hb hd => ?_)
            have e1 : A.eval (.tmp 0) = .slice (some ⟨b, off, none⟩) l.length c := hF 0 rfl
            exact BigFrame.wp_move _ rfl ⟨_, rfl, e1, Below.refl _ _⟩
          case o1 =>
            refine GdOp.plain rfl (fun A vs w' hF hT hb hd => ?_)
            have e1 : A.eval (.tmp 5) = .int .i64 k := hF 5 rfl
            exact BigFrame.wp_move _ rfl ⟨_, rfl, e1, Below.refl _ _⟩
          case o2 =>
            refine GdOp.plain rfl (fun A vs w' hF hT hb hd => ?_)
            have e1 : A.eval (.tmp 17) = .slice (some ⟨b, off, none⟩) l.length c := (hT 17 0 (by simp) rfl).trans (hd ⟨0, .data⟩ (by simp) rfl)
            have e2 : A.eval (.tmp 18) = .int .i64 k := (hT 18 1 (by simp) rfl).trans (hd ⟨1, .data⟩ (by simp) rfl)
            exact wp_ixN (e := 61) rfl (by kernel_rfl) (by kernel_rfl) (e1) (e2) rfl (by omega) ⟨_, rfl, rfl, Below.refl _ _⟩
          case o3 =>
            refine GdOp.plain rfl (fun A vs w' hF hT hb hd => ?_)
            have e1 : A.eval (.tmp 19) = .pointer (some ⟨b, off + k * 3, none⟩) := (hT 19 2 (by simp) rfl).trans (hd ⟨2, .data⟩ (by simp) rfl)
            exact wp_fieldN verS rfl (e1) (by omega) ⟨_, rfl, rfl, Below.refl _ _⟩
          case o4 =>
            refine GdOp.plain rfl (fun A vs w' hF hT hb hd => ?_)
            have e1 : A.eval (.tmp 20) = .pointer (some ⟨b, off + k * 3, none⟩) := (hT 20 3 (by simp) rfl).trans (hd ⟨3, .data⟩ (by simp) rfl)
            exact wp_ld_int (k := .i64) rfl e1 (by kernel_rfl) (((hb.cell (p := ⟨b, off + k * 3, none⟩) (cell_lt c0)).trans c0)) ⟨_, rfl, rfl, Below.refl _ _⟩
          case o5 =>
            refine GdOp.plain rfl (fun A vs w' hF hT hb hd => ?_)
            have e1 : A.eval (.tmp 1) = .slice (some ⟨b', off', none⟩) m.length c' := hF 1 rfl
            exact BigFrame.wp_move _ rfl ⟨_, rfl, e1, Below.refl _ _⟩
          case o6 =>
            refine GdOp.plain rfl (fun A vs w' hF hT hb hd => ?_)
            have e1 : A.eval (.tmp 5) = .int .i64 k := hF 5 rfl
            exact BigFrame.wp_move _ rfl ⟨_, rfl, e1, Below.refl _ _⟩
          case o7 =>
            refine GdOp.plain rfl (fun A vs w' hF hT hb hd => ?_)
            have e1 : A.eval (.tmp 22) = .slice (some ⟨b', off', none⟩) m.length c' := (hT 22 5 (by simp) rfl).trans (hd ⟨5, .data⟩ (by simp) rfl)
            have e2 : A.eval (.tmp 23) = .int .i64 k := (hT 23 6 (by simp) rfl).trans (hd ⟨6, .data⟩ (by simp) rfl)
            exact wp_ixN (e := 61) rfl (by kernel_rfl) (by kernel_rfl) (e1) (e2) rfl (by omega) ⟨_, rfl, rfl, Below.refl _ _⟩
          case o8 =>
            refine GdOp.plain rfl (fun A vs w' hF hT hb hd => ?_)
            have e1 : A.eval (.tmp 24) = .pointer (some ⟨b', off' + k * 3, none⟩) := (hT 24 7 (by simp) rfl).trans (hd ⟨7, .data⟩ (by simp) rfl)
            exact wp_fieldN verS rfl (e1) (by omega) ⟨_, rfl, rfl, Below.refl _ _⟩
          case o9 =>
            refine GdOp.plain rfl (fun A vs w' hF hT hb hd => ?_)
            have e1 : A.eval (.tmp 25) = .pointer (some ⟨b', off' + k * 3, none⟩) := (hT 25 8 (by simp) rfl).trans (hd ⟨8, .data⟩ (by simp) rfl)
            exact wp_ld_int (k := .i64) rfl e1 (by kernel_rfl) (((hb.cell (p := ⟨b', off' + k * 3, none⟩) (cell_lt c0')).trans c0')) ⟨_, rfl, rfl, Below.refl _ _⟩
          case o10 =>
            refine GdOp.plain rfl (fun A vs w' hF hT hb hd => ?_)
            have e1 : A.eval (.tmp 21) = .int .i64 x.stamp := (hT 21 4 (by simp) rfl).trans (hd ⟨4, .data⟩ (by simp) rfl)
            have e2 : A.eval (.tmp 26) = .int .i64 y.stamp := (hT 26 9 (by simp) rfl).trans (hd ⟨9, .data⟩ (by simp) rfl)
            exact wp_neqI rfl e1 e2 ⟨_, rfl, congrArg Value.bool (by simp [h1]), Below.refl _ _⟩
          case o11 =>
            refine GdOp.plain rfl (fun A vs w' hF hT hb hd => ?_)
            have e1 : A.eval (.tmp 27) = .bool true := (hT 27 10 (by simp) rfl).trans (hd ⟨10, .data⟩ (by simp) rfl)
            exact BigFrame.wp_move _ rfl ⟨_, rfl, e1, Below.refl _ _⟩
          case o12 =>
            exact GdOp.left rfl ⟨_, _, rfl, rfl, by simp⟩ (by kernel_rfl) (fun w v h => .inl h) (fun w => rfl)
          case o13 =>
            exact GdOp.left rfl ⟨_, _, rfl, rfl, by simp⟩ (by kernel_rfl) (fun w v h => .inl h) (fun w => rfl)
          case o14 =>
            exact GdOp.left rfl ⟨_, _, rfl, rfl, by simp⟩ (by kernel_rfl) (fun w v h => .inl h) (fun w => rfl)
          case o15 =>
            exact GdOp.left rfl ⟨_, _, rfl, rfl, by simp⟩ (by kernel_rfl) (fun w v h => .inl h) (fun w => rfl)
          case o16 =>
            exact GdOp.left rfl ⟨_, _, rfl, rfl, by simp⟩ (by kernel_rfl) (fun w v h => .inl h) (fun w => rfl)
          case o17 =>
            exact GdOp.left rfl ⟨_, _, rfl, rfl, by simp⟩ (by kernel_rfl) (fun w v h => .inl h) (fun w => rfl)
          case o18 =>
            exact GdOp.left rfl ⟨_, _, rfl, rfl, by simp⟩ (by kernel_rfl) (fun w v h => .inl h) (fun w => rfl)
          case o19 =>
            exact GdOp.left rfl ⟨_, _, rfl, rfl, by simp⟩ (by kernel_rfl) (fun w v h => .inl h) (fun w => rfl)
          case o20 =>
            exact GdOp.left rfl ⟨_, _, rfl, rfl, by simp⟩ (by kernel_rfl) (fun w v h => .inl h) (fun w => rfl)
          case o21 =>
            exact GdOp.left rfl ⟨_, _, rfl, rfl, by simp⟩ (by kernel_rfl) (fun w v h => .inl h) (fun w => rfl)
          case o22 =>
            exact GdOp.left rfl ⟨_, _, rfl, rfl, by simp⟩ (by kernel_rfl) (fun w v h => .inl h) (fun w => rfl)
          case o23 =>
            refine GdOp.plain rfl (fun A vs w' hF hT hb hd => ?_)
            have e1 : A.eval (.tmp 28) = .bool true := (hT 28 11 (by simp) rfl).trans (hd ⟨11, .data⟩ (by simp) rfl)
            have e3 : A.eval (.tmp 39) = undef := (hT 39 22 (by simp) rfl).trans (hd ⟨22, .data⟩ (by simp) rfl)
            exact wp_pk rfl e1 (fun _ => rfl) (by simp) ⟨_, rfl, rfl, Below.refl _ _⟩
          case o24 =>
            refine GdOp.plain rfl (fun A vs w' hF hT hb hd => ?_)
            have e1 : A.eval (.tmp 40) = .bool true := (hT 40 23 (by simp) rfl).trans (hd ⟨23, .data⟩ (by simp) rfl)
            exact BigFrame.wp_move _ rfl ⟨_, rfl, e1, Below.refl _ _⟩
          case o25 =>
            exact GdOp.left rfl ⟨_, _, rfl, rfl, by simp⟩ (by kernel_rfl) (fun w v h => .inl h) (fun w => rfl)
          case o26 =>
            exact GdOp.left rfl ⟨_, _, rfl, rfl, by simp⟩ (by kernel_rfl) (fun w v h => .inl h) (fun w => rfl)
          case o27 =>
            exact GdOp.left rfl ⟨_, _, rfl, rfl, by simp⟩ (by kernel_rfl) (fun w v h => .inl h) (fun w => rfl)
          case o28 =>
            exact GdOp.left rfl ⟨_, _, rfl, rfl, by simp⟩ (by kernel_rfl) (fun w v h => .inl h) (fun w => rfl)
          case o29 =>
            exact GdOp.left rfl ⟨_, _, rfl, rfl, by simp⟩ (by kernel_rfl) (fun w v h => .inl h) (fun w => rfl)
          case o30 =>
            exact GdOp.left rfl ⟨_, _, rfl, rfl, by simp⟩ (by kernel_rfl) (fun w v h => .inl h) (fun w => rfl)
          case o31 =>
            exact GdOp.left rfl ⟨_, _, rfl, rfl, by simp⟩ (by kernel_rfl) (fun w v h => .inl h) (fun w => rfl)
          case o32 =>
            exact GdOp.left rfl ⟨_, _, rfl, rfl, by simp⟩ (by kernel_rfl) (fun w v h => .inl h) (fun w => rfl)
          case o33 =>
            exact GdOp.left rfl ⟨_, _, rfl, rfl, by simp⟩ (by kernel_rfl) (fun w v h => .inl h) (fun w => rfl)
          case o34 =>
            exact GdOp.left rfl ⟨_, _, rfl, rfl, by simp⟩ (by kernel_rfl) (fun w v h => .inl h) (fun w => rfl)
          case o35 =>
            exact GdOp.left rfl ⟨_, _, rfl, rfl, by simp⟩ (by kernel_rfl) (fun w v h => .inl h) (fun w => rfl)
          case o36 =>
            exact GdOp.left rfl ⟨_, _, rfl, rfl, by simp⟩ (by kernel_rfl) (fun w v h => .inl h) (fun w => rfl)
          case o37 =>
            exact GdOp.left rfl ⟨_, _, rfl, rfl, by simp⟩ (by kernel_rfl) (fun w v h => .inl h) (fun w => rfl)
          case o38 =>
            refine GdOp.plain rfl (fun A vs w' hF hT hb hd => ?_)
            have e1 : A.eval (.tmp 41) = .bool true := (hT 41 24 (by simp) rfl).trans (hd ⟨24, .data⟩ (by simp) rfl)
            have e3 : A.eval (.tmp 54) = undef := (hT 54 37 (by simp) rfl).trans (hd ⟨37, .data⟩ (by simp) rfl)
            exact wp_pk rfl e1 (fun _ => rfl) (by simp) ⟨_, rfl, rfl, Below.refl _ _⟩
          case fin =>
            intro vs w' hb hG
            have e38 : vs 38 = .bool true := hG 38 (by decide)
            simp only [putAll, e38]
            clear hG e38
            have q2 := q.trans (hb.mono q.size)
            clear hb q
            go_simp
            go_wp2_with fail
            go_ret
            exact ⟨by rw [H.out]; rfl, q2⟩
      · obtain rfl : k = l.length := by omega
        have H := Lib.hid (show decide (l = m) = true from decide_eq_true (List.ext_getElem HLN.out (fun r h1 h2 => by have := hsm r h1 h1; rw [List.getElem?_eq_getElem h2] at this; injection this with this; exact this.symm)))
        clear hsm
        go_wp2_with fail
        go_ret
        exact ⟨by rw [H.out]; rfl, q⟩
  · have d : ((l.length : Int) != (m.length : Int)) = true := by rw [bne_iff_ne]; omega
    have H := Lib.hid (show decide (l = m) = false from decide_eq_false (fun e => hln (by rw [e])))
    clear hln
    go_enter Try.func21, Try.ntmps21
    go_wp2_with fail
    go_ret
    exact ⟨by rw [H.out]; rfl, q⟩
end Go.Proofs.Ytdegjkfjaklkjaa
