/-
  TEXTS OF ONE PROOF, merged: WaC, LkJ, LkK, Bri.
-/
import Derived.OrdersIn
import Derived.RangeFuncCalls
import Derived.TacticsIn
import Derived.Test.YtpdnehgboafgpaaDoorKw7
namespace Go.Proofs.YtpdnehgboafgpaaDoor
open Go.RowKit Go.Shelf
def m16 (W : Nat → Nat → Bool) : List Value := [.bool (W 0 0), .bool (W 0 1), .bool (W 0 2), .bool (W 0 3), .bool (W 1 0), .bool (W 1 1), .bool (W 1 2), .bool (W 1 3), .bool (W 2 0), .bool (W 2 1), .bool (W 2 2), .bool (W 2 3), .bool (W 3 0), .bool (W 3 1), .bool (W 3 2), .bool (W 3 3)]
theorem m16_len (W : Nat → Nat → Bool) : (m16 W).length = 16 := rfl
theorem m16_at (W : Nat → Nat → Bool) {i j : Nat} (hi : i < 4) (hj : j < 4) : (m16 W)[4 * i + j]? = some (.bool (W i j)) := by
  rcases i with _ | _ | _ | _ | i
  all_goals first | omega | (rcases j with _ | _ | _ | _ | j)
  all_goals first | rfl | omega
theorem m16_set {W : Nat → Nat → Bool} {i j : Nat} {v : Bool} (hi : i < 4) (hj : j < 4) : (m16 W).set (4 * i + j) (.bool v) = m16 fun a b => if a = i ∧ b = j then v else W a b := by
  rcases i with _ | _ | _ | _ | i
  all_goals first | omega | (rcases j with _ | _ | _ | _ | j)
  all_goals first | omega | (simp [m16])
theorem adj_skip {E : List Ed} {x y : Int} (h : ¬ ((0 ≤ x ∧ x < 4) ∧ (0 ≤ y ∧ y < 4))) : adjE (E ++ [(x, y)]) = adjE E := by
  funext a b
  rw [Bool.eq_iff_iff, adj_iff, adj_iff]
  constructor
  · rintro ⟨ha, hb, h1⟩
    rcases List.mem_append.1 h1 with h1 | h1
    · exact ⟨ha, hb, h1⟩
    · exfalso
      have e : ((a : Int), (b : Int)) = (x, y) := by simpa using h1
      injection e with e1 e2
      omega
  · rintro ⟨ha, hb, h1⟩
    exact ⟨ha, hb, List.mem_append_left _ h1⟩
theorem adj_more {E : List Ed} {i j : Nat} (hi : i < 4) (hj : j < 4) : adjE (E ++ [((i : Int), (j : Int))]) = fun a b => if a = i ∧ b = j then true else adjE E a b := by
  funext a b
  rw [Bool.eq_iff_iff, adj_iff]
  split
  · rename_i h
    obtain ⟨rfl, rfl⟩ := h
    simp [hi, hj]
  · rename_i h
    rw [adj_iff]
    constructor
    · rintro ⟨ha, hb, h1⟩
      rcases List.mem_append.1 h1 with h1 | h1
      · exact ⟨ha, hb, h1⟩
      · exfalso
        have e : ((a : Int), (b : Int)) = ((i : Int), (j : Int)) := by simpa using h1
        injection e with e1 e2
        omega
    · rintro ⟨ha, hb, h1⟩
      exact ⟨ha, hb, List.mem_append_left _ h1⟩
theorem runT_at {W : Nat → Nat → Bool} {o i j : Nat} (hi : i < 4) (hj : j < 4) : runT W (16 * o + 4 * i + (j + 1)) = cellS (runT W (16 * o + 4 * i + j)) o i j := by
  show cellS (runT W (16 * o + 4 * i + j)) ((16 * o + 4 * i + j) / 16) ((16 * o + 4 * i + j) / 4 % 4) ((16 * o + 4 * i + j) % 4) = _
  rw [show (16 * o + 4 * i + j) / 16 = o by omega, show (16 * o + 4 * i + j) / 4 % 4 = i by omega, show (16 * o + 4 * i + j) % 4 = j by omega]
def sgBox (b : Nat) (t : TypeId) (us : List Value) : SG := ⟨fun w v => v = undef ∧ BoxN w b t us, fun _ _ _ ⟨h, h1⟩ hb => ⟨h, h1.below hb h1.lt⟩⟩
set_option maxRecDepth 100000 in
set_option maxHeartbeats 4000000 in
theorem along_any (w : World) {S : Nat → Prop} {a : Option Addr} {n c : Nat} {E : List Ed} (h : RdL Elt.ed S w (.slice a n c) E) :
    Calls Tryd.prog 52 #[.slice a n c] w fun e w' => e = .returned (.agg #[.bool (reachE E 4 0 0), .bool (reachE E 4 0 1), .bool (reachE E 4 0 2), .bool (reachE E 4 0 3), .bool (reachE E 4 1 0), .bool (reachE E 4 1 1), .bool (reachE E 4 1 2), .bool (reachE E 4 1 3), .bool (reachE E 4 2 0), .bool (reachE E 4 2 1), .bool (reachE E 4 2 2), .bool (reachE E 4 2 3), .bool (reachE E 4 3 0), .bool (reachE E 4 3 1), .bool (reachE E 4 3 2), .bool (reachE E 4 3 3)]) ∧ Below w.heap.size w w' := by
  have hl1 : E.length ≤ 9223372036854775807 := by obtain ⟨_, hc, hm⟩ := h.len; unfold maxLen at hm; omega
  have hnl := h.len.1
  subst hnl
  have q := Below.refl w.heap.size w
  obtain ⟨z16, hz16⟩ : ∃ z, z = m16 (adjE []) := ⟨_, rfl⟩
  have hzz : m16 (adjE []) = [.bool false, .bool false, .bool false, .bool false, .bool false, .bool false, .bool false, .bool false, .bool false, .bool false, .bool false, .bool false, .bool false, .bool false, .bool false, .bool false] := by simp [m16, adjE]
  go_enter Tryd.func52, Tryd.ntmps52
  go_upto_region 1 with (first | (refine wpList_boxNew (vs := [.bool false, .bool false, .bool false, .bool false, .bool false, .bool false, .bool false, .bool false, .bool false, .bool false, .bool false, .bool false, .bool false, .bool false, .bool false, .bool false]) (by kernel_rfl) rfl rfl ?_; intro wa hba Br) | fail)
  go_upto_region 3 with (first | (refine wpList_boxNew (vs := [.bool false, .bool false, .bool false, .bool false, .bool false, .bool false, .bool false, .bool false, .bool false, .bool false, .bool false, .bool false, .bool false, .bool false, .bool false, .bool false]) (by kernel_rfl) rfl rfl ?_; intro wb hbb Bw) | fail)
  have zb := Br.lt
  replace Br := Br.below hbb zb
  have hlt0 : w.heap.size < wa.heap.size := zb
  replace q := (q.trans (hba.mono q.size)).trans (hbb.mono hba.size)
  obtain ⟨b1, eb1⟩ : ∃ b, b = w.heap.size := ⟨_, rfl⟩
  obtain ⟨b2, eb2⟩ : ∃ b, b = wa.heap.size := ⟨_, rfl⟩
  rw [← eb1] at Br
  rw [← eb2] at Bw
  have hne : b1 ≠ b2 := by omega
  have hb1 : w.heap.size ≤ b1 := by omega
  have hb2 : w.heap.size ≤ b2 := by omega
  rw [← hzz] at Br Bw
  rw [← hz16] at Br
  rw [← eb1, ← eb2]
  clear eb1 eb2 hba hbb zb hlt0 hzz
  replace hz16 := Lib.hid hz16
  go_loopw [11] (fun iv wr => ∃ k : Nat, iv = .int .i64 (k : Int) ∧ k ≤ E.length ∧ BoxN wr b1 79 z16 ∧ BoxN wr b2 79 (m16 (adjE (E.take k))) ∧ Below w.heap.size w wr) (fun iv _ => E.length - (intOf iv).toNat)
  case atStart => exact ⟨0, rfl, Nat.zero_le _, Br, by rw [List.take_zero]; exact Bw, q⟩
  case round =>
  clear Br Bw q
  obtain ⟨k, rfl, hkl, Br, Bw, q⟩ := hrel
  rcases Nat.lt_or_ge k E.length with hlt | hge
  · obtain ⟨b, off, rfl, _, c0, c1, wx, wy⟩ := (h.below q).ed k hlt
    have hsn := Lib.hid (List.take_succ_eq_append_getElem hlt)
    obtain ⟨⟨x, y⟩, exy⟩ : ∃ e, e = E[k] := ⟨_, rfl⟩
    rw [← exy] at c0 c1 hsn
    clear exy
    replace c0 : wr.cell? ⟨b, off + k * 2, none⟩ = some (.int .i64 x) := c0
    replace c1 : wr.cell? ⟨b, off + k * 2 + 1, none⟩ = some (.int .i64 y) := c1
    obtain ⟨M, eM⟩ : ∃ M, M = adjE (E.take k) := ⟨_, rfl⟩
    rw [← eM] at Bw
    replace eM := Lib.hid eM
    have d0 : decide ((k : Int) < (E.length : Int)) = true := decide_eq_true (by omega)
    go_upto_region 5 with (first | (refine wpList_boxNew (vs := [.int .i64 0, .int .i64 0]) (by kernel_rfl) rfl rfl ?_; intro wa hba hBa) | (refine wpList_boxStore (us := [.int .i64 x, .int .i64 y]) (by kernel_rfl) rfl rfl rfl rfl rfl rfl hBa rfl ?_; intro wc hgw Be) | fail)
    try go_simp
    have hbw := hba.grown hgw hba.size fun k hk => by injection hk with hk; omega
    have hnr : wr.heap.size ≠ b2 := by have := Bw.lt; omega
    have hnr1 : wr.heap.size ≠ b1 := by have := Br.lt; omega
    replace Br := Br.below hbw Br.lt
    replace Bw := Bw.below hbw Bw.lt
    replace q := q.trans (hbw.mono q.size)
    obtain ⟨be, ebe⟩ : ∃ b, b = wr.heap.size := ⟨_, rfl⟩
    rw [← ebe] at Be hnr hnr1
    rw [← ebe]
    clear hbw hgw hba hBa c0 c1 d0 ebe
    have c0 := Be.cell (i := 0) rfl
    have c1 := Be.cell (i := 1) rfl
    have hcl := wMay_any wc x
    go_wp2_with fail
    refine hcl.mono ?_
    rintro e w5 ⟨rfl, hb⟩
    clear hcl c0 c1
    replace Br := Br.below hb Br.lt
    replace Bw := Bw.below hb Bw.lt
    replace Be := Be.below hb Be.lt
    replace q := q.trans (hb.mono q.size)
    clear hb
    have c0 := Be.cell (i := 0) rfl
    have c1 := Be.cell (i := 1) rfl
    by_cases hx : 0 ≤ x ∧ x < 4
    · rw [show (decide (0 ≤ x) && decide (x < 4)) = true by simp [hx]]
      have hcl := wMay_any w5 y
      go_wp2_with fail
      refine hcl.mono ?_
      rintro e w6 ⟨rfl, hb⟩
      clear hcl c0 c1
      replace Br := Br.below hb Br.lt
      replace Bw := Bw.below hb Bw.lt
      replace Be := Be.below hb Be.lt
      replace q := q.trans (hb.mono q.size)
      clear hb
      by_cases hy : 0 ≤ y ∧ y < 4
      · rw [show (decide (0 ≤ y) && decide (y < 4)) = true by simp [hy]]
        obtain ⟨i, rfl, hi⟩ : ∃ i : Nat, x = (i : Int) ∧ i < 4 := ⟨x.toNat, by omega, by omega⟩
        obtain ⟨j, rfl, hj⟩ : ∃ j : Nat, y = (j : Int) ∧ j < 4 := ⟨y.toNat, by omega, by omega⟩
        clear hx hy
        go_upto_region 6 with (fail)
        refine wp_region_sink (by kernel_rfl) (by kernel_rfl) (fun A B => A.grownBy B (some (b2))) 6 (fun i => decide (i < 6)) (by kernel_rfl) (fun A => w6.grownBy A (some (b2))) (fun A h => grownB h _) (fun A => grownB (Below.refl _ _) _) (fun A B h k => grownT h (grownB k _)) (fun A B h k => grownT h k)
          [mEq (.pointer (some ⟨be, 0, none⟩)), mEq (.int .i64 (i : Nat)), mEq (.pointer (some ⟨be, 1, none⟩)), mEq (.int .i64 (j : Nat)), mEq (.pointer (some ⟨b2, 4 * i, none⟩)), mEq (.pointer (some ⟨b2, 4 * i + j, none⟩)), mAny]
          (sgBox b2 79 (m16 fun a b => if a = i ∧ b = j then true else M a b))
          ⟨?o0, ?o1, ?o2, ?o3, ?o4, ?o5, ?o6, trivial⟩ ?fin
        case o0 =>
          refine GdOpM.plain rfl (fun A vs w' hF hT hR h0 hu hd => ?_)
          have e1 : A.eval (.tmp 5) = .pointer (some ⟨be, 0, none⟩) := hF 5 rfl
          exact wp_ixA (e := 3) (n := 2) (sz := 1) (k := 0) (by kernel_rfl) (by kernel_rfl) rfl (e1) rfl rfl (by omega) (by omega) ⟨_, rfl, rfl, Below.refl _ _⟩
        case o1 =>
          refine GdOpM.plain rfl (fun A vs w' hF hT hR h0 hu hd => ?_)
          have hb : Below w6.heap.size w6 w' := h0 (.inl rfl)
          have e1 : A.eval (.tmp 23) = .pointer (some ⟨be, 0, none⟩) := (hT 23 0 (by simp) rfl).trans (hd ⟨0, .data⟩ (by simp) rfl)
          exact wp_ld_int (k := .i64) rfl e1 (by kernel_rfl) ((Be.below hb Be.lt).cell (i := 0) rfl) ⟨_, rfl, rfl, Below.refl _ _⟩
        case o2 =>
          refine GdOpM.plain rfl (fun A vs w' hF hT hR h0 hu hd => ?_)
          have e1 : A.eval (.tmp 5) = .pointer (some ⟨be, 0, none⟩) := hF 5 rfl
          exact wp_ixA (e := 3) (n := 2) (sz := 1) (k := 1) (by kernel_rfl) (by kernel_rfl) rfl (e1) rfl rfl (by omega) (by omega) ⟨_, rfl, rfl, Below.refl _ _⟩
        case o3 =>
          refine GdOpM.plain rfl (fun A vs w' hF hT hR h0 hu hd => ?_)
          have hb : Below w6.heap.size w6 w' := h0 (.inl rfl)
          have e1 : A.eval (.tmp 25) = .pointer (some ⟨be, 1, none⟩) := (hT 25 2 (by simp) rfl).trans (hd ⟨2, .data⟩ (by simp) rfl)
          exact wp_ld_int (k := .i64) rfl e1 (by kernel_rfl) ((Be.below hb Be.lt).cell (i := 1) rfl) ⟨_, rfl, rfl, Below.refl _ _⟩
        case o4 =>
          refine GdOpM.plain rfl (fun A vs w' hF hT hR h0 hu hd => ?_)
          have e1 : A.eval (.tmp 3) = .pointer (some ⟨b2, 0, none⟩) := hF 3 rfl
          have e2 : A.eval (.tmp 24) = .int .i64 (i : Nat) := (hT 24 1 (by simp) rfl).trans (hd ⟨1, .data⟩ (by simp) rfl)
          exact wp_ixA (e := 51) (sz := 4) (by kernel_rfl) (by kernel_rfl) rfl (e1) (e2) rfl hi (by omega) ⟨_, rfl, rfl, Below.refl _ _⟩
        case o5 =>
          refine GdOpM.plain rfl (fun A vs w' hF hT hR h0 hu hd => ?_)
          have e1 : A.eval (.tmp 27) = .pointer (some ⟨b2, 4 * i, none⟩) := (hT 27 4 (by simp) rfl).trans (hd ⟨4, .data⟩ (by simp) rfl)
          have e2 : A.eval (.tmp 26) = .int .i64 (j : Nat) := (hT 26 3 (by simp) rfl).trans (hd ⟨3, .data⟩ (by simp) rfl)
          exact wp_ixA (e := 4) (sz := 1) (by kernel_rfl) (by kernel_rfl) rfl (e1) (e2) rfl hj (by omega) ⟨_, rfl, rfl, Below.refl _ _⟩
        case o6 =>
          refine GdOpM.plain rfl (fun A vs w' hF hT hR h0 hu hd => ?_)
          have hb : Below w6.heap.size w6 w' := h0 (.inr rfl)
          have e1 : A.eval (.tmp 28) = .pointer (some ⟨b2, 4 * i + j, none⟩) := (hT 28 5 (by simp) rfl).trans (hd ⟨5, .data⟩ (by simp) rfl)
          refine wp_boxSet (j := 4 * i + j) (u := .bool true) rfl (by kernel_rfl) e1 rfl rfl rfl (Bw.below hb Bw.lt) (by rw [m16_len]; omega) (fun w2 hg2 hB2 => ⟨_, rfl, ⟨rfl, ?_⟩, hg2⟩)
          rw [m16_set hi hj] at hB2; exact hB2
        case fin =>
        intro vs9 W9 hg9 hG9
        have e0 : vs9 0 = .pointer (some ⟨be, 0, none⟩) := hG9 0 (by decide)
        have e1 : vs9 1 = .int .i64 (i : Nat) := hG9 1 (by decide)
        have e2 : vs9 2 = .pointer (some ⟨be, 1, none⟩) := hG9 2 (by decide)
        have e3 : vs9 3 = .int .i64 (j : Nat) := hG9 3 (by decide)
        have e4 : vs9 4 = .pointer (some ⟨b2, 4 * i, none⟩) := hG9 4 (by decide)
        have e5 : vs9 5 = .pointer (some ⟨b2, 4 * i + j, none⟩) := hG9 5 (by decide)
        have eS := hG9 6 (by decide)
        simp only [putAll, e0, e1, e2, e3, e4, e5]
        clear hG9 e0 e1 e2 e3 e4 e5
        clear Bw
        obtain ⟨_, Bw⟩ := eS
        replace q := q.grown hg9 q.size fun k hk => by injection hk with hk; omega
        replace Br := Br.other hg9 fun e => hne (by injection e with e; exact e.symm)
        clear hg9
        go_simp
        have hM2 := Lib.hid (show adjE (E.take (k + 1)) = fun a b => if a = i ∧ b = j then true else M a b by rw [hsn.out, eM.out]; exact adj_more hi hj)
        clear hsn eM
        go_wp2_with fail
        go_roundw
        case rel => exact ⟨k + 1, by go_num, by omega, Br, by rw [hM2.out]; exact Bw, q⟩
        case measure => simp [intOf]; omega
      · rw [show (decide (0 ≤ y) && decide (y < 4)) = false by simpa using hy]
        have hM2 := Lib.hid (show adjE (E.take (k + 1)) = M by rw [hsn.out, eM.out]; exact adj_skip (fun h => hy h.2))
        clear hsn eM
        go_wp2_with fail
        go_roundw
        case rel => exact ⟨k + 1, by go_num, by omega, Br, by rw [hM2.out]; exact Bw, q⟩
        case measure => simp [intOf]; omega
    · rw [show (decide (0 ≤ x) && decide (x < 4)) = false by simpa using hx]
      clear c0 c1
      have hM2 := Lib.hid (show adjE (E.take (k + 1)) = M by rw [hsn.out, eM.out]; exact adj_skip (fun h => hx h.1))
      clear hsn eM
      go_wp2_with fail
      go_roundw
      case rel => exact ⟨k + 1, by go_num, by omega, Br, by rw [hM2.out]; exact Bw, q⟩
      case measure => simp [intOf]; omega
  · obtain rfl : k = E.length := by omega
    rw [List.take_length] at Bw
    have d0 : decide ((E.length : Int) < (E.length : Int)) = false := decide_eq_false (by omega)
    go_upto_region 9 with (fail)
    clear d0
    go_loopw [30] (fun iv wr => ∃ o : Nat, iv = .int .i64 (o : Int) ∧ o ≤ 4 ∧ BoxN wr b1 79 z16 ∧ BoxN wr b2 79 (m16 (runT (adjE E) (16 * o))) ∧ Below w.heap.size w wr) (fun iv _ => 4 - (intOf iv).toNat)
    case atStart => exact ⟨0, rfl, by omega, Br, Bw, q⟩
    case round =>
    clear Br Bw q
    obtain ⟨o, rfl, hol, Br, Bw, q⟩ := hrel
    rcases Nat.lt_or_ge o 4 with ho | hge1
    · have d0 : decide ((o : Int) < 4) = true := decide_eq_true (by omega)
      go_upto_region 12 with (fail)
      clear d0
      go_loopw [33] (fun iv wr => ∃ i : Nat, iv = .int .i64 (i : Int) ∧ i ≤ 4 ∧ BoxN wr b1 79 z16 ∧ BoxN wr b2 79 (m16 (runT (adjE E) (16 * o + 4 * i))) ∧ Below w.heap.size w wr) (fun iv _ => 4 - (intOf iv).toNat)
      case atStart => exact ⟨0, rfl, by omega, Br, Bw, q⟩
      case round =>
      clear Br Bw q
      obtain ⟨i, rfl, hil, Br, Bw, q⟩ := hrel
      rcases Nat.lt_or_ge i 4 with hi | hge2
      · have d0 : decide ((i : Int) < 4) = true := decide_eq_true (by omega)
        go_upto_region 15 with (fail)
        clear d0
        go_loopw [36] (fun iv wr => ∃ j : Nat, iv = .int .i64 (j : Int) ∧ j ≤ 4 ∧ BoxN wr b1 79 z16 ∧ BoxN wr b2 79 (m16 (runT (adjE E) (16 * o + 4 * i + j))) ∧ Below w.heap.size w wr) (fun iv _ => 4 - (intOf iv).toNat)
        case atStart => exact ⟨0, rfl, by omega, Br, Bw, q⟩
        case round =>
        clear Br Bw q
        obtain ⟨j, rfl, hjl, Br, Bw, q⟩ := hrel
        rcases Nat.lt_or_ge j 4 with hj | hge3
        · have d0 : decide ((j : Int) < 4) = true := decide_eq_true (by omega)
          have hst := Lib.hid (runT_at (W := adjE E) (o := o) hi hj)
          obtain ⟨M, eM⟩ : ∃ M, M = runT (adjE E) (16 * o + 4 * i + j) := ⟨_, rfl⟩
          rw [← eM] at Bw hst
          clear eM
          go_upto_region 17 with (fail)
          clear d0
          rcases Bool.eq_false_or_eq_true (M i j) with hA | hA
          · replace hA := Lib.hid hA
            refine wp_region_sink (by kernel_rfl) (by kernel_rfl) (fun A B => A.grownBy B (some (b2))) 23 (fun i => decide (i < 23)) (by kernel_rfl) (fun A => wr.grownBy A (some (b2))) (fun A h => grownB h _) (fun A => grownB (Below.refl _ _) _) (fun A B h k => grownT h (grownB k _)) (fun A B h k => grownT h k)
              [mEq (.int .i64 (i : Nat)), mEq (.int .i64 (j : Nat)), mEq (.int .i64 (i : Nat)), mEq (.int .i64 (j : Nat)), mEq (.pointer (some ⟨b2, 4 * i, none⟩)), mEq (.pointer (some ⟨b2, 4 * i + j, none⟩)), mEq (.bool true), mEq (.bool true), mEq (undef), mEq (undef), mEq (undef), mEq (undef), mEq (undef), mEq (undef), mEq (undef), mEq (undef), mEq (undef), mEq (undef), mEq (undef), mEq (undef), mEq (.bool true), mEq (.pointer (some ⟨b2, 4 * i, none⟩)), mEq (.pointer (some ⟨b2, 4 * i + j, none⟩)), mAny]
              (sgBox b2 79 (m16 fun a b => if a = i ∧ b = j then true else M a b))
              ⟨?o0, ?o1, ?o2, ?o3, ?o4, ?o5, ?o6, ?o7, ?o8, ?o9, ?o10, ?o11, ?o12, ?o13, ?o14, ?o15, ?o16, ?o17, ?o18, ?o19, ?o20, ?o21, ?o22, ?o23, trivial⟩ ?fin
            case o0 =>
              refine GdOpM.plain rfl (fun A vs w' hF hT hR h0 hu hd => ?_)
              have e1 : A.eval (.tmp 7) = .int .i64 (i : Nat) := hF 7 rfl
              exact BigFrame.wp_move _ rfl ⟨_, rfl, e1, Below.refl _ _⟩
            case o1 =>
              refine GdOpM.plain rfl (fun A vs w' hF hT hR h0 hu hd => ?_)
              have e1 : A.eval (.tmp 8) = .int .i64 (j : Nat) := hF 8 rfl
              exact BigFrame.wp_move _ rfl ⟨_, rfl, e1, Below.refl _ _⟩
            case o2 =>
              refine GdOpM.plain rfl (fun A vs w' hF hT hR h0 hu hd => ?_)
              have e1 : A.eval (.tmp 7) = .int .i64 (i : Nat) := hF 7 rfl
              exact BigFrame.wp_move _ rfl ⟨_, rfl, e1, Below.refl _ _⟩
            case o3 =>
              refine GdOpM.plain rfl (fun A vs w' hF hT hR h0 hu hd => ?_)
              have e1 : A.eval (.tmp 8) = .int .i64 (j : Nat) := hF 8 rfl
              exact BigFrame.wp_move _ rfl ⟨_, rfl, e1, Below.refl _ _⟩
            case o4 =>
              refine GdOpM.plain rfl (fun A vs w' hF hT hR h0 hu hd => ?_)
              have e1 : A.eval (.tmp 3) = .pointer (some ⟨b2, 0, none⟩) := hF 3 rfl
              have e2 : A.eval (.tmp 41) = .int .i64 (i : Nat) := (hT 41 2 (by simp) rfl).trans (hd ⟨2, .data⟩ (by simp) rfl)
              exact wp_ixA (e := 51) (sz := 4) (by kernel_rfl) (by kernel_rfl) rfl (e1) (e2) rfl hi (by omega) ⟨_, rfl, rfl, Below.refl _ _⟩
            case o5 =>
              refine GdOpM.plain rfl (fun A vs w' hF hT hR h0 hu hd => ?_)
              have e1 : A.eval (.tmp 43) = .pointer (some ⟨b2, 4 * i, none⟩) := (hT 43 4 (by simp) rfl).trans (hd ⟨4, .data⟩ (by simp) rfl)
              have e2 : A.eval (.tmp 42) = .int .i64 (j : Nat) := (hT 42 3 (by simp) rfl).trans (hd ⟨3, .data⟩ (by simp) rfl)
              exact wp_ixA (e := 4) (sz := 1) (by kernel_rfl) (by kernel_rfl) rfl (e1) (e2) rfl hj (by omega) ⟨_, rfl, rfl, Below.refl _ _⟩
            case o6 =>
              refine GdOpM.plain rfl (fun A vs w' hF hT hR h0 hu hd => ?_)
              have hb : Below wr.heap.size wr w' := h0 (.inl rfl)
              have e1 : A.eval (.tmp 44) = .pointer (some ⟨b2, 4 * i + j, none⟩) := (hT 44 5 (by simp) rfl).trans (hd ⟨5, .data⟩ (by simp) rfl)
              exact wp_ld_bool  rfl e1 (by kernel_rfl) (((Bw.below hb Bw.lt).cell (m16_at M hi hj)).trans (by rw [hA.out])) ⟨_, rfl, rfl, Below.refl _ _⟩
            case o7 =>
              refine GdOpM.plain rfl (fun A vs w' hF hT hR h0 hu hd => ?_)
              have e1 : A.eval (.tmp 45) = .bool true := (hT 45 6 (by simp) rfl).trans (hd ⟨6, .data⟩ (by simp) rfl)
              exact BigFrame.wp_move _ rfl ⟨_, rfl, e1, Below.refl _ _⟩
            case o8 =>
              exact GdOpM.left rfl ⟨_, _, rfl, rfl, by simp⟩ (by kernel_rfl) (fun vs w v h => .inl h) (fun vs w => rfl)
            case o9 =>
              exact GdOpM.left rfl ⟨_, _, rfl, rfl, by simp⟩ (by kernel_rfl) (fun vs w v h => .inl h) (fun vs w => rfl)
            case o10 =>
              exact GdOpM.left rfl ⟨_, _, rfl, rfl, by simp⟩ (by kernel_rfl) (fun vs w v h => .inl h) (fun vs w => rfl)
            case o11 =>
              exact GdOpM.left rfl ⟨_, _, rfl, rfl, by simp⟩ (by kernel_rfl) (fun vs w v h => .inl h) (fun vs w => rfl)
            case o12 =>
              exact GdOpM.left rfl ⟨_, _, rfl, rfl, by simp⟩ (by kernel_rfl) (fun vs w v h => .inl h) (fun vs w => rfl)
            case o13 =>
              exact GdOpM.left rfl ⟨_, _, rfl, rfl, by simp⟩ (by kernel_rfl) (fun vs w v h => .inl h) (fun vs w => rfl)
            case o14 =>
              exact GdOpM.left rfl ⟨_, _, rfl, rfl, by simp⟩ (by kernel_rfl) (fun vs w v h => .inr h) (fun vs w => rfl)
            case o15 =>
              exact GdOpM.left rfl ⟨_, _, rfl, rfl, by simp⟩ (by kernel_rfl) (fun vs w v h => .inr h) (fun vs w => rfl)
            case o16 =>
              exact GdOpM.left rfl ⟨_, _, rfl, rfl, by simp⟩ (by kernel_rfl) (fun vs w v h => .inr h) (fun vs w => rfl)
            case o17 =>
              exact GdOpM.left rfl ⟨_, _, rfl, rfl, by simp⟩ (by kernel_rfl) (fun vs w v h => .inr h) (fun vs w => rfl)
            case o18 =>
              exact GdOpM.left rfl ⟨_, _, rfl, rfl, by simp⟩ (by kernel_rfl) (fun vs w v h => .inr h) (fun vs w => rfl)
            case o19 =>
              exact GdOpM.left rfl ⟨_, _, rfl, rfl, by simp⟩ (by kernel_rfl) (fun vs w v h => .inl h) (fun vs w => rfl)
            case o20 =>
              refine GdOpM.plain rfl (fun A vs w' hF hT hR h0 hu hd => ?_)
              have e1 : A.eval (.tmp 46) = .bool true := (hT 46 7 (by simp) rfl).trans (hd ⟨7, .data⟩ (by simp) rfl)
              have e3 : A.eval (.tmp 58) = undef := (hT 58 19 (by simp) rfl).trans (hd ⟨19, .data⟩ (by simp) rfl)
              exact wp_pk rfl e1 (fun _ => rfl) (by simp) ⟨_, rfl, rfl, Below.refl _ _⟩
            case o21 =>
              refine GdOpM.plain rfl (fun A vs w' hF hT hR h0 hu hd => ?_)
              have e1 : A.eval (.tmp 3) = .pointer (some ⟨b2, 0, none⟩) := hF 3 rfl
              have e2 : A.eval (.tmp 39) = .int .i64 (i : Nat) := (hT 39 0 (by simp) rfl).trans (hd ⟨0, .data⟩ (by simp) rfl)
              exact wp_ixA (e := 51) (sz := 4) (by kernel_rfl) (by kernel_rfl) rfl (e1) (e2) rfl hi (by omega) ⟨_, rfl, rfl, Below.refl _ _⟩
            case o22 =>
              refine GdOpM.plain rfl (fun A vs w' hF hT hR h0 hu hd => ?_)
              have e1 : A.eval (.tmp 60) = .pointer (some ⟨b2, 4 * i, none⟩) := (hT 60 21 (by simp) rfl).trans (hd ⟨21, .data⟩ (by simp) rfl)
              have e2 : A.eval (.tmp 40) = .int .i64 (j : Nat) := (hT 40 1 (by simp) rfl).trans (hd ⟨1, .data⟩ (by simp) rfl)
              exact wp_ixA (e := 4) (sz := 1) (by kernel_rfl) (by kernel_rfl) rfl (e1) (e2) rfl hj (by omega) ⟨_, rfl, rfl, Below.refl _ _⟩
            case o23 =>
              refine GdOpM.plain rfl (fun A vs w' hF hT hR h0 hu hd => ?_)
              have hb : Below wr.heap.size wr w' := h0 (.inr rfl)
              have e1 : A.eval (.tmp 61) = .pointer (some ⟨b2, 4 * i + j, none⟩) := (hT 61 22 (by simp) rfl).trans (hd ⟨22, .data⟩ (by simp) rfl)
              have e2 : A.eval (.tmp 59) = .bool true := (hT 59 20 (by simp) rfl).trans (hd ⟨20, .data⟩ (by simp) rfl)
              refine wp_boxSet (j := 4 * i + j) (u := .bool true) rfl (by kernel_rfl) e1 e2 rfl rfl (Bw.below hb Bw.lt) (by rw [m16_len]; omega) (fun w2 hg2 hB2 => ⟨_, rfl, ⟨rfl, ?_⟩, hg2⟩)
              rw [m16_set hi hj] at hB2; exact hB2
            case fin =>
            intro vs9 W9 hg9 hG9
            have e0 : vs9 0 = .int .i64 (i : Nat) := hG9 0 (by decide)
            have e1 : vs9 1 = .int .i64 (j : Nat) := hG9 1 (by decide)
            have e2 : vs9 2 = .int .i64 (i : Nat) := hG9 2 (by decide)
            have e3 : vs9 3 = .int .i64 (j : Nat) := hG9 3 (by decide)
            have e4 : vs9 4 = .pointer (some ⟨b2, 4 * i, none⟩) := hG9 4 (by decide)
            have e5 : vs9 5 = .pointer (some ⟨b2, 4 * i + j, none⟩) := hG9 5 (by decide)
            have e6 : vs9 6 = .bool true := hG9 6 (by decide)
            have e7 : vs9 7 = .bool true := hG9 7 (by decide)
            have e8 : vs9 8 = undef := hG9 8 (by decide)
            have e9 : vs9 9 = undef := hG9 9 (by decide)
            have e10 : vs9 10 = undef := hG9 10 (by decide)
            have e11 : vs9 11 = undef := hG9 11 (by decide)
            have e12 : vs9 12 = undef := hG9 12 (by decide)
            have e13 : vs9 13 = undef := hG9 13 (by decide)
            have e14 : vs9 14 = undef := hG9 14 (by decide)
            have e15 : vs9 15 = undef := hG9 15 (by decide)
            have e16 : vs9 16 = undef := hG9 16 (by decide)
            have e17 : vs9 17 = undef := hG9 17 (by decide)
            have e18 : vs9 18 = undef := hG9 18 (by decide)
            have e19 : vs9 19 = undef := hG9 19 (by decide)
            have e20 : vs9 20 = .bool true := hG9 20 (by decide)
            have e21 : vs9 21 = .pointer (some ⟨b2, 4 * i, none⟩) := hG9 21 (by decide)
            have e22 : vs9 22 = .pointer (some ⟨b2, 4 * i + j, none⟩) := hG9 22 (by decide)
            have eS := hG9 23 (by decide)
            simp only [putAll, e0, e1, e2, e3, e4, e5, e6, e7, e8, e9, e10, e11, e12, e13, e14, e15, e16, e17, e18, e19, e20, e21, e22]
            clear hG9 e0 e1 e2 e3 e4 e5 e6 e7 e8 e9 e10 e11 e12 e13 e14 e15 e16 e17 e18 e19 e20 e21 e22
            clear Bw
            obtain ⟨_, Bw⟩ := eS
            replace q := q.grown hg9 q.size fun k hk => by injection hk with hk; omega
            replace Br := Br.other hg9 fun e => hne (by injection e with e; exact e.symm)
            clear hg9
            go_simp
            have hn := Lib.hid (show runT (adjE E) (16 * o + 4 * i + (j + 1)) = fun a b => if a = i ∧ b = j then true else M a b from hst.out.trans (by unfold cellS; rw [hA.out]; simp))
            clear hst hA
            go_wp2_with fail
            go_roundw
            case rel => exact ⟨j + 1, by go_num, by omega, Br, by rw [hn.out]; exact Bw, q⟩
            case measure => simp [intOf]; omega
          · replace hA := Lib.hid hA
            rcases Bool.eq_false_or_eq_true (M i o) with hB | hB
            · replace hB := Lib.hid hB
              refine wp_region_sink (by kernel_rfl) (by kernel_rfl) (fun A B => A.grownBy B (some (b2))) 23 (fun i => decide (i < 23)) (by kernel_rfl) (fun A => wr.grownBy A (some (b2))) (fun A h => grownB h _) (fun A => grownB (Below.refl _ _) _) (fun A B h k => grownT h (grownB k _)) (fun A B h k => grownT h k)
                [mEq (.int .i64 (i : Nat)), mEq (.int .i64 (j : Nat)), mEq (.int .i64 (i : Nat)), mEq (.int .i64 (j : Nat)), mEq (.pointer (some ⟨b2, 4 * i, none⟩)), mEq (.pointer (some ⟨b2, 4 * i + j, none⟩)), mEq (.bool false), mEq (.bool false), mEq (.int .i64 (i : Nat)), mEq (.int .i64 (o : Nat)), mEq (.pointer (some ⟨b2, 4 * i, none⟩)), mEq (.pointer (some ⟨b2, 4 * i + o, none⟩)), mEq (.bool true), mEq (.bool true), mEq (.int .i64 (o : Nat)), mEq (.int .i64 (j : Nat)), mEq (.pointer (some ⟨b2, 4 * o, none⟩)), mEq (.pointer (some ⟨b2, 4 * o + j, none⟩)), mEq (.bool (M o j)), mEq (.bool (M o j)), mEq (.bool (M o j)), mEq (.pointer (some ⟨b2, 4 * i, none⟩)), mEq (.pointer (some ⟨b2, 4 * i + j, none⟩)), mAny]
                (sgBox b2 79 (m16 fun a b => if a = i ∧ b = j then (M o j) else M a b))
                ⟨?o0, ?o1, ?o2, ?o3, ?o4, ?o5, ?o6, ?o7, ?o8, ?o9, ?o10, ?o11, ?o12, ?o13, ?o14, ?o15, ?o16, ?o17, ?o18, ?o19, ?o20, ?o21, ?o22, ?o23, trivial⟩ ?fin
              case o0 =>
                refine GdOpM.plain rfl (fun A vs w' hF hT hR h0 hu hd => ?_)
                have e1 : A.eval (.tmp 7) = .int .i64 (i : Nat) := hF 7 rfl
                exact BigFrame.wp_move _ rfl ⟨_, rfl, e1, Below.refl _ _⟩
              case o1 =>
                refine GdOpM.plain rfl (fun A vs w' hF hT hR h0 hu hd => ?_)
                have e1 : A.eval (.tmp 8) = .int .i64 (j : Nat) := hF 8 rfl
                exact BigFrame.wp_move _ rfl ⟨_, rfl, e1, Below.refl _ _⟩
              case o2 =>
                refine GdOpM.plain rfl (fun A vs w' hF hT hR h0 hu hd => ?_)
                have e1 : A.eval (.tmp 7) = .int .i64 (i : Nat) := hF 7 rfl
                exact BigFrame.wp_move _ rfl ⟨_, rfl, e1, Below.refl _ _⟩
              case o3 =>
                refine GdOpM.plain rfl (fun A vs w' hF hT hR h0 hu hd => ?_)
                have e1 : A.eval (.tmp 8) = .int .i64 (j : Nat) := hF 8 rfl
                exact BigFrame.wp_move _ rfl ⟨_, rfl, e1, Below.refl _ _⟩
              case o4 =>
                refine GdOpM.plain rfl (fun A vs w' hF hT hR h0 hu hd => ?_)
                have e1 : A.eval (.tmp 3) = .pointer (some ⟨b2, 0, none⟩) := hF 3 rfl
                have e2 : A.eval (.tmp 41) = .int .i64 (i : Nat) := (hT 41 2 (by simp) rfl).trans (hd ⟨2, .data⟩ (by simp) rfl)
                exact wp_ixA (e := 51) (sz := 4) (by kernel_rfl) (by kernel_rfl) rfl (e1) (e2) rfl hi (by omega) ⟨_, rfl, rfl, Below.refl _ _⟩
              case o5 =>
                refine GdOpM.plain rfl (fun A vs w' hF hT hR h0 hu hd => ?_)
                have e1 : A.eval (.tmp 43) = .pointer (some ⟨b2, 4 * i, none⟩) := (hT 43 4 (by simp) rfl).trans (hd ⟨4, .data⟩ (by simp) rfl)
                have e2 : A.eval (.tmp 42) = .int .i64 (j : Nat) := (hT 42 3 (by simp) rfl).trans (hd ⟨3, .data⟩ (by simp) rfl)
                exact wp_ixA (e := 4) (sz := 1) (by kernel_rfl) (by kernel_rfl) rfl (e1) (e2) rfl hj (by omega) ⟨_, rfl, rfl, Below.refl _ _⟩
              case o6 =>
                refine GdOpM.plain rfl (fun A vs w' hF hT hR h0 hu hd => ?_)
                have hb : Below wr.heap.size wr w' := h0 (.inl rfl)
                have e1 : A.eval (.tmp 44) = .pointer (some ⟨b2, 4 * i + j, none⟩) := (hT 44 5 (by simp) rfl).trans (hd ⟨5, .data⟩ (by simp) rfl)
                exact wp_ld_bool  rfl e1 (by kernel_rfl) (((Bw.below hb Bw.lt).cell (m16_at M hi hj)).trans (by rw [hA.out])) ⟨_, rfl, rfl, Below.refl _ _⟩
              case o7 =>
                refine GdOpM.plain rfl (fun A vs w' hF hT hR h0 hu hd => ?_)
                have e1 : A.eval (.tmp 45) = .bool false := (hT 45 6 (by simp) rfl).trans (hd ⟨6, .data⟩ (by simp) rfl)
                exact BigFrame.wp_move _ rfl ⟨_, rfl, e1, Below.refl _ _⟩
              case o8 =>
                refine GdOpM.taken rfl ⟨_, _, rfl, rfl, by simp⟩ (by kernel_rfl) (fun vs w v h => h) (fun A vs w' hF hT hR h0 hu hd => ?_)
                have e1 : A.eval (.tmp 7) = .int .i64 (i : Nat) := hF 7 rfl
                exact BigFrame.wp_move _ rfl ⟨_, rfl, e1, Below.refl _ _⟩
              case o9 =>
                refine GdOpM.taken rfl ⟨_, _, rfl, rfl, by simp⟩ (by kernel_rfl) (fun vs w v h => h) (fun A vs w' hF hT hR h0 hu hd => ?_)
                have e1 : A.eval (.tmp 6) = .int .i64 (o : Nat) := hF 6 rfl
                exact BigFrame.wp_move _ rfl ⟨_, rfl, e1, Below.refl _ _⟩
              case o10 =>
                refine GdOpM.taken rfl ⟨_, _, rfl, rfl, by simp⟩ (by kernel_rfl) (fun vs w v h => h) (fun A vs w' hF hT hR h0 hu hd => ?_)
                have e1 : A.eval (.tmp 3) = .pointer (some ⟨b2, 0, none⟩) := hF 3 rfl
                have e2 : A.eval (.tmp 47) = .int .i64 (i : Nat) := (hT 47 8 (by simp) rfl).trans (hd ⟨8, .data⟩ (by simp) rfl)
                exact wp_ixA (e := 51) (sz := 4) (by kernel_rfl) (by kernel_rfl) rfl (e1) (e2) rfl hi (by omega) ⟨_, rfl, rfl, Below.refl _ _⟩
              case o11 =>
                refine GdOpM.taken rfl ⟨_, _, rfl, rfl, by simp⟩ (by kernel_rfl) (fun vs w v h => h) (fun A vs w' hF hT hR h0 hu hd => ?_)
                have e1 : A.eval (.tmp 49) = .pointer (some ⟨b2, 4 * i, none⟩) := (hT 49 10 (by simp) rfl).trans (hd ⟨10, .data⟩ (by simp) rfl)
                have e2 : A.eval (.tmp 48) = .int .i64 (o : Nat) := (hT 48 9 (by simp) rfl).trans (hd ⟨9, .data⟩ (by simp) rfl)
                exact wp_ixA (e := 4) (sz := 1) (by kernel_rfl) (by kernel_rfl) rfl (e1) (e2) rfl ho (by omega) ⟨_, rfl, rfl, Below.refl _ _⟩
              case o12 =>
                refine GdOpM.taken rfl ⟨_, _, rfl, rfl, by simp⟩ (by kernel_rfl) (fun vs w v h => h) (fun A vs w' hF hT hR h0 hu hd => ?_)
                have hb : Below wr.heap.size wr w' := h0 (.inl rfl)
                have e1 : A.eval (.tmp 50) = .pointer (some ⟨b2, 4 * i + o, none⟩) := (hT 50 11 (by simp) rfl).trans (hd ⟨11, .data⟩ (by simp) rfl)
                exact wp_ld_bool  rfl e1 (by kernel_rfl) (((Bw.below hb Bw.lt).cell (m16_at M hi ho)).trans (by rw [hB.out])) ⟨_, rfl, rfl, Below.refl _ _⟩
              case o13 =>
                refine GdOpM.taken rfl ⟨_, _, rfl, rfl, by simp⟩ (by kernel_rfl) (fun vs w v h => h) (fun A vs w' hF hT hR h0 hu hd => ?_)
                have e1 : A.eval (.tmp 51) = .bool true := (hT 51 12 (by simp) rfl).trans (hd ⟨12, .data⟩ (by simp) rfl)
                exact BigFrame.wp_move _ rfl ⟨_, rfl, e1, Below.refl _ _⟩
              case o14 =>
                refine GdOpM.taken rfl ⟨_, _, rfl, rfl, by simp⟩ (by kernel_rfl) (fun vs w v h => h) (fun A vs w' hF hT hR h0 hu hd => ?_)
                have e1 : A.eval (.tmp 6) = .int .i64 (o : Nat) := hF 6 rfl
                exact BigFrame.wp_move _ rfl ⟨_, rfl, e1, Below.refl _ _⟩
              case o15 =>
                refine GdOpM.taken rfl ⟨_, _, rfl, rfl, by simp⟩ (by kernel_rfl) (fun vs w v h => h) (fun A vs w' hF hT hR h0 hu hd => ?_)
                have e1 : A.eval (.tmp 8) = .int .i64 (j : Nat) := hF 8 rfl
                exact BigFrame.wp_move _ rfl ⟨_, rfl, e1, Below.refl _ _⟩
              case o16 =>
                refine GdOpM.taken rfl ⟨_, _, rfl, rfl, by simp⟩ (by kernel_rfl) (fun vs w v h => h) (fun A vs w' hF hT hR h0 hu hd => ?_)
                have e1 : A.eval (.tmp 3) = .pointer (some ⟨b2, 0, none⟩) := hF 3 rfl
                have e2 : A.eval (.tmp 53) = .int .i64 (o : Nat) := (hT 53 14 (by simp) rfl).trans (hd ⟨14, .data⟩ (by simp) rfl)
                exact wp_ixA (e := 51) (sz := 4) (by kernel_rfl) (by kernel_rfl) rfl (e1) (e2) rfl ho (by omega) ⟨_, rfl, rfl, Below.refl _ _⟩
              case o17 =>
                refine GdOpM.taken rfl ⟨_, _, rfl, rfl, by simp⟩ (by kernel_rfl) (fun vs w v h => h) (fun A vs w' hF hT hR h0 hu hd => ?_)
                have e1 : A.eval (.tmp 55) = .pointer (some ⟨b2, 4 * o, none⟩) := (hT 55 16 (by simp) rfl).trans (hd ⟨16, .data⟩ (by simp) rfl)
                have e2 : A.eval (.tmp 54) = .int .i64 (j : Nat) := (hT 54 15 (by simp) rfl).trans (hd ⟨15, .data⟩ (by simp) rfl)
                exact wp_ixA (e := 4) (sz := 1) (by kernel_rfl) (by kernel_rfl) rfl (e1) (e2) rfl hj (by omega) ⟨_, rfl, rfl, Below.refl _ _⟩
              case o18 =>
                refine GdOpM.taken rfl ⟨_, _, rfl, rfl, by simp⟩ (by kernel_rfl) (fun vs w v h => h) (fun A vs w' hF hT hR h0 hu hd => ?_)
                have hb : Below wr.heap.size wr w' := h0 (.inl rfl)
                have e1 : A.eval (.tmp 56) = .pointer (some ⟨b2, 4 * o + j, none⟩) := (hT 56 17 (by simp) rfl).trans (hd ⟨17, .data⟩ (by simp) rfl)
                exact wp_ld_bool  rfl e1 (by kernel_rfl) ((Bw.below hb Bw.lt).cell (m16_at M ho hj)) ⟨_, rfl, rfl, Below.refl _ _⟩
              case o19 =>
                refine GdOpM.taken rfl ⟨_, _, rfl, rfl, by simp⟩ (by kernel_rfl) (fun vs w v h => h) (fun A vs w' hF hT hR h0 hu hd => ?_)
                have e1 : A.eval (.tmp 52) = .bool true := (hT 52 13 (by simp) rfl).trans (hd ⟨13, .data⟩ (by simp) rfl)
                have e2 : A.eval (.tmp 57) = .bool (M o j) := (hT 57 18 (by simp) rfl).trans (hd ⟨18, .data⟩ (by simp) rfl)
                exact wp_pk rfl e1 (fun _ => e2) (by simp) ⟨_, rfl, rfl, Below.refl _ _⟩
              case o20 =>
                refine GdOpM.plain rfl (fun A vs w' hF hT hR h0 hu hd => ?_)
                have e1 : A.eval (.tmp 46) = .bool false := (hT 46 7 (by simp) rfl).trans (hd ⟨7, .data⟩ (by simp) rfl)
                have e3 : A.eval (.tmp 58) = .bool (M o j) := (hT 58 19 (by simp) rfl).trans (hd ⟨19, .data⟩ (by simp) rfl)
                exact wp_pk rfl e1 (by simp) (fun _ => e3) ⟨_, rfl, rfl, Below.refl _ _⟩
              case o21 =>
                refine GdOpM.plain rfl (fun A vs w' hF hT hR h0 hu hd => ?_)
                have e1 : A.eval (.tmp 3) = .pointer (some ⟨b2, 0, none⟩) := hF 3 rfl
                have e2 : A.eval (.tmp 39) = .int .i64 (i : Nat) := (hT 39 0 (by simp) rfl).trans (hd ⟨0, .data⟩ (by simp) rfl)
                exact wp_ixA (e := 51) (sz := 4) (by kernel_rfl) (by kernel_rfl) rfl (e1) (e2) rfl hi (by omega) ⟨_, rfl, rfl, Below.refl _ _⟩
              case o22 =>
                refine GdOpM.plain rfl (fun A vs w' hF hT hR h0 hu hd => ?_)
                have e1 : A.eval (.tmp 60) = .pointer (some ⟨b2, 4 * i, none⟩) := (hT 60 21 (by simp) rfl).trans (hd ⟨21, .data⟩ (by simp) rfl)
                have e2 : A.eval (.tmp 40) = .int .i64 (j : Nat) := (hT 40 1 (by simp) rfl).trans (hd ⟨1, .data⟩ (by simp) rfl)
                exact wp_ixA (e := 4) (sz := 1) (by kernel_rfl) (by kernel_rfl) rfl (e1) (e2) rfl hj (by omega) ⟨_, rfl, rfl, Below.refl _ _⟩
              case o23 =>
                refine GdOpM.plain rfl (fun A vs w' hF hT hR h0 hu hd => ?_)
                have hb : Below wr.heap.size wr w' := h0 (.inr rfl)
                have e1 : A.eval (.tmp 61) = .pointer (some ⟨b2, 4 * i + j, none⟩) := (hT 61 22 (by simp) rfl).trans (hd ⟨22, .data⟩ (by simp) rfl)
                have e2 : A.eval (.tmp 59) = .bool (M o j) := (hT 59 20 (by simp) rfl).trans (hd ⟨20, .data⟩ (by simp) rfl)
                refine wp_boxSet (j := 4 * i + j) (u := .bool (M o j)) rfl (by kernel_rfl) e1 e2 rfl rfl (Bw.below hb Bw.lt) (by rw [m16_len]; omega) (fun w2 hg2 hB2 => ⟨_, rfl, ⟨rfl, ?_⟩, hg2⟩)
                rw [m16_set hi hj] at hB2; exact hB2
              case fin =>
              intro vs9 W9 hg9 hG9
              have e0 : vs9 0 = .int .i64 (i : Nat) := hG9 0 (by decide)
              have e1 : vs9 1 = .int .i64 (j : Nat) := hG9 1 (by decide)
              have e2 : vs9 2 = .int .i64 (i : Nat) := hG9 2 (by decide)
              have e3 : vs9 3 = .int .i64 (j : Nat) := hG9 3 (by decide)
              have e4 : vs9 4 = .pointer (some ⟨b2, 4 * i, none⟩) := hG9 4 (by decide)
              have e5 : vs9 5 = .pointer (some ⟨b2, 4 * i + j, none⟩) := hG9 5 (by decide)
              have e6 : vs9 6 = .bool false := hG9 6 (by decide)
              have e7 : vs9 7 = .bool false := hG9 7 (by decide)
              have e8 : vs9 8 = .int .i64 (i : Nat) := hG9 8 (by decide)
              have e9 : vs9 9 = .int .i64 (o : Nat) := hG9 9 (by decide)
              have e10 : vs9 10 = .pointer (some ⟨b2, 4 * i, none⟩) := hG9 10 (by decide)
              have e11 : vs9 11 = .pointer (some ⟨b2, 4 * i + o, none⟩) := hG9 11 (by decide)
              have e12 : vs9 12 = .bool true := hG9 12 (by decide)
              have e13 : vs9 13 = .bool true := hG9 13 (by decide)
              have e14 : vs9 14 = .int .i64 (o : Nat) := hG9 14 (by decide)
              have e15 : vs9 15 = .int .i64 (j : Nat) := hG9 15 (by decide)
              have e16 : vs9 16 = .pointer (some ⟨b2, 4 * o, none⟩) := hG9 16 (by decide)
              have e17 : vs9 17 = .pointer (some ⟨b2, 4 * o + j, none⟩) := hG9 17 (by decide)
              have e18 : vs9 18 = .bool (M o j) := hG9 18 (by decide)
              have e19 : vs9 19 = .bool (M o j) := hG9 19 (by decide)
              have e20 : vs9 20 = .bool (M o j) := hG9 20 (by decide)
              have e21 : vs9 21 = .pointer (some ⟨b2, 4 * i, none⟩) := hG9 21 (by decide)
              have e22 : vs9 22 = .pointer (some ⟨b2, 4 * i + j, none⟩) := hG9 22 (by decide)
              have eS := hG9 23 (by decide)
              simp only [putAll, e0, e1, e2, e3, e4, e5, e6, e7, e8, e9, e10, e11, e12, e13, e14, e15, e16, e17, e18, e19, e20, e21, e22]
              clear hG9 e0 e1 e2 e3 e4 e5 e6 e7 e8 e9 e10 e11 e12 e13 e14 e15 e16 e17 e18 e19 e20 e21 e22
              clear Bw
              obtain ⟨_, Bw⟩ := eS
              replace q := q.grown hg9 q.size fun k hk => by injection hk with hk; omega
              replace Br := Br.other hg9 fun e => hne (by injection e with e; exact e.symm)
              clear hg9
              go_simp
              have hn := Lib.hid (show runT (adjE E) (16 * o + 4 * i + (j + 1)) = fun a b => if a = i ∧ b = j then (M o j) else M a b from hst.out.trans (by unfold cellS; rw [hA.out, hB.out]; simp))
              clear hst hA hB
              go_wp2_with fail
              go_roundw
              case rel => exact ⟨j + 1, by go_num, by omega, Br, by rw [hn.out]; exact Bw, q⟩
              case measure => simp [intOf]; omega
            · replace hB := Lib.hid hB
              refine wp_region_sink (by kernel_rfl) (by kernel_rfl) (fun A B => A.grownBy B (some (b2))) 23 (fun i => decide (i < 23)) (by kernel_rfl) (fun A => wr.grownBy A (some (b2))) (fun A h => grownB h _) (fun A => grownB (Below.refl _ _) _) (fun A B h k => grownT h (grownB k _)) (fun A B h k => grownT h k)
                [mEq (.int .i64 (i : Nat)), mEq (.int .i64 (j : Nat)), mEq (.int .i64 (i : Nat)), mEq (.int .i64 (j : Nat)), mEq (.pointer (some ⟨b2, 4 * i, none⟩)), mEq (.pointer (some ⟨b2, 4 * i + j, none⟩)), mEq (.bool false), mEq (.bool false), mEq (.int .i64 (i : Nat)), mEq (.int .i64 (o : Nat)), mEq (.pointer (some ⟨b2, 4 * i, none⟩)), mEq (.pointer (some ⟨b2, 4 * i + o, none⟩)), mEq (.bool false), mEq (.bool false), mEq (undef), mEq (undef), mEq (undef), mEq (undef), mEq (undef), mEq (.bool false), mEq (.bool false), mEq (.pointer (some ⟨b2, 4 * i, none⟩)), mEq (.pointer (some ⟨b2, 4 * i + j, none⟩)), mAny]
                (sgBox b2 79 (m16 fun a b => if a = i ∧ b = j then false else M a b))
                ⟨?o0, ?o1, ?o2, ?o3, ?o4, ?o5, ?o6, ?o7, ?o8, ?o9, ?o10, ?o11, ?o12, ?o13, ?o14, ?o15, ?o16, ?o17, ?o18, ?o19, ?o20, ?o21, ?o22, ?o23, trivial⟩ ?fin
              case o0 =>
                refine GdOpM.plain rfl (fun A vs w' hF hT hR h0 hu hd => ?_)
                have e1 : A.eval (.tmp 7) = .int .i64 (i : Nat) := hF 7 rfl
                exact BigFrame.wp_move _ rfl ⟨_, rfl, e1, Below.refl _ _⟩
              case o1 =>
                refine GdOpM.plain rfl (fun A vs w' hF hT hR h0 hu hd => ?_)
                have e1 : A.eval (.tmp 8) = .int .i64 (j : Nat) := hF 8 rfl
                exact BigFrame.wp_move _ rfl ⟨_, rfl, e1, Below.refl _ _⟩
              case o2 =>
                refine GdOpM.plain rfl (fun A vs w' hF hT hR h0 hu hd => ?_)
                have e1 : A.eval (.tmp 7) = .int .i64 (i : Nat) := hF 7 rfl
                exact BigFrame.wp_move _ rfl ⟨_, rfl, e1, Below.refl _ _⟩
              case o3 =>
                refine GdOpM.plain rfl (fun A vs w' hF hT hR h0 hu hd => ?_)
                have e1 : A.eval (.tmp 8) = .int .i64 (j : Nat) := hF 8 rfl
                exact BigFrame.wp_move _ rfl ⟨_, rfl, e1, Below.refl _ _⟩
              case o4 =>
                refine GdOpM.plain rfl (fun A vs w' hF hT hR h0 hu hd => ?_)
                have e1 : A.eval (.tmp 3) = .pointer (some ⟨b2, 0, none⟩) := hF 3 rfl
                have e2 : A.eval (.tmp 41) = .int .i64 (i : Nat) := (hT 41 2 (by simp) rfl).trans (hd ⟨2, .data⟩ (by simp) rfl)
                exact wp_ixA (e := 51) (sz := 4) (by kernel_rfl) (by kernel_rfl) rfl (e1) (e2) rfl hi (by omega) ⟨_, rfl, rfl, Below.refl _ _⟩
              case o5 =>
                refine GdOpM.plain rfl (fun A vs w' hF hT hR h0 hu hd => ?_)
                have e1 : A.eval (.tmp 43) = .pointer (some ⟨b2, 4 * i, none⟩) := (hT 43 4 (by simp) rfl).trans (hd ⟨4, .data⟩ (by simp) rfl)
                have e2 : A.eval (.tmp 42) = .int .i64 (j : Nat) := (hT 42 3 (by simp) rfl).trans (hd ⟨3, .data⟩ (by simp) rfl)
                exact wp_ixA (e := 4) (sz := 1) (by kernel_rfl) (by kernel_rfl) rfl (e1) (e2) rfl hj (by omega) ⟨_, rfl, rfl, Below.refl _ _⟩
              case o6 =>
                refine GdOpM.plain rfl (fun A vs w' hF hT hR h0 hu hd => ?_)
                have hb : Below wr.heap.size wr w' := h0 (.inl rfl)
                have e1 : A.eval (.tmp 44) = .pointer (some ⟨b2, 4 * i + j, none⟩) := (hT 44 5 (by simp) rfl).trans (hd ⟨5, .data⟩ (by simp) rfl)
                exact wp_ld_bool  rfl e1 (by kernel_rfl) (((Bw.below hb Bw.lt).cell (m16_at M hi hj)).trans (by rw [hA.out])) ⟨_, rfl, rfl, Below.refl _ _⟩
              case o7 =>
                refine GdOpM.plain rfl (fun A vs w' hF hT hR h0 hu hd => ?_)
                have e1 : A.eval (.tmp 45) = .bool false := (hT 45 6 (by simp) rfl).trans (hd ⟨6, .data⟩ (by simp) rfl)
                exact BigFrame.wp_move _ rfl ⟨_, rfl, e1, Below.refl _ _⟩
              case o8 =>
                refine GdOpM.taken rfl ⟨_, _, rfl, rfl, by simp⟩ (by kernel_rfl) (fun vs w v h => h) (fun A vs w' hF hT hR h0 hu hd => ?_)
                have e1 : A.eval (.tmp 7) = .int .i64 (i : Nat) := hF 7 rfl
                exact BigFrame.wp_move _ rfl ⟨_, rfl, e1, Below.refl _ _⟩
              case o9 =>
                refine GdOpM.taken rfl ⟨_, _, rfl, rfl, by simp⟩ (by kernel_rfl) (fun vs w v h => h) (fun A vs w' hF hT hR h0 hu hd => ?_)
                have e1 : A.eval (.tmp 6) = .int .i64 (o : Nat) := hF 6 rfl
                exact BigFrame.wp_move _ rfl ⟨_, rfl, e1, Below.refl _ _⟩
              case o10 =>
                refine GdOpM.taken rfl ⟨_, _, rfl, rfl, by simp⟩ (by kernel_rfl) (fun vs w v h => h) (fun A vs w' hF hT hR h0 hu hd => ?_)
                have e1 : A.eval (.tmp 3) = .pointer (some ⟨b2, 0, none⟩) := hF 3 rfl
                have e2 : A.eval (.tmp 47) = .int .i64 (i : Nat) := (hT 47 8 (by simp) rfl).trans (hd ⟨8, .data⟩ (by simp) rfl)
                exact wp_ixA (e := 51) (sz := 4) (by kernel_rfl) (by kernel_rfl) rfl (e1) (e2) rfl hi (by omega) ⟨_, rfl, rfl, Below.refl _ _⟩
              case o11 =>
                refine GdOpM.taken rfl ⟨_, _, rfl, rfl, by simp⟩ (by kernel_rfl) (fun vs w v h => h) (fun A vs w' hF hT hR h0 hu hd => ?_)
                have e1 : A.eval (.tmp 49) = .pointer (some ⟨b2, 4 * i, none⟩) := (hT 49 10 (by simp) rfl).trans (hd ⟨10, .data⟩ (by simp) rfl)
                have e2 : A.eval (.tmp 48) = .int .i64 (o : Nat) := (hT 48 9 (by simp) rfl).trans (hd ⟨9, .data⟩ (by simp) rfl)
                exact wp_ixA (e := 4) (sz := 1) (by kernel_rfl) (by kernel_rfl) rfl (e1) (e2) rfl ho (by omega) ⟨_, rfl, rfl, Below.refl _ _⟩
              case o12 =>
                refine GdOpM.taken rfl ⟨_, _, rfl, rfl, by simp⟩ (by kernel_rfl) (fun vs w v h => h) (fun A vs w' hF hT hR h0 hu hd => ?_)
                have hb : Below wr.heap.size wr w' := h0 (.inl rfl)
                have e1 : A.eval (.tmp 50) = .pointer (some ⟨b2, 4 * i + o, none⟩) := (hT 50 11 (by simp) rfl).trans (hd ⟨11, .data⟩ (by simp) rfl)
                exact wp_ld_bool  rfl e1 (by kernel_rfl) (((Bw.below hb Bw.lt).cell (m16_at M hi ho)).trans (by rw [hB.out])) ⟨_, rfl, rfl, Below.refl _ _⟩
              case o13 =>
                refine GdOpM.taken rfl ⟨_, _, rfl, rfl, by simp⟩ (by kernel_rfl) (fun vs w v h => h) (fun A vs w' hF hT hR h0 hu hd => ?_)
                have e1 : A.eval (.tmp 51) = .bool false := (hT 51 12 (by simp) rfl).trans (hd ⟨12, .data⟩ (by simp) rfl)
                exact BigFrame.wp_move _ rfl ⟨_, rfl, e1, Below.refl _ _⟩
              case o14 =>
                exact GdOpM.left rfl ⟨_, _, rfl, rfl, by simp⟩ (by kernel_rfl) (fun vs w v h => .inl h) (fun vs w => rfl)
              case o15 =>
                exact GdOpM.left rfl ⟨_, _, rfl, rfl, by simp⟩ (by kernel_rfl) (fun vs w v h => .inl h) (fun vs w => rfl)
              case o16 =>
                exact GdOpM.left rfl ⟨_, _, rfl, rfl, by simp⟩ (by kernel_rfl) (fun vs w v h => .inl h) (fun vs w => rfl)
              case o17 =>
                exact GdOpM.left rfl ⟨_, _, rfl, rfl, by simp⟩ (by kernel_rfl) (fun vs w v h => .inl h) (fun vs w => rfl)
              case o18 =>
                exact GdOpM.left rfl ⟨_, _, rfl, rfl, by simp⟩ (by kernel_rfl) (fun vs w v h => .inl h) (fun vs w => rfl)
              case o19 =>
                refine GdOpM.taken rfl ⟨_, _, rfl, rfl, by simp⟩ (by kernel_rfl) (fun vs w v h => h) (fun A vs w' hF hT hR h0 hu hd => ?_)
                have e1 : A.eval (.tmp 52) = .bool false := (hT 52 13 (by simp) rfl).trans (hd ⟨13, .data⟩ (by simp) rfl)
                have e2 : A.eval (.tmp 57) = undef := (hT 57 18 (by simp) rfl).trans (hd ⟨18, .data⟩ (by simp) rfl)
                exact wp_pk rfl e1 (by simp) (fun _ => rfl) ⟨_, rfl, rfl, Below.refl _ _⟩
              case o20 =>
                refine GdOpM.plain rfl (fun A vs w' hF hT hR h0 hu hd => ?_)
                have e1 : A.eval (.tmp 46) = .bool false := (hT 46 7 (by simp) rfl).trans (hd ⟨7, .data⟩ (by simp) rfl)
                have e3 : A.eval (.tmp 58) = .bool false := (hT 58 19 (by simp) rfl).trans (hd ⟨19, .data⟩ (by simp) rfl)
                exact wp_pk rfl e1 (by simp) (fun _ => e3) ⟨_, rfl, rfl, Below.refl _ _⟩
              case o21 =>
                refine GdOpM.plain rfl (fun A vs w' hF hT hR h0 hu hd => ?_)
                have e1 : A.eval (.tmp 3) = .pointer (some ⟨b2, 0, none⟩) := hF 3 rfl
                have e2 : A.eval (.tmp 39) = .int .i64 (i : Nat) := (hT 39 0 (by simp) rfl).trans (hd ⟨0, .data⟩ (by simp) rfl)
                exact wp_ixA (e := 51) (sz := 4) (by kernel_rfl) (by kernel_rfl) rfl (e1) (e2) rfl hi (by omega) ⟨_, rfl, rfl, Below.refl _ _⟩
              case o22 =>
                refine GdOpM.plain rfl (fun A vs w' hF hT hR h0 hu hd => ?_)
                have e1 : A.eval (.tmp 60) = .pointer (some ⟨b2, 4 * i, none⟩) := (hT 60 21 (by simp) rfl).trans (hd ⟨21, .data⟩ (by simp) rfl)
                have e2 : A.eval (.tmp 40) = .int .i64 (j : Nat) := (hT 40 1 (by simp) rfl).trans (hd ⟨1, .data⟩ (by simp) rfl)
                exact wp_ixA (e := 4) (sz := 1) (by kernel_rfl) (by kernel_rfl) rfl (e1) (e2) rfl hj (by omega) ⟨_, rfl, rfl, Below.refl _ _⟩
              case o23 =>
                refine GdOpM.plain rfl (fun A vs w' hF hT hR h0 hu hd => ?_)
                have hb : Below wr.heap.size wr w' := h0 (.inr rfl)
                have e1 : A.eval (.tmp 61) = .pointer (some ⟨b2, 4 * i + j, none⟩) := (hT 61 22 (by simp) rfl).trans (hd ⟨22, .data⟩ (by simp) rfl)
                have e2 : A.eval (.tmp 59) = .bool false := (hT 59 20 (by simp) rfl).trans (hd ⟨20, .data⟩ (by simp) rfl)
                refine wp_boxSet (j := 4 * i + j) (u := .bool false) rfl (by kernel_rfl) e1 e2 rfl rfl (Bw.below hb Bw.lt) (by rw [m16_len]; omega) (fun w2 hg2 hB2 => ⟨_, rfl, ⟨rfl, ?_⟩, hg2⟩)
                rw [m16_set hi hj] at hB2; exact hB2
              case fin =>
              intro vs9 W9 hg9 hG9
              have e0 : vs9 0 = .int .i64 (i : Nat) := hG9 0 (by decide)
              have e1 : vs9 1 = .int .i64 (j : Nat) := hG9 1 (by decide)
              have e2 : vs9 2 = .int .i64 (i : Nat) := hG9 2 (by decide)
              have e3 : vs9 3 = .int .i64 (j : Nat) := hG9 3 (by decide)
              have e4 : vs9 4 = .pointer (some ⟨b2, 4 * i, none⟩) := hG9 4 (by decide)
              have e5 : vs9 5 = .pointer (some ⟨b2, 4 * i + j, none⟩) := hG9 5 (by decide)
              have e6 : vs9 6 = .bool false := hG9 6 (by decide)
              have e7 : vs9 7 = .bool false := hG9 7 (by decide)
              have e8 : vs9 8 = .int .i64 (i : Nat) := hG9 8 (by decide)
              have e9 : vs9 9 = .int .i64 (o : Nat) := hG9 9 (by decide)
              have e10 : vs9 10 = .pointer (some ⟨b2, 4 * i, none⟩) := hG9 10 (by decide)
              have e11 : vs9 11 = .pointer (some ⟨b2, 4 * i + o, none⟩) := hG9 11 (by decide)
              have e12 : vs9 12 = .bool false := hG9 12 (by decide)
              have e13 : vs9 13 = .bool false := hG9 13 (by decide)
              have e14 : vs9 14 = undef := hG9 14 (by decide)
              have e15 : vs9 15 = undef := hG9 15 (by decide)
              have e16 : vs9 16 = undef := hG9 16 (by decide)
              have e17 : vs9 17 = undef := hG9 17 (by decide)
              have e18 : vs9 18 = undef := hG9 18 (by decide)
              have e19 : vs9 19 = .bool false := hG9 19 (by decide)
              have e20 : vs9 20 = .bool false := hG9 20 (by decide)
              have e21 : vs9 21 = .pointer (some ⟨b2, 4 * i, none⟩) := hG9 21 (by decide)
              have e22 : vs9 22 = .pointer (some ⟨b2, 4 * i + j, none⟩) := hG9 22 (by decide)
              have eS := hG9 23 (by decide)
              simp only [putAll, e0, e1, e2, e3, e4, e5, e6, e7, e8, e9, e10, e11, e12, e13, e14, e15, e16, e17, e18, e19, e20, e21, e22]
              clear hG9 e0 e1 e2 e3 e4 e5 e6 e7 e8 e9 e10 e11 e12 e13 e14 e15 e16 e17 e18 e19 e20 e21 e22
              clear Bw
              obtain ⟨_, Bw⟩ := eS
              replace q := q.grown hg9 q.size fun k hk => by injection hk with hk; omega
              replace Br := Br.other hg9 fun e => hne (by injection e with e; exact e.symm)
              clear hg9
              go_simp
              have hn := Lib.hid (show runT (adjE E) (16 * o + 4 * i + (j + 1)) = fun a b => if a = i ∧ b = j then false else M a b from hst.out.trans (by unfold cellS; rw [hA.out, hB.out]; simp))
              clear hst hA hB
              go_wp2_with fail
              go_roundw
              case rel => exact ⟨j + 1, by go_num, by omega, Br, by rw [hn.out]; exact Bw, q⟩
              case measure => simp [intOf]; omega
        · obtain rfl : j = 4 := by omega
          go_wp2_with fail
          go_roundw
          case rel => exact ⟨i + 1, by go_num, by omega, Br, by rw [show 16 * o + 4 * (i + 1) = 16 * o + 4 * i + 4 by omega]; exact Bw, q⟩
          case measure => simp [intOf]; omega
      · obtain rfl : i = 4 := by omega
        go_wp2_with fail
        go_roundw
        case rel => exact ⟨o + 1, by go_num, by omega, Br, by rw [show 16 * (o + 1) = 16 * o + 4 * 4 by omega]; exact Bw, q⟩
        case measure => simp [intOf]; omega
    · obtain rfl : o = 4 := by omega
      rw [show 16 * 4 = 64 from rfl] at Bw
      have eW := Lib.hid (show runT (adjE E) 64 = reachE E 4 from funext fun a => funext fun b => runT_eq)
      rw [eW.out] at Bw
      clear eW
      obtain ⟨M, eM⟩ : ∃ M, M = reachE E 4 := ⟨_, rfl⟩
      rw [← eM] at Bw
      replace eM := Lib.hid eM
      have c0 := Bw.cell (i := 0) (m16_at M (i := 0) (j := 0) (by omega) (by omega))
      have c1 := Bw.cell (i := 1) (m16_at M (i := 0) (j := 1) (by omega) (by omega))
      have c2 := Bw.cell (i := 2) (m16_at M (i := 0) (j := 2) (by omega) (by omega))
      have c3 := Bw.cell (i := 3) (m16_at M (i := 0) (j := 3) (by omega) (by omega))
      have c4 := Bw.cell (i := 4) (m16_at M (i := 1) (j := 0) (by omega) (by omega))
      have c5 := Bw.cell (i := 5) (m16_at M (i := 1) (j := 1) (by omega) (by omega))
      have c6 := Bw.cell (i := 6) (m16_at M (i := 1) (j := 2) (by omega) (by omega))
      have c7 := Bw.cell (i := 7) (m16_at M (i := 1) (j := 3) (by omega) (by omega))
      have c8 := Bw.cell (i := 8) (m16_at M (i := 2) (j := 0) (by omega) (by omega))
      have c9 := Bw.cell (i := 9) (m16_at M (i := 2) (j := 1) (by omega) (by omega))
      have c10 := Bw.cell (i := 10) (m16_at M (i := 2) (j := 2) (by omega) (by omega))
      have c11 := Bw.cell (i := 11) (m16_at M (i := 2) (j := 3) (by omega) (by omega))
      have c12 := Bw.cell (i := 12) (m16_at M (i := 3) (j := 0) (by omega) (by omega))
      have c13 := Bw.cell (i := 13) (m16_at M (i := 3) (j := 1) (by omega) (by omega))
      have c14 := Bw.cell (i := 14) (m16_at M (i := 3) (j := 2) (by omega) (by omega))
      have c15 := Bw.cell (i := 15) (m16_at M (i := 3) (j := 3) (by omega) (by omega))
      have hz : z16 = [.bool false, .bool false, .bool false, .bool false, .bool false, .bool false, .bool false, .bool false, .bool false, .bool false, .bool false, .bool false, .bool false, .bool false, .bool false, .bool false] := hz16.out.trans (by simp [m16, adjE])
      rw [hz] at Br
      clear hz
      go_wp2_with (first | (refine wpList_boxStore (us := [.bool (M 0 0), .bool (M 0 1), .bool (M 0 2), .bool (M 0 3), .bool (M 1 0), .bool (M 1 1), .bool (M 1 2), .bool (M 1 3), .bool (M 2 0), .bool (M 2 1), .bool (M 2 2), .bool (M 2 3), .bool (M 3 0), .bool (M 3 1), .bool (M 3 2), .bool (M 3 3)]) (by kernel_rfl) rfl rfl rfl rfl rfl rfl Br rfl ?_; intro wz hgz Bz) | fail)
      have z0 := Bz.cell (i := 0) rfl
      have z1 := Bz.cell (i := 1) rfl
      have z2 := Bz.cell (i := 2) rfl
      have z3 := Bz.cell (i := 3) rfl
      have z4 := Bz.cell (i := 4) rfl
      have z5 := Bz.cell (i := 5) rfl
      have z6 := Bz.cell (i := 6) rfl
      have z7 := Bz.cell (i := 7) rfl
      have z8 := Bz.cell (i := 8) rfl
      have z9 := Bz.cell (i := 9) rfl
      have z10 := Bz.cell (i := 10) rfl
      have z11 := Bz.cell (i := 11) rfl
      have z12 := Bz.cell (i := 12) rfl
      have z13 := Bz.cell (i := 13) rfl
      have z14 := Bz.cell (i := 14) rfl
      have z15 := Bz.cell (i := 15) rfl
      have hu := Tryd.underlying79
      have hs : (Tryd.prog.info? 79).map (·.size) = some 16 := by kernel_rfl
      refine bodyPost_ret (v := .agg #[.bool (M 0 0), .bool (M 0 1), .bool (M 0 2), .bool (M 0 3), .bool (M 1 0), .bool (M 1 1), .bool (M 1 2), .bool (M 1 3), .bool (M 2 0), .bool (M 2 1), .bool (M 2 2), .bool (M 2 3), .bool (M 3 0), .bool (M 3 1), .bool (M 3 2), .bool (M 3 3)]) (by simp [results, Tryd.results52, go_sem, loadVar, isAgg, run_underlying hu, run_sizeOf' hs, loadCellsFrom, Addr.add, z0, z1, z2, z3, z4, z5, z6, z7, z8, z9, z10, z11, z12, z13, z14, z15]) rfl ?_
      exact ⟨by rw [← eM.out], q.grown hgz q.size fun k hk => by injection hk with hk; omega⟩
end Go.Proofs.YtpdnehgboafgpaaDoor
namespace Go.Proofs.YtpdnehgboafgpaaDoor
open Go.RowKit Go.Shelf
theorem heldA_fnd {x : Lk} {H : List Lk} {i : Int} (h : FndK (sameL x) H i) : (i = -1 ∧ heldA x H = H ++ [x]) ∨ ∃ (j : Nat) (_ : j < H.length), i = (j : Int) ∧ heldA x H = H.set j x := by
  rcases h with ⟨h1, h2⟩ | ⟨j, hj, h1, h2, h3⟩
  · exact .inl ⟨h1, heldA_no h2⟩
  · exact .inr ⟨j, hj, h1, heldA_at hj h2 h3⟩
set_option maxRecDepth 100000 in
set_option maxHeartbeats 4000000 in
theorem held_any (w : World) {D : Nat → Prop} {x : Lk} {x1 x3 aH aQ : Option Addr} {x2 x4 cH nQ cQ : Nat} {H : List Lk} (hx : RdLk D w (.agg #[.int .i64 x.owner, .bool x.whole, .int .i64 x.span.table, .slice x1 x.span.lo.length x2, .slice x3 x.span.hi.length x4, .bool x.span.isOpen, .int .i64 x.mode]) x)
    (hH : OwnF Elt.lk 29 D w (.slice aH H.length cH) H) (hD : ∀ k, D k → k < w.heap.size ∧ Value.ownBlock (.slice aH H.length cH) ≠ some k) (hn : H.length ≤ 1000000) :
    Calls Tryd.prog 62 #[.agg #[.int .i64 x.owner, .bool x.whole, .int .i64 x.span.table, .slice x1 x.span.lo.length x2, .slice x3 x.span.hi.length x4, .bool x.span.isOpen, .int .i64 x.mode, .slice aH H.length cH, .slice aQ nQ cQ]] w fun e w' => ∃ a c, e = .returned (.slice a (heldA x H).length c) ∧ OwnF Elt.lk 29 D w' (.slice a (heldA x H).length c) (heldA x H) ∧ w.grownBy w' (Value.ownBlock (.slice aH H.length cH)) ∧
      (Value.ownBlock (.slice a (heldA x H).length c) = Value.ownBlock (.slice aH H.length cH) ∨ ∃ k, Value.ownBlock (.slice a (heldA x H).length c) = some k ∧ w.heap.size ≤ k) := by
  obtain ⟨W, hW, q, Bx, hsz⟩ := spBox w 61 [.int .i64 x.owner, .bool x.whole, .int .i64 x.span.table, .slice x1 x.span.lo.length x2, .slice x3 x.span.hi.length x4, .bool x.span.isOpen, .int .i64 x.mode, .slice aH H.length cH, .slice aQ nQ cQ]
  clear hsz
  have hH0 : ∀ k, Value.ownBlock (.slice aH H.length cH) = some k → k < w.heap.size := fun k hk => hH.lt hk
  go_enter Tryd.func62, Tryd.ntmps62
  go_upto_region 1 with (fail)
  rw [show w.alloc (.cells #[.int .i64 x.owner, .bool x.whole, .int .i64 x.span.table, .slice x1 x.span.lo.length x2, .slice x3 x.span.hi.length x4, .bool x.span.isOpen, .int .i64 x.mode, .slice aH H.length cH, .slice aQ nQ cQ] 61) = W from hW.symm]
  clear hW
  have hDl : ∀ k, D k → k < w.heap.size := fun k hk => (hD k hk).1
  have hC := lIndex_any W ((hH.below q hDl).rdL) _ _ #[] eSame _ (tSame (hx.below q))
  have c0 := Bx.cell (i := 0) rfl
  have c1 := Bx.cell (i := 1) rfl
  have c2 := Bx.cell (i := 2) rfl
  have c3 := Bx.cell (i := 3) rfl
  have c4 := Bx.cell (i := 4) rfl
  have c5 := Bx.cell (i := 5) rfl
  have c6 := Bx.cell (i := 6) rfl
  have c7 := Bx.cell (i := 7) rfl
  have c8 := Bx.cell (i := 8) rfl
  go_wp2_with fail
  refine hC.mono ?_
  rintro e w1 ⟨i, rfl, hi, hb⟩
  have q1 := q.trans (hb.mono q.size)
  have Bx1 := Bx.below hb Bx.lt
  have hH1 := hH.below q1 hDl
  have hx1 := hx.below q1
  have z1 := q1.size
  clear c0 c1 c2 c3 c4 c5 c6 c7 c8 hC hb hx hH Bx
  rcases heldA_fnd hi with ⟨rfl, hh⟩ | ⟨j, hj, rfl, hh⟩
  · have hln : (H ++ [x]).length = H.length + 1 := by rw [List.length_append]; rfl
    replace hh := Lib.hid hh
    clear hi
    have hOb4 : ∀ w4, Below w1.heap.size w1 w4 → OwnF Elt.lk 29 D w4 (.slice aH H.length cH) H := fun w4 hb4 => hH1.below hb4 fun k hk => by have := hDl k hk; omega
    have hS4 : ∀ w4, Below w1.heap.size w1 w4 → ∀ k, D k → k < w4.heap.size ∧ some k ≠ Value.ownBlock (.slice aH H.length cH) := fun w4 hb4 k hk => ⟨by have := hDl k hk; have := hb4.size; omega, fun e => (hD k hk).2 e.symm⟩
    have c0 := Bx1.cell (i := 0) rfl
    have c1 := Bx1.cell (i := 1) rfl
    have c2 := Bx1.cell (i := 2) rfl
    have c3 := Bx1.cell (i := 3) rfl
    have c4 := Bx1.cell (i := 4) rfl
    have c5 := Bx1.cell (i := 5) rfl
    have c6 := Bx1.cell (i := 6) rfl
    have c7 := Bx1.cell (i := 7) rfl
    have c8 := Bx1.cell (i := 8) rfl
    go_wp2_with (first
      | (refine wpList_buildOne lkP rfl rfl rfl (us := [.int .i64 x.owner, .bool x.whole, .int .i64 x.span.table, .slice x1 x.span.lo.length x2, .slice x3 x.span.hi.length x4, .bool x.span.isOpen, .int .i64 x.mode]) rfl rfl (by decide) (by decide) ?_; intro w4 hb4 hrow)
      | (refine wpList_appF (E := Elt.lk) (n := H.length + 1) lkP rfl rfl rfl rfl (hOb4 _ hb4) hrow (Elt.below hx1.R hb4) (hS4 _ hb4) (by omega) rfl ?_; intro ad9 c9 w5 hO9 hg5 ho9)
      | fail)
    go_ret
    have z4 := hb4.size
    rw [← hln] at hO9 ho9 ⊢
    rw [hh.out]
    refine ⟨_, _, rfl, hO9, grownT (grownB (q1.trans (hb4.mono q1.size)) _) hg5, ho9.imp id fun ⟨k, h1, h2⟩ => ⟨k, h1, by omega⟩⟩
  · obtain ⟨vs, hR, hF⟩ := hH1
    replace hR : RowQ 29 7 w1 (.slice aH H.length cH) H.length vs := hR
    replace hh := Lib.hid hh
    clear hi
    rcases hR.cases with ⟨_, h2, _⟩ | ⟨g, cap, cur, h1, h2, _⟩
    · omega
    injection h1 with h1 _ h1c
    subst h1 h1c
    have hgl : g < w1.heap.size := (Array.getElem?_eq_some_iff.1 h2).1
    clear h2
    have hvl := hR.len
    have hjl : ((j : Nat) : Int) < (H.length : Int) := by omega
    have d0 : decide ((0 : Int) ≤ (j : Int)) = true := decide_eq_true (by omega)
    have c0 := Bx1.cell (i := 0) rfl
    have c1 := Bx1.cell (i := 1) rfl
    have c2 := Bx1.cell (i := 2) rfl
    have c3 := Bx1.cell (i := 3) rfl
    have c4 := Bx1.cell (i := 4) rfl
    have c5 := Bx1.cell (i := 5) rfl
    have c6 := Bx1.cell (i := 6) rfl
    have c7 := Bx1.cell (i := 7) rfl
    have c8 := Bx1.cell (i := 8) rfl
    have hgb := Lib.hid (show some g ≠ some w.heap.size from fun e => by injection e with e; have := hH0 g rfl; omega)
    go_wp2_with (first | (refine wpList_putU (us := [.int .i64 x.owner, .bool x.whole, .int .i64 x.span.table, .slice x1 x.span.lo.length x2, .slice x3 x.span.hi.length x4, .bool x.span.isOpen, .int .i64 x.mode]) (f := j * 7) (by kernel_rfl) rfl rfl rfl rfl rfl rfl hR rfl (by simp only [List.length_cons, List.length_nil]; omega) ?_; intro w4 hg4 hR4; have k7 := (Bx1.other hg4 (hgb.out)).cell (i := 7) rfl) | fail)
    go_ret
    have hkp : ∀ k, D k → w4.heap[k]? = w1.heap[k]? := fun k hk => hg4.block k (by have := hDl k hk; omega) fun e => (hD k hk).2 e.symm
    have hO9 := OwnF.set (E := Elt.lk) (T := 29) hj hF (hx1.R) hkp hR4
    rw [hh.out]
    have hsl : (H.set j x).length = H.length := List.length_set
    rw [hsl]
    exact ⟨_, _, rfl, hO9, grownT (grownB q1 _) hg4, .inl rfl⟩
end Go.Proofs.YtpdnehgboafgpaaDoor
namespace Go.Proofs.YtpdnehgboafgpaaDoor
open Go.RowKit Go.Shelf
theorem OwnL.numK {Te : TypeId} {base lo : Nat} {w w' : World} {v : Value} {xs : List Int} (h : OwnL Elt.int Te base lo w v xs) (hk : ∀ g, v.ownBlock = some g → w'.heap[g]? = w.heap[g]?) : OwnL Elt.int Te base lo w' v xs := by
  obtain ⟨vs, h1, h2⟩ := h
  obtain ⟨e, hw⟩ := flat_int.1 h2
  exact ⟨vs, ⟨h1.1, h1.2.imp id fun ⟨g, cap, cur, hv, hb, hg, r⟩ => ⟨g, cap, cur, hv, hb, (hk g (by rw [hv]; rfl)).trans hg, r⟩⟩, flat_int.2 ⟨e, hw⟩⟩
set_option maxRecDepth 100000 in
set_option maxHeartbeats 4000000 in
theorem drop1_yes (w : World) (hT : TabAt w) {S S2 S3 : Nat → Prop} {x : Lk} {x1 x3 aH aQ : Option Addr} {x2 x4 cH cQ bC : Nat} {H Q : List Lk} (hx : RdLk S w (.agg #[.int .i64 x.owner, .bool x.whole, .int .i64 x.span.table, .slice x1 x.span.lo.length x2, .slice x3 x.span.hi.length x4, .bool x.span.isOpen, .int .i64 x.mode]) x)
    (hH : RdL Elt.lk S2 w (.slice aH H.length cH) H) (hQ : RdL Elt.lk S3 w (.slice aQ Q.length cQ) Q) (hb : blk x H Q = true) :
    Calls Tryd.prog 56 #[.agg #[.int .i64 x.owner, .bool x.whole, .int .i64 x.span.table, .slice x1 x.span.lo.length x2, .slice x3 x.span.hi.length x4, .bool x.span.isOpen, .int .i64 x.mode, .slice aH H.length cH, .slice aQ Q.length cQ], .pointer (some ⟨bC, 0, none⟩)] w fun e w' => e = .returned (.int .i64 0) ∧ Below w.heap.size w w' := by
  obtain ⟨W, hW, q, Bx, hsz⟩ := spBox w 61 [.int .i64 x.owner, .bool x.whole, .int .i64 x.span.table, .slice x1 x.span.lo.length x2, .slice x3 x.span.hi.length x4, .bool x.span.isOpen, .int .i64 x.mode, .slice aH H.length cH, .slice aQ Q.length cQ]
  clear hsz
  replace hb := Lib.hid hb
  have hC1 := blocked_any W (hT.below q) (hx.below q) (hH.below q) (hQ.below q)
  go_enter Tryd.func56, Tryd.ntmps56
  go_upto_region 1 with (fail)
  rw [show w.alloc (.cells #[.int .i64 x.owner, .bool x.whole, .int .i64 x.span.table, .slice x1 x.span.lo.length x2, .slice x3 x.span.hi.length x4, .bool x.span.isOpen, .int .i64 x.mode, .slice aH H.length cH, .slice aQ Q.length cQ] 61) = W from hW.symm]
  clear hW
  have c0 := Bx.cell (i := 0) rfl
  have c1 := Bx.cell (i := 1) rfl
  have c2 := Bx.cell (i := 2) rfl
  have c3 := Bx.cell (i := 3) rfl
  have c4 := Bx.cell (i := 4) rfl
  have c5 := Bx.cell (i := 5) rfl
  have c6 := Bx.cell (i := 6) rfl
  have c7 := Bx.cell (i := 7) rfl
  have c8 := Bx.cell (i := 8) rfl
  go_wp2_with fail
  refine hC1.mono ?_
  rintro e w1 ⟨rfl, hb1⟩
  have q1 := q.trans (hb1.mono q.size)
  have Bx1 := Bx.below hb1 Bx.lt
  clear c0 c1 c2 c3 c4 c5 c6 c7 c8 hC1
  rw [hb.out]
  clear hb
  go_wp2_with fail
  go_ret
  exact ⟨rfl, q1⟩
set_option maxRecDepth 100000 in
set_option maxHeartbeats 4000000 in
theorem drop1_no (w : World) (hT : TabAt w) {S S2 S3 : Nat → Prop} {x : Lk} {x1 x3 aH aQ aC : Option Addr} {x2 x4 cH cQ bC kC base lo : Nat} {H Q : List Lk} {l : List Int} (hx : RdLk S w (.agg #[.int .i64 x.owner, .bool x.whole, .int .i64 x.span.table, .slice x1 x.span.lo.length x2, .slice x3 x.span.hi.length x4, .bool x.span.isOpen, .int .i64 x.mode]) x)
    (hH : RdL Elt.lk S2 w (.slice aH H.length cH) H) (hQ : RdL Elt.lk S3 w (.slice aQ Q.length cQ) Q) (hC : BoxN w bC 34 [.slice aC l.length kC]) (hO : OwnL Elt.int 3 base lo w (.slice aC l.length kC) l) (hbC : bC < base) (hbw : base ≤ w.heap.size) (ho : W64 x.owner) (hn : l.length ≤ 1000000) (hb : blk x H Q = false) :
    Calls Tryd.prog 56 #[.agg #[.int .i64 x.owner, .bool x.whole, .int .i64 x.span.table, .slice x1 x.span.lo.length x2, .slice x3 x.span.hi.length x4, .bool x.span.isOpen, .int .i64 x.mode, .slice aH H.length cH, .slice aQ Q.length cQ], .pointer (some ⟨bC, 0, none⟩)] w fun e w' => e = .returned (.int .i64 1) ∧ (∃ a' k', BoxN w' bC 34 [.slice a' (l ++ [x.owner]).length k'] ∧ OwnL Elt.int 3 base lo w' (.slice a' (l ++ [x.owner]).length k') (l ++ [x.owner]) ∧ (Value.ownBlock (.slice a' (l ++ [x.owner]).length k') = Value.ownBlock (.slice aC l.length kC) ∨ Value.ownBlock (.slice a' (l ++ [x.owner]).length k') = some w'.heap.size ∨ ∃ k, Value.ownBlock (.slice a' (l ++ [x.owner]).length k') = some k ∧ w.heap.size ≤ k)) ∧ Trd (fun k => k = bC ∨ Value.ownBlock (.slice aC l.length kC) = some k) w w' := by
  obtain ⟨W, hW, q, Bx, hsz⟩ := spBox w 61 [.int .i64 x.owner, .bool x.whole, .int .i64 x.span.table, .slice x1 x.span.lo.length x2, .slice x3 x.span.hi.length x4, .bool x.span.isOpen, .int .i64 x.mode, .slice aH H.length cH, .slice aQ Q.length cQ]
  clear hsz
  replace hb := Lib.hid hb
  have hC1 := blocked_any W (hT.below q) (hx.below q) (hH.below q) (hQ.below q)
  go_enter Tryd.func56, Tryd.ntmps56
  go_upto_region 1 with (fail)
  rw [show w.alloc (.cells #[.int .i64 x.owner, .bool x.whole, .int .i64 x.span.table, .slice x1 x.span.lo.length x2, .slice x3 x.span.hi.length x4, .bool x.span.isOpen, .int .i64 x.mode, .slice aH H.length cH, .slice aQ Q.length cQ] 61) = W from hW.symm]
  clear hW
  have c0 := Bx.cell (i := 0) rfl
  have c1 := Bx.cell (i := 1) rfl
  have c2 := Bx.cell (i := 2) rfl
  have c3 := Bx.cell (i := 3) rfl
  have c4 := Bx.cell (i := 4) rfl
  have c5 := Bx.cell (i := 5) rfl
  have c6 := Bx.cell (i := 6) rfl
  have c7 := Bx.cell (i := 7) rfl
  have c8 := Bx.cell (i := 8) rfl
  go_wp2_with fail
  refine hC1.mono ?_
  rintro e w1 ⟨rfl, hb1⟩
  have q1 := q.trans (hb1.mono q.size)
  have Bx1 := Bx.below hb1 Bx.lt
  clear c0 c1 c2 c3 c4 c5 c6 c7 c8 hC1
  rw [hb.out]
  clear hb
  have hC1 := hC.below q1 hC.lt
  have hO1 := hO.below q1
  have f0 := Bx1.cell (i := 0) rfl
  have g0 := hC1.cell (i := 0) rfl
  have hrr : ∀ k, Value.ownBlock (.slice aC l.length kC) = some k → base ≤ k ∧ k < w1.heap.size := fun k hk => hO1.block_lt k hk
  have hR : ∀ V, Elt.int.R (fun k => w.heap.size ≤ k ∧ k < w.heap.size) V x.owner [.int .i64 x.owner] := fun V => ⟨rfl, ho⟩
  have hSV : ∀ V : World, ∀ k, (w.heap.size ≤ k ∧ k < w.heap.size) → lo ≤ k ∧ k < V.heap.size ∧ some k ≠ Value.ownBlock (.slice aC l.length kC) := fun V k hk => by omega
  have hbs : ∀ V : World, Below w1.heap.size w1 V → base ≤ V.heap.size := fun V h => by have := h.size; have := q1.size; omega
  have hbr : Value.ownBlock (.slice aC l.length kC) ≠ some bC := fun e => by have := hrr _ e; omega
  go_wp2_with (first
    | (refine wpList_buildOne inP rfl rfl rfl (us := [.int .i64 x.owner]) rfl rfl (by decide) (by decide) ?_; intro w6 hb6 hrow)
    | (refine wpList_apvRow (E := Elt.int) (n := l.length + 1) inP rfl rfl rfl rfl (hO1.below hb6) hrow (hR _) (hSV _) (hbs _ hb6) (by omega) rfl ?_; intro ad9 c9 w7 hO9 hg7 ho9)
    | (refine wpList_boxSet (j := 0) rfl rfl rfl (by kernel_rfl) rfl rfl rfl rfl ((hC1.below hb6 hC1.lt).other hg7 hbr) (by simp) ?_; intro w8 hg8 hB8)
    | fail)
  go_ret
  have z6 := hb6.size
  have z7 := hg7.size
  have z8 := hg8.size
  have z1 := q1.size
  have hln : (l ++ [x.owner]).length = l.length + 1 := by rw [List.length_append]; rfl
  have hob9 := fun k hk => hO9.block_lt k hk
  have hne9 : Value.ownBlock (.slice ad9 (l.length + 1) c9) ≠ some bC := fun e => by have := (hob9 _ e).1; omega
  refine ⟨rfl, ⟨ad9, c9, hB8, ?_, ?_⟩, ?_⟩
  · exact hO9.numK (fun g hg => hg8.block g (hob9 g hg).2 fun e => hne9 (hg.trans (by rw [e])))
  · rcases ho9 with e | e
    · exact .inl e
    · exact .inr (.inr ⟨_, e, by omega⟩)
  · exact ((Trd.of (q1.trans (hb6.mono q1.size))).trans (Trd.ofGrown hg7 (F := fun k => k = bC ∨ Value.ownBlock (.slice aC l.length kC) = some k) (fun k e => .inr e)) (fun _ _ h => h)).trans (Trd.ofGrown hg8 (F := fun k => k = bC ∨ Value.ownBlock (.slice aC l.length kC) = some k) (fun k e => by injection e with e; exact .inl e.symm)) (fun _ _ h => h)
theorem goD_cons (H Q : List Lk) (x : Lk) (l : List Lk) (c : List Int) : goD H Q (x :: l) c = if blk x H Q = true then goD H (Q ++ [x]) l c else goD (heldA x H) Q l (c ++ [x.owner]) := rfl
theorem eDrop1 : Enters Tryd.prog 56 := enters_of Tryd.func56 (by kernel_rfl) rfl
theorem OwnF.lk {T : TypeId} {D : Nat → Prop} {w : World} {a : Option Addr} {n c : Nat} {l : List Lk} (h : OwnF Elt.lk T D w (.slice a n c) l) (r : Nat) (hr : r < l.length) :
    ∃ b A C A2 C2, a = some ⟨b, 0, none⟩ ∧ w.cell? ⟨b, r * 7, none⟩ = some (.int .i64 l[r].owner) ∧ w.cell? ⟨b, r * 7 + 1, none⟩ = some (.bool l[r].whole) ∧ w.cell? ⟨b, r * 7 + 2, none⟩ = some (.int .i64 l[r].span.table) ∧ w.cell? ⟨b, r * 7 + 3, none⟩ = some (.slice A l[r].span.lo.length C) ∧
      w.cell? ⟨b, r * 7 + 4, none⟩ = some (.slice A2 l[r].span.hi.length C2) ∧ w.cell? ⟨b, r * 7 + 5, none⟩ = some (.bool l[r].span.isOpen) ∧ w.cell? ⟨b, r * 7 + 6, none⟩ = some (.int .i64 l[r].mode) ∧
      RdS D w (.slice A l[r].span.lo.length C) l[r].span.lo ∧ RdS D w (.slice A2 l[r].span.hi.length C2) l[r].span.hi ∧ Lk64 l[r] := by
  obtain ⟨vs, h1, h2⟩ := h
  rcases h1.cases with ⟨_, h0, _⟩ | ⟨g, cap, cur, e, hg, _⟩
  · omega
  cases e
  obtain ⟨us, ⟨k, u, rfl, hk, hu, hi⟩, h4⟩ := h2.at r hr
  obtain ⟨A, C, rfl, _, _⟩ := hk.shape
  obtain ⟨A2, C2, rfl, _, _⟩ := hu.shape
  have hc : ∀ j u, (lkC l[r] (.slice A l[r].span.lo.length C) (.slice A2 l[r].span.hi.length C2))[j]? = some u → w.cell? ⟨g, r * 7 + j, none⟩ = some u := fun j u hj => h1.cell rfl (h4 j u hj)
  exact ⟨g, A, C, A2, C2, rfl, hc 0 _ rfl, hc 1 _ rfl, hc 2 _ rfl, hc 3 _ rfl, hc 4 _ rfl, hc 5 _ rfl, hc 6 _ rfl, hk, hu, hi⟩
def TakeEnd (B : Nat) (D : Nat → Prop) (bC : Nat) (r : List Lk × List Lk × List Int) (fp : Nat → Prop) (w : World) (e : Ending) (w' : World) : Prop :=
  ∃ a c a2 c2 a3 c3, e = .returned (.agg #[.slice a r.1.length c, .slice a2 r.2.1.length c2]) ∧ OwnF Elt.lk 29 D w' (.slice a r.1.length c) r.1 ∧ OwnF Elt.lk 29 D w' (.slice a2 r.2.1.length c2) r.2.1 ∧ BoxN w' bC 34 [.slice a3 r.2.2.length c3] ∧ OwnL Elt.int 3 B B w' (.slice a3 r.2.2.length c3) r.2.2 ∧
    (∀ g, Value.ownBlock (.slice a r.1.length c) = some g → (fp g ∨ B ≤ g) ∧ g ≠ bC) ∧ (∀ g, Value.ownBlock (.slice a2 r.2.1.length c2) = some g → B ≤ g ∧ Value.ownBlock (.slice a r.1.length c) ≠ some g) ∧ (∀ g, Value.ownBlock (.slice a3 r.2.2.length c3) = some g → Value.ownBlock (.slice a r.1.length c) ≠ some g ∧ Value.ownBlock (.slice a2 r.2.1.length c2) ≠ some g) ∧ Trd fp w w'
set_option maxRecDepth 100000 in
set_option maxHeartbeats 8000000 in
theorem take_any (w : World) (hT : TabAt w) {D : Nat → Prop} {aH aL : Option Addr} {cH cL bC : Nat} {H0 Q : List Lk} (hH : OwnF Elt.lk 29 D w (.slice aH H0.length cH) H0) (hQ : OwnF Elt.lk 29 D w (.slice aL Q.length cL) Q) (hC : BoxN w bC 34 [.slice none 0 0]) (hn : H0.length + Q.length ≤ 1000000)
    (hD : ∀ k, D k → k < w.heap.size ∧ Value.ownBlock (.slice aH H0.length cH) ≠ some k ∧ Value.ownBlock (.slice aL Q.length cL) ≠ some k ∧ k ≠ bC) (hHQ : ∀ k, Value.ownBlock (.slice aH H0.length cH) = some k → Value.ownBlock (.slice aL Q.length cL) ≠ some k ∧ k ≠ bC ∧ k ≠ 0) (hQC : Value.ownBlock (.slice aL Q.length cL) ≠ some bC) (hC0 : bC ≠ 0) :
    Calls Tryd.prog 41 #[.agg #[.slice aH H0.length cH, .slice aL Q.length cL], .func (.func 56) #[] #[.pointer (some ⟨bC, 0, none⟩)]] w (TakeEnd w.heap.size D bC (goD H0 [] Q []) (fun k => k = bC ∨ Value.ownBlock (.slice aH H0.length cH) = some k) w) := by
  obtain ⟨fp, efp⟩ : ∃ fp : Nat → Prop, fp = (fun k => k = bC ∨ Value.ownBlock (.slice aH H0.length cH) = some k) := ⟨_, rfl⟩
  have hfp : ∀ k, fp k → k < w.heap.size := fun k hk => by rw [efp] at hk; exact hk.elim (fun e => by rw [e]; exact hC.lt) fun e => hH.lt e
  have hfD : ∀ k, D k → ¬ fp k := fun k hk h => by rw [efp] at h; exact h.elim (hD k hk).2.2.2 (hD k hk).2.1
  have hf0 : ¬ fp 0 := fun h => by rw [efp] at h; exact h.elim (fun e => hC0 e.symm) fun e => (hHQ 0 e).2.2 rfl
  have hfQ : ∀ k, Value.ownBlock (.slice aL Q.length cL) = some k → ¬ fp k := fun k hk h => by rw [efp] at h; exact h.elim (fun e => hQC (by rw [← e]; exact hk)) fun e => (hHQ k e).1 hk
  have hfC : fp bC := by rw [efp]; exact .inl rfl
  have hfH : ∀ k, Value.ownBlock (.slice aH H0.length cH) = some k → fp k ∧ k ≠ bC := fun k hk => ⟨by rw [efp]; exact .inr hk, (hHQ k hk).2.1⟩
  rw [← efp]
  have hDl : ∀ k, D k → k < w.heap.size := fun k hk => (hD k hk).1
  obtain ⟨W0, hW, q, bn, bz, hsz⟩ := boxes2 w 24 24 [.slice aH H0.length cH, .slice aL Q.length cL] [.slice none 0 0, .slice none 0 0]
  have hEE := eDrop1
  unfold Enters at hEE
  go_enter Tryd.func41, Tryd.ntmps41
  go_wp2
  go_step3
  go_upto_region 1 with (fail)
  rw [show (w.alloc (.cells #[.slice aH H0.length cH, .slice aL Q.length cL] 24)).alloc (.cells #[.slice none 0 0, .slice none 0 0] 24) = W0 from hW.symm]
  clear hW efp hD hHQ hQC hC0
  have zW : W0.heap.size = w.heap.size + 1 + 1 := hsz
  have zW2 : w.heap.size + 1 < W0.heap.size := by omega
  replace zW := Lib.hid zW
  clear hsz
  have b0 := bn.cell (i := 0) rfl
  go_upto_region 2 with (first | (refine wpList_boxNew (vs := [.slice none 0 0, .slice none 0 0]) (by kernel_rfl) rfl rfl ?_; intro wa hba hBa) | (refine wpList_boxStore (us := [.slice aH H0.length cH, .slice none 0 0]) (by kernel_rfl) rfl rfl rfl rfl rfl rfl hBa rfl ?_; intro W1 hg1 hB1) | fail)
  have hb1 : Below W0.heap.size W0 W1 := hba.grown hg1 hba.size fun k hk => by injection hk with hk; omega
  have qb := q.trans (hb1.mono q.size)
  have q1 : Trd fp w W1 := Trd.of qb
  have zL := hB1.lt
  have bn1 := bn.below hb1 bn.lt
  have bz1 := bz.below hb1 bz.lt
  have hH1 := hH.below qb hDl
  have hC1 := hC.below qb hC.lt
  have hHl0 : ∀ k, Value.ownBlock (.slice aH H0.length cH) = some k → k < w.heap.size := fun k hk => hH.lt hk
  clear b0 hba hBa hg1 hb1 bn bz q hH hC qb
  have b1 := bn1.cell (i := 1) rfl
  go_step3
  go_upto_region 3 with (fail)
  clear b1
  go_loopw [15] (fun iv wr => ∃ (k : Nat) (ad aHc aC : Option Addr) (ko cHc kC : Nat) (Hc Qc : List Lk) (cc : List Int), iv = .int .i64 k ∧ k ≤ Q.length ∧ goD Hc Qc (Q.drop k) cc = goD H0 [] Q [] ∧ Hc.length + Qc.length ≤ H0.length + k ∧ cc.length ≤ k ∧
      OwnF Elt.lk 29 D wr (.slice aHc Hc.length cHc) Hc ∧ OwnF Elt.lk 29 D wr (.slice ad Qc.length ko) Qc ∧ BoxN wr bC 34 [.slice aC cc.length kC] ∧ OwnL Elt.int 3 (W0.heap.size + 1) (W0.heap.size + 1) wr (.slice aC cc.length kC) cc ∧
      (∀ g, Value.ownBlock (.slice aHc Hc.length cHc) = some g → (fp g ∧ g ≠ bC) ∨ W0.heap.size < g) ∧ (∀ g, Value.ownBlock (.slice ad Qc.length ko) = some g → W0.heap.size < g ∧ Value.ownBlock (.slice aHc Hc.length cHc) ≠ some g) ∧ (∀ g, Value.ownBlock (.slice aC cc.length kC) = some g → Value.ownBlock (.slice aHc Hc.length cHc) ≠ some g ∧ Value.ownBlock (.slice ad Qc.length ko) ≠ some g) ∧
      BoxN wr W0.heap.size 24 [.slice aHc Hc.length cHc, .slice ad Qc.length ko] ∧ BoxN wr (w.heap.size + 1) 24 [.slice none 0 0, .slice none 0 0] ∧ Trd fp w wr)
    (fun i _ => Q.length - (intOf i).toNat)
  case atStart => exact ⟨0, none, aH, none, 0, cH, 0, H0, [], [], rfl, Nat.zero_le _, rfl, by simp, Nat.le_refl _, hH1, OwnF.nil _ _ _ _, hC1, OwnL.nil _ _ _ _ _, fun g hg => .inl (hfH g hg), fun g h => by simp [Value.ownBlock] at h, fun g h => by simp [Value.ownBlock] at h, hB1, bz1, q1⟩
  case round =>
    clear hB1 bz1 bn1 hH1 hC1
    obtain ⟨k, ad, aHc, aC, ko, cHc, kC, Hc, Qc, cc, rfl, hkl, hgo, hcnt, hcc, hHc, hQc, hC, hO, hoH, hoQ, hoC, hB, bz, q⟩ := hrel
    replace hgo := Lib.hid hgo
    have zz := q.size
    have hbCl0 : bC < w.heap.size := hfp bC hfC
    have hoHb : ∀ g, Value.ownBlock (.slice aHc Hc.length cHc) = some g → g ≠ bC := fun g hg => (hoH g hg).elim (fun h => h.2) fun h => by omega
    have hoHl : ∀ g, Value.ownBlock (.slice aHc Hc.length cHc) = some g → g ≠ W0.heap.size := fun g hg => (hoH g hg).elim (fun h => by have := hfp g h.1; omega) fun h => by omega
    have hoHz : ∀ g, Value.ownBlock (.slice aHc Hc.length cHc) = some g → g ≠ w.heap.size + 1 := fun g hg => (hoH g hg).elim (fun h => by have := hfp g h.1; omega) fun h => by omega
    have hoHD : ∀ k, D k → Value.ownBlock (.slice aHc Hc.length cHc) ≠ some k := fun k hk e => (hoH k e).elim (fun h => hfD k hk h.1) fun h => by have := hDl k hk; omega
    rcases Nat.lt_or_ge k Q.length with hlt | hge
    · have hQ2 := hQ.trd q hfQ (fun k hk => ⟨hDl k hk, hfD k hk⟩)
      obtain ⟨b, KA, KC, VA, VC, rfl, c0, c1, c2, c3, c4, c5, c6, hk1, hk2, hw64⟩ := hQ2.lk k hlt
      obtain ⟨x, ex⟩ : ∃ x, x = Q[k] := ⟨_, rfl⟩
      have hg1 := Lib.hid (show (blk x Hc Qc = true → goD Hc (Qc ++ [x]) (Q.drop (k + 1)) cc = goD H0 [] Q []) ∧ (blk x Hc Qc = false → goD (heldA x Hc) Qc (Q.drop (k + 1)) (cc ++ [x.owner]) = goD H0 [] Q []) by
        have h := hgo.out
        rw [List.drop_eq_getElem_cons hlt, ← ex] at h
        rw [goD_cons] at h
        exact ⟨fun hb => by rw [if_pos hb] at h; exact h, fun hb => by rw [if_neg (by rw [hb]; decide)] at h; exact h⟩)
      rw [← ex] at c0 c1 c2 c3 c4 c5 c6 hk1 hk2 hw64
      clear ex hgo
      go_upto_region 5 with (first | (refine wpList_boxNew (vs := [.int .i64 0, .bool false, .int .i64 0, .slice none 0 0, .slice none 0 0, .bool false, .int .i64 0]) (by kernel_rfl) rfl rfl ?_; intro wa hba hBa) | (refine wpList_boxStore (us := [.int .i64 x.owner, .bool x.whole, .int .i64 x.span.table, .slice KA x.span.lo.length KC, .slice VA x.span.hi.length VC, .bool x.span.isOpen, .int .i64 x.mode]) (by kernel_rfl) rfl rfl rfl rfl rfl rfl hBa rfl ?_; intro W hgw hXW) | fail)
      go_simp
      have hbw : Below wr.heap.size wr W := hba.grown hgw hba.size fun k hk => by injection hk with hk; omega
      have zw := hbw.size
      have zB := hB.lt
      have zX := hXW.lt
      have hDw : ∀ k, D k → k < wr.heap.size := fun k hk => by have := hDl k hk; omega
      have hx : RdLk D W (.agg #[.int .i64 x.owner, .bool x.whole, .int .i64 x.span.table, .slice KA x.span.lo.length KC, .slice VA x.span.hi.length VC, .bool x.span.isOpen, .int .i64 x.mode]) x := ⟨_, _, _, _, rfl, hk1.below hbw, hk2.below hbw, hw64⟩
      replace q := q.trans (Trd.of hbw) (fun _ _ h => h)
      replace hB := hB.below hbw hB.lt
      replace bz := bz.below hbw bz.lt
      replace hC := hC.below hbw hC.lt
      replace hO := hO.below hbw
      replace hHc := hHc.below hbw hDw
      replace hQc := hQc.below hbw hDw
      clear c0 c1 c2 c3 c4 c5 c6 hk1 hk2 hba hBa hgw hbw hQ2
      have f0 := hXW.cell (i := 0) rfl
      have f1 := hXW.cell (i := 1) rfl
      have f2 := hXW.cell (i := 2) rfl
      have f3 := hXW.cell (i := 3) rfl
      have f4 := hXW.cell (i := 4) rfl
      have f5 := hXW.cell (i := 5) rfl
      have f6 := hXW.cell (i := 6) rfl
      have d0 := hB.cell (i := 0) rfl
      have d1 := hB.cell (i := 1) rfl
      go_upto_region 6 with (first | (refine wpList_boxNew (vs := [.int .i64 0, .bool false, .int .i64 0, .slice none 0 0, .slice none 0 0, .bool false, .int .i64 0, .slice none 0 0, .slice none 0 0]) (by kernel_rfl) rfl rfl ?_; intro wa hba hBa) | (refine wpList_boxStore (us := [.int .i64 x.owner, .bool x.whole, .int .i64 x.span.table, .slice KA x.span.lo.length KC, .slice VA x.span.hi.length VC, .bool x.span.isOpen, .int .i64 x.mode, .slice aHc Hc.length cHc, .slice ad Qc.length ko]) (by kernel_rfl) rfl rfl rfl rfl rfl rfl hBa rfl ?_; intro W2 hgw hYW) | fail)
      go_simp
      have hbw : Below W.heap.size W W2 := hba.grown hgw hba.size fun k hk => by injection hk with hk; omega
      have zw2 := hbw.size
      have zY := hYW.lt
      have hDw2 : ∀ k, D k → k < W.heap.size := fun k hk => by have := hDl k hk; omega
      replace q := q.trans (Trd.of hbw) (fun _ _ h => h)
      replace hB := hB.below hbw hB.lt
      replace bz := bz.below hbw bz.lt
      replace hC := hC.below hbw hC.lt
      have hrrCW : ∀ g, Value.ownBlock (.slice aC cc.length kC) = some g → g < W.heap.size := fun g hg => (hO.block_lt g hg).2
      replace hO := hO.below hbw
      replace hHc := hHc.below hbw hDw2
      replace hQc := hQc.below hbw hDw2
      replace hXW := hXW.below hbw hXW.lt
      replace hx := hx.below hbw
      clear f0 f1 f2 f3 f4 f5 f6 d0 d1 hba hBa hgw hbw
      have e0 := hYW.cell (i := 0) rfl
      have e1 := hYW.cell (i := 1) rfl
      have e2 := hYW.cell (i := 2) rfl
      have e3 := hYW.cell (i := 3) rfl
      have e4 := hYW.cell (i := 4) rfl
      have e5 := hYW.cell (i := 5) rfl
      have e6 := hYW.cell (i := 6) rfl
      have e7 := hYW.cell (i := 7) rfl
      have e8 := hYW.cell (i := 8) rfl
      have hTW := q.tab hT hf0
      have hrrH : ∀ g, Value.ownBlock (.slice aHc Hc.length cHc) = some g → g < W2.heap.size := fun g hg => hHc.lt hg
      have hrrQ : ∀ g, Value.ownBlock (.slice ad Qc.length ko) = some g → g < W2.heap.size := fun g hg => hQc.lt hg
      have hrrC : ∀ g, Value.ownBlock (.slice aC cc.length kC) = some g → W0.heap.size + 1 ≤ g ∧ g < W2.heap.size := fun g hg => hO.block_lt g hg
      have hbCl : bC < w.heap.size := hfp bC hfC
      have hobY : ∀ g, Value.ownBlock (.slice aC cc.length kC) = some g → g < W.heap.size := hrrCW
      cases hbk : blk x Hc Qc with
      | true =>
        have hd := drop1_yes W2 hTW (bC := bC) hx hHc.rdL hQc.rdL hbk
        have hgo9 := Lib.hid (hg1.out.1 hbk)
        clear hbk hg1
        go_wp2_with fail
        refine hd.mono ?_
        rintro e w3 ⟨rfl, hb3⟩
        have z3 := hb3.size
        have hDw3 : ∀ k, D k → k < W2.heap.size := fun k hk => by have := hDl k hk; omega
        replace q := q.trans (Trd.of hb3) (fun _ _ h => h)
        replace hB := hB.below hb3 hB.lt
        replace bz := bz.below hb3 bz.lt
        replace hC := hC.below hb3 hC.lt
        replace hO := hO.below hb3
        replace hHc := hHc.below hb3 hDw3
        replace hQc := hQc.below hb3 hDw3
        replace hXW := hXW.below hb3 hXW.lt
        replace hx := hx.below hb3
        clear e0 e1 e2 e3 e4 e5 e6 e7 e8 hd hb3 hYW
        have f0 := hXW.cell (i := 0) rfl
        have f1 := hXW.cell (i := 1) rfl
        have f2 := hXW.cell (i := 2) rfl
        have f3 := hXW.cell (i := 3) rfl
        have f4 := hXW.cell (i := 4) rfl
        have f5 := hXW.cell (i := 5) rfl
        have f6 := hXW.cell (i := 6) rfl
        have d1 := hB.cell (i := 1) rfl
        have hbr : Value.ownBlock (.slice ad Qc.length ko) ≠ some W0.heap.size := fun e => by have := (hoQ _ e).1; omega
        have hbr2 : Value.ownBlock (.slice ad Qc.length ko) ≠ some (w.heap.size + 1) := fun e => by have := (hoQ _ e).1; omega
        have hbr3 : Value.ownBlock (.slice ad Qc.length ko) ≠ some bC := fun e => by have := (hoQ _ e).1; omega
        have hOb4 : ∀ w4, Below w3.heap.size w3 w4 → OwnF Elt.lk 29 D w4 (.slice ad Qc.length ko) Qc := fun w4 hb4 => hQc.below hb4 fun k hk => by have := hDl k hk; omega
        have hS4 : ∀ w4, Below w3.heap.size w3 w4 → ∀ k, D k → k < w4.heap.size ∧ some k ≠ Value.ownBlock (.slice ad Qc.length ko) := fun w4 hb4 k hk => ⟨by have := hDl k hk; have := hb4.size; omega, fun e => by have := hoQ k e.symm; have := hDl k hk; omega⟩
        go_wp2_with (first
          | (refine wpList_buildOne lkP rfl rfl rfl (us := [.int .i64 x.owner, .bool x.whole, .int .i64 x.span.table, .slice KA x.span.lo.length KC, .slice VA x.span.hi.length VC, .bool x.span.isOpen, .int .i64 x.mode]) rfl rfl (by decide) (by decide) ?_; intro w4 hb4 hrow)
          | (refine wpList_appF (E := Elt.lk) (n := Qc.length + 1) lkP rfl rfl rfl rfl (hOb4 _ hb4) hrow (Elt.below hx.R hb4) (hS4 _ hb4) (by omega) rfl ?_; intro ad9 c9 w5 hO9 hg5 ho9)
          | (refine wpList_boxSet (j := 1) rfl rfl rfl (by kernel_rfl) rfl rfl rfl rfl ((hB.below hb4 hB.lt).other hg5 hbr) (by simp) ?_; intro w6 hg6 hB6)
          | fail)
        have z4 := hb4.size
        have z5 := hg5.size
        have hob9 : ∀ g, Value.ownBlock (.slice ad9 (Qc.length + 1) c9) = some g → (W0.heap.size < g ∧ g < w5.heap.size) ∧ (Value.ownBlock (.slice aHc Hc.length cHc) ≠ some g ∧ Value.ownBlock (.slice aC cc.length kC) ≠ some g) := fun g hg => by
          rcases ho9 with e | ⟨k9, e, h9⟩
          · rw [e] at hg; exact ⟨⟨(hoQ g hg).1, by have := hrrQ g hg; omega⟩, (hoQ g hg).2, fun e2 => (hoC g e2).2 hg⟩
          · have hgl := hO9.lt hg
            rw [e] at hg; injection hg with hg
            exact ⟨⟨by omega, hgl⟩, fun e2 => by have := hrrH g e2; omega, fun e2 => by have := hrrC g e2; omega⟩
        have hkp : ∀ k, k < w3.heap.size → Value.ownBlock (.slice ad Qc.length ko) ≠ some k → k ≠ W0.heap.size → w6.heap[k]? = w3.heap[k]? := fun k h1 h2 h3 => ((hg6.block k (by omega) fun e => by injection e with e; exact h3 e).trans (hg5.block k (by omega) fun e => h2 e.symm)).trans (hb4.block k h1)
        have hkD : ∀ k, D k → w6.heap[k]? = w3.heap[k]? := fun k hk => hkp k (by have := hDl k hk; omega) (fun e => by have := hoQ k e; have := hDl k hk; omega) (by have := hDl k hk; omega)
        have hH6 := hHc.kept (w' := w6) (fun g hg => hkp g (by have := hrrH g hg; omega) (fun e => (hoQ g e).2 hg) (hoHl g hg)) hkD
        have hQ6 := hO9.kept (w' := w6) (fun g hg => hg6.block g (hob9 g hg).1.2 fun e => by injection e with e; have := (hob9 g hg).1.1; omega) (fun k hk => hg6.block k (by have := hDl k hk; omega) fun e => by injection e with e; have := hDl k hk; omega)
        have hC6 := (((hC.below hb4 hC.lt).other hg5 hbr3)).other hg6 (fun e => by injection e with e; omega)
        have bz6 := (((bz.below hb4 bz.lt).other hg5 hbr2)).other hg6 (fun e => by injection e with e; omega)
        have hO6 := hO.numK (w' := w6) (fun g hg => hkp g (by have := hrrC g hg; omega) (fun e => (hoC g hg).2 e) (by have := hrrC g hg; omega))
        have q6 := ((q.trans (Trd.of hb4) (fun _ _ h => h)).hi hg5 (fun g hg => by have := hoQ g hg; omega)).hi hg6 (fun g hg => by injection hg with hg; omega)
        have hln : (Qc ++ [x]).length = Qc.length + 1 := by rw [List.length_append]; rfl
        have hob6 := hob9
        rw [← hln] at hQ6 hB6 hob6
        replace hln := Lib.hid hln
        clear f0 f1 f2 f3 f4 f5 f6 d1 hrow hb4 hg5 hg6 hO hB hO9 bz hXW hx ho9 hob9 hrrH hrrQ hrrC hbr hbr2 hbr3 hOb4 hS4 hkp hkD q hHc hQc hC
        go_wp2_with fail
        go_roundw
        case rel => exact ⟨k + 1, ad9, aHc, aC, c9, cHc, kC, Hc, Qc ++ [x], cc, by go_num, by omega, hgo9.out, by rw [hln.out]; omega, by omega, hH6, hQ6, hC6, hO6, hoH, fun g hg => ⟨(hob6 g hg).1.1, (hob6 g hg).2.1⟩, fun g hg => ⟨(hoC g hg).1, fun e => (hob6 g e).2.2 hg⟩, hB6, bz6, q6⟩
        case measure => simp [intOf]; omega
      | false =>
        have hd := drop1_no W2 hTW (bC := bC) hx hHc.rdL hQc.rdL hC hO (by omega) (by omega) hw64.1 (by omega) hbk
        have hgo9 := Lib.hid (hg1.out.2 hbk)
        clear hbk hg1
        go_wp2_with fail
        refine hd.mono ?_
        rintro e w3 ⟨rfl, ⟨aC9, kC9, hC9, hO9, hoC9⟩, ht⟩
        have z3 := ht.size
        have hln2 : (cc ++ [x.owner]).length = cc.length + 1 := by rw [List.length_append]; rfl
        replace hln2 := Lib.hid hln2
        have hnf : ∀ k, k < W2.heap.size → k ≠ bC → Value.ownBlock (.slice aC cc.length kC) ≠ some k → w3.heap[k]? = W2.heap[k]? := fun k h1 h2 h3 => ht.block k h1 fun h => h.elim h2 h3
        have hnD : ∀ k, D k → w3.heap[k]? = W2.heap[k]? := fun k hk => hnf k (by have := hDl k hk; omega) (fun e => hfD k hk (by rw [e]; exact hfC)) (fun e => by have := hrrC k e; have := hDl k hk; omega)
        replace q : Trd fp w w3 := q.trans ht (fun k hk h => h.elim (fun e => by rw [e]; exact hfC) fun e => by have := hrrC k e; omega)
        replace hB : BoxN w3 W0.heap.size 24 [.slice aHc Hc.length cHc, .slice ad Qc.length ko] := (hnf _ hB.lt (by omega) (fun e => by have := hrrC _ e; omega)).trans hB
        replace bz : BoxN w3 (w.heap.size + 1) 24 [.slice none 0 0, .slice none 0 0] := (hnf _ bz.lt (by omega) (fun e => by have := hrrC _ e; omega)).trans bz
        have hYW3 : BoxN w3 W.heap.size 61 [.int .i64 x.owner, .bool x.whole, .int .i64 x.span.table, .slice KA x.span.lo.length KC, .slice VA x.span.hi.length VC, .bool x.span.isOpen, .int .i64 x.mode, .slice aHc Hc.length cHc, .slice ad Qc.length ko] := (hnf _ hYW.lt (by omega) (fun e => by have := hobY _ e; omega)).trans hYW
        have hH3 := hHc.kept (w' := w3) (fun g hg => hnf g (hrrH g hg) (hoHb g hg) (fun e => (hoC g e).1 hg)) hnD
        have hQ3 := hQc.kept (w' := w3) (fun g hg => hnf g (hrrQ g hg) (by have := (hoQ g hg).1; omega) (fun e => (hoC g e).2 hg)) hnD
        have hx3 : RdLk D w3 (.agg #[.int .i64 x.owner, .bool x.whole, .int .i64 x.span.table, .slice KA x.span.lo.length KC, .slice VA x.span.hi.length VC, .bool x.span.isOpen, .int .i64 x.mode]) x := hx.keep hnD
        have hob9 : ∀ g, Value.ownBlock (.slice aC9 (cc ++ [x.owner]).length kC9) = some g → (W0.heap.size + 1 ≤ g ∧ g < w3.heap.size) ∧ Value.ownBlock (.slice aHc Hc.length cHc) ≠ some g ∧ Value.ownBlock (.slice ad Qc.length ko) ≠ some g := fun g hg => by
          have hgl := hO9.block_lt g hg
          rcases hoC9 with e | e | ⟨k9, e, h9⟩
          · rw [e] at hg; exact ⟨hgl, (hoC g hg).1, (hoC g hg).2⟩
          · rw [e] at hg; injection hg with hg; omega
          · rw [e] at hg; injection hg with hg
            exact ⟨hgl, fun e2 => by have := hrrH g e2; omega, fun e2 => by have := hrrQ g e2; omega⟩
        clear e0 e1 e2 e3 e4 e5 e6 e7 e8 hd hYW hXW hHc hQc hx hC hO hnf hnD hoC9 ht hrrC hobY
        have hh := held_any w3 (aQ := ad) (nQ := Qc.length) (cQ := ko) hx3 hH3 (fun k hk => ⟨by have := hDl k hk; omega, fun e => hoHD k hk e⟩) (by omega)
        have e0 := hYW3.cell (i := 0) rfl
        have e1 := hYW3.cell (i := 1) rfl
        have e2 := hYW3.cell (i := 2) rfl
        have e3 := hYW3.cell (i := 3) rfl
        have e4 := hYW3.cell (i := 4) rfl
        have e5 := hYW3.cell (i := 5) rfl
        have e6 := hYW3.cell (i := 6) rfl
        have e7 := hYW3.cell (i := 7) rfl
        have e8 := hYW3.cell (i := 8) rfl
        go_wp2_with fail
        refine hh.mono ?_
        rintro e w4 ⟨aH9, cH9, rfl, hH9, hg4, hoH9⟩
        have z4 := hg4.size
        have hbr : Value.ownBlock (.slice aHc Hc.length cHc) ≠ some W0.heap.size := fun e => hoHl _ e rfl
        have hB4 := hB.other hg4 hbr
        have hbr2 : Value.ownBlock (.slice aHc Hc.length cHc) ≠ some (w.heap.size + 1) := fun e => hoHz _ e rfl
        have hbr3 : Value.ownBlock (.slice aHc Hc.length cHc) ≠ some bC := fun e => hoHb _ e rfl
        clear hh e0 e1 e2 e3 e4 e5 e6 e7 e8 hB hYW3 hx3 hH3
        go_wp2_with (first
          | (refine wpList_boxSet (j := 0) rfl rfl rfl (by kernel_rfl) rfl rfl rfl rfl hB4 (by simp) ?_; intro w6 hg6 hB6)
          | fail)
        have z6 := hg6.size
        have hhl := heldA_len x Hc
        have hob4 : ∀ g, Value.ownBlock (.slice aH9 (heldA x Hc).length cH9) = some g → (g < w4.heap.size ∧ ((fp g ∧ g ≠ bC) ∨ W0.heap.size < g)) ∧ Value.ownBlock (.slice ad Qc.length ko) ≠ some g ∧ Value.ownBlock (.slice aC9 (cc ++ [x.owner]).length kC9) ≠ some g := fun g hg => by
          have hgl := hH9.lt hg
          rcases hoH9 with e | ⟨k9, e, h9⟩
          · rw [e] at hg; exact ⟨⟨hgl, hoH g hg⟩, fun e2 => (hoQ g e2).2 hg, fun e2 => (hob9 g e2).2.1 hg⟩
          · rw [e] at hg; injection hg with hg
            exact ⟨⟨hgl, .inr (by omega)⟩, fun e2 => by have := hrrQ g e2; omega, fun e2 => by have := (hob9 g e2).1; omega⟩
        have hkp : ∀ k, k < w3.heap.size → Value.ownBlock (.slice aHc Hc.length cHc) ≠ some k → k ≠ W0.heap.size → w6.heap[k]? = w3.heap[k]? := fun k h1 h2 h3 => (hg6.block k (by omega) fun e => by injection e with e; exact h3 e).trans (hg4.block k h1 fun e => h2 e.symm)
        have hkD : ∀ k, D k → w6.heap[k]? = w3.heap[k]? := fun k hk => hkp k (by have := hDl k hk; omega) (fun e => hoHD k hk e) (by have := hDl k hk; omega)
        have hQ6 := hQ3.kept (w' := w6) (fun g hg => hkp g (by have := hrrQ g hg; omega) (hoQ g hg).2 (by have := (hoQ g hg).1; omega)) hkD
        have hH6 := hH9.kept (w' := w6) (fun g hg => hg6.block g (hob4 g hg).1.1 fun e => by injection e with e; exact (hob4 g hg).1.2.elim (fun h => by have := hfp g h.1; omega) fun h => by omega) (fun k hk => hg6.block k (by have := hDl k hk; omega) fun e => by injection e with e; have := hDl k hk; omega)
        have hC6 := (hC9.other hg4 hbr3).other hg6 (fun e => by injection e with e; omega)
        have bz6 := (bz.other hg4 hbr2).other hg6 (fun e => by injection e with e; omega)
        have hO6 := hO9.numK (w' := w6) (fun g hg => hkp g (hob9 g hg).1.2 (hob9 g hg).2.1 (by have := (hob9 g hg).1.1; omega))
        have q6 := (Trd.trans q (Trd.ofGrown hg4 (F := fun k => Value.ownBlock (.slice aHc Hc.length cHc) = some k) (fun k e => e)) (fun k hk h => (hoH k h).elim (fun h2 => h2.1) fun h2 => by omega)).hi hg6 (fun g hg => by injection hg with hg; omega)
        clear hg4 hg6 hB4 hH9 hQ3 hC9 bz hO9 q hkp hkD hbr hbr2 hbr3 hrrH hrrQ hoH9
        go_wp2_with fail
        go_roundw
        case rel => exact ⟨k + 1, ad, aH9, aC9, ko, cH9, kC9, heldA x Hc, Qc, cc ++ [x.owner], by go_num, by omega, hgo9.out, by omega, by rw [hln2.out]; omega, hH6, hQ6, hC6, hO6, fun g hg => (hob4 g hg).1.2, fun g hg => ⟨(hoQ g hg).1, fun e => (hob4 g e).2.1 hg⟩, fun g hg => ⟨fun e => (hob4 g e).2.2 hg, (hob9 g hg).2.2⟩, hB6, bz6, q6⟩
        case measure => simp [intOf]; omega
    · obtain rfl : k = Q.length := by omega
      have hgo9 := Lib.hid (show (Hc, Qc, cc) = goD H0 [] Q [] by have h := hgo.out; rw [List.drop_length] at h; exact h)
      clear hgo
      have zq := q.size
      have hrrH : ∀ g, Value.ownBlock (.slice aHc Hc.length cHc) = some g → g < wr.heap.size := fun g hg => hHc.lt hg
      have hrrQ : ∀ g, Value.ownBlock (.slice ad Qc.length ko) = some g → g < wr.heap.size := fun g hg => hQc.lt hg
      have hrrC : ∀ g, Value.ownBlock (.slice aC cc.length kC) = some g → W0.heap.size + 1 ≤ g ∧ g < wr.heap.size := fun g hg => hO.block_lt g hg
      have d0 := hB.cell (i := 0) rfl
      have d1 := hB.cell (i := 1) rfl
      go_wp2_with (first | (refine wpList_boxStore (us := [.slice aHc Hc.length cHc, .slice ad Qc.length ko]) (by kernel_rfl) rfl rfl rfl rfl rfl rfl bz rfl ?_; intro wd hgd hBd) | fail)
      simp only [Exit.noGoto_ret]
      have g0 := hBd.cell (i := 0) rfl
      have g1 := hBd.cell (i := 1) rfl
      obtain ⟨fs, hu, _⟩ := lsS.hu
      refine bodyPost_ret (v := .agg #[.slice aHc Hc.length cHc, .slice ad Qc.length ko]) (by simp [results, Tryd.results41, go_sem, loadVar, isAgg, run_underlying hu, run_sizeOf' lsS.hs, loadCellsFrom, Addr.add, g0, g1]) rfl ?_
      have hbCl : bC < w.heap.size := hfp bC hfC
      have hkp : ∀ k, k < wr.heap.size → k ≠ w.heap.size + 1 → wd.heap[k]? = wr.heap[k]? := fun k h1 h2 => hgd.block k h1 fun e => by injection e with e; exact h2 e
      have hkD : ∀ k, D k → wd.heap[k]? = wr.heap[k]? := fun k hk => hkp k (by have := hDl k hk; omega) (by have := hDl k hk; omega)
      have hH9 := hHc.kept (w' := wd) (fun g hg => hkp g (hrrH g hg) (hoHz g hg)) hkD
      have hQ9 := hQc.kept (w' := wd) (fun g hg => hkp g (hrrQ g hg) (by have := (hoQ g hg).1; omega)) hkD
      have hC9 := hC.other hgd (fun e => by injection e with e; omega)
      have hO9 := (hO.numK (w' := wd) (fun g hg => hkp g (hrrC g hg).2 (by have := hrrC g hg; omega))).to (base' := w.heap.size) (lo' := w.heap.size) (by omega) (by omega)
      rw [← hgo9.out]
      exact ⟨aHc, cHc, ad, ko, aC, kC, rfl, hH9, hQ9, hC9, hO9, fun g hg => ⟨(hoH g hg).elim (fun h => .inl h.1) fun h => .inr (by omega), (hoH g hg).elim (fun h => h.2) fun h => by omega⟩, fun g hg => ⟨by have := (hoQ g hg).1; omega, (hoQ g hg).2⟩, fun g hg => hoC g hg, q.hi hgd (fun g hg => by injection hg with hg; omega)⟩
end Go.Proofs.YtpdnehgboafgpaaDoor
namespace Go.Proofs.YtpdnehgboafgpaaDoor
open Go.RowKit
section
variable {P : Program} {Q : Exit → Act → World → Prop}
def wpOpS (P : Program) (ops : Array Oper) (Q : Exit → Act → World → Prop) (i : Nat) (K : Act → World → Prop) (a : Act) (w : World) : Prop :=
  match ops[i]? with
  | none => K a w
  | some o => if Region.wanted o (yielded ops a.tmps) then o.wp P a w K Q else K (a.put o.dst undef) w
def wpAnyS (P : Program) (ops : Array Oper) (Q : Exit → Act → World → Prop) : Nat → Array Bool → Act → World → Prop
  | 0, listed, a, w => Region.ready .any ops listed = [] ∧ Q .normal a w
  | fuel + 1, listed, a, w =>
    (Region.ready .any ops listed = [] → Q .normal a w) ∧
    ∀ i ∈ Region.ready .any ops listed, wpOpS P ops Q i (wpAnyS P ops Q fuel (listed.setIfInBounds i true)) a w
theorem anyS_any {ops : Array Oper} : ∀ (fuel : Nat) (listed : Array Bool) (a : Act) (w : World), wpAnyS P ops Q fuel listed a w → wpAny P .any ops Q fuel listed a w
  | 0, _, _, _, h => h
  | fuel + 1, listed, a, w, ⟨h1, h2⟩ => ⟨h1, fun i hi => by
    have h := h2 i hi
    unfold wpOpS at h
    unfold wpOp
    split
    · rename_i ho
      rw [ho] at h
      exact anyS_any fuel _ _ _ h
    · rename_i o ho
      rw [ho] at h
      dsimp only at h
      split
      · rename_i hw
        rw [if_pos hw] at h
        exact .inl (Oper.wp_mono (fun a w => anyS_any fuel _ a w) h)
      · rename_i hw
        rw [if_neg hw] at h
        exact anyS_any fuel _ _ _ h⟩
theorem wp_region_S {id : Nat} {ops : Array Oper} {a : Act} {w : World} (hm : P.follows .mixedOrders = true) (h : wpAnyS P ops Q ops.size (Array.replicate ops.size false) a { w with drawn := w.drawn + 1 }) : (Code.region id ops true).wp P Q a w :=
  wp_region_any hm (anyS_any _ _ _ _ h)
end
end Go.Proofs.YtpdnehgboafgpaaDoor
