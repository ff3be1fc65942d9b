/-
  TEXTS OF ONE PROOF, merged: TreeEmptiesW.
-/
import Derived.BigQuiet
import Derived.Deep.Cut
import Derived.Deep.QuietTactic
import Derived.Lib.Hide
import Derived.Shelf.Abstract
import Derived.Test.YtdegjkfjaklkjaaProg
import Derived.WalkKit
import Derived.WalkLawsBesides
import Derived.WalkSpells
import Derived.Test.YtdegjkfjaklkjaaMh1
import Derived.Test.YtdegjkfjaklkjaaMh2
import Derived.Test.YtdegjkfjaklkjaaMh3
import Derived.Test.YtdegjkfjaklkjaaMh4
import Derived.Test.YtdegjkfjaklkjaaMh9
import Derived.Test.YtdegjkfjaklkjaaMh14
import Derived.Test.YtdegjkfjaklkjaaMh15
import Derived.Test.YtdegjkfjaklkjaaMh21
namespace Go.Proofs.Ytdegjkfjaklkjaa
open Go.RowKit
def EmpR (w W : World) (n : Nd) (fr : Nat) (sl : Value) (v : Value) (wr : World) : Prop :=
  ∃ (i : Nat) (ni : Nd) (x y z : Value), v = .int .i64 (i : Int) ∧ i ≤ (pairsN n).length ∧ TriV wr w.heap.size 26 x y z ∧ RdN (· ≠ w.heap.size) wr (.agg #[x, y, z]) ni ∧ okN ni ∧ pairsN ni = dlP (pairsN n) fr i ∧
    RdL Elt.bytes (fun g => w.heap.size < g) wr sl ((pairsN n).map (·.key)) ∧ Below w.heap.size w wr ∧ W.heap.size ≤ wr.heap.size
set_option maxRecDepth 100000 in
set_option maxHeartbeats 8000000 in
theorem TreeEmpties_w (hC : TreC) (w : World) {v : Value} {n : Nd} (hr : RdN (· < w.heap.size) w v n) {fz : Int} (hf0 : 0 ≤ fz) (hf9 : fz < 256) :
    Calls Try.prog 11 #[v, .int .u8 fz] w fun e w' => e = .returned (.bool true) ∧ Below w.heap.size w w' := by
  have hf1 : fz ≤ 255 := by omega
  clear hf9
  obtain ⟨fr, rfl⟩ : ∃ fr : Nat, fz = (fr : Int) := ⟨fz.toNat, by omega⟩
  have hr0 := hr
  obtain ⟨a1, c1, a2, c2, a3, c3, rfl, r1, r2, r3⟩ := hr
  have hT := TriV.new w 26 (.slice a1 n.keys.length c1) (.slice a2 n.chains.length c2) (.slice a3 n.kids.length c3)
  have q : Below w.heap.size w (w.alloc (.cells #[.slice a1 n.keys.length c1, .slice a2 n.chains.length c2, .slice a3 n.kids.length c3] 26)) := (Below.refl _ _).alloc (Nat.le_refl _) _
  go_enter Try.func11, Try.ntmps11
  go_upto_region 1 with (fail)
  generalize w.alloc (.cells #[.slice a1 n.keys.length c1, .slice a2 n.chains.length c2, .slice a3 n.kids.length c3] 26) = W at *
  have t0 := hT.cell0
  have t1 := hT.cell1
  have t2 := hT.cell2
  go_wp2_with fail
  refine (hC.awake _).mono ?_
  rintro e w1 ⟨rfl, hb⟩
  replace q := q.trans (hb.mono q.size)
  replace hT := hT.below hb hT.lt
  clear hb t0 t1 t2
  have t0 := hT.cell0
  have t1 := hT.cell1
  have t2 := hT.cell2
  go_wp2_with fail
  refine (smallLaw_any _ (hr0.below q) (RdL.nil Elt.ver (fun _ => False) _)).mono ?_
  rintro e w2 ⟨r, rfl, hs, hb⟩
  replace q := q.trans (hb.mono q.size)
  replace hT := hT.below hb hT.lt
  clear hb t0 t1 t2
  have t0 := hT.cell0
  have t1 := hT.cell1
  have t2 := hT.cell2
  cases r with
  | false =>
    clear hs
    go_wp2_with fail
    go_ret
    exact ⟨rfl, q⟩
  | true =>
    have hsm := (hs rfl).2.2
    have hft := small5_fit hsm
    clear hs
    go_wp2_with fail
    refine (hC.check _ (hr0.below q) hft).mono ?_
    rintro e w3 ⟨rfl, hb⟩
    replace q := q.trans (hb.mono q.size)
    replace hT := hT.below hb hT.lt
    clear hb t0 t1 t2
    have t0 := hT.cell0
    have t1 := hT.cell1
    have t2 := hT.cell2
    by_cases hk : okN n
    · rw [decide_eq_true hk]
      have hpr : prN n = pairsN n := if_pos hk
      go_wp2_with fail
      refine (hC.keys _ (hr0.below q) hft).mono ?_
      rintro e w4 ⟨ak, ck2, rfl, hK, hb⟩
      have hlt0 := hT.lt
      replace q := q.trans (hb.mono q.size)
      replace hT := hT.below hb hT.lt
      clear hb t0 t1 t2
      have t0 := hT.cell0
      have t1 := hT.cell1
      have t2 := hT.cell2
      rw [hpr, List.length_map] at hK ⊢
      obtain ⟨hf1', hf2⟩ := small_few hsm hk
      have hsr := okN_srt hk
      obtain ⟨L, hL⟩ : ∃ L, L = (pairsN n).length := ⟨_, rfl⟩
      rw [← hL] at hf1' hK ⊢
      have hL2 := Lib.hid hL
      have r0 : EmpR w w4 n fr (.slice ak L ck2) (.int .i64 ((0 : Nat) : Int)) w4 := ⟨0, n, _, _, _, rfl, Nat.zero_le _, hT, (hr0.below q).weak (fun g hg => Nat.ne_of_lt hg), hk, rfl, hK.weak (fun g hg => Nat.lt_of_lt_of_le hlt0 hg.1), q, Nat.le_refl _⟩
      clear hK q hT t0 t1 t2 hL hpr hlt0
      have eD : ∀ args w, (callFunc 29 args).run Try.prog w = .ok (.enter 29 args) w := enters_of Try.func29 (by kernel_rfl) rfl
      go_upto_region 6 with (fail)
      go_loopw [7] (fun v wr => EmpR w w4 n fr (.slice ak L ck2) v wr) (fun v _ => L - (intOf v).toNat)
      case atStart => exact r0
      case round =>
        obtain ⟨i, ni, x, y, z, rfl, hil, hT, hri, hki, hpi, hK, q, hsz⟩ := hrel
        clear r0
        rw [← hL2.out] at hil
        obtain ⟨X1, Y1, X2, Y2, X3, Y3, e3, _, _, _⟩ := id hri
        injection e3 with e3
        injection e3 with e3
        injection e3 with e4 e3
        injection e3 with e5 e3
        injection e3 with e6 _
        subst e4 e5 e6
        have hfi : fitN ni := ok_fit hki ⟨by rw [hpi]; have := dl_len hsr fr i (by rw [← hL2.out]; exact hil); have := hL2.out; omega, by rw [hpi]; exact fun p hp => hf2 p (dl_mem fr i p hp)⟩
        have hln : (prN ni).length + i = L := by rw [show prN ni = pairsN ni from if_pos hki, hpi, hL2.out]; exact dl_len hsr fr i (by rw [← hL2.out]; exact hil)
        rcases Nat.lt_or_ge i L with hlt | hge
        · obtain ⟨m, hm⟩ : ∃ m, m = (i + fr) % L := ⟨_, rfl⟩
          have hmL : m < L := by rw [hm]; exact Nat.mod_lt _ (by omega)
          have hmod : ((i : Int) + (fr : Int)) % (L : Int) = (m : Int) := by rw [hm, Int.natCast_emod, Int.natCast_add]
          have hmk : m < ((pairsN n).map (·.key)).length := by rw [List.length_map, ← hL2.out]; exact hmL
          obtain ⟨b, off, Ak, C, ea, c0, hky⟩ := hK.byt m hmk
          subst ea
          have hkA : ((pairsN n).map (·.key))[m] = keyAt (pairsN n) m := by
            unfold keyAt
            rw [List.getD_eq_getElem?_getD, List.getElem?_eq_getElem hmk]
            rfl
          rw [hkA] at c0 hky
          obtain ⟨ky, eky⟩ : ∃ ky, ky = keyAt (pairsN n) m := ⟨_, rfl⟩
          rw [← eky] at c0 hky
          have hth : (findP (pairsN ni) ky).isSome = true := by
            rw [hpi, eky, hm, hL2.out]
            exact dl_there hsr fr (by rw [← hL2.out]; exact hlt)
          have hkl : ky.length ≤ 1000 := by
            have h1 : m < (pairsN n).length := by rw [← hL2.out]; exact hmL
            rw [eky, keyAt_get h1]
            have := (((okP_iff _).1 hk.2).1 _ (List.getElem_mem h1)).2.2
            omega
          have hD0 : ∀ mm er, DelIs ni ky mm er → er = 0 ∧ okN mm ∧ pairsN mm = delP (pairsN ni) ky := fun mm er h => by
            unfold DelIs at h
            rw [if_pos hki, if_pos hth] at h
            exact h
          have hnx : delP (pairsN ni) ky = dlP (pairsN n) fr (i + 1) := by rw [dlP, hpi, eky, hm, hL2.out]
          have t0 := hT.cell0
          have t1 := hT.cell1
          have t2 := hT.cell2
          have hT0 := hT
          have hLI : (L : Int) ≤ 1023 := by omega
          replace hkA := Lib.hid hkA
          replace eky := Lib.hid eky
          replace hm := Lib.hid hm
          replace hpi := Lib.hid hpi
          replace hnx := Lib.hid hnx
          replace hth := Lib.hid hth
          replace hln := Lib.hid hln
          go_upto_region 8 with (fail)
          refine wp_region_setl (K := fun _ _ => True) (by kernel_rfl) (by kernel_rfl) [11, 12, 13, 14, 15, 16] (by kernel_rfl) [lEq (.agg #[.slice X1 ni.keys.length Y1, .slice X2 ni.chains.length Y2, .slice X3 ni.kids.length Y3]), lEq (.slice (some ⟨b, off, none⟩) L ck2), lEq (.int .i64 (i : Int)), lEq (.int .u8 (fr : Int)), lEq (.int .i64 (fr : Int)), lEq (.int .i64 ((i : Int) + (fr : Int))), lEq (.slice (some ⟨b, off, none⟩) L ck2), lEq (.int .i64 (L : Nat)), lEq (.int .i64 (m : Int)), lEq (.pointer (some ⟨b, off + m * 1, none⟩)), lEq (.slice Ak ky.length C), lAny, lAny, lAny, lAny, lAny, lAny, lEq (.int .i64 (0 : Nat))]
            (CbL (bv ([])).toArray 5 (NodeR (DelIs ni ky)) zNode NodeB (KeyW ([])) (VerW ([])) wr) (CbL.more (stays (DelIs ni ky) ([]) ([]))) (CbS.start _)
            ⟨?o0, ?o1, ?o2, ?o3, ?o4, ?o5, ?o6, ?o7, ?o8, ?o9, ?o10, ?o11, ?o12, ?o13, ?o14, ?o15, ?o16, ?o17, trivial⟩ ?fin
          case o0 =>
            refine StOp.free rfl (by kernel_rfl) (fun A va D w' hF hT hN hE hd hu hg => ?_)
            have e1 : A.eval (.tmp 2) = .pointer (some ⟨w.heap.size, 0, none⟩) := hF 2 rfl
            exact wp_load3 ndS rfl (e1) ((hT0.below (CbL.below hE) hT0.lt).cell0) ((hT0.below (CbL.below hE) hT0.lt).cell1) ((hT0.below (CbL.below hE) hT0.lt).cell2) ⟨_, rfl, rfl, Below.refl _ _⟩
          case o1 =>
            refine StOp.free rfl (by kernel_rfl) (fun A va D w' hF hT hN hE hd hu hg => ?_)
            have e1 : A.eval (.tmp 6) = .slice (some ⟨b, off, none⟩) L ck2 := hF 6 rfl
            exact BigFrame.wp_move _ rfl ⟨_, rfl, e1, Below.refl _ _⟩
          case o2 =>
            refine StOp.free rfl (by kernel_rfl) (fun A va D w' hF hT hN hE hd hu hg => ?_)
            have e1 : A.eval (.tmp 7) = .int .i64 (i : Int) := hF 7 rfl
            exact BigFrame.wp_move _ rfl ⟨_, rfl, e1, Below.refl _ _⟩
          case o3 =>
            refine StOp.free rfl (by kernel_rfl) (fun A va D w' hF hT hN hE hd hu hg => ?_)
            have e1 : A.eval (.tmp 1) = .int .u8 (fr : Int) := hF 1 rfl
            exact BigFrame.wp_move _ rfl ⟨_, rfl, e1, Below.refl _ _⟩
          case o4 =>
            refine StOp.free rfl (by kernel_rfl) (fun A va D w' hF hT hN hE hd hu hg => ?_)
            have e1 : A.eval (.tmp 32) = .int .u8 (fr : Int) := (hT 32 3 (by simp) rfl).trans (hg ⟨3, .data⟩ (by simp) rfl rfl)
            exact wp_convU8 rfl (by kernel_rfl) (by kernel_rfl) e1 (by omega) hf1 ⟨_, rfl, rfl, Below.refl _ _⟩
          case o5 =>
            refine StOp.free rfl (by kernel_rfl) (fun A va D w' hF hT hN hE hd hu hg => ?_)
            have e1 : A.eval (.tmp 31) = .int .i64 (i : Int) := (hT 31 2 (by simp) rfl).trans (hg ⟨2, .data⟩ (by simp) rfl rfl)
            have e2 : A.eval (.tmp 33) = .int .i64 (fr : Int) := (hT 33 4 (by simp) rfl).trans (hg ⟨4, .data⟩ (by simp) rfl rfl)
            exact wp_addI rfl (e1) (e2) (by omega) (by omega) ⟨_, rfl, rfl, Below.refl _ _⟩
          case o6 =>
            refine StOp.free rfl (by kernel_rfl) (fun A va D w' hF hT hN hE hd hu hg => ?_)
            have e1 : A.eval (.tmp 6) = .slice (some ⟨b, off, none⟩) L ck2 := hF 6 rfl
            exact BigFrame.wp_move _ rfl ⟨_, rfl, e1, Below.refl _ _⟩
          case o7 =>
            refine StOp.free rfl (by kernel_rfl) (fun A va D w' hF hT hN hE hd hu hg => ?_)
            have e1 : A.eval (.tmp 35) = .slice (some ⟨b, off, none⟩) L ck2 := (hT 35 6 (by simp) rfl).trans (hg ⟨6, .data⟩ (by simp) rfl rfl)
            exact wp_lenS (e := 27) rfl (by kernel_rfl) (e1) ⟨_, rfl, rfl, Below.refl _ _⟩
          case o8 =>
            refine StOp.free rfl (by kernel_rfl) (fun A va D w' hF hT hN hE hd hu hg => ?_)
            have e1 : A.eval (.tmp 34) = .int .i64 ((i : Int) + (fr : Int)) := (hT 34 5 (by simp) rfl).trans (hg ⟨5, .data⟩ (by simp) rfl rfl)
            have e2 : A.eval (.tmp 36) = .int .i64 (L : Nat) := (hT 36 7 (by simp) rfl).trans (hg ⟨7, .data⟩ (by simp) rfl rfl)
            exact wp_remI rfl e1 e2 (by omega) (by omega) ⟨_, rfl, congrArg (Value.int .i64) hmod, Below.refl _ _⟩
          case o9 =>
            refine StOp.free rfl (by kernel_rfl) (fun A va D w' hF hT hN hE hd hu hg => ?_)
            have e1 : A.eval (.tmp 30) = .slice (some ⟨b, off, none⟩) L ck2 := (hT 30 1 (by simp) rfl).trans (hg ⟨1, .data⟩ (by simp) rfl rfl)
            have e2 : A.eval (.tmp 37) = .int .i64 (m : Int) := (hT 37 8 (by simp) rfl).trans (hg ⟨8, .data⟩ (by simp) rfl rfl)
            exact wp_ixN (e := 27) rfl (by kernel_rfl) (by kernel_rfl) (e1) (e2) rfl (by omega) ⟨_, rfl, rfl, Below.refl _ _⟩
          case o10 =>
            refine StOp.free rfl (by kernel_rfl) (fun A va D w' hF hT hN hE hd hu hg => ?_)
            have e1 : A.eval (.tmp 38) = .pointer (some ⟨b, off + m * 1, none⟩) := (hT 38 9 (by simp) rfl).trans (hg ⟨9, .data⟩ (by simp) rfl rfl)
            exact wp_ld_slice (e := 5) rfl (e1) (by kernel_rfl) ((cell_keep ((CbL.below hE).block b (cell_lt c0)) _).trans (by simpa using c0)) ⟨_, rfl, rfl, Below.refl _ _⟩
          case o11 =>
            refine StOp.set rfl (by kernel_rfl) (fun A va D w' hF hT hN hE hd hu hg => ?_)
            have e1 : A.eval (.tmp 29) = .agg #[.slice X1 ni.keys.length Y1, .slice X2 ni.chains.length Y2, .slice X3 ni.kids.length Y3] := (hT 29 0 (by simp) rfl).trans (hg ⟨0, .data⟩ (by simp) rfl rfl)
            have e2 : A.eval (.tmp 39) = .slice Ak ky.length C := (hT 39 10 (by simp) rfl).trans (hg ⟨10, .data⟩ (by simp) rfl rfl)
            have hE2 := hE
            simp only [told, List.map_cons, List.map_nil, hN, Bool.false_eq_true, if_false] at hE2
            have hBE := hE2.be
            refine wp_callFn rfl eD (args := #[.agg #[.slice X1 ni.keys.length Y1, .slice X2 ni.chains.length Y2, .slice X3 ni.kids.length Y3], .slice Ak ky.length C]) (by simp only [List.map_toArray, List.map_cons, List.map_nil, e1, e2]) ((hC.delete w' (hri.below hBE) hfi (hky.below hBE) hkl).mono ?_)
            rintro e w2 ⟨v, n2, er, rfl, hq, hrd, hb2⟩
            have h5 := CbS.call (stays (DelIs ni ky) ([]) ([])) hE2 (by simp) hb2 (v := v) (e := .int .i64 (er : Nat)) ⟨n2, er, rfl, hq, hrd⟩
            exact ⟨_, rfl, _, rfl, by simpa [CbL, told, don, upd, bv_length] using h5, trivial⟩
          case o12 =>
            refine StOp.set rfl (by kernel_rfl) (fun A va D w' hF hT hN hE hd hu hg => ?_)
            have x1 : A.eval (.tmp 40) = va 11 := hT 40 11 (by simp) rfl
            have hE2 := hE
            have d11 : D 11 = true := hd ⟨11, .data⟩ (by simp) rfl
            simp only [told, List.map_cons, List.map_nil, hN, d11, Bool.false_eq_true, if_false, if_true] at hE2
            have h5 := CbS.move hE2
            exact BigFrame.wp_move _ rfl ⟨_, rfl, by rw [x1]; simpa [CbL, told, don, upd, bv_length, d11] using h5, trivial⟩
          case o13 =>
            refine StOp.set rfl (by kernel_rfl) (fun A va D w' hF hT hN hE hd hu hg => ?_)
            have x1 : A.eval (.tmp 28) = va 12 := hT 28 12 (by simp) rfl
            have hE2 := hE
            have d12 : D 12 = true := hd ⟨12, .data⟩ (by simp) rfl
            simp only [told, List.map_cons, List.map_nil, hN, d12, Bool.false_eq_true, if_false, if_true] at hE2
            obtain ⟨v, e, em⟩ := CbS.tup hE2
            rw [em] at hE2
            have h5 := CbS.ex0 hE2
            exact wp_ex rfl (x1.trans em) rfl ⟨_, rfl, by simpa [CbL, told, don, upd, d12, em] using h5, trivial⟩
          case o14 =>
            refine StOp.set rfl (by kernel_rfl) (fun A va D w' hF hT hN hE hd hu hg => ?_)
            have x1 : A.eval (.tmp 28) = va 12 := hT 28 12 (by simp) rfl
            have hE2 := hE
            have d12 : D 12 = true := hd ⟨12, .data⟩ (by simp) rfl
            simp only [told, List.map_cons, List.map_nil, hN, d12, Bool.false_eq_true, if_false, if_true] at hE2
            obtain ⟨v, e, em⟩ := CbS.tup hE2
            rw [em] at hE2
            have h5 := CbS.ex1 hE2
            exact wp_ex rfl (x1.trans em) rfl ⟨_, rfl, by simpa [CbL, told, don, upd, d12, em] using h5, trivial⟩
          case o15 =>
            refine StOp.set rfl (by kernel_rfl) (fun A va D w' hF hT hN hE hd hu hg => ?_)
            have hE2 := hE
            simp only [told, List.map_cons, List.map_nil, hN, Bool.false_eq_true, if_false] at hE2
            refine wp_allocN rfl (fun w2 hb2 hz => ⟨_, rfl, ?_, trivial⟩)
            have h5 := CbS.alloc (stays (DelIs ni ky) ([]) ([])) hE2 hb2 hz
            simpa [CbL, told, don, upd, bv_length] using h5
          case o16 =>
            refine StOp.set rfl (by kernel_rfl) (fun A va D w' hF hT hN hE hd hu hg => ?_)
            have x1 : A.eval (.tmp 8) = va 15 := hT 8 15 (by simp) rfl
            have x2 : A.eval (.tmp 41) = va 13 := hT 41 13 (by simp) rfl
            have hE2 := hE
            have d15 : D 15 = true := hd ⟨15, .data⟩ (by simp) rfl
            have d13 : D 13 = true := hd ⟨13, .data⟩ (by simp) rfl
            simp only [told, List.map_cons, List.map_nil, hN, d15, d13, Bool.false_eq_true, if_false, if_true] at hE2
            obtain ⟨b, eb, hb0⟩ := CbS.box hE2
            obtain ⟨e, hm⟩ := hE2.mx _ rfl
            obtain ⟨v, e2, ec, n2, er, _, _, hrd⟩ := hE2.rr _ (hE2.mv _ hm)
            obtain ⟨A1, B1, A2, B2, A3, B3, ev, _⟩ := id hrd
            injection ec with ec
            injection ec with ec
            injection ec with ec _
            rw [← ec] at ev
            refine wp_storeT rfl (x1.trans eb) (x2.trans ev) rfl rfl rfl hb0 (fun w2 hg2 ht2 => ⟨_, rfl, ?_, trivial⟩)
            rw [eb] at hE2
            have h5 := CbS.sto (u := undef) (stays (DelIs ni ky) ([]) ([])) hE2 hg2 ⟨_, _, _, ev, ht2⟩
            simpa [CbL, told, don, upd, d15, d13, eb] using h5
          case o17 =>
            refine StOp.free rfl (by kernel_rfl) (fun A va D w' hF hT hN hE hd hu hg => ?_)
            have x1 : A.eval (.tmp 42) = va 14 := hT 42 14 (by simp) rfl
            have hE2 := hE
            have d14 : D 14 = true := hd ⟨14, .data⟩ (by simp) rfl
            simp only [told, List.map_cons, List.map_nil, d14, if_true] at hE2
            have ee := CbS.err hE2 (fun n er hQ => (hD0 _ _ hQ).1)
            exact BigFrame.wp_assign _ rfl ⟨_, rfl, x1.trans ee, Below.refl _ _⟩
          case fin =>
            intro vs1 W1 hE hG
            obtain ⟨bM, ez, em, ec, hbM, hBx, hR, hbE⟩ := CbS.done (nodeR _) hE (by simp)
            obtain ⟨nM, er, ee, hQ, hM⟩ := hR
            have her : er = 0 := (hD0 _ _ hQ).1
            rw [her] at ee hQ
            clear her
            obtain ⟨x1, y1, z1, ev, hTM⟩ := hBx
            have g0 : vs1 0 = .agg #[.slice X1 ni.keys.length Y1, .slice X2 ni.chains.length Y2, .slice X3 ni.kids.length Y3] := hG 0 (by decide) rfl
            have g1 : vs1 1 = .slice (some ⟨b, off, none⟩) L ck2 := hG 1 (by decide) rfl
            have g2 : vs1 2 = .int .i64 (i : Int) := hG 2 (by decide) rfl
            have g3 : vs1 3 = .int .u8 (fr : Int) := hG 3 (by decide) rfl
            have g4 : vs1 4 = .int .i64 (fr : Int) := hG 4 (by decide) rfl
            have g5 : vs1 5 = .int .i64 ((i : Int) + (fr : Int)) := hG 5 (by decide) rfl
            have g6 : vs1 6 = .slice (some ⟨b, off, none⟩) L ck2 := hG 6 (by decide) rfl
            have g7 : vs1 7 = .int .i64 (L : Nat) := hG 7 (by decide) rfl
            have g8 : vs1 8 = .int .i64 (m : Int) := hG 8 (by decide) rfl
            have g9 : vs1 9 = .pointer (some ⟨b, off + m * 1, none⟩) := hG 9 (by decide) rfl
            have g10 : vs1 10 = .slice Ak ky.length C := hG 10 (by decide) rfl
            have g17 : vs1 17 = .int .i64 (0 : Nat) := hG 17 (by decide) rfl
            simp only [putAll, g0, g1, g2, g3, g4, g5, g6, g7, g8, g9, g10, g17, ec, em, ev, ee, ez]
            rw [ev] at hM
            obtain ⟨_, hMk, hMp⟩ := hD0 _ _ hQ
            have hb0 : w.heap.size < wr.heap.size := hT.lt
            obtain ⟨A1, B1, A2, B2, A3, B3, e3, _, _, _⟩ := id hM
            injection e3 with e3
            injection e3 with e3
            injection e3 with e4 e3
            injection e3 with e5 e3
            injection e3 with e6 _
            subst e4 e5 e6
            replace hM := hM.weak (S' := (· ≠ w.heap.size)) fun g hg => by have := hg.1; omega
            have hMf : fitN nM := ok_fit hMk ⟨by rw [hMp, hnx.out]; have := dl_len hsr fr (i + 1) (by rw [← hL2.out]; exact hlt); have := hL2.out; omega, by rw [hMp, hnx.out]; exact fun p hp => hf2 p (dl_mem fr (i + 1) p hp)⟩
            have hMl : (prN nM).length + (i + 1) = L := by rw [show prN nM = pairsN nM from if_pos hMk, hMp, hnx.out, hL2.out]; exact dl_len hsr fr (i + 1) (by rw [← hL2.out]; exact hlt)
            have hTMc0 := hTM.cell0
            have hTMc1 := hTM.cell1
            have hTMc2 := hTM.cell2
            have hsz2 := hbE.size
            have hbM0 := hTM.lt
            clear hE hG ec em ev ee ez g0 g1 g2 g3 g4 g5 g6 g7 g8 g9 g10 g17 eD hT0
            replace q := q.trans (hbE.mono q.size)
            replace hT := hT.below hbE hT.lt
            replace hri := hri.below hbE
            replace hK := hK.below hbE
            clear hbE t0 t1 t2 hky c0
            have t0 := hT.cell0
            have t1 := hT.cell1
            have t2 := hT.cell2
            replace hMp := Lib.hid hMp
            replace hMl := Lib.hid hMl
            go_simp
            go_upto_region 9 with (fail)
            have hTz := hT
            have hlnB : (prN ni).length ≤ 1023 := by have := hln.out; omega
            have hlnI : ((prN nM).length : Int) = ((prN ni).length : Int) - 1 := by have := hMl.out; have := hln.out; omega
            refine wp_region_gsg (by kernel_rfl) (by kernel_rfl) [sgEq (.int .i64 (0 : Nat)), sgEq (.bool false), sgEq (.bool false), sgEq (.agg #[.slice A1 nM.keys.length B1, .slice A2 nM.chains.length B2, .slice A3 nM.kids.length B3]), sgEq (.bool true), sgEq (.bool false), sgEq (.bool false), sgEq (.bool false), sgEq (.agg #[.slice A1 nM.keys.length B1, .slice A2 nM.chains.length B2, .slice A3 nM.kids.length B3]), sgEq (.int .i64 ((prN nM).length : Nat)), sgEq (.agg #[.slice X1 ni.keys.length Y1, .slice X2 ni.chains.length Y2, .slice X3 ni.kids.length Y3]), sgEq (.int .i64 ((prN ni).length : Nat)), sgEq (.int .i64 (((prN ni).length : Int) - 1)), sgEq (.bool false), sgEq (.bool false)]
              ⟨?o0, ?o1, ?o2, ?o3, ?o4, ?o5, ?o6, ?o7, ?o8, ?o9, ?o10, ?o11, ?o12, ?o13, ?o14, trivial⟩ ?fin
            case o0 =>
              refine GdOp.plain rfl (fun A vs w' hF hT hb hd => ?_)
              have e1 : A.eval (.tmp 9) = .int .i64 (0 : Nat) := hF 9 rfl
              exact BigFrame.wp_move _ rfl ⟨_, rfl, e1, Below.refl _ _⟩
            case o1 =>
              refine GdOp.plain rfl (fun A vs w' hF hT hb hd => ?_)
              have e1 : A.eval (.tmp 43) = .int .i64 (0 : Nat) := (hT 43 0 (by simp) rfl).trans (hd ⟨0, .data⟩ (by simp) rfl)
              exact wp_neqI rfl e1 rfl ⟨_, rfl, congrArg Value.bool (by simp), Below.refl _ _⟩
            case o2 =>
              refine GdOp.plain rfl (fun A vs w' hF hT hb hd => ?_)
              have e1 : A.eval (.tmp 44) = .bool false := (hT 44 1 (by simp) rfl).trans (hd ⟨1, .data⟩ (by simp) rfl)
              exact BigFrame.wp_move _ rfl ⟨_, rfl, e1, Below.refl _ _⟩
            case o3 =>
              refine GdOp.taken rfl ⟨_, _, rfl, rfl, by simp⟩ (by kernel_rfl) (fun w v h => h) (fun A vs w' hF hT hb hd => ?_)
              have e1 : A.eval (.tmp 8) = .pointer (some ⟨bM, 0, none⟩) := hF 8 rfl
              have hb3 := hTM.below hb hTM.lt
              exact wp_load3 ndS rfl e1 hb3.cell0 hb3.cell1 hb3.cell2 ⟨_, rfl, rfl, Below.refl _ _⟩
            case o4 =>
              refine GdOp.taken rfl ⟨_, _, rfl, rfl, by simp⟩ (by kernel_rfl) (fun w v h => h) (fun A vs w' hF hT hb hd => ?_)
              have e1 : A.eval (.tmp 46) = .agg #[.slice A1 nM.keys.length B1, .slice A2 nM.chains.length B2, .slice A3 nM.kids.length B3] := (hT 46 3 (by simp) rfl).trans (hd ⟨3, .data⟩ (by simp) rfl)
              refine wp_callFn rfl (enters_of Try.func22 (by kernel_rfl) rfl) (args := #[.agg #[.slice A1 nM.keys.length B1, .slice A2 nM.chains.length B2, .slice A3 nM.kids.length B3]]) (by simp [e1]) ((hC.check w' (hM.below hb) hMf).mono ?_)
              rintro e w2 ⟨rfl, hb2⟩
              exact ⟨_, rfl, _, rfl, congrArg Value.bool (decide_eq_true hMk), hb2⟩
            case o5 =>
              refine GdOp.taken rfl ⟨_, _, rfl, rfl, by simp⟩ (by kernel_rfl) (fun w v h => h) (fun A vs w' hF hT hb hd => ?_)
              have e1 : A.eval (.tmp 47) = .bool true := (hT 47 4 (by simp) rfl).trans (hd ⟨4, .data⟩ (by simp) rfl)
              exact wp_notB rfl e1 ⟨_, rfl, rfl, Below.refl _ _⟩
            case o6 =>
              refine GdOp.plain rfl (fun A vs w' hF hT hb hd => ?_)
              have e1 : A.eval (.tmp 45) = .bool false := (hT 45 2 (by simp) rfl).trans (hd ⟨2, .data⟩ (by simp) rfl)
              have e3 : A.eval (.tmp 48) = .bool false := (hT 48 5 (by simp) rfl).trans (hd ⟨5, .data⟩ (by simp) rfl)
              exact wp_pk rfl e1 (by simp) (fun _ => e3) ⟨_, rfl, rfl, Below.refl _ _⟩
            case o7 =>
              refine GdOp.plain rfl (fun A vs w' hF hT hb hd => ?_)
              have e1 : A.eval (.tmp 49) = .bool false := (hT 49 6 (by simp) rfl).trans (hd ⟨6, .data⟩ (by simp) rfl)
              exact BigFrame.wp_move _ rfl ⟨_, rfl, e1, Below.refl _ _⟩
            case o8 =>
              refine GdOp.taken rfl ⟨_, _, rfl, rfl, by simp⟩ (by kernel_rfl) (fun w v h => h) (fun A vs w' hF hT hb hd => ?_)
              have e1 : A.eval (.tmp 8) = .pointer (some ⟨bM, 0, none⟩) := hF 8 rfl
              have hb3 := hTM.below hb hTM.lt
              exact wp_load3 ndS rfl e1 hb3.cell0 hb3.cell1 hb3.cell2 ⟨_, rfl, rfl, Below.refl _ _⟩
            case o9 =>
              refine GdOp.taken rfl ⟨_, _, rfl, rfl, by simp⟩ (by kernel_rfl) (fun w v h => h) (fun A vs w' hF hT hb hd => ?_)
              have e1 : A.eval (.tmp 51) = .agg #[.slice A1 nM.keys.length B1, .slice A2 nM.chains.length B2, .slice A3 nM.kids.length B3] := (hT 51 8 (by simp) rfl).trans (hd ⟨8, .data⟩ (by simp) rfl)
              refine wp_callFn rfl (enters_of Try.func24 (by kernel_rfl) rfl) (args := #[.agg #[.slice A1 nM.keys.length B1, .slice A2 nM.chains.length B2, .slice A3 nM.kids.length B3]]) (by simp [e1]) ((hC.many w' (hM.below hb) hMf).mono ?_)
              rintro e w2 ⟨rfl, hb2⟩
              exact ⟨_, rfl, _, rfl, rfl, hb2⟩
            case o10 =>
              refine GdOp.taken rfl ⟨_, _, rfl, rfl, by simp⟩ (by kernel_rfl) (fun w v h => h) (fun A vs w' hF hT hb hd => ?_)
              have e1 : A.eval (.tmp 2) = .pointer (some ⟨w.heap.size, 0, none⟩) := hF 2 rfl
              have hb3 := hTz.below hb hTz.lt
              exact wp_load3 ndS rfl e1 hb3.cell0 hb3.cell1 hb3.cell2 ⟨_, rfl, rfl, Below.refl _ _⟩
            case o11 =>
              refine GdOp.taken rfl ⟨_, _, rfl, rfl, by simp⟩ (by kernel_rfl) (fun w v h => h) (fun A vs w' hF hT hb hd => ?_)
              have e1 : A.eval (.tmp 53) = .agg #[.slice X1 ni.keys.length Y1, .slice X2 ni.chains.length Y2, .slice X3 ni.kids.length Y3] := (hT 53 10 (by simp) rfl).trans (hd ⟨10, .data⟩ (by simp) rfl)
              refine wp_callFn rfl (enters_of Try.func24 (by kernel_rfl) rfl) (args := #[.agg #[.slice X1 ni.keys.length Y1, .slice X2 ni.chains.length Y2, .slice X3 ni.kids.length Y3]]) (by simp [e1]) ((hC.many w' (hri.below hb) hfi).mono ?_)
              rintro e w2 ⟨rfl, hb2⟩
              exact ⟨_, rfl, _, rfl, rfl, hb2⟩
            case o12 =>
              refine GdOp.taken rfl ⟨_, _, rfl, rfl, by simp⟩ (by kernel_rfl) (fun w v h => h) (fun A vs w' hF hT hb hd => ?_)
              have e1 : A.eval (.tmp 54) = .int .i64 ((prN ni).length : Nat) := (hT 54 11 (by simp) rfl).trans (hd ⟨11, .data⟩ (by simp) rfl)
              exact wp_subJ rfl e1 rfl (by omega) (by omega) ⟨_, rfl, rfl, Below.refl _ _⟩
            case o13 =>
              refine GdOp.taken rfl ⟨_, _, rfl, rfl, by simp⟩ (by kernel_rfl) (fun w v h => h) (fun A vs w' hF hT hb hd => ?_)
              have e1 : A.eval (.tmp 52) = .int .i64 ((prN nM).length : Nat) := (hT 52 9 (by simp) rfl).trans (hd ⟨9, .data⟩ (by simp) rfl)
              have e2 : A.eval (.tmp 55) = .int .i64 (((prN ni).length : Int) - 1) := (hT 55 12 (by simp) rfl).trans (hd ⟨12, .data⟩ (by simp) rfl)
              exact wp_neqI rfl e1 e2 ⟨_, rfl, congrArg Value.bool (by rw [hlnI]; simp), Below.refl _ _⟩
            case o14 =>
              refine GdOp.plain rfl (fun A vs w' hF hT hb hd => ?_)
              have e1 : A.eval (.tmp 50) = .bool false := (hT 50 7 (by simp) rfl).trans (hd ⟨7, .data⟩ (by simp) rfl)
              have e3 : A.eval (.tmp 56) = .bool false := (hT 56 13 (by simp) rfl).trans (hd ⟨13, .data⟩ (by simp) rfl)
              exact wp_pk rfl e1 (by simp) (fun _ => e3) ⟨_, rfl, rfl, Below.refl _ _⟩
            case fin =>
              intro vs2 W2 hb hG
              have y0 : vs2 0 = .int .i64 (0 : Nat) := hG 0 (by decide)
              have y1 : vs2 1 = .bool false := hG 1 (by decide)
              have y2 : vs2 2 = .bool false := hG 2 (by decide)
              have y3 : vs2 3 = .agg #[.slice A1 nM.keys.length B1, .slice A2 nM.chains.length B2, .slice A3 nM.kids.length B3] := hG 3 (by decide)
              have y4 : vs2 4 = .bool true := hG 4 (by decide)
              have y5 : vs2 5 = .bool false := hG 5 (by decide)
              have y6 : vs2 6 = .bool false := hG 6 (by decide)
              have y7 : vs2 7 = .bool false := hG 7 (by decide)
              have y8 : vs2 8 = .agg #[.slice A1 nM.keys.length B1, .slice A2 nM.chains.length B2, .slice A3 nM.kids.length B3] := hG 8 (by decide)
              have y9 : vs2 9 = .int .i64 ((prN nM).length : Nat) := hG 9 (by decide)
              have y10 : vs2 10 = .agg #[.slice X1 ni.keys.length Y1, .slice X2 ni.chains.length Y2, .slice X3 ni.kids.length Y3] := hG 10 (by decide)
              have y11 : vs2 11 = .int .i64 ((prN ni).length : Nat) := hG 11 (by decide)
              have y12 : vs2 12 = .int .i64 (((prN ni).length : Int) - 1) := hG 12 (by decide)
              have y13 : vs2 13 = .bool false := hG 13 (by decide)
              have y14 : vs2 14 = .bool false := hG 14 (by decide)
              simp only [putAll, y0, y1, y2, y3, y4, y5, y6, y7, y8, y9, y10, y11, y12, y13, y14]
              clear hG y0 y1 y2 y3 y4 y5 y6 y7 y8 y9 y10 y11 y12 y13 y14
              replace q := q.trans (hb.mono q.size)
              replace hT := hT.below hb hT.lt
              replace hTM := hTM.below hb hTM.lt
              replace hK := hK.below hb
              replace hM := hM.below hb
              have hsz3 := hb.size
              clear hb t0 t1 t2 hTMc0 hTMc1 hTMc2 hTz hri
              have hTMc0 := hTM.cell0
              have hTMc1 := hTM.cell1
              have hTMc2 := hTM.cell2
              go_simp
              go_wp2_with (first | (refine wpList_storeT rfl rfl rfl rfl rfl rfl rfl rfl hT ?_; intro w7 hg hT7) | fail)
              go_roundw
              case rel =>
                refine ⟨i + 1, nM, _, _, _, by go_num, by rw [← hL2.out]; exact hlt, hT7, (hM.fit.keep fun g hg2 => hg.block g hg2.2 fun e => by injection e with e; exact hg2.1 e).weak fun g hg2 => hg2.1, hMk, by rw [hMp.out, hnx.out], (hK.fit.keep fun g hg2 => hg.block g hg2.2 fun e => by injection e with e; have := hg2.1; omega).weak fun g hg2 => hg2.1, q.grown hg q.size fun k e => by injection e with e; omega, ?_⟩
                have := hg.size; omega
              case measure => simp [intOf]; omega
        · obtain rfl : i = L := by omega
          have t0 := hT.cell0
          have t1 := hT.cell1
          have t2 := hT.cell2
          have hz : (prN ni).length = 0 := by omega
          have hpn : pairsN ni = [] := by
            have : prN ni = pairsN ni := if_pos hki
            rw [this] at hz
            exact List.eq_nil_of_length_eq_zero hz
          have hdp := dep_none hki hpn
          clear hpi hln hpn
          go_wp2_with fail
          refine (hC.many _ hri hfi).mono ?_
          rintro e w5 ⟨rfl, hb⟩
          rw [hz]
          replace hri := hri.below hb
          replace q := q.trans (hb.mono q.size)
          replace hT := hT.below hb hT.lt
          clear hb t0 t1 t2
          have t0 := hT.cell0
          have t1 := hT.cell1
          have t2 := hT.cell2
          go_wp2_with fail
          refine (hC.depth _ hri hfi).mono ?_
          rintro e w6 ⟨rfl, hb⟩
          rw [hdp]
          replace q := q.trans (hb.mono q.size)
          replace hT := hT.below hb hT.lt
          clear hb t0 t1 t2
          have t0 := hT.cell0
          have t1 := hT.cell1
          have t2 := hT.cell2
          go_wp2_with fail
          go_ret
          exact ⟨rfl, q⟩
    · rw [decide_eq_false hk]
      clear hk
      go_wp2_with fail
      go_ret
      exact ⟨rfl, q⟩
end Go.Proofs.Ytdegjkfjaklkjaa
