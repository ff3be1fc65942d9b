/-
  TEXTS OF ONE PROOF, merged: TreeBackW.
-/
import Derived.BigQuiet
import Derived.Deep.Cut
import Derived.Deep.QuietTactic
import Derived.Lib.Hide
import Derived.Shelf.Abstract
import Derived.Test.YtdegjkfjaklkjaaProg
import Derived.WalkKit
import Derived.WalkLawsBesides
import Derived.WalkSpells
import Derived.Test.YtdegjkfjaklkjaaMh1
import Derived.Test.YtdegjkfjaklkjaaMh2
import Derived.Test.YtdegjkfjaklkjaaMh3
import Derived.Test.YtdegjkfjaklkjaaMh4
import Derived.Test.YtdegjkfjaklkjaaMh9
import Derived.Test.YtdegjkfjaklkjaaMh14
import Derived.Test.YtdegjkfjaklkjaaMh15
import Derived.Test.YtdegjkfjaklkjaaMh16
import Derived.Test.YtdegjkfjaklkjaaMh18
import Derived.Test.YtdegjkfjaklkjaaMh19
import Derived.Test.YtdegjkfjaklkjaaMh20
import Derived.Test.YtdegjkfjaklkjaaMh21
namespace Go.Proofs.Ytdegjkfjaklkjaa
open Go.RowKit
set_option maxRecDepth 100000 in
set_option maxHeartbeats 8000000 in
theorem TreeBack_w (hC : TreC) (w : World) {v : Value} {n : Nd} (hr : RdN (· < w.heap.size) w v n) {Ka : Option Addr} {nk ck : Nat} {k : List UInt8} (hk0 : RdS (· < w.heap.size) w (.slice Ka nk ck) k) {st : Int} (hw : (Lit.int .i64 st).wf = true) :
    Calls Try.prog 10 #[v, .slice Ka nk ck, .int .i64 st] w fun e w' => e = .returned (.bool true) ∧ Below w.heap.size w w' := by
  have hsi := i64w hw
  obtain ⟨rfl, hkc, hkm⟩ := hk0.len
  have hkl : k.length ≤ 9223372036854775807 := by unfold maxLen at hkm; omega
  have hr0 := hr
  obtain ⟨a1, c1, a2, c2, a3, c3, rfl, r1, r2, r3⟩ := hr
  have hT := TriV.new w 26 (.slice a1 n.keys.length c1) (.slice a2 n.chains.length c2) (.slice a3 n.kids.length c3)
  have q : Below w.heap.size w (w.alloc (.cells #[.slice a1 n.keys.length c1, .slice a2 n.chains.length c2, .slice a3 n.kids.length c3] 26)) := (Below.refl _ _).alloc (Nat.le_refl _) _
  go_enter Try.func10, Try.ntmps10
  go_upto_region 1 with (fail)
  generalize w.alloc (.cells #[.slice a1 n.keys.length c1, .slice a2 n.chains.length c2, .slice a3 n.kids.length c3] 26) = W at *
  have t0 := hT.cell0
  have t1 := hT.cell1
  have t2 := hT.cell2
  go_wp2_with fail
  refine (hC.awake _).mono ?_
  rintro e w1 ⟨rfl, hb⟩
  replace q := q.trans (hb.mono q.size)
  replace hT := hT.below hb hT.lt
  clear hb t0 t1 t2
  have t0 := hT.cell0
  have t1 := hT.cell1
  have t2 := hT.cell2
  go_wp2_with fail
  refine (smallLaw_any _ (hr0.below q) (RdL.nil Elt.ver (fun _ => False) _)).mono ?_
  rintro e w2 ⟨r, rfl, hs, hb⟩
  replace q := q.trans (hb.mono q.size)
  replace hT := hT.below hb hT.lt
  clear hb t0 t1 t2
  have t0 := hT.cell0
  have t1 := hT.cell1
  have t2 := hT.cell2
  cases r with
  | false =>
    clear hs
    go_wp2_with fail
    go_ret
    exact ⟨rfl, q⟩
  | true =>
    have hsm := (hs rfl).2.2
    have hft := small5_fit hsm
    clear hs
    by_cases h100 : 100 < k.length
    · have d : decide ((100 : Int) < k.length) = true := decide_eq_true (by omega)
      clear h100
      go_wp2_with fail
      go_ret
      exact ⟨rfl, q⟩
    have d : decide ((100 : Int) < k.length) = false := decide_eq_false (by omega)
    have hk100 : k.length ≤ 1000 := by omega
    clear h100
    go_wp2_with fail
    refine (hC.check _ (hr0.below q) hft).mono ?_
    rintro e w3 ⟨rfl, hb⟩
    replace q := q.trans (hb.mono q.size)
    replace hT := hT.below hb hT.lt
    clear hb t0 t1 t2
    have t0 := hT.cell0
    have t1 := hT.cell1
    have t2 := hT.cell2
    by_cases hk : okN n
    · rw [decide_eq_true hk]
      have hpr : prN n = pairsN n := if_pos hk
      go_wp2_with fail
      refine (hC.find _ (hr0.below q) hft (hk0.below q) hk100).mono ?_
      rintro e w4 ⟨af, cf, rfl, _, hb⟩
      replace q := q.trans (hb.mono q.size)
      replace hT := hT.below hb hT.lt
      clear hb t0 t1 t2
      have t0 := hT.cell0
      have t1 := hT.cell1
      have t2 := hT.cell2
      rw [hpr]
      obtain ⟨hf1, hf2⟩ := small_few hsm hk
      obtain ⟨fo, hfo⟩ : ∃ fo, fo = findP (pairsN n) k := ⟨_, rfl⟩
      rw [← hfo]
      obtain ⟨e0, he0⟩ : ∃ e0 : Nat, e0 = if k.length ≤ 16 ∧ okV (oneV st) then 0 else 1 := ⟨_, rfl⟩
      have hq0 : ∀ m er, PutIs n k (oneV st) m er → er = e0 ∧ (e0 = 0 → okN m ∧ pairsN m = putP (pairsN n) k (oneV st)) ∧ (e0 = 1 → m = n) := fun m er h => by
        unfold PutIs at h
        by_cases hc : k.length ≤ 16 ∧ okV (oneV st)
        · rw [if_pos ⟨hk, hc.1, hc.2, by simp [oneV]⟩] at h
          rw [he0, if_pos hc]
          exact ⟨h.1, fun _ => h.2, fun h => by cases h⟩
        · rw [if_neg fun h2 => hc ⟨h2.2.1, h2.2.2.1⟩] at h
          rw [he0, if_neg hc]
          exact ⟨h.1, fun h => (by cases h), fun _ => h.2⟩
      have hc01 : e0 = 0 ∨ e0 = 1 := by rw [he0]; split; exact .inl rfl; exact .inr rfl
      clear he0
      replace hpr := Lib.hid hpr
      replace hfo := Lib.hid hfo
      have eO : ∀ args w, (callFunc 34 args).run Try.prog w = .ok (.enter 34 args) w := enters_of Try.func34 (by kernel_rfl) rfl
      have eP : ∀ args w, (callFunc 28 args).run Try.prog w = .ok (.enter 28 args) w := enters_of Try.func28 (by kernel_rfl) rfl
      have hT0 := hT
      go_upto_region 5 with (fail)
      refine wp_region_setl (K := fun _ _ => True) (by kernel_rfl) (by kernel_rfl) [3, 4, 5, 6, 7, 8, 9] (by kernel_rfl) [lEq (.agg #[.slice a1 n.keys.length c1, .slice a2 n.chains.length c2, .slice a3 n.kids.length c3]), lEq (.slice Ka k.length ck), lEq (.int .i64 st), lAny, lAny, lAny, lAny, lAny, lAny, lAny, lEq (.int .i64 (e0 : Nat))]
        (CbV (bv ([])).toArray 5 (NodeR (PutIs n k (oneV st))) zNode NodeB (KeyW ([])) (VerW (oneV st)) w4) (CbV.more (stays (PutIs n k (oneV st)) ([]) (oneV st))) (CbS.start _)
        ⟨?o0, ?o1, ?o2, ?o3, ?o4, ?o5, ?o6, ?o7, ?o8, ?o9, ?o10, trivial⟩ ?fin
      case o0 =>
        refine StOp.free rfl (by kernel_rfl) (fun A va D w' hF hT hN hE hd hu hg => ?_)
        have e1 : A.eval (.tmp 3) = .pointer (some ⟨w.heap.size, 0, none⟩) := hF 3 rfl
        exact wp_load3 ndS rfl (e1) ((hT0.below (CbV.below hE) hT0.lt).cell0) ((hT0.below (CbV.below hE) hT0.lt).cell1) ((hT0.below (CbV.below hE) hT0.lt).cell2) ⟨_, rfl, rfl, Below.refl _ _⟩
      case o1 =>
        refine StOp.free rfl (by kernel_rfl) (fun A va D w' hF hT hN hE hd hu hg => ?_)
        have e1 : A.eval (.tmp 1) = .slice Ka k.length ck := hF 1 rfl
        exact BigFrame.wp_move _ rfl ⟨_, rfl, e1, Below.refl _ _⟩
      case o2 =>
        refine StOp.free rfl (by kernel_rfl) (fun A va D w' hF hT hN hE hd hu hg => ?_)
        have e1 : A.eval (.tmp 2) = .int .i64 st := hF 2 rfl
        exact BigFrame.wp_move _ rfl ⟨_, rfl, e1, Below.refl _ _⟩
      case o3 =>
        refine StOp.set rfl (by kernel_rfl) (fun A va D w' hF hT hN hE hd hu hg => ?_)
        have e1 : A.eval (.tmp 38) = .int .i64 st := (hT 38 2 (by simp) rfl).trans (hg ⟨2, .data⟩ (by simp) rfl rfl)
        have hE2 := hE
        simp only [told, List.map_cons, List.map_nil, hN, Bool.false_eq_true, if_false] at hE2
        refine wp_callFn rfl eO (args := #[.int .i64 st]) (by simp only [List.map_toArray, List.map_cons, List.map_nil, e1]) ((one_any w' hsi).mono ?_)
        rintro e w2 ⟨a2, c2, rfl, hv2, hb2⟩
        have h5 := CbS.vers (stays (PutIs n k (oneV st)) ([]) (oneV st)) hE2 hb2 (u := .slice a2 1 c2) ⟨_, _, rfl, hv2⟩
        exact ⟨_, rfl, _, rfl, by simpa [CbV, told, don, upd] using h5, trivial⟩
      case o4 =>
        refine StOp.set rfl (by kernel_rfl) (fun A va D w' hF hT hN hE hd hu hg => ?_)
        have e1 : A.eval (.tmp 36) = .agg #[.slice a1 n.keys.length c1, .slice a2 n.chains.length c2, .slice a3 n.kids.length c3] := (hT 36 0 (by simp) rfl).trans (hg ⟨0, .data⟩ (by simp) rfl rfl)
        have e2 : A.eval (.tmp 37) = .slice Ka k.length ck := (hT 37 1 (by simp) rfl).trans (hg ⟨1, .data⟩ (by simp) rfl rfl)
        have x3 : A.eval (.tmp 39) = va 3 := hT 39 3 (by simp) rfl
        have hE2 := hE
        have d3 : D 3 = true := hd ⟨3, .data⟩ (by simp) rfl
        simp only [told, List.map_cons, List.map_nil, hN, d3, Bool.false_eq_true, if_false, if_true] at hE2
        have hBE := hE2.be
        obtain ⟨va2, vc, ev, hvr⟩ := hE2.k2 _ rfl
        refine wp_callFn rfl eP (args := #[.agg #[.slice a1 n.keys.length c1, .slice a2 n.chains.length c2, .slice a3 n.kids.length c3], .slice Ka k.length ck, .slice va2 (oneV st).length vc]) (by simp only [List.map_toArray, List.map_cons, List.map_nil, e1, e2, x3.trans ev]) ((hC.put w' (hr0.below (q.trans (hBE.mono q.size))) hft (hk0.below (q.trans (hBE.mono q.size))) hk100 hvr (oneV_small st)).mono ?_)
        rintro e w2 ⟨v, n2, er, rfl, hq, hrd, hb2⟩
        have h5 := CbS.call (stays (PutIs n k (oneV st)) ([]) (oneV st)) hE2 (by simp) hb2 (v := v) (e := .int .i64 (er : Nat)) ⟨n2, er, rfl, hq, hrd⟩
        exact ⟨_, rfl, _, rfl, by simpa [CbV, told, don, upd, bv_length, d3] using h5, trivial⟩
      case o5 =>
        refine StOp.set rfl (by kernel_rfl) (fun A va D w' hF hT hN hE hd hu hg => ?_)
        have x1 : A.eval (.tmp 40) = va 4 := hT 40 4 (by simp) rfl
        have hE2 := hE
        have d4 : D 4 = true := hd ⟨4, .data⟩ (by simp) rfl
        simp only [told, List.map_cons, List.map_nil, hN, d4, Bool.false_eq_true, if_false, if_true] at hE2
        have h5 := CbS.move hE2
        exact BigFrame.wp_move _ rfl ⟨_, rfl, by rw [x1]; simpa [CbV, told, don, upd, bv_length, d4] using h5, trivial⟩
      case o6 =>
        refine StOp.set rfl (by kernel_rfl) (fun A va D w' hF hT hN hE hd hu hg => ?_)
        have x1 : A.eval (.tmp 35) = va 5 := hT 35 5 (by simp) rfl
        have hE2 := hE
        have d5 : D 5 = true := hd ⟨5, .data⟩ (by simp) rfl
        simp only [told, List.map_cons, List.map_nil, hN, d5, Bool.false_eq_true, if_false, if_true] at hE2
        obtain ⟨v, e, em⟩ := CbS.tup hE2
        rw [em] at hE2
        have h5 := CbS.ex0 hE2
        exact wp_ex rfl (x1.trans em) rfl ⟨_, rfl, by simpa [CbV, told, don, upd, d5, em] using h5, trivial⟩
      case o7 =>
        refine StOp.set rfl (by kernel_rfl) (fun A va D w' hF hT hN hE hd hu hg => ?_)
        have x1 : A.eval (.tmp 35) = va 5 := hT 35 5 (by simp) rfl
        have hE2 := hE
        have d5 : D 5 = true := hd ⟨5, .data⟩ (by simp) rfl
        simp only [told, List.map_cons, List.map_nil, hN, d5, Bool.false_eq_true, if_false, if_true] at hE2
        obtain ⟨v, e, em⟩ := CbS.tup hE2
        rw [em] at hE2
        have h5 := CbS.ex1 hE2
        exact wp_ex rfl (x1.trans em) rfl ⟨_, rfl, by simpa [CbV, told, don, upd, d5, em] using h5, trivial⟩
      case o8 =>
        refine StOp.set rfl (by kernel_rfl) (fun A va D w' hF hT hN hE hd hu hg => ?_)
        have hE2 := hE
        simp only [told, List.map_cons, List.map_nil, hN, Bool.false_eq_true, if_false] at hE2
        refine wp_allocN rfl (fun w2 hb2 hz => ⟨_, rfl, ?_, trivial⟩)
        have h5 := CbS.alloc (stays (PutIs n k (oneV st)) ([]) (oneV st)) hE2 hb2 hz
        simpa [CbV, told, don, upd, bv_length] using h5
      case o9 =>
        refine StOp.set rfl (by kernel_rfl) (fun A va D w' hF hT hN hE hd hu hg => ?_)
        have x1 : A.eval (.tmp 10) = va 8 := hT 10 8 (by simp) rfl
        have x2 : A.eval (.tmp 41) = va 6 := hT 41 6 (by simp) rfl
        have hE2 := hE
        have d8 : D 8 = true := hd ⟨8, .data⟩ (by simp) rfl
        have d6 : D 6 = true := hd ⟨6, .data⟩ (by simp) rfl
        simp only [told, List.map_cons, List.map_nil, hN, d8, d6, Bool.false_eq_true, if_false, if_true] at hE2
        obtain ⟨b, eb, hb0⟩ := CbS.box hE2
        obtain ⟨e, hm⟩ := hE2.mx _ rfl
        obtain ⟨v, e2, ec, n2, er, _, _, hrd⟩ := hE2.rr _ (hE2.mv _ hm)
        obtain ⟨A1, B1, A2, B2, A3, B3, ev, _⟩ := id hrd
        injection ec with ec
        injection ec with ec
        injection ec with ec _
        rw [← ec] at ev
        refine wp_storeT rfl (x1.trans eb) (x2.trans ev) rfl rfl rfl hb0 (fun w2 hg2 ht2 => ⟨_, rfl, ?_, trivial⟩)
        rw [eb] at hE2
        have h5 := CbS.sto (u := undef) (stays (PutIs n k (oneV st)) ([]) (oneV st)) hE2 hg2 ⟨_, _, _, ev, ht2⟩
        simpa [CbV, told, don, upd, d8, d6, eb] using h5
      case o10 =>
        refine StOp.free rfl (by kernel_rfl) (fun A va D w' hF hT hN hE hd hu hg => ?_)
        have x1 : A.eval (.tmp 42) = va 7 := hT 42 7 (by simp) rfl
        have hE2 := hE
        have d7 : D 7 = true := hd ⟨7, .data⟩ (by simp) rfl
        simp only [told, List.map_cons, List.map_nil, d7, if_true] at hE2
        have ee := CbS.err hE2 (fun n er hQ => (hq0 _ _ hQ).1)
        exact BigFrame.wp_assign _ rfl ⟨_, rfl, x1.trans ee, Below.refl _ _⟩
      case fin =>
        intro vs1 W1 hE hG
        obtain ⟨bM, ez, em, ec, hbM, hBx, hR, hbE⟩ := CbS.done (nodeR _) hE (by simp)
        obtain ⟨nM, er, ee, hQ, hM⟩ := hR
        have her : er = e0 := (hq0 _ _ hQ).1
        rw [her] at ee hQ
        clear her
        obtain ⟨x1, y1, z1, ev, hTM⟩ := hBx
        have g0 : vs1 0 = .agg #[.slice a1 n.keys.length c1, .slice a2 n.chains.length c2, .slice a3 n.kids.length c3] := hG 0 (by decide) rfl
        have g1 : vs1 1 = .slice Ka k.length ck := hG 1 (by decide) rfl
        have g2 : vs1 2 = .int .i64 st := hG 2 (by decide) rfl
        have g10 : vs1 10 = .int .i64 (e0 : Nat) := hG 10 (by decide) rfl
        simp only [putAll, g0, g1, g2, g10, ec, em, ev, ee, ez]
        rw [ev] at hM
        obtain ⟨hm0, hm1, hm2⟩ := hq0 _ _ hQ
        have rM : RdN (fun _ => True) W1 (.agg #[x1, y1, z1]) nM := hM.weak fun _ _ => trivial
        obtain ⟨A1, B1, A2, B2, A3, B3, e3, _, _, _⟩ := id rM
        injection e3 with e3
        injection e3 with e3
        injection e3 with e4 e3
        injection e3 with e5 e3
        injection e3 with e6 _
        subst e4 e5 e6
        have hTMc0 := hTM.cell0
        have hTMc1 := hTM.cell1
        have hTMc2 := hTM.cell2
        clear hM hE hG ec em ev ee ez g0 g1 g2 g10 hbM eO eP hm0 hT0
        replace q := q.trans (hbE.mono q.size)
        replace hT := hT.below hbE hT.lt
        clear hbE t0 t1 t2
        have t0 := hT.cell0
        have t1 := hT.cell1
        have t2 := hT.cell2
        have fM : fitN nM := by
          rcases hc01 with h | h
          · obtain ⟨h1, h2⟩ := hm1 h
            refine ok_fit h1 ⟨?_, ?_⟩
            · rw [h2, put_len (okN_srt hk)]
              split <;> omega
            · rw [h2]
              exact few_put (okN_srt hk) hf2 (oneV_small st)
          · rw [hm2 h]; exact hft
        go_simp
        go_wp2_with fail
        refine (hC.delete _ rM fM (hk0.below q) hk100).mono ?_
        rintro e w6 ⟨vO, nO, eD, rfl, hD, rO, hb⟩
        replace q := q.trans (hb.mono q.size)
        replace hT := hT.below hb hT.lt
        replace rM := rM.below hb
        replace hTM := hTM.below hb hTM.lt
        clear hb t0 t1 t2 hTMc0 hTMc1 hTMc2
        have t0 := hT.cell0
        have t1 := hT.cell1
        have t2 := hT.cell2
        have hTMc0 := hTM.cell0
        have hTMc1 := hTM.cell1
        have hTMc2 := hTM.cell2
        obtain ⟨O1, P1, O2, P2, O3, P3, rfl, _, _, _⟩ := id rO
        go_upto_region 7 with (first | (refine wpList_allocT rfl rfl ?_; intro wa hba hta) | (refine wpList_storeT rfl rfl rfl rfl rfl rfl rfl rfl hta ?_; intro w7 hgs hTO) | fail)
        have hb := hba.grown hgs hba.size fun k e => by injection e with e; omega
        clear hba hgs hta
        replace rO := rO.below hb
        replace q := q.trans (hb.mono q.size)
        replace hT := hT.below hb hT.lt
        replace rM := rM.below hb
        replace hTM := hTM.below hb hTM.lt
        clear hb t0 t1 t2 hTMc0 hTMc1 hTMc2
        have t0 := hT.cell0
        have t1 := hT.cell1
        have t2 := hT.cell2
        have hTMc0 := hTM.cell0
        have hTMc1 := hTM.cell1
        have hTMc2 := hTM.cell2
        have hTOc0 := hTO.cell0
        have hTOc1 := hTO.cell1
        have hTOc2 := hTO.cell2
        generalize w6.heap.size = bO at *
        rcases hc01 with rfl | rfl
        · obtain ⟨hMk, hMp⟩ := hm1 rfl
          clear hm1 hm2 hq0
          cases fo with
          | some fv =>
            simp only [Option.isSome_some]
            go_wp2_with fail
            go_ret
            exact ⟨rfl, q⟩
          | none =>
            simp only [Option.isSome_none]
            have hfn := hfo.out.symm
            have hsr := okN_srt hk
            have hD2 : eD = 0 ∧ okN nO ∧ pairsN nO = pairsN n := by
              unfold DelIs at hD
              rw [if_pos hMk, hMp, put_find hsr, if_pos rfl, if_pos (by rfl), put_del hsr hfn] at hD
              exact hD
            obtain ⟨rfl, hOk, hOp⟩ := hD2
            have hMl : (prN nM).length = (prN n).length + 1 := by rw [show prN nM = pairsN nM from if_pos hMk, hMp, put_len hsr, hfn, hpr.out]; rfl
            have hOl : prN nO = prN n := by rw [show prN nO = pairsN nO from if_pos hOk, hOp, hpr.out]
            have fO : fitN nO := ok_fit hOk (by rw [hOp]; exact ⟨by omega, hf2⟩)
            have hln : (prN n).length ≤ 1023 := by rw [hpr.out]; exact hf1
            clear hD hfo hfn hsr hMp hOp hf1 hf2
            replace hOl := Lib.hid hOl
            replace hMl := Lib.hid hMl
            have hTz := hT
            go_upto_region 9 with (fail)
            refine wp_region_gsa (by kernel_rfl) (by kernel_rfl) [sgEq (.bool true), sgEq (.bool true), sgEq (.int .i64 0), sgEq (.bool true), sgEq (.bool true), sgEq (.bool true), sgEq (.agg #[.slice A1 nM.keys.length B1, .slice A2 nM.chains.length B2, .slice A3 nM.kids.length B3]), sgEq (.bool true), sgEq (.bool true), sgEq (.bool true), sgEq (.agg #[.slice O1 nO.keys.length P1, .slice O2 nO.chains.length P2, .slice O3 nO.kids.length P3]), sgEq (.bool true), sgEq (.bool true), sgEq (.bool true), sgEq (.agg #[.slice A1 nM.keys.length B1, .slice A2 nM.chains.length B2, .slice A3 nM.kids.length B3]), sgEq (.int .i64 ((prN nM).length : Nat)), sgEq (.agg #[.slice a1 n.keys.length c1, .slice a2 n.chains.length c2, .slice a3 n.kids.length c3]), sgEq (.int .i64 ((prN n).length : Nat)), sgEq (.int .i64 ((prN n).length + 1 : Nat)), sgEq (.bool true), sgEq (.bool true), sgEq (.bool true), sgEq (.agg #[.slice O1 nO.keys.length P1, .slice O2 nO.chains.length P2, .slice O3 nO.kids.length P3]), sgVP (prN n), sgEq (.agg #[.slice a1 n.keys.length c1, .slice a2 n.chains.length c2, .slice a3 n.kids.length c3]), sgVP (prN n), sgEq (.bool true), sgEq (.bool true), sgEq (.bool true)]
              ⟨?o0, ?o1, ?o2, ?o3, ?o4, ?o5, ?o6, ?o7, ?o8, ?o9, ?o10, ?o11, ?o12, ?o13, ?o14, ?o15, ?o16, ?o17, ?o18, ?o19, ?o20, ?o21, ?o22, ?o23, ?o24, ?o25, ?o26, ?o27, ?o28, trivial⟩ ?fin
            case o0 =>
              refine GdOp.plain rfl (fun A vs w' hF hT hb hd => ?_)
              have e1 : A.eval (.tmp 7) = .bool true := hF 7 rfl
              exact BigFrame.wp_move _ rfl ⟨_, rfl, e1, Below.refl _ _⟩
            case o1 =>
              refine GdOp.plain rfl (fun A vs w' hF hT hb hd => ?_)
              have e1 : A.eval (.tmp 63) = .bool true := (hT 63 0 (by simp) rfl).trans (hd ⟨0, .data⟩ (by simp) rfl)
              exact BigFrame.wp_move _ rfl ⟨_, rfl, e1, Below.refl _ _⟩
            case o2 =>
              refine GdOp.taken rfl ⟨_, _, rfl, rfl, by simp⟩ (by kernel_rfl) (fun w v h => h) (fun A vs w' hF hT hb hd => ?_)
              have e1 : A.eval (.tmp 13) = .int .i64 0 := hF 13 rfl
              exact BigFrame.wp_move _ rfl ⟨_, rfl, e1, Below.refl _ _⟩
            case o3 =>
              refine GdOp.taken rfl ⟨_, _, rfl, rfl, by simp⟩ (by kernel_rfl) (fun w v h => h) (fun A vs w' hF hT hb hd => ?_)
              have e1 : A.eval (.tmp 65) = .int .i64 0 := (hT 65 2 (by simp) rfl).trans (hd ⟨2, .data⟩ (by simp) rfl)
              exact wp_eqlI rfl e1 rfl ⟨_, rfl, congrArg Value.bool (by simp), Below.refl _ _⟩
            case o4 =>
              refine GdOp.plain rfl (fun A vs w' hF hT hb hd => ?_)
              have e1 : A.eval (.tmp 64) = .bool true := (hT 64 1 (by simp) rfl).trans (hd ⟨1, .data⟩ (by simp) rfl)
              have e2 : A.eval (.tmp 66) = .bool true := (hT 66 3 (by simp) rfl).trans (hd ⟨3, .data⟩ (by simp) rfl)
              exact wp_pk rfl e1 (fun _ => e2) (by simp) ⟨_, rfl, rfl, Below.refl _ _⟩
            case o5 =>
              refine GdOp.plain rfl (fun A vs w' hF hT hb hd => ?_)
              have e1 : A.eval (.tmp 67) = .bool true := (hT 67 4 (by simp) rfl).trans (hd ⟨4, .data⟩ (by simp) rfl)
              exact BigFrame.wp_move _ rfl ⟨_, rfl, e1, Below.refl _ _⟩
            case o6 =>
              refine GdOp.taken rfl ⟨_, _, rfl, rfl, by simp⟩ (by kernel_rfl) (fun w v h => h) (fun A vs w' hF hT hb hd => ?_)
              have e1 : A.eval (.tmp 10) = .pointer (some ⟨bM, 0, none⟩) := hF 10 rfl
              have hb3 := hTM.below hb hTM.lt
              exact wp_load3 ndS rfl e1 hb3.cell0 hb3.cell1 hb3.cell2 ⟨_, rfl, rfl, Below.refl _ _⟩
            case o7 =>
              refine GdOp.taken rfl ⟨_, _, rfl, rfl, by simp⟩ (by kernel_rfl) (fun w v h => h) (fun A vs w' hF hT hb hd => ?_)
              have e1 : A.eval (.tmp 69) = .agg #[.slice A1 nM.keys.length B1, .slice A2 nM.chains.length B2, .slice A3 nM.kids.length B3] := (hT 69 6 (by simp) rfl).trans (hd ⟨6, .data⟩ (by simp) rfl)
              refine wp_callFn rfl (enters_of Try.func22 (by kernel_rfl) rfl) (args := #[.agg #[.slice A1 nM.keys.length B1, .slice A2 nM.chains.length B2, .slice A3 nM.kids.length B3]]) (by simp [e1]) ((hC.check w' (rM.below hb) fM).mono ?_)
              rintro e w2 ⟨rfl, hb2⟩
              exact ⟨_, rfl, _, rfl, congrArg Value.bool (decide_eq_true hMk), hb2⟩
            case o8 =>
              refine GdOp.plain rfl (fun A vs w' hF hT hb hd => ?_)
              have e1 : A.eval (.tmp 68) = .bool true := (hT 68 5 (by simp) rfl).trans (hd ⟨5, .data⟩ (by simp) rfl)
              have e2 : A.eval (.tmp 70) = .bool true := (hT 70 7 (by simp) rfl).trans (hd ⟨7, .data⟩ (by simp) rfl)
              exact wp_pk rfl e1 (fun _ => e2) (by simp) ⟨_, rfl, rfl, Below.refl _ _⟩
            case o9 =>
              refine GdOp.plain rfl (fun A vs w' hF hT hb hd => ?_)
              have e1 : A.eval (.tmp 71) = .bool true := (hT 71 8 (by simp) rfl).trans (hd ⟨8, .data⟩ (by simp) rfl)
              exact BigFrame.wp_move _ rfl ⟨_, rfl, e1, Below.refl _ _⟩
            case o10 =>
              refine GdOp.taken rfl ⟨_, _, rfl, rfl, by simp⟩ (by kernel_rfl) (fun w v h => h) (fun A vs w' hF hT hb hd => ?_)
              have e1 : A.eval (.tmp 12) = .pointer (some ⟨bO, 0, none⟩) := hF 12 rfl
              have hb3 := hTO.below hb hTO.lt
              exact wp_load3 ndS rfl e1 hb3.cell0 hb3.cell1 hb3.cell2 ⟨_, rfl, rfl, Below.refl _ _⟩
            case o11 =>
              refine GdOp.taken rfl ⟨_, _, rfl, rfl, by simp⟩ (by kernel_rfl) (fun w v h => h) (fun A vs w' hF hT hb hd => ?_)
              have e1 : A.eval (.tmp 73) = .agg #[.slice O1 nO.keys.length P1, .slice O2 nO.chains.length P2, .slice O3 nO.kids.length P3] := (hT 73 10 (by simp) rfl).trans (hd ⟨10, .data⟩ (by simp) rfl)
              refine wp_callFn rfl (enters_of Try.func22 (by kernel_rfl) rfl) (args := #[.agg #[.slice O1 nO.keys.length P1, .slice O2 nO.chains.length P2, .slice O3 nO.kids.length P3]]) (by simp [e1]) ((hC.check w' (rO.below hb) fO).mono ?_)
              rintro e w2 ⟨rfl, hb2⟩
              exact ⟨_, rfl, _, rfl, congrArg Value.bool (decide_eq_true hOk), hb2⟩
            case o12 =>
              refine GdOp.plain rfl (fun A vs w' hF hT hb hd => ?_)
              have e1 : A.eval (.tmp 72) = .bool true := (hT 72 9 (by simp) rfl).trans (hd ⟨9, .data⟩ (by simp) rfl)
              have e2 : A.eval (.tmp 74) = .bool true := (hT 74 11 (by simp) rfl).trans (hd ⟨11, .data⟩ (by simp) rfl)
              exact wp_pk rfl e1 (fun _ => e2) (by simp) ⟨_, rfl, rfl, Below.refl _ _⟩
            case o13 =>
              refine GdOp.plain rfl (fun A vs w' hF hT hb hd => ?_)
              have e1 : A.eval (.tmp 75) = .bool true := (hT 75 12 (by simp) rfl).trans (hd ⟨12, .data⟩ (by simp) rfl)
              exact BigFrame.wp_move _ rfl ⟨_, rfl, e1, Below.refl _ _⟩
            case o14 =>
              refine GdOp.taken rfl ⟨_, _, rfl, rfl, by simp⟩ (by kernel_rfl) (fun w v h => h) (fun A vs w' hF hT hb hd => ?_)
              have e1 : A.eval (.tmp 10) = .pointer (some ⟨bM, 0, none⟩) := hF 10 rfl
              have hb3 := hTM.below hb hTM.lt
              exact wp_load3 ndS rfl e1 hb3.cell0 hb3.cell1 hb3.cell2 ⟨_, rfl, rfl, Below.refl _ _⟩
            case o15 =>
              refine GdOp.taken rfl ⟨_, _, rfl, rfl, by simp⟩ (by kernel_rfl) (fun w v h => h) (fun A vs w' hF hT hb hd => ?_)
              have e1 : A.eval (.tmp 77) = .agg #[.slice A1 nM.keys.length B1, .slice A2 nM.chains.length B2, .slice A3 nM.kids.length B3] := (hT 77 14 (by simp) rfl).trans (hd ⟨14, .data⟩ (by simp) rfl)
              refine wp_callFn rfl (enters_of Try.func24 (by kernel_rfl) rfl) (args := #[.agg #[.slice A1 nM.keys.length B1, .slice A2 nM.chains.length B2, .slice A3 nM.kids.length B3]]) (by simp [e1]) ((hC.many w' (rM.below hb) fM).mono ?_)
              rintro e w2 ⟨rfl, hb2⟩
              exact ⟨_, rfl, _, rfl, rfl, hb2⟩
            case o16 =>
              refine GdOp.taken rfl ⟨_, _, rfl, rfl, by simp⟩ (by kernel_rfl) (fun w v h => h) (fun A vs w' hF hT hb hd => ?_)
              have e1 : A.eval (.tmp 3) = .pointer (some ⟨w.heap.size, 0, none⟩) := hF 3 rfl
              have hb3 := hTz.below hb hTz.lt
              exact wp_load3 ndS rfl e1 hb3.cell0 hb3.cell1 hb3.cell2 ⟨_, rfl, rfl, Below.refl _ _⟩
            case o17 =>
              refine GdOp.taken rfl ⟨_, _, rfl, rfl, by simp⟩ (by kernel_rfl) (fun w v h => h) (fun A vs w' hF hT hb hd => ?_)
              have e1 : A.eval (.tmp 79) = .agg #[.slice a1 n.keys.length c1, .slice a2 n.chains.length c2, .slice a3 n.kids.length c3] := (hT 79 16 (by simp) rfl).trans (hd ⟨16, .data⟩ (by simp) rfl)
              refine wp_callFn rfl (enters_of Try.func24 (by kernel_rfl) rfl) (args := #[.agg #[.slice a1 n.keys.length c1, .slice a2 n.chains.length c2, .slice a3 n.kids.length c3]]) (by simp [e1]) ((hC.many w' (hr0.below (q.trans (hb.mono q.size))) hft).mono ?_)
              rintro e w2 ⟨rfl, hb2⟩
              exact ⟨_, rfl, _, rfl, rfl, hb2⟩
            case o18 =>
              refine GdOp.taken rfl ⟨_, _, rfl, rfl, by simp⟩ (by kernel_rfl) (fun w v h => h) (fun A vs w' hF hT hb hd => ?_)
              have e1 : A.eval (.tmp 80) = .int .i64 ((prN n).length : Nat) := (hT 80 17 (by simp) rfl).trans (hd ⟨17, .data⟩ (by simp) rfl)
              exact wp_addI rfl e1 rfl (by omega) (by omega) ⟨_, rfl, rfl, Below.refl _ _⟩
            case o19 =>
              refine GdOp.taken rfl ⟨_, _, rfl, rfl, by simp⟩ (by kernel_rfl) (fun w v h => h) (fun A vs w' hF hT hb hd => ?_)
              have e1 : A.eval (.tmp 78) = .int .i64 ((prN nM).length : Nat) := (hT 78 15 (by simp) rfl).trans (hd ⟨15, .data⟩ (by simp) rfl)
              have e2 : A.eval (.tmp 81) = .int .i64 ((prN n).length + 1 : Nat) := (hT 81 18 (by simp) rfl).trans (hd ⟨18, .data⟩ (by simp) rfl)
              exact wp_eqlI rfl e1 e2 ⟨_, rfl, congrArg Value.bool (by rw [hMl.out]; simp), Below.refl _ _⟩
            case o20 =>
              refine GdOp.plain rfl (fun A vs w' hF hT hb hd => ?_)
              have e1 : A.eval (.tmp 76) = .bool true := (hT 76 13 (by simp) rfl).trans (hd ⟨13, .data⟩ (by simp) rfl)
              have e2 : A.eval (.tmp 82) = .bool true := (hT 82 19 (by simp) rfl).trans (hd ⟨19, .data⟩ (by simp) rfl)
              exact wp_pk rfl e1 (fun _ => e2) (by simp) ⟨_, rfl, rfl, Below.refl _ _⟩
            case o21 =>
              refine GdOp.plain rfl (fun A vs w' hF hT hb hd => ?_)
              have e1 : A.eval (.tmp 83) = .bool true := (hT 83 20 (by simp) rfl).trans (hd ⟨20, .data⟩ (by simp) rfl)
              exact BigFrame.wp_move _ rfl ⟨_, rfl, e1, Below.refl _ _⟩
            case o22 =>
              refine GdOp.taken rfl ⟨_, _, rfl, rfl, by simp⟩ (by kernel_rfl) (fun w v h => h) (fun A vs w' hF hT hb hd => ?_)
              have e1 : A.eval (.tmp 12) = .pointer (some ⟨bO, 0, none⟩) := hF 12 rfl
              have hb3 := hTO.below hb hTO.lt
              exact wp_load3 ndS rfl e1 hb3.cell0 hb3.cell1 hb3.cell2 ⟨_, rfl, rfl, Below.refl _ _⟩
            case o23 =>
              refine GdOp.taken rfl ⟨_, _, rfl, rfl, by simp⟩ (by kernel_rfl) (fun w v h => h) (fun A vs w' hF hT hb hd => ?_)
              have e1 : A.eval (.tmp 85) = .agg #[.slice O1 nO.keys.length P1, .slice O2 nO.chains.length P2, .slice O3 nO.kids.length P3] := (hT 85 22 (by simp) rfl).trans (hd ⟨22, .data⟩ (by simp) rfl)
              refine wp_callFn rfl (enters_of Try.func20 (by kernel_rfl) rfl) (args := #[.agg #[.slice O1 nO.keys.length P1, .slice O2 nO.chains.length P2, .slice O3 nO.kids.length P3]]) (by simp [e1]) ((lawPairs_any hC w' (rO.below hb) fO (by rw [hOl.out]; omega)).mono ?_)
              rintro e w2 ⟨ap, np, cp, rfl, hP, hb2⟩
              rw [hOl.out] at hP
              exact ⟨_, rfl, _, rfl, ⟨_, _, _, rfl, hP⟩, hb2⟩
            case o24 =>
              refine GdOp.taken rfl ⟨_, _, rfl, rfl, by simp⟩ (by kernel_rfl) (fun w v h => h) (fun A vs w' hF hT hb hd => ?_)
              have e1 : A.eval (.tmp 3) = .pointer (some ⟨w.heap.size, 0, none⟩) := hF 3 rfl
              have hb3 := hTz.below hb hTz.lt
              exact wp_load3 ndS rfl e1 hb3.cell0 hb3.cell1 hb3.cell2 ⟨_, rfl, rfl, Below.refl _ _⟩
            case o25 =>
              refine GdOp.taken rfl ⟨_, _, rfl, rfl, by simp⟩ (by kernel_rfl) (fun w v h => h) (fun A vs w' hF hT hb hd => ?_)
              have e1 : A.eval (.tmp 87) = .agg #[.slice a1 n.keys.length c1, .slice a2 n.chains.length c2, .slice a3 n.kids.length c3] := (hT 87 24 (by simp) rfl).trans (hd ⟨24, .data⟩ (by simp) rfl)
              refine wp_callFn rfl (enters_of Try.func20 (by kernel_rfl) rfl) (args := #[.agg #[.slice a1 n.keys.length c1, .slice a2 n.chains.length c2, .slice a3 n.kids.length c3]]) (by simp [e1]) ((lawPairs_any hC w' (hr0.below (q.trans (hb.mono q.size))) hft (by omega)).mono ?_)
              rintro e w2 ⟨ap, np, cp, rfl, hP, hb2⟩
              exact ⟨_, rfl, _, rfl, ⟨_, _, _, rfl, hP⟩, hb2⟩
            case o26 =>
              refine GdOp.taken rfl ⟨_, _, rfl, rfl, by simp⟩ (by kernel_rfl) (fun w v h => h) (fun A vs w' hF hT hb hd => ?_)
              obtain ⟨p1, p2, p3, ep, hp⟩ := hd ⟨23, .data⟩ (by simp) rfl
              obtain ⟨r1, r2, r3, er, hr⟩ := hd ⟨25, .data⟩ (by simp) rfl
              have x1 : A.eval (.tmp 86) = .slice p1 p2 p3 := (hT 86 23 (by simp) rfl).trans ep
              have x2 : A.eval (.tmp 88) = .slice r1 r2 r3 := (hT 88 25 (by simp) rfl).trans er
              refine wp_callFn rfl (enters_of Try.func19 (by kernel_rfl) rfl) (args := #[.slice p1 p2 p3, .slice r1 r2 r3]) (by simp only [List.map_toArray, List.map_cons, List.map_nil, x1, x2]) ((sameP_any w' hp hr).mono ?_)
              rintro e w2 ⟨rfl, hb2⟩
              exact ⟨_, rfl, _, rfl, congrArg Value.bool (decide_eq_true rfl), hb2⟩
            case o27 =>
              refine GdOp.plain rfl (fun A vs w' hF hT hb hd => ?_)
              have e1 : A.eval (.tmp 84) = .bool true := (hT 84 21 (by simp) rfl).trans (hd ⟨21, .data⟩ (by simp) rfl)
              have e2 : A.eval (.tmp 89) = .bool true := (hT 89 26 (by simp) rfl).trans (hd ⟨26, .data⟩ (by simp) rfl)
              exact wp_pk rfl e1 (fun _ => e2) (by simp) ⟨_, rfl, rfl, Below.refl _ _⟩
            case o28 =>
              refine GdOp.plain rfl (fun A vs w' hF hT hb hd => ?_)
              have e1 : A.eval (.tmp 90) = .bool true := (hT 90 27 (by simp) rfl).trans (hd ⟨27, .data⟩ (by simp) rfl)
              exact BigFrame.wp_assign _ rfl ⟨_, rfl, e1, Below.refl _ _⟩
            case fin =>
              intro A vs w' hA hb hG
              have e6 : A.eval (.tmp 6) = .bool true := (hA.2.2.2 6 28 (by simp) rfl).trans (hG 28 (by decide))
              have hd : A.defers = [] := hA.1
              clear hG hA
              go_wp2
              refine bodyPost_ret (v := .bool true) ?_ hd ⟨rfl, q.trans (hb.mono q.size)⟩
              rw [← e6]
              exact results_tmp rfl _ _ _
        · go_wp2_with fail
          go_ret
          exact ⟨rfl, q⟩
    · rw [decide_eq_false hk]
      clear hk
      go_wp2_with fail
      go_ret
      exact ⟨rfl, q⟩
end Go.Proofs.Ytdegjkfjaklkjaa
