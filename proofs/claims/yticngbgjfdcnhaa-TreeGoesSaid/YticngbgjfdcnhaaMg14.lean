/-
  TEXTS OF ONE PROOF, merged: TrbH, TreY.
-/
import Derived.Test.YticngbgjfdcnhaaMg13
namespace Go.Proofs.Yticngbgjfdcnhaa
open Go.RowKit
structure HasP (n : Nd) (l : List Pr) : Prop where
  ok : okN n
  pr : pairsN n = l
theorem HasP.prN {n : Nd} {l : List Pr} (h : HasP n l) : prN n = l := by unfold Go.Proofs.Yticngbgjfdcnhaa.prN; rw [if_pos h.ok, h.pr]
theorem HasP.fit {n : Nd} {l : List Pr} (h : HasP n l) (hf : fewP l) : fitN n := ok_fit h.ok (by rw [h.pr]; exact hf)
theorem hasE : HasP noNd [] where
  ok := ⟨by decide, fun i h => by cases h⟩
  pr := rfl
theorem rdE (S : Nat → Prop) (w : World) : RdN S w (.agg #[.slice none 0 0, .slice none 0 0, .slice none 0 0]) noNd := ⟨none, 0, none, 0, none, 0, rfl, RdL.nil _ _ _, RdL.nil _ _ _, RdL.nil _ _ _⟩
theorem oneV_ok {s : Int} (h1 : 1 ≤ s) (h2 : s < 2147483648) : okV (oneV s) := by
  intro r hr
  obtain rfl : r = 0 := by simp [oneV] at hr; omega
  refine ⟨⟨h1, h2, by simp [oneV], fun _ => rfl⟩, fun h => absurd h (Nat.lt_irrefl _)⟩
theorem oneV_ne (s : Int) : oneV s ≠ [] := by simp [oneV]
theorem HasP.put {n m : Nd} {l : List Pr} {k : List UInt8} {c : List Ver} {er : Nat} (h : HasP n l) (hp : PutIs n k c m er) (hk : k.length ≤ 16) (hc : okV c) (h0 : c ≠ []) : er = 0 ∧ HasP m (putP l k c) := by
  unfold PutIs at hp
  rw [if_pos ⟨h.ok, hk, hc, h0⟩, h.pr] at hp
  exact ⟨hp.1, hp.2.1, hp.2.2⟩
theorem HasP.del {n m : Nd} {l : List Pr} {k : List UInt8} {er : Nat} (h : HasP n l) (hp : DelIs n k m er) (hf : (findP l k).isSome = true) : er = 0 ∧ HasP m (delP l k) := by
  unfold DelIs at hp
  rw [if_pos h.ok, h.pr, if_pos hf] at hp
  exact ⟨hp.1, hp.2.1, hp.2.2⟩
theorem HasP.few {n : Nd} {l : List Pr} (h : HasP n l) (hf : fewP l) : fitN n := h.fit hf
theorem fewE : fewP [] := ⟨by simp, fun p hp => by cases hp⟩
theorem few_one {l : List Pr} (h1 : l.length ≤ 2000) (h2 : ∀ p ∈ l, ∃ s, p.chain = oneV s) : fewP l := ⟨h1, fun p hp => by obtain ⟨s, e⟩ := h2 p hp; rw [e]; exact oneV_small s⟩
theorem HasP.dep1 {n : Nd} {l : List Pr} (h : HasP n l) (hl : l.length = 1) : depN n = 1 := by
  have h0 := h.ok.1
  obtain ⟨d, hd⟩ : ∃ d : Nat, formI n true = (d : Int) := ⟨(formI n true).toNat, by omega⟩
  obtain ⟨h1, _, h2⟩ := pairs_bounds d hd
  rw [h.pr, hl] at h2
  unfold depN
  rw [if_pos h.ok, hd]
  rcases h2 with h2 | ⟨_, rfl, _⟩
  · rcases Nat.lt_or_ge d 2 with h3 | h3
    · omega
    · have := Nat.pow_le_pow_right (n := 2) (by omega) h3
      omega
  · rfl
theorem wp_makeN {o : Oper} {a : Act} {K : Act → World → Prop} {Q : Exit → Act → World → Prop} {w : World} {P : Program} {T E S : TypeId} (hP : ByP P T E S) {x y : Operand} (ho : o.op = .makeSlice T x y) {k : Nat} {kl kc : IntKind} (hx : a.eval x = .int kl (k : Int)) (hy : a.eval y = .int kc (k : Int))
    (h : ∀ g w', Fresh E w w' (.slice (some ⟨g, 0, none⟩) k k) (List.replicate k 0) → K (a.put o.dst (.slice (some ⟨g, 0, none⟩) k k)) w') (hk : k ≤ 1073741824) : o.wp P a w K Q := by
  obtain ⟨i, hi, hz, hsz, hby⟩ := hP.info
  obtain ⟨w', hrun, h2, h3⟩ := run_make_full (P := P) w w.heap.size T E i (.int .u8 0) 1 hP.hT hi hz hsz kl kc k (by rw [hby]; omega) (by unfold maxLen; omega) (Nat.le_refl _)
  unfold Oper.wp execOp
  simp only [ho, hx, hy, Sem.run_bind, Sem.run_pure, Result.andThen_ok, hrun]
  refine h _ _ ⟨(Below.refl _ w).grown h3 (Nat.le_refl _) (fun k hk => by cases hk), k, ?_⟩
  have e : (madeCells (Value.cells (.int .u8 0)) (k * 1)).toList = bv (List.replicate k 0) := by
    rw [bv_replicate]
    show (madeCells #[.int .u8 0] (k * 1)).toList = _
    rw [toList_madeCells_one, Nat.mul_one]
  rw [← e]
  exact h2
set_option maxRecDepth 100000 in
set_option maxHeartbeats 4000000 in
theorem awake6_any (hC : TreC0) (w : World) : Calls Try.prog 4 #[] w fun e w' => e = .returned (.bool true) ∧ Below w.heap.size w w' := by
  go_enter Try.func4, Try.ntmps4
  try dsimp only [List.append]
  have q := Below.refl w.heap.size w
  go_wp2_with (first | (refine wpList_const byP rfl (fun _ => rfl) rfl rfl (by simp) rfl [98] ?hv rfl (by simp) ?_; (case hv => simp [bv, Act.eval]); intro u1 g1 k1 w1 hb1 hr1) | fail)
  refine (one_any _ ⟨by decide, by decide⟩).mono ?_
  rintro e w2 ⟨a2, c2, rfl, hv2, hb2⟩
  go_wp2_with fail
  refine (hC.put _ (rdE (fun _ => False) _) (hasE.few fewE) (hr1.s.below hb2) (by decide) hv2 (oneV_small 1)).mono ?_
  rintro e w3 ⟨v3, nA, er, rfl, hA, hrA, hb3⟩
  obtain ⟨rfl, pA⟩ := hasE.put hA (by decide) (oneV_ok (by decide) (by decide)) (oneV_ne 1)
  obtain ⟨xA, cA, yA, dA, zA, eA, rfl, _, _, _⟩ := id hrA
  have q3 := ((q.trans (hb1.mono q.size)).trans (hb2.mono (q.trans (hb1.mono q.size)).size))
  have q4 := q3.trans (hb3.mono q3.size)
  clear hr1 hv2 hb1 hb2 hb3 hA q q3
  go_upto_region 2 with (first
    | (refine wpList_allocT rfl rfl ?_; intro w4 hb4 ht4)
    | (refine wpList_storeT rfl rfl rfl rfl rfl rfl rfl rfl ht4 ?_; intro w5 hg5 tA)
    | fail)
  have rA : RdN (fun _ => True) w5 (.agg #[.slice xA nA.keys.length cA, .slice yA nA.chains.length dA, .slice zA nA.kids.length eA]) nA := (hrA.keep fun k hk => (hg5.block k (Nat.lt_of_lt_of_le hk.2 hb4.size) (fun e => by injection e with e; omega)).trans (hb4.block k hk.2)).weak fun _ _ => trivial
  have q5 : Below w.heap.size w w5 := (q4.trans (hb4.mono q4.size)).grown hg5 (Nat.le_trans q4.size hb4.size) fun k e => by injection e with e; have := q4.size; omega
  have fA : fitN nA := pA.few (few_one (by decide) fun p hp => by simp [putP, putGo] at hp; subst hp; exact ⟨1, rfl⟩)
  obtain ⟨bA, hbA⟩ : ∃ bA, bA = w3.heap.size := ⟨_, rfl⟩
  rw [← hbA] at tA ⊢
  clear hrA hg5 hb4 ht4 hbA q4
  have eO : ∀ args w, (callFunc 7 args).run Try.prog w = .ok (.enter 7 args) w := enters_of Try.func7 (by kernel_rfl) rfl
  have eP : ∀ args w, (callFunc 6 args).run Try.prog w = .ok (.enter 6 args) w := enters_of Try.func6 (by kernel_rfl) rfl
  refine wp_region_setl (K := fun _ _ => True) (by kernel_rfl) (by kernel_rfl) [1, 2, 3, 4, 5, 6, 7, 8, 9] (by kernel_rfl) [lEq (.agg #[.slice xA nA.keys.length cA, .slice yA nA.chains.length dA, .slice zA nA.kids.length eA]), lAny, lAny, lAny, lAny, lAny, lAny, lAny, lAny, lAny, lEq (.int .i64 (0 : Nat))]
    (CbL (bv (([97] : List UInt8))).toArray 5 (NodeR (PutIs nA [97] (oneV 2))) zNode NodeB (KeyW (([97] : List UInt8))) (VerW (oneV 2)) w5) (CbL.more (stays (PutIs nA [97] (oneV 2)) (([97] : List UInt8)) (oneV 2))) (CbS.start _)
    ⟨?o0, ?o1, ?o2, ?o3, ?o4, ?o5, ?o6, ?o7, ?o8, ?o9, ?o10, trivial⟩ ?fin
  case o0 =>
    refine StOp.free rfl (by kernel_rfl) (fun A va D w' hF hT hN hE hd hu hg => ?_)
    have e1 : A.eval (.tmp 1) = .pointer (some ⟨bA, 0, none⟩) := hF 1 rfl
    exact wp_load3 ndS rfl (e1) (((tA.below (CbL.below hE) tA.lt)).cell0) (((tA.below (CbL.below hE) tA.lt)).cell1) (((tA.below (CbL.below hE) tA.lt)).cell2) ⟨_, rfl, rfl, Below.refl _ _⟩
  case o1 =>
    refine StOp.set rfl (by kernel_rfl) (fun A va D w' hF hT hN hE hd hu hg => ?_)
    have hE2 := hE
    simp only [told, List.map_cons, List.map_nil, hN, Bool.false_eq_true, if_false] at hE2
    refine wp_litX byP rfl (([97] : List UInt8)) rfl rfl (by decide) ?_
    have h5 := CbS.key0 (stays (PutIs nA [97] (oneV 2)) (([97] : List UInt8)) (oneV 2)) hE2 rfl ((Below.refl _ _).alloc (Nat.le_refl _) (.cells (bv (([97] : List UInt8))).toArray 5)) (by simp only [World.alloc, Array.getElem?_push_size])
    exact ⟨_, rfl, by simpa [CbL, told, don, upd, bv_length] using h5, trivial⟩
  case o2 =>
    refine StOp.set rfl (by kernel_rfl) (fun A va D w' hF hT hN hE hd hu hg => ?_)
    have x1 : A.eval (.tmp 30) = va 1 := hT 30 1 (by simp) rfl
    have hE2 := hE
    have d1 : D 1 = true := hd ⟨1, .data⟩ (by simp) rfl
    simp only [told, List.map_cons, List.map_nil, hN, d1, Bool.false_eq_true, if_false, if_true] at hE2
    obtain ⟨g, eg, _, hg0⟩ := hE2.k0 _ rfl
    have ds : (if D 9 = true then some (va 9) else none) = none := CbS.nos hE2 rfl
    rw [ds] at hE2
    rw [eg] at hE2
    refine wp_convX byP rfl (x1.trans eg) (hg0 rfl) (fun w2 hgr hg2 => ⟨_, rfl, ?_, trivial⟩)
    have h5 := CbS.conv (stays (PutIs nA [97] (oneV 2)) (([97] : List UInt8)) (oneV 2)) hE2 hgr ⟨some ⟨g, 0, none⟩, (([97] : List UInt8)).length, rfl, rdS_of_row hg2 (by decide)⟩
    simpa [CbL, told, don, upd, bv_length, d1, eg, ds] using h5
  case o3 =>
    refine StOp.set rfl (by kernel_rfl) (fun A va D w' hF hT hN hE hd hu hg => ?_)
    have hE2 := hE
    simp only [told, List.map_cons, List.map_nil, hN, Bool.false_eq_true, if_false] at hE2
    refine wp_callFn rfl eO (args := #[.int .i64 2]) (by simp only [List.map_toArray, List.map_cons, List.map_nil]; rfl) ((one_any w' (s := 2) ⟨by decide, by decide⟩).mono ?_)
    rintro e w2 ⟨a2, c2, rfl, hv2, hb2⟩
    have h5 := CbS.vers (stays (PutIs nA [97] (oneV 2)) (([97] : List UInt8)) (oneV 2)) hE2 hb2 (u := .slice a2 1 c2) ⟨_, _, rfl, hv2⟩
    exact ⟨_, rfl, _, rfl, by simpa [CbL, told, don, upd] using h5, trivial⟩
  case o4 =>
    refine StOp.set rfl (by kernel_rfl) (fun A va D w' hF hT hN hE hd hu hg => ?_)
    have e1 : A.eval (.tmp 29) = .agg #[.slice xA nA.keys.length cA, .slice yA nA.chains.length dA, .slice zA nA.kids.length eA] := (hT 29 0 (by simp) rfl).trans (hg ⟨0, .data⟩ (by simp) rfl rfl)
    have x2 : A.eval (.tmp 31) = va 2 := hT 31 2 (by simp) rfl
    have x3 : A.eval (.tmp 32) = va 3 := hT 32 3 (by simp) rfl
    have hE2 := hE
    have d2 : D 2 = true := hd ⟨2, .data⟩ (by simp) rfl
    have d3 : D 3 = true := hd ⟨3, .data⟩ (by simp) rfl
    simp only [told, List.map_cons, List.map_nil, hN, d2, d3, Bool.false_eq_true, if_false, if_true] at hE2
    have hBE := hE2.be
    obtain ⟨ka, kc, ek, hkr⟩ := hE2.k1 _ rfl
    obtain ⟨va2, vc, ev, hvr⟩ := hE2.k2 _ rfl
    refine wp_callFn rfl eP (args := #[.agg #[.slice xA nA.keys.length cA, .slice yA nA.chains.length dA, .slice zA nA.kids.length eA], .slice ka 1 kc, .slice va2 1 vc]) (by simp only [List.map_toArray, List.map_cons, List.map_nil, e1, x2.trans ek, x3.trans ev]; rfl) ((hC.put w' (rA.below hBE) fA hkr (by decide) hvr (oneV_small 2)).mono ?_)
    rintro e w2 ⟨v, n2, er, rfl, hq, hrd, hb2⟩
    have h5 := CbS.call (stays (PutIs nA [97] (oneV 2)) (([97] : List UInt8)) (oneV 2)) hE2 (by simp) hb2 (v := v) (e := .int .i64 (er : Nat)) ⟨n2, er, rfl, hq, hrd⟩
    exact ⟨_, rfl, _, rfl, by simpa [CbL, told, don, upd, bv_length, d2, d3] using h5, trivial⟩
  case o5 =>
    refine StOp.set rfl (by kernel_rfl) (fun A va D w' hF hT hN hE hd hu hg => ?_)
    have x1 : A.eval (.tmp 33) = va 4 := hT 33 4 (by simp) rfl
    have hE2 := hE
    have d4 : D 4 = true := hd ⟨4, .data⟩ (by simp) rfl
    simp only [told, List.map_cons, List.map_nil, hN, d4, Bool.false_eq_true, if_false, if_true] at hE2
    have h5 := CbS.move hE2
    exact BigFrame.wp_move _ rfl ⟨_, rfl, by rw [x1]; simpa [CbL, told, don, upd, bv_length, d4] using h5, trivial⟩
  case o6 =>
    refine StOp.set rfl (by kernel_rfl) (fun A va D w' hF hT hN hE hd hu hg => ?_)
    have x1 : A.eval (.tmp 28) = va 5 := hT 28 5 (by simp) rfl
    have hE2 := hE
    have d5 : D 5 = true := hd ⟨5, .data⟩ (by simp) rfl
    simp only [told, List.map_cons, List.map_nil, hN, d5, Bool.false_eq_true, if_false, if_true] at hE2
    obtain ⟨v, e, em⟩ := CbS.tup hE2
    rw [em] at hE2
    have h5 := CbS.ex0 hE2
    exact wp_ex rfl (x1.trans em) rfl ⟨_, rfl, by simpa [CbL, told, don, upd, d5, em] using h5, trivial⟩
  case o7 =>
    refine StOp.set rfl (by kernel_rfl) (fun A va D w' hF hT hN hE hd hu hg => ?_)
    have x1 : A.eval (.tmp 28) = va 5 := hT 28 5 (by simp) rfl
    have hE2 := hE
    have d5 : D 5 = true := hd ⟨5, .data⟩ (by simp) rfl
    simp only [told, List.map_cons, List.map_nil, hN, d5, Bool.false_eq_true, if_false, if_true] at hE2
    obtain ⟨v, e, em⟩ := CbS.tup hE2
    rw [em] at hE2
    have h5 := CbS.ex1 hE2
    exact wp_ex rfl (x1.trans em) rfl ⟨_, rfl, by simpa [CbL, told, don, upd, d5, em] using h5, trivial⟩
  case o8 =>
    refine StOp.set rfl (by kernel_rfl) (fun A va D w' hF hT hN hE hd hu hg => ?_)
    have hE2 := hE
    simp only [told, List.map_cons, List.map_nil, hN, Bool.false_eq_true, if_false] at hE2
    refine wp_allocN rfl (fun w2 hb2 hz => ⟨_, rfl, ?_, trivial⟩)
    have h5 := CbS.alloc (stays (PutIs nA [97] (oneV 2)) (([97] : List UInt8)) (oneV 2)) hE2 hb2 hz
    simpa [CbL, told, don, upd, bv_length] using h5
  case o9 =>
    refine StOp.set rfl (by kernel_rfl) (fun A va D w' hF hT hN hE hd hu hg => ?_)
    have x1 : A.eval (.tmp 3) = va 8 := hT 3 8 (by simp) rfl
    have x2 : A.eval (.tmp 34) = va 6 := hT 34 6 (by simp) rfl
    have hE2 := hE
    have d8 : D 8 = true := hd ⟨8, .data⟩ (by simp) rfl
    have d6 : D 6 = true := hd ⟨6, .data⟩ (by simp) rfl
    simp only [told, List.map_cons, List.map_nil, hN, d8, d6, Bool.false_eq_true, if_false, if_true] at hE2
    obtain ⟨b, eb, hb0⟩ := CbS.box hE2
    obtain ⟨e, hm⟩ := hE2.mx _ rfl
    obtain ⟨v, e2, ec, n2, er, _, _, hrd⟩ := hE2.rr _ (hE2.mv _ hm)
    obtain ⟨A1, B1, A2, B2, A3, B3, ev, _⟩ := id hrd
    injection ec with ec
    injection ec with ec
    injection ec with ec _
    rw [← ec] at ev
    refine wp_storeT rfl (x1.trans eb) (x2.trans ev) rfl rfl rfl hb0 (fun w2 hg2 ht2 => ⟨_, rfl, ?_, trivial⟩)
    rw [eb] at hE2
    have h5 := CbS.sto (u := undef) (stays (PutIs nA [97] (oneV 2)) (([97] : List UInt8)) (oneV 2)) hE2 hg2 ⟨_, _, _, ev, ht2⟩
    simpa [CbL, told, don, upd, d8, d6, eb] using h5
  case o10 =>
    refine StOp.free rfl (by kernel_rfl) (fun A va D w' hF hT hN hE hd hu hg => ?_)
    have x1 : A.eval (.tmp 35) = va 7 := hT 35 7 (by simp) rfl
    have hE2 := hE
    have d7 : D 7 = true := hd ⟨7, .data⟩ (by simp) rfl
    simp only [told, List.map_cons, List.map_nil, d7, if_true] at hE2
    have ee := CbS.err hE2 (fun n er hQ => (pA.put hQ (by decide) (oneV_ok (by decide) (by decide)) (oneV_ne 2)).1)
    exact BigFrame.wp_assign _ rfl ⟨_, rfl, x1.trans ee, Below.refl _ _⟩
  case fin =>
    intro vs1 W1 hE hG
    obtain ⟨bM, ez, em, ec, hbM, hBx, hR, hbE⟩ := CbS.done (nodeR _) hE (by simp)
    obtain ⟨nM, er, ee, hQ, hM⟩ := hR
    obtain rfl : er = 0 := (pA.put hQ (by decide) (oneV_ok (by decide) (by decide)) (oneV_ne 2)).1
    obtain ⟨x1, y1, z1, ev, hTM⟩ := hBx
    have g0 : vs1 0 = .agg #[.slice xA nA.keys.length cA, .slice yA nA.chains.length dA, .slice zA nA.kids.length eA] := hG 0 (by decide) rfl
    have g10 : vs1 10 = .int .i64 (0 : Nat) := hG 10 (by decide) rfl
    simp only [putAll, g0, g10, ec, em, ev, ee, ez]
    rw [ev] at hM
    obtain ⟨_, pB⟩ := pA.put hQ (by decide) (oneV_ok (by decide) (by decide)) (oneV_ne 2)
    have eB : putP (putP [] [98] (oneV 1)) [97] (oneV 2) = [⟨[97], oneV 2⟩, ⟨[98], oneV 1⟩] := by decide
    rw [eB] at pB
    have fB : fitN nM := pB.few (few_one (by decide) fun p hp => by simp at hp; rcases hp with rfl | rfl; exact ⟨2, rfl⟩; exact ⟨1, rfl⟩)
    have q := q5.trans (hbE.mono q5.size)
    have rB : RdN (fun _ => True) W1 (.agg #[x1, y1, z1]) nM := hM.weak fun _ _ => trivial
    obtain ⟨A1, B1, A2, B2, A3, B3, e3, _, _, _⟩ := id rB
    injection e3 with e3
    injection e3 with e3
    injection e3 with e4 e3
    injection e3 with e5 e3
    injection e3 with e6 _
    subst e4 e5 e6
    clear hM hQ hbE hE hG ec em ev ee ez g0 rA tA q5 pA fA eB hbM eO eP
    go_simp
    have hTMc0 := hTM.cell0
    have hTMc1 := hTM.cell1
    have hTMc2 := hTM.cell2
    go_wp2_with fail
    refine (hC.keys _ rB fB).mono ?_
    rintro e v1 ⟨ak, ck, rfl, hK, hb⟩
    rw [pB.prN] at hK ⊢
    replace rB := rB.below hb
    replace hTM := hTM.below hb hTM.lt
    replace q := q.trans (hb.mono q.size)
    clear hb hTMc0 hTMc1 hTMc2
    have hTMc0 := hTM.cell0
    have hTMc1 := hTM.cell1
    have hTMc2 := hTM.cell2
    go_wp2_with (first | (refine wpList_const byP rfl (fun _ => rfl) rfl rfl (by simp) rfl [98] ?hv rfl (by simp) ?_; (case hv => simp [bv, Act.eval]); intro u4 g4 k4 w4 hb4 hr4) | fail)
    replace rB := rB.below hb4
    replace hTM := hTM.below hb4 hTM.lt
    replace hK := hK.below hb4
    replace q := q.trans (hb4.mono q.size)
    clear hb4 hTMc0 hTMc1 hTMc2
    have hTMc0 := hTM.cell0
    have hTMc1 := hTM.cell1
    have hTMc2 := hTM.cell2
    refine (hC.find _ rB fB hr4.s (by decide)).mono ?_
    rintro e v2 ⟨af, cf, rfl, hF, hb⟩
    rw [pB.prN, show findP [⟨[97], oneV 2⟩, ⟨[98], oneV 1⟩] [98] = some (oneV 1) from rfl] at hF
    rw [pB.prN, show findP [⟨[97], oneV 2⟩, ⟨[98], oneV 1⟩] [98] = some (oneV 1) from rfl]
    dsimp only
    clear hr4
    replace rB := rB.below hb
    replace hTM := hTM.below hb hTM.lt
    replace hK := hK.below hb
    replace q := q.trans (hb.mono q.size)
    clear hb hTMc0 hTMc1 hTMc2
    have hTMc0 := hTM.cell0
    have hTMc1 := hTM.cell1
    have hTMc2 := hTM.cell2
    go_wp2_with (first | (refine wpList_const byP rfl (fun _ => rfl) rfl rfl (by simp) rfl [97, 97] ?hv rfl (by simp) ?_; (case hv => simp [bv, Act.eval]); intro u5 g5 k5 w5 hb5 hr5) | fail)
    replace rB := rB.below hb5
    replace hTM := hTM.below hb5 hTM.lt
    replace hK := hK.below hb5
    replace hF := hF.below hb5
    replace q := q.trans (hb5.mono q.size)
    clear hb5 hTMc0 hTMc1 hTMc2
    have hTMc0 := hTM.cell0
    have hTMc1 := hTM.cell1
    have hTMc2 := hTM.cell2
    refine (hC.next _ rB fB hr5.s (by decide)).mono ?_
    rintro e v3 ⟨ax, cx, rfl, hX, hb⟩
    rw [pB.prN, show nextP [⟨[97], oneV 2⟩, ⟨[98], oneV 1⟩] [97, 97] = some [98] from rfl] at hX
    rw [pB.prN, show nextP [⟨[97], oneV 2⟩, ⟨[98], oneV 1⟩] [97, 97] = some [98] from rfl]
    dsimp only
    clear hr5
    replace rB := rB.below hb
    replace hTM := hTM.below hb hTM.lt
    replace hK := hK.below hb
    replace hF := hF.below hb
    replace q := q.trans (hb.mono q.size)
    clear hb hTMc0 hTMc1 hTMc2
    have hTMc0 := hTM.cell0
    have hTMc1 := hTM.cell1
    have hTMc2 := hTM.cell2
    go_wp2_with (first | (refine wpList_const byP rfl (fun _ => rfl) rfl rfl (by simp) rfl [99] ?hv rfl (by simp) ?_; (case hv => simp [bv, Act.eval]); intro u6 g6 k6 w6 hb6 hr6) | fail)
    replace rB := rB.below hb6
    replace hTM := hTM.below hb6 hTM.lt
    replace hK := hK.below hb6
    replace hF := hF.below hb6
    replace hX := hX.below hb6
    replace q := q.trans (hb6.mono q.size)
    clear hb6 hTMc0 hTMc1 hTMc2
    have hTMc0 := hTM.cell0
    have hTMc1 := hTM.cell1
    have hTMc2 := hTM.cell2
    refine (hC.next _ rB fB hr6.s (by decide)).mono ?_
    rintro e v4 ⟨ay, cy, rfl, _, hb⟩
    rw [pB.prN, show nextP [⟨[97], oneV 2⟩, ⟨[98], oneV 1⟩] [99] = none from rfl]
    dsimp only
    clear hr6
    replace rB := rB.below hb
    replace hTM := hTM.below hb hTM.lt
    replace hK := hK.below hb
    replace hF := hF.below hb
    replace hX := hX.below hb
    replace q := q.trans (hb.mono q.size)
    clear hb hTMc0 hTMc1 hTMc2
    have hTMc0 := hTM.cell0
    have hTMc1 := hTM.cell1
    have hTMc2 := hTM.cell2
    go_wp2_with (first | (refine wpList_const byP rfl (fun _ => rfl) rfl rfl (by simp) rfl [97] ?hv rfl (by simp) ?_; (case hv => simp [bv, Act.eval]); intro u7 g7 k7 w7 hb7 hr7) | fail)
    replace rB := rB.below hb7
    replace hTM := hTM.below hb7 hTM.lt
    replace hK := hK.below hb7
    replace hF := hF.below hb7
    replace hX := hX.below hb7
    replace q := q.trans (hb7.mono q.size)
    clear hb7 hTMc0 hTMc1 hTMc2
    have hTMc0 := hTM.cell0
    have hTMc1 := hTM.cell1
    have hTMc2 := hTM.cell2
    refine (hC.delete _ rB fB hr7.s (by decide)).mono ?_
    rintro e v5 ⟨v, nD, er, rfl, hD, rD, hb⟩
    obtain ⟨rfl, pD⟩ := pB.del hD rfl
    rw [show delP [⟨[97], oneV 2⟩, ⟨[98], oneV 1⟩] [97] = [⟨[98], oneV 1⟩] from rfl] at pD
    have fD : fitN nD := pD.few (few_one (by decide) fun p hp => by simp at hp; subst hp; exact ⟨1, rfl⟩)
    obtain ⟨xD, cD, yD, dD, zD, eD, rfl, _, _, _⟩ := id rD
    clear hr7 hD
    replace rB := rB.below hb
    replace hTM := hTM.below hb hTM.lt
    replace hK := hK.below hb
    replace hF := hF.below hb
    replace hX := hX.below hb
    replace q := q.trans (hb.mono q.size)
    clear hb hTMc0 hTMc1 hTMc2
    have hTMc0 := hTM.cell0
    have hTMc1 := hTM.cell1
    have hTMc2 := hTM.cell2
    go_upto_region 8 with (first | (refine wpList_allocT rfl rfl ?_; intro wa hba hta) | (refine wpList_storeT rfl rfl rfl rfl rfl rfl rfl rfl hta ?_; intro ws hgs tD) | fail)
    have hbs := hba.grown hgs hba.size fun k e => by injection e with e; omega
    clear hba hgs hta
    replace rD := rD.below hbs
    replace rB := rB.below hbs
    replace hTM := hTM.below hbs hTM.lt
    replace hK := hK.below hbs
    replace hF := hF.below hbs
    replace hX := hX.below hbs
    replace q := q.trans (hbs.mono q.size)
    clear hbs hTMc0 hTMc1 hTMc2
    have hTMc0 := hTM.cell0
    have hTMc1 := hTM.cell1
    have hTMc2 := hTM.cell2
    have tDc0 := tD.cell0
    have tDc1 := tD.cell1
    have tDc2 := tD.cell2
    go_wp2_with (first | (refine wpList_const byP rfl (fun _ => rfl) rfl rfl (by simp) rfl [97] ?hv rfl (by simp) ?_; (case hv => simp [bv, Act.eval]); intro u8 g8 k8 w8 hb8 hr8) | fail)
    replace rB := rB.below hb8
    replace hTM := hTM.below hb8 hTM.lt
    replace hK := hK.below hb8
    replace hF := hF.below hb8
    replace hX := hX.below hb8
    replace rD := rD.below hb8
    replace tD := tD.below hb8 tD.lt
    replace q := q.trans (hb8.mono q.size)
    clear hb8 hTMc0 hTMc1 hTMc2 tDc0 tDc1 tDc2
    have hTMc0 := hTM.cell0
    have hTMc1 := hTM.cell1
    have hTMc2 := hTM.cell2
    have tDc0 := tD.cell0
    have tDc1 := tD.cell1
    have tDc2 := tD.cell2
    refine (hC.delete _ rD fD hr8.s (by decide)).mono ?_
    rintro e v6 ⟨v, nE, er, rfl, hE, rE, hb⟩
    obtain rfl : er = 61 := by
      unfold DelIs at hE
      rw [if_pos pD.ok, pD.pr] at hE
      exact hE.1
    obtain ⟨xE, cE, yE, dE, zE, eE, rfl, _, _, _⟩ := id rE
    clear hr8 hE rE
    replace rB := rB.below hb
    replace hTM := hTM.below hb hTM.lt
    replace hK := hK.below hb
    replace hF := hF.below hb
    replace hX := hX.below hb
    replace rD := rD.below hb
    replace tD := tD.below hb tD.lt
    replace q := q.trans (hb.mono q.size)
    clear hb hTMc0 hTMc1 hTMc2 tDc0 tDc1 tDc2
    have hTMc0 := hTM.cell0
    have hTMc1 := hTM.cell1
    have hTMc2 := hTM.cell2
    have tDc0 := tD.cell0
    have tDc1 := tD.cell1
    have tDc2 := tD.cell2
    go_upto_region 9 with (first | (refine wpList_allocT rfl rfl ?_; intro wa hba hta) | (refine wpList_storeT rfl rfl rfl rfl rfl rfl rfl rfl hta ?_; intro wq hgs tE) | fail)
    have hbs := hba.grown hgs hba.size fun k e => by injection e with e; omega
    clear hba hgs hta
    clear tE
    replace rB := rB.below hbs
    replace hTM := hTM.below hbs hTM.lt
    replace hK := hK.below hbs
    replace hF := hF.below hbs
    replace hX := hX.below hbs
    replace rD := rD.below hbs
    replace tD := tD.below hbs tD.lt
    replace q := q.trans (hbs.mono q.size)
    clear hbs hTMc0 hTMc1 hTMc2 tDc0 tDc1 tDc2
    have hTMc0 := hTM.cell0
    have hTMc1 := hTM.cell1
    have hTMc2 := hTM.cell2
    have tDc0 := tD.cell0
    have tDc1 := tD.cell1
    have tDc2 := tD.cell2
    have eO : ∀ args w, (callFunc 7 args).run Try.prog w = .ok (.enter 7 args) w := enters_of Try.func7 (by kernel_rfl) rfl
    have eP : ∀ args w, (callFunc 6 args).run Try.prog w = .ok (.enter 6 args) w := enters_of Try.func6 (by kernel_rfl) rfl
    have hno : ∀ n er, PutIs nM (List.replicate 17 0) (oneV 1) n er → er = 1 := fun n er h => by
      unfold PutIs at h
      rw [if_neg (fun h2 => absurd h2.2.1 (by decide))] at h
      exact h.1
    refine wp_region_setl (K := fun _ _ => True) (by kernel_rfl) (by kernel_rfl) [1, 2, 3, 4, 5, 6, 7, 8] (by kernel_rfl) [lEq (.agg #[.slice A1 nM.keys.length B1, .slice A2 nM.chains.length B2, .slice A3 nM.kids.length B3]), lAny, lAny, lAny, lAny, lAny, lAny, lAny, lAny, lEq (.int .i64 (1 : Nat))]
      (CbK (bv ((List.replicate 17 0 : List UInt8))).toArray 5 (NodeR (PutIs nM (List.replicate 17 0) (oneV 1))) zNode NodeB (KeyW ((List.replicate 17 0 : List UInt8))) (VerW (oneV 1)) wq) (CbK.more (stays (PutIs nM (List.replicate 17 0) (oneV 1)) ((List.replicate 17 0 : List UInt8)) (oneV 1))) (CbS.start _)
      ⟨?o0, ?o1, ?o2, ?o3, ?o4, ?o5, ?o6, ?o7, ?o8, ?o9, trivial⟩ ?fin
    case o0 =>
      refine StOp.free rfl (by kernel_rfl) (fun A va D w' hF hT hN hE hd hu hg => ?_)
      have e1 : A.eval (.tmp 3) = .pointer (some ⟨bM, 0, none⟩) := hF 3 rfl
      exact wp_load3 ndS rfl (e1) ((hTM.below (CbK.below hE) hTM.lt).cell0) ((hTM.below (CbK.below hE) hTM.lt).cell1) ((hTM.below (CbK.below hE) hTM.lt).cell2) ⟨_, rfl, rfl, Below.refl _ _⟩
    case o1 =>
      refine StOp.set rfl (by kernel_rfl) (fun A va D w' hF hT hN hE hd hu hg => ?_)
      have hE2 := hE
      simp only [told, List.map_cons, List.map_nil, hN, Bool.false_eq_true, if_false] at hE2
      refine wp_makeN byP (k := 17) rfl rfl rfl (fun g w2 hf => ?_) (by decide)
      have h5 := CbS.key (stays (PutIs nM (List.replicate 17 0) (oneV 1)) ((List.replicate 17 0 : List UInt8)) (oneV 1)) hE2 rfl hf.1 (u := .slice (some ⟨g, 0, none⟩) 17 17) ⟨_, _, rfl, hf.2.rdS⟩
      exact ⟨_, rfl, by simpa [CbK, told, don, upd, bv_length] using h5, trivial⟩
    case o2 =>
      refine StOp.set rfl (by kernel_rfl) (fun A va D w' hF hT hN hE hd hu hg => ?_)
      have hE2 := hE
      simp only [told, List.map_cons, List.map_nil, hN, Bool.false_eq_true, if_false] at hE2
      refine wp_callFn rfl eO (args := #[.int .i64 1]) (by simp only [List.map_toArray, List.map_cons, List.map_nil]; rfl) ((one_any w' (s := 1) ⟨by decide, by decide⟩).mono ?_)
      rintro e w2 ⟨a2, c2, rfl, hv2, hb2⟩
      have h5 := CbS.vers (stays (PutIs nM (List.replicate 17 0) (oneV 1)) ((List.replicate 17 0 : List UInt8)) (oneV 1)) hE2 hb2 (u := .slice a2 1 c2) ⟨_, _, rfl, hv2⟩
      exact ⟨_, rfl, _, rfl, by simpa [CbK, told, don, upd] using h5, trivial⟩
    case o3 =>
      refine StOp.set rfl (by kernel_rfl) (fun A va D w' hF hT hN hE hd hu hg => ?_)
      have e1 : A.eval (.tmp 74) = .agg #[.slice A1 nM.keys.length B1, .slice A2 nM.chains.length B2, .slice A3 nM.kids.length B3] := (hT 74 0 (by simp) rfl).trans (hg ⟨0, .data⟩ (by simp) rfl rfl)
      have x2 : A.eval (.tmp 75) = va 1 := hT 75 1 (by simp) rfl
      have x3 : A.eval (.tmp 76) = va 2 := hT 76 2 (by simp) rfl
      have hE2 := hE
      have d1 : D 1 = true := hd ⟨1, .data⟩ (by simp) rfl
      have d2 : D 2 = true := hd ⟨2, .data⟩ (by simp) rfl
      simp only [told, List.map_cons, List.map_nil, hN, d1, d2, Bool.false_eq_true, if_false, if_true] at hE2
      have hBE := hE2.be
      obtain ⟨ka, kc, ek, hkr⟩ := hE2.k1 _ rfl
      obtain ⟨va2, vc, ev, hvr⟩ := hE2.k2 _ rfl
      refine wp_callFn rfl eP (args := #[.agg #[.slice A1 nM.keys.length B1, .slice A2 nM.chains.length B2, .slice A3 nM.kids.length B3], .slice ka 17 kc, .slice va2 1 vc]) (by simp only [List.map_toArray, List.map_cons, List.map_nil, e1, x2.trans ek, x3.trans ev]; rfl) ((hC.put w' (rB.below hBE) fB hkr (by decide) hvr (oneV_small 1)).mono ?_)
      rintro e w2 ⟨v, n2, er, rfl, hq, hrd, hb2⟩
      have h5 := CbS.call (stays (PutIs nM (List.replicate 17 0) (oneV 1)) ((List.replicate 17 0 : List UInt8)) (oneV 1)) hE2 (by simp) hb2 (v := v) (e := .int .i64 (er : Nat)) ⟨n2, er, rfl, hq, hrd⟩
      exact ⟨_, rfl, _, rfl, by simpa [CbK, told, don, upd, bv_length, d1, d2] using h5, trivial⟩
    case o4 =>
      refine StOp.set rfl (by kernel_rfl) (fun A va D w' hF hT hN hE hd hu hg => ?_)
      have x1 : A.eval (.tmp 77) = va 3 := hT 77 3 (by simp) rfl
      have hE2 := hE
      have d3 : D 3 = true := hd ⟨3, .data⟩ (by simp) rfl
      simp only [told, List.map_cons, List.map_nil, hN, d3, Bool.false_eq_true, if_false, if_true] at hE2
      have h5 := CbS.move hE2
      exact BigFrame.wp_move _ rfl ⟨_, rfl, by rw [x1]; simpa [CbK, told, don, upd, bv_length, d3] using h5, trivial⟩
    case o5 =>
      refine StOp.set rfl (by kernel_rfl) (fun A va D w' hF hT hN hE hd hu hg => ?_)
      have x1 : A.eval (.tmp 73) = va 4 := hT 73 4 (by simp) rfl
      have hE2 := hE
      have d4 : D 4 = true := hd ⟨4, .data⟩ (by simp) rfl
      simp only [told, List.map_cons, List.map_nil, hN, d4, Bool.false_eq_true, if_false, if_true] at hE2
      obtain ⟨v, e, em⟩ := CbS.tup hE2
      rw [em] at hE2
      have h5 := CbS.ex0 hE2
      exact wp_ex rfl (x1.trans em) rfl ⟨_, rfl, by simpa [CbK, told, don, upd, d4, em] using h5, trivial⟩
    case o6 =>
      refine StOp.set rfl (by kernel_rfl) (fun A va D w' hF hT hN hE hd hu hg => ?_)
      have x1 : A.eval (.tmp 73) = va 4 := hT 73 4 (by simp) rfl
      have hE2 := hE
      have d4 : D 4 = true := hd ⟨4, .data⟩ (by simp) rfl
      simp only [told, List.map_cons, List.map_nil, hN, d4, Bool.false_eq_true, if_false, if_true] at hE2
      obtain ⟨v, e, em⟩ := CbS.tup hE2
      rw [em] at hE2
      have h5 := CbS.ex1 hE2
      exact wp_ex rfl (x1.trans em) rfl ⟨_, rfl, by simpa [CbK, told, don, upd, d4, em] using h5, trivial⟩
    case o7 =>
      refine StOp.set rfl (by kernel_rfl) (fun A va D w' hF hT hN hE hd hu hg => ?_)
      have hE2 := hE
      simp only [told, List.map_cons, List.map_nil, hN, Bool.false_eq_true, if_false] at hE2
      refine wp_allocN rfl (fun w2 hb2 hz => ⟨_, rfl, ?_, trivial⟩)
      have h5 := CbS.alloc (stays (PutIs nM (List.replicate 17 0) (oneV 1)) ((List.replicate 17 0 : List UInt8)) (oneV 1)) hE2 hb2 hz
      simpa [CbK, told, don, upd, bv_length] using h5
    case o8 =>
      refine StOp.set rfl (by kernel_rfl) (fun A va D w' hF hT hN hE hd hu hg => ?_)
      have x1 : A.eval (.tmp 16) = va 7 := hT 16 7 (by simp) rfl
      have x2 : A.eval (.tmp 78) = va 5 := hT 78 5 (by simp) rfl
      have hE2 := hE
      have d7 : D 7 = true := hd ⟨7, .data⟩ (by simp) rfl
      have d5 : D 5 = true := hd ⟨5, .data⟩ (by simp) rfl
      simp only [told, List.map_cons, List.map_nil, hN, d7, d5, Bool.false_eq_true, if_false, if_true] at hE2
      obtain ⟨b, eb, hb0⟩ := CbS.box hE2
      obtain ⟨e, hm⟩ := hE2.mx _ rfl
      obtain ⟨v, e2, ec, n2, er, _, _, hrd⟩ := hE2.rr _ (hE2.mv _ hm)
      obtain ⟨A1, B1, A2, B2, A3, B3, ev, _⟩ := id hrd
      injection ec with ec
      injection ec with ec
      injection ec with ec _
      rw [← ec] at ev
      refine wp_storeT rfl (x1.trans eb) (x2.trans ev) rfl rfl rfl hb0 (fun w2 hg2 ht2 => ⟨_, rfl, ?_, trivial⟩)
      rw [eb] at hE2
      have h5 := CbS.sto (u := undef) (stays (PutIs nM (List.replicate 17 0) (oneV 1)) ((List.replicate 17 0 : List UInt8)) (oneV 1)) hE2 hg2 ⟨_, _, _, ev, ht2⟩
      simpa [CbK, told, don, upd, d7, d5, eb] using h5
    case o9 =>
      refine StOp.free rfl (by kernel_rfl) (fun A va D w' hF hT hN hE hd hu hg => ?_)
      have x1 : A.eval (.tmp 79) = va 6 := hT 79 6 (by simp) rfl
      have hE2 := hE
      have d6 : D 6 = true := hd ⟨6, .data⟩ (by simp) rfl
      simp only [told, List.map_cons, List.map_nil, d6, if_true] at hE2
      have ee := CbS.err hE2 (fun n er hQ => (hno _ _ hQ))
      exact BigFrame.wp_assign _ rfl ⟨_, rfl, x1.trans ee, Below.refl _ _⟩
    case fin =>
      intro vs2 W2 hE hG
      obtain ⟨bF, ez, em, ec, hbF, hBx, hR, hbE⟩ := CbS.done (nodeR _) hE (by simp)
      obtain ⟨nF, er, ee, hQ, hM⟩ := hR
      obtain rfl : er = 1 := (hno _ _ hQ)
      obtain ⟨x1, y1, z1, ev, hTF⟩ := hBx
      have g0 : vs2 0 = .agg #[.slice A1 nM.keys.length B1, .slice A2 nM.chains.length B2, .slice A3 nM.kids.length B3] := hG 0 (by decide) rfl
      have g9 : vs2 9 = .int .i64 (1 : Nat) := hG 9 (by decide) rfl
      simp only [putAll, g0, g9, ec, em, ev, ee, ez]
      clear hM hQ hE hG ec em ev ee ez hTF hbF hno eO eP g0
      replace rB := rB.below hbE
      replace hTM := hTM.below hbE hTM.lt
      replace hK := hK.below hbE
      replace hF := hF.below hbE
      replace hX := hX.below hbE
      replace rD := rD.below hbE
      replace tD := tD.below hbE tD.lt
      replace q := q.trans (hbE.mono q.size)
      clear hbE hTMc0 hTMc1 hTMc2 tDc0 tDc1 tDc2
      have hTMc0 := hTM.cell0
      have hTMc1 := hTM.cell1
      have hTMc2 := hTM.cell2
      have tDc0 := tD.cell0
      have tDc1 := tD.cell1
      have tDc2 := tD.cell2
      go_simp
      go_wp2_with (first | (refine wpList_const byP rfl (fun _ => rfl) rfl rfl (by simp) rfl [99] ?hv rfl (by simp) ?_; (case hv => simp [bv, Act.eval]); intro u9 g9 k9 w9 hb9 hr9) | fail)
      replace rB := rB.below hb9
      replace hTM := hTM.below hb9 hTM.lt
      replace hK := hK.below hb9
      replace hF := hF.below hb9
      replace hX := hX.below hb9
      replace rD := rD.below hb9
      replace tD := tD.below hb9 tD.lt
      replace q := q.trans (hb9.mono q.size)
      clear hb9 hTMc0 hTMc1 hTMc2 tDc0 tDc1 tDc2
      have hTMc0 := hTM.cell0
      have hTMc1 := hTM.cell1
      have hTMc2 := hTM.cell2
      have tDc0 := tD.cell0
      have tDc1 := tD.cell1
      have tDc2 := tD.cell2
      refine (hC.put _ rB fB hr9.s (by decide) (RdL.nil Elt.ver (fun _ => False) _) (show smallV [] from ⟨by simp, fun _ h => by cases h⟩)).mono ?_
      rintro e v9 ⟨v, nG, er, rfl, hG, rG, hb⟩
      obtain rfl : er = 1 := by
        unfold PutIs at hG
        rw [if_neg (fun h2 => h2.2.2.2 rfl)] at hG
        exact hG.1
      obtain ⟨xG, cG, yG, dG, zG, eG, rfl, _, _, _⟩ := id rG
      clear hr9 hG rG
      replace rB := rB.below hb
      replace hTM := hTM.below hb hTM.lt
      replace hK := hK.below hb
      replace hF := hF.below hb
      replace hX := hX.below hb
      replace rD := rD.below hb
      replace tD := tD.below hb tD.lt
      replace q := q.trans (hb.mono q.size)
      clear hb hTMc0 hTMc1 hTMc2 tDc0 tDc1 tDc2
      have hTMc0 := hTM.cell0
      have hTMc1 := hTM.cell1
      have hTMc2 := hTM.cell2
      have tDc0 := tD.cell0
      have tDc1 := tD.cell1
      have tDc2 := tD.cell2
      go_upto_region 11 with (first | (refine wpList_allocT rfl rfl ?_; intro wa hba hta) | (refine wpList_storeT rfl rfl rfl rfl rfl rfl rfl rfl hta ?_; intro wq hgs tG) | fail)
      have hbs := hba.grown hgs hba.size fun k e => by injection e with e; omega
      clear hba hgs hta
      clear tG
      replace rB := rB.below hbs
      replace hTM := hTM.below hbs hTM.lt
      replace hK := hK.below hbs
      replace hF := hF.below hbs
      replace hX := hX.below hbs
      replace rD := rD.below hbs
      replace tD := tD.below hbs tD.lt
      replace q := q.trans (hbs.mono q.size)
      clear hbs hTMc0 hTMc1 hTMc2 tDc0 tDc1 tDc2
      have hTMc0 := hTM.cell0
      have hTMc1 := hTM.cell1
      have hTMc2 := hTM.cell2
      have tDc0 := tD.cell0
      have tDc1 := tD.cell1
      have tDc2 := tD.cell2
      have hK2 : RdL Elt.bytes _ _ (.slice ak 2 ck) [[97], [98]] := hK
      have hF2 : RdL Elt.ver _ _ (.slice af 1 cf) (oneV 1) := hF
      obtain ⟨bl, ol, L0, M0, rfl, kl0, kr0⟩ := hK2.byt 0 (by decide)
      obtain ⟨bl2, ol2, L1, M1, el, kl1, kr1⟩ := hK2.byt 1 (by decide)
      injection el with el
      injection el with e4 e5
      subst e4 e5
      obtain ⟨bf, of, vs3, rfl, _, ⟨w3v, ev3, _, _⟩, hc3⟩ := hF2.at 0 (by decide)
      subst ev3
      have cf0 := hc3 0 _ rfl
      simp only [oneV, List.getElem_cons_zero, List.getElem_cons_succ, Nat.add_zero, Nat.zero_mul] at kl0 kl1 kr0 kr1 cf0
      have kr0 := kr0.rd
      have kr1 := kr1.rd
      have hX2 := hX.rd
      have hs1 : (strOf [97]).toList = [97] := strOf_toList _
      have hs2 : (strOf [98]).toList = [98] := strOf_toList _
      have hmd : (prN nD).length = 1 := by rw [pD.prN]; rfl
      have hdd := pD.dep1 rfl
      go_wp2_with (first | (refine wpList_conv byP rfl rfl rfl kr0 ?_) | (refine wpList_conv byP rfl rfl rfl kr1 ?_) | (refine wpList_conv byP rfl rfl rfl hX2 ?_) | fail)
      refine (hC.many _ rD fD).mono ?_
      rintro e z1 ⟨rfl, hb⟩
      rw [hmd]
      replace rD := rD.below hb
      replace tD := tD.below hb tD.lt
      replace q := q.trans (hb.mono q.size)
      clear hb tDc0 tDc1 tDc2
      have tDc0 := tD.cell0
      have tDc1 := tD.cell1
      have tDc2 := tD.cell2
      go_wp2_with fail
      refine (hC.depth _ rD fD).mono ?_
      rintro e z2 ⟨rfl, hb⟩
      rw [hdd]
      replace rD := rD.below hb
      replace tD := tD.below hb tD.lt
      replace q := q.trans (hb.mono q.size)
      clear hb tDc0 tDc1 tDc2
      have tDc0 := tD.cell0
      have tDc1 := tD.cell1
      have tDc2 := tD.cell2
      go_wp2_with fail
      refine (hC.check _ rD fD).mono ?_
      rw [decide_eq_true pD.ok]
      rintro e z3 ⟨rfl, hb⟩
      replace rD := rD.below hb
      replace tD := tD.below hb tD.lt
      replace q := q.trans (hb.mono q.size)
      clear hb tDc0 tDc1 tDc2
      have tDc0 := tD.cell0
      have tDc1 := tD.cell1
      have tDc2 := tD.cell2
      go_wp2_with fail
      go_ret
      exact ⟨rfl, q⟩
theorem TreC0.full (h : TreC0) : TreC := ⟨h, fun w => awake6_any h w⟩
end Go.Proofs.Yticngbgjfdcnhaa
namespace Go.Proofs.Yticngbgjfdcnhaa
theorem treC : TreC := TreC0.full treC0
end Go.Proofs.Yticngbgjfdcnhaa
