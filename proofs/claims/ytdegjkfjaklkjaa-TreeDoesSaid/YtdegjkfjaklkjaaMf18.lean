/-
  TEXTS OF ONE PROOF, merged: TreeDoesW.
-/
import Derived.Test.YtdegjkfjaklkjaaMf16
import Derived.Test.YtdegjkfjaklkjaaMf17
namespace Go.Proofs.Ytdegjkfjaklkjaa
open Go.RowKit
theorem put_weight {n m : Nd} {k : List UInt8} {x : List Ver} (hft : fitN n) (hk : okN n) (hm : okN m) (hp : pairsN m = putP (pairsN n) k x) : wN m ≤ 1000000 := by
  have h1 := (weight_pairs (wN m) (Nat.le_refl _) hm.1).1
  have h2 := prN_few hft
  rw [show prN n = pairsN n from if_pos hk] at h2
  have h3 := put_len (okN_srt hk) (k := k) (c := x)
  rw [← hp] at h3
  split at h3 <;> omega
theorem del_weight {n m : Nd} {k : List UInt8} (hft : fitN n) (hk : okN n) (hm : okN m) (hp : pairsN m = delP (pairsN n) k) : wN m ≤ 1000000 := by
  have h1 := (weight_pairs (wN m) (Nat.le_refl _) hm.1).1
  have h2 := prN_few hft
  rw [show prN n = pairsN n from if_pos hk] at h2
  have h3 : (delP (pairsN n) k).length ≤ (pairsN n).length := List.length_filter_le _ _
  rw [← hp] at h3
  omega
set_option maxRecDepth 100000 in
set_option maxHeartbeats 16000000 in
theorem TreeDoes_w (hC : TreC) (w : World) {v : Value} {n : Nd} (hr : RdN (· < w.heap.size) w v n) {A : Option Addr} {nk ck : Nat} {k : List UInt8} (hk0 : RdS (· < w.heap.size) w (.slice A nk ck) k) {E : Option Addr} {ne ce : Nat} {x : List Ver} (hx0 : RdL Elt.ver (· < w.heap.size) w (.slice E ne ce) x) :
    Calls Try.prog 4 #[v, .slice A nk ck, .slice E ne ce] w fun e w' => e = .returned (.bool true) ∧ Below w.heap.size w w' := by
  obtain ⟨rfl, hkc, hkm⟩ := hk0.len
  have hkl : k.length ≤ 9223372036854775807 := by unfold maxLen at hkm; omega
  obtain ⟨rfl, hxc, hxm⟩ := hx0.len
  have hxl : x.length ≤ 9223372036854775807 := by unfold maxLen at hxm; omega
  have hr0 := hr
  obtain ⟨a1, c1, a2, c2, a3, c3, rfl, r1, r2, r3⟩ := hr
  have hT := TriV.new w 26 (.slice a1 n.keys.length c1) (.slice a2 n.chains.length c2) (.slice a3 n.kids.length c3)
  have q : Below w.heap.size w (w.alloc (.cells #[.slice a1 n.keys.length c1, .slice a2 n.chains.length c2, .slice a3 n.kids.length c3] 26)) := (Below.refl _ _).alloc (Nat.le_refl _) _
  go_enter Try.func4, Try.ntmps4
  go_upto_region 1 with (fail)
  generalize w.alloc (.cells #[.slice a1 n.keys.length c1, .slice a2 n.chains.length c2, .slice a3 n.kids.length c3] 26) = W at *
  have t0 := hT.cell0
  have t1 := hT.cell1
  have t2 := hT.cell2
  go_wp2_with fail
  refine (hC.awake _).mono ?_
  rintro e w1 ⟨rfl, hb⟩
  replace q := q.trans (hb.mono q.size)
  replace hT := hT.below hb hT.lt
  clear hb t0 t1 t2
  have t0 := hT.cell0
  have t1 := hT.cell1
  have t2 := hT.cell2
  go_wp2_with fail
  refine (smallLaw_any _ (hr0.below q) (hx0.below q)).mono ?_
  rintro e w2 ⟨r, rfl, hs, hb⟩
  replace q := q.trans (hb.mono q.size)
  replace hT := hT.below hb hT.lt
  clear hb t0 t1 t2
  have t0 := hT.cell0
  have t1 := hT.cell1
  have t2 := hT.cell2
  cases r with
  | false =>
    clear hs
    go_wp2_with fail
    go_ret
    exact ⟨rfl, q⟩
  | true =>
    obtain ⟨hx20, hxv, hsm⟩ := hs rfl
    have hft := small5_fit hsm
    have hw6 : wN n ≤ 1000000 := by have := hft.1; omega
    have hsx : smallV x := ⟨by omega, fun y hy => by have := hxv y hy; omega⟩
    clear hs hsm hxv hx20
    have HFT := Lib.hid hft
    by_cases h100 : 100 < k.length
    · have d : decide ((100 : Int) < k.length) = true := decide_eq_true (by omega)
      clear h100
      go_wp2_with fail
      go_ret
      exact ⟨rfl, q⟩
    have d : decide ((100 : Int) < k.length) = false := decide_eq_false (by omega)
    have hk100 : k.length ≤ 1000 := by omega
    clear h100
    go_wp2_with fail
    refine (refCopyN_any (wN n) n _ _ _ (Nat.le_refl _) hw6 hft.2 (hr0.below q)).mono ?_
    rintro e w3 ⟨v3, rfl, hW, hb⟩
    have bN := hT
    clear hT
    have tn0 := t0
    have tn1 := t1
    have tn2 := t2
    clear t0 t1 t2
    replace q := q.trans (hb.mono q.size)
    replace bN := bN.below hb bN.lt
    clear hb tn0 tn1 tn2
    have tn0 := bN.cell0
    have tn1 := bN.cell1
    have tn2 := bN.cell2
    have hW0 := hW
    obtain ⟨e1, f1, e2, f2, e3, f3, rfl, _⟩ := hW
    have bW := TriV.new w3 26 (.slice e1 n.keys.length f1) (.slice e2 n.chains.length f2) (.slice e3 n.kids.length f3)
    have hbA : Below w3.heap.size w3 (w3.alloc (.cells #[.slice e1 n.keys.length f1, .slice e2 n.chains.length f2, .slice e3 n.kids.length f3] 26)) := (Below.refl _ _).alloc (Nat.le_refl _) _
    replace q := q.trans (hbA.mono q.size)
    replace hW0 := hW0.below hbA
    replace bN := bN.below hbA bN.lt
    clear hbA tn0 tn1 tn2
    have tn0 := bN.cell0
    have tn1 := bN.cell1
    have tn2 := bN.cell2
    have tw0 := bW.cell0
    have tw1 := bW.cell1
    have tw2 := bW.cell2
    go_wp2_with fail
    generalize w3.alloc (.cells #[.slice e1 n.keys.length f1, .slice e2 n.chains.length f2, .slice e3 n.kids.length f3] 26) = wA at *
    refine (refPairsN_any _ (hr0.below q) hw6).mono ?_
    rintro e w4 ⟨al, nl, cl, rfl, hO, hb⟩
    have hL := PairsEnd.read hO
    clear hO
    replace q := q.trans (hb.mono q.size)
    replace hW0 := hW0.below hb
    replace bN := bN.below hb bN.lt
    replace bW := bW.below hb bW.lt
    clear hb tn0 tn1 tn2 tw0 tw1 tw2
    have tn0 := bN.cell0
    have tn1 := bN.cell1
    have tn2 := bN.cell2
    have tw0 := bW.cell0
    have tw1 := bW.cell1
    have tw2 := bW.cell2
    obtain ⟨rfl, _, _⟩ := hL.len
    have hLb := prN_few hft
    go_wp2_with fail
    refine (hC.put _ (hr0.below q) hft (hk0.below q) hk100 (hx0.below q) hsx).mono ?_
    rintro e w5 ⟨v5, m, er, rfl, hQ, hM, hb⟩
    replace q := q.trans (hb.mono q.size)
    replace hW0 := hW0.below hb
    replace hL := hL.below hb
    replace bN := bN.below hb bN.lt
    replace bW := bW.below hb bW.lt
    clear hb tn0 tn1 tn2 tw0 tw1 tw2
    have tn0 := bN.cell0
    have tn1 := bN.cell1
    have tn2 := bN.cell2
    have tw0 := bW.cell0
    have tw1 := bW.cell1
    have tw2 := bW.cell2
    have hM0 := hM
    obtain ⟨g1, j1, g2, j2, g3, j3, rfl, _⟩ := hM
    have bA := TriV.new w5 26 (.slice g1 m.keys.length j1) (.slice g2 m.chains.length j2) (.slice g3 m.kids.length j3)
    have hbA : Below w5.heap.size w5 (w5.alloc (.cells #[.slice g1 m.keys.length j1, .slice g2 m.chains.length j2, .slice g3 m.kids.length j3] 26)) := (Below.refl _ _).alloc (Nat.le_refl _) _
    replace q := q.trans (hbA.mono q.size)
    replace hW0 := hW0.below hbA
    replace hL := hL.below hbA
    replace hM0 := hM0.below hbA
    replace bN := bN.below hbA bN.lt
    replace bW := bW.below hbA bW.lt
    clear hbA tn0 tn1 tn2 tw0 tw1 tw2
    have tn0 := bN.cell0
    have tn1 := bN.cell1
    have tn2 := bN.cell2
    have tw0 := bW.cell0
    have tw1 := bW.cell1
    have tw2 := bW.cell2
    have ta0 := bA.cell0
    have ta1 := bA.cell1
    have ta2 := bA.cell2
    go_wp2_with fail
    generalize w5.alloc (.cells #[.slice g1 m.keys.length j1, .slice g2 m.chains.length j2, .slice g3 m.kids.length j3] 26) = wA at *
    refine (hC.delete _ (hr0.below q) hft (hk0.below q) hk100).mono ?_
    rintro e w6 ⟨v6, m2, er2, rfl, hQ2, hM2, hb⟩
    replace q := q.trans (hb.mono q.size)
    replace hW0 := hW0.below hb
    replace hL := hL.below hb
    replace hM0 := hM0.below hb
    replace bN := bN.below hb bN.lt
    replace bW := bW.below hb bW.lt
    replace bA := bA.below hb bA.lt
    clear hb tn0 tn1 tn2 tw0 tw1 tw2 ta0 ta1 ta2
    have tn0 := bN.cell0
    have tn1 := bN.cell1
    have tn2 := bN.cell2
    have tw0 := bW.cell0
    have tw1 := bW.cell1
    have tw2 := bW.cell2
    have ta0 := bA.cell0
    have ta1 := bA.cell1
    have ta2 := bA.cell2
    have hM20 := hM2
    obtain ⟨p1, s1, p2, s2, p3, s3, rfl, _⟩ := hM2
    have bD := TriV.new w6 26 (.slice p1 m2.keys.length s1) (.slice p2 m2.chains.length s2) (.slice p3 m2.kids.length s3)
    have hbA : Below w6.heap.size w6 (w6.alloc (.cells #[.slice p1 m2.keys.length s1, .slice p2 m2.chains.length s2, .slice p3 m2.kids.length s3] 26)) := (Below.refl _ _).alloc (Nat.le_refl _) _
    replace q := q.trans (hbA.mono q.size)
    replace hW0 := hW0.below hbA
    replace hL := hL.below hbA
    replace hM0 := hM0.below hbA
    replace hM20 := hM20.below hbA
    replace bN := bN.below hbA bN.lt
    replace bW := bW.below hbA bW.lt
    replace bA := bA.below hbA bA.lt
    clear hbA tn0 tn1 tn2 tw0 tw1 tw2 ta0 ta1 ta2
    have tn0 := bN.cell0
    have tn1 := bN.cell1
    have tn2 := bN.cell2
    have tw0 := bW.cell0
    have tw1 := bW.cell1
    have tw2 := bW.cell2
    have ta0 := bA.cell0
    have ta1 := bA.cell1
    have ta2 := bA.cell2
    have td0 := bD.cell0
    have td1 := bD.cell1
    have td2 := bD.cell2
    go_wp2_with fail
    generalize w6.alloc (.cells #[.slice p1 m2.keys.length s1, .slice p2 m2.chains.length s2, .slice p3 m2.kids.length s3] 26) = wA at *
    refine (refNodes_same (wN n) n _ _ _ _ _ (Nat.le_refl _) (hr0.below q) hW0).mono ?_
    rintro e w7 ⟨rfl, hb⟩
    replace q := q.trans (hb.mono q.size)
    replace hW0 := hW0.below hb
    replace hL := hL.below hb
    replace hM0 := hM0.below hb
    replace hM20 := hM20.below hb
    replace bN := bN.below hb bN.lt
    replace bW := bW.below hb bW.lt
    replace bA := bA.below hb bA.lt
    replace bD := bD.below hb bD.lt
    clear hb tn0 tn1 tn2 tw0 tw1 tw2 ta0 ta1 ta2 td0 td1 td2
    have tn0 := bN.cell0
    have tn1 := bN.cell1
    have tn2 := bN.cell2
    have tw0 := bW.cell0
    have tw1 := bW.cell1
    have tw2 := bW.cell2
    have ta0 := bA.cell0
    have ta1 := bA.cell1
    have ta2 := bA.cell2
    have td0 := bD.cell0
    have td1 := bD.cell1
    have td2 := bD.cell2
    go_wp2_with fail
    refine (refCheckN_any _ (hr0.below q) hw6).mono ?_
    rintro e w8 ⟨rfl, hb⟩
    replace q := q.trans (hb.mono q.size)
    replace hW0 := hW0.below hb
    replace hL := hL.below hb
    replace hM0 := hM0.below hb
    replace hM20 := hM20.below hb
    replace bN := bN.below hb bN.lt
    replace bW := bW.below hb bW.lt
    replace bA := bA.below hb bA.lt
    replace bD := bD.below hb bD.lt
    clear hb tn0 tn1 tn2 tw0 tw1 tw2 ta0 ta1 ta2 td0 td1 td2
    have tn0 := bN.cell0
    have tn1 := bN.cell1
    have tn2 := bN.cell2
    have tw0 := bW.cell0
    have tw1 := bW.cell1
    have tw2 := bW.cell2
    have ta0 := bA.cell0
    have ta1 := bA.cell1
    have ta2 := bA.cell2
    have td0 := bD.cell0
    have td1 := bD.cell1
    have td2 := bD.cell2
    go_wp2_with fail
    refine (refCheckV_any _ (hx0.below q)).mono ?_
    rintro e w9 ⟨rfl, hb⟩
    replace q := q.trans (hb.mono q.size)
    replace hW0 := hW0.below hb
    replace hL := hL.below hb
    replace hM0 := hM0.below hb
    replace hM20 := hM20.below hb
    replace bN := bN.below hb bN.lt
    replace bW := bW.below hb bW.lt
    replace bA := bA.below hb bA.lt
    replace bD := bD.below hb bD.lt
    clear hb tn0 tn1 tn2 tw0 tw1 tw2 ta0 ta1 ta2 td0 td1 td2
    have tn0 := bN.cell0
    have tn1 := bN.cell1
    have tn2 := bN.cell2
    have tw0 := bW.cell0
    have tw1 := bW.cell1
    have tw2 := bW.cell2
    have ta0 := bA.cell0
    have ta1 := bA.cell1
    have ta2 := bA.cell2
    have td0 := bD.cell0
    have td1 := bD.cell1
    have td2 := bD.cell2
    by_cases hk : okN n
    · rw [decide_eq_true hk]
      by_cases h16 : 16 < k.length
      · have d16 : decide ((16 : Int) < k.length) = true := decide_eq_true (by omega)
        have hq : er = 1 ∧ m = n := by unfold PutIs at hQ; rwa [if_neg (fun h => by have := h.2.1; omega)] at hQ
        have HC := Lib.hid hk
        clear hQ h16 hk
        obtain ⟨rfl, hmn⟩ := hq
        subst hmn
        go_wp2_with fail
        refine (refNodes_same (wN _) _ _ _ _ _ _ (Nat.le_refl _) hM0 (hr0.below q)).mono ?_
        rintro e w10 ⟨rfl, hb⟩
        replace q := q.trans (hb.mono q.size)
        replace hW0 := hW0.below hb
        replace hL := hL.below hb
        replace hM0 := hM0.below hb
        replace hM20 := hM20.below hb
        replace bN := bN.below hb bN.lt
        replace bW := bW.below hb bW.lt
        replace bA := bA.below hb bA.lt
        replace bD := bD.below hb bD.lt
        clear hb tn0 tn1 tn2 tw0 tw1 tw2 ta0 ta1 ta2 td0 td1 td2
        have tn0 := bN.cell0
        have tn1 := bN.cell1
        have tn2 := bN.cell2
        have tw0 := bW.cell0
        have tw1 := bW.cell1
        have tw2 := bW.cell2
        have ta0 := bA.cell0
        have ta1 := bA.cell1
        have ta2 := bA.cell2
        have td0 := bD.cell0
        have td1 := bD.cell1
        have td2 := bD.cell2
        go_wp2_with fail
        refine (refFindP_any _ hL (hk0.below q)).mono ?_
        rintro e w14 ⟨⟨r, rfl, hFA⟩, hb⟩
        replace q := q.trans (hb.mono q.size)
        replace hW0 := hW0.below hb
        replace hL := hL.below hb
        replace hM0 := hM0.below hb
        replace hM20 := hM20.below hb
        replace bN := bN.below hb bN.lt
        replace bW := bW.below hb bW.lt
        replace bA := bA.below hb bA.lt
        replace bD := bD.below hb bD.lt
        clear hb tn0 tn1 tn2 tw0 tw1 tw2 ta0 ta1 ta2 td0 td1 td2
        have tn0 := bN.cell0
        have tn1 := bN.cell1
        have tn2 := bN.cell2
        have tw0 := bW.cell0
        have tw1 := bW.cell1
        have tw2 := bW.cell2
        have ta0 := bA.cell0
        have ta1 := bA.cell1
        have ta2 := bA.cell2
        have td0 := bD.cell0
        have td1 := bD.cell1
        have td2 := bD.cell2
        rcases hFA with ⟨rfl, hf⟩ | ⟨j, hj, rfl, hkj, hf⟩
        · have hq2 := hQ2
          unfold DelIs at hq2
          rw [if_pos HC.out, ← show prN _ = pairsN _ from if_pos HC.out, hf] at hq2
          simp only [Option.isSome_none, Bool.false_eq_true, if_false] at hq2
          obtain ⟨rfl, hmn2⟩ := hq2
          subst hmn2
          clear hQ2 hf
          go_wp2_with fail
          refine (refNodes_same (wN _) _ _ _ _ _ _ (Nat.le_refl _) hM20 (hr0.below q)).mono ?_
          rintro e w15 ⟨rfl, hb⟩
          replace q := q.trans (hb.mono q.size)
          replace hW0 := hW0.below hb
          replace hL := hL.below hb
          replace hM0 := hM0.below hb
          replace hM20 := hM20.below hb
          replace bN := bN.below hb bN.lt
          replace bW := bW.below hb bW.lt
          replace bA := bA.below hb bA.lt
          replace bD := bD.below hb bD.lt
          clear hb tn0 tn1 tn2 tw0 tw1 tw2 ta0 ta1 ta2 td0 td1 td2
          have tn0 := bN.cell0
          have tn1 := bN.cell1
          have tn2 := bN.cell2
          have tw0 := bW.cell0
          have tw1 := bW.cell1
          have tw2 := bW.cell2
          have ta0 := bA.cell0
          have ta1 := bA.cell1
          have ta2 := bA.cell2
          have td0 := bD.cell0
          have td1 := bD.cell1
          have td2 := bD.cell2
          go_wp2_with fail
          go_ret
          exact ⟨rfl, q⟩
        · have hq2 := hQ2
          unfold DelIs at hq2
          rw [if_pos HC.out, ← show prN _ = pairsN _ from if_pos HC.out, hf] at hq2
          simp only [Option.isSome_some, if_true] at hq2
          obtain ⟨rfl, hm2k, hm2p⟩ := hq2
          have hm2w := del_weight HFT.out HC.out hm2k (by rw [hm2p, show prN _ = pairsN _ from if_pos HC.out])
          have hpp2 := Lib.hid (show prN m2 = delP (prN _) k from (show prN m2 = pairsN m2 from if_pos hm2k).trans hm2p)
          have HM2 := Lib.hid hm2k
          have dj : decide ((j : Int) < 0) = false := decide_eq_false (by omega)
          clear hQ2 hf hm2k hm2p hkj
          go_wp2_with fail
          refine (refPairsN_any _ hM20 hm2w).mono ?_
          rintro e w15 ⟨aq2, nq2, cq2, rfl, hO, hb⟩
          have hPC := PairsEnd.read hO
          clear hO
          replace q := q.trans (hb.mono q.size)
          replace hW0 := hW0.below hb
          replace hL := hL.below hb
          replace hM0 := hM0.below hb
          replace hM20 := hM20.below hb
          replace bN := bN.below hb bN.lt
          replace bW := bW.below hb bW.lt
          replace bA := bA.below hb bA.lt
          replace bD := bD.below hb bD.lt
          clear hb tn0 tn1 tn2 tw0 tw1 tw2 ta0 ta1 ta2 td0 td1 td2
          have tn0 := bN.cell0
          have tn1 := bN.cell1
          have tn2 := bN.cell2
          have tw0 := bW.cell0
          have tw1 := bW.cell1
          have tw2 := bW.cell2
          have ta0 := bA.cell0
          have ta1 := bA.cell1
          have ta2 := bA.cell2
          have td0 := bD.cell0
          have td1 := bD.cell1
          have td2 := bD.cell2
          go_wp2_with fail
          refine (refDelP_any _ hL (hk0.below q) (by omega)).mono ?_
          rintro e w16 ⟨ar2, nr2, cr2, rfl, hO, hb⟩
          have hPD := PairsEnd.read hO
          replace hPC := hPC.below hb
          clear hO
          replace q := q.trans (hb.mono q.size)
          replace hW0 := hW0.below hb
          replace hL := hL.below hb
          replace hM0 := hM0.below hb
          replace hM20 := hM20.below hb
          replace bN := bN.below hb bN.lt
          replace bW := bW.below hb bW.lt
          replace bA := bA.below hb bA.lt
          replace bD := bD.below hb bD.lt
          clear hb tn0 tn1 tn2 tw0 tw1 tw2 ta0 ta1 ta2 td0 td1 td2
          have tn0 := bN.cell0
          have tn1 := bN.cell1
          have tn2 := bN.cell2
          have tw0 := bW.cell0
          have tw1 := bW.cell1
          have tw2 := bW.cell2
          have ta0 := bA.cell0
          have ta1 := bA.cell1
          have ta2 := bA.cell2
          have td0 := bD.cell0
          have td1 := bD.cell1
          have td2 := bD.cell2
          go_wp2_with fail
          refine (sameP_any _ hPC hPD).mono ?_
          rintro e w17 ⟨rfl, hb⟩
          rw [decide_eq_true hpp2.out]
          clear hPC hPD
          replace q := q.trans (hb.mono q.size)
          replace hW0 := hW0.below hb
          replace hL := hL.below hb
          replace hM0 := hM0.below hb
          replace hM20 := hM20.below hb
          replace bN := bN.below hb bN.lt
          replace bW := bW.below hb bW.lt
          replace bA := bA.below hb bA.lt
          replace bD := bD.below hb bD.lt
          clear hb tn0 tn1 tn2 tw0 tw1 tw2 ta0 ta1 ta2 td0 td1 td2
          have tn0 := bN.cell0
          have tn1 := bN.cell1
          have tn2 := bN.cell2
          have tw0 := bW.cell0
          have tw1 := bW.cell1
          have tw2 := bW.cell2
          have ta0 := bA.cell0
          have ta1 := bA.cell1
          have ta2 := bA.cell2
          have td0 := bD.cell0
          have td1 := bD.cell1
          have td2 := bD.cell2
          go_wp2_with fail
          refine (refCheckN_any _ hM20 hm2w).mono ?_
          rintro e w18 ⟨rfl, hb⟩
          rw [decide_eq_true HM2.out]
          replace q := q.trans (hb.mono q.size)
          replace hW0 := hW0.below hb
          replace hL := hL.below hb
          replace hM0 := hM0.below hb
          replace hM20 := hM20.below hb
          replace bN := bN.below hb bN.lt
          replace bW := bW.below hb bW.lt
          replace bA := bA.below hb bA.lt
          replace bD := bD.below hb bD.lt
          clear hb tn0 tn1 tn2 tw0 tw1 tw2 ta0 ta1 ta2 td0 td1 td2
          have tn0 := bN.cell0
          have tn1 := bN.cell1
          have tn2 := bN.cell2
          have tw0 := bW.cell0
          have tw1 := bW.cell1
          have tw2 := bW.cell2
          have ta0 := bA.cell0
          have ta1 := bA.cell1
          have ta2 := bA.cell2
          have td0 := bD.cell0
          have td1 := bD.cell1
          have td2 := bD.cell2
          go_wp2_with fail
          go_ret
          exact ⟨rfl, q⟩
      · have d16 : decide ((16 : Int) < k.length) = false := decide_eq_false (by omega)
        by_cases hx1 : x.length = 0
        · have d0 : ((x.length : Int) == 0) = true := by rw [beq_iff_eq]; omega
          have hq : er = 1 ∧ m = n := by unfold PutIs at hQ; rwa [if_neg (fun h => h.2.2.2 (List.eq_nil_of_length_eq_zero hx1))] at hQ
          have HC := Lib.hid hk
          clear hQ h16 hk hx1
          obtain ⟨rfl, hmn⟩ := hq
          subst hmn
          go_wp2_with fail
          refine (refNodes_same (wN _) _ _ _ _ _ _ (Nat.le_refl _) hM0 (hr0.below q)).mono ?_
          rintro e w10 ⟨rfl, hb⟩
          replace q := q.trans (hb.mono q.size)
          replace hW0 := hW0.below hb
          replace hL := hL.below hb
          replace hM0 := hM0.below hb
          replace hM20 := hM20.below hb
          replace bN := bN.below hb bN.lt
          replace bW := bW.below hb bW.lt
          replace bA := bA.below hb bA.lt
          replace bD := bD.below hb bD.lt
          clear hb tn0 tn1 tn2 tw0 tw1 tw2 ta0 ta1 ta2 td0 td1 td2
          have tn0 := bN.cell0
          have tn1 := bN.cell1
          have tn2 := bN.cell2
          have tw0 := bW.cell0
          have tw1 := bW.cell1
          have tw2 := bW.cell2
          have ta0 := bA.cell0
          have ta1 := bA.cell1
          have ta2 := bA.cell2
          have td0 := bD.cell0
          have td1 := bD.cell1
          have td2 := bD.cell2
          go_wp2_with fail
          refine (refFindP_any _ hL (hk0.below q)).mono ?_
          rintro e w14 ⟨⟨r, rfl, hFA⟩, hb⟩
          replace q := q.trans (hb.mono q.size)
          replace hW0 := hW0.below hb
          replace hL := hL.below hb
          replace hM0 := hM0.below hb
          replace hM20 := hM20.below hb
          replace bN := bN.below hb bN.lt
          replace bW := bW.below hb bW.lt
          replace bA := bA.below hb bA.lt
          replace bD := bD.below hb bD.lt
          clear hb tn0 tn1 tn2 tw0 tw1 tw2 ta0 ta1 ta2 td0 td1 td2
          have tn0 := bN.cell0
          have tn1 := bN.cell1
          have tn2 := bN.cell2
          have tw0 := bW.cell0
          have tw1 := bW.cell1
          have tw2 := bW.cell2
          have ta0 := bA.cell0
          have ta1 := bA.cell1
          have ta2 := bA.cell2
          have td0 := bD.cell0
          have td1 := bD.cell1
          have td2 := bD.cell2
          rcases hFA with ⟨rfl, hf⟩ | ⟨j, hj, rfl, hkj, hf⟩
          · have hq2 := hQ2
            unfold DelIs at hq2
            rw [if_pos HC.out, ← show prN _ = pairsN _ from if_pos HC.out, hf] at hq2
            simp only [Option.isSome_none, Bool.false_eq_true, if_false] at hq2
            obtain ⟨rfl, hmn2⟩ := hq2
            subst hmn2
            clear hQ2 hf
            go_wp2_with fail
            refine (refNodes_same (wN _) _ _ _ _ _ _ (Nat.le_refl _) hM20 (hr0.below q)).mono ?_
            rintro e w15 ⟨rfl, hb⟩
            replace q := q.trans (hb.mono q.size)
            replace hW0 := hW0.below hb
            replace hL := hL.below hb
            replace hM0 := hM0.below hb
            replace hM20 := hM20.below hb
            replace bN := bN.below hb bN.lt
            replace bW := bW.below hb bW.lt
            replace bA := bA.below hb bA.lt
            replace bD := bD.below hb bD.lt
            clear hb tn0 tn1 tn2 tw0 tw1 tw2 ta0 ta1 ta2 td0 td1 td2
            have tn0 := bN.cell0
            have tn1 := bN.cell1
            have tn2 := bN.cell2
            have tw0 := bW.cell0
            have tw1 := bW.cell1
            have tw2 := bW.cell2
            have ta0 := bA.cell0
            have ta1 := bA.cell1
            have ta2 := bA.cell2
            have td0 := bD.cell0
            have td1 := bD.cell1
            have td2 := bD.cell2
            go_wp2_with fail
            go_ret
            exact ⟨rfl, q⟩
          · have hq2 := hQ2
            unfold DelIs at hq2
            rw [if_pos HC.out, ← show prN _ = pairsN _ from if_pos HC.out, hf] at hq2
            simp only [Option.isSome_some, if_true] at hq2
            obtain ⟨rfl, hm2k, hm2p⟩ := hq2
            have hm2w := del_weight HFT.out HC.out hm2k (by rw [hm2p, show prN _ = pairsN _ from if_pos HC.out])
            have hpp2 := Lib.hid (show prN m2 = delP (prN _) k from (show prN m2 = pairsN m2 from if_pos hm2k).trans hm2p)
            have HM2 := Lib.hid hm2k
            have dj : decide ((j : Int) < 0) = false := decide_eq_false (by omega)
            clear hQ2 hf hm2k hm2p hkj
            go_wp2_with fail
            refine (refPairsN_any _ hM20 hm2w).mono ?_
            rintro e w15 ⟨aq2, nq2, cq2, rfl, hO, hb⟩
            have hPC := PairsEnd.read hO
            clear hO
            replace q := q.trans (hb.mono q.size)
            replace hW0 := hW0.below hb
            replace hL := hL.below hb
            replace hM0 := hM0.below hb
            replace hM20 := hM20.below hb
            replace bN := bN.below hb bN.lt
            replace bW := bW.below hb bW.lt
            replace bA := bA.below hb bA.lt
            replace bD := bD.below hb bD.lt
            clear hb tn0 tn1 tn2 tw0 tw1 tw2 ta0 ta1 ta2 td0 td1 td2
            have tn0 := bN.cell0
            have tn1 := bN.cell1
            have tn2 := bN.cell2
            have tw0 := bW.cell0
            have tw1 := bW.cell1
            have tw2 := bW.cell2
            have ta0 := bA.cell0
            have ta1 := bA.cell1
            have ta2 := bA.cell2
            have td0 := bD.cell0
            have td1 := bD.cell1
            have td2 := bD.cell2
            go_wp2_with fail
            refine (refDelP_any _ hL (hk0.below q) (by omega)).mono ?_
            rintro e w16 ⟨ar2, nr2, cr2, rfl, hO, hb⟩
            have hPD := PairsEnd.read hO
            replace hPC := hPC.below hb
            clear hO
            replace q := q.trans (hb.mono q.size)
            replace hW0 := hW0.below hb
            replace hL := hL.below hb
            replace hM0 := hM0.below hb
            replace hM20 := hM20.below hb
            replace bN := bN.below hb bN.lt
            replace bW := bW.below hb bW.lt
            replace bA := bA.below hb bA.lt
            replace bD := bD.below hb bD.lt
            clear hb tn0 tn1 tn2 tw0 tw1 tw2 ta0 ta1 ta2 td0 td1 td2
            have tn0 := bN.cell0
            have tn1 := bN.cell1
            have tn2 := bN.cell2
            have tw0 := bW.cell0
            have tw1 := bW.cell1
            have tw2 := bW.cell2
            have ta0 := bA.cell0
            have ta1 := bA.cell1
            have ta2 := bA.cell2
            have td0 := bD.cell0
            have td1 := bD.cell1
            have td2 := bD.cell2
            go_wp2_with fail
            refine (sameP_any _ hPC hPD).mono ?_
            rintro e w17 ⟨rfl, hb⟩
            rw [decide_eq_true hpp2.out]
            clear hPC hPD
            replace q := q.trans (hb.mono q.size)
            replace hW0 := hW0.below hb
            replace hL := hL.below hb
            replace hM0 := hM0.below hb
            replace hM20 := hM20.below hb
            replace bN := bN.below hb bN.lt
            replace bW := bW.below hb bW.lt
            replace bA := bA.below hb bA.lt
            replace bD := bD.below hb bD.lt
            clear hb tn0 tn1 tn2 tw0 tw1 tw2 ta0 ta1 ta2 td0 td1 td2
            have tn0 := bN.cell0
            have tn1 := bN.cell1
            have tn2 := bN.cell2
            have tw0 := bW.cell0
            have tw1 := bW.cell1
            have tw2 := bW.cell2
            have ta0 := bA.cell0
            have ta1 := bA.cell1
            have ta2 := bA.cell2
            have td0 := bD.cell0
            have td1 := bD.cell1
            have td2 := bD.cell2
            go_wp2_with fail
            refine (refCheckN_any _ hM20 hm2w).mono ?_
            rintro e w18 ⟨rfl, hb⟩
            rw [decide_eq_true HM2.out]
            replace q := q.trans (hb.mono q.size)
            replace hW0 := hW0.below hb
            replace hL := hL.below hb
            replace hM0 := hM0.below hb
            replace hM20 := hM20.below hb
            replace bN := bN.below hb bN.lt
            replace bW := bW.below hb bW.lt
            replace bA := bA.below hb bA.lt
            replace bD := bD.below hb bD.lt
            clear hb tn0 tn1 tn2 tw0 tw1 tw2 ta0 ta1 ta2 td0 td1 td2
            have tn0 := bN.cell0
            have tn1 := bN.cell1
            have tn2 := bN.cell2
            have tw0 := bW.cell0
            have tw1 := bW.cell1
            have tw2 := bW.cell2
            have ta0 := bA.cell0
            have ta1 := bA.cell1
            have ta2 := bA.cell2
            have td0 := bD.cell0
            have td1 := bD.cell1
            have td2 := bD.cell2
            go_wp2_with fail
            go_ret
            exact ⟨rfl, q⟩
        · have d0 : ((x.length : Int) == 0) = false := by rw [beq_eq_false_iff_ne]; omega
          by_cases hv : okV x
          · rw [decide_eq_true hv]
            have hq : er = 0 ∧ okN m ∧ pairsN m = putP (pairsN n) k x := by unfold PutIs at hQ; rwa [if_pos ⟨hk, by omega, hv, fun e => hx1 (by rw [e]; rfl)⟩] at hQ
            have HC := Lib.hid hk
            obtain ⟨rfl, hmk, hmp⟩ := hq
            have hmw := put_weight hft hk hmk hmp
            have hpp := Lib.hid (show prN m = putP (prN n) k x by rw [show prN m = pairsN m from if_pos hmk, show prN n = pairsN n from if_pos hk, hmp])
            have HMK := Lib.hid hmk
            clear hQ h16 hk hx1 hv hmk hmp
            go_wp2_with fail
            refine (refPairsN_any _ hM0 hmw).mono ?_
            rintro e w10 ⟨aq, nq, cq, rfl, hO, hb⟩
            have hPA := PairsEnd.read hO
            clear hO
            replace q := q.trans (hb.mono q.size)
            replace hW0 := hW0.below hb
            replace hL := hL.below hb
            replace hM0 := hM0.below hb
            replace hM20 := hM20.below hb
            replace bN := bN.below hb bN.lt
            replace bW := bW.below hb bW.lt
            replace bA := bA.below hb bA.lt
            replace bD := bD.below hb bD.lt
            clear hb tn0 tn1 tn2 tw0 tw1 tw2 ta0 ta1 ta2 td0 td1 td2
            have tn0 := bN.cell0
            have tn1 := bN.cell1
            have tn2 := bN.cell2
            have tw0 := bW.cell0
            have tw1 := bW.cell1
            have tw2 := bW.cell2
            have ta0 := bA.cell0
            have ta1 := bA.cell1
            have ta2 := bA.cell2
            have td0 := bD.cell0
            have td1 := bD.cell1
            have td2 := bD.cell2
            go_wp2_with fail
            refine (refPutP_any _ hL (hk0.below q) (hx0.below q) (by omega)).mono ?_
            rintro e w11 ⟨ar, nr, cr, rfl, hO, hb⟩
            have hPB := PairsEnd.read hO
            replace hPA := hPA.below hb
            clear hO
            replace q := q.trans (hb.mono q.size)
            replace hW0 := hW0.below hb
            replace hL := hL.below hb
            replace hM0 := hM0.below hb
            replace hM20 := hM20.below hb
            replace bN := bN.below hb bN.lt
            replace bW := bW.below hb bW.lt
            replace bA := bA.below hb bA.lt
            replace bD := bD.below hb bD.lt
            clear hb tn0 tn1 tn2 tw0 tw1 tw2 ta0 ta1 ta2 td0 td1 td2
            have tn0 := bN.cell0
            have tn1 := bN.cell1
            have tn2 := bN.cell2
            have tw0 := bW.cell0
            have tw1 := bW.cell1
            have tw2 := bW.cell2
            have ta0 := bA.cell0
            have ta1 := bA.cell1
            have ta2 := bA.cell2
            have td0 := bD.cell0
            have td1 := bD.cell1
            have td2 := bD.cell2
            go_wp2_with fail
            refine (sameP_any _ hPA hPB).mono ?_
            rintro e w12 ⟨rfl, hb⟩
            rw [decide_eq_true hpp.out]
            clear hPA hPB
            replace q := q.trans (hb.mono q.size)
            replace hW0 := hW0.below hb
            replace hL := hL.below hb
            replace hM0 := hM0.below hb
            replace hM20 := hM20.below hb
            replace bN := bN.below hb bN.lt
            replace bW := bW.below hb bW.lt
            replace bA := bA.below hb bA.lt
            replace bD := bD.below hb bD.lt
            clear hb tn0 tn1 tn2 tw0 tw1 tw2 ta0 ta1 ta2 td0 td1 td2
            have tn0 := bN.cell0
            have tn1 := bN.cell1
            have tn2 := bN.cell2
            have tw0 := bW.cell0
            have tw1 := bW.cell1
            have tw2 := bW.cell2
            have ta0 := bA.cell0
            have ta1 := bA.cell1
            have ta2 := bA.cell2
            have td0 := bD.cell0
            have td1 := bD.cell1
            have td2 := bD.cell2
            go_wp2_with fail
            refine (refCheckN_any _ hM0 hmw).mono ?_
            rintro e w13 ⟨rfl, hb⟩
            rw [decide_eq_true HMK.out]
            replace q := q.trans (hb.mono q.size)
            replace hW0 := hW0.below hb
            replace hL := hL.below hb
            replace hM0 := hM0.below hb
            replace hM20 := hM20.below hb
            replace bN := bN.below hb bN.lt
            replace bW := bW.below hb bW.lt
            replace bA := bA.below hb bA.lt
            replace bD := bD.below hb bD.lt
            clear hb tn0 tn1 tn2 tw0 tw1 tw2 ta0 ta1 ta2 td0 td1 td2
            have tn0 := bN.cell0
            have tn1 := bN.cell1
            have tn2 := bN.cell2
            have tw0 := bW.cell0
            have tw1 := bW.cell1
            have tw2 := bW.cell2
            have ta0 := bA.cell0
            have ta1 := bA.cell1
            have ta2 := bA.cell2
            have td0 := bD.cell0
            have td1 := bD.cell1
            have td2 := bD.cell2
            go_wp2_with fail
            refine (refFindP_any _ hL (hk0.below q)).mono ?_
            rintro e w14 ⟨⟨r, rfl, hFA⟩, hb⟩
            replace q := q.trans (hb.mono q.size)
            replace hW0 := hW0.below hb
            replace hL := hL.below hb
            replace hM0 := hM0.below hb
            replace hM20 := hM20.below hb
            replace bN := bN.below hb bN.lt
            replace bW := bW.below hb bW.lt
            replace bA := bA.below hb bA.lt
            replace bD := bD.below hb bD.lt
            clear hb tn0 tn1 tn2 tw0 tw1 tw2 ta0 ta1 ta2 td0 td1 td2
            have tn0 := bN.cell0
            have tn1 := bN.cell1
            have tn2 := bN.cell2
            have tw0 := bW.cell0
            have tw1 := bW.cell1
            have tw2 := bW.cell2
            have ta0 := bA.cell0
            have ta1 := bA.cell1
            have ta2 := bA.cell2
            have td0 := bD.cell0
            have td1 := bD.cell1
            have td2 := bD.cell2
            rcases hFA with ⟨rfl, hf⟩ | ⟨j, hj, rfl, hkj, hf⟩
            · have hq2 := hQ2
              unfold DelIs at hq2
              rw [if_pos HC.out, ← show prN _ = pairsN _ from if_pos HC.out, hf] at hq2
              simp only [Option.isSome_none, Bool.false_eq_true, if_false] at hq2
              obtain ⟨rfl, hmn2⟩ := hq2
              subst hmn2
              clear hQ2 hf
              go_wp2_with fail
              refine (refNodes_same (wN _) _ _ _ _ _ _ (Nat.le_refl _) hM20 (hr0.below q)).mono ?_
              rintro e w15 ⟨rfl, hb⟩
              replace q := q.trans (hb.mono q.size)
              replace hW0 := hW0.below hb
              replace hL := hL.below hb
              replace hM0 := hM0.below hb
              replace hM20 := hM20.below hb
              replace bN := bN.below hb bN.lt
              replace bW := bW.below hb bW.lt
              replace bA := bA.below hb bA.lt
              replace bD := bD.below hb bD.lt
              clear hb tn0 tn1 tn2 tw0 tw1 tw2 ta0 ta1 ta2 td0 td1 td2
              have tn0 := bN.cell0
              have tn1 := bN.cell1
              have tn2 := bN.cell2
              have tw0 := bW.cell0
              have tw1 := bW.cell1
              have tw2 := bW.cell2
              have ta0 := bA.cell0
              have ta1 := bA.cell1
              have ta2 := bA.cell2
              have td0 := bD.cell0
              have td1 := bD.cell1
              have td2 := bD.cell2
              go_wp2_with fail
              go_ret
              exact ⟨rfl, q⟩
            · have hq2 := hQ2
              unfold DelIs at hq2
              rw [if_pos HC.out, ← show prN _ = pairsN _ from if_pos HC.out, hf] at hq2
              simp only [Option.isSome_some, if_true] at hq2
              obtain ⟨rfl, hm2k, hm2p⟩ := hq2
              have hm2w := del_weight HFT.out HC.out hm2k (by rw [hm2p, show prN _ = pairsN _ from if_pos HC.out])
              have hpp2 := Lib.hid (show prN m2 = delP (prN _) k from (show prN m2 = pairsN m2 from if_pos hm2k).trans hm2p)
              have HM2 := Lib.hid hm2k
              have dj : decide ((j : Int) < 0) = false := decide_eq_false (by omega)
              clear hQ2 hf hm2k hm2p hkj
              go_wp2_with fail
              refine (refPairsN_any _ hM20 hm2w).mono ?_
              rintro e w15 ⟨aq2, nq2, cq2, rfl, hO, hb⟩
              have hPC := PairsEnd.read hO
              clear hO
              replace q := q.trans (hb.mono q.size)
              replace hW0 := hW0.below hb
              replace hL := hL.below hb
              replace hM0 := hM0.below hb
              replace hM20 := hM20.below hb
              replace bN := bN.below hb bN.lt
              replace bW := bW.below hb bW.lt
              replace bA := bA.below hb bA.lt
              replace bD := bD.below hb bD.lt
              clear hb tn0 tn1 tn2 tw0 tw1 tw2 ta0 ta1 ta2 td0 td1 td2
              have tn0 := bN.cell0
              have tn1 := bN.cell1
              have tn2 := bN.cell2
              have tw0 := bW.cell0
              have tw1 := bW.cell1
              have tw2 := bW.cell2
              have ta0 := bA.cell0
              have ta1 := bA.cell1
              have ta2 := bA.cell2
              have td0 := bD.cell0
              have td1 := bD.cell1
              have td2 := bD.cell2
              go_wp2_with fail
              refine (refDelP_any _ hL (hk0.below q) (by omega)).mono ?_
              rintro e w16 ⟨ar2, nr2, cr2, rfl, hO, hb⟩
              have hPD := PairsEnd.read hO
              replace hPC := hPC.below hb
              clear hO
              replace q := q.trans (hb.mono q.size)
              replace hW0 := hW0.below hb
              replace hL := hL.below hb
              replace hM0 := hM0.below hb
              replace hM20 := hM20.below hb
              replace bN := bN.below hb bN.lt
              replace bW := bW.below hb bW.lt
              replace bA := bA.below hb bA.lt
              replace bD := bD.below hb bD.lt
              clear hb tn0 tn1 tn2 tw0 tw1 tw2 ta0 ta1 ta2 td0 td1 td2
              have tn0 := bN.cell0
              have tn1 := bN.cell1
              have tn2 := bN.cell2
              have tw0 := bW.cell0
              have tw1 := bW.cell1
              have tw2 := bW.cell2
              have ta0 := bA.cell0
              have ta1 := bA.cell1
              have ta2 := bA.cell2
              have td0 := bD.cell0
              have td1 := bD.cell1
              have td2 := bD.cell2
              go_wp2_with fail
              refine (sameP_any _ hPC hPD).mono ?_
              rintro e w17 ⟨rfl, hb⟩
              rw [decide_eq_true hpp2.out]
              clear hPC hPD
              replace q := q.trans (hb.mono q.size)
              replace hW0 := hW0.below hb
              replace hL := hL.below hb
              replace hM0 := hM0.below hb
              replace hM20 := hM20.below hb
              replace bN := bN.below hb bN.lt
              replace bW := bW.below hb bW.lt
              replace bA := bA.below hb bA.lt
              replace bD := bD.below hb bD.lt
              clear hb tn0 tn1 tn2 tw0 tw1 tw2 ta0 ta1 ta2 td0 td1 td2
              have tn0 := bN.cell0
              have tn1 := bN.cell1
              have tn2 := bN.cell2
              have tw0 := bW.cell0
              have tw1 := bW.cell1
              have tw2 := bW.cell2
              have ta0 := bA.cell0
              have ta1 := bA.cell1
              have ta2 := bA.cell2
              have td0 := bD.cell0
              have td1 := bD.cell1
              have td2 := bD.cell2
              go_wp2_with fail
              refine (refCheckN_any _ hM20 hm2w).mono ?_
              rintro e w18 ⟨rfl, hb⟩
              rw [decide_eq_true HM2.out]
              replace q := q.trans (hb.mono q.size)
              replace hW0 := hW0.below hb
              replace hL := hL.below hb
              replace hM0 := hM0.below hb
              replace hM20 := hM20.below hb
              replace bN := bN.below hb bN.lt
              replace bW := bW.below hb bW.lt
              replace bA := bA.below hb bA.lt
              replace bD := bD.below hb bD.lt
              clear hb tn0 tn1 tn2 tw0 tw1 tw2 ta0 ta1 ta2 td0 td1 td2
              have tn0 := bN.cell0
              have tn1 := bN.cell1
              have tn2 := bN.cell2
              have tw0 := bW.cell0
              have tw1 := bW.cell1
              have tw2 := bW.cell2
              have ta0 := bA.cell0
              have ta1 := bA.cell1
              have ta2 := bA.cell2
              have td0 := bD.cell0
              have td1 := bD.cell1
              have td2 := bD.cell2
              go_wp2_with fail
              go_ret
              exact ⟨rfl, q⟩
          · rw [decide_eq_false hv]
            have hq : er = 1 ∧ m = n := by unfold PutIs at hQ; rwa [if_neg (fun h => hv h.2.2.1)] at hQ
            have HC := Lib.hid hk
            clear hQ h16 hk hx1 hv
            obtain ⟨rfl, hmn⟩ := hq
            subst hmn
            go_wp2_with fail
            refine (refNodes_same (wN _) _ _ _ _ _ _ (Nat.le_refl _) hM0 (hr0.below q)).mono ?_
            rintro e w10 ⟨rfl, hb⟩
            replace q := q.trans (hb.mono q.size)
            replace hW0 := hW0.below hb
            replace hL := hL.below hb
            replace hM0 := hM0.below hb
            replace hM20 := hM20.below hb
            replace bN := bN.below hb bN.lt
            replace bW := bW.below hb bW.lt
            replace bA := bA.below hb bA.lt
            replace bD := bD.below hb bD.lt
            clear hb tn0 tn1 tn2 tw0 tw1 tw2 ta0 ta1 ta2 td0 td1 td2
            have tn0 := bN.cell0
            have tn1 := bN.cell1
            have tn2 := bN.cell2
            have tw0 := bW.cell0
            have tw1 := bW.cell1
            have tw2 := bW.cell2
            have ta0 := bA.cell0
            have ta1 := bA.cell1
            have ta2 := bA.cell2
            have td0 := bD.cell0
            have td1 := bD.cell1
            have td2 := bD.cell2
            go_wp2_with fail
            refine (refFindP_any _ hL (hk0.below q)).mono ?_
            rintro e w14 ⟨⟨r, rfl, hFA⟩, hb⟩
            replace q := q.trans (hb.mono q.size)
            replace hW0 := hW0.below hb
            replace hL := hL.below hb
            replace hM0 := hM0.below hb
            replace hM20 := hM20.below hb
            replace bN := bN.below hb bN.lt
            replace bW := bW.below hb bW.lt
            replace bA := bA.below hb bA.lt
            replace bD := bD.below hb bD.lt
            clear hb tn0 tn1 tn2 tw0 tw1 tw2 ta0 ta1 ta2 td0 td1 td2
            have tn0 := bN.cell0
            have tn1 := bN.cell1
            have tn2 := bN.cell2
            have tw0 := bW.cell0
            have tw1 := bW.cell1
            have tw2 := bW.cell2
            have ta0 := bA.cell0
            have ta1 := bA.cell1
            have ta2 := bA.cell2
            have td0 := bD.cell0
            have td1 := bD.cell1
            have td2 := bD.cell2
            rcases hFA with ⟨rfl, hf⟩ | ⟨j, hj, rfl, hkj, hf⟩
            · have hq2 := hQ2
              unfold DelIs at hq2
              rw [if_pos HC.out, ← show prN _ = pairsN _ from if_pos HC.out, hf] at hq2
              simp only [Option.isSome_none, Bool.false_eq_true, if_false] at hq2
              obtain ⟨rfl, hmn2⟩ := hq2
              subst hmn2
              clear hQ2 hf
              go_wp2_with fail
              refine (refNodes_same (wN _) _ _ _ _ _ _ (Nat.le_refl _) hM20 (hr0.below q)).mono ?_
              rintro e w15 ⟨rfl, hb⟩
              replace q := q.trans (hb.mono q.size)
              replace hW0 := hW0.below hb
              replace hL := hL.below hb
              replace hM0 := hM0.below hb
              replace hM20 := hM20.below hb
              replace bN := bN.below hb bN.lt
              replace bW := bW.below hb bW.lt
              replace bA := bA.below hb bA.lt
              replace bD := bD.below hb bD.lt
              clear hb tn0 tn1 tn2 tw0 tw1 tw2 ta0 ta1 ta2 td0 td1 td2
              have tn0 := bN.cell0
              have tn1 := bN.cell1
              have tn2 := bN.cell2
              have tw0 := bW.cell0
              have tw1 := bW.cell1
              have tw2 := bW.cell2
              have ta0 := bA.cell0
              have ta1 := bA.cell1
              have ta2 := bA.cell2
              have td0 := bD.cell0
              have td1 := bD.cell1
              have td2 := bD.cell2
              go_wp2_with fail
              go_ret
              exact ⟨rfl, q⟩
            · have hq2 := hQ2
              unfold DelIs at hq2
              rw [if_pos HC.out, ← show prN _ = pairsN _ from if_pos HC.out, hf] at hq2
              simp only [Option.isSome_some, if_true] at hq2
              obtain ⟨rfl, hm2k, hm2p⟩ := hq2
              have hm2w := del_weight HFT.out HC.out hm2k (by rw [hm2p, show prN _ = pairsN _ from if_pos HC.out])
              have hpp2 := Lib.hid (show prN m2 = delP (prN _) k from (show prN m2 = pairsN m2 from if_pos hm2k).trans hm2p)
              have HM2 := Lib.hid hm2k
              have dj : decide ((j : Int) < 0) = false := decide_eq_false (by omega)
              clear hQ2 hf hm2k hm2p hkj
              go_wp2_with fail
              refine (refPairsN_any _ hM20 hm2w).mono ?_
              rintro e w15 ⟨aq2, nq2, cq2, rfl, hO, hb⟩
              have hPC := PairsEnd.read hO
              clear hO
              replace q := q.trans (hb.mono q.size)
              replace hW0 := hW0.below hb
              replace hL := hL.below hb
              replace hM0 := hM0.below hb
              replace hM20 := hM20.below hb
              replace bN := bN.below hb bN.lt
              replace bW := bW.below hb bW.lt
              replace bA := bA.below hb bA.lt
              replace bD := bD.below hb bD.lt
              clear hb tn0 tn1 tn2 tw0 tw1 tw2 ta0 ta1 ta2 td0 td1 td2
              have tn0 := bN.cell0
              have tn1 := bN.cell1
              have tn2 := bN.cell2
              have tw0 := bW.cell0
              have tw1 := bW.cell1
              have tw2 := bW.cell2
              have ta0 := bA.cell0
              have ta1 := bA.cell1
              have ta2 := bA.cell2
              have td0 := bD.cell0
              have td1 := bD.cell1
              have td2 := bD.cell2
              go_wp2_with fail
              refine (refDelP_any _ hL (hk0.below q) (by omega)).mono ?_
              rintro e w16 ⟨ar2, nr2, cr2, rfl, hO, hb⟩
              have hPD := PairsEnd.read hO
              replace hPC := hPC.below hb
              clear hO
              replace q := q.trans (hb.mono q.size)
              replace hW0 := hW0.below hb
              replace hL := hL.below hb
              replace hM0 := hM0.below hb
              replace hM20 := hM20.below hb
              replace bN := bN.below hb bN.lt
              replace bW := bW.below hb bW.lt
              replace bA := bA.below hb bA.lt
              replace bD := bD.below hb bD.lt
              clear hb tn0 tn1 tn2 tw0 tw1 tw2 ta0 ta1 ta2 td0 td1 td2
              have tn0 := bN.cell0
              have tn1 := bN.cell1
              have tn2 := bN.cell2
              have tw0 := bW.cell0
              have tw1 := bW.cell1
              have tw2 := bW.cell2
              have ta0 := bA.cell0
              have ta1 := bA.cell1
              have ta2 := bA.cell2
              have td0 := bD.cell0
              have td1 := bD.cell1
              have td2 := bD.cell2
              go_wp2_with fail
              refine (sameP_any _ hPC hPD).mono ?_
              rintro e w17 ⟨rfl, hb⟩
              rw [decide_eq_true hpp2.out]
              clear hPC hPD
              replace q := q.trans (hb.mono q.size)
              replace hW0 := hW0.below hb
              replace hL := hL.below hb
              replace hM0 := hM0.below hb
              replace hM20 := hM20.below hb
              replace bN := bN.below hb bN.lt
              replace bW := bW.below hb bW.lt
              replace bA := bA.below hb bA.lt
              replace bD := bD.below hb bD.lt
              clear hb tn0 tn1 tn2 tw0 tw1 tw2 ta0 ta1 ta2 td0 td1 td2
              have tn0 := bN.cell0
              have tn1 := bN.cell1
              have tn2 := bN.cell2
              have tw0 := bW.cell0
              have tw1 := bW.cell1
              have tw2 := bW.cell2
              have ta0 := bA.cell0
              have ta1 := bA.cell1
              have ta2 := bA.cell2
              have td0 := bD.cell0
              have td1 := bD.cell1
              have td2 := bD.cell2
              go_wp2_with fail
              refine (refCheckN_any _ hM20 hm2w).mono ?_
              rintro e w18 ⟨rfl, hb⟩
              rw [decide_eq_true HM2.out]
              replace q := q.trans (hb.mono q.size)
              replace hW0 := hW0.below hb
              replace hL := hL.below hb
              replace hM0 := hM0.below hb
              replace hM20 := hM20.below hb
              replace bN := bN.below hb bN.lt
              replace bW := bW.below hb bW.lt
              replace bA := bA.below hb bA.lt
              replace bD := bD.below hb bD.lt
              clear hb tn0 tn1 tn2 tw0 tw1 tw2 ta0 ta1 ta2 td0 td1 td2
              have tn0 := bN.cell0
              have tn1 := bN.cell1
              have tn2 := bN.cell2
              have tw0 := bW.cell0
              have tw1 := bW.cell1
              have tw2 := bW.cell2
              have ta0 := bA.cell0
              have ta1 := bA.cell1
              have ta2 := bA.cell2
              have td0 := bD.cell0
              have td1 := bD.cell1
              have td2 := bD.cell2
              go_wp2_with fail
              go_ret
              exact ⟨rfl, q⟩
    · rw [decide_eq_false hk]
      have hq : er = 1 ∧ m = n := by unfold PutIs at hQ; rwa [if_neg (fun h => hk h.1)] at hQ
      have hq2 : er2 = 1 ∧ m2 = n := by unfold DelIs at hQ2; rwa [if_neg hk] at hQ2
      obtain ⟨rfl, rfl⟩ := hq
      obtain ⟨rfl, rfl⟩ := hq2
      clear hQ hQ2 hk
      go_wp2_with fail
      refine (refNodes_same (wN m2) m2 _ _ _ _ _ (Nat.le_refl _) hM0 (hr0.below q)).mono ?_
      rintro e w10 ⟨rfl, hb⟩
      replace q := q.trans (hb.mono q.size)
      replace hW0 := hW0.below hb
      replace hL := hL.below hb
      replace hM0 := hM0.below hb
      replace hM20 := hM20.below hb
      replace bN := bN.below hb bN.lt
      replace bW := bW.below hb bW.lt
      replace bA := bA.below hb bA.lt
      replace bD := bD.below hb bD.lt
      clear hb tn0 tn1 tn2 tw0 tw1 tw2 ta0 ta1 ta2 td0 td1 td2
      have tn0 := bN.cell0
      have tn1 := bN.cell1
      have tn2 := bN.cell2
      have tw0 := bW.cell0
      have tw1 := bW.cell1
      have tw2 := bW.cell2
      have ta0 := bA.cell0
      have ta1 := bA.cell1
      have ta2 := bA.cell2
      have td0 := bD.cell0
      have td1 := bD.cell1
      have td2 := bD.cell2
      go_wp2_with fail
      refine (refNodes_same (wN m2) m2 _ _ _ _ _ (Nat.le_refl _) hM20 (hr0.below q)).mono ?_
      rintro e w11 ⟨rfl, hb⟩
      replace q := q.trans (hb.mono q.size)
      replace hW0 := hW0.below hb
      replace hL := hL.below hb
      replace hM0 := hM0.below hb
      replace hM20 := hM20.below hb
      replace bN := bN.below hb bN.lt
      replace bW := bW.below hb bW.lt
      replace bA := bA.below hb bA.lt
      replace bD := bD.below hb bD.lt
      clear hb tn0 tn1 tn2 tw0 tw1 tw2 ta0 ta1 ta2 td0 td1 td2
      have tn0 := bN.cell0
      have tn1 := bN.cell1
      have tn2 := bN.cell2
      have tw0 := bW.cell0
      have tw1 := bW.cell1
      have tw2 := bW.cell2
      have ta0 := bA.cell0
      have ta1 := bA.cell1
      have ta2 := bA.cell2
      have td0 := bD.cell0
      have td1 := bD.cell1
      have td2 := bD.cell2
      go_wp2_with fail
      go_ret
      exact ⟨rfl, q⟩
end Go.Proofs.Ytdegjkfjaklkjaa
