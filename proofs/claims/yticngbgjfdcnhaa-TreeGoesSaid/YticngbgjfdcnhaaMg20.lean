/-
  TEXTS OF ONE PROOF, merged: TreeGoesW.
-/
import Derived.Test.YticngbgjfdcnhaaMg15
import Derived.Test.YticngbgjfdcnhaaMg18
import Derived.Test.YticngbgjfdcnhaaMg19
namespace Go.Proofs.Yticngbgjfdcnhaa
open Go.RowKit
theorem stpS : StP Try.prog 31 3 := StP.of (by kernel_rfl)
theorem arP : ArP Try.prog 29 3 256 := ⟨by kernel_rfl, by kernel_rfl, by kernel_rfl, by kernel_rfl, by kernel_rfl, by omega⟩
def GoR (w : World) (bn bs : Nat) (N : Nat) (m v : Value) (wr : World) : Prop :=
  ∃ (i k : Nat) (n : Nd) (st : List Nat) (x y z : Value), v = .int .i64 (i : Int) ∧ m = .int .i64 (k : Int) ∧ i ≤ N ∧ TriV wr bn 28 x y z ∧ ArrV wr bs 29 st ∧ RdN (fun b => b ≠ bn ∧ b ≠ bs) wr (.agg #[x, y, z]) n ∧ GoI n st k i ∧ Below w.heap.size w wr
def GoM (w : World) (bn bs i : Nat) (m : Value) (W2 : World) : Prop :=
  ∃ (k2 : Nat) (n2 : Nd) (st2 : List Nat) (x2 y2 z2 : Value), m = .int .i64 (k2 : Int) ∧ TriV W2 bn 28 x2 y2 z2 ∧ ArrV W2 bs 29 st2 ∧ RdN (fun b => b ≠ bn ∧ b ≠ bs) W2 (.agg #[x2, y2, z2]) n2 ∧ GoI n2 st2 k2 (i + 1) ∧ Below w.heap.size w W2
set_option maxRecDepth 100000 in
set_option maxHeartbeats 16000000 in
theorem TreeGoes_w (hC : TreC) (w : World) {La : Option Addr} {ln lc : Nat} {l : List Stp} (hl : RdL Elt.stp (· < w.heap.size) w (.slice La ln lc) l) :
    Calls Try.prog 3 #[.slice La ln lc] w fun e w' => e = .returned (.bool true) ∧ Below w.heap.size w w' := by
  obtain ⟨rfl, hlc, hlm⟩ := hl.len
  have hll : l.length ≤ 9223372036854775807 := by unfold maxLen at hlm; omega
  obtain ⟨N, hN⟩ : ∃ N, N = min l.length 80 := ⟨_, rfl⟩
  have hN80 : N ≤ 80 := by omega
  have hNl : N ≤ l.length := by omega
  replace hN := Lib.hid hN
  have eO : ∀ args w, (callFunc 7 args).run Try.prog w = .ok (.enter 7 args) w := enters_of Try.func7 (by kernel_rfl) rfl
  have eP : ∀ args w, (callFunc 6 args).run Try.prog w = .ok (.enter 6 args) w := enters_of Try.func6 (by kernel_rfl) rfl
  have q := Below.refl w.heap.size w
  go_enter Try.func3, Try.ntmps3
  go_wp2_with fail
  refine (hC.awake _).mono ?_
  rintro e w1 ⟨rfl, hb⟩
  replace q := q.trans (hb.mono q.size)
  clear hb
  go_upto_region 3 with (first | (refine wpList_allocT rfl rfl ?_; intro w2 hb2 htb) | (refine wpList_storeT rfl rfl rfl rfl rfl rfl rfl rfl htb ?_; intro w3 hg3 ht3) | fail)
  have q3 := q.trans ((hb2.grown hg3 hb2.size fun k hk => by injection hk with hk; omega).mono q.size)
  go_upto_region 4 with (first | (refine wpList_arrZero arP rfl rfl ?_) | (refine wpList_arrAlloc arP rfl rfl ?_; intro w4 hb4 ht4) | (refine wpList_arrStore arP rfl rfl rfl rfl rfl ht4 (zrs_len _) (zrs_len _) ?_; intro w5 hg5 ht5) | fail)
  have q5 := q3.trans ((hb4.grown hg5 hb4.size fun k hk => by injection hk with hk; omega).mono q3.size)
  have ht3' := ht3.below (hb4.grown hg5 hb4.size fun k hk => by injection hk with hk; omega) ht3.lt
  obtain ⟨bn, hbn⟩ : ∃ bn, bn = w1.heap.size := ⟨_, rfl⟩
  obtain ⟨bs, hbs⟩ : ∃ bs, bs = w3.heap.size := ⟨_, rfl⟩
  have hne : bn ≠ bs := by have := ht3.lt; omega
  have hzn : w.heap.size ≤ bn := by rw [hbn]; exact q.size
  have hzs : w.heap.size ≤ bs := by rw [hbs]; exact q3.size
  rw [← hbn] at ht3'
  rw [← hbs] at ht5
  have r0 : GoR w bn bs N (.int .i64 ((0 : Nat) : Int)) (.int .i64 ((0 : Nat) : Int)) w5 := ⟨0, 0, noNd, _, _, _, _, rfl, rfl, Nat.zero_le _, ht3', ht5, rdE _ _, GoI.start, q5⟩
  rw [← hbn, ← hbs]
  clear q q3 q5 htb hb2 hg3 ht3 hb4 ht4 hg5 ht5 ht3' hbn hbs
  go_wp2_with fail
  go_loopw [6, 7] (fun m v wr => GoR w bn bs N m v wr) (fun _ v _ => N - (intOf v).toNat)
  case atStart => exact r0
  case round =>
    obtain ⟨i, k, n, st, x, y, z, rfl, rfl, hil, hT, hA, hR, hG, q⟩ := hrel
    clear r0
    rcases Nat.lt_or_ge i N with hlt | hge
    · have hil2 : i < l.length := by omega
      obtain ⟨b, off, rfl, hbB, c0, c1, c2, hk9, hs9⟩ := (hl.below q).stp i hil2
      have d2 : decide ((i : Int) < 80) = true := decide_eq_true (by omega)
      go_upto_region 9 with (first | (refine wpList_alloc3 (z0 := .int .u8 0) (z1 := .int .u8 0) (z2 := .bool false) (by kernel_rfl) rfl rfl ?_; intro w6 hb6 ht6) | (refine wpList_store3 (by kernel_rfl) rfl rfl rfl rfl rfl rfl rfl rfl ht6 ?_; intro w7 hg7 ht7) | fail)
      have hb7 := hb6.grown hg7 hb6.size fun k hk => by injection hk with hk; omega
      have q7 := q.trans (hb7.mono q.size)
      have hT7 := hT.below hb7 hT.lt
      have hA7 := hA.below hb7 hA.lt
      have hR7 := hR.below hb7
      have s0 := ht7.cell0
      have s1 := ht7.cell1
      have s2 := ht7.cell2
      clear c0 c1 c2 hb6 ht6 hg7 hb7
      go_upto_region 10 with (first | (refine wpList_build byP rfl rfl (kB l[i].key) (by rw [bv_kB hk9]; simp; exact ⟨rfl, rfl⟩) rfl (by simp [kB]) ?_; intro g8 k8 w8 hF8) | fail)
      obtain rfl : k8 = 2 := hF8.2.rdS.len.1
      obtain ⟨hb8, hO8⟩ := hF8
      have q8 := q7.trans (hb8.mono q7.size)
      have hT8 := hT7.below hb8 hT7.lt
      have hA8 := hA7.below hb8 hA7.lt
      have hR8 := hR7.below hb8
      have ht8 := ht7.below hb8 ht7.lt
      have t0 := ht8.cell0
      have t1 := ht8.cell1
      have t2 := ht8.cell2
      have n0 := hT8.cell0
      have n1 := hT8.cell1
      have n2 := hT8.cell2
      clear s0 s1 s2 hT7 hA7 hR7 ht7 q7 hT hA hR q
      have hfit := hG.fit (by omega)
      have hG0 := hG
      have hkf := hG.few
      obtain ⟨K, hK⟩ : ∃ K, K = l[i].key := ⟨_, rfl⟩
      obtain ⟨Z, hZ⟩ : ∃ Z, Z = l[i].stamp := ⟨_, rfl⟩
      obtain ⟨GN, hGN⟩ : ∃ GN, GN = l[i].gone := ⟨_, rfl⟩
      rw [← hK] at t0 hk9 hO8
      rw [← hZ] at t1 hs9
      rw [← hGN] at t2
      rw [← hK, ← hZ, ← hGN] at ht8
      rw [← hK, ← hZ, ← hGN]
      clear hK hZ hGN
      have hKe := hO8.rdS
      go_upto_if 45 with (fail)
      go_cut [6] (fun m W2 => GoM w bn bs i m W2)
      case first =>
        cases GN with
        | true =>
          go_upto_region 11 with (fail)
          go_wp2_with fail
          refine (hC.delete _ hR8 hfit hKe (by simp [kB])).mono ?_
          rintro e w9 ⟨v9, n9, er, rfl, hq, hrd, hb9⟩
          obtain ⟨A1, B1, A2, B2, A3, B3, rfl, _⟩ := id hrd
          have zT := hT8.lt
          have zA := hA8.lt
          have z9 := hb9.size
          have q9 := q8.trans (hb9.mono q8.size)
          have hT9 := hT8.below hb9 hT8.lt
          have hA9 := hA8.below hb9 hA8.lt
          have ht9 := ht8.below hb9 ht8.lt
          clear t0 t1 t2 n0 n1 n2 hT8 hA8 ht8 hR8 hO8 hKe
          go_upto_region 12 with (first | (refine wpList_allocT rfl rfl ?_; intro wa hba hta) | (refine wpList_storeT rfl rfl rfl rfl rfl rfl rfl rfl hta ?_; intro wb hgb htb) | fail)
          have hbb := hba.grown hgb hba.size fun k hk => by injection hk with hk; omega
          have qb := q9.trans (hbb.mono q9.size)
          have hTb := hT9.below hbb hT9.lt
          have hAb := hA9.below hbb hA9.lt
          have htb9 := ht9.below hbb ht9.lt
          have hRb := (hrd.below hbb).weak (S' := fun b => b ≠ bn ∧ b ≠ bs) fun k hk => by have := hk.1; omega
          have t0 := htb9.cell0
          have m0 := htb.cell0
          have m1 := htb.cell1
          have m2 := htb.cell2
          have zb := htb.lt
          have hst := hG.len
          have cA := hAb.cell (k := K) (by omega)
          obtain ⟨p0, p1⟩ := hG.del hk9 hq
          clear hT9 hA9 ht9 hrd hq hba hta hgb hbb
          obtain ⟨s0, hs0⟩ : ∃ s0, s0 = st.getD K 0 := ⟨_, rfl⟩
          rw [← hs0] at cA p0 p1
          clear hs0
          rcases Nat.eq_zero_or_pos s0 with h0 | h0
          · subst h0
            obtain ⟨rfl, hG2⟩ := p0 rfl
            clear p0 p1
            go_upto_region 17 with (first | (refine wpList_arrSet (v := 0) arP rfl rfl rfl rfl rfl hAb (by omega) ?_; intro wc hgc hAc) | fail)
            have hTc := hTb.other hgc (by omega)
            have htc := htb.other hgc (by omega)
            have hRc := (hRb.fit.keep fun k hk => hgc.block k hk.2 fun e => by injection e with e; exact hk.1.2 e).weak fun k hk => hk.1
            have qc := qb.grown hgc qb.size fun k e => by injection e with e; omega
            clear m0 m1 m2 hTb htb hRb qb hAb cA t0 htb9
            have m0 := htc.cell0
            have m1 := htc.cell1
            have m2 := htc.cell2
            have zTc := hTc.lt
            go_wp2_with (first | (refine wpList_storeT rfl rfl rfl rfl rfl rfl rfl rfl hTc ?_; intro wd hgd hTd) | fail)
            go_meet
            exact ⟨_, n9, _, _, _, _, by go_num, hTd, hAc.grown hgd (by simp; omega), (hRc.fit.keep fun k hk => hgd.block k hk.2 fun e => by injection e with e; exact hk.1.1 e).weak fun k hk => hk.1, hG2, qc.grown hgd qc.size fun k e => by injection e with e; omega⟩
          · obtain ⟨rfl, h1m, hG2⟩ := p1 h0
            clear p0 p1
            go_upto_region 17 with (first | (refine wpList_arrSet (v := 0) arP rfl rfl rfl rfl rfl hAb (by omega) ?_; intro wc hgc hAc) | fail)
            have hTc := hTb.other hgc (by omega)
            have htc := htb.other hgc (by omega)
            have hRc := (hRb.fit.keep fun k hk => hgc.block k hk.2 fun e => by injection e with e; exact hk.1.2 e).weak fun k hk => hk.1
            have qc := qb.grown hgc qb.size fun k e => by injection e with e; omega
            clear m0 m1 m2 hTb htb hRb qb hAb cA t0 htb9
            have m0 := htc.cell0
            have m1 := htc.cell1
            have m2 := htc.cell2
            have zTc := hTc.lt
            go_wp2_with (first | (refine wpList_storeT rfl rfl rfl rfl rfl rfl rfl rfl hTc ?_; intro wd hgd hTd) | fail)
            go_meet
            exact ⟨_, n9, _, _, _, _, by go_num, hTd, hAc.grown hgd (by simp; omega), (hRc.fit.keep fun k hk => hgd.block k hk.2 fun e => by injection e with e; exact hk.1.1 e).weak fun k hk => hk.1, hG2, qc.grown hgd qc.size fun k e => by injection e with e; omega⟩
        | false =>
          have hP0 : ∀ mm er, PutIs n (kB K) (oneV (1 + (Z : Int))) mm er → er = 0 ∧ GoI mm (st.set K (1 + Z)) (if st.getD K 0 = 0 then k + 1 else k) (i + 1) := fun mm er h => hG.put hk9 (by omega) (by omega) (by rw [show (((1 + Z : Nat) : Nat) : Int) = 1 + (Z : Int) by omega]; exact h)
          go_upto_region 18 with (fail)
          refine wp_region_setl (K := fun _ _ => True) (by kernel_rfl) (by kernel_rfl) [6, 7, 8, 9, 10, 11, 12] (by kernel_rfl) [lEq (.agg #[x, y, z]), lEq (.slice (some ⟨g8, 0, none⟩) 2 2), lEq (.pointer (some ⟨wr.heap.size, 0 + 1, none⟩)), lEq (.int .u8 (Z : Int)), lEq (.int .i64 (Z : Int)), lEq (.int .i64 (1 + (Z : Int))), lAny, lAny, lAny, lAny, lAny, lAny, lAny, lEq (.int .i64 (0 : Nat))]
            (CbV (bv ([])).toArray 5 (NodeR (PutIs n (kB K) (oneV (1 + (Z : Int))))) zNode NodeB (KeyW ([])) (VerW (oneV (1 + (Z : Int)))) w8) (CbV.more (stays (PutIs n (kB K) (oneV (1 + (Z : Int)))) ([]) (oneV (1 + (Z : Int))))) (CbS.start _)
            ⟨?o0, ?o1, ?o2, ?o3, ?o4, ?o5, ?o6, ?o7, ?o8, ?o9, ?o10, ?o11, ?o12, ?o13, trivial⟩ ?fin
          case o0 =>
            refine StOp.free rfl (by kernel_rfl) (fun A va D w' hF hT hN hE hd hu hg => ?_)
            have e1 : A.eval (.tmp 4) = .pointer (some ⟨bn, 0, none⟩) := hF 4 rfl
            exact wp_load3 ndS rfl (e1) ((hT8.below (CbV.below hE) hT8.lt).cell0) ((hT8.below (CbV.below hE) hT8.lt).cell1) ((hT8.below (CbV.below hE) hT8.lt).cell2) ⟨_, rfl, rfl, Below.refl _ _⟩
          case o1 =>
            refine StOp.free rfl (by kernel_rfl) (fun A va D w' hF hT hN hE hd hu hg => ?_)
            have e1 : A.eval (.tmp 9) = .slice (some ⟨g8, 0, none⟩) 2 2 := hF 9 rfl
            exact BigFrame.wp_move _ rfl ⟨_, rfl, e1, Below.refl _ _⟩
          case o2 =>
            refine StOp.free rfl (by kernel_rfl) (fun A va D w' hF hT hN hE hd hu hg => ?_)
            have e1 : A.eval (.tmp 8) = .pointer (some ⟨wr.heap.size, 0, none⟩) := hF 8 rfl
            exact wp_fieldN stpS rfl (e1) (by omega) ⟨_, rfl, rfl, Below.refl _ _⟩
          case o3 =>
            refine StOp.free rfl (by kernel_rfl) (fun A va D w' hF hT hN hE hd hu hg => ?_)
            have e1 : A.eval (.tmp 71) = .pointer (some ⟨wr.heap.size, 0 + 1, none⟩) := (hT 71 2 (by simp) rfl).trans (hg ⟨2, .data⟩ (by simp) rfl rfl)
            exact wp_ld_int (k := .u8) rfl (e1) (by kernel_rfl) ((ht8.below (CbV.below hE) ht8.lt).cell1) ⟨_, rfl, rfl, Below.refl _ _⟩
          case o4 =>
            refine StOp.free rfl (by kernel_rfl) (fun A va D w' hF hT hN hE hd hu hg => ?_)
            have e1 : A.eval (.tmp 72) = .int .u8 (Z : Int) := (hT 72 3 (by simp) rfl).trans (hg ⟨3, .data⟩ (by simp) rfl rfl)
            exact wp_convU8 rfl (by kernel_rfl) (by kernel_rfl) e1 (by omega) (by omega) ⟨_, rfl, rfl, Below.refl _ _⟩
          case o5 =>
            refine StOp.free rfl (by kernel_rfl) (fun A va D w' hF hT hN hE hd hu hg => ?_)
            have e2 : A.eval (.tmp 73) = .int .i64 (Z : Int) := (hT 73 4 (by simp) rfl).trans (hg ⟨4, .data⟩ (by simp) rfl rfl)
            exact wp_addI rfl (rfl) (e2) (by omega) (by omega) ⟨_, rfl, rfl, Below.refl _ _⟩
          case o6 =>
            refine StOp.set rfl (by kernel_rfl) (fun A va D w' hF hT hN hE hd hu hg => ?_)
            have e1 : A.eval (.tmp 74) = .int .i64 (1 + (Z : Int)) := (hT 74 5 (by simp) rfl).trans (hg ⟨5, .data⟩ (by simp) rfl rfl)
            have hE2 := hE
            simp only [told, List.map_cons, List.map_nil, hN, Bool.false_eq_true, if_false] at hE2
            refine wp_callFn rfl eO (args := #[.int .i64 (1 + (Z : Int))]) (by simp only [List.map_toArray, List.map_cons, List.map_nil, e1]) ((one_any w' (s := 1 + (Z : Int)) ⟨by omega, by omega⟩).mono ?_)
            rintro e w2 ⟨a2, c2, rfl, hv2, hb2⟩
            have h5 := CbS.vers (stays (PutIs n (kB K) (oneV (1 + (Z : Int)))) ([]) (oneV (1 + (Z : Int)))) hE2 hb2 (u := .slice a2 1 c2) ⟨_, _, rfl, hv2⟩
            exact ⟨_, rfl, _, rfl, by simpa [CbV, told, don, upd] using h5, trivial⟩
          case o7 =>
            refine StOp.set rfl (by kernel_rfl) (fun A va D w' hF hT hN hE hd hu hg => ?_)
            have e1 : A.eval (.tmp 69) = .agg #[x, y, z] := (hT 69 0 (by simp) rfl).trans (hg ⟨0, .data⟩ (by simp) rfl rfl)
            have e2 : A.eval (.tmp 70) = .slice (some ⟨g8, 0, none⟩) 2 2 := (hT 70 1 (by simp) rfl).trans (hg ⟨1, .data⟩ (by simp) rfl rfl)
            have x3 : A.eval (.tmp 75) = va 6 := hT 75 6 (by simp) rfl
            have hE2 := hE
            have d6 : D 6 = true := hd ⟨6, .data⟩ (by simp) rfl
            simp only [told, List.map_cons, List.map_nil, hN, d6, Bool.false_eq_true, if_false, if_true] at hE2
            have hBE := hE2.be
            obtain ⟨va2, vc, ev, hvr⟩ := hE2.k2 _ rfl
            refine wp_callFn rfl eP (args := #[.agg #[x, y, z], .slice (some ⟨g8, 0, none⟩) 2 2, .slice va2 (oneV (1 + (Z : Int))).length vc]) (by simp only [List.map_toArray, List.map_cons, List.map_nil, e1, e2, x3.trans ev]) ((hC.put w' (hR8.below hBE) hfit (hKe.below hBE) (by simp [kB]) hvr (oneV_small _)).mono ?_)
            rintro e w2 ⟨v, n2, er, rfl, hq, hrd, hb2⟩
            have h5 := CbS.call (stays (PutIs n (kB K) (oneV (1 + (Z : Int)))) ([]) (oneV (1 + (Z : Int)))) hE2 (by simp) hb2 (v := v) (e := .int .i64 (er : Nat)) ⟨n2, er, rfl, hq, hrd⟩
            exact ⟨_, rfl, _, rfl, by simpa [CbV, told, don, upd, bv_length, d6] using h5, trivial⟩
          case o8 =>
            refine StOp.set rfl (by kernel_rfl) (fun A va D w' hF hT hN hE hd hu hg => ?_)
            have x1 : A.eval (.tmp 76) = va 7 := hT 76 7 (by simp) rfl
            have hE2 := hE
            have d7 : D 7 = true := hd ⟨7, .data⟩ (by simp) rfl
            simp only [told, List.map_cons, List.map_nil, hN, d7, Bool.false_eq_true, if_false, if_true] at hE2
            have h5 := CbS.move hE2
            exact BigFrame.wp_move _ rfl ⟨_, rfl, by rw [x1]; simpa [CbV, told, don, upd, bv_length, d7] using h5, trivial⟩
          case o9 =>
            refine StOp.set rfl (by kernel_rfl) (fun A va D w' hF hT hN hE hd hu hg => ?_)
            have x1 : A.eval (.tmp 68) = va 8 := hT 68 8 (by simp) rfl
            have hE2 := hE
            have d8 : D 8 = true := hd ⟨8, .data⟩ (by simp) rfl
            simp only [told, List.map_cons, List.map_nil, hN, d8, Bool.false_eq_true, if_false, if_true] at hE2
            obtain ⟨v, e, em⟩ := CbS.tup hE2
            rw [em] at hE2
            have h5 := CbS.ex0 hE2
            exact wp_ex rfl (x1.trans em) rfl ⟨_, rfl, by simpa [CbV, told, don, upd, d8, em] using h5, trivial⟩
          case o10 =>
            refine StOp.set rfl (by kernel_rfl) (fun A va D w' hF hT hN hE hd hu hg => ?_)
            have x1 : A.eval (.tmp 68) = va 8 := hT 68 8 (by simp) rfl
            have hE2 := hE
            have d8 : D 8 = true := hd ⟨8, .data⟩ (by simp) rfl
            simp only [told, List.map_cons, List.map_nil, hN, d8, Bool.false_eq_true, if_false, if_true] at hE2
            obtain ⟨v, e, em⟩ := CbS.tup hE2
            rw [em] at hE2
            have h5 := CbS.ex1 hE2
            exact wp_ex rfl (x1.trans em) rfl ⟨_, rfl, by simpa [CbV, told, don, upd, d8, em] using h5, trivial⟩
          case o11 =>
            refine StOp.set rfl (by kernel_rfl) (fun A va D w' hF hT hN hE hd hu hg => ?_)
            have hE2 := hE
            simp only [told, List.map_cons, List.map_nil, hN, Bool.false_eq_true, if_false] at hE2
            refine wp_allocN rfl (fun w2 hb2 hz => ⟨_, rfl, ?_, trivial⟩)
            have h5 := CbS.alloc (stays (PutIs n (kB K) (oneV (1 + (Z : Int)))) ([]) (oneV (1 + (Z : Int)))) hE2 hb2 hz
            simpa [CbV, told, don, upd, bv_length] using h5
          case o12 =>
            refine StOp.set rfl (by kernel_rfl) (fun A va D w' hF hT hN hE hd hu hg => ?_)
            have x1 : A.eval (.tmp 12) = va 11 := hT 12 11 (by simp) rfl
            have x2 : A.eval (.tmp 77) = va 9 := hT 77 9 (by simp) rfl
            have hE2 := hE
            have d11 : D 11 = true := hd ⟨11, .data⟩ (by simp) rfl
            have d9 : D 9 = true := hd ⟨9, .data⟩ (by simp) rfl
            simp only [told, List.map_cons, List.map_nil, hN, d11, d9, Bool.false_eq_true, if_false, if_true] at hE2
            obtain ⟨b, eb, hb0⟩ := CbS.box hE2
            obtain ⟨e, hm⟩ := hE2.mx _ rfl
            obtain ⟨v, e2, ec, n2, er, _, _, hrd⟩ := hE2.rr _ (hE2.mv _ hm)
            obtain ⟨A1, B1, A2, B2, A3, B3, ev, _⟩ := id hrd
            injection ec with ec
            injection ec with ec
            injection ec with ec _
            rw [← ec] at ev
            refine wp_storeT rfl (x1.trans eb) (x2.trans ev) rfl rfl rfl hb0 (fun w2 hg2 ht2 => ⟨_, rfl, ?_, trivial⟩)
            rw [eb] at hE2
            have h5 := CbS.sto (u := undef) (stays (PutIs n (kB K) (oneV (1 + (Z : Int)))) ([]) (oneV (1 + (Z : Int)))) hE2 hg2 ⟨_, _, _, ev, ht2⟩
            simpa [CbV, told, don, upd, d11, d9, eb] using h5
          case o13 =>
            refine StOp.free rfl (by kernel_rfl) (fun A va D w' hF hT hN hE hd hu hg => ?_)
            have x1 : A.eval (.tmp 78) = va 10 := hT 78 10 (by simp) rfl
            have hE2 := hE
            have d10 : D 10 = true := hd ⟨10, .data⟩ (by simp) rfl
            simp only [told, List.map_cons, List.map_nil, d10, if_true] at hE2
            have ee := CbS.err hE2 (fun n er hQ => (hP0 _ _ hQ).1)
            exact BigFrame.wp_assign _ rfl ⟨_, rfl, x1.trans ee, Below.refl _ _⟩
          case fin =>
            intro vs1 W1 hE hG
            obtain ⟨bM, ez, em, ec, hbM, hBx, hR, hbE⟩ := CbS.done (nodeR _) hE (by simp)
            obtain ⟨nM, er, ee, hQ, hM⟩ := hR
            have her : er = 0 := (hP0 _ _ hQ).1
            rw [her] at ee hQ
            clear her
            obtain ⟨x1, y1, z1, ev, hTM⟩ := hBx
            have g0 : vs1 0 = .agg #[x, y, z] := hG 0 (by decide) rfl
            have g1 : vs1 1 = .slice (some ⟨g8, 0, none⟩) 2 2 := hG 1 (by decide) rfl
            have g2 : vs1 2 = .pointer (some ⟨wr.heap.size, 0 + 1, none⟩) := hG 2 (by decide) rfl
            have g3 : vs1 3 = .int .u8 (Z : Int) := hG 3 (by decide) rfl
            have g4 : vs1 4 = .int .i64 (Z : Int) := hG 4 (by decide) rfl
            have g5 : vs1 5 = .int .i64 (1 + (Z : Int)) := hG 5 (by decide) rfl
            have g13 : vs1 13 = .int .i64 (0 : Nat) := hG 13 (by decide) rfl
            simp only [putAll, g0, g1, g2, g3, g4, g5, g13, ec, em, ev, ee, ez]
            rw [ev] at hM
            obtain ⟨A1, B1, A2, B2, A3, B3, e3, _, _, _⟩ := id hM
            injection e3 with e3
            injection e3 with e3
            injection e3 with e4 e3
            injection e3 with e5 e3
            injection e3 with e6 _
            subst e4 e5 e6
            have hG2 := (hP0 _ _ hQ).2
            have zT := hT8.lt
            have zA := hA8.lt
            replace hM := hM.weak (S' := fun b => b ≠ bn ∧ b ≠ bs) fun k hk => by have := hk.1; omega
            clear ec em ev ee ez g0 g1 g2 g3 g4 g5 g13 hQ hP0
            have qb := q8.trans (hbE.mono q8.size)
            have hTb := hT8.below hbE hT8.lt
            have hAb := hA8.below hbE hA8.lt
            have htb9 := ht8.below hbE ht8.lt
            have hst := hG0.len
            have cA := hAb.cell (k := K) (by omega)
            clear hT8 hA8 ht8 hR8 hKe hO8 hbE t0 t1 t2 n0 n1 n2
            have t0 := htb9.cell0
            have t1 := htb9.cell1
            have zb := hTM.lt
            go_simp
            obtain ⟨s0, hs0⟩ : ∃ s0, s0 = st.getD K 0 := ⟨_, rfl⟩
            rw [← hs0] at cA hG2
            clear hs0
            rcases Nat.eq_zero_or_pos s0 with h0 | h0
            · subst h0
              rw [if_pos rfl] at hG2
              go_upto_region 24 with (first | (refine wpList_arrSet (v := 1 + Z) arP rfl rfl rfl rfl rfl hAb (by omega) ?_; intro wc hgc hAc) | fail)
              have hTc := hTb.other hgc (by omega)
              have htc := hTM.other hgc (by omega)
              have hRc := (hM.fit.keep fun k hk => hgc.block k hk.2 fun e => by injection e with e; exact hk.1.2 e).weak fun k hk => hk.1
              have qc := qb.grown hgc qb.size fun k e => by injection e with e; omega
              clear hTb hTM hM qb hAb cA t0 t1 htb9
              have m0 := htc.cell0
              have m1 := htc.cell1
              have m2 := htc.cell2
              have zTc := hTc.lt
              go_wp2_with (first | (refine wpList_storeT rfl rfl rfl rfl rfl rfl rfl rfl hTc ?_; intro wd hgd hTd) | fail)
              go_meet
              exact ⟨_, nM, _, _, _, _, by go_num, hTd, hAc.grown hgd (by simp; omega), (hRc.fit.keep fun k hk => hgd.block k hk.2 fun e => by injection e with e; exact hk.1.1 e).weak fun k hk => hk.1, hG2, qc.grown hgd qc.size fun k e => by injection e with e; omega⟩
            · rw [if_neg (by omega)] at hG2
              go_upto_region 24 with (first | (refine wpList_arrSet (v := 1 + Z) arP rfl rfl rfl rfl rfl hAb (by omega) ?_; intro wc hgc hAc) | fail)
              have hTc := hTb.other hgc (by omega)
              have htc := hTM.other hgc (by omega)
              have hRc := (hM.fit.keep fun k hk => hgc.block k hk.2 fun e => by injection e with e; exact hk.1.2 e).weak fun k hk => hk.1
              have qc := qb.grown hgc qb.size fun k e => by injection e with e; omega
              clear hTb hTM hM qb hAb cA t0 t1 htb9
              have m0 := htc.cell0
              have m1 := htc.cell1
              have m2 := htc.cell2
              have zTc := hTc.lt
              go_wp2_with (first | (refine wpList_storeT rfl rfl rfl rfl rfl rfl rfl rfl hTc ?_; intro wd hgd hTd) | fail)
              go_meet
              exact ⟨_, nM, _, _, _, _, by go_num, hTd, hAc.grown hgd (by simp; omega), (hRc.fit.keep fun k hk => hgd.block k hk.2 fun e => by injection e with e; exact hk.1.1 e).weak fun k hk => hk.1, hG2, qc.grown hgd qc.size fun k e => by injection e with e; omega⟩
      case rest =>
        clear hT8 hA8 hR8 ht8 hO8 hKe t0 t1 t2 n0 n1 n2 hG hG0 hfit q8 hkf
        obtain ⟨k2, n2, st2, x2, y2, z2, rfl, hT2, hA2, hR2, hG2, q2⟩ := hcut
        have hfit2 := hG2.fit (by omega)
        obtain ⟨D, hD⟩ : ∃ D : Nat, formI n2 true = (D : Int) := ⟨(formI n2 true).toNat, by have := hG2.ok.1; omega⟩
        obtain ⟨hD1, hD2⟩ := hG2.deep hD
        have hkf2 := hG2.few
        have hD6 : D ≤ 6 := by
          rcases Nat.lt_or_ge 6 D with h | h
          · have h1 := hD2 (by omega)
            have h2 := least_le (d := 7) (e := D) (by omega)
            omega
          · exact h
        have hdep := hC.depth wc hR2 hfit2
        rw [show depN n2 = (D : Int) by rw [← hD]; exact if_pos hG2.ok] at hdep
        clear hD
        have m0 := hT2.cell0
        have m1 := hT2.cell1
        have m2 := hT2.cell2
        go_wp2_with fail
        refine hdep.mono ?_
        rintro e w3x ⟨rfl, hb3⟩
        have q3 := q2.trans (hb3.mono q2.size)
        have hT3 := hT2.below hb3 hT2.lt
        have hA3 := hA2.below hb3 hA2.lt
        have hR3 := hR2.below hb3
        clear hdep m0 m1 m2 hT2 hA2 hR2 hb3 q2
        go_upto_region 28 with (fail)
        go_loopw [15, 16] (fun lv dv wr2 => ∃ (j L : Nat), lv = .int .i64 (L : Int) ∧ dv = .int .i64 (j : Int) ∧ Hid (L = 2 ^ j - 1) ∧ 1 ≤ j ∧ j ≤ D ∧ L ≤ 100 ∧ wr2 = w3x)
          (fun _ dv _ => D - (intOf dv).toNat)
        case atStart => exact ⟨1, 1, rfl, rfl, Lib.hid rfl, Nat.le_refl _, hD1, by omega, rfl⟩
        case round =>
          obtain ⟨j, L, rfl, rfl, hL, hj1, hjD, hL1, hwe⟩ := hrel
          rcases Nat.lt_or_ge j D with hjl | hjg
          · have dd2 : decide ((j : Int) < 20) = true := decide_eq_true (by omega)
            have hL2 := Lib.hid (show 2 * L + 1 = 2 ^ (j + 1) - 1 by rw [hL.out]; exact least_step j)
            have hL3 : 2 * L + 1 ≤ 100 := by
              have h2 := least_le (d := j + 1) (e := 6) (by omega)
              have := hL2.out
              omega
            go_wp2_with fail
            go_roundw
            case rel => exact ⟨j + 1, 2 * L + 1, by go_num, by go_num, hL2, by omega, by omega, hL3, by first | rfl | trivial | exact hwe⟩
            case measure => simp [intOf]; omega
          · obtain rfl : j = D := by omega
            have hLk : 1 < j → L ≤ k2 := fun h => by rw [hL.out]; exact hD2 h
            subst hwe
            have hchk := refCheckN_any _ hR3 (show wN n2 ≤ 1000000 by have := hfit2.1; omega)
            rw [decide_eq_true hG2.ok] at hchk
            have hpn : (prN n2).length = k2 := by
              rw [show prN n2 = pairsN n2 from if_pos hG2.ok]
              exact hG2.many
            clear hL hD2
            have m0 := hT3.cell0
            have m1 := hT3.cell1
            have m2 := hT3.cell2
            have dd : ((1 < j) = True ∧ (k2 < L) = False) ∨ (1 < j) = False := by
              by_cases h : 1 < j
              · exact .inl ⟨eq_true h, eq_false (by have := hLk h; omega)⟩
              · exact .inr (eq_false h)
            clear hLk
            go_wp2_with fail
            refine hchk.mono ?_
            rintro e w4x ⟨rfl, hb4⟩
            have q4 := q3.trans (hb4.mono q3.size)
            have hT4 := hT3.below hb4 hT3.lt
            have hA4 := hA3.below hb4 hA3.lt
            have hR4 := hR3.below hb4
            have hmn := hC.many w4x hR4 hfit2
            rw [hpn] at hmn
            clear hchk m0 m1 m2 hT3 hA3 hR3 hb4 q3 hpn
            have m0 := hT4.cell0
            have m1 := hT4.cell1
            have m2 := hT4.cell2
            go_wp2_with fail
            refine hmn.mono ?_
            rintro e w5x ⟨rfl, hb5⟩
            have q5 := q4.trans (hb5.mono q4.size)
            have hT5 := hT4.below hb5 hT4.lt
            have hA5 := hA4.below hb5 hA4.lt
            have hR5 := hR4.below hb5
            clear hmn m0 m1 m2 hT4 hA4 hR4 hb5 q4
            rcases dd with ⟨d5, d6⟩ | d5
            · go_wp2_with fail
              all_goals exact ⟨⟨i + 1, k2, n2, st2, _, _, _, by go_num, rfl, by omega, hT5, hA5, hR5, hG2, q5⟩, by simp [intOf]; omega⟩
            · have d7 : ¬ 1 < j := by simpa using d5
              go_wp2_with fail
              all_goals first
                | exact ⟨⟨i + 1, k2, n2, st2, _, _, _, by go_num, rfl, by omega, hT5, hA5, hR5, hG2, q5⟩, by simp [intOf]; omega⟩
                | (exfalso; omega)
    · obtain rfl : i = N := by omega
      have hfit := hG.fit (by omega)
      have hst := hG.len
      have d3 : ((i < l.length) = True ∧ decide ((i : Int) < 80) = false) ∨ (i < l.length) = False := by
        have := hN.out
        by_cases h : i < l.length
        · exact .inl ⟨eq_true h, decide_eq_false (by omega)⟩
        · exact .inr (eq_false h)
      rcases d3 with ⟨d4, d5⟩ | d4
      · go_upto_region 34 with (fail)
        go_loopw [17] (fun v wr2 => ∃ (K : Nat), v = .int .i64 (K : Int) ∧ K ≤ 256 ∧ TriV wr2 bn 28 x y z ∧ ArrV wr2 bs 29 st ∧ RdN (fun b => b ≠ bn ∧ b ≠ bs) wr2 (.agg #[x, y, z]) n ∧ Below w.heap.size w wr2)
          (fun v _ => 256 - (intOf v).toNat)
        case atStart => exact ⟨0, rfl, by omega, hT, hA, hR, q⟩
        case round =>
          clear hT hA hR q
          obtain ⟨K, rfl, hK6, hT, hA, hR, q⟩ := hrel
          rcases Nat.lt_or_ge K 256 with hlt | hge
          · have dK : decide ((K : Int) < 256) = true := decide_eq_true (by omega)
            have hfd := hG.fp K hlt
            have m0 := hT.cell0
            have m1 := hT.cell1
            have m2 := hT.cell2
            go_upto_region 36 with (fail)
            go_wp2_with (first | (refine wpList_build byP rfl rfl (kB K) (by rw [bv_kB hlt]; simp; exact ⟨rfl, rfl⟩) rfl (by simp [kB]) ?_; intro g8 k8 w8 hF8) | fail)
            obtain rfl : k8 = 2 := hF8.2.rdS.len.1
            obtain ⟨hb8, hO8⟩ := hF8
            have q8 := q.trans (hb8.mono q.size)
            have hT8 := hT.below hb8 hT.lt
            have hA8 := hA.below hb8 hA.lt
            have hR8 := hR.below hb8
            have hpn : prN n = pairsN n := if_pos hG.ok
            have hfc := hC.find w8 hR8 hfit hO8.rdS (by simp [kB])
            rw [hpn, hfd] at hfc
            clear hpn m0 m1 m2 hT hA hR q hb8 hO8 hfd
            refine hfc.mono ?_
            rintro e w9 ⟨fa, fc, rfl, hrd, hb9⟩
            have q9 := q8.trans (hb9.mono q8.size)
            have hT9 := hT8.below hb9 hT8.lt
            have hA9 := hA8.below hb9 hA8.lt
            have hR9 := hR8.below hb9
            have cA := hA9.cell (k := K) (by omega)
            have hb256 := hG.bd K
            clear hfc hT8 hA8 hR8 hb9 q8
            obtain ⟨s0, hs0⟩ : ∃ s0, s0 = st.getD K 0 := ⟨_, rfl⟩
            rw [← hs0] at cA hrd hb256 ⊢
            clear hs0
            rcases Nat.eq_zero_or_pos s0 with h0 | h0
            · subst h0
              rw [if_pos rfl] at hrd ⊢
              go_upto_region 37 with (fail)
              refine wp_region_quiet_lit (by kernel_rfl) (by kernel_rfl) ?_
              repeat (first | go_big_quiet_step (fail))
              first | (refine wpQuiet_nil ?_; intro _ hw'; obtain ⟨nq, hw''⟩ := hw'; subst hw'') | intro nq
              go_wp2_with fail
              go_roundw
              case rel => exact ⟨K + 1, by go_num, by omega, hT9, hA9, hR9.below (Below.drewN (Below.refl _ _) _), Below.drewN q9 _⟩
              case measure => simp [intOf]; omega
            · rw [if_neg (by omega)] at hrd ⊢
              have hv := hrd.ver 0 (by simp [oneV])
              obtain ⟨vb, vo, vA, vC, rfl, hvb, c0, c1, c2, _⟩ := hv
              have c0' : w9.cell? ⟨vb, vo, none⟩ = some (.int .i64 (s0 : Int)) := by simpa [oneV] using c0
              have hol : (oneV (s0 : Int)).length = 1 := rfl
              simp only [Option.getD_some, Option.isSome_some, hol]
              clear c0 c1 c2 hvb hol
              go_upto_region 37 with (fail)
              refine wp_region_quiet_lit (by kernel_rfl) (by kernel_rfl) ?_
              repeat (first | go_big_quiet_step (fail))
              first | (refine wpQuiet_nil ?_; intro _ hw'; obtain ⟨nq, hw''⟩ := hw'; subst hw'') | intro nq
              go_wp2_with fail
              go_roundw
              case rel => exact ⟨K + 1, by go_num, by omega, hT9, hA9, hR9.below (Below.drewN (Below.refl _ _) _), Below.drewN q9 _⟩
              case measure => simp [intOf]; omega
          · obtain rfl : K = 256 := by omega
            go_wp2_with fail
            go_ret
            exact ⟨rfl, q⟩
      · go_upto_region 34 with (fail)
        go_loopw [17] (fun v wr2 => ∃ (K : Nat), v = .int .i64 (K : Int) ∧ K ≤ 256 ∧ TriV wr2 bn 28 x y z ∧ ArrV wr2 bs 29 st ∧ RdN (fun b => b ≠ bn ∧ b ≠ bs) wr2 (.agg #[x, y, z]) n ∧ Below w.heap.size w wr2)
          (fun v _ => 256 - (intOf v).toNat)
        case atStart => exact ⟨0, rfl, by omega, hT, hA, hR, q⟩
        case round =>
          clear hT hA hR q
          obtain ⟨K, rfl, hK6, hT, hA, hR, q⟩ := hrel
          rcases Nat.lt_or_ge K 256 with hlt | hge
          · have dK : decide ((K : Int) < 256) = true := decide_eq_true (by omega)
            have hfd := hG.fp K hlt
            have m0 := hT.cell0
            have m1 := hT.cell1
            have m2 := hT.cell2
            go_upto_region 36 with (fail)
            go_wp2_with (first | (refine wpList_build byP rfl rfl (kB K) (by rw [bv_kB hlt]; simp; exact ⟨rfl, rfl⟩) rfl (by simp [kB]) ?_; intro g8 k8 w8 hF8) | fail)
            obtain rfl : k8 = 2 := hF8.2.rdS.len.1
            obtain ⟨hb8, hO8⟩ := hF8
            have q8 := q.trans (hb8.mono q.size)
            have hT8 := hT.below hb8 hT.lt
            have hA8 := hA.below hb8 hA.lt
            have hR8 := hR.below hb8
            have hpn : prN n = pairsN n := if_pos hG.ok
            have hfc := hC.find w8 hR8 hfit hO8.rdS (by simp [kB])
            rw [hpn, hfd] at hfc
            clear hpn m0 m1 m2 hT hA hR q hb8 hO8 hfd
            refine hfc.mono ?_
            rintro e w9 ⟨fa, fc, rfl, hrd, hb9⟩
            have q9 := q8.trans (hb9.mono q8.size)
            have hT9 := hT8.below hb9 hT8.lt
            have hA9 := hA8.below hb9 hA8.lt
            have hR9 := hR8.below hb9
            have cA := hA9.cell (k := K) (by omega)
            have hb256 := hG.bd K
            clear hfc hT8 hA8 hR8 hb9 q8
            obtain ⟨s0, hs0⟩ : ∃ s0, s0 = st.getD K 0 := ⟨_, rfl⟩
            rw [← hs0] at cA hrd hb256 ⊢
            clear hs0
            rcases Nat.eq_zero_or_pos s0 with h0 | h0
            · subst h0
              rw [if_pos rfl] at hrd ⊢
              go_upto_region 37 with (fail)
              refine wp_region_quiet_lit (by kernel_rfl) (by kernel_rfl) ?_
              repeat (first | go_big_quiet_step (fail))
              first | (refine wpQuiet_nil ?_; intro _ hw'; obtain ⟨nq, hw''⟩ := hw'; subst hw'') | intro nq
              go_wp2_with fail
              go_roundw
              case rel => exact ⟨K + 1, by go_num, by omega, hT9, hA9, hR9.below (Below.drewN (Below.refl _ _) _), Below.drewN q9 _⟩
              case measure => simp [intOf]; omega
            · rw [if_neg (by omega)] at hrd ⊢
              have hv := hrd.ver 0 (by simp [oneV])
              obtain ⟨vb, vo, vA, vC, rfl, hvb, c0, c1, c2, _⟩ := hv
              have c0' : w9.cell? ⟨vb, vo, none⟩ = some (.int .i64 (s0 : Int)) := by simpa [oneV] using c0
              have hol : (oneV (s0 : Int)).length = 1 := rfl
              simp only [Option.getD_some, Option.isSome_some, hol]
              clear c0 c1 c2 hvb hol
              go_upto_region 37 with (fail)
              refine wp_region_quiet_lit (by kernel_rfl) (by kernel_rfl) ?_
              repeat (first | go_big_quiet_step (fail))
              first | (refine wpQuiet_nil ?_; intro _ hw'; obtain ⟨nq, hw''⟩ := hw'; subst hw'') | intro nq
              go_wp2_with fail
              go_roundw
              case rel => exact ⟨K + 1, by go_num, by omega, hT9, hA9, hR9.below (Below.drewN (Below.refl _ _) _), Below.drewN q9 _⟩
              case measure => simp [intOf]; omega
          · obtain rfl : K = 256 := by omega
            go_wp2_with fail
            go_ret
            exact ⟨rfl, q⟩
end Go.Proofs.Yticngbgjfdcnhaa
