/-
  TEXTS OF ONE PROOF, merged: LkN, SlCl, LkT, LkU, SpC, LkW, Cbs, LkX.
-/
import Derived.Lib.ConvBytes
import Derived.Test.YtpdnehgboafgpaaDoorKt7
namespace Go.Proofs.YtpdnehgboafgpaaDoor
open Go.RowKit Go.Shelf
def DrJ (W : World) (B bR : Nat) (vc : Value) (e9 : Option Addr) (cc : List Int) (us : List Value) : List Value → World → Prop
  | [], V => Below W.heap.size W V
  | [v], V => W.grownBy V vc.ownBlock ∧ ∃ c', v = .slice e9 (riseL cc).length c' ∧ OwnL Elt.int 3 B B V (.slice e9 (riseL cc).length c') (riseL cc)
  | [v, _], V => Trd (fun k => k = bR ∨ vc.ownBlock = some k) W V ∧ ∃ c', v = .slice e9 (riseL cc).length c' ∧ OwnL Elt.int 3 B B V (.slice e9 (riseL cc).length c') (riseL cc) ∧ BoxN V bR 24 us
  | v :: _ :: u :: _, V => u = v ∧ Trd (fun k => k = bR ∨ vc.ownBlock = some k) W V ∧ ∃ c', v = .slice e9 (riseL cc).length c' ∧ OwnL Elt.int 3 B B V (.slice e9 (riseL cc).length c') (riseL cc) ∧ BoxN V bR 24 us
section
variable {W : World} {B bR : Nat} {vc : Value} {e9 : Option Addr} {cc : List Int} {us : List Value}
theorem DrJ.below : ∀ (l : List Value) (V V' : World), DrJ W B bR vc e9 cc us l V → Below V.heap.size V V' → DrJ W B bR vc e9 cc us l V'
  | [], _, _, h, hb => Below.trans h (hb.mono (Below.size h))
  | [_], _, _, ⟨h, c, e, h1⟩, hb => ⟨grownT h (grownB hb _), c, e, h1.below hb⟩
  | [_, _], _, _, ⟨h, c, e, h1, h2⟩, hb => ⟨h.trans (Trd.of hb) (fun _ _ h => h), c, e, h1.below hb, h2.below hb h2.lt⟩
  | _ :: _ :: _ :: _, _, _, ⟨e0, h, c, e, h1, h2⟩, hb => ⟨e0, h.trans (Trd.of hb) (fun _ _ h => h), c, e, h1.below hb, h2.below hb h2.lt⟩
theorem DrJ.low : ∀ {l : List Value} {V : World}, DrJ W B bR vc e9 cc us l V → Trd (fun k => k = bR ∨ vc.ownBlock = some k) W V
  | [], _, h => Trd.of h
  | [_], _, h => Trd.ofGrown h.1 fun _ h => .inr h
  | [_, _], _, h => h.1
  | _ :: _ :: _ :: _, _, h => h.2.1
end
theorem tOwnsA {o : Int} (ho : W64 o) : TellsA 43 #[.agg #[.int .i64 o, .bool false, .int .i64 0, .slice none 0 0, .slice none 0 0, .bool false, .int .i64 0]] #[] (fun y => decide (y.owner = o)) := fun W _ _ _ hy =>
  owns_any W (x := ⟨o, false, ⟨0, [], [], false⟩, 0⟩) (S := fun _ => True) ⟨none, 0, none, 0, rfl, RdS.nil _ _, RdS.nil _ _, ho, by unfold W64; simp, by unfold W64; simp⟩ hy
theorem goD_len : ∀ (l H Q : List Lk) (c : List Int), (goD H Q l c).2.2.length ≤ c.length + l.length
  | [], _, _, _ => by simp [goD]
  | x :: l, H, Q, c => by
    rw [goD_cons]
    split
    · have := goD_len l H (Q ++ [x]) c
      simp only [List.length_cons]; omega
    · have := goD_len l (heldA x H) Q (c ++ [x.owner])
      simp only [List.length_cons, List.length_append, List.length_nil] at this ⊢; omega
def DropEnd (w : World) (r : List Lk × List Lk × List Int) (e : Ending) (w' : World) : Prop :=
  ∃ a c a2 c2 a3 c3, e = .returned (.tuple #[.agg #[.slice a r.1.length c, .slice a2 r.2.1.length c2], .slice a3 (riseL r.2.2).length c3]) ∧ RdLs (fun k => w.heap.size ≤ k ∧ k < w'.heap.size) w' (.agg #[.slice a r.1.length c, .slice a2 r.2.1.length c2]) r.1 r.2.1 ∧
    OwnL Elt.int 3 w.heap.size w.heap.size w' (.slice a3 (riseL r.2.2).length c3) (riseL r.2.2) ∧ Below w.heap.size w w'
theorem own_len (a : Option Addr) (n m c : Nat) : Value.ownBlock (.slice a n c) = Value.ownBlock (.slice a m c) := by cases a <;> rfl
theorem rise_nil : riseL [] = [] := by simp [riseL, Lib.compact, Lib.compactUpTo]
set_option maxRecDepth 100000 in
set_option maxHeartbeats 8000000 in
theorem lDrop_any (w : World) (hT : TabAt w) {S : Nat → Prop} {v : Value} {H Q : List Lk} {o : Int} (h : RdLs S w v H Q) (hsH : smK H) (hsQ : smK Q) (hnH : H.length ≤ 400000) (hnQ : Q.length ≤ 400000) :
    Calls Tryd.prog 29 #[v, .int .i64 o] w (DropEnd w (dropC H Q o)) := by
  have hfull := h
  obtain ⟨aH, cH, aL, cL, rfl, hH, hQ⟩ := h
  clear hH hQ
  obtain ⟨W0, hW, q, bn, bz, hsz⟩ := boxes2 w 24 24 [.slice aH H.length cH, .slice aL Q.length cL] [.slice none 0 0, .slice none 0 0]
  go_enter Tryd.func29, Tryd.ntmps29
  go_upto_region 1 with (fail)
  rw [show (w.alloc (.cells #[.slice aH H.length cH, .slice aL Q.length cL] 24)).alloc (.cells #[.slice none 0 0, .slice none 0 0] 24) = W0 from hW.symm]
  clear hW hsz
  have zW := bz.lt
  have b0 := bn.cell (i := 0) rfl
  have b1 := bn.cell (i := 1) rfl
  have hcp := lCopied_any W0 (hfull.below q) hsH hsQ
  go_upto_region 2 with (first | (go_at_call 54; refine hcp.mono ?_; rintro e W1 ⟨aC, cC, aD, cD, rfl, hK, hb1⟩) | (refine wpList_boxNew (vs := [.slice none 0 0, .slice none 0 0]) (by kernel_rfl) rfl rfl ?_; intro wa hba hBa) | (refine wpList_boxStore (us := [.slice aC H.length cC, .slice aD Q.length cD]) (by kernel_rfl) rfl rfl rfl rfl rfl rfl hBa rfl ?_; intro w2 hg2 hB2) | fail)
  go_simp
  have hb2 : Below W1.heap.size W1 w2 := hba.grown hg2 hba.size fun k hk => by injection hk with hk; omega
  have z1 := hb1.size
  have zO := hB2.lt
  have q2 := q.trans ((hb1.trans (hb2.mono hb1.size)).mono q.size)
  have hK5 : ∀ w9, Below w2.heap.size w2 w9 → ∃ D : Nat → Prop, OwnF Elt.lk 29 D w9 (.slice aC H.length cC) H ∧ OwnF Elt.lk 29 D w9 (.slice aD Q.length cD) Q ∧ (∀ k, D k → W0.heap.size ≤ k ∧ k < w9.heap.size ∧ Value.ownBlock (.slice aC H.length cC) ≠ some k ∧ Value.ownBlock (.slice aD Q.length cD) ≠ some k) ∧ (∀ k, Value.ownBlock (.slice aC H.length cC) = some k → W0.heap.size ≤ k ∧ Value.ownBlock (.slice aD Q.length cD) ≠ some k) ∧ (∀ k, Value.ownBlock (.slice aD Q.length cD) = some k → W0.heap.size ≤ k) ∧ ∀ k, D k → k ≠ W1.heap.size := by
    intro w9 hb9
    obtain ⟨D, h1, h2, h3, h4, h5⟩ := hK
    have hb := hb2.trans (hb9.mono hb2.size)
    exact ⟨D, h1.below hb fun k hk => (h3 k hk).2.1, h2.below hb fun k hk => (h3 k hk).2.1, fun k hk => ⟨(h3 k hk).1, Nat.lt_of_lt_of_le (h3 k hk).2.1 hb.size, (h3 k hk).2.2⟩, h4, h5, fun k hk => by have := (h3 k hk).2.1; omega⟩
  have hK2 : OwnKs W0.heap.size w2 aC aD cC cD H Q := hK.below hb2
  have bn2 := (bn.below hb1 bn.lt).below hb2 (by have := bn.lt; omega)
  have bz2 := (bz.below hb1 bz.lt).below hb2 (by omega)
  clear hba hBa hg2 hb2 hb1 hcp b0 b1 bn bz
  have hob : (∀ k, Value.ownBlock (.slice aC H.length cC) = some k → W0.heap.size ≤ k ∧ k < W1.heap.size) ∧ ∀ k, Value.ownBlock (.slice aD Q.length cD) = some k → W0.heap.size ≤ k ∧ k < W1.heap.size := by
    obtain ⟨D, h1, h2, h3, h4, h5⟩ := hK
    exact ⟨fun k hk => ⟨(h4 k hk).1, h1.lt hk⟩, fun k hk => ⟨h5 k hk, h2.lt hk⟩⟩
  clear hK
  by_cases ho0 : 0 ≤ o
  case neg =>
    have da : decide (o < 0) = true := decide_eq_true (by omega)
    have Hh := Lib.hid (show dropC H Q o = (H, Q, []) from if_neg fun h => ho0 h.1)
    clear ho0
    have d0 := hB2.cell (i := 0) rfl
    have d1 := hB2.cell (i := 1) rfl
    go_wp2_with (first | (refine wpList_boxStore (us := [.slice aC H.length cC, .slice aD Q.length cD]) (by kernel_rfl) rfl rfl rfl rfl rfl rfl bz2 rfl ?_; intro wd hgd hBd) | fail)
    have g0 := hBd.cell (i := 0) rfl
    have g1 := hBd.cell (i := 1) rfl
    obtain ⟨fs, hu, _⟩ := lsS.hu
    refine bodyPost_ret (v := .tuple #[.agg #[.slice aC H.length cC, .slice aD Q.length cD], .slice none 0 0]) (by simp [results, Tryd.results29, go_sem, loadVar, isAgg, run_underlying hu, run_sizeOf' lsS.hs, loadCellsFrom, Addr.add, g0, g1]) rfl ?_
    rw [Hh.out]
    have hK9 := hK2.grown hgd (by omega)
    have zd := hgd.size
    have zq2 := q2.size
    exact ⟨aC, cC, aD, cD, none, 0, by rw [rise_nil]; rfl, hK9.rd.weak (fun k hk => ⟨by omega, hk.2⟩), by rw [rise_nil]; exact OwnL.nil _ _ _ _ _, q2.grown hgd q2.size (fun k e => by injection e with e; omega)⟩
  by_cases ho4 : o < 4
  case neg =>
    have da : decide (o < 0) = false := decide_eq_false (by omega)
    have db : decide (4 ≤ o) = true := decide_eq_true (by omega)
    have Hh := Lib.hid (show dropC H Q o = (H, Q, []) from if_neg fun h => ho4 h.2.1)
    clear ho0 ho4
    have d0 := hB2.cell (i := 0) rfl
    have d1 := hB2.cell (i := 1) rfl
    go_wp2_with (first | (refine wpList_boxStore (us := [.slice aC H.length cC, .slice aD Q.length cD]) (by kernel_rfl) rfl rfl rfl rfl rfl rfl bz2 rfl ?_; intro wd hgd hBd) | fail)
    have g0 := hBd.cell (i := 0) rfl
    have g1 := hBd.cell (i := 1) rfl
    obtain ⟨fs, hu, _⟩ := lsS.hu
    refine bodyPost_ret (v := .tuple #[.agg #[.slice aC H.length cC, .slice aD Q.length cD], .slice none 0 0]) (by simp [results, Tryd.results29, go_sem, loadVar, isAgg, run_underlying hu, run_sizeOf' lsS.hs, loadCellsFrom, Addr.add, g0, g1]) rfl ?_
    rw [Hh.out]
    have hK9 := hK2.grown hgd (by omega)
    have zd := hgd.size
    have zq2 := q2.size
    exact ⟨aC, cC, aD, cD, none, 0, by rw [rise_nil]; rfl, hK9.rd.weak (fun k hk => ⟨by omega, hk.2⟩), by rw [rise_nil]; exact OwnL.nil _ _ _ _ _, q2.grown hgd q2.size (fun k e => by injection e with e; omega)⟩
  have da : decide (o < 0) = false := decide_eq_false (by omega)
  have db : decide (4 ≤ o) = false := decide_eq_false (by omega)
  have ho64 : W64 o := ⟨by omega, by omega⟩
  have hor := Lib.hid (And.intro ho0 ho4)
  clear ho0 ho4
  have hCk := lCheck_any w2 (hT.below q2) (hfull.below q2) (by omega) (by omega)
  have b0 := bn2.cell (i := 0) rfl
  have b1 := bn2.cell (i := 1) rfl
  go_wp2_with fail
  refine hCk.mono ?_
  rintro e w3 ⟨rfl, hb⟩
  have z3 := hb.size
  have q3 := q2.trans (hb.mono q2.size)
  have hK3 := hK2.below hb
  have hb23 := hb
  have bz3 := bz2.below hb bz2.lt
  have hB3 := hB2.below hb hB2.lt
  clear b0 b1 hCk hb hK2 bz2 hB2 bn2
  cases hok : decide (okLk H Q) with
  | false =>
    have Hh := Lib.hid (show dropC H Q o = (H, Q, []) from if_neg fun h => of_decide_eq_false hok h.2.2)
    clear hok
    have d0 := hB3.cell (i := 0) rfl
    have d1 := hB3.cell (i := 1) rfl
    go_wp2_with (first | (refine wpList_boxStore (us := [.slice aC H.length cC, .slice aD Q.length cD]) (by kernel_rfl) rfl rfl rfl rfl rfl rfl bz3 rfl ?_; intro wd hgd hBd) | fail)
    have g0 := hBd.cell (i := 0) rfl
    have g1 := hBd.cell (i := 1) rfl
    obtain ⟨fs, hu, _⟩ := lsS.hu
    refine bodyPost_ret (v := .tuple #[.agg #[.slice aC H.length cC, .slice aD Q.length cD], .slice none 0 0]) (by simp [results, Tryd.results29, go_sem, loadVar, isAgg, run_underlying hu, run_sizeOf' lsS.hs, loadCellsFrom, Addr.add, g0, g1]) rfl ?_
    rw [Hh.out]
    have hK9 := hK3.grown hgd (by omega)
    have zd := hgd.size
    have zq3 := q3.size
    exact ⟨aC, cC, aD, cD, none, 0, by rw [rise_nil]; rfl, hK9.rd.weak (fun k hk => ⟨by omega, hk.2⟩), by rw [rise_nil]; exact OwnL.nil _ _ _ _ _, q3.grown hgd q3.size (fun k e => by injection e with e; omega)⟩
  | true =>
  have Hh := Lib.hid (show dropC H Q o = goD (lessL o H) [] (lessL o Q) [] from if_pos ⟨hor.out.1, hor.out.2, of_decide_eq_true hok⟩)
  clear hok hor
  go_upto_region 5 with (first | (refine wpList_boxNew (vs := [.int .i64 0, .bool false, .int .i64 0, .slice none 0 0, .slice none 0 0, .bool false, .int .i64 0]) (by kernel_rfl) rfl rfl ?_; intro wa hba hBa) | (refine wpList_boxStore (us := [.int .i64 o, .bool false, .int .i64 0, .slice none 0 0, .slice none 0 0, .bool false, .int .i64 0]) (by kernel_rfl) rfl rfl rfl rfl rfl rfl hBa rfl ?_; intro w4 hg4 hI4) | fail)
  go_simp
  have hb4 : Below w3.heap.size w3 w4 := hba.grown hg4 hba.size fun k hk => by injection hk with hk; omega
  have z4 := hb4.size
  have zI := hI4.lt
  have q4 := q3.trans (hb4.mono q3.size)
  replace hK5 := hK5 w4 (hb23.trans (hb4.mono hb23.size))
  have bz4 := bz3.below hb4 bz3.lt
  have hB4 := hB3.below hb4 hB3.lt
  clear hba hBa hg4 hb4 hK3 bz3 hB3
  obtain ⟨D, hF1, hF2, hD, hoH, hoQ, hDw⟩ := hK5
  have c0 := hB4.cell (i := 0) rfl
  have i0 := hI4.cell (i := 0) rfl
  have i1 := hI4.cell (i := 1) rfl
  have i2 := hI4.cell (i := 2) rfl
  have i3 := hI4.cell (i := 3) rfl
  have i4 := hI4.cell (i := 4) rfl
  have i5 := hI4.cell (i := 5) rfl
  have i6 := hI4.cell (i := 6) rfl
  have hdl := lDelete_any w4 hF1 (fun k hk => ⟨(hD k hk).2.1, (hD k hk).2.2.1⟩) (by omega) _ _ #[] eOwns _ (tOwnsA ho64)
  go_wp2_with fail
  refine hdl.mono ?_
  rintro e w5 ⟨k5, rfl, hF5, hg5⟩
  obtain rfl : k5 = (notK (fun y => decide (y.owner = o)) H).length := hF5.len
  have z5 := hg5.size
  have hobH := hob.1
  have hobQ := hob.2
  have hDk5 : ∀ k, D k → w5.heap[k]? = w4.heap[k]? := fun k hk => hg5.block k (hD k hk).2.1 fun e => (hD k hk).2.2.1 e.symm
  have hB5 := hB4.other hg5 (fun e => by have := hobH _ e; omega)
  have bz5 := bz4.other hg5 (fun e => by have := hobH _ e; omega)
  have hI5 := hI4.other hg5 (fun e => by have := hobH _ e; omega)
  have q5 := q4.grown hg5 q4.size (fun k e => by have := hobH k e; omega)
  have hF25 := hF2.kept (w' := w5) (fun g hg => hg5.block g (hF2.lt hg) fun e => (hoH g e.symm).2 hg) hDk5
  clear c0 i0 i1 i2 i3 i4 i5 i6 hdl hB4 bz4 hI4
  obtain ⟨L, eL⟩ : ∃ L, L = notK (fun y => decide (y.owner = o)) H := ⟨_, rfl⟩
  have hLl : L.length ≤ H.length := by rw [eL]; exact List.length_filter_le _ _
  replace Hh := Lib.hid (show dropC H Q o = goD L [] (lessL o Q) [] by rw [Hh.out, eL]; rfl)
  rw [← eL] at hF5 ⊢
  clear eL
  have eoL := own_len aC L.length H.length cC
  go_upto_region 6 with (first | (refine wpList_boxSet (j := 0) rfl rfl rfl (by kernel_rfl) rfl rfl rfl rfl hB5 (by simp) ?_; intro w6 hg6 hB6) | fail)
  go_simp
  have z6 := hg6.size
  have hk6 : ∀ k, k < w5.heap.size → k ≠ W1.heap.size → w6.heap[k]? = w5.heap[k]? := fun k h1 h2 => hg6.block k h1 fun e => by injection e with e; exact h2 e
  have hDo : ∀ k, D k → k ≠ W1.heap.size := hDw
  have hDk6 : ∀ k, D k → w6.heap[k]? = w5.heap[k]? := fun k hk => hk6 k (by have := (hD k hk).2.1; omega) (hDo k hk)
  have hF6 := hF5.kept (w' := w6) (fun g hg => hk6 g (hF5.lt hg) (by have := hobH g (eoL ▸ hg); omega)) hDk6
  have hF26 := hF25.kept (w' := w6) (fun g hg => hk6 g (hF25.lt hg) (by have := hobQ g hg; omega)) hDk6
  have bz6 := bz5.other hg6 (fun e => by injection e with e; omega)
  have hI6 := hI5.other hg6 (fun e => by injection e with e; omega)
  have q6 := q5.grown hg6 q5.size (fun k e => by injection e with e; omega)
  replace hB6 : BoxN w6 W1.heap.size 24 [.slice aC L.length cC, .slice aD Q.length cD] := hB6
  clear hF5 hF25 bz5 hI5 hB5 hk6 hDk6
  have c1 := hB6.cell (i := 1) rfl
  have i0 := hI6.cell (i := 0) rfl
  have i1 := hI6.cell (i := 1) rfl
  have i2 := hI6.cell (i := 2) rfl
  have i3 := hI6.cell (i := 3) rfl
  have i4 := hI6.cell (i := 4) rfl
  have i5 := hI6.cell (i := 5) rfl
  have i6 := hI6.cell (i := 6) rfl
  have hdl := lDelete_any w6 hF26 (fun k hk => ⟨by have := (hD k hk).2.1; omega, (hD k hk).2.2.2⟩) (by omega) _ _ #[] eOwns _ (tOwnsA ho64)
  go_wp2_with fail
  refine hdl.mono ?_
  rintro e w7 ⟨k7, rfl, hF7, hg7⟩
  obtain rfl : k7 = (notK (fun y => decide (y.owner = o)) Q).length := hF7.len
  have z7 := hg7.size
  have hDk7 : ∀ k, D k → w7.heap[k]? = w6.heap[k]? := fun k hk => hg7.block k (by have := (hD k hk).2.1; omega) fun e => (hD k hk).2.2.2 e.symm
  have hB7 := hB6.other hg7 (fun e => by have := hobQ _ e; omega)
  have bz7 := bz6.other hg7 (fun e => by have := hobQ _ e; omega)
  have q7 := q6.grown hg7 q6.size (fun k e => by have := hobQ k e; omega)
  have hF17 := hF6.kept (w' := w7) (fun g hg => hg7.block g (hF6.lt hg) fun e => (hoH g (eoL ▸ hg)).2 e.symm) hDk7
  clear c1 i0 i1 i2 i3 i4 i5 i6 hdl hB6 bz6 hI6 hF6 hF26 hDk7
  obtain ⟨M, eM⟩ : ∃ M, M = notK (fun y => decide (y.owner = o)) Q := ⟨_, rfl⟩
  have hMl : M.length ≤ Q.length := by rw [eM]; exact List.length_filter_le _ _
  replace Hh := Lib.hid (show dropC H Q o = goD L [] M [] by rw [Hh.out, eM]; rfl)
  rw [← eM] at hF7 ⊢
  clear eM
  have eoM := own_len aD M.length Q.length cD
  go_upto_region 7 with (first | (refine wpList_boxSet (j := 1) rfl rfl rfl (by kernel_rfl) rfl rfl rfl rfl hB7 (by simp) ?_; intro w8 hg8 hB8) | fail)
  go_simp
  have z8 := hg8.size
  have hk8 : ∀ k, k < w7.heap.size → k ≠ W1.heap.size → w8.heap[k]? = w7.heap[k]? := fun k h1 h2 => hg8.block k h1 fun e => by injection e with e; exact h2 e
  have hDk8 : ∀ k, D k → w8.heap[k]? = w7.heap[k]? := fun k hk => hk8 k (by have := (hD k hk).2.1; omega) (hDo k hk)
  have hF18 := hF17.kept (w' := w8) (fun g hg => hk8 g (hF17.lt hg) (by have := hobH g (eoL ▸ hg); omega)) hDk8
  have hF28 := hF7.kept (w' := w8) (fun g hg => hk8 g (hF7.lt hg) (by have := hobQ g (eoM ▸ hg); omega)) hDk8
  have bz8 := bz7.other hg8 (fun e => by injection e with e; omega)
  have q8 := q7.grown hg8 q7.size (fun k e => by injection e with e; omega)
  replace hB8 : BoxN w8 W1.heap.size 24 [.slice aC L.length cC, .slice aD M.length cD] := hB8
  clear hF17 hF7 bz7 hB7 hk8 hDk8
  go_upto_region 8 with (first | (refine wpList_boxNew1 (u := .slice none 0 0) (by kernel_rfl) rfl rfl rfl ?_; intro w9 hb9 hC9) | fail)
  go_simp
  have z9 := hb9.size
  have zC := hC9.lt
  have hD9 : ∀ k, D k → k < w8.heap.size := fun k hk => by have := (hD k hk).2.1; omega
  have hF19 := hF18.below hb9 hD9
  have hF29 := hF28.below hb9 hD9
  have bz9 := bz8.below hb9 bz8.lt
  have hB9 := hB8.below hb9 hB8.lt
  have q9 := q8.trans (hb9.mono q8.size)
  clear hF18 hF28 bz8 hB8 hb9
  have h0C : 0 < w.heap.size := by have := cell_lt (hT 1 1 rfl rfl); omega
  have z00 := q.size
  have htk := take_any w9 (hT.below q9) hF19 hF29 hC9 (by omega) (fun k hk => ⟨by have := hD9 k hk; omega, fun e => (hD k hk).2.2.1 (eoL ▸ e), fun e => (hD k hk).2.2.2 (eoM ▸ e), by have := hD9 k hk; omega⟩) (fun k hk => ⟨fun e => (hoH k (eoL ▸ hk)).2 (eoM ▸ e), by have := hobH k (eoL ▸ hk); omega, by have := hobH k (eoL ▸ hk); omega⟩) (fun e => by have := hobQ _ (eoM ▸ e); omega) (by omega)
  have c0 := hB9.cell (i := 0) rfl
  have c1 := hB9.cell (i := 1) rfl
  go_wp2_with fail
  refine htk.mono ?_
  rintro e wt ⟨a9, c9, b9, d9, e9, f9, rfl, hH9, hQ9, hCt, hNt, hoH9, hoQ9, hoN9, ht⟩
  have hnl : (goD L [] M []).2.2.length ≤ 1000000 := by have := goD_len M L [] []; simp only [List.length_nil] at this; omega
  obtain ⟨r, er⟩ : ∃ r, r = goD L [] M [] := ⟨_, rfl⟩
  replace Hh := Lib.hid (show dropC H Q o = r by rw [Hh.out, er])
  rw [← er] at hH9 hQ9 hCt hNt hoH9 hoQ9 hoN9 hnl ⊢
  clear er c0 c1 htk hF19 hF29 hC9
  have zt := ht.size
  have hfp9 : ∀ k, (k = w8.heap.size ∨ Value.ownBlock (.slice aC L.length cC) = some k) → W0.heap.size ≤ k ∧ k ≠ W1.heap.size ∧ k < w9.heap.size := fun k hk => hk.elim (fun e => by omega) fun e => by have := hobH k (eoL ▸ e); omega
  have hBt := hB9.trd ht (fun h => (hfp9 _ h).2.1 rfl)
  have bzt := bz9.trd ht (fun h => by have := (hfp9 _ h).1; omega)
  have qt : Below w.heap.size w wt := q9.trans (ht.below q9.size fun k hk h => by have := (hfp9 k h).1; omega)
  have hHg : ∀ g, Value.ownBlock (.slice a9 r.1.length c9) = some g → g ≠ W1.heap.size ∧ W0.heap.size ≤ g := fun g hg => ((hoH9 g hg).1.elim (fun h => ⟨(hfp9 g h).2.1, (hfp9 g h).1⟩) fun h => ⟨by omega, by omega⟩)
  have hQg : ∀ g, Value.ownBlock (.slice b9 r.2.1.length d9) = some g → g ≠ W1.heap.size ∧ W0.heap.size ≤ g := fun g hg => by have := (hoQ9 g hg).1; omega
  clear hB9 bz9
  go_upto_region 9 with (first | (refine wpList_boxStore (us := [.slice a9 r.1.length c9, .slice b9 r.2.1.length d9]) (by kernel_rfl) rfl rfl rfl rfl rfl rfl hBt rfl ?_; intro wu hgu hO9) | fail)
  go_simp
  have zu := hgu.size
  have hku : ∀ k, k < wt.heap.size → k ≠ W1.heap.size → wu.heap[k]? = wt.heap[k]? := fun k h1 h2 => hgu.block k h1 fun e => by injection e with e; exact h2 e
  have hDu : ∀ k, D k → wu.heap[k]? = wt.heap[k]? := fun k hk => hku k (by have := hD9 k hk; omega) (hDo k hk)
  have hHu := hH9.kept (w' := wu) (fun g hg => hku g (hH9.lt hg) (hHg g hg).1) hDu
  have hQu := hQ9.kept (w' := wu) (fun g hg => hku g (hQ9.lt hg) (hQg g hg).1) hDu
  have hC9 := hCt.other hgu (fun e => by injection e with e; omega)
  have hR9 := bzt.other hgu (fun e => by injection e with e; omega)
  have hNl := fun k hk => hNt.block_lt k hk
  have hN9 := hNt.numK (w' := wu) (fun g hg => hku g (hNl g hg).2 (by have := (hNl g hg).1; omega))
  have qu := qt.grown hgu qt.size (fun k e => by injection e with e; omega)
  have hneOR : W1.heap.size = w.heap.size + 1 → False := fun h => by omega
  have hneO : Value.ownBlock (.slice e9 r.2.2.length f9) = some W1.heap.size → False := fun h => by have := (hNl _ h).1; omega
  have hneCR : w8.heap.size = w.heap.size + 1 → False := fun h => by omega
  have hneC : Value.ownBlock (.slice e9 r.2.2.length f9) = some w8.heap.size → False := fun h => by have := (hNl _ h).1; omega
  have hneR : Value.ownBlock (.slice e9 r.2.2.length f9) ≠ some (w.heap.size + 1) := fun h => by have := (hNl _ h).1; omega
  have eR : ∀ args w, (callFunc 57 args).run Tryd.prog w = .ok (.enter 57 args) w := enters_of Tryd.func57 (by kernel_rfl) rfl
  clear hH9 hQ9 hCt hNt hBt bzt hgu hku hDu ht hfp9
  refine wp_region_lnl (K := fun A B => Trd (fun k => k = w.heap.size + 1 ∨ Value.ownBlock (.slice e9 r.2.2.length f9) = some k) A B) (by kernel_rfl) (by kernel_rfl) [2, 3, 4] (by kernel_rfl) [lEq (.agg #[.slice a9 r.1.length c9, .slice b9 r.2.1.length d9]), lEq (.slice e9 r.2.2.length f9), lAny, lAny, lAny] (DrJ wu w9.heap.size (w.heap.size + 1) (.slice e9 r.2.2.length f9) e9 r.2.2 [.slice a9 r.1.length c9, .slice b9 r.2.1.length d9]) DrJ.below (show Below wu.heap.size wu wu from Below.refl _ _)
    ⟨?o0, ?o1, ?o2, ?o3, ?o4, trivial⟩ ?fin
  case o0 =>
    refine LnOp.side rfl (by kernel_rfl) (fun A va w' k hF hT hk hJ hb hu hp hd => ?_)
    have e1 : A.eval (.tmp 6) = .pointer (some ⟨W1.heap.size, 0, none⟩) := hF 6 rfl
    have hX2 := hO9.trd (DrJ.low hJ) (fun h => h.elim hneOR hneO)
    exact wp_load2 lsS rfl e1 (hX2.cell (i := 0) rfl) (hX2.cell (i := 1) rfl) ⟨_, rfl, rfl, Below.refl _ _⟩
  case o1 =>
    refine LnOp.side rfl (by kernel_rfl) (fun A va w' k hF hT hk hJ hb hu hp hd => ?_)
    have e1 : A.eval (.tmp 8) = .pointer (some ⟨w8.heap.size, 0, none⟩) := hF 8 rfl
    have hX2 := hC9.trd (DrJ.low hJ) (fun h => h.elim hneCR hneC)
    exact wp_ld_slice (e := 3) rfl e1 (by kernel_rfl) (hX2.cell (i := 0) rfl) ⟨_, rfl, rfl, Below.refl _ _⟩
  case o2 =>
    refine LnOp.line 0 rfl rfl (fun A va w' hF hT hJ hu hd => ?_)
    have e1 : A.eval (.tmp 42) = .slice e9 r.2.2.length f9 := (hT 42 1 (by simp) rfl).trans (hd ⟨1, .data⟩ (by simp) rfl rfl)
    have hJ0 : Below wu.heap.size wu w' := hJ
    refine wp_callFn rfl eR (by simp only [List.map_toArray, List.map_cons, List.map_nil, e1]) ((rising_any w' (hN9.below hJ0) hnl).mono ?_)
    rintro e w2 ⟨c', rfl, hO2, hg2⟩
    exact ⟨_, rfl, _, rfl, ⟨grownT (grownB hJ0 _) hg2, c', rfl, hO2⟩, Trd.ofGrown hg2 (fun k h => .inr h)⟩
  case o3 =>
    refine LnOp.line 1 rfl rfl (fun A va w' hF hT hJ hu hd => ?_)
    have e1 : A.eval (.tmp 4) = .pointer (some ⟨w.heap.size + 1, 0, none⟩) := hF 4 rfl
    have e2 : A.eval (.tmp 41) = .agg #[.slice a9 r.1.length c9, .slice b9 r.2.1.length d9] := (hT 41 0 (by simp) rfl).trans (hd ⟨0, .data⟩ (by simp) rfl rfl)
    obtain ⟨hJ0, c', ev, hO2⟩ := hJ
    refine wp_boxStore (vs := [.slice none 0 0, .slice none 0 0]) (us := [.slice a9 r.1.length c9, .slice b9 r.2.1.length d9]) (by kernel_rfl) rfl e1 e2 rfl (hR9.other hJ0 hneR) rfl (fun w2 hg hz => ⟨_, rfl, ⟨(Trd.ofGrown hJ0 (F := (fun k => k = w.heap.size + 1 ∨ Value.ownBlock (.slice e9 r.2.2.length f9) = some k)) (fun k h => .inr h)).trans (Trd.ofGrown hg (F := (fun k => k = w.heap.size + 1 ∨ Value.ownBlock (.slice e9 r.2.2.length f9) = some k)) (fun k h => by injection h with h; exact .inl h.symm)) (fun _ _ h => h), c', ev, hO2.numK (fun g hg2 => hg.block g (hO2.block_lt g hg2).2 (fun h => by injection h with h; have := (hO2.block_lt g hg2).1; omega)), hz⟩, Trd.ofGrown hg (fun k h => by injection h with h; exact .inl h.symm)⟩)
  case o4 =>
    refine LnOp.line 2 rfl rfl (fun A va w' hF hT hJ hu hd => ?_)
    have x1 : A.eval (.tmp 43) = va 2 := hT 43 2 (by simp) rfl
    exact BigFrame.wp_assign _ rfl ⟨_, rfl, ⟨x1, hJ⟩, Trd.refl _ _⟩
  case fin =>
    intro vs1 V9 hJ hG
    obtain ⟨e4, ht9, c', e2, hO2, hR2⟩ := hJ
    have g0 : vs1 0 = .agg #[.slice a9 r.1.length c9, .slice b9 r.2.1.length d9] := hG 0 (by decide) rfl
    have g1 : vs1 1 = .slice e9 r.2.2.length f9 := hG 1 (by decide) rfl
    clear hG
    simp only [putAll, e4, e2, g0, g1]
    clear e4 e2 g0 g1
    go_simp
    have z9' := ht9.size
    have r0 := hR2.cell (i := 0) rfl
    have r1 := hR2.cell (i := 1) rfl
    have hDf : ∀ k, D k → k < wu.heap.size ∧ ¬ (k = w.heap.size + 1 ∨ Value.ownBlock (.slice e9 r.2.2.length f9) = some k) := fun k hk => ⟨by have := hD9 k hk; omega, fun h => h.elim (fun e => by have := (hD k hk).1; omega) fun e => by have := (hNl k e).1; have := hD9 k hk; omega⟩
    have hH3 := hHu.trd ht9 (fun g hg h => h.elim (fun e => by have := (hHg g hg).2; omega) fun e => (hoN9 g e).1 hg) hDf
    have hQ3 := hQu.trd ht9 (fun g hg h => h.elim (fun e => by have := (hQg g hg).2; omega) fun e => (hoN9 g e).2 hg) hDf
    go_wp2_with fail
    obtain ⟨fs, hu, _⟩ := lsS.hu
    refine bodyPost_ret (v := .tuple #[.agg #[.slice a9 r.1.length c9, .slice b9 r.2.1.length d9], .slice e9 (riseL r.2.2).length c']) (by simp [results, Tryd.results29, go_sem, loadVar, isAgg, run_underlying hu, run_sizeOf' lsS.hs, loadCellsFrom, Addr.add, r0, r1]) rfl ?_
    rw [Hh.out]
    have z00 := q.size
    exact ⟨a9, c9, b9, d9, e9, c', rfl, ⟨a9, c9, b9, d9, rfl, hH3.rdL.weak (fun k hk => hk.elim (fun h => ⟨by have := (hD k h).1; omega, by have := hD9 k h; omega⟩) fun h => ⟨by have := (hHg k h).2; omega, hH3.lt h⟩), hQ3.rdL.weak (fun k hk => hk.elim (fun h => ⟨by have := (hD k h).1; omega, by have := hD9 k h; omega⟩) fun h => ⟨by have := (hQg k h).2; omega, hQ3.lt h⟩)⟩, hO2.to (by omega) (by omega), qu.trans (ht9.below qu.size fun k hk h => h.elim (fun e => by omega) fun e => by have := (hNl k e).1; omega)⟩
end Go.Proofs.YtpdnehgboafgpaaDoor
namespace Go.Proofs.YtpdnehgboafgpaaDoor
open Go.RowKit
def SrcC (sz : Nat) (w : World) (ad : Option Addr) (m : Nat) (cs : List Value) : Prop :=
  cs.length = m * sz ∧ (ad = none → m = 0) ∧ (∀ p, ad = some p → ∀ j u, cs[j]? = some u → w.cell? (p.add j) = some u) ∧ ∀ u ∈ cs, u.oneCell' = true
section
variable {Te : TypeId} {sz n m : Nat} {w w' : World} {ad : Option Addr} {cs vs : List Value} {v : Value}
theorem SrcC.below (h : SrcC sz w ad m cs) (hb : Below w.heap.size w w') : SrcC sz w' ad m cs :=
  ⟨h.1, h.2.1, fun p hp j u hj => by
    have h1 := h.2.2.1 p hp j u hj
    have h2 : (p.add j).block < w.heap.size := World.block_lt_of_cell? w _ h1
    exact (World.cell?_of_block (w := w) (hb.block _ h2)).trans h1, h.2.2.2⟩
end
def RowNew (Te : TypeId) (sz : Nat) (w : World) (v : Value) (n : Nat) (vs : List Value) (W : World) : Prop := RowQ Te sz W v n vs ∧ (∀ k, v.ownBlock = some k → w.heap.size ≤ k) ∧ Below w.heap.size w W
def RetNew (Te : TypeId) (sz : Nat) (w : World) (n : Nat) (vs : List Value) (e : Ending) (W : World) : Prop := ∃ v, e = .returned v ∧ RowNew Te sz w v n vs W
section
variable {Te : TypeId} {sz n n' : Nat} {w W W' : World} {v v' : Value} {vs vs' : List Value}
theorem RowNew.nil (Te : TypeId) (sz : Nat) {w W : World} (hb : Below w.heap.size w W) : RowNew Te sz w (.slice none 0 0) 0 [] W := ⟨RowQ.nil _ _ _, (fun k h => by cases h), hb⟩
theorem RowNew.to (h : RowNew Te sz w v n vs W) (h2 : RowTo Te sz W v n' vs' v' W') : RowNew Te sz w v' n' vs' W' :=
  ⟨h2.1, fun k hk => by
    rcases h2.2.2 with h3 | ⟨q, h3, h4⟩
    · exact h.2.1 k (h3 ▸ hk)
    · rw [h3] at hk; injection hk with hk; subst hk; exact Nat.le_trans h.2.2.size h4, h.2.2.grown h2.2.1 h.2.2.size h.2.1⟩
end
section
variable {P : Program} {T Te : TypeId} {n : Nat} {ops : Array Oper} {rest : List Oper} {o : Oper} {a : Act} {Q : Exit → Act → World → Prop} {w : World} {K : Act → World → Prop}
theorem run_appS (hP : LoP P T Te n) (h0 : 0 < n) (w : World) (ty : TypeId) {v : Value} {k : Nat} {vs : List Value} (hv : RowQ Te n w v k vs) {ad : Option Addr} {m c : Nat} {cs : List Value} (hs : SrcC n w ad m cs) (hlen : k + m ≤ 1073741824) :
    ∃ v' w', (Builtin.append_ #[T, T] ty #[v, .slice ad m c]).run P w = .ok v' w' ∧ RowTo Te n w v (k + m) (vs ++ cs) v' w' := by
  cases ad with
  | some p => exact run_appQ hP h0 w ty hv hs.1 (hs.2.2.1 p rfl) hs.2.2.2 hlen
  | none =>
    obtain rfl := hs.2.1 rfl
    obtain rfl : cs = [] := List.eq_nil_of_length_eq_zero (by rw [hs.1, Nat.zero_mul])
    obtain ⟨i, z, hi, _⟩ := hP.all
    obtain ⟨a, c', rfl, h1, _⟩ := hv.shape
    refine ⟨_, w, run_append_nothing w T T ty Te i hP.hT hi a k c' h1 _ (Src.ofNil w hP.hT c), ?_⟩
    rw [List.append_nil, Nat.add_zero]
    exact ⟨hv, ⟨rfl, rfl, rfl, Nat.le_refl _, fun _ _ _ => rfl⟩, .inl rfl⟩
theorem wp_appS (hP : LoP P T Te n) (h0 : 0 < n) {s x : Operand} (ho : o.op = .call { callee := .builtin .append, args := #[s, x], argTypes := #[T, T] }) {v : Value} {k : Nat} {vs : List Value} (hs : a.eval s = v) (hv : RowQ Te n w v k vs) {ad : Option Addr} {m c : Nat} {cs : List Value} (hx : a.eval x = .slice ad m c)
    (hsr : SrcC n w ad m cs) (hlen : k + m ≤ 1073741824)
    (h : ∀ ad cap w', RowTo Te n w v (k + m) (vs ++ cs) (.slice ad (k + m) cap) w' → K (a.put o.dst (.slice ad (k + m) cap)) w') : o.wp P a w K Q := by
  obtain ⟨v', w', hrun, h2⟩ := run_appS hP h0 w o.type hv hsr hlen (c := c)
  obtain ⟨ad, cap, rfl, _⟩ := h2.1.shape
  unfold Oper.wp execOp
  simp only [ho, resolve, invoke, builtin, Sem.run_bind, Sem.run_pure, Result.andThen_ok, List.map_toArray, List.map_cons, List.map_nil, hs, hx, hrun]
  exact h _ _ _ h2
theorem wpList_appS (hP : LoP P T Te n) (h0 : 0 < n) {s x : Operand} (ho : o.op = .call { callee := .builtin .append, args := #[s, x], argTypes := #[T, T] }) (hgd : Region.wanted o (yielded ops a.tmps) = true) {v : Value} {k : Nat} {vs : List Value} (hs : a.eval s = v) (hv : RowQ Te n w v k vs) {ad : Option Addr} {m c : Nat} {cs : List Value} (hx : a.eval x = .slice ad m c)
    (hsr : SrcC n w ad m cs) (hlen : k + m ≤ 1073741824)
    (h : ∀ ad cap w', RowTo Te n w v (k + m) (vs ++ cs) (.slice ad (k + m) cap) w' → wpList P ops Q rest (a.put o.dst (.slice ad (k + m) cap)) w') : wpList P ops Q (o :: rest) a w :=
  BigFrame.wpList_want hgd fun _ hK => wp_appS hP h0 ho hs hv hx hsr hlen fun ad cap w' h2 => hK _ _ (h ad cap w' h2)
theorem wpList_sliceNil (hP : LsP P T Te n) {x : Operand} {hi : Option Operand} (ho : o.op = .slice T x none hi none) (hgd : Region.wanted o (yielded ops a.tmps) = true) (hx : a.eval x = .slice none 0 0)
    (hb : (Instr.sliceBounds true 0 0 none (hi.map a.eval) none).run P w = .ok (0, 0, 0) w)
    (h : wpList P ops Q rest (a.put o.dst (.slice none 0 0)) w) : wpList P ops Q (o :: rest) a w :=
  wpList_sliceRaw hP ho hgd hx hb (by simpa using h)
end
structure Pc where
  ad : Option Addr
  m : Nat
  c : Nat
  cs : List Value
def Pc.v (p : Pc) : Value := .slice p.ad p.m p.c
def sumC (ps : List Pc) : Nat := (ps.map (·.m)).sum
def allC (ps : List Pc) : List Value := (ps.map (·.cs)).flatten
theorem sumC_take {ps : List Pc} {k : Nat} (h : k < ps.length) : sumC (ps.take (k + 1)) = sumC (ps.take k) + ps[k].m := by
  unfold sumC
  rw [List.take_add_one, List.getElem?_eq_getElem h, Option.toList_some, List.map_append, List.sum_append]
  simp only [List.map_cons, List.map_nil, List.sum_cons, List.sum_nil, Nat.add_zero]
theorem allC_take {ps : List Pc} {k : Nat} (h : k < ps.length) : allC (ps.take (k + 1)) = allC (ps.take k) ++ ps[k].cs := by
  unfold allC
  rw [List.take_add_one, List.getElem?_eq_getElem h, Option.toList_some, List.map_append, List.flatten_append]
  simp only [List.map_cons, List.map_nil, List.flatten_cons, List.flatten_nil, List.append_nil]
theorem sumC_le {ps : List Pc} : ∀ (k : Nat), sumC (ps.take k) ≤ sumC ps := fun k => by
  have : sumC ps = sumC (ps.take k) + sumC (ps.drop k) := by
    unfold sumC
    rw [← List.sum_append, ← List.map_append, List.take_append_drop]
  omega
set_option maxRecDepth 100000 in
set_option maxHeartbeats 2000000 in
theorem grow_l (w : World) {n : Nat} (hn : n ≤ 1000000) :
    Calls Tryd.prog 83 #[.slice none 0 0, .int .i64 n] w (RetNew 29 7 w 0 []) := by
  have d : decide ((n : Int) < 0) = false := decide_eq_false (by omega)
  rcases Nat.eq_zero_or_pos n with h0 | h0
  · subst h0
    go_enter Tryd.func83, Tryd.ntmps83
    go_wp2
    go_ret
    exact ⟨_, rfl, RowNew.nil _ _ (Below.refl _ _)⟩
  · have d2 : decide (0 < (n : Int)) = true := decide_eq_true (by omega)
    go_enter Tryd.func83, Tryd.ntmps83
    go_wp2_with (go_big_may; first
      | (refine wpList_sliceNil lkP.toLsP rfl rfl rfl (run_bounds_h _ (Nat.le_refl _)) ?_)
      | (refine wpList_appZ lkP (by omega) (by kernel_rfl) rfl rfl rfl (k := 0) (m := n) rfl (by omega) (cs := []) (by simp) (fun q hq => by cases hq) (fun _ => rfl) (by omega) (by omega) (by omega) ?_; intro G cr hG1 hG2 hG3 hG4)
      | (refine wpList_sliceTo lkP.toLsP rfl rfl rfl (r := 0) (run_bounds_h _ (by omega)) ?_)
      | fail)
    go_ret
    have hg1 : ((w.alloc (.cells cr 29)).drew).heap[w.heap.size]? = some (.cells cr 29 (0, 0)) := by simp only [World.alloc, World.drew, Array.getElem?_push_size]
    exact ⟨_, rfl, RowQ.of hg1 (Nat.zero_le _) hG2 hG3 (by simp) (fun _ h => by cases h), fun k hk => by simp [Value.ownBlock] at hk; omega, ((Below.refl _ _).alloc (Nat.le_refl _) _).drew⟩
set_option maxRecDepth 100000 in
set_option maxHeartbeats 2000000 in
theorem concat_l (w : World) {B m : Nat} {ps : List Pc} (hB : ∀ k (h : k < ps.length), w.cell? ⟨B, k, none⟩ = some ps[k].v) (hm : ps.length = m) (hm3 : m ≤ 1000) (hs : ∀ p ∈ ps, SrcC 7 w p.ad p.m p.cs) (hsum : sumC ps ≤ 1000000) :
    Calls Tryd.prog 64 #[.slice (some ⟨B, 0, none⟩) m m] w (RetNew 29 7 w (sumC ps) (allC ps)) := by
  have hBlt : ∀ k, k < ps.length → B < w.heap.size := fun k h => cell_lt (hB k h)
  go_enter Tryd.func64, Tryd.ntmps64
  go_upto_region 3 with (fail)
  go_loopw [3, 11] (fun sv iv wr => ∃ k : Nat, k ≤ m ∧ iv = .int .i64 k ∧ sv = .int .i64 (sumC (ps.take k) : Nat) ∧ Below w.heap.size w wr) (fun _ i _ => m - (intOf i).toNat)
  case atStart => exact ⟨0, Nat.zero_le _, rfl, rfl, Below.refl _ _⟩
  case round =>
    obtain ⟨k, hk, rfl, rfl, q⟩ := hrel
    rcases Nat.lt_or_ge k m with hlt | hge
    · have hkl : k < ps.length := by omega
      have hc := (cell_keep (q.block B (hBlt k hkl)) k).trans (hB k hkl)
      unfold Pc.v at hc
      have e1 := sumC_take hkl
      have e2 := sumC_le (ps := ps) (k + 1)
      obtain ⟨A, hA⟩ : ∃ A, A = ps[k].m := ⟨_, rfl⟩
      rw [← hA] at e1 hc
      obtain ⟨Z, hZ⟩ : ∃ Z, Z = sumC (ps.take k) := ⟨_, rfl⟩
      rw [← hZ] at e1 ⊢
      have d : decide ((Z : Int) + (A : Int) < 0) = false := decide_eq_false (by omega)
      have hZA : Z + A ≤ 1000000 := by omega
      have H1 := Lib.hid e1
      clear hA hZ e1 e2
      go_wp2_with fail
      go_roundw
      case rel => exact ⟨k + 1, by omega, by go_num, by rw [H1.out]; go_num, q⟩
      case measure => simp [intOf]; omega
    · obtain rfl : k = m := by omega
      have e0 : ps.take k = ps := List.take_of_length_le (by omega)
      rw [e0]
      clear hge hk
      go_upto_region 9 with (fail)
      go_wp2_with fail
      refine (grow_l wr hsum).mono ?_
      rintro e w1 ⟨v0, rfl, hr0⟩
      have hr1 : RowNew 29 7 w v0 (sumC (ps.take 0)) (allC (ps.take 0)) w1 := ⟨hr0.1, fun k hk => Nat.le_trans q.size (hr0.2.1 k hk), q.trans (hr0.2.2.mono q.size)⟩
      clear hr0 q e0
      go_upto_region 11 with (fail)
      go_loopw [6, 27] (fun vv iv wr => ∃ j : Nat, j ≤ k ∧ iv = .int .i64 j ∧ RowNew 29 7 w vv (sumC (ps.take j)) (allC (ps.take j)) wr) (fun _ i _ => k - (intOf i).toNat)
      case atStart => exact ⟨0, Nat.zero_le _, rfl, hr1⟩
      case round =>
        clear hr1
        obtain ⟨j, hj, rfl, hr⟩ := hrel
        rename_i wr2 _ _
        rcases Nat.lt_or_ge j k with hlt | hge
        · have hkl : j < ps.length := by omega
          obtain ⟨_, c2, rfl, hn2, _⟩ := hr.1.shape
          have hc := (cell_keep (hr.2.2.block B (hBlt j hkl)) j).trans (hB j hkl)
          unfold Pc.v at hc
          have e1 := sumC_take hkl
          have e2 := allC_take hkl
          have e3 := sumC_le (ps := ps) (j + 1)
          have hsr := (hs ps[j] (List.getElem_mem hkl)).below hr.2.2
          obtain ⟨Y, hY⟩ : ∃ Y, Y = allC (ps.take j) := ⟨_, rfl⟩
          obtain ⟨Z, hZ⟩ : ∃ Z, Z = sumC (ps.take j) := ⟨_, rfl⟩
          rw [← hZ] at hr hn2 e1 ⊢
          rw [← hY] at hr e2
          have hZA : Z + ps[j].m ≤ 1000000 := by omega
          generalize ps[j] = p at hc e1 e2 hsr hZA
          have H1 := Lib.hid e1
          have H2 := Lib.hid e2
          clear e1 e2 e3 hZ hY
          go_wp2_with (go_big_may; first
            | (refine wpList_appS lkP (by omega) rfl rfl (v := .slice _ Z c2) rfl hr.1 rfl hsr (by omega) ?_; intro ad' cap' w2 hR)
            | fail)
          go_roundw
          case rel => exact ⟨j + 1, by omega, by go_num, by rw [H1.out, H2.out]; exact hr.to hR⟩
          case measure => simp [intOf]; omega
        · obtain rfl : j = k := by omega
          rw [List.take_of_length_le (by omega)] at hr
          obtain ⟨_, c2, rfl, hn2, _⟩ := hr.1.shape
          go_wp2_with fail
          go_ret
          exact ⟨_, rfl, hr⟩
end Go.Proofs.YtpdnehgboafgpaaDoor
namespace Go.Proofs.YtpdnehgboafgpaaDoor
open Go.RowKit Go.Shelf
def blkO (x : Lk) (l : List Lk) : List Int := (l.filter (clashL x)).map (·.owner)
theorem blkO_snoc {x : Lk} {l : List Lk} {k : Nat} (h : k < l.length) : blkO x (l.take (k + 1)) = blkO x (l.take k) ++ (if clashL x l[k] = true then [l[k].owner] else []) := by
  unfold blkO
  rw [List.take_succ_eq_append_getElem h, List.filter_append, List.map_append]
  congr 1
  by_cases e : clashL x l[k] = true <;> simp [e]
theorem RdL.srcC {α : Type} {E : Elt α} {S : Nat → Prop} {w : World} {ad : Option Addr} {n c : Nat} {xs : List α} (h : RdL E S w (.slice ad n c) xs) : ∃ vs, Flat E S w xs vs ∧ SrcC E.size w ad xs.length vs := by
  have hs := h
  obtain ⟨a', cap, h1, h2, h3, h4⟩ := h
  cases h1
  rcases h4 with rfl | ⟨b, off, rfl, hb, hq⟩
  · exact ⟨[], rfl, by simp, fun _ => rfl, fun p _ j u hj => by simp at hj, fun u hu => by cases hu⟩
  · obtain ⟨vs, h5, h6⟩ := hs.flat
    exact ⟨vs, h5, h5.len, (fun h => by cases h), fun p hp j u hj => by cases hp; rw [Addr.add_lit]; exact h6 j u hj, h5.one⟩
section
variable {ops : Array Oper} {rest : List Oper} {o : Oper} {a : Act} {Q : Exit → Act → World → Prop} {w : World} {x y : Operand} {a1 a2 : Option Addr} {n1 n2 c1 c2 : Nat}
theorem wpList_two (ho : o.op = .buildSlice 99 2 #[(0, x), (1, y)]) (hgd : Region.wanted o (yielded ops a.tmps) = true) (hx : a.eval x = .slice a1 n1 c1) (hy : a.eval y = .slice a2 n2 c2)
    (h : ∀ w', Below w.heap.size w w' → w'.heap[w.heap.size]? = some (.cells #[.slice a1 n1 c1, .slice a2 n2 c2] 22 (0, 0)) → wpList Tryd.prog ops Q rest (a.put o.dst (.slice (some ⟨w.heap.size, 0, none⟩) 2 2)) w') : wpList Tryd.prog ops Q (o :: rest) a w := by
  have hrun : (Instr.buildSlice 99 2 #[(0, .slice a1 n1 c1), (1, .slice a2 n2 c2)]).run Tryd.prog w = .ok (.slice (some ⟨w.heap.size, 0, none⟩) 2 2) (w.alloc (.cells #[.slice a1 n1 c1, .slice a2 n2 c2] 22)) := by
    go_simp
  refine BigFrame.wpList_want hgd fun _ hK => ?_
  unfold Oper.wp execOp
  simp only [ho, hx, hy, Sem.run_bind, Sem.run_pure, Result.andThen_ok, List.map_toArray, List.map_cons, List.map_nil, hrun]
  exact hK _ _ (h _ ((Below.refl _ _).alloc (Nat.le_refl _) _) (by simp only [World.alloc, Array.getElem?_push_size]))
end
set_option maxRecDepth 100000 in
set_option maxHeartbeats 4000000 in
theorem blockers_any (w : World) (hT : TabAt w) {S S2 S3 : Nat → Prop} {x : Lk} {x1 x3 aH aQ : Option Addr} {x2 x4 cH cQ : Nat} {H Q : List Lk} (hx : RdLk S w (.agg #[.int .i64 x.owner, .bool x.whole, .int .i64 x.span.table, .slice x1 x.span.lo.length x2, .slice x3 x.span.hi.length x4, .bool x.span.isOpen, .int .i64 x.mode]) x)
    (hH : RdL Elt.lk S2 w (.slice aH H.length cH) H) (hQ : RdL Elt.lk S3 w (.slice aQ Q.length cQ) Q) (hnH : H.length ≤ 400000) (hnQ : Q.length ≤ 400000) :
    Calls Tryd.prog 33 #[.agg #[.int .i64 x.owner, .bool x.whole, .int .i64 x.span.table, .slice x1 x.span.lo.length x2, .slice x3 x.span.hi.length x4, .bool x.span.isOpen, .int .i64 x.mode, .slice aH H.length cH, .slice aQ Q.length cQ]] w fun e w' => ∃ a c, e = .returned (.slice a (riseL (blkO x (H ++ Q))).length c) ∧ OwnL Elt.int 3 w.heap.size w.heap.size w' (.slice a (riseL (blkO x (H ++ Q))).length c) (riseL (blkO x (H ++ Q))) ∧ Below w.heap.size w w' := by
  obtain ⟨W, hW, q, Bx, hsz⟩ := spBox w 61 [.int .i64 x.owner, .bool x.whole, .int .i64 x.span.table, .slice x1 x.span.lo.length x2, .slice x3 x.span.hi.length x4, .bool x.span.isOpen, .int .i64 x.mode, .slice aH H.length cH, .slice aQ Q.length cQ]
  clear hsz
  go_enter Tryd.func33, Tryd.ntmps33
  go_upto_region 1 with (fail)
  rw [show w.alloc (.cells #[.int .i64 x.owner, .bool x.whole, .int .i64 x.span.table, .slice x1 x.span.lo.length x2, .slice x3 x.span.hi.length x4, .bool x.span.isOpen, .int .i64 x.mode, .slice aH H.length cH, .slice aQ Q.length cQ] 61) = W from hW.symm]
  clear hW
  have c7 := Bx.cell (i := 7) rfl
  have c8 := Bx.cell (i := 8) rfl
  go_wp2_with (first | (refine wpList_two rfl rfl rfl rfl ?_; intro w1 hb1 hrow) | fail)
  have q1 := q.trans (hb1.mono q.size)
  obtain ⟨vH, fH, sH⟩ := ((hH.below q1).fit.weak (S' := fun k => k < w1.heap.size) fun k hk => hk.2).srcC
  obtain ⟨vQ, fQ, sQ⟩ := ((hQ.below q1).fit.weak (S' := fun k => k < w1.heap.size) fun k hk => hk.2).srcC
  have z1 : W.heap.size < w1.heap.size := (Array.getElem?_eq_some_iff.1 hrow).1
  have hC := concat_l w1 (B := W.heap.size) (m := 2) (ps := [⟨aH, H.length, cH, vH⟩, ⟨aQ, Q.length, cQ, vQ⟩]) (fun k hk => by
    match k, hk with
    | 0, _ => simp [World.cell?, hrow, Pc.v]
    | 1, _ => simp [World.cell?, hrow, Pc.v]) rfl (by omega) (fun p hp => by
    simp only [List.mem_cons, List.not_mem_nil, or_false] at hp
    rcases hp with rfl | rfl
    · exact sH
    · exact sQ) (by simp [sumC]; omega)
  refine hC.mono ?_
  rintro e w2 ⟨v2, rfl, hr2, hrb, hb2⟩
  have hsum : sumC [⟨aH, H.length, cH, vH⟩, ⟨aQ, Q.length, cQ, vQ⟩] = (H ++ Q).length := by simp [sumC]
  have hall : allC [⟨aH, H.length, cH, vH⟩, ⟨aQ, Q.length, cQ, vQ⟩] = vH ++ vQ := by simp [allC]
  rw [hsum, hall] at hr2
  have hF2 : OwnF Elt.lk 29 (fun k => k < w1.heap.size) w2 v2 (H ++ Q) := ⟨_, hr2, (fH.keep fun k hk => hb2.block k hk).append (fQ.keep fun k hk => hb2.block k hk)⟩
  obtain ⟨aL, cL, rfl, hLn, hLc⟩ := hF2.shape
  have hL : RdL Elt.lk (fun k => k < w2.heap.size) w2 (.slice aL (H ++ Q).length cL) (H ++ Q) := hF2.rdL.fit.weak fun k hk => hk.2
  obtain ⟨L, eL⟩ : ∃ L, L = H ++ Q := ⟨_, rfl⟩
  have hLl : L.length ≤ 800000 := by rw [eL, List.length_append]; omega
  rw [← eL] at hL ⊢
  have z2 := hb2.size
  have q2 := q1.trans (hb2.mono q1.size)
  have zx := Bx.lt
  have Bx2 := Bx.below (hb1.trans (hb2.mono hb1.size)) Bx.lt
  clear hC hsum hall hr2 hF2 hrb sH sQ fH fQ hrow c7 c8 hLn hLc hH hQ
  replace eL := Lib.hid eL
  go_upto_region 3 with (fail)
  go_loopw [3, 15] (fun ov iv wr => ∃ (k : Nat) (ad : Option Addr) (ko : Nat), iv = .int .i64 k ∧ k ≤ L.length ∧ ov = .slice ad (blkO x (L.take k)).length ko ∧ OwnL Elt.int 3 w2.heap.size w2.heap.size wr (.slice ad (blkO x (L.take k)).length ko) (blkO x (L.take k)) ∧ Below w2.heap.size w2 wr)
    (fun _ i _ => L.length - (intOf i).toNat)
  case atStart => exact ⟨0, none, 0, rfl, Nat.zero_le _, rfl, OwnL.nil _ _ _ _ _, Below.refl _ _⟩
  case round =>
    obtain ⟨k, ad, ko, rfl, hkl, rfl, hO, qr⟩ := hrel
    have zr := qr.size
    have q3 := q2.trans (qr.mono q2.size)
    have Bx3 := Bx2.below qr Bx2.lt
    rcases Nat.lt_or_ge k L.length with hlt | hge
    · obtain ⟨b, off, KA, KC, VA, VC, rfl, hb, c0, c1, c2, c3, c4, c5, c6, hk1, hk2, hw64⟩ := (hL.below qr).lk k hlt
      have hsn := Lib.hid (blkO_snoc (x := x) hlt)
      obtain ⟨y, ey⟩ : ∃ y, y = L[k] := ⟨_, rfl⟩
      obtain ⟨xs, exs⟩ : ∃ xs, xs = blkO x (L.take k) := ⟨_, rfl⟩
      have hxl : xs.length ≤ 800000 := by
        rw [exs]; unfold blkO; rw [List.length_map]
        refine Nat.le_trans (List.length_filter_le _ _) ?_
        rw [List.length_take]; omega
      rw [← ey] at c0 c1 c2 c3 c4 c5 c6 hk1 hk2 hw64 hsn
      rw [← exs] at hO hsn ⊢
      clear ey exs
      go_upto_region 5 with (first | (refine wpList_boxNew (vs := [.int .i64 0, .bool false, .int .i64 0, .slice none 0 0, .slice none 0 0, .bool false, .int .i64 0]) (by kernel_rfl) rfl rfl ?_; intro wa hba hBa) | (refine wpList_boxStore (us := [.int .i64 y.owner, .bool y.whole, .int .i64 y.span.table, .slice KA y.span.lo.length KC, .slice VA y.span.hi.length VC, .bool y.span.isOpen, .int .i64 y.mode]) (by kernel_rfl) rfl rfl rfl rfl rfl rfl hBa rfl ?_; intro W4 hgw hYW) | fail)
      go_simp
      have hbw : Below wr.heap.size wr W4 := hba.grown hgw hba.size fun k hk => by injection hk with hk; omega
      have hy : RdLk (fun k => k < w2.heap.size) W4 (.agg #[.int .i64 y.owner, .bool y.whole, .int .i64 y.span.table, .slice KA y.span.lo.length KC, .slice VA y.span.hi.length VC, .bool y.span.isOpen, .int .i64 y.mode]) y := ⟨_, _, _, _, rfl, hk1.below hbw, hk2.below hbw, hw64⟩
      have q4 := q3.trans (hbw.mono q3.size)
      have qr4 := qr.trans (hbw.mono qr.size)
      have Bx4 := Bx3.below hbw Bx3.lt
      replace hO := hO.below hbw
      have zw := hbw.size
      clear c0 c1 c2 c3 c4 c5 c6 hk1 hk2 hba hBa hgw hbw
      have hC := clashes_any W4 (hT.below q4) (hx.below q4) hy
      have c0 := Bx4.cell (i := 0) rfl
      have c1 := Bx4.cell (i := 1) rfl
      have c2 := Bx4.cell (i := 2) rfl
      have c3 := Bx4.cell (i := 3) rfl
      have c4 := Bx4.cell (i := 4) rfl
      have c5 := Bx4.cell (i := 5) rfl
      have c6 := Bx4.cell (i := 6) rfl
      have f0 := hYW.cell (i := 0) rfl
      have f1 := hYW.cell (i := 1) rfl
      have f2 := hYW.cell (i := 2) rfl
      have f3 := hYW.cell (i := 3) rfl
      have f4 := hYW.cell (i := 4) rfl
      have f5 := hYW.cell (i := 5) rfl
      have f6 := hYW.cell (i := 6) rfl
      go_wp2_with fail
      refine hC.mono ?_
      rintro e w5 ⟨rfl, hb5⟩
      have z5 := hb5.size
      replace hO := hO.below hb5
      replace hYW := hYW.below hb5 hYW.lt
      replace qr4 := qr4.trans (hb5.mono qr4.size)
      clear c0 c1 c2 c3 c4 c5 c6 f0 f1 f2 f3 f4 f5 f6 hC hb5 hy
      have f0 := hYW.cell (i := 0) rfl
      cases hcl : clashL x y with
      | false =>
        have hs2 := Lib.hid (show blkO x (L.take (k + 1)) = xs by rw [hsn.out, hcl]; simp)
        clear hcl hsn
        go_wp2_with fail
        go_roundw
        case rel => exact ⟨k + 1, ad, ko, by go_num, by omega, by rw [hs2.out], by rw [hs2.out]; exact hO, qr4⟩
        case measure => simp [intOf]; omega
      | true =>
        have hs2 := Lib.hid (show blkO x (L.take (k + 1)) = xs ++ [y.owner] by rw [hsn.out, hcl]; simp)
        clear hcl hsn
        have hrr : ∀ k, Value.ownBlock (.slice ad xs.length ko) = some k → w2.heap.size ≤ k ∧ k < w5.heap.size := fun k hk => hO.block_lt k hk
        have hR : ∀ V, Elt.int.R (fun k => w2.heap.size ≤ k ∧ k < w2.heap.size) V y.owner [.int .i64 y.owner] := fun V => ⟨rfl, hw64.1⟩
        have hSV : ∀ V : World, ∀ k, (w2.heap.size ≤ k ∧ k < w2.heap.size) → w2.heap.size ≤ k ∧ k < V.heap.size ∧ some k ≠ Value.ownBlock (.slice ad xs.length ko) := fun V k hk => by omega
        have hbs : ∀ V : World, Below w5.heap.size w5 V → w2.heap.size ≤ V.heap.size := fun V h => by have := h.size; have := qr4.size; omega
        go_wp2_with (first
          | (refine wpList_buildOne inP rfl rfl rfl (us := [.int .i64 y.owner]) rfl rfl (by decide) (by decide) ?_; intro w6 hb6 hrow)
          | (refine wpList_apvRow (E := Elt.int) (n := xs.length + 1) inP rfl rfl rfl rfl (hO.below hb6) hrow (hR _) (hSV _) (hbs _ hb6) (by omega) rfl ?_; intro ad9 c9 w7 hO9 hg7 ho9)
          | fail)
        have hln : (xs ++ [y.owner]).length = xs.length + 1 := by rw [List.length_append]; rfl
        have q9 : Below w2.heap.size w2 w7 := (qr4.trans (hb6.mono qr4.size)).grown hg7 (qr4.trans (hb6.mono qr4.size)).size fun k hk => (hrr k hk).1
        rw [← hln] at hO9
        clear hrr hR hSV hbs hg7 hO hrow hb6 ho9 hYW f0
        go_roundw
        case rel => exact ⟨k + 1, ad9, c9, by go_num, by omega, by rw [hs2.out, hln], by rw [hs2.out]; exact hO9, q9⟩
        case measure => simp [intOf]; omega
    · obtain rfl : k = L.length := by omega
      rw [List.take_length] at hO ⊢
      have hbl : (blkO x L).length ≤ 800000 := by
        unfold blkO; rw [List.length_map]
        exact Nat.le_trans (List.length_filter_le _ _) hLl
      have hR := rising_any wr hO (by omega)
      have hOl := fun k hk => hO.block_lt k hk
      go_wp2_with fail
      refine hR.mono ?_
      rintro e w4 ⟨c', rfl, hO4, hg4⟩
      go_wp2_with fail
      go_ret
      have zq := q2.size
      rw [← eL.out]
      exact ⟨_, _, rfl, hO4.to (by omega) (by omega), q3.grown hg4 q3.size fun k hk => by have := hOl k hk; omega⟩
set_option maxRecDepth 100000 in
set_option maxHeartbeats 4000000 in
theorem lBlockers_any (w : World) (hT : TabAt w) {S : Nat → Prop} {v : Value} {H Q : List Lk} {o : Int} (h : RdLs S w v H Q) (hnH : H.length ≤ 400000) (hnQ : Q.length ≤ 400000) :
    Calls Tryd.prog 12 #[v, .int .i64 o] w fun e w' => ∃ l a c, e = .returned (.slice a l.length c) ∧ OwnL Elt.int 3 w.heap.size w.heap.size w' (.slice a l.length c) l ∧ Below w.heap.size w w' ∧
      ((okLk H Q ∧ ∃ i, ∃ h : i < Q.length, Q[i].owner = o ∧ (∀ y ∈ Q.take i, y.owner ≠ o) ∧ l = riseL (blkO Q[i] (H ++ Q.take i))) ∨ (decide (okLk H Q) && waitsL Q o) = false ∧ l = []) := by
  have hfull := h
  obtain ⟨aH, cH, aL, cL, rfl, hH, hQ⟩ := h
  clear hH hQ
  obtain ⟨W, hW, q, Bw, hsz⟩ := spBox w 24 [.slice aH H.length cH, .slice aL Q.length cL]
  clear hsz
  go_enter Tryd.func12, Tryd.ntmps12
  go_upto_region 1 with (fail)
  rw [show w.alloc (.cells #[.slice aH H.length cH, .slice aL Q.length cL] 24) = W from hW.symm]
  clear hW
  have hC := waiting_any W (hT.below q) (o := o) (hfull.below q) (by omega) (by omega)
  have b0 := Bw.cell (i := 0) rfl
  have b1 := Bw.cell (i := 1) rfl
  go_wp2_with fail
  refine hC.mono ?_
  rintro e w1 ⟨hb, hres⟩
  replace q := q.trans (hb.mono q.size)
  clear hC b0 b1 Bw hb
  rcases hres with ⟨hok, i, hi, hio, hbe, x1, x2, x3, x4, aH2, cH2, aQ2, cQ2, rfl, hx, hH, hQ⟩ | ⟨hno, rfl⟩
  · have hpl : (Q.take i).length ≤ 400000 := by rw [List.length_take]; omega
    have hfin := Lib.hid (show ∀ l, l = riseL (blkO Q[i] (H ++ Q.take i)) → ((okLk H Q ∧ ∃ i, ∃ h : i < Q.length, Q[i].owner = o ∧ (∀ y ∈ Q.take i, y.owner ≠ o) ∧ l = riseL (blkO Q[i] (H ++ Q.take i))) ∨ (decide (okLk H Q) && waitsL Q o) = false ∧ l = []) from fun l hl => .inl ⟨hok, i, hi, hio, hbe, hl⟩)
    obtain ⟨x, ex⟩ : ∃ x, x = Q[i] := ⟨_, rfl⟩
    obtain ⟨p, ep⟩ : ∃ p, p = Q.take i := ⟨_, rfl⟩
    rw [← ex, ← ep] at hfin
    rw [← ex] at hx ⊢
    rw [← ep] at hQ hpl ⊢
    clear ex ep hio hok hbe
    unfold akV
    go_upto_region 2 with (first | (refine wpList_boxNew (vs := [.int .i64 0, .bool false, .int .i64 0, .slice none 0 0, .slice none 0 0, .bool false, .int .i64 0, .slice none 0 0, .slice none 0 0]) (by kernel_rfl) rfl rfl ?_; intro wa hba hBa) | (refine wpList_boxStore (us := [.int .i64 x.owner, .bool x.whole, .int .i64 x.span.table, .slice x1 x.span.lo.length x2, .slice x3 x.span.hi.length x4, .bool x.span.isOpen, .int .i64 x.mode, .slice aH2 H.length cH2, .slice aQ2 p.length cQ2]) (by kernel_rfl) rfl rfl rfl rfl rfl rfl hBa rfl ?_; intro W3 hgw hYW) | fail)
    have hbw : Below w1.heap.size w1 W3 := hba.grown hgw hba.size fun k hk => by injection hk with hk; omega
    replace q := q.trans (hbw.mono q.size)
    have hB := blockers_any W3 (hT.below q) (hx.below hbw) (hH.below hbw) (hQ.below hbw) hnH hpl
    have f0 := hYW.cell (i := 0) rfl
    have f1 := hYW.cell (i := 1) rfl
    have f2 := hYW.cell (i := 2) rfl
    have f3 := hYW.cell (i := 3) rfl
    have f4 := hYW.cell (i := 4) rfl
    have f5 := hYW.cell (i := 5) rfl
    have f6 := hYW.cell (i := 6) rfl
    have f7 := hYW.cell (i := 7) rfl
    have f8 := hYW.cell (i := 8) rfl
    go_wp2_with fail
    refine hB.mono ?_
    rintro e w4 ⟨a9, c9, rfl, hO9, hb9⟩
    go_wp2_with fail
    go_ret
    exact ⟨_, _, _, rfl, hO9.to q.size q.size, q.trans (hb9.mono q.size), hfin.out _ rfl⟩
  · have Hh := Lib.hid hno
    clear hno
    go_upto_region 2 with (first | (refine wpList_boxNew (vs := [.int .i64 0, .bool false, .int .i64 0, .slice none 0 0, .slice none 0 0, .bool false, .int .i64 0, .slice none 0 0, .slice none 0 0]) (by kernel_rfl) rfl rfl ?_; intro wa hba hBa) | (refine wpList_boxStore (us := [.int .i64 0, .bool false, .int .i64 0, .slice none 0 0, .slice none 0 0, .bool false, .int .i64 0, .slice none 0 0, .slice none 0 0]) (by kernel_rfl) rfl rfl rfl rfl rfl rfl hBa rfl ?_; intro W3 hgw hYW) | fail)
    have hbw : Below w1.heap.size w1 W3 := hba.grown hgw hba.size fun k hk => by injection hk with hk; omega
    replace q := q.trans (hbw.mono q.size)
    have hB := blockers_any W3 (hT.below q) (S := fun _ => True) (S2 := fun _ => True) (S3 := fun _ => True) (x := ⟨0, false, ⟨0, [], [], false⟩, 0⟩) (x1 := none) (x2 := 0) (x3 := none) (x4 := 0) (aH := none) (cH := 0) (aQ := none) (cQ := 0) (H := []) (Q := []) ⟨none, 0, none, 0, rfl, RdS.nil _ _, RdS.nil _ _, by unfold Lk64 W64; simp⟩ (RdL.nil _ _ _) (RdL.nil _ _ _) (by simp) (by simp)
    have f0 := hYW.cell (i := 0) rfl
    have f1 := hYW.cell (i := 1) rfl
    have f2 := hYW.cell (i := 2) rfl
    have f3 := hYW.cell (i := 3) rfl
    have f4 := hYW.cell (i := 4) rfl
    have f5 := hYW.cell (i := 5) rfl
    have f6 := hYW.cell (i := 6) rfl
    have f7 := hYW.cell (i := 7) rfl
    have f8 := hYW.cell (i := 8) rfl
    go_wp2_with fail
    refine hB.mono ?_
    rintro e w4 ⟨a9, c9, rfl, hO9, hb9⟩
    have e0 : riseL (blkO ⟨0, false, ⟨0, [], [], false⟩, 0⟩ ([] ++ [])) = [] := by simp [blkO, riseL, Lib.compact, Lib.compactUpTo]
    rw [e0] at hO9 ⊢
    go_wp2_with fail
    go_ret
    exact ⟨_, _, _, rfl, hO9.to q.size q.size, q.trans (hb9.mono q.size), .inr ⟨Hh.out, rfl⟩⟩
end Go.Proofs.YtpdnehgboafgpaaDoor
namespace Go.Proofs.YtpdnehgboafgpaaDoor
open Go.RowKit Go.Shelf
def shortK (l : List Lk) : Prop := l.length ≤ 60 ∧ ∀ x ∈ l, x.span.lo.length ≤ 100 ∧ x.span.hi.length ≤ 100
instance (l : List Lk) : Decidable (shortK l) := by unfold shortK; exact inferInstance
def fewK (H Q : List Lk) : Prop := shortK H ∧ shortK Q
instance (H Q : List Lk) : Decidable (fewK H Q) := by unfold fewK; exact inferInstance
set_option maxRecDepth 100000 in
set_option maxHeartbeats 4000000 in
theorem fewK_any (w : World) {S : Nat → Prop} {v : Value} {H Q : List Lk} (h : RdLs S w v H Q) :
    Calls Tryd.prog 9 #[v] w fun e w' => e = .returned (.bool (decide (fewK H Q))) ∧ Below w.heap.size w w' := by
  obtain ⟨aH, cH, aQ, cQ, rfl, hH, hQ⟩ := h
  obtain ⟨_, hc1, hm1⟩ := hH.len
  obtain ⟨_, hc2, hm2⟩ := hQ.len
  have hl1 : H.length ≤ 9223372036854775807 := by unfold maxLen at hm1; omega
  have hl2 : Q.length ≤ 9223372036854775807 := by unfold maxLen at hm2; omega
  obtain ⟨W, hW, q, Bw, hsz⟩ := spBox w 24 [.slice aH H.length cH, .slice aQ Q.length cQ]
  clear hsz
  go_enter Tryd.func9, Tryd.ntmps9
  go_upto_region 1 with (fail)
  rw [show w.alloc (.cells #[.slice aH H.length cH, .slice aQ Q.length cQ] 24) = W from hW.symm]
  clear hW
  have b0 := Bw.cell (i := 0) rfl
  have b1 := Bw.cell (i := 1) rfl
  rcases Nat.lt_or_ge 60 H.length with h1 | h1
  · have d1 : (60 < H.length) = True := eq_true h1
    have HK := Lib.hid (show decide (fewK H Q) = false from decide_eq_false fun h => by have := h.1.1; omega)
    go_wp2_with fail
    go_ret
    exact ⟨by rw [HK.out]; rfl, q⟩
  have d1 : (60 < H.length) = False := eq_false (by omega)
  rcases Nat.lt_or_ge 60 Q.length with h2 | h2
  · have d2 : (60 < Q.length) = True := eq_true h2
    have HK := Lib.hid (show decide (fewK H Q) = false from decide_eq_false fun h => by have := h.2.1; omega)
    go_wp2_with fail
    go_ret
    exact ⟨by rw [HK.out]; rfl, q⟩
  have d2 : (60 < Q.length) = False := eq_false (by omega)
  go_upto_region 4 with (fail)
  clear b0 b1
  go_loopw [3] (fun iv wr => ∃ (k : Nat), iv = .int .i64 k ∧ k ≤ H.length ∧ (∀ x ∈ H.take k, x.span.lo.length ≤ 100 ∧ x.span.hi.length ≤ 100) ∧ Below w.heap.size w wr ∧ BoxN wr w.heap.size 24 [.slice aH H.length cH, .slice aQ Q.length cQ])
    (fun i _ => H.length - (intOf i).toNat)
  case atStart => exact ⟨0, rfl, Nat.zero_le _, by simp, q, Bw⟩
  case round =>
    clear q Bw
    obtain ⟨k, rfl, hkl, hall, q, Bw⟩ := hrel
    have b0 := Bw.cell (i := 0) rfl
    have b1 := Bw.cell (i := 1) rfl
    rcases Nat.lt_or_ge k H.length with hlt | hge
    · obtain ⟨b, off, A, C, A2, C2, rfl, hb, c0, c1, c2, c3, c4, c5, c6, hk1, hk2, hw64⟩ := (hH.below q).lk k hlt
      by_cases h3 : 100 < H[k].span.lo.length
      · have d3 : (100 < H[k].span.lo.length) = True := eq_true h3
        have hno := Lib.hid (show decide (fewK H Q) = false from decide_eq_false fun h => by have := (h.1.2 _ (List.getElem_mem hlt)).1; omega)
        clear hall
        go_wp2_with fail
        go_ret
        exact ⟨by rw [hno.out]; rfl, q⟩
      · have d3 : (100 < H[k].span.lo.length) = False := eq_false h3
        by_cases h4 : 100 < H[k].span.hi.length
        · have d4 : (100 < H[k].span.hi.length) = True := eq_true h4
          have hno := Lib.hid (show decide (fewK H Q) = false from decide_eq_false fun h => by have := (h.1.2 _ (List.getElem_mem hlt)).2; omega)
          clear hall
          go_wp2_with fail
          go_ret
          exact ⟨by rw [hno.out]; rfl, q⟩
        · have d4 : (100 < H[k].span.hi.length) = False := eq_false h4
          have hall2 := Lib.hid (show ∀ x ∈ H.take (k + 1), x.span.lo.length ≤ 100 ∧ x.span.hi.length ≤ 100 from fun x hx => by
            rw [List.take_succ_eq_append_getElem hlt] at hx
            rcases List.mem_append.1 hx with h | h
            · exact hall x h
            · simp at h; rw [h]; exact ⟨by omega, by omega⟩)
          clear hall
          go_wp2_with fail
          go_roundw
          case rel => exact ⟨k + 1, by go_num, by omega, hall2.out, q, Bw⟩
          case measure => simp [intOf]; omega
    · obtain rfl : k = H.length := by omega
      have hallH := Lib.hid (show ∀ x ∈ H, x.span.lo.length ≤ 100 ∧ x.span.hi.length ≤ 100 from fun x hx => hall x (by rw [List.take_length]; exact hx))
      clear hall
      go_upto_region 9 with (fail)
      clear b0 b1
      go_loopw [4] (fun iv wr => ∃ (k : Nat), iv = .int .i64 k ∧ k ≤ Q.length ∧ (∀ x ∈ Q.take k, x.span.lo.length ≤ 100 ∧ x.span.hi.length ≤ 100) ∧ Below w.heap.size w wr ∧ BoxN wr w.heap.size 24 [.slice aH H.length cH, .slice aQ Q.length cQ])
        (fun i _ => Q.length - (intOf i).toNat)
      case atStart => exact ⟨0, rfl, Nat.zero_le _, by simp, q, Bw⟩
      case round =>
        clear q Bw
        obtain ⟨k, rfl, hkl, hall, q, Bw⟩ := hrel
        have b0 := Bw.cell (i := 0) rfl
        have b1 := Bw.cell (i := 1) rfl
        rcases Nat.lt_or_ge k Q.length with hlt | hge
        · obtain ⟨b, off, A, C, A2, C2, rfl, hb, c0, c1, c2, c3, c4, c5, c6, hk1, hk2, hw64⟩ := (hQ.below q).lk k hlt
          by_cases h3 : 100 < Q[k].span.lo.length
          · have d3 : (100 < Q[k].span.lo.length) = True := eq_true h3
            have hno := Lib.hid (show decide (fewK H Q) = false from decide_eq_false fun h => by have := (h.2.2 _ (List.getElem_mem hlt)).1; omega)
            clear hall
            go_wp2_with fail
            go_ret
            exact ⟨by rw [hno.out]; rfl, q⟩
          · have d3 : (100 < Q[k].span.lo.length) = False := eq_false h3
            by_cases h4 : 100 < Q[k].span.hi.length
            · have d4 : (100 < Q[k].span.hi.length) = True := eq_true h4
              have hno := Lib.hid (show decide (fewK H Q) = false from decide_eq_false fun h => by have := (h.2.2 _ (List.getElem_mem hlt)).2; omega)
              clear hall
              go_wp2_with fail
              go_ret
              exact ⟨by rw [hno.out]; rfl, q⟩
            · have d4 : (100 < Q[k].span.hi.length) = False := eq_false h4
              have hall2 := Lib.hid (show ∀ x ∈ Q.take (k + 1), x.span.lo.length ≤ 100 ∧ x.span.hi.length ≤ 100 from fun x hx => by
                rw [List.take_succ_eq_append_getElem hlt] at hx
                rcases List.mem_append.1 hx with h | h
                · exact hall x h
                · simp at h; rw [h]; exact ⟨by omega, by omega⟩)
              clear hall
              go_wp2_with fail
              go_roundw
              case rel => exact ⟨k + 1, by go_num, by omega, hall2.out, q, Bw⟩
              case measure => simp [intOf]; omega
        · obtain rfl : k = Q.length := by omega
          have hno := Lib.hid (show decide (fewK H Q) = true from decide_eq_true ⟨⟨h1, hallH.out⟩, h2, fun x hx => hall x (by rw [List.take_length]; exact hx)⟩)
          clear hall
          go_wp2_with fail
          go_ret
          exact ⟨by rw [hno.out]; rfl, q⟩
set_option maxRecDepth 100000 in
set_option maxHeartbeats 4000000 in
theorem numbers_any (w : World) {S S2 : Nat → Prop} {a a2 : Option Addr} {n cx n2 cy : Nat} {l m : List Int} (hl : RdL Elt.int S w (.slice a n cx) l) (hm : RdL Elt.int S2 w (.slice a2 n2 cy) m) :
    Calls Tryd.prog 11 #[.slice a n cx, .slice a2 n2 cy] w fun e w' => e = .returned (.bool (decide (l = m))) ∧ Below w.heap.size w w' := by
  obtain ⟨rfl, hnc, hcm⟩ := hl.len
  have hlm : l.length ≤ 9223372036854775807 := by unfold maxLen at hcm; omega
  obtain ⟨rfl, hnc2, hcm2⟩ := hm.len
  have hmm : m.length ≤ 9223372036854775807 := by unfold maxLen at hcm2; omega
  have q := Below.refl w.heap.size w
  go_enter Tryd.func11, Tryd.ntmps11
  by_cases hlen : l.length = m.length
  case neg =>
    have d1 : ((l.length : Int) == (m.length : Int)) = false := beq_eq_false_iff_ne.2 (by omega)
    have d2 : (l.length == m.length) = false := beq_eq_false_iff_ne.2 hlen
    have d3 : ((l.length : Int) != (m.length : Int)) = true := bne_iff_ne.2 (by omega)
    have HK := Lib.hid (show decide (l = m) = false from decide_eq_false fun h => hlen (by rw [h]))
    clear hlen
    go_wp2_with fail
    go_ret
    exact ⟨by first | (rw [HK.out]; done) | (rw [HK.out]; rfl), q⟩
  have d1 : ((l.length : Int) == (m.length : Int)) = true := beq_iff_eq.2 (by omega)
  have d2 : (l.length == m.length) = true := beq_iff_eq.2 hlen
  have d3 : ((l.length : Int) != (m.length : Int)) = false := by rw [bne, d1]; rfl
  replace hlen := Lib.hid hlen
  go_upto_region 4 with (fail)
  clear d1 d2 d3
  go_loopw [5] (fun iv wr => ∃ (k : Nat), iv = .int .i64 k ∧ k ≤ l.length ∧ l.take k = m.take k ∧ Below w.heap.size w wr)
    (fun i _ => l.length - (intOf i).toNat)
  case atStart => exact ⟨0, rfl, Nat.zero_le _, by simp, q⟩
  case round =>
    clear q
    obtain ⟨k, rfl, hkl, hall, q⟩ := hrel
    replace hall := Lib.hid hall
    rcases Nat.lt_or_ge k l.length with hlt | hge
    · have hltm : k < m.length := by have := hlen.out; omega
      obtain ⟨b1, o1, vs1, rfl, _, ⟨rfl, _⟩, hc1⟩ := (hl.below q).at k hlt
      obtain ⟨b2, o2, vs2, rfl, _, ⟨rfl, _⟩, hc2⟩ := (hm.below q).at k hltm
      have c0 : wr.cell? ⟨b1, o1 + k, none⟩ = some (.int .i64 l[k]) := by have := hc1 0 _ rfl; simpa [Elt.int] using this
      have c1 : wr.cell? ⟨b2, o2 + k, none⟩ = some (.int .i64 m[k]) := by have := hc2 0 _ rfl; simpa [Elt.int] using this
      clear hc1 hc2
      by_cases e : l[k] = m[k]
      · have H := Lib.hid (show l.take (k + 1) = m.take (k + 1) by rw [List.take_succ_eq_append_getElem hlt, List.take_succ_eq_append_getElem hltm, hall.out, e])
        have d4 : (l[k] == m[k]) = true := beq_iff_eq.2 e
        have d5 : (l[k] != m[k]) = false := by rw [bne, d4]; rfl
        have d6 : decide (l[k] = m[k]) = true := decide_eq_true e
        have d7 : ((k : Nat) : Int) < (m.length : Int) := by omega
        clear e hall
        go_upto_region 6 with (fail)
        go_quiet (fail)
        go_wp2_with fail
        go_roundw
        case rel => exact ⟨k + 1, by go_num, by omega, H.out, Below.drewN q _⟩
        case measure => simp [intOf]; omega
      · have H := Lib.hid (show decide (l = m) = false from decide_eq_false fun h => e (by subst h; rfl))
        have d4 : (l[k] == m[k]) = false := beq_eq_false_iff_ne.2 e
        have d5 : (l[k] != m[k]) = true := bne_iff_ne.2 e
        have d6 : decide (l[k] = m[k]) = false := decide_eq_false e
        have d7 : ((k : Nat) : Int) < (m.length : Int) := by omega
        clear e hall
        go_upto_region 6 with (fail)
        go_quiet (fail)
        go_wp2_with fail
        go_ret
        exact ⟨by first | (rw [H.out]; done) | (rw [H.out]; rfl), Below.drewN q _⟩
    · obtain rfl : k = l.length := by omega
      have H := Lib.hid (show decide (l = m) = true from decide_eq_true (by
        have h := hall.out
        rw [List.take_length, hlen.out, List.take_length] at h
        exact h))
      clear hall
      go_wp2_with fail
      go_ret
      exact ⟨by first | (rw [H.out]; done) | (rw [H.out]; rfl), q⟩
end Go.Proofs.YtpdnehgboafgpaaDoor
namespace Go.Proofs.YtpdnehgboafgpaaDoor
open Go.RowKit Go.Shelf
set_option maxRecDepth 100000 in
set_option maxHeartbeats 4000000 in
theorem sPoint_any (w : World) {S : Nat → Prop} {A : Option Addr} {n C : Nat} {k : List UInt8} {t : Int} (hk : RdS S w (.slice A n C) k) (ht : W64 t) (h1 : k.length ≤ 1000000) :
    Calls Tryd.prog 49 #[.int .i64 t, .slice A n C] w (SpEnd w (pointS t k)) := by
  obtain ⟨W, hW, q, Bz, hsz⟩ := spBox w 27 [.int .i64 0, .slice none 0 0, .slice none 0 0, .bool false]
  go_enter Tryd.func49, Tryd.ntmps49
  go_upto_region 1 with (fail)
  rw [show w.alloc (.cells #[.int .i64 0, .slice none 0 0, .slice none 0 0, .bool false] 27) = W from hW.symm]
  clear hW
  go_wp2_with fail
  refine (clone_any W (hk.below q).rd (Nat.le_refl _) h1).mono ?_
  rintro e w1 ⟨ad1, k1, c1, rfl, hf1⟩
  obtain rfl : k1 = k.length := hf1.len
  go_wp2_with fail
  refine (clone_any w1 (hk.below (q.trans (hf1.1.mono q.size))).rd (Nat.le_refl _) h1).mono ?_
  rintro e w2 ⟨ad2, k2, c2, rfl, hf2⟩
  obtain rfl : k2 = k.length := hf2.len
  go_wp2_with (refine wpList_append1 byP rfl (fun _ => rfl) rfl rfl (by first | (simp; done) | (simp [Act.put]; done)) rfl 0 (fun _ => rfl) rfl hf2.2 hf2.1.size ?_ (by omega)
               intro u ad3 k3 c3 w3 hO3 hb3
               obtain ⟨hi, ehi⟩ : ∃ hi, hi = k ++ [0] := ⟨_, rfl⟩
               rw [← ehi] at hO3
               obtain rfl : k3 = hi.length := hO3.len
               replace ehi := Lib.hid ehi
               have b03 : Below W.heap.size W w3 := (hf1.1.trans (hf2.1.mono hf1.1.size)).trans (hb3.mono hf1.1.size)
               have rl : RdS (fun g => W.heap.size ≤ g ∧ g < w3.heap.size) w3 (.slice ad1 k.length c1) k := ((hf1.2.rdS.below hf2.1).keep fun g hg => hb3.block g hg.2).weak fun g hg => ⟨hg.1, Nat.lt_of_lt_of_le hg.2 (hf2.1.trans hb3).size⟩
               have rh : RdS (fun g => W.heap.size ≤ g ∧ g < w3.heap.size) w3 (.slice ad3 hi.length c3) hi := hO3.rdS.weak fun g hg => ⟨Nat.le_trans hf1.1.size hg.1, hg.2⟩
               go_wp2_with (first | (refine wpList_boxStore (us := [.int .i64 t, .slice ad1 k.length c1, .slice ad3 hi.length c3, .bool false]) (by kernel_rfl) rfl rfl rfl rfl rfl rfl (Bz.below b03 Bz.lt) rfl ?_; intro w4 hg hB) | fail))
  have d0 := hB.cell (i := 0) rfl
  have d1 := hB.cell (i := 1) rfl
  have d2 := hB.cell (i := 2) rfl
  have d3 := hB.cell (i := 3) rfl
  obtain ⟨fs, hu, _⟩ := spS.hu
  refine bodyPost_ret (v := .agg #[.int .i64 t, .slice ad1 k.length c1, .slice ad3 hi.length c3, .bool false]) (by simp [results, Tryd.results49, go_sem, loadVar, isAgg, run_underlying hu, run_sizeOf' spS.hs, loadCellsFrom, Addr.add, d0, d1, d2, d3]) rfl ?_
  have hk0 : ∀ g, W.heap.size ≤ g ∧ g < w3.heap.size → w4.heap[g]? = w3.heap[g]? := fun g hg2 => hg.block g hg2.2 fun e => by injection e with e; omega
  unfold SpEnd
  rw [show pointS t k = ⟨t, k, hi, false⟩ by unfold pointS; rw [ehi.out]]
  exact ⟨_, rfl, ⟨ad1, c1, ad3, c3, rfl, (rl.keep hk0).weak fun g hg2 => ⟨by omega, Nat.lt_of_lt_of_le hg2.2 hg.size⟩, (rh.keep hk0).weak fun g hg2 => ⟨by omega, Nat.lt_of_lt_of_le hg2.2 hg.size⟩, ht⟩, (q.trans (b03.mono q.size)).grown hg (q.trans (b03.mono q.size)).size fun g e => by injection e with e; omega⟩
end Go.Proofs.YtpdnehgboafgpaaDoor
namespace Go.Proofs.YtpdnehgboafgpaaDoor
open Go.RowKit Go.Shelf
section
variable {P : Program} {ops : Array Oper} {rest : List Oper} {o : Oper} {a : Act} {Q : Exit → Act → World → Prop} {w : World} {T E S : TypeId}
theorem wpList_bytes (hP : ByP P T E S) {x : Operand} (ho : o.op = .convert S T x) {b : UInt8} (hx : a.eval x = .string ⟨#[b]⟩) (hgd : Region.wanted o (yielded ops a.tmps) = true)
    (h : ∀ g c w', Below w.heap.size w w' → RdS (fun _ => True) w' (.slice (some ⟨g, 0, none⟩) 1 c) [b] → wpList P ops Q rest (a.put o.dst (.slice (some ⟨g, 0, none⟩) 1 c)) w') : wpList P ops Q (o :: rest) a w := by
  refine BigFrame.wpList_want hgd fun K hK => ?_
  unfold Oper.wp execOp
  simp only [ho, hx, Sem.run_bind, Sem.run_pure, Result.andThen_ok, Lib.run_convert_string_bytes w S T E ⟨#[b]⟩ hP.hS hP.hT hP.hE]
  refine hK _ _ (h _ _ _ ⟨?_, ?_, ?_, ?_, fun k hk => Lib.bytesWorld_at_old w E _ k hk⟩ (.inr ⟨_, 0, _, rfl, trivial, ?_, ?_, fun j u hj => ?_⟩))
  · simp [Lib.bytesWorld, World.freeze, World.alloc, World.drew, -World.alloc_eq, -World.drew_eq]
  · simp [Lib.bytesWorld, World.freeze, World.alloc, World.drew, -World.alloc_eq, -World.drew_eq]
  · simp [Lib.bytesWorld, World.freeze, World.alloc, World.drew, -World.alloc_eq, -World.drew_eq]
  · rw [Lib.bytesWorld_size]; omega
  · exact grownCap_ge w 1 0 E
  · exact grownCap_le_maxLen w _ _ _ (by simp [ByteArray.size, maxLen])
  · rw [Nat.zero_add]
    have hj0 : j = 0 := by
      rcases j with _ | j
      · rfl
      · simp [bv] at hj
    subst hj0
    rw [Lib.bytesWorld_cell w E ⟨#[b]⟩ 0 (by simp [ByteArray.size])]
    simpa [bv] using hj
end
set_option maxRecDepth 100000 in
set_option maxHeartbeats 4000000 in
theorem one_any (w : World) {o m : Int} {b : UInt8} (ho : W64 o) (hm : W64 m) :
    Calls Tryd.prog 31 #[.int .i64 o, .string ⟨#[b]⟩, .int .i64 m] w (LkEnd w ⟨o, false, pointS 0 [b], m⟩) := by
  obtain ⟨W, hW, q, Bz, hsz⟩ := spBox w 29 [.int .i64 0, .bool false, .int .i64 0, .slice none 0 0, .slice none 0 0, .bool false, .int .i64 0]
  go_enter Tryd.func31, Tryd.ntmps31
  go_upto_region 1 with (fail)
  rw [show w.alloc (.cells #[.int .i64 0, .bool false, .int .i64 0, .slice none 0 0, .slice none 0 0, .bool false, .int .i64 0] 29) = W from hW.symm]
  clear hW
  go_wp2_with (first | (refine wpList_bytes byP rfl rfl rfl ?_; intro g c w1 hb1 hr1) | fail)
  have hcl := sPoint_any w1 (t := 0) hr1 (by unfold W64; decide) (by simp)
  refine hcl.mono ?_
  rintro e w2 ⟨v, rfl, ⟨a1, c1, a2, c2, rfl, rl, rh, rt⟩, hb⟩
  clear hcl hr1
  go_wp2_with (first | (refine wpList_boxStore (us := [.int .i64 o, .bool false, .int .i64 (pointS 0 [b]).table, .slice a1 (pointS 0 [b]).lo.length c1, .slice a2 (pointS 0 [b]).hi.length c2, .bool (pointS 0 [b]).isOpen, .int .i64 m]) (by kernel_rfl) rfl rfl rfl rfl (by simp [Act.eval]) rfl (Bz.below (hb1.trans (hb.mono hb1.size)) Bz.lt) rfl ?_; intro w3 hg hB) | fail)
  have b03 : Below W.heap.size W w2 := hb1.trans (hb.mono hb1.size)
  have d0 := hB.cell (i := 0) rfl
  have d1 := hB.cell (i := 1) rfl
  have d2 := hB.cell (i := 2) rfl
  have d3 := hB.cell (i := 3) rfl
  have d4 := hB.cell (i := 4) rfl
  have d5 := hB.cell (i := 5) rfl
  have d6 := hB.cell (i := 6) rfl
  obtain ⟨⟨fs, hu⟩, hs⟩ := lkS
  refine bodyPost_ret (v := .agg #[.int .i64 o, .bool false, .int .i64 (pointS 0 [b]).table, .slice a1 (pointS 0 [b]).lo.length c1, .slice a2 (pointS 0 [b]).hi.length c2, .bool (pointS 0 [b]).isOpen, .int .i64 m]) (by simp [results, Tryd.results31, go_sem, loadVar, isAgg, run_underlying hu, run_sizeOf' hs, loadCellsFrom, Addr.add, d0, d1, d2, d3, d4, d5, d6]) rfl ?_
  have hk0 : ∀ k, w1.heap.size ≤ k ∧ k < w2.heap.size → w3.heap[k]? = w2.heap[k]? := fun k hk => hg.block k hk.2 fun e => by injection e with e; have := hb1.size; omega
  have hs1 := hb1.size
  exact ⟨_, rfl, ⟨a1, c1, a2, c2, rfl, (rl.keep hk0).weak fun k hk => ⟨by omega, Nat.lt_of_lt_of_le hk.2 hg.size⟩, (rh.keep hk0).weak fun k hk => ⟨by omega, Nat.lt_of_lt_of_le hk.2 hg.size⟩, ho, rt, hm⟩, (q.trans (b03.mono q.size)).grown hg (q.trans (b03.mono q.size)).size fun k e => by injection e with e; omega⟩
end Go.Proofs.YtpdnehgboafgpaaDoor
namespace Go.Proofs.YtpdnehgboafgpaaDoor
open Go.RowKit
def newB (W : World) (z : Option Value) (w : World) (g : Nat) : Prop := W.heap.size ≤ g ∧ g < w.heap.size ∧ ∀ b, z = some (.pointer (some ⟨b, 0, none⟩)) → g ≠ b
def newC (W : World) (o0 z : Option Value) (w : World) (g : Nat) : Prop := newB W z w g ∧ ∀ b n m, o0 = some (.slice (some ⟨b, 0, none⟩) n m) → g ≠ b
structure RdP (R : (Nat → Prop) → World → Value → Value → Prop) : Prop where
  keep : ∀ {S w w' v e}, R S w v e → (∀ k, S k → w'.heap[k]? = w.heap[k]?) → R S w' v e
  weak : ∀ {S S' w v e}, R S w v e → (∀ k, S k → S' k) → R S' w v e
structure CbS (hk : Bool) (C0 : Array Value) (E0 : TypeId) (R : (Nat → Prop) → World → Value → Value → Prop) (Z : Obj) (Bx : World → Nat → Value → Prop) (K1 K2 : (Nat → Prop) → World → Value → Prop) (W : World) (o0 o1 o2 c m x y z s : Option Value) (w : World) : Prop where
  be : Below W.heap.size W w
  k0 : ∀ u, o0 = some u → ∃ g, u = .slice (some ⟨g, 0, none⟩) C0.size C0.size ∧ newB W z w g ∧ (o1 = none → w.heap[g]? = some (.cells C0 E0 (0, 0)))
  k1 : ∀ u, o1 = some u → K1 (newB W z w) w u
  k2 : ∀ u, o2 = some u → K2 (newC W o0 z w) w u
  rr : ∀ u, c = some u → ∃ v e, u = .tuple #[v, e] ∧ R (newC W o0 z w) w v e
  mv : ∀ u, m = some u → c = some u
  mx : ∀ u, x = some u → ∃ e, m = some (.tuple #[u, e])
  my : ∀ u, y = some u → ∃ v, m = some (.tuple #[v, u])
  zz : ∀ u, z = some u → ∃ b, u = .pointer (some ⟨b, 0, none⟩) ∧ W.heap.size ≤ b ∧ b < w.heap.size ∧ (s = none → w.heap[b]? = some Z)
  sc : s ≠ none → c ≠ none
  dk : hk = true → c ≠ none → o0 ≠ none ∧ o1 ≠ none
  d1 : hk = true → o1 ≠ none → o0 ≠ none
  ss : ∀ u, s = some u → ∃ b v, z = some (.pointer (some ⟨b, 0, none⟩)) ∧ x = some v ∧ Bx w b v
section
variable {hk : Bool} {C0 : Array Value} {E0 : TypeId} {R : (Nat → Prop) → World → Value → Value → Prop} {Z : Obj} {Bx : World → Nat → Value → Prop} {K1 K2 : (Nat → Prop) → World → Value → Prop} {W w w' : World} {o0 o1 o2 c m x y z s : Option Value}
theorem CbS.start (W : World) : CbS hk C0 E0 R Z Bx K1 K2 W none none none none none none none none none W where
  be := Below.refl _ _
  k0 _ h := by cases h
  k1 _ h := by cases h
  k2 _ h := by cases h
  rr _ h := by cases h
  mv _ h := by cases h
  mx _ h := by cases h
  my _ h := by cases h
  zz _ h := by cases h
  sc h := absurd rfl h
  dk _ h := absurd rfl h
  d1 _ h := absurd rfl h
  ss _ h := by cases h
structure Stays (R : (Nat → Prop) → World → Value → Value → Prop) (Bx : World → Nat → Value → Prop) (K1 K2 : (Nat → Prop) → World → Value → Prop) : Prop extends RdP R where
  bx : ∀ {w w' b v}, Bx w b v → Below w.heap.size w w' → Bx w' b v
  s1 : ∀ {S w w' u}, K1 S w u → (∀ k, S k → w'.heap[k]? = w.heap[k]?) → K1 S w' u
  w1 : ∀ {S S' w u}, K1 S w u → (∀ k, S k → S' k) → K1 S' w u
  s2 : ∀ {S w w' u}, K2 S w u → (∀ k, S k → w'.heap[k]? = w.heap[k]?) → K2 S w' u
  w2 : ∀ {S S' w u}, K2 S w u → (∀ k, S k → S' k) → K2 S' w u
theorem CbS.more (hS : Stays R Bx K1 K2) (h : CbS hk C0 E0 R Z Bx K1 K2 W o0 o1 o2 c m x y z s w) (hb : Below w.heap.size w w') : CbS hk C0 E0 R Z Bx K1 K2 W o0 o1 o2 c m x y z s w' where
  be := h.be.trans (hb.mono h.be.size)
  k0 u hu := by
    obtain ⟨g, e, h1, h2⟩ := h.k0 u hu
    exact ⟨g, e, ⟨h1.1, Nat.lt_of_lt_of_le h1.2.1 hb.size, h1.2.2⟩, fun h3 => (hb.block g h1.2.1).trans (h2 h3)⟩
  k1 u hu := hS.w1 (hS.s1 (h.k1 u hu) fun k hk => hb.block k hk.2.1) fun k hk => ⟨hk.1, Nat.lt_of_lt_of_le hk.2.1 hb.size, hk.2.2⟩
  k2 u hu := hS.w2 (hS.s2 (h.k2 u hu) fun k hk => hb.block k hk.1.2.1) fun k hk => ⟨⟨hk.1.1, Nat.lt_of_lt_of_le hk.1.2.1 hb.size, hk.1.2.2⟩, hk.2⟩
  rr u hu := by
    obtain ⟨v, e, e1, h1⟩ := h.rr u hu
    exact ⟨v, e, e1, hS.weak (hS.keep h1 fun k hk => hb.block k hk.1.2.1) fun k hk => ⟨⟨hk.1.1, Nat.lt_of_lt_of_le hk.1.2.1 hb.size, hk.1.2.2⟩, hk.2⟩⟩
  mv := h.mv
  mx := h.mx
  my := h.my
  zz u hu := by
    obtain ⟨b, e, h1, h2, h3⟩ := h.zz u hu
    exact ⟨b, e, h1, Nat.lt_of_lt_of_le h2 hb.size, fun hs => (hb.block b h2).trans (h3 hs)⟩
  sc := h.sc
  dk := h.dk
  d1 := h.d1
  ss u hu := by
    obtain ⟨b, v, e1, e2, h1⟩ := h.ss u hu
    exact ⟨b, v, e1, e2, hS.bx h1 hb⟩
theorem CbS.new (h : CbS hk C0 E0 R Z Bx K1 K2 W o0 o1 o2 c m x y z s w) {w' : World} {g : Nat} (hg : w.heap.size ≤ g ∧ g < w'.heap.size) : newB W z w' g :=
  ⟨Nat.le_trans h.be.size hg.1, hg.2, fun b hz => by
    obtain ⟨b', e', _, h4, _⟩ := h.zz _ hz
    injection e' with e'
    injection e' with e'
    injection e' with e'
    omega⟩
theorem CbS.newOwn (h : CbS hk C0 E0 R Z Bx K1 K2 W o0 o1 o2 c m x y z s w) {w' : World} {g : Nat} (hg : w.heap.size ≤ g ∧ g < w'.heap.size) : newC W o0 z w' g :=
  ⟨h.new hg, fun b n' m' e => by
    obtain ⟨g', e', h1, _⟩ := h.k0 _ e
    injection e' with e'
    injection e' with e'
    injection e' with e'
    have := h1.2.1
    omega⟩
theorem CbS.key (hS : Stays R Bx K1 K2) (h : CbS hk C0 E0 R Z Bx K1 K2 W o0 none o2 c m x y z s w) (hh : hk = false) {u : Value} (hb : Below w.heap.size w w') (hu : K1 (fun g => w.heap.size ≤ g ∧ g < w'.heap.size) w' u) : CbS hk C0 E0 R Z Bx K1 K2 W o0 (some u) o2 c m x y z s w' :=
  { h.more hS hb with
    k0 := fun u' e => by
      obtain ⟨g, e1, h1, _⟩ := (h.more hS hb).k0 u' e
      exact ⟨g, e1, h1, fun e => by cases e⟩
    dk := fun h1 _ => by rw [hh] at h1; cases h1
    d1 := fun h1 _ => by rw [hh] at h1; cases h1
    k1 := fun u' e => by injection e with e; exact e ▸ hS.w1 hu fun g hg => h.new hg }
theorem CbS.vers (hS : Stays R Bx K1 K2) (h : CbS hk C0 E0 R Z Bx K1 K2 W o0 o1 none c m x y z s w) {u : Value} (hb : Below w.heap.size w w') (hu : K2 (fun g => w.heap.size ≤ g ∧ g < w'.heap.size) w' u) : CbS hk C0 E0 R Z Bx K1 K2 W o0 o1 (some u) c m x y z s w' :=
  { h.more hS hb with k2 := fun u' e => by injection e with e; exact e ▸ hS.w2 hu fun g hg => h.newOwn hg }
theorem CbS.call (hS : Stays R Bx K1 K2) (h : CbS hk C0 E0 R Z Bx K1 K2 W o0 o1 o2 none m x y z s w) (hd : hk = true → o1 ≠ none) {v e : Value} (hb : Below w.heap.size w w') (hr : R (fun g => w.heap.size ≤ g ∧ g < w'.heap.size) w' v e) : CbS hk C0 E0 R Z Bx K1 K2 W o0 o1 o2 (some (.tuple #[v, e])) m x y z s w' := by
  have h2 := h.more hS hb
  have hm : m = none := by
    cases hm : m with
    | none => rfl
    | some u => have := h.mv u hm; cases this
  exact { h2 with
    rr := fun u hu => by
      injection hu with hu
      exact ⟨v, e, hu.symm, hS.weak hr fun g hg => h.newOwn hg⟩
    mv := fun u hu => by rw [hm] at hu; cases hu
    sc := fun _ => by simp
    dk := fun h1 _ => ⟨h.d1 h1 (hd h1), hd h1⟩ }
theorem CbS.move {u : Value} (h : CbS hk C0 E0 R Z Bx K1 K2 W o0 o1 o2 (some u) none x y z s w) : CbS hk C0 E0 R Z Bx K1 K2 W o0 o1 o2 (some u) (some u) x y z s w :=
  { h with
    mv := fun _ e => e
    mx := fun u' hu => by obtain ⟨e, h2⟩ := h.mx u' hu; cases h2
    my := fun u' hu => by obtain ⟨e, h2⟩ := h.my u' hu; cases h2 }
theorem CbS.tup {u : Value} (h : CbS hk C0 E0 R Z Bx K1 K2 W o0 o1 o2 c (some u) x y z s w) : ∃ v e, u = .tuple #[v, e] := by
  obtain ⟨v, e, h1, _⟩ := h.rr u (h.mv u rfl)
  exact ⟨v, e, h1⟩
theorem CbS.ex0 {v e : Value} (h : CbS hk C0 E0 R Z Bx K1 K2 W o0 o1 o2 c (some (.tuple #[v, e])) none y z s w) : CbS hk C0 E0 R Z Bx K1 K2 W o0 o1 o2 c (some (.tuple #[v, e])) (some v) y z s w :=
  { h with
    mx := fun u hu => by injection hu with hu; exact ⟨e, by rw [hu]⟩
    ss := fun u hu => by obtain ⟨b, v', _, e2, _⟩ := h.ss u hu; cases e2 }
theorem CbS.ex1 {v e : Value} (h : CbS hk C0 E0 R Z Bx K1 K2 W o0 o1 o2 c (some (.tuple #[v, e])) x none z s w) : CbS hk C0 E0 R Z Bx K1 K2 W o0 o1 o2 c (some (.tuple #[v, e])) x (some e) z s w :=
  { h with my := fun u hu => by injection hu with hu; exact ⟨v, by rw [hu]⟩ }
theorem CbS.alloc (hS : Stays R Bx K1 K2) (h : CbS hk C0 E0 R Z Bx K1 K2 W o0 o1 o2 c m x y none s w) (hb : Below w.heap.size w w') (hz : w'.heap[w.heap.size]? = some Z) : CbS hk C0 E0 R Z Bx K1 K2 W o0 o1 o2 c m x y (some (.pointer (some ⟨w.heap.size, 0, none⟩))) s w' := by
  have h2 := h.more hS hb
  have hn : ∀ k, newB W none w k → newB W (some (.pointer (some ⟨w.heap.size, 0, none⟩))) w' k := fun k hk => ⟨hk.1, Nat.lt_of_lt_of_le hk.2.1 hb.size, fun b e2 => by
    injection e2 with e2
    injection e2 with e2
    injection e2 with e2
    injection e2 with e2
    have := hk.2.1
    omega⟩
  have hn2 : ∀ k, newC W o0 none w k → newC W o0 (some (.pointer (some ⟨w.heap.size, 0, none⟩))) w' k := fun k hk => ⟨hn k hk.1, hk.2⟩
  exact { h2 with
    k0 := fun u hu => by
      obtain ⟨g, e, h1, h3⟩ := h.k0 u hu
      exact ⟨g, e, hn g h1, fun h4 => (hb.block g h1.2.1).trans (h3 h4)⟩
    k1 := fun u hu => hS.w1 (hS.s1 (h.k1 u hu) fun k hk => hb.block k hk.2.1) hn
    k2 := fun u hu => hS.w2 (hS.s2 (h.k2 u hu) fun k hk => hb.block k hk.1.2.1) hn2
    rr := fun u hu => by
      obtain ⟨v, e, e1, h1⟩ := h.rr u hu
      exact ⟨v, e, e1, hS.weak (hS.keep h1 fun k hk => hb.block k hk.1.2.1) hn2⟩
    zz := fun u hu => by
      injection hu with hu
      exact ⟨_, hu.symm, h.be.size, (Array.getElem?_eq_some_iff.1 hz).1, fun _ => hz⟩
    ss := fun u hu => by obtain ⟨b, v', e1, _, _⟩ := h.ss u hu; cases e1 }
theorem CbS.box {p : Value} (h : CbS hk C0 E0 R Z Bx K1 K2 W o0 o1 o2 c m x y (some p) none w) : ∃ b, p = .pointer (some ⟨b, 0, none⟩) ∧ w.heap[b]? = some Z := by
  obtain ⟨b, e, _, _, h3⟩ := h.zz p rfl
  exact ⟨b, e, h3 rfl⟩
theorem CbS.sto (hS : Stays R Bx K1 K2) {v u : Value} {b : Nat} (h : CbS hk C0 E0 R Z Bx K1 K2 W o0 o1 o2 c m (some v) y (some (.pointer (some ⟨b, 0, none⟩))) none w) (hg : w.grownBy w' (some b)) (hx : Bx w' b v) : CbS hk C0 E0 R Z Bx K1 K2 W o0 o1 o2 c m (some v) y (some (.pointer (some ⟨b, 0, none⟩))) (some u) w' := by
  obtain ⟨b', e, hb1, hb2, _⟩ := h.zz _ rfl
  injection e with e
  injection e with e
  injection e with e
  subst e
  obtain ⟨e0, hm⟩ := h.mx v rfl
  have hc := h.mv _ hm
  have hne : c ≠ none := by rw [hc]; simp
  have hbe : Below W.heap.size W w' := h.be.grown hg h.be.size fun k e => by injection e with e; omega
  have hkb : ∀ k, newB W (some (.pointer (some ⟨b, 0, none⟩))) w k → w'.heap[k]? = w.heap[k]? := fun k hk => hg.block k hk.2.1 fun e2 => by injection e2 with e2; exact hk.2.2 _ rfl e2
  have hsz : ∀ k, newB W (some (.pointer (some ⟨b, 0, none⟩))) w k → newB W (some (.pointer (some ⟨b, 0, none⟩))) w' k := fun k hk => ⟨hk.1, Nat.lt_of_lt_of_le hk.2.1 hg.size, hk.2.2⟩
  exact { h with
    be := hbe
    k0 := fun u hu => by
      obtain ⟨g, e, h1, h3⟩ := h.k0 u hu
      exact ⟨g, e, hsz g h1, fun h4 => (hkb g h1).trans (h3 h4)⟩
    k1 := fun u hu => hS.w1 (hS.s1 (h.k1 u hu) hkb) hsz
    k2 := fun u hu => hS.w2 (hS.s2 (h.k2 u hu) fun k hk => hkb k hk.1) fun k hk => ⟨hsz k hk.1, hk.2⟩
    rr := fun u hu => by
      obtain ⟨v, e, e1, h1⟩ := h.rr u hu
      exact ⟨v, e, e1, hS.weak (hS.keep h1 fun k hk => hkb k hk.1) fun k hk => ⟨hsz k hk.1, hk.2⟩⟩
    zz := fun u hu => by
      injection hu with hu
      exact ⟨b, hu.symm, hb1, Nat.lt_of_lt_of_le hb2 hg.size, fun e => by cases e⟩
    sc := fun _ => hne
    ss := fun _ _ => ⟨b, v, rfl, rfl, hx⟩ }
theorem CbS.done (hR : RdP R) {u1 u2 u3 u4 u5 : Value} (h : CbS hk C0 E0 R Z Bx K1 K2 W o0 o1 o2 (some u1) (some u2) (some u3) (some u4) (some u5) s w) (hs : s ≠ none) : ∃ b, u5 = .pointer (some ⟨b, 0, none⟩) ∧ u2 = .tuple #[u3, u4] ∧ u1 = .tuple #[u3, u4] ∧ W.heap.size ≤ b ∧ Bx w b u3 ∧ R (fun g => W.heap.size ≤ g ∧ g < w.heap.size ∧ g ≠ b) w u3 u4 ∧ Below W.heap.size W w := by
  obtain ⟨u, rfl⟩ := Option.ne_none_iff_exists'.1 hs
  obtain ⟨b, v, e1, e2, h1⟩ := h.ss u rfl
  obtain ⟨e, h2⟩ := h.mx u3 rfl
  obtain ⟨e', h3⟩ := h.my u4 rfl
  have h4 := h.mv _ h2
  injection e1 with e1
  injection e2 with e2
  injection h2 with h2
  injection h3 with h3
  subst e1 e2
  rw [h2] at h3
  injection h3 with h3
  injection h3 with h3
  injection h3 with e5 h3
  injection h3 with e6 _
  subst e5 e6 h2
  injection h4 with h4
  subst h4
  obtain ⟨v', e', e7, h5⟩ := h.rr _ rfl
  injection e7 with e7
  injection e7 with e7
  injection e7 with e8 e7
  injection e7 with e9 _
  subst e8 e9
  obtain ⟨b', e, hb1, _, _⟩ := h.zz _ rfl
  injection e with e
  injection e with e
  injection e with e
  subst e
  exact ⟨b, rfl, rfl, rfl, hb1, h1, hR.weak h5 fun k hk => ⟨hk.1.1, hk.1.2.1, hk.1.2.2 _ rfl⟩, h.be⟩
def CbL (C0 : Array Value) (E0 : TypeId) (R : (Nat → Prop) → World → Value → Value → Prop) (Z : Obj) (Bx : World → Nat → Value → Prop) (K1 K2 : (Nat → Prop) → World → Value → Prop) (W : World) : List (Option Value) → World → Prop
  | [c, m, x, y, z, s], w => CbS false C0 E0 R Z Bx K1 K2 W none none none c m x y z s w
  | [o0, o1, o2, c, m, x, y, z, s], w => CbS true C0 E0 R Z Bx K1 K2 W o0 o1 o2 c m x y z s w
  | _, _ => False
def CbK (C0 : Array Value) (E0 : TypeId) (R : (Nat → Prop) → World → Value → Value → Prop) (Z : Obj) (Bx : World → Nat → Value → Prop) (K1 K2 : (Nat → Prop) → World → Value → Prop) (W : World) : List (Option Value) → World → Prop
  | [o1, c, m, x, y, z, s], w => CbS false C0 E0 R Z Bx K1 K2 W none o1 none c m x y z s w
  | [o1, o2, c, m, x, y, z, s], w => CbS false C0 E0 R Z Bx K1 K2 W none o1 o2 c m x y z s w
  | _, _ => False
theorem CbK.below : ∀ {l : List (Option Value)} {w : World}, CbK C0 E0 R Z Bx K1 K2 W l w → Below W.heap.size W w
  | [_, _, _, _, _, _, _], _, h => CbS.be h
  | [_, _, _, _, _, _, _, _], _, h => CbS.be h
theorem CbK.more (hS : Stays R Bx K1 K2) : ∀ (l : List (Option Value)) (w w' : World), CbK C0 E0 R Z Bx K1 K2 W l w → Below w.heap.size w w' → CbK C0 E0 R Z Bx K1 K2 W l w'
  | [_, _, _, _, _, _, _], _, _, h, hb => CbS.more hS h hb
  | [_, _, _, _, _, _, _, _], _, _, h, hb => CbS.more hS h hb
end
end Go.Proofs.YtpdnehgboafgpaaDoor
namespace Go.Proofs.YtpdnehgboafgpaaDoor
open Go.RowKit
def LsR (r : List Lk × List Lk × Nat) (S : Nat → Prop) (w : World) (v e : Value) : Prop := e = .int .i64 (r.2.2 : Nat) ∧ RdLs S w v r.1 r.2.1
def LsB (w : World) (b : Nat) (v : Value) : Prop := ∃ x y, v = .agg #[x, y] ∧ BoxN w b 24 [x, y]
def zLs : Obj := .cells [Value.slice none 0 0, .slice none 0 0].toArray 24 (0, 0)
def LkV (x : Lk) (S : Nat → Prop) (w : World) (v : Value) : Prop := RdLk S w v x
def LlV (l : List Lk) (S : Nat → Prop) (w : World) (v : Value) : Prop := ∃ a c, v = .slice a l.length c ∧ RdL Elt.lk S w (.slice a l.length c) l
def AnyVk (_ : Nat → Prop) (_ : World) (_ : Value) : Prop := True
theorem lsR (r : List Lk × List Lk × Nat) : RdP (LsR r) where
  keep := fun ⟨e, h⟩ hk => ⟨e, h.keep hk⟩
  weak := fun ⟨e, h⟩ hk => ⟨e, h.weak hk⟩
theorem lsStays (r : List Lk × List Lk × Nat) (x : Lk) : Stays (LsR r) LsB (LkV x) AnyVk where
  toRdP := lsR r
  bx := fun ⟨x, y, e, h⟩ hb => ⟨x, y, e, h.below hb h.lt⟩
  s1 := fun h hk => RdLk.keep h hk
  w1 := fun h hk => RdLk.weak h hk
  s2 := fun _ _ => trivial
  w2 := fun _ _ => trivial
theorem lsStays2 (r : List Lk × List Lk × Nat) (l : List Lk) (x : Lk) : Stays (LsR r) LsB (LlV l) (LkV x) where
  toRdP := lsR r
  bx := fun ⟨x, y, e, h⟩ hb => ⟨x, y, e, h.below hb h.lt⟩
  s1 := fun ⟨a, c, e, h⟩ hk => ⟨a, c, e, h.keep hk⟩
  w1 := fun ⟨a, c, e, h⟩ hk => ⟨a, c, e, h.weak hk⟩
  s2 := fun h hk => RdLk.keep h hk
  w2 := fun h hk => RdLk.weak h hk
section
variable {hk : Bool} {C0 : Array Value} {E0 : TypeId} {r : List Lk × List Lk × Nat} {Z : Obj} {K1 K2 : (Nat → Prop) → World → Value → Prop} {W w : World} {o0 o1 o2 c m x z s : Option Value}
theorem CbS.errL {Bx : World → Nat → Value → Prop} {u : Value} (h : CbS hk C0 E0 (LsR r) Z Bx K1 K2 W o0 o1 o2 c m x (some u) z s w) : u = .int .i64 (r.2.2 : Nat) := by
  obtain ⟨v, e1⟩ := h.my u rfl
  obtain ⟨v', e', e2, e3, _⟩ := h.rr _ (h.mv _ e1)
  injection e2 with e2
  injection e2 with e2
  injection e2 with _ e2
  injection e2 with e2 _
  rw [e2, e3]
theorem CbS.locks {u1 u2 u3 u4 u5 : Value} (h : CbS hk C0 E0 (LsR r) Z LsB K1 K2 W o0 o1 o2 (some u1) (some u2) (some u3) (some u4) (some u5) s w) (hs : s ≠ none) :
    ∃ (b : Nat) (a : Option Addr) (c : Nat) (m : Option Addr) (n : Nat), u5 = .pointer (some ⟨b, 0, none⟩) ∧ u2 = .tuple #[.agg #[.slice a r.1.length c, .slice m r.2.1.length n], .int .i64 (r.2.2 : Nat)] ∧ u1 = .tuple #[.agg #[.slice a r.1.length c, .slice m r.2.1.length n], .int .i64 (r.2.2 : Nat)] ∧ u3 = .agg #[.slice a r.1.length c, .slice m r.2.1.length n] ∧ u4 = .int .i64 (r.2.2 : Nat) ∧
      BoxN w b 24 [.slice a r.1.length c, .slice m r.2.1.length n] ∧ RdL Elt.lk (fun _ => True) w (.slice a r.1.length c) r.1 ∧ RdL Elt.lk (fun _ => True) w (.slice m r.2.1.length n) r.2.1 ∧ Below W.heap.size W w := by
  obtain ⟨b, e5, e2, e1, _, ⟨p, q, e3, hB⟩, ⟨e4, a, c, m, n, e6, h1, h2⟩, hb⟩ := CbS.done (lsR r) h hs
  rw [e3] at e6
  injection e6 with e6
  injection e6 with e6
  injection e6 with e7 e6
  injection e6 with e8 _
  subst e7 e8
  refine ⟨b, a, c, m, n, e5, ?_, ?_, e3, e4, hB, h1.weak fun _ _ => trivial, h2.weak fun _ _ => trivial, hb⟩
  · rw [e2, e3, e4]
  · rw [e1, e3, e4]
end
def E7 (r : List Lk × List Lk × Nat) (l : List Lk) (x : Lk) (W : World) : List (Option Value) → World → Prop
  | [k, v, p, c, m, x1, y, z, s], w => CbS false #[] 5 (LsR r) zLs LsB (LlV l) (LkV x) W none k p c m x1 y z s w ∧ ∀ u, v = some u → ∃ g, k = some g ∧ u = .agg #[g, .slice none 0 0]
  | _, _ => False
theorem E7.more {r : List Lk × List Lk × Nat} {l : List Lk} {x : Lk} {W : World} : ∀ (t : List (Option Value)) (w w' : World), E7 r l x W t w → Below w.heap.size w w' → E7 r l x W t w'
  | [_, _, _, _, _, _, _, _, _], _, _, ⟨h, h1⟩, hb => ⟨CbS.more (lsStays2 r l x) h hb, h1⟩
end Go.Proofs.YtpdnehgboafgpaaDoor
