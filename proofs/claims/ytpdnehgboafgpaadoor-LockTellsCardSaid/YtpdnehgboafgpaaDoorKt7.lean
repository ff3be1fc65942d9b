/-
  TEXTS OF ONE PROOF, merged: LkK, LkL.
-/
import Derived.Test.YtpdnehgboafgpaaDoorKt6
namespace Go.Proofs.YtpdnehgboafgpaaDoor
open Go.RowKit Go.Shelf
theorem OwnL.numK {Te : TypeId} {base lo : Nat} {w w' : World} {v : Value} {xs : List Int} (h : OwnL Elt.int Te base lo w v xs) (hk : ∀ g, v.ownBlock = some g → w'.heap[g]? = w.heap[g]?) : OwnL Elt.int Te base lo w' v xs := by
  obtain ⟨vs, h1, h2⟩ := h
  obtain ⟨e, hw⟩ := flat_int.1 h2
  exact ⟨vs, ⟨h1.1, h1.2.imp id fun ⟨g, cap, cur, hv, hb, hg, r⟩ => ⟨g, cap, cur, hv, hb, (hk g (by rw [hv]; rfl)).trans hg, r⟩⟩, flat_int.2 ⟨e, hw⟩⟩
set_option maxRecDepth 100000 in
set_option maxHeartbeats 4000000 in
theorem drop1_yes (w : World) (hT : TabAt w) {S S2 S3 : Nat → Prop} {x : Lk} {x1 x3 aH aQ : Option Addr} {x2 x4 cH cQ bC : Nat} {H Q : List Lk} (hx : RdLk S w (.agg #[.int .i64 x.owner, .bool x.whole, .int .i64 x.span.table, .slice x1 x.span.lo.length x2, .slice x3 x.span.hi.length x4, .bool x.span.isOpen, .int .i64 x.mode]) x)
    (hH : RdL Elt.lk S2 w (.slice aH H.length cH) H) (hQ : RdL Elt.lk S3 w (.slice aQ Q.length cQ) Q) (hb : blk x H Q = true) :
    Calls Tryd.prog 56 #[.agg #[.int .i64 x.owner, .bool x.whole, .int .i64 x.span.table, .slice x1 x.span.lo.length x2, .slice x3 x.span.hi.length x4, .bool x.span.isOpen, .int .i64 x.mode, .slice aH H.length cH, .slice aQ Q.length cQ], .pointer (some ⟨bC, 0, none⟩)] w fun e w' => e = .returned (.int .i64 0) ∧ Below w.heap.size w w' := by
  obtain ⟨W, hW, q, Bx, hsz⟩ := spBox w 61 [.int .i64 x.owner, .bool x.whole, .int .i64 x.span.table, .slice x1 x.span.lo.length x2, .slice x3 x.span.hi.length x4, .bool x.span.isOpen, .int .i64 x.mode, .slice aH H.length cH, .slice aQ Q.length cQ]
  clear hsz
  replace hb := Lib.hid hb
  have hC1 := blocked_any W (hT.below q) (hx.below q) (hH.below q) (hQ.below q)
  go_enter Tryd.func56, Tryd.ntmps56
  go_upto_region 1 with (fail)
  rw [show w.alloc (.cells #[.int .i64 x.owner, .bool x.whole, .int .i64 x.span.table, .slice x1 x.span.lo.length x2, .slice x3 x.span.hi.length x4, .bool x.span.isOpen, .int .i64 x.mode, .slice aH H.length cH, .slice aQ Q.length cQ] 61) = W from hW.symm]
  clear hW
  have c0 := Bx.cell (i := 0) rfl
  have c1 := Bx.cell (i := 1) rfl
  have c2 := Bx.cell (i := 2) rfl
  have c3 := Bx.cell (i := 3) rfl
  have c4 := Bx.cell (i := 4) rfl
  have c5 := Bx.cell (i := 5) rfl
  have c6 := Bx.cell (i := 6) rfl
  have c7 := Bx.cell (i := 7) rfl
  have c8 := Bx.cell (i := 8) rfl
  go_wp2_with fail
  refine hC1.mono ?_
  rintro e w1 ⟨rfl, hb1⟩
  have q1 := q.trans (hb1.mono q.size)
  have Bx1 := Bx.below hb1 Bx.lt
  clear c0 c1 c2 c3 c4 c5 c6 c7 c8 hC1
  rw [hb.out]
  clear hb
  go_wp2_with fail
  go_ret
  exact ⟨rfl, q1⟩
set_option maxRecDepth 100000 in
set_option maxHeartbeats 4000000 in
theorem drop1_no (w : World) (hT : TabAt w) {S S2 S3 : Nat → Prop} {x : Lk} {x1 x3 aH aQ aC : Option Addr} {x2 x4 cH cQ bC kC base lo : Nat} {H Q : List Lk} {l : List Int} (hx : RdLk S w (.agg #[.int .i64 x.owner, .bool x.whole, .int .i64 x.span.table, .slice x1 x.span.lo.length x2, .slice x3 x.span.hi.length x4, .bool x.span.isOpen, .int .i64 x.mode]) x)
    (hH : RdL Elt.lk S2 w (.slice aH H.length cH) H) (hQ : RdL Elt.lk S3 w (.slice aQ Q.length cQ) Q) (hC : BoxN w bC 34 [.slice aC l.length kC]) (hO : OwnL Elt.int 3 base lo w (.slice aC l.length kC) l) (hbC : bC < base) (hbw : base ≤ w.heap.size) (ho : W64 x.owner) (hn : l.length ≤ 1000000) (hb : blk x H Q = false) :
    Calls Tryd.prog 56 #[.agg #[.int .i64 x.owner, .bool x.whole, .int .i64 x.span.table, .slice x1 x.span.lo.length x2, .slice x3 x.span.hi.length x4, .bool x.span.isOpen, .int .i64 x.mode, .slice aH H.length cH, .slice aQ Q.length cQ], .pointer (some ⟨bC, 0, none⟩)] w fun e w' => e = .returned (.int .i64 1) ∧ (∃ a' k', BoxN w' bC 34 [.slice a' (l ++ [x.owner]).length k'] ∧ OwnL Elt.int 3 base lo w' (.slice a' (l ++ [x.owner]).length k') (l ++ [x.owner]) ∧ (Value.ownBlock (.slice a' (l ++ [x.owner]).length k') = Value.ownBlock (.slice aC l.length kC) ∨ Value.ownBlock (.slice a' (l ++ [x.owner]).length k') = some w'.heap.size ∨ ∃ k, Value.ownBlock (.slice a' (l ++ [x.owner]).length k') = some k ∧ w.heap.size ≤ k)) ∧ Trd (fun k => k = bC ∨ Value.ownBlock (.slice aC l.length kC) = some k) w w' := by
  obtain ⟨W, hW, q, Bx, hsz⟩ := spBox w 61 [.int .i64 x.owner, .bool x.whole, .int .i64 x.span.table, .slice x1 x.span.lo.length x2, .slice x3 x.span.hi.length x4, .bool x.span.isOpen, .int .i64 x.mode, .slice aH H.length cH, .slice aQ Q.length cQ]
  clear hsz
  replace hb := Lib.hid hb
  have hC1 := blocked_any W (hT.below q) (hx.below q) (hH.below q) (hQ.below q)
  go_enter Tryd.func56, Tryd.ntmps56
  go_upto_region 1 with (fail)
  rw [show w.alloc (.cells #[.int .i64 x.owner, .bool x.whole, .int .i64 x.span.table, .slice x1 x.span.lo.length x2, .slice x3 x.span.hi.length x4, .bool x.span.isOpen, .int .i64 x.mode, .slice aH H.length cH, .slice aQ Q.length cQ] 61) = W from hW.symm]
  clear hW
  have c0 := Bx.cell (i := 0) rfl
  have c1 := Bx.cell (i := 1) rfl
  have c2 := Bx.cell (i := 2) rfl
  have c3 := Bx.cell (i := 3) rfl
  have c4 := Bx.cell (i := 4) rfl
  have c5 := Bx.cell (i := 5) rfl
  have c6 := Bx.cell (i := 6) rfl
  have c7 := Bx.cell (i := 7) rfl
  have c8 := Bx.cell (i := 8) rfl
  go_wp2_with fail
  refine hC1.mono ?_
  rintro e w1 ⟨rfl, hb1⟩
  have q1 := q.trans (hb1.mono q.size)
  have Bx1 := Bx.below hb1 Bx.lt
  clear c0 c1 c2 c3 c4 c5 c6 c7 c8 hC1
  rw [hb.out]
  clear hb
  have hC1 := hC.below q1 hC.lt
  have hO1 := hO.below q1
  have f0 := Bx1.cell (i := 0) rfl
  have g0 := hC1.cell (i := 0) rfl
  have hrr : ∀ k, Value.ownBlock (.slice aC l.length kC) = some k → base ≤ k ∧ k < w1.heap.size := fun k hk => hO1.block_lt k hk
  have hR : ∀ V, Elt.int.R (fun k => w.heap.size ≤ k ∧ k < w.heap.size) V x.owner [.int .i64 x.owner] := fun V => ⟨rfl, ho⟩
  have hSV : ∀ V : World, ∀ k, (w.heap.size ≤ k ∧ k < w.heap.size) → lo ≤ k ∧ k < V.heap.size ∧ some k ≠ Value.ownBlock (.slice aC l.length kC) := fun V k hk => by omega
  have hbs : ∀ V : World, Below w1.heap.size w1 V → base ≤ V.heap.size := fun V h => by have := h.size; have := q1.size; omega
  have hbr : Value.ownBlock (.slice aC l.length kC) ≠ some bC := fun e => by have := hrr _ e; omega
  go_wp2_with (first
    | (refine wpList_buildOne inP rfl rfl rfl (us := [.int .i64 x.owner]) rfl rfl (by decide) (by decide) ?_; intro w6 hb6 hrow)
    | (refine wpList_apvRow (E := Elt.int) (n := l.length + 1) inP rfl rfl rfl rfl (hO1.below hb6) hrow (hR _) (hSV _) (hbs _ hb6) (by omega) rfl ?_; intro ad9 c9 w7 hO9 hg7 ho9)
    | (refine wpList_boxSet (j := 0) rfl rfl rfl (by kernel_rfl) rfl rfl rfl rfl ((hC1.below hb6 hC1.lt).other hg7 hbr) (by simp) ?_; intro w8 hg8 hB8)
    | fail)
  go_ret
  have z6 := hb6.size
  have z7 := hg7.size
  have z8 := hg8.size
  have z1 := q1.size
  have hln : (l ++ [x.owner]).length = l.length + 1 := by rw [List.length_append]; rfl
  have hob9 := fun k hk => hO9.block_lt k hk
  have hne9 : Value.ownBlock (.slice ad9 (l.length + 1) c9) ≠ some bC := fun e => by have := (hob9 _ e).1; omega
  refine ⟨rfl, ⟨ad9, c9, hB8, ?_, ?_⟩, ?_⟩
  · exact hO9.numK (fun g hg => hg8.block g (hob9 g hg).2 fun e => hne9 (hg.trans (by rw [e])))
  · rcases ho9 with e | e
    · exact .inl e
    · exact .inr (.inr ⟨_, e, by omega⟩)
  · exact ((Trd.of (q1.trans (hb6.mono q1.size))).trans (Trd.ofGrown hg7 (F := fun k => k = bC ∨ Value.ownBlock (.slice aC l.length kC) = some k) (fun k e => .inr e)) (fun _ _ h => h)).trans (Trd.ofGrown hg8 (F := fun k => k = bC ∨ Value.ownBlock (.slice aC l.length kC) = some k) (fun k e => by injection e with e; exact .inl e.symm)) (fun _ _ h => h)
theorem goD_cons (H Q : List Lk) (x : Lk) (l : List Lk) (c : List Int) : goD H Q (x :: l) c = if blk x H Q = true then goD H (Q ++ [x]) l c else goD (heldA x H) Q l (c ++ [x.owner]) := rfl
theorem eDrop1 : Enters Tryd.prog 56 := enters_of Tryd.func56 (by kernel_rfl) rfl
theorem OwnF.lk {T : TypeId} {D : Nat → Prop} {w : World} {a : Option Addr} {n c : Nat} {l : List Lk} (h : OwnF Elt.lk T D w (.slice a n c) l) (r : Nat) (hr : r < l.length) :
    ∃ b A C A2 C2, a = some ⟨b, 0, none⟩ ∧ w.cell? ⟨b, r * 7, none⟩ = some (.int .i64 l[r].owner) ∧ w.cell? ⟨b, r * 7 + 1, none⟩ = some (.bool l[r].whole) ∧ w.cell? ⟨b, r * 7 + 2, none⟩ = some (.int .i64 l[r].span.table) ∧ w.cell? ⟨b, r * 7 + 3, none⟩ = some (.slice A l[r].span.lo.length C) ∧
      w.cell? ⟨b, r * 7 + 4, none⟩ = some (.slice A2 l[r].span.hi.length C2) ∧ w.cell? ⟨b, r * 7 + 5, none⟩ = some (.bool l[r].span.isOpen) ∧ w.cell? ⟨b, r * 7 + 6, none⟩ = some (.int .i64 l[r].mode) ∧
      RdS D w (.slice A l[r].span.lo.length C) l[r].span.lo ∧ RdS D w (.slice A2 l[r].span.hi.length C2) l[r].span.hi ∧ Lk64 l[r] := by
  obtain ⟨vs, h1, h2⟩ := h
  rcases h1.cases with ⟨_, h0, _⟩ | ⟨g, cap, cur, e, hg, _⟩
  · omega
  cases e
  obtain ⟨us, ⟨k, u, rfl, hk, hu, hi⟩, h4⟩ := h2.at r hr
  obtain ⟨A, C, rfl, _, _⟩ := hk.shape
  obtain ⟨A2, C2, rfl, _, _⟩ := hu.shape
  have hc : ∀ j u, (lkC l[r] (.slice A l[r].span.lo.length C) (.slice A2 l[r].span.hi.length C2))[j]? = some u → w.cell? ⟨g, r * 7 + j, none⟩ = some u := fun j u hj => h1.cell rfl (h4 j u hj)
  exact ⟨g, A, C, A2, C2, rfl, hc 0 _ rfl, hc 1 _ rfl, hc 2 _ rfl, hc 3 _ rfl, hc 4 _ rfl, hc 5 _ rfl, hc 6 _ rfl, hk, hu, hi⟩
def TakeEnd (B : Nat) (D : Nat → Prop) (bC : Nat) (r : List Lk × List Lk × List Int) (fp : Nat → Prop) (w : World) (e : Ending) (w' : World) : Prop :=
  ∃ a c a2 c2 a3 c3, e = .returned (.agg #[.slice a r.1.length c, .slice a2 r.2.1.length c2]) ∧ OwnF Elt.lk 29 D w' (.slice a r.1.length c) r.1 ∧ OwnF Elt.lk 29 D w' (.slice a2 r.2.1.length c2) r.2.1 ∧ BoxN w' bC 34 [.slice a3 r.2.2.length c3] ∧ OwnL Elt.int 3 B B w' (.slice a3 r.2.2.length c3) r.2.2 ∧
    (∀ g, Value.ownBlock (.slice a r.1.length c) = some g → (fp g ∨ B ≤ g) ∧ g ≠ bC) ∧ (∀ g, Value.ownBlock (.slice a2 r.2.1.length c2) = some g → B ≤ g ∧ Value.ownBlock (.slice a r.1.length c) ≠ some g) ∧ (∀ g, Value.ownBlock (.slice a3 r.2.2.length c3) = some g → Value.ownBlock (.slice a r.1.length c) ≠ some g ∧ Value.ownBlock (.slice a2 r.2.1.length c2) ≠ some g) ∧ Trd fp w w'
set_option maxRecDepth 100000 in
set_option maxHeartbeats 8000000 in
theorem take_any (w : World) (hT : TabAt w) {D : Nat → Prop} {aH aL : Option Addr} {cH cL bC : Nat} {H0 Q : List Lk} (hH : OwnF Elt.lk 29 D w (.slice aH H0.length cH) H0) (hQ : OwnF Elt.lk 29 D w (.slice aL Q.length cL) Q) (hC : BoxN w bC 34 [.slice none 0 0]) (hn : H0.length + Q.length ≤ 1000000)
    (hD : ∀ k, D k → k < w.heap.size ∧ Value.ownBlock (.slice aH H0.length cH) ≠ some k ∧ Value.ownBlock (.slice aL Q.length cL) ≠ some k ∧ k ≠ bC) (hHQ : ∀ k, Value.ownBlock (.slice aH H0.length cH) = some k → Value.ownBlock (.slice aL Q.length cL) ≠ some k ∧ k ≠ bC ∧ k ≠ 0) (hQC : Value.ownBlock (.slice aL Q.length cL) ≠ some bC) (hC0 : bC ≠ 0) :
    Calls Tryd.prog 41 #[.agg #[.slice aH H0.length cH, .slice aL Q.length cL], .func (.func 56) #[] #[.pointer (some ⟨bC, 0, none⟩)]] w (TakeEnd w.heap.size D bC (goD H0 [] Q []) (fun k => k = bC ∨ Value.ownBlock (.slice aH H0.length cH) = some k) w) := by
  obtain ⟨fp, efp⟩ : ∃ fp : Nat → Prop, fp = (fun k => k = bC ∨ Value.ownBlock (.slice aH H0.length cH) = some k) := ⟨_, rfl⟩
  have hfp : ∀ k, fp k → k < w.heap.size := fun k hk => by rw [efp] at hk; exact hk.elim (fun e => by rw [e]; exact hC.lt) fun e => hH.lt e
  have hfD : ∀ k, D k → ¬ fp k := fun k hk h => by rw [efp] at h; exact h.elim (hD k hk).2.2.2 (hD k hk).2.1
  have hf0 : ¬ fp 0 := fun h => by rw [efp] at h; exact h.elim (fun e => hC0 e.symm) fun e => (hHQ 0 e).2.2 rfl
  have hfQ : ∀ k, Value.ownBlock (.slice aL Q.length cL) = some k → ¬ fp k := fun k hk h => by rw [efp] at h; exact h.elim (fun e => hQC (by rw [← e]; exact hk)) fun e => (hHQ k e).1 hk
  have hfC : fp bC := by rw [efp]; exact .inl rfl
  have hfH : ∀ k, Value.ownBlock (.slice aH H0.length cH) = some k → fp k ∧ k ≠ bC := fun k hk => ⟨by rw [efp]; exact .inr hk, (hHQ k hk).2.1⟩
  rw [← efp]
  have hDl : ∀ k, D k → k < w.heap.size := fun k hk => (hD k hk).1
  obtain ⟨W0, hW, q, bn, bz, hsz⟩ := boxes2 w 24 24 [.slice aH H0.length cH, .slice aL Q.length cL] [.slice none 0 0, .slice none 0 0]
  have hEE := eDrop1
  unfold Enters at hEE
  go_enter Tryd.func41, Tryd.ntmps41
  go_wp2
  go_step3
  go_upto_region 1 with (fail)
  rw [show (w.alloc (.cells #[.slice aH H0.length cH, .slice aL Q.length cL] 24)).alloc (.cells #[.slice none 0 0, .slice none 0 0] 24) = W0 from hW.symm]
  clear hW efp hD hHQ hQC hC0
  have zW : W0.heap.size = w.heap.size + 1 + 1 := hsz
  have zW2 : w.heap.size + 1 < W0.heap.size := by omega
  replace zW := Lib.hid zW
  clear hsz
  have b0 := bn.cell (i := 0) rfl
  go_upto_region 2 with (first | (refine wpList_boxNew (vs := [.slice none 0 0, .slice none 0 0]) (by kernel_rfl) rfl rfl ?_; intro wa hba hBa) | (refine wpList_boxStore (us := [.slice aH H0.length cH, .slice none 0 0]) (by kernel_rfl) rfl rfl rfl rfl rfl rfl hBa rfl ?_; intro W1 hg1 hB1) | fail)
  have hb1 : Below W0.heap.size W0 W1 := hba.grown hg1 hba.size fun k hk => by injection hk with hk; omega
  have qb := q.trans (hb1.mono q.size)
  have q1 : Trd fp w W1 := Trd.of qb
  have zL := hB1.lt
  have bn1 := bn.below hb1 bn.lt
  have bz1 := bz.below hb1 bz.lt
  have hH1 := hH.below qb hDl
  have hC1 := hC.below qb hC.lt
  have hHl0 : ∀ k, Value.ownBlock (.slice aH H0.length cH) = some k → k < w.heap.size := fun k hk => hH.lt hk
  clear b0 hba hBa hg1 hb1 bn bz q hH hC qb
  have b1 := bn1.cell (i := 1) rfl
  go_step3
  go_upto_region 3 with (fail)
  clear b1
  go_loopw [15] (fun iv wr => ∃ (k : Nat) (ad aHc aC : Option Addr) (ko cHc kC : Nat) (Hc Qc : List Lk) (cc : List Int), iv = .int .i64 k ∧ k ≤ Q.length ∧ goD Hc Qc (Q.drop k) cc = goD H0 [] Q [] ∧ Hc.length + Qc.length ≤ H0.length + k ∧ cc.length ≤ k ∧
      OwnF Elt.lk 29 D wr (.slice aHc Hc.length cHc) Hc ∧ OwnF Elt.lk 29 D wr (.slice ad Qc.length ko) Qc ∧ BoxN wr bC 34 [.slice aC cc.length kC] ∧ OwnL Elt.int 3 (W0.heap.size + 1) (W0.heap.size + 1) wr (.slice aC cc.length kC) cc ∧
      (∀ g, Value.ownBlock (.slice aHc Hc.length cHc) = some g → (fp g ∧ g ≠ bC) ∨ W0.heap.size < g) ∧ (∀ g, Value.ownBlock (.slice ad Qc.length ko) = some g → W0.heap.size < g ∧ Value.ownBlock (.slice aHc Hc.length cHc) ≠ some g) ∧ (∀ g, Value.ownBlock (.slice aC cc.length kC) = some g → Value.ownBlock (.slice aHc Hc.length cHc) ≠ some g ∧ Value.ownBlock (.slice ad Qc.length ko) ≠ some g) ∧
      BoxN wr W0.heap.size 24 [.slice aHc Hc.length cHc, .slice ad Qc.length ko] ∧ BoxN wr (w.heap.size + 1) 24 [.slice none 0 0, .slice none 0 0] ∧ Trd fp w wr)
    (fun i _ => Q.length - (intOf i).toNat)
  case atStart => exact ⟨0, none, aH, none, 0, cH, 0, H0, [], [], rfl, Nat.zero_le _, rfl, by simp, Nat.le_refl _, hH1, OwnF.nil _ _ _ _, hC1, OwnL.nil _ _ _ _ _, fun g hg => .inl (hfH g hg), fun g h => by simp [Value.ownBlock] at h, fun g h => by simp [Value.ownBlock] at h, hB1, bz1, q1⟩
  case round =>
    clear hB1 bz1 bn1 hH1 hC1
    obtain ⟨k, ad, aHc, aC, ko, cHc, kC, Hc, Qc, cc, rfl, hkl, hgo, hcnt, hcc, hHc, hQc, hC, hO, hoH, hoQ, hoC, hB, bz, q⟩ := hrel
    replace hgo := Lib.hid hgo
    have zz := q.size
    have hbCl0 : bC < w.heap.size := hfp bC hfC
    have hoHb : ∀ g, Value.ownBlock (.slice aHc Hc.length cHc) = some g → g ≠ bC := fun g hg => (hoH g hg).elim (fun h => h.2) fun h => by omega
    have hoHl : ∀ g, Value.ownBlock (.slice aHc Hc.length cHc) = some g → g ≠ W0.heap.size := fun g hg => (hoH g hg).elim (fun h => by have := hfp g h.1; omega) fun h => by omega
    have hoHz : ∀ g, Value.ownBlock (.slice aHc Hc.length cHc) = some g → g ≠ w.heap.size + 1 := fun g hg => (hoH g hg).elim (fun h => by have := hfp g h.1; omega) fun h => by omega
    have hoHD : ∀ k, D k → Value.ownBlock (.slice aHc Hc.length cHc) ≠ some k := fun k hk e => (hoH k e).elim (fun h => hfD k hk h.1) fun h => by have := hDl k hk; omega
    rcases Nat.lt_or_ge k Q.length with hlt | hge
    · have hQ2 := hQ.trd q hfQ (fun k hk => ⟨hDl k hk, hfD k hk⟩)
      obtain ⟨b, KA, KC, VA, VC, rfl, c0, c1, c2, c3, c4, c5, c6, hk1, hk2, hw64⟩ := hQ2.lk k hlt
      obtain ⟨x, ex⟩ : ∃ x, x = Q[k] := ⟨_, rfl⟩
      have hg1 := Lib.hid (show (blk x Hc Qc = true → goD Hc (Qc ++ [x]) (Q.drop (k + 1)) cc = goD H0 [] Q []) ∧ (blk x Hc Qc = false → goD (heldA x Hc) Qc (Q.drop (k + 1)) (cc ++ [x.owner]) = goD H0 [] Q []) by
        have h := hgo.out
        rw [List.drop_eq_getElem_cons hlt, ← ex] at h
        rw [goD_cons] at h
        exact ⟨fun hb => by rw [if_pos hb] at h; exact h, fun hb => by rw [if_neg (by rw [hb]; decide)] at h; exact h⟩)
      rw [← ex] at c0 c1 c2 c3 c4 c5 c6 hk1 hk2 hw64
      clear ex hgo
      go_upto_region 5 with (first | (refine wpList_boxNew (vs := [.int .i64 0, .bool false, .int .i64 0, .slice none 0 0, .slice none 0 0, .bool false, .int .i64 0]) (by kernel_rfl) rfl rfl ?_; intro wa hba hBa) | (refine wpList_boxStore (us := [.int .i64 x.owner, .bool x.whole, .int .i64 x.span.table, .slice KA x.span.lo.length KC, .slice VA x.span.hi.length VC, .bool x.span.isOpen, .int .i64 x.mode]) (by kernel_rfl) rfl rfl rfl rfl rfl rfl hBa rfl ?_; intro W hgw hXW) | fail)
      go_simp
      have hbw : Below wr.heap.size wr W := hba.grown hgw hba.size fun k hk => by injection hk with hk; omega
      have zw := hbw.size
      have zB := hB.lt
      have zX := hXW.lt
      have hDw : ∀ k, D k → k < wr.heap.size := fun k hk => by have := hDl k hk; omega
      have hx : RdLk D W (.agg #[.int .i64 x.owner, .bool x.whole, .int .i64 x.span.table, .slice KA x.span.lo.length KC, .slice VA x.span.hi.length VC, .bool x.span.isOpen, .int .i64 x.mode]) x := ⟨_, _, _, _, rfl, hk1.below hbw, hk2.below hbw, hw64⟩
      replace q := q.trans (Trd.of hbw) (fun _ _ h => h)
      replace hB := hB.below hbw hB.lt
      replace bz := bz.below hbw bz.lt
      replace hC := hC.below hbw hC.lt
      replace hO := hO.below hbw
      replace hHc := hHc.below hbw hDw
      replace hQc := hQc.below hbw hDw
      clear c0 c1 c2 c3 c4 c5 c6 hk1 hk2 hba hBa hgw hbw hQ2
      have f0 := hXW.cell (i := 0) rfl
      have f1 := hXW.cell (i := 1) rfl
      have f2 := hXW.cell (i := 2) rfl
      have f3 := hXW.cell (i := 3) rfl
      have f4 := hXW.cell (i := 4) rfl
      have f5 := hXW.cell (i := 5) rfl
      have f6 := hXW.cell (i := 6) rfl
      have d0 := hB.cell (i := 0) rfl
      have d1 := hB.cell (i := 1) rfl
      go_upto_region 6 with (first | (refine wpList_boxNew (vs := [.int .i64 0, .bool false, .int .i64 0, .slice none 0 0, .slice none 0 0, .bool false, .int .i64 0, .slice none 0 0, .slice none 0 0]) (by kernel_rfl) rfl rfl ?_; intro wa hba hBa) | (refine wpList_boxStore (us := [.int .i64 x.owner, .bool x.whole, .int .i64 x.span.table, .slice KA x.span.lo.length KC, .slice VA x.span.hi.length VC, .bool x.span.isOpen, .int .i64 x.mode, .slice aHc Hc.length cHc, .slice ad Qc.length ko]) (by kernel_rfl) rfl rfl rfl rfl rfl rfl hBa rfl ?_; intro W2 hgw hYW) | fail)
      go_simp
      have hbw : Below W.heap.size W W2 := hba.grown hgw hba.size fun k hk => by injection hk with hk; omega
      have zw2 := hbw.size
      have zY := hYW.lt
      have hDw2 : ∀ k, D k → k < W.heap.size := fun k hk => by have := hDl k hk; omega
      replace q := q.trans (Trd.of hbw) (fun _ _ h => h)
      replace hB := hB.below hbw hB.lt
      replace bz := bz.below hbw bz.lt
      replace hC := hC.below hbw hC.lt
      have hrrCW : ∀ g, Value.ownBlock (.slice aC cc.length kC) = some g → g < W.heap.size := fun g hg => (hO.block_lt g hg).2
      replace hO := hO.below hbw
      replace hHc := hHc.below hbw hDw2
      replace hQc := hQc.below hbw hDw2
      replace hXW := hXW.below hbw hXW.lt
      replace hx := hx.below hbw
      clear f0 f1 f2 f3 f4 f5 f6 d0 d1 hba hBa hgw hbw
      have e0 := hYW.cell (i := 0) rfl
      have e1 := hYW.cell (i := 1) rfl
      have e2 := hYW.cell (i := 2) rfl
      have e3 := hYW.cell (i := 3) rfl
      have e4 := hYW.cell (i := 4) rfl
      have e5 := hYW.cell (i := 5) rfl
      have e6 := hYW.cell (i := 6) rfl
      have e7 := hYW.cell (i := 7) rfl
      have e8 := hYW.cell (i := 8) rfl
      have hTW := q.tab hT hf0
      have hrrH : ∀ g, Value.ownBlock (.slice aHc Hc.length cHc) = some g → g < W2.heap.size := fun g hg => hHc.lt hg
      have hrrQ : ∀ g, Value.ownBlock (.slice ad Qc.length ko) = some g → g < W2.heap.size := fun g hg => hQc.lt hg
      have hrrC : ∀ g, Value.ownBlock (.slice aC cc.length kC) = some g → W0.heap.size + 1 ≤ g ∧ g < W2.heap.size := fun g hg => hO.block_lt g hg
      have hbCl : bC < w.heap.size := hfp bC hfC
      have hobY : ∀ g, Value.ownBlock (.slice aC cc.length kC) = some g → g < W.heap.size := hrrCW
      cases hbk : blk x Hc Qc with
      | true =>
        have hd := drop1_yes W2 hTW (bC := bC) hx hHc.rdL hQc.rdL hbk
        have hgo9 := Lib.hid (hg1.out.1 hbk)
        clear hbk hg1
        go_wp2_with fail
        refine hd.mono ?_
        rintro e w3 ⟨rfl, hb3⟩
        have z3 := hb3.size
        have hDw3 : ∀ k, D k → k < W2.heap.size := fun k hk => by have := hDl k hk; omega
        replace q := q.trans (Trd.of hb3) (fun _ _ h => h)
        replace hB := hB.below hb3 hB.lt
        replace bz := bz.below hb3 bz.lt
        replace hC := hC.below hb3 hC.lt
        replace hO := hO.below hb3
        replace hHc := hHc.below hb3 hDw3
        replace hQc := hQc.below hb3 hDw3
        replace hXW := hXW.below hb3 hXW.lt
        replace hx := hx.below hb3
        clear e0 e1 e2 e3 e4 e5 e6 e7 e8 hd hb3 hYW
        have f0 := hXW.cell (i := 0) rfl
        have f1 := hXW.cell (i := 1) rfl
        have f2 := hXW.cell (i := 2) rfl
        have f3 := hXW.cell (i := 3) rfl
        have f4 := hXW.cell (i := 4) rfl
        have f5 := hXW.cell (i := 5) rfl
        have f6 := hXW.cell (i := 6) rfl
        have d1 := hB.cell (i := 1) rfl
        have hbr : Value.ownBlock (.slice ad Qc.length ko) ≠ some W0.heap.size := fun e => by have := (hoQ _ e).1; omega
        have hbr2 : Value.ownBlock (.slice ad Qc.length ko) ≠ some (w.heap.size + 1) := fun e => by have := (hoQ _ e).1; omega
        have hbr3 : Value.ownBlock (.slice ad Qc.length ko) ≠ some bC := fun e => by have := (hoQ _ e).1; omega
        have hOb4 : ∀ w4, Below w3.heap.size w3 w4 → OwnF Elt.lk 29 D w4 (.slice ad Qc.length ko) Qc := fun w4 hb4 => hQc.below hb4 fun k hk => by have := hDl k hk; omega
        have hS4 : ∀ w4, Below w3.heap.size w3 w4 → ∀ k, D k → k < w4.heap.size ∧ some k ≠ Value.ownBlock (.slice ad Qc.length ko) := fun w4 hb4 k hk => ⟨by have := hDl k hk; have := hb4.size; omega, fun e => by have := hoQ k e.symm; have := hDl k hk; omega⟩
        go_wp2_with (first
          | (refine wpList_buildOne lkP rfl rfl rfl (us := [.int .i64 x.owner, .bool x.whole, .int .i64 x.span.table, .slice KA x.span.lo.length KC, .slice VA x.span.hi.length VC, .bool x.span.isOpen, .int .i64 x.mode]) rfl rfl (by decide) (by decide) ?_; intro w4 hb4 hrow)
          | (refine wpList_appF (E := Elt.lk) (n := Qc.length + 1) lkP rfl rfl rfl rfl (hOb4 _ hb4) hrow (Elt.below hx.R hb4) (hS4 _ hb4) (by omega) rfl ?_; intro ad9 c9 w5 hO9 hg5 ho9)
          | (refine wpList_boxSet (j := 1) rfl rfl rfl (by kernel_rfl) rfl rfl rfl rfl ((hB.below hb4 hB.lt).other hg5 hbr) (by simp) ?_; intro w6 hg6 hB6)
          | fail)
        have z4 := hb4.size
        have z5 := hg5.size
        have hob9 : ∀ g, Value.ownBlock (.slice ad9 (Qc.length + 1) c9) = some g → (W0.heap.size < g ∧ g < w5.heap.size) ∧ (Value.ownBlock (.slice aHc Hc.length cHc) ≠ some g ∧ Value.ownBlock (.slice aC cc.length kC) ≠ some g) := fun g hg => by
          rcases ho9 with e | ⟨k9, e, h9⟩
          · rw [e] at hg; exact ⟨⟨(hoQ g hg).1, by have := hrrQ g hg; omega⟩, (hoQ g hg).2, fun e2 => (hoC g e2).2 hg⟩
          · have hgl := hO9.lt hg
            rw [e] at hg; injection hg with hg
            exact ⟨⟨by omega, hgl⟩, fun e2 => by have := hrrH g e2; omega, fun e2 => by have := hrrC g e2; omega⟩
        have hkp : ∀ k, k < w3.heap.size → Value.ownBlock (.slice ad Qc.length ko) ≠ some k → k ≠ W0.heap.size → w6.heap[k]? = w3.heap[k]? := fun k h1 h2 h3 => ((hg6.block k (by omega) fun e => by injection e with e; exact h3 e).trans (hg5.block k (by omega) fun e => h2 e.symm)).trans (hb4.block k h1)
        have hkD : ∀ k, D k → w6.heap[k]? = w3.heap[k]? := fun k hk => hkp k (by have := hDl k hk; omega) (fun e => by have := hoQ k e; have := hDl k hk; omega) (by have := hDl k hk; omega)
        have hH6 := hHc.kept (w' := w6) (fun g hg => hkp g (by have := hrrH g hg; omega) (fun e => (hoQ g e).2 hg) (hoHl g hg)) hkD
        have hQ6 := hO9.kept (w' := w6) (fun g hg => hg6.block g (hob9 g hg).1.2 fun e => by injection e with e; have := (hob9 g hg).1.1; omega) (fun k hk => hg6.block k (by have := hDl k hk; omega) fun e => by injection e with e; have := hDl k hk; omega)
        have hC6 := (((hC.below hb4 hC.lt).other hg5 hbr3)).other hg6 (fun e => by injection e with e; omega)
        have bz6 := (((bz.below hb4 bz.lt).other hg5 hbr2)).other hg6 (fun e => by injection e with e; omega)
        have hO6 := hO.numK (w' := w6) (fun g hg => hkp g (by have := hrrC g hg; omega) (fun e => (hoC g hg).2 e) (by have := hrrC g hg; omega))
        have q6 := ((q.trans (Trd.of hb4) (fun _ _ h => h)).hi hg5 (fun g hg => by have := hoQ g hg; omega)).hi hg6 (fun g hg => by injection hg with hg; omega)
        have hln : (Qc ++ [x]).length = Qc.length + 1 := by rw [List.length_append]; rfl
        have hob6 := hob9
        rw [← hln] at hQ6 hB6 hob6
        replace hln := Lib.hid hln
        clear f0 f1 f2 f3 f4 f5 f6 d1 hrow hb4 hg5 hg6 hO hB hO9 bz hXW hx ho9 hob9 hrrH hrrQ hrrC hbr hbr2 hbr3 hOb4 hS4 hkp hkD q hHc hQc hC
        go_wp2_with fail
        go_roundw
        case rel => exact ⟨k + 1, ad9, aHc, aC, c9, cHc, kC, Hc, Qc ++ [x], cc, by go_num, by omega, hgo9.out, by rw [hln.out]; omega, by omega, hH6, hQ6, hC6, hO6, hoH, fun g hg => ⟨(hob6 g hg).1.1, (hob6 g hg).2.1⟩, fun g hg => ⟨(hoC g hg).1, fun e => (hob6 g e).2.2 hg⟩, hB6, bz6, q6⟩
        case measure => simp [intOf]; omega
      | false =>
        have hd := drop1_no W2 hTW (bC := bC) hx hHc.rdL hQc.rdL hC hO (by omega) (by omega) hw64.1 (by omega) hbk
        have hgo9 := Lib.hid (hg1.out.2 hbk)
        clear hbk hg1
        go_wp2_with fail
        refine hd.mono ?_
        rintro e w3 ⟨rfl, ⟨aC9, kC9, hC9, hO9, hoC9⟩, ht⟩
        have z3 := ht.size
        have hln2 : (cc ++ [x.owner]).length = cc.length + 1 := by rw [List.length_append]; rfl
        replace hln2 := Lib.hid hln2
        have hnf : ∀ k, k < W2.heap.size → k ≠ bC → Value.ownBlock (.slice aC cc.length kC) ≠ some k → w3.heap[k]? = W2.heap[k]? := fun k h1 h2 h3 => ht.block k h1 fun h => h.elim h2 h3
        have hnD : ∀ k, D k → w3.heap[k]? = W2.heap[k]? := fun k hk => hnf k (by have := hDl k hk; omega) (fun e => hfD k hk (by rw [e]; exact hfC)) (fun e => by have := hrrC k e; have := hDl k hk; omega)
        replace q : Trd fp w w3 := q.trans ht (fun k hk h => h.elim (fun e => by rw [e]; exact hfC) fun e => by have := hrrC k e; omega)
        replace hB : BoxN w3 W0.heap.size 24 [.slice aHc Hc.length cHc, .slice ad Qc.length ko] := (hnf _ hB.lt (by omega) (fun e => by have := hrrC _ e; omega)).trans hB
        replace bz : BoxN w3 (w.heap.size + 1) 24 [.slice none 0 0, .slice none 0 0] := (hnf _ bz.lt (by omega) (fun e => by have := hrrC _ e; omega)).trans bz
        have hYW3 : BoxN w3 W.heap.size 61 [.int .i64 x.owner, .bool x.whole, .int .i64 x.span.table, .slice KA x.span.lo.length KC, .slice VA x.span.hi.length VC, .bool x.span.isOpen, .int .i64 x.mode, .slice aHc Hc.length cHc, .slice ad Qc.length ko] := (hnf _ hYW.lt (by omega) (fun e => by have := hobY _ e; omega)).trans hYW
        have hH3 := hHc.kept (w' := w3) (fun g hg => hnf g (hrrH g hg) (hoHb g hg) (fun e => (hoC g e).1 hg)) hnD
        have hQ3 := hQc.kept (w' := w3) (fun g hg => hnf g (hrrQ g hg) (by have := (hoQ g hg).1; omega) (fun e => (hoC g e).2 hg)) hnD
        have hx3 : RdLk D w3 (.agg #[.int .i64 x.owner, .bool x.whole, .int .i64 x.span.table, .slice KA x.span.lo.length KC, .slice VA x.span.hi.length VC, .bool x.span.isOpen, .int .i64 x.mode]) x := hx.keep hnD
        have hob9 : ∀ g, Value.ownBlock (.slice aC9 (cc ++ [x.owner]).length kC9) = some g → (W0.heap.size + 1 ≤ g ∧ g < w3.heap.size) ∧ Value.ownBlock (.slice aHc Hc.length cHc) ≠ some g ∧ Value.ownBlock (.slice ad Qc.length ko) ≠ some g := fun g hg => by
          have hgl := hO9.block_lt g hg
          rcases hoC9 with e | e | ⟨k9, e, h9⟩
          · rw [e] at hg; exact ⟨hgl, (hoC g hg).1, (hoC g hg).2⟩
          · rw [e] at hg; injection hg with hg; omega
          · rw [e] at hg; injection hg with hg
            exact ⟨hgl, fun e2 => by have := hrrH g e2; omega, fun e2 => by have := hrrQ g e2; omega⟩
        clear e0 e1 e2 e3 e4 e5 e6 e7 e8 hd hYW hXW hHc hQc hx hC hO hnf hnD hoC9 ht hrrC hobY
        have hh := held_any w3 (aQ := ad) (nQ := Qc.length) (cQ := ko) hx3 hH3 (fun k hk => ⟨by have := hDl k hk; omega, fun e => hoHD k hk e⟩) (by omega)
        have e0 := hYW3.cell (i := 0) rfl
        have e1 := hYW3.cell (i := 1) rfl
        have e2 := hYW3.cell (i := 2) rfl
        have e3 := hYW3.cell (i := 3) rfl
        have e4 := hYW3.cell (i := 4) rfl
        have e5 := hYW3.cell (i := 5) rfl
        have e6 := hYW3.cell (i := 6) rfl
        have e7 := hYW3.cell (i := 7) rfl
        have e8 := hYW3.cell (i := 8) rfl
        go_wp2_with fail
        refine hh.mono ?_
        rintro e w4 ⟨aH9, cH9, rfl, hH9, hg4, hoH9⟩
        have z4 := hg4.size
        have hbr : Value.ownBlock (.slice aHc Hc.length cHc) ≠ some W0.heap.size := fun e => hoHl _ e rfl
        have hB4 := hB.other hg4 hbr
        have hbr2 : Value.ownBlock (.slice aHc Hc.length cHc) ≠ some (w.heap.size + 1) := fun e => hoHz _ e rfl
        have hbr3 : Value.ownBlock (.slice aHc Hc.length cHc) ≠ some bC := fun e => hoHb _ e rfl
        clear hh e0 e1 e2 e3 e4 e5 e6 e7 e8 hB hYW3 hx3 hH3
        go_wp2_with (first
          | (refine wpList_boxSet (j := 0) rfl rfl rfl (by kernel_rfl) rfl rfl rfl rfl hB4 (by simp) ?_; intro w6 hg6 hB6)
          | fail)
        have z6 := hg6.size
        have hhl := heldA_len x Hc
        have hob4 : ∀ g, Value.ownBlock (.slice aH9 (heldA x Hc).length cH9) = some g → (g < w4.heap.size ∧ ((fp g ∧ g ≠ bC) ∨ W0.heap.size < g)) ∧ Value.ownBlock (.slice ad Qc.length ko) ≠ some g ∧ Value.ownBlock (.slice aC9 (cc ++ [x.owner]).length kC9) ≠ some g := fun g hg => by
          have hgl := hH9.lt hg
          rcases hoH9 with e | ⟨k9, e, h9⟩
          · rw [e] at hg; exact ⟨⟨hgl, hoH g hg⟩, fun e2 => (hoQ g e2).2 hg, fun e2 => (hob9 g e2).2.1 hg⟩
          · rw [e] at hg; injection hg with hg
            exact ⟨⟨hgl, .inr (by omega)⟩, fun e2 => by have := hrrQ g e2; omega, fun e2 => by have := (hob9 g e2).1; omega⟩
        have hkp : ∀ k, k < w3.heap.size → Value.ownBlock (.slice aHc Hc.length cHc) ≠ some k → k ≠ W0.heap.size → w6.heap[k]? = w3.heap[k]? := fun k h1 h2 h3 => (hg6.block k (by omega) fun e => by injection e with e; exact h3 e).trans (hg4.block k h1 fun e => h2 e.symm)
        have hkD : ∀ k, D k → w6.heap[k]? = w3.heap[k]? := fun k hk => hkp k (by have := hDl k hk; omega) (fun e => hoHD k hk e) (by have := hDl k hk; omega)
        have hQ6 := hQ3.kept (w' := w6) (fun g hg => hkp g (by have := hrrQ g hg; omega) (hoQ g hg).2 (by have := (hoQ g hg).1; omega)) hkD
        have hH6 := hH9.kept (w' := w6) (fun g hg => hg6.block g (hob4 g hg).1.1 fun e => by injection e with e; exact (hob4 g hg).1.2.elim (fun h => by have := hfp g h.1; omega) fun h => by omega) (fun k hk => hg6.block k (by have := hDl k hk; omega) fun e => by injection e with e; have := hDl k hk; omega)
        have hC6 := (hC9.other hg4 hbr3).other hg6 (fun e => by injection e with e; omega)
        have bz6 := (bz.other hg4 hbr2).other hg6 (fun e => by injection e with e; omega)
        have hO6 := hO9.numK (w' := w6) (fun g hg => hkp g (hob9 g hg).1.2 (hob9 g hg).2.1 (by have := (hob9 g hg).1.1; omega))
        have q6 := (Trd.trans q (Trd.ofGrown hg4 (F := fun k => Value.ownBlock (.slice aHc Hc.length cHc) = some k) (fun k e => e)) (fun k hk h => (hoH k h).elim (fun h2 => h2.1) fun h2 => by omega)).hi hg6 (fun g hg => by injection hg with hg; omega)
        clear hg4 hg6 hB4 hH9 hQ3 hC9 bz hO9 q hkp hkD hbr hbr2 hbr3 hrrH hrrQ hoH9
        go_wp2_with fail
        go_roundw
        case rel => exact ⟨k + 1, ad, aH9, aC9, ko, cH9, kC9, heldA x Hc, Qc, cc ++ [x.owner], by go_num, by omega, hgo9.out, by omega, by rw [hln2.out]; omega, hH6, hQ6, hC6, hO6, fun g hg => (hob4 g hg).1.2, fun g hg => ⟨(hoQ g hg).1, fun e => (hob4 g e).2.1 hg⟩, fun g hg => ⟨fun e => (hob4 g e).2.2 hg, (hob9 g hg).2.2⟩, hB6, bz6, q6⟩
        case measure => simp [intOf]; omega
    · obtain rfl : k = Q.length := by omega
      have hgo9 := Lib.hid (show (Hc, Qc, cc) = goD H0 [] Q [] by have h := hgo.out; rw [List.drop_length] at h; exact h)
      clear hgo
      have zq := q.size
      have hrrH : ∀ g, Value.ownBlock (.slice aHc Hc.length cHc) = some g → g < wr.heap.size := fun g hg => hHc.lt hg
      have hrrQ : ∀ g, Value.ownBlock (.slice ad Qc.length ko) = some g → g < wr.heap.size := fun g hg => hQc.lt hg
      have hrrC : ∀ g, Value.ownBlock (.slice aC cc.length kC) = some g → W0.heap.size + 1 ≤ g ∧ g < wr.heap.size := fun g hg => hO.block_lt g hg
      have d0 := hB.cell (i := 0) rfl
      have d1 := hB.cell (i := 1) rfl
      go_wp2_with (first | (refine wpList_boxStore (us := [.slice aHc Hc.length cHc, .slice ad Qc.length ko]) (by kernel_rfl) rfl rfl rfl rfl rfl rfl bz rfl ?_; intro wd hgd hBd) | fail)
      simp only [Exit.noGoto_ret]
      have g0 := hBd.cell (i := 0) rfl
      have g1 := hBd.cell (i := 1) rfl
      obtain ⟨fs, hu, _⟩ := lsS.hu
      refine bodyPost_ret (v := .agg #[.slice aHc Hc.length cHc, .slice ad Qc.length ko]) (by simp [results, Tryd.results41, go_sem, loadVar, isAgg, run_underlying hu, run_sizeOf' lsS.hs, loadCellsFrom, Addr.add, g0, g1]) rfl ?_
      have hbCl : bC < w.heap.size := hfp bC hfC
      have hkp : ∀ k, k < wr.heap.size → k ≠ w.heap.size + 1 → wd.heap[k]? = wr.heap[k]? := fun k h1 h2 => hgd.block k h1 fun e => by injection e with e; exact h2 e
      have hkD : ∀ k, D k → wd.heap[k]? = wr.heap[k]? := fun k hk => hkp k (by have := hDl k hk; omega) (by have := hDl k hk; omega)
      have hH9 := hHc.kept (w' := wd) (fun g hg => hkp g (hrrH g hg) (hoHz g hg)) hkD
      have hQ9 := hQc.kept (w' := wd) (fun g hg => hkp g (hrrQ g hg) (by have := (hoQ g hg).1; omega)) hkD
      have hC9 := hC.other hgd (fun e => by injection e with e; omega)
      have hO9 := (hO.numK (w' := wd) (fun g hg => hkp g (hrrC g hg).2 (by have := hrrC g hg; omega))).to (base' := w.heap.size) (lo' := w.heap.size) (by omega) (by omega)
      rw [← hgo9.out]
      exact ⟨aHc, cHc, ad, ko, aC, kC, rfl, hH9, hQ9, hC9, hO9, fun g hg => ⟨(hoH g hg).elim (fun h => .inl h.1) fun h => .inr (by omega), (hoH g hg).elim (fun h => h.2) fun h => by omega⟩, fun g hg => ⟨by have := (hoQ g hg).1; omega, (hoQ g hg).2⟩, fun g hg => hoC g hg, q.hi hgd (fun g hg => by injection hg with hg; omega)⟩
end Go.Proofs.YtpdnehgboafgpaaDoor
namespace Go.Proofs.YtpdnehgboafgpaaDoor
open Go.RowKit Go.Shelf
def newK (W : World) (z : Option Value) (w : World) (g : Nat) : Prop := W.heap.size ≤ g ∧ g < w.heap.size ∧ ∀ b, z = some (.pointer (some ⟨b, 0, none⟩)) → g ≠ b
structure AkS (W : World) (x : Lk) (u7 u8 : Value) (c m n z s : Option Value) (V : World) : Prop where
  be : Below W.heap.size W V
  cc : ∀ v, c = some v → ∃ a b d e, v = .agg #[.int .i64 x.owner, .bool x.whole, .int .i64 x.span.table, .slice a x.span.lo.length b, .slice d x.span.hi.length e, .bool x.span.isOpen, .int .i64 x.mode] ∧ RdLk (newK W z V) V v x
  mm : ∀ v, m = some v → c = some v
  nn : ∀ v, n = some v → ∃ a b d e, c = some (.agg #[.int .i64 x.owner, .bool x.whole, .int .i64 x.span.table, .slice a x.span.lo.length b, .slice d x.span.hi.length e, .bool x.span.isOpen, .int .i64 x.mode]) ∧ v = .agg #[.int .i64 x.owner, .bool x.whole, .int .i64 x.span.table, .slice a x.span.lo.length b, .slice d x.span.hi.length e, .bool x.span.isOpen, .int .i64 x.mode, u7, u8]
  zz : ∀ v, z = some v → ∃ b, v = .pointer (some ⟨b, 0, none⟩) ∧ W.heap.size ≤ b ∧ (s = none → BoxN V b 61 [.int .i64 0, .bool false, .int .i64 0, .slice none 0 0, .slice none 0 0, .bool false, .int .i64 0, .slice none 0 0, .slice none 0 0]) ∧ b < V.heap.size
  ss : ∀ v, s = some v → ∃ b, ∃ a : Option Addr, ∃ d : Nat, ∃ e : Option Addr, ∃ f : Nat, z = some (.pointer (some ⟨b, 0, none⟩)) ∧ c = some (.agg #[.int .i64 x.owner, .bool x.whole, .int .i64 x.span.table, .slice a x.span.lo.length d, .slice e x.span.hi.length f, .bool x.span.isOpen, .int .i64 x.mode]) ∧ BoxN V b 61 [.int .i64 x.owner, .bool x.whole, .int .i64 x.span.table, .slice a x.span.lo.length d, .slice e x.span.hi.length f, .bool x.span.isOpen, .int .i64 x.mode, u7, u8]
  o0 : c = none → m = none
  o1 : m = none → n = none
  o2 : n = none → s = none
  o3 : z = none → s = none
def AkE (W : World) (x : Lk) (u7 u8 : Value) : List (Option Value) → World → Prop
  | [c, m, n, z, s], V => AkS W x u7 u8 c m n z s V
  | _, _ => False
section
variable {W V V' : World} {x : Lk} {u7 u8 : Value} {c m n z s : Option Value}
theorem AkS.start (W : World) (x : Lk) (u7 u8 : Value) : AkS W x u7 u8 none none none none none W :=
  ⟨Below.refl _ _, (fun _ h => by cases h), (fun _ h => by cases h), (fun _ h => by cases h), (fun _ h => by cases h), (fun _ h => by cases h), fun _ => rfl, fun _ => rfl, fun _ => rfl, fun _ => rfl⟩
theorem newK.more {k : Nat} (h : newK W z V k) (hb : Below V.heap.size V V') : newK W z V' k := ⟨h.1, Nat.lt_of_lt_of_le h.2.1 hb.size, h.2.2⟩
theorem AkS.more (h : AkS W x u7 u8 c m n z s V) (hb : Below V.heap.size V V') : AkS W x u7 u8 c m n z s V' :=
  ⟨h.be.trans (hb.mono h.be.size), (fun v h1 => by obtain ⟨a, b, d, e, h2, h3⟩ := h.cc v h1; exact ⟨a, b, d, e, h2, (h3.below hb).weak fun k hk => hk.more hb⟩), h.mm, h.nn,
    (fun v h1 => by obtain ⟨b, h2, h3, h4, h5⟩ := h.zz v h1; exact ⟨b, h2, h3, fun h6 => (h4 h6).below hb h5, Nat.lt_of_lt_of_le h5 hb.size⟩),
    (fun v h1 => by obtain ⟨b, a, d, e, f, h2, h3, h4⟩ := h.ss v h1; exact ⟨b, a, d, e, f, h2, h3, h4.below hb h4.lt⟩), h.o0, h.o1, h.o2, h.o3⟩
theorem AkE.more (W : World) (x : Lk) (u7 u8 : Value) : ∀ (t : List (Option Value)) (V V' : World), AkE W x u7 u8 t V → Below V.heap.size V V' → AkE W x u7 u8 t V'
  | [_, _, _, _, _], _, _, h, hb => AkS.more h hb
theorem AkE.be : ∀ {t : List (Option Value)} {V : World}, AkE W x u7 u8 t V → Below W.heap.size W V
  | [_, _, _, _, _], _, h => AkS.be h
theorem AkS.call {v : Value} (h : AkS W x u7 u8 none m n z s V) (hb : Below V.heap.size V V') (hv : RdLk (fun k => V.heap.size ≤ k ∧ k < V'.heap.size) V' v x) : AkS W x u7 u8 (some v) m n z s V' := by
  have h' := h.more hb
  obtain rfl := h.o0 rfl
  obtain rfl := h.o1 rfl
  obtain rfl := h.o2 rfl
  refine ⟨h'.be, fun u h1 => ?_, (fun _ h => by cases h), (fun _ h => by cases h), h'.zz, (fun _ h => by cases h), (fun h => by cases h), h'.o1, h'.o2, h'.o3⟩
  obtain rfl := Option.some.inj h1
  have hv2 := hv
  obtain ⟨a, b, d, e, ev, _⟩ := hv
  exact ⟨a, b, d, e, ev, hv2.weak fun k hk => ⟨Nat.le_trans h.be.size hk.1, hk.2, fun b hz => by
    obtain ⟨b', e', _, _, h5⟩ := h.zz _ hz
    injection e' with e'
    injection e' with e'
    injection e' with e'
    omega⟩⟩
theorem AkS.one {v : Value} (h : AkS W x u7 u8 (some v) none n z s V) : ∃ a b d e, v = .agg #[.int .i64 x.owner, .bool x.whole, .int .i64 x.span.table, .slice a x.span.lo.length b, .slice d x.span.hi.length e, .bool x.span.isOpen, .int .i64 x.mode] ∧ AkS W x u7 u8 (some v) (some v) n z s V := by
  obtain rfl := h.o1 rfl
  obtain rfl := h.o2 rfl
  obtain ⟨a, b, d, e, ev, _⟩ := h.cc v rfl
  exact ⟨a, b, d, e, ev, h.be, h.cc, (fun u h => h), (fun _ h => by cases h), h.zz, (fun _ h => by cases h), (fun h => by cases h), fun _ => rfl, fun _ => rfl, fun _ => rfl⟩
theorem AkS.ask {v : Value} (h : AkS W x u7 u8 c (some v) none z s V) : ∃ a b d e, v = .agg #[.int .i64 x.owner, .bool x.whole, .int .i64 x.span.table, .slice a x.span.lo.length b, .slice d x.span.hi.length e, .bool x.span.isOpen, .int .i64 x.mode] ∧ AkS W x u7 u8 c (some v) (some (.agg #[.int .i64 x.owner, .bool x.whole, .int .i64 x.span.table, .slice a x.span.lo.length b, .slice d x.span.hi.length e, .bool x.span.isOpen, .int .i64 x.mode, u7, u8])) z s V := by
  obtain rfl := h.o2 rfl
  obtain rfl := h.mm v rfl
  obtain ⟨a, b, d, e, ev, _⟩ := h.cc v rfl
  refine ⟨a, b, d, e, ev, h.be, h.cc, h.mm, fun u h1 => ?_, h.zz, (fun _ h => by cases h), (fun h => by cases h), (fun h => by cases h), fun _ => rfl, fun _ => rfl⟩
  obtain rfl := Option.some.inj h1
  exact ⟨a, b, d, e, by rw [ev], rfl⟩
theorem AkS.box (h : AkS W x u7 u8 c m n none s V) (hb : Below V.heap.size V V') (hz : BoxN V' V.heap.size 61 [.int .i64 0, .bool false, .int .i64 0, .slice none 0 0, .slice none 0 0, .bool false, .int .i64 0, .slice none 0 0, .slice none 0 0]) : AkS W x u7 u8 c m n (some (.pointer (some ⟨V.heap.size, 0, none⟩))) s V' := by
  have h' := h.more hb
  obtain rfl := h.o3 rfl
  refine ⟨h'.be, fun u h1 => ?_, h'.mm, h'.nn, fun u h1 => ?_, (fun _ h => by cases h), h'.o0, h'.o1, h'.o2, fun h => by cases h⟩
  · obtain ⟨a, b, d, e, ev, h2⟩ := h.cc u h1
    exact ⟨a, b, d, e, ev, (h2.keep fun k hk => hb.block k hk.2.1).weak fun k hk => ⟨hk.1, Nat.lt_of_lt_of_le hk.2.1 hb.size, fun b he => by
      injection he with he
      injection he with he
      injection he with he
      injection he with he
      have := hk.2.1
      omega⟩⟩
  · obtain rfl := Option.some.inj h1
    exact ⟨_, rfl, h.be.size, fun _ => hz, hz.lt⟩
theorem AkS.ready {u v : Value} (h : AkS W x u7 u8 c m (some v) (some u) none V) : ∃ b, ∃ a : Option Addr, ∃ d : Nat, ∃ e : Option Addr, ∃ f : Nat, u = .pointer (some ⟨b, 0, none⟩) ∧ v = .agg #[.int .i64 x.owner, .bool x.whole, .int .i64 x.span.table, .slice a x.span.lo.length d, .slice e x.span.hi.length f, .bool x.span.isOpen, .int .i64 x.mode, u7, u8] ∧ BoxN V b 61 [.int .i64 0, .bool false, .int .i64 0, .slice none 0 0, .slice none 0 0, .bool false, .int .i64 0, .slice none 0 0, .slice none 0 0] := by
  obtain ⟨b, e1, _, h2, _⟩ := h.zz u rfl
  obtain ⟨a, d, e, f, _, e2⟩ := h.nn v rfl
  exact ⟨b, a, d, e, f, e1, e2, h2 rfl⟩
theorem AkS.store {u v y : Value} {b : Nat} {a e' : Option Addr} {e f : Nat} (h : AkS W x u7 u8 c m (some v) (some u) none V) (eu : u = .pointer (some ⟨b, 0, none⟩)) (ev : v = .agg #[.int .i64 x.owner, .bool x.whole, .int .i64 x.span.table, .slice a x.span.lo.length e, .slice e' x.span.hi.length f, .bool x.span.isOpen, .int .i64 x.mode, u7, u8]) (hg : V.grownBy V' (some b)) (hB : BoxN V' b 61 [.int .i64 x.owner, .bool x.whole, .int .i64 x.span.table, .slice a x.span.lo.length e, .slice e' x.span.hi.length f, .bool x.span.isOpen, .int .i64 x.mode, u7, u8]) : AkS W x u7 u8 c m (some v) (some u) (some y) V' := by
  subst eu
  obtain ⟨b', e1, hw, _, hlt⟩ := h.zz _ rfl
  injection e1 with e1
  injection e1 with e1
  injection e1 with e1 _ _
  subst e1
  refine ⟨h.be.grown hg h.be.size (fun k hk => by injection hk with hk; omega), fun q h1 => ?_, h.mm, h.nn, fun q h1 => ?_, fun q h1 => ?_, h.o0, h.o1, (fun h => by cases h), fun h => by cases h⟩
  · obtain ⟨a, b', d, e, eq, h2⟩ := h.cc q h1
    exact ⟨a, b', d, e, eq, (h2.keep fun k hk => hg.block k hk.2.1 fun e => by injection e with e; exact hk.2.2 b rfl e).weak fun k hk => ⟨hk.1, Nat.lt_of_lt_of_le hk.2.1 hg.size, hk.2.2⟩⟩
  · obtain rfl := Option.some.inj h1
    exact ⟨b, rfl, hw, (fun h => by cases h), Nat.lt_of_lt_of_le hlt hg.size⟩
  · obtain ⟨a1, d1, e1, f1, ec, en⟩ := h.nn v rfl
    rw [ev] at en
    injection en with en
    simp only [Array.mk.injEq, List.cons.injEq, Value.slice.injEq, true_and, and_true] at en
    obtain ⟨⟨rfl, rfl⟩, rfl, rfl⟩ := en
    exact ⟨b, _, _, _, _, rfl, ec, hB⟩
theorem AkS.done {v1 v2 v4 v5 v6 : Value} (h : AkS W x u7 u8 (some v1) (some v2) (some v4) (some v5) (some v6) V) : ∃ bA p1 p2 p3 p4, v1 = .agg #[.int .i64 x.owner, .bool x.whole, .int .i64 x.span.table, .slice p1 x.span.lo.length p2, .slice p3 x.span.hi.length p4, .bool x.span.isOpen, .int .i64 x.mode] ∧ v2 = .agg #[.int .i64 x.owner, .bool x.whole, .int .i64 x.span.table, .slice p1 x.span.lo.length p2, .slice p3 x.span.hi.length p4, .bool x.span.isOpen, .int .i64 x.mode] ∧ v4 = .agg #[.int .i64 x.owner, .bool x.whole, .int .i64 x.span.table, .slice p1 x.span.lo.length p2, .slice p3 x.span.hi.length p4, .bool x.span.isOpen, .int .i64 x.mode, u7, u8] ∧ v5 = .pointer (some ⟨bA, 0, none⟩) ∧ W.heap.size ≤ bA ∧ BoxN V bA 61 [.int .i64 x.owner, .bool x.whole, .int .i64 x.span.table, .slice p1 x.span.lo.length p2, .slice p3 x.span.hi.length p4, .bool x.span.isOpen, .int .i64 x.mode, u7, u8] ∧ RdLk (fun k => W.heap.size ≤ k ∧ k < V.heap.size ∧ k ≠ bA) V (.agg #[.int .i64 x.owner, .bool x.whole, .int .i64 x.span.table, .slice p1 x.span.lo.length p2, .slice p3 x.span.hi.length p4, .bool x.span.isOpen, .int .i64 x.mode]) x ∧ Below W.heap.size W V := by
  obtain ⟨bA, p1, p2, p3, p4, ez, ec, hB⟩ := h.ss _ rfl
  obtain rfl := Option.some.inj ez
  obtain rfl := Option.some.inj ec
  obtain ⟨b', e1, hw, _⟩ := h.zz _ rfl
  injection e1 with e1
  injection e1 with e1
  injection e1 with e1 _ _
  subst e1
  obtain ⟨a1, b1, d1, e1, e2, hr⟩ := h.cc _ rfl
  obtain ⟨q1, q2, q3, q4, ec2, en⟩ := h.nn _ rfl
  have em := Option.some.inj (h.mm _ rfl)
  have ec3 := Option.some.inj ec2
  injection ec3 with ec3
  simp only [Array.mk.injEq, List.cons.injEq, Value.slice.injEq, true_and, and_true] at ec3
  obtain ⟨⟨rfl, rfl⟩, rfl, rfl⟩ := ec3
  exact ⟨bA, p1, p2, p3, p4, rfl, em.symm, en, rfl, hw, hB, hr.weak fun k hk => ⟨hk.1, hk.2.1, hk.2.2 _ rfl⟩, h.be⟩
end
def AskEnd (w : World) (r : List Lk × List Lk × Nat) (e : Ending) (w' : World) : Prop :=
  ∃ a c a2 c2, e = .returned (.tuple #[.agg #[.slice a r.1.length c, .slice a2 r.2.1.length c2], .int .i64 (r.2.2 : Nat)]) ∧ RdLs (fun k => w.heap.size ≤ k ∧ k < w'.heap.size) w' (.agg #[.slice a r.1.length c, .slice a2 r.2.1.length c2]) r.1 r.2.1 ∧ Below w.heap.size w w'
def JoJ (W : World) (b : Nat) (v : Value) (us : List Value) : List Value → World → Prop
  | [], V => Below W.heap.size W V
  | [u], V => Below W.heap.size W V ∧ u = v
  | _ :: _ :: _, V => W.grownBy V (some b) ∧ BoxN V b 61 us
theorem JoJ.below {W : World} {b : Nat} {v : Value} {us : List Value} : ∀ (l : List Value) (V V' : World), JoJ W b v us l V → Below V.heap.size V V' → JoJ W b v us l V'
  | [], _, _, h, hb => Below.trans h (hb.mono (Below.size h))
  | [_], _, _, ⟨h, e⟩, hb => ⟨h.trans (hb.mono h.size), e⟩
  | _ :: _ :: _, _, _, ⟨h, h2⟩, hb => ⟨grownT h (grownB hb _), h2.below hb h2.lt⟩
theorem JoJ.cell {W : World} {b : Nat} {v : Value} {us us0 : List Value} (hA : BoxN W b 61 us0) {i : Nat} {u : Value} (h0 : us0[i]? = some u) (h1 : us[i]? = some u) : ∀ {l : List Value} {V : World}, JoJ W b v us l V → V.cell? ⟨b, i, none⟩ = some u
  | [], _, h => (hA.below h hA.lt).cell h0
  | [_], _, h => (hA.below h.1 hA.lt).cell h0
  | _ :: _ :: _, _, h => h.2.cell h1
theorem join_w64 (a b : Int) : W64 (joinM a b) := by
  unfold W64
  rcases md_cases a with rfl | rfl | rfl | rfl | rfl | h
  case inr.inr.inr.inr.inr => rw [join_none b h]; omega
  all_goals rcases md_cases b with rfl | rfl | rfl | rfl | rfl | h
  all_goals first
    | decide
    | (rw [join_none2 _ h]; omega)
theorem ask_no {H Q : List Lk} {x : Lk} (h : ¬ (fine x = true ∧ okLk H Q ∧ waitsL Q x.owner = false)) : askL H Q x = (H, Q, 1) := if_neg h
set_option maxRecDepth 100000 in
set_option maxHeartbeats 8000000 in
theorem lAsk_any (w : World) (hT : TabAt w) {S S2 : Nat → Prop} {v u : Value} {H Q : List Lk} {x : Lk} (h : RdLs S w v H Q) (hsH : smK H) (hsQ : smK Q) (hnH : H.length ≤ 400000) (hnQ : Q.length ≤ 400000) (hx : RdLk S2 w u x) (hx1 : x.span.lo.length ≤ 1000000) (hx2 : x.span.hi.length ≤ 1000000) :
    Calls Tryd.prog 30 #[v, u] w (AskEnd w (askL H Q x)) := by
  have hfull := h
  have hxf := hx
  obtain ⟨aH, cH, aL, cL, rfl, hH, hQ⟩ := h
  clear hH hQ
  obtain ⟨x1, x2, x3, x4, rfl, hk1, hk2, hw64⟩ := hx
  clear hk1 hk2
  obtain ⟨W0, hW, q, bn, Bx, bz, hsz⟩ := spBoxes3 w 24 29 24 [.slice aH H.length cH, .slice aL Q.length cL] [.int .i64 x.owner, .bool x.whole, .int .i64 x.span.table, .slice x1 x.span.lo.length x2, .slice x3 x.span.hi.length x4, .bool x.span.isOpen, .int .i64 x.mode] [.slice none 0 0, .slice none 0 0]
  have eAl : ∀ args w, (callFunc 58 args).run Tryd.prog w = .ok (.enter 58 args) w := enters_of Tryd.func58 (by kernel_rfl) rfl
  have eJo : ∀ args w, (callFunc 61 args).run Tryd.prog w = .ok (.enter 61 args) w := enters_of Tryd.func61 (by kernel_rfl) rfl
  go_enter Tryd.func30, Tryd.ntmps30
  go_upto_region 1 with (fail)
  rw [show ((w.alloc (.cells #[.slice aH H.length cH, .slice aL Q.length cL] 24)).alloc (.cells #[.int .i64 x.owner, .bool x.whole, .int .i64 x.span.table, .slice x1 x.span.lo.length x2, .slice x3 x.span.hi.length x4, .bool x.span.isOpen, .int .i64 x.mode] 29)).alloc (.cells #[.slice none 0 0, .slice none 0 0] 24) = W0 from hW.symm]
  clear hW hsz
  have zW := bz.lt
  have b0 := bn.cell (i := 0) rfl
  have b1 := bn.cell (i := 1) rfl
  have hcp := lCopied_any W0 (hfull.below q) hsH hsQ
  go_upto_region 2 with (first | (go_at_call 54; refine hcp.mono ?_; rintro e W1 ⟨aC, cC, aD, cD, rfl, hK, hb1⟩) | (refine wpList_boxNew (vs := [.slice none 0 0, .slice none 0 0]) (by kernel_rfl) rfl rfl ?_; intro wa hba hBa) | (refine wpList_boxStore (us := [.slice aC H.length cC, .slice aD Q.length cD]) (by kernel_rfl) rfl rfl rfl rfl rfl rfl hBa rfl ?_; intro w2 hg2 hB2) | fail)
  go_simp
  have hb2 : Below W1.heap.size W1 w2 := hba.grown hg2 hba.size fun k hk => by injection hk with hk; omega
  have z1 := hb1.size
  have zO := hB2.lt
  have q2 := q.trans ((hb1.trans (hb2.mono hb1.size)).mono q.size)
  have hK5 : ∀ w9, Below w2.heap.size w2 w9 → ∃ D : Nat → Prop, OwnF Elt.lk 29 D w9 (.slice aC H.length cC) H ∧ OwnF Elt.lk 29 D w9 (.slice aD Q.length cD) Q ∧ (∀ k, D k → W0.heap.size ≤ k ∧ k < w9.heap.size ∧ Value.ownBlock (.slice aC H.length cC) ≠ some k ∧ Value.ownBlock (.slice aD Q.length cD) ≠ some k) ∧ (∀ k, Value.ownBlock (.slice aC H.length cC) = some k → W0.heap.size ≤ k ∧ Value.ownBlock (.slice aD Q.length cD) ≠ some k) ∧ (∀ k, Value.ownBlock (.slice aD Q.length cD) = some k → W0.heap.size ≤ k) ∧ ∀ k, D k → k < W1.heap.size := by
    intro w9 hb9
    obtain ⟨D, h1, h2, h3, h4, h5⟩ := hK
    have hb := hb2.trans (hb9.mono hb2.size)
    exact ⟨D, h1.below hb fun k hk => (h3 k hk).2.1, h2.below hb fun k hk => (h3 k hk).2.1, fun k hk => ⟨(h3 k hk).1, Nat.lt_of_lt_of_le (h3 k hk).2.1 hb.size, (h3 k hk).2.2⟩, h4, h5, fun k hk => (h3 k hk).2.1⟩
  have hK2 : OwnKs W0.heap.size w2 aC aD cC cD H Q := hK.below hb2
  have bn2 := (bn.below hb1 bn.lt).below hb2 (by have := bn.lt; omega)
  have Bx2 := (Bx.below hb1 Bx.lt).below hb2 (by have := Bx.lt; omega)
  have bz2 := (bz.below hb1 bz.lt).below hb2 (by omega)
  have hob : (∀ k, Value.ownBlock (.slice aC H.length cC) = some k → W0.heap.size ≤ k ∧ k < W1.heap.size) ∧ ∀ k, Value.ownBlock (.slice aD Q.length cD) = some k → W0.heap.size ≤ k ∧ k < W1.heap.size := by
    obtain ⟨D, h1, h2, h3, h4, h5⟩ := hK
    exact ⟨fun k hk => ⟨(h4 k hk).1, h1.lt hk⟩, fun k hk => ⟨h5 k hk, h2.lt hk⟩⟩
  clear hba hBa hg2 hb2 hb1 hcp b0 b1 bn Bx bz hK
  have hC1 := wrong_any w2 (hxf.below q2)
  have c0 := Bx2.cell (i := 0) rfl
  have c1 := Bx2.cell (i := 1) rfl
  have c2 := Bx2.cell (i := 2) rfl
  have c3 := Bx2.cell (i := 3) rfl
  have c4 := Bx2.cell (i := 4) rfl
  have c5 := Bx2.cell (i := 5) rfl
  have c6 := Bx2.cell (i := 6) rfl
  go_wp2_with fail
  refine hC1.mono ?_
  rintro e w3 ⟨rfl, hb⟩
  have z3 := hb.size
  have q3 := q2.trans (hb.mono q2.size)
  have bn3 := bn2.below hb bn2.lt
  have Bx3 := Bx2.below hb Bx2.lt
  have bz3 := bz2.below hb bz2.lt
  have hB3 := hB2.below hb hB2.lt
  have hK3 := hK2.below hb
  have hb23 := hb
  clear c0 c1 c2 c3 c4 c5 c6 hC1 hb bn2 Bx2 bz2 hB2 hK2
  cases hfx : fine x with
  | false =>
    have Hh := Lib.hid (ask_no (H := H) (Q := Q) (x := x) fun h => by rw [hfx] at h; cases h.1)
    clear hfx
    simp only [Bool.not_false]
    have d0 := hB3.cell (i := 0) rfl
    have d1 := hB3.cell (i := 1) rfl
    go_wp2_with (first | (refine wpList_boxStore (us := [.slice aC H.length cC, .slice aD Q.length cD]) (by kernel_rfl) rfl rfl rfl rfl rfl rfl bz3 rfl ?_; intro wd hgd hBd) | fail)
    have g0 := hBd.cell (i := 0) rfl
    have g1 := hBd.cell (i := 1) rfl
    obtain ⟨fs, hu, _⟩ := lsS.hu
    refine bodyPost_ret (v := .tuple #[.agg #[.slice aC H.length cC, .slice aD Q.length cD], .int .i64 1]) (by simp [results, Tryd.results30, go_sem, loadVar, isAgg, run_underlying hu, run_sizeOf' lsS.hs, loadCellsFrom, Addr.add, g0, g1]) rfl ?_
    rw [Hh.out]
    have hK9 := hK3.grown hgd (by omega)
    have zd := hgd.size
    have zq2 := q.size
    exact ⟨aC, cC, aD, cD, rfl, hK9.rd.weak (fun k hk => ⟨by omega, hk.2⟩), q3.grown hgd q3.size (fun k e => by injection e with e; omega)⟩
  | true =>
  have hfx2 := Lib.hid hfx
  clear hfx
  simp only [Bool.not_true]
  have hC2 := lCheck_any w3 (hT.below q3) (hfull.below q3) (by omega) (by omega)
  have b0 := bn3.cell (i := 0) rfl
  have b1 := bn3.cell (i := 1) rfl
  go_wp2_with fail
  refine hC2.mono ?_
  rintro e w4 ⟨rfl, hb⟩
  have z4 := hb.size
  have q4 := q3.trans (hb.mono q3.size)
  have bn4 := bn3.below hb bn3.lt
  have Bx4 := Bx3.below hb Bx3.lt
  have bz4 := bz3.below hb bz3.lt
  have hB4 := hB3.below hb hB3.lt
  have hK4 := hK3.below hb
  have hb24 := hb23.trans (hb.mono hb23.size)
  clear b0 b1 hC2 hb bn3 Bx3 bz3 hB3 hK3 hb23
  cases hok : decide (okLk H Q) with
  | false =>
    have Hh := Lib.hid (ask_no (H := H) (Q := Q) (x := x) fun h => of_decide_eq_false hok h.2.1)
    clear hok
    have d0 := hB4.cell (i := 0) rfl
    have d1 := hB4.cell (i := 1) rfl
    go_wp2_with (first | (refine wpList_boxStore (us := [.slice aC H.length cC, .slice aD Q.length cD]) (by kernel_rfl) rfl rfl rfl rfl rfl rfl bz4 rfl ?_; intro wd hgd hBd) | fail)
    have g0 := hBd.cell (i := 0) rfl
    have g1 := hBd.cell (i := 1) rfl
    obtain ⟨fs, hu, _⟩ := lsS.hu
    refine bodyPost_ret (v := .tuple #[.agg #[.slice aC H.length cC, .slice aD Q.length cD], .int .i64 1]) (by simp [results, Tryd.results30, go_sem, loadVar, isAgg, run_underlying hu, run_sizeOf' lsS.hs, loadCellsFrom, Addr.add, g0, g1]) rfl ?_
    rw [Hh.out]
    have hK9 := hK4.grown hgd (by omega)
    have zd := hgd.size
    have zq2 := q.size
    exact ⟨aC, cC, aD, cD, rfl, hK9.rd.weak (fun k hk => ⟨by omega, hk.2⟩), q4.grown hgd q4.size (fun k e => by injection e with e; omega)⟩
  | true =>
  have hok2 := Lib.hid (of_decide_eq_true hok)
  have hokw := Lib.hid (show (decide (okLk H Q) && waitsL Q x.owner) = waitsL Q x.owner by rw [hok, Bool.true_and])
  clear hok
  have hC3 := lWaits_any w4 (hT.below q4) (o := x.owner) (hfull.below q4) (by omega) (by omega)
  rw [hokw.out] at hC3
  have b0 := bn4.cell (i := 0) rfl
  have b1 := bn4.cell (i := 1) rfl
  have f0 := Bx4.cell (i := 0) rfl
  go_wp2_with fail
  refine hC3.mono ?_
  rintro e w5 ⟨rfl, hb⟩
  have z5 := hb.size
  have q5 := q4.trans (hb.mono q4.size)
  have Bx5 := Bx4.below hb Bx4.lt
  have bz5 := bz4.below hb bz4.lt
  have hB5 := hB4.below hb hB4.lt
  have hK55 := hK4.below hb
  replace hK5 := hK5 w5 (hb24.trans (hb.mono hb24.size))
  clear b0 b1 f0 hC3 hb bn4 Bx4 bz4 hB4 hK4 hb24 hokw
  cases hwt : waitsL Q x.owner with
  | true =>
    have Hh := Lib.hid (ask_no (H := H) (Q := Q) (x := x) fun h => by rw [hwt] at h; cases h.2.2)
    clear hwt
    have d0 := hB5.cell (i := 0) rfl
    have d1 := hB5.cell (i := 1) rfl
    go_wp2_with (first | (refine wpList_boxStore (us := [.slice aC H.length cC, .slice aD Q.length cD]) (by kernel_rfl) rfl rfl rfl rfl rfl rfl bz5 rfl ?_; intro wd hgd hBd) | fail)
    have g0 := hBd.cell (i := 0) rfl
    have g1 := hBd.cell (i := 1) rfl
    obtain ⟨fs, hu, _⟩ := lsS.hu
    refine bodyPost_ret (v := .tuple #[.agg #[.slice aC H.length cC, .slice aD Q.length cD], .int .i64 1]) (by simp [results, Tryd.results30, go_sem, loadVar, isAgg, run_underlying hu, run_sizeOf' lsS.hs, loadCellsFrom, Addr.add, g0, g1]) rfl ?_
    rw [Hh.out]
    have hK9 := hK55.grown hgd (by omega)
    have zd := hgd.size
    have zq2 := q.size
    exact ⟨aC, cC, aD, cD, rfl, hK9.rd.weak (fun k hk => ⟨by omega, hk.2⟩), q5.grown hgd q5.size (fun k e => by injection e with e; omega)⟩
  | false =>
  have hpre := Lib.hid (show fine x = true ∧ okLk H Q ∧ waitsL Q x.owner = false from ⟨hfx2.out, hok2.out, hwt⟩)
  clear hwt hfx2 hok2 hK55
  obtain ⟨D, hF1, hF2, hD, hoH, hoQ, hDw⟩ := hK5
  obtain ⟨W4, eW4⟩ : ∃ W4, W4 = w5 := ⟨_, rfl⟩
  rw [← eW4] at q5 Bx5 bz5 hB5 hF1 hF2 hD z5 ⊢
  clear eW4
  have hB4 := hB5
  have Bx := Bx5
  have hx4 := hxf.below q5
  go_upto_region 4 with (fail)
  refine wp_region_setl (K := fun _ _ => True) (by kernel_rfl) (by kernel_rfl) [1, 2, 4, 5, 6] (by kernel_rfl) [lEq (.agg #[.int .i64 x.owner, .bool x.whole, .int .i64 x.span.table, .slice x1 x.span.lo.length x2, .slice x3 x.span.hi.length x4, .bool x.span.isOpen, .int .i64 x.mode]), lAny, lAny, lEq (.agg #[.slice aC H.length cC, .slice aD Q.length cD]), lAny, lAny, lAny] (AkE W4 x (.slice aC H.length cC) (.slice aD Q.length cD)) (AkE.more W4 x _ _) (AkS.start W4 x _ _)
    ⟨?o0, ?o1, ?o2, ?o3, ?o4, ?o5, ?o6, trivial⟩ ?fin
  case o0 =>
    refine StOp.free rfl (by kernel_rfl) (fun A va D w' hF hT hN hE hd hu hg => ?_)
    have e1 : A.eval (.tmp 3) = .pointer (some ⟨w.heap.size + 1, 0, none⟩) := hF 3 rfl
    have hJB := Bx.below (AkE.be hE) Bx.lt
    exact wp_loadU (us := [.int .i64 x.owner, .bool x.whole, .int .i64 x.span.table, .slice x1 x.span.lo.length x2, .slice x3 x.span.hi.length x4, .bool x.span.isOpen, .int .i64 x.mode]) lkS rfl e1 (fun j u hj => by rw [Nat.zero_add]; exact hJB.cell hj) ⟨_, rfl, rfl, Below.refl _ _⟩
  case o1 =>
    refine StOp.set rfl (by kernel_rfl) (fun A va D w' hF hT hN hE hd hu hg => ?_)
    have e1 : A.eval (.tmp 25) = .agg #[.int .i64 x.owner, .bool x.whole, .int .i64 x.span.table, .slice x1 x.span.lo.length x2, .slice x3 x.span.hi.length x4, .bool x.span.isOpen, .int .i64 x.mode] := (hT 25 0 (by simp) rfl).trans (hg ⟨0, .data⟩ (by simp) rfl rfl)
    have hE2 := hE
    simp only [told, List.map_cons, List.map_nil, hN, Bool.false_eq_true, if_false] at hE2
    refine wp_callFn rfl eAl (by simp only [List.map_toArray, List.map_cons, List.map_nil, e1]) ((lAlone_any w' (hx4.below hE2.be) hx1 hx2).mono ?_)
    rintro e w2 ⟨v, rfl, hv, hb2⟩
    have h5 := AkS.call hE2 hb2 hv
    exact ⟨_, rfl, _, rfl, by simpa [AkE, told, don, upd] using h5, trivial⟩
  case o2 =>
    refine StOp.set rfl (by kernel_rfl) (fun A va D w' hF hT hN hE hd hu hg => ?_)
    have x1 : A.eval (.tmp 26) = va 1 := hT 26 1 (by simp) rfl
    have d1 : D 1 = true := hd ⟨1, .data⟩ (by simp) rfl
    have hE2 := hE
    simp only [told, List.map_cons, List.map_nil, hN, d1, Bool.false_eq_true, if_false, if_true] at hE2
    obtain ⟨a, b, d, e, ev, h5⟩ := AkS.one hE2
    exact wp_bOne rfl (x1.trans ev) ⟨_, rfl, by rw [← ev]; simpa [AkE, told, don, upd, d1] using h5, trivial⟩
  case o3 =>
    refine StOp.free rfl (by kernel_rfl) (fun A va D w' hF hT hN hE hd hu hg => ?_)
    have e1 : A.eval (.tmp 6) = .pointer (some ⟨W1.heap.size, 0, none⟩) := hF 6 rfl
    have hJB := hB4.below (AkE.be hE) hB4.lt
    exact wp_load2 lsS rfl e1 (hJB.cell (i := 0) rfl) (hJB.cell (i := 1) rfl) ⟨_, rfl, rfl, Below.refl _ _⟩
  case o4 =>
    refine StOp.set rfl (by kernel_rfl) (fun A va D w' hF hT hN hE hd hu hg => ?_)
    have x1 : A.eval (.tmp 27) = va 2 := hT 27 2 (by simp) rfl
    have e2 : A.eval (.tmp 28) = .agg #[.slice aC H.length cC, .slice aD Q.length cD] := (hT 28 3 (by simp) rfl).trans (hg ⟨3, .data⟩ (by simp) rfl rfl)
    have d2 : D 2 = true := hd ⟨2, .data⟩ (by simp) rfl
    have hE2 := hE
    simp only [told, List.map_cons, List.map_nil, hN, d2, Bool.false_eq_true, if_false, if_true] at hE2
    obtain ⟨a, b, d, e, ev, h5⟩ := AkS.ask hE2
    exact wp_bAsk rfl (x1.trans ev) e2 ⟨_, rfl, by simpa [AkE, told, don, upd, d2] using h5, trivial⟩
  case o5 =>
    refine StOp.set rfl (by kernel_rfl) (fun A va D w' hF hT hN hE hd hu hg => ?_)
    have hE2 := hE
    simp only [told, List.map_cons, List.map_nil, hN, Bool.false_eq_true, if_false] at hE2
    refine wp_boxNew (vs := [.int .i64 0, .bool false, .int .i64 0, .slice none 0 0, .slice none 0 0, .bool false, .int .i64 0, .slice none 0 0, .slice none 0 0]) (by kernel_rfl) rfl (fun w2 hb2 hz => ⟨_, rfl, ?_, trivial⟩)
    have h5 := AkS.box hE2 hb2 hz
    simpa [AkE, told, don, upd] using h5
  case o6 =>
    refine StOp.set rfl (by kernel_rfl) (fun A va D w' hF hT hN hE hd hu hg => ?_)
    have x1 : A.eval (.tmp 7) = va 5 := hT 7 5 (by simp) rfl
    have x2 : A.eval (.tmp 29) = va 4 := hT 29 4 (by simp) rfl
    have d5 : D 5 = true := hd ⟨5, .data⟩ (by simp) rfl
    have d4 : D 4 = true := hd ⟨4, .data⟩ (by simp) rfl
    have hE2 := hE
    simp only [told, List.map_cons, List.map_nil, hN, d5, d4, Bool.false_eq_true, if_false, if_true] at hE2
    obtain ⟨b, a1, a2, a3, a4, ez, en, hz⟩ := AkS.ready hE2
    refine wp_boxStore (vs := [.int .i64 0, .bool false, .int .i64 0, .slice none 0 0, .slice none 0 0, .bool false, .int .i64 0, .slice none 0 0, .slice none 0 0]) (us := [.int .i64 x.owner, .bool x.whole, .int .i64 x.span.table, .slice a1 x.span.lo.length a2, .slice a3 x.span.hi.length a4, .bool x.span.isOpen, .int .i64 x.mode, .slice aC H.length cC, .slice aD Q.length cD]) (by kernel_rfl) rfl (x1.trans ez) (x2.trans en) rfl hz rfl (fun w2 hg hb => ⟨_, rfl, ?_, trivial⟩)
    have h5 := AkS.store (y := undef) hE2 ez en hg hb
    simpa [AkE, told, don, upd, d5, d4] using h5
  case fin =>
  intro vs1 V4 hE hG
  obtain ⟨bA, p1, p2, p3, p4, ec, em, en, ez, hbA, hA4, hx5, hb5⟩ := AkS.done hE
  have g0 : vs1 0 = .agg #[.int .i64 x.owner, .bool x.whole, .int .i64 x.span.table, .slice x1 x.span.lo.length x2, .slice x3 x.span.hi.length x4, .bool x.span.isOpen, .int .i64 x.mode] := hG 0 (by decide) rfl
  have g3 : vs1 3 = .agg #[.slice aC H.length cC, .slice aD Q.length cD] := hG 3 (by decide) rfl
  clear hE hG
  simp only [putAll, ec, em, en, ez, g0, g3]
  clear ec em en ez g0 g3
  go_simp
  have z6 := hb5.size
  have q6 := q5.trans (hb5.mono q5.size)
  have hDl : ∀ k, D k → k < W4.heap.size := fun k hk => (hD k hk).2.1
  have hB6 := hB4.below hb5 hB4.lt
  have bz6 := bz5.below hb5 bz5.lt
  have hF16 := hF1.below hb5 hDl
  have hF26 := hF2.below hb5 hDl
  have zA := hA4.lt
  clear hb5 hB4 bz5 hF1 hF2 hx4 Bx Bx5 hB5
  have hC4 := lContains_any V4 hF16.rdL _ _ #[] eServed _ (tServed hx5)
  have e0 := hA4.cell (i := 0) rfl
  have e1 := hA4.cell (i := 1) rfl
  have e2 := hA4.cell (i := 2) rfl
  have e3 := hA4.cell (i := 3) rfl
  have e4 := hA4.cell (i := 4) rfl
  have e5 := hA4.cell (i := 5) rfl
  have e6 := hA4.cell (i := 6) rfl
  have e7 := hA4.cell (i := 7) rfl
  have e8 := hA4.cell (i := 8) rfl
  go_wp2_with fail
  refine hC4.mono ?_
  rintro e w6 ⟨rfl, hb⟩
  have z7 := hb.size
  have hA6 := hA4.below hb hA4.lt
  have hx6 := hx5.below hb
  have q7 := q6.trans (hb.mono q6.size)
  have hB7 := hB6.below hb hB6.lt
  have bz7 := bz6.below hb bz6.lt
  have hF17 := hF16.below hb (fun k hk => by have := hDl k hk; omega)
  have hF27 := hF26.below hb (fun k hk => by have := hDl k hk; omega)
  clear e0 e1 e2 e3 e4 e5 e6 e7 e8 hC4 hb hA4 hx5 hB6 bz6 hF16 hF26 q6
  cases hsv : H.any (servesL x) with
  | true =>
    have Hh := Lib.hid (show askL H Q x = (H, Q, 0) by unfold askL; rw [if_pos hpre.out, if_pos hsv])
    clear hsv
    have hK7 : OwnKs W0.heap.size w6 aC aD cC cD H Q := ⟨D, hF17, hF27, fun k hk => ⟨(hD k hk).1, by have := hDl k hk; omega, (hD k hk).2.2⟩, hoH, hoQ⟩
    have d0 := hB7.cell (i := 0) rfl
    have d1 := hB7.cell (i := 1) rfl
    go_wp2_with (first | (refine wpList_boxStore (us := [.slice aC H.length cC, .slice aD Q.length cD]) (by kernel_rfl) rfl rfl rfl rfl rfl rfl bz7 rfl ?_; intro wd hgd hBd) | fail)
    have g0 := hBd.cell (i := 0) rfl
    have g1 := hBd.cell (i := 1) rfl
    obtain ⟨fs, hu, _⟩ := lsS.hu
    refine bodyPost_ret (v := .tuple #[.agg #[.slice aC H.length cC, .slice aD Q.length cD], .int .i64 0]) (by simp [results, Tryd.results30, go_sem, loadVar, isAgg, run_underlying hu, run_sizeOf' lsS.hs, loadCellsFrom, Addr.add, g0, g1]) rfl ?_
    rw [Hh.out]
    have hK9 := hK7.grown hgd (by omega)
    have zd := hgd.size
    have zq2 := q.size
    exact ⟨aC, cC, aD, cD, rfl, hK9.rd.weak (fun k hk => ⟨by omega, hk.2⟩), q7.grown hgd q7.size (fun k e => by injection e with e; omega)⟩
  | false =>
  replace hsv := Lib.hid hsv
  have e7 := hA6.cell (i := 7) rfl
  have e8 := hA6.cell (i := 8) rfl
  by_cases h40 : 40 ≤ H.length + Q.length
  case pos =>
    have d40 : decide ((40 : Int) ≤ (H.length : Int) + (Q.length : Int)) = true := decide_eq_true (by omega)
    have Hh := Lib.hid (show askL H Q x = (H, Q, 111) by unfold askL; rw [if_pos hpre.out, if_neg (by rw [hsv.out]; decide), if_pos h40])
    clear h40
    have hK7 : OwnKs W0.heap.size w6 aC aD cC cD H Q := ⟨D, hF17, hF27, fun k hk => ⟨(hD k hk).1, by have := hDl k hk; omega, (hD k hk).2.2⟩, hoH, hoQ⟩
    have d0 := hB7.cell (i := 0) rfl
    have d1 := hB7.cell (i := 1) rfl
    go_wp2_with (first | (refine wpList_boxStore (us := [.slice aC H.length cC, .slice aD Q.length cD]) (by kernel_rfl) rfl rfl rfl rfl rfl rfl bz7 rfl ?_; intro wd hgd hBd) | fail)
    have g0 := hBd.cell (i := 0) rfl
    have g1 := hBd.cell (i := 1) rfl
    obtain ⟨fs, hu, _⟩ := lsS.hu
    refine bodyPost_ret (v := .tuple #[.agg #[.slice aC H.length cC, .slice aD Q.length cD], .int .i64 111]) (by simp [results, Tryd.results30, go_sem, loadVar, isAgg, run_underlying hu, run_sizeOf' lsS.hs, loadCellsFrom, Addr.add, g0, g1]) rfl ?_
    rw [Hh.out]
    have hK9 := hK7.grown hgd (by omega)
    have zd := hgd.size
    have zq2 := q.size
    exact ⟨aC, cC, aD, cD, rfl, hK9.rd.weak (fun k hk => ⟨by omega, hk.2⟩), q7.grown hgd q7.size (fun k e => by injection e with e; omega)⟩
  have d40 : decide ((40 : Int) ≤ (H.length : Int) + (Q.length : Int)) = false := decide_eq_false (by omega)
  replace h40 := Lib.hid h40
  have hIx := lIndex_any w6 hF17.rdL _ _ #[] eSame _ (tSame hx6)
  have e0 := hA6.cell (i := 0) rfl
  have e1 := hA6.cell (i := 1) rfl
  have e2 := hA6.cell (i := 2) rfl
  have e3 := hA6.cell (i := 3) rfl
  have e4 := hA6.cell (i := 4) rfl
  have e5 := hA6.cell (i := 5) rfl
  have e6 := hA6.cell (i := 6) rfl
  have e7 := hA6.cell (i := 7) rfl
  have e8 := hA6.cell (i := 8) rfl
  go_wp2_with fail
  refine hIx.mono ?_
  rintro e w7 ⟨i, rfl, hi, hb⟩
  have z8 := hb.size
  have hA7 := hA6.below hb hA6.lt
  have hx7 := hx6.below hb
  have q8 := q7.trans (hb.mono q7.size)
  have hB8 := hB7.below hb hB7.lt
  have bz8 := bz7.below hb bz7.lt
  have hF18 := hF17.below hb (fun k hk => by have := hDl k hk; omega)
  have hF28 := hF27.below hb (fun k hk => by have := hDl k hk; omega)
  clear e0 e1 e2 e3 e4 e5 e6 e7 e8 hIx hb hA6 hx6 hB7 bz7 hF17 hF27 q7 d40
  have hask : ∀ y, joined x H = y → (blk y H Q = true → askL H Q x = (H, Q ++ [y], 110)) ∧ (blk y H Q = false → askL H Q x = (heldA y H, Q, 0)) := fun y ey =>
    ⟨fun hb => by unfold askL; rw [if_pos hpre.out, if_neg (by rw [hsv.out]; decide), if_neg h40.out, ey, if_pos hb], fun hb => by unfold askL; rw [if_pos hpre.out, if_neg (by rw [hsv.out]; decide), if_neg h40.out, ey, if_neg (by rw [hb]; decide)]⟩
  rcases hi with ⟨rfl, hno⟩ | ⟨j, hj, rfl, hyj, hno⟩
  · have hak := Lib.hid (hask x (joined_no hno))
    clear hask hno
    go_upto_region 12 with (fail)
    have zT := hA7.lt
    have hC := blocked_any w7 (hT.below q8) hx7 hF18.rdL hF28.rdL
    have e0 := hA7.cell (i := 0) rfl
    have e1 := hA7.cell (i := 1) rfl
    have e2 := hA7.cell (i := 2) rfl
    have e3 := hA7.cell (i := 3) rfl
    have e4 := hA7.cell (i := 4) rfl
    have e5 := hA7.cell (i := 5) rfl
    have e6 := hA7.cell (i := 6) rfl
    have e7 := hA7.cell (i := 7) rfl
    have e8 := hA7.cell (i := 8) rfl
    go_wp2_with fail
    refine hC.mono ?_
    rintro e wb ⟨rfl, hb⟩
    have zb := hb.size
    have hAb := hA7.below hb hA7.lt
    have hxb := (hx7.below hb).weak (S' := (fun k => D k ∨ (W4.heap.size ≤ k ∧ k < V4.heap.size ∧ k ≠ bA))) fun k hk => .inr hk
    have qb := q8.trans (hb.mono q8.size)
    have hBb := hB8.below hb hB8.lt
    have bzb := bz8.below hb bz8.lt
    have hF1b := (hF18.below hb (fun k hk => by have := hDl k hk; omega)).weak (S' := (fun k => D k ∨ (W4.heap.size ≤ k ∧ k < V4.heap.size ∧ k ≠ bA))) fun k hk => .inl hk
    have hF2b := (hF28.below hb (fun k hk => by have := hDl k hk; omega)).weak (S' := (fun k => D k ∨ (W4.heap.size ≤ k ∧ k < V4.heap.size ∧ k ≠ bA))) fun k hk => .inl hk
    have hDs : ∀ k, ((fun k => D k ∨ (W4.heap.size ≤ k ∧ k < V4.heap.size ∧ k ≠ bA))) k → k < wb.heap.size ∧ W0.heap.size ≤ k ∧ k ≠ W1.heap.size ∧ Value.ownBlock (.slice aC H.length cC) ≠ some k ∧ Value.ownBlock (.slice aD Q.length cD) ≠ some k := fun k hk => hk.elim (fun h => ⟨by have := hDl k h; omega, (hD k h).1, by have := hDw k h; omega, (hD k h).2.2⟩) fun h => ⟨by omega, by omega, by omega, fun e => by have := hob.1 k e; omega, fun e => by have := hob.2 k e; omega⟩
    clear e0 e1 e2 e3 e4 e5 e6 e7 e8 hC hb hA7 hx7 hB8 bz8 hF18 hF28 q8
    have f0 := hBb.cell (i := 0) rfl
    have f1 := hBb.cell (i := 1) rfl
    have e0 := hAb.cell (i := 0) rfl
    have e1 := hAb.cell (i := 1) rfl
    have e2 := hAb.cell (i := 2) rfl
    have e3 := hAb.cell (i := 3) rfl
    have e4 := hAb.cell (i := 4) rfl
    have e5 := hAb.cell (i := 5) rfl
    have e6 := hAb.cell (i := 6) rfl
    have e7 := hAb.cell (i := 7) rfl
    have e8 := hAb.cell (i := 8) rfl
    cases hbk : blk x H Q with
    | true =>
      have Hh := Lib.hid (hak.out.1 hbk)
      clear hbk hak
      have hln : (Q ++ [x]).length = Q.length + 1 := by rw [List.length_append]; rfl
      have hbr : Value.ownBlock (.slice aD Q.length cD) ≠ some W1.heap.size := fun e => by have := hob.2 _ e; omega
      have hOb4 : ∀ w4, Below wb.heap.size wb w4 → OwnF Elt.lk 29 (fun k => D k ∨ (W4.heap.size ≤ k ∧ k < V4.heap.size ∧ k ≠ bA)) w4 (.slice aD Q.length cD) Q := fun w4 hb4 => hF2b.below hb4 fun k hk => (hDs k hk).1
      have hS4 : ∀ w4, Below wb.heap.size wb w4 → ∀ k, ((fun k => D k ∨ (W4.heap.size ≤ k ∧ k < V4.heap.size ∧ k ≠ bA))) k → k < w4.heap.size ∧ some k ≠ Value.ownBlock (.slice aD Q.length cD) := fun w4 hb4 k hk => ⟨by have := (hDs k hk).1; have := hb4.size; omega, fun e => (hDs k hk).2.2.2.2 e.symm⟩
      go_wp2_with (first
        | (refine wpList_buildOne lkP rfl rfl rfl (us := [.int .i64 x.owner, .bool x.whole, .int .i64 x.span.table, .slice p1 x.span.lo.length p2, .slice p3 x.span.hi.length p4, .bool x.span.isOpen, .int .i64 x.mode]) rfl rfl (by decide) (by decide) ?_; intro wc hbc hrow)
        | (refine wpList_appF (E := Elt.lk) (n := Q.length + 1) lkP rfl rfl rfl rfl (hOb4 _ hbc) hrow (Elt.below hxb.R hbc) (hS4 _ hbc) (by omega) rfl ?_; intro ad9 c9 wd hO9 hgd ho9)
        | (refine wpList_boxSet (j := 1) rfl rfl rfl (by kernel_rfl) rfl rfl rfl rfl ((hBb.below hbc hBb.lt).other hgd hbr) (by simp) ?_; intro we hge hBe; have g0 := hBe.cell (i := 0) rfl; have g1 := hBe.cell (i := 1) rfl)
        | (refine wpList_boxStore (us := [.slice aC H.length cC, .slice ad9 (Q.length + 1) c9]) (by kernel_rfl) rfl rfl rfl rfl rfl rfl (((bzb.below hbc bzb.lt).other hgd (fun e => by have := hob.2 _ e; omega)).other hge (fun e => by injection e with e; omega)) rfl ?_; intro wf hgf hBf)
        | fail)
      have zc := hbc.size
      have zd := hgd.size
      have ze := hge.size
      have zf := hgf.size
      have hob9 : ∀ g, Value.ownBlock (.slice ad9 (Q.length + 1) c9) = some g → W0.heap.size ≤ g ∧ g ≠ W1.heap.size ∧ g < wd.heap.size := fun g hg => ⟨by
        rcases ho9 with e | ⟨k9, e, h9⟩
        · rw [e] at hg; have := hob.2 g hg; omega
        · rw [e] at hg; injection hg with hg; omega, by
        rcases ho9 with e | ⟨k9, e, h9⟩
        · rw [e] at hg; have := hob.2 g hg; omega
        · rw [e] at hg; injection hg with hg; omega, hO9.lt hg⟩
      have hkp : ∀ k, k < wb.heap.size → Value.ownBlock (.slice aD Q.length cD) ≠ some k → k ≠ W1.heap.size → W0.heap.size ≤ k → wf.heap[k]? = wb.heap[k]? := fun k h1 h2 h3 h4 => (((hgf.block k (by omega) fun e => by injection e with e; omega).trans (hge.block k (by omega) fun e => by injection e with e; exact h3 e)).trans (hgd.block k (by omega) fun e => h2 e.symm)).trans (hbc.block k h1)
      have hkD : ∀ k, ((fun k => D k ∨ (W4.heap.size ≤ k ∧ k < V4.heap.size ∧ k ≠ bA))) k → wf.heap[k]? = wb.heap[k]? := fun k hk => hkp k (hDs k hk).1 (hDs k hk).2.2.2.2 (hDs k hk).2.2.1 (hDs k hk).2.1
      have hH9 := hF1b.kept (w' := wf) (fun g hg => hkp g (hF1b.lt hg) (hoH g hg).2 (by have := hob.1 g hg; omega) (hoH g hg).1) hkD
      have hQ9 := (hO9.kept (w' := wf) (fun g hg => (hgf.block g (by have := hob9 g hg; omega) fun e => by injection e with e; have := hob9 g hg; omega).trans (hge.block g (hob9 g hg).2.2 fun e => by injection e with e; exact (hob9 g hg).2.1 e)) (fun k hk => (hgf.block k (by have := (hDs k hk).1; omega) fun e => by injection e with e; have := (hDs k hk).2.1; omega).trans (hge.block k (by have := (hDs k hk).1; omega) fun e => by injection e with e; exact (hDs k hk).2.2.1 e)))
      have g0 := hBf.cell (i := 0) rfl
      have g1 := hBf.cell (i := 1) rfl
      obtain ⟨fs, hu, _⟩ := lsS.hu
      refine bodyPost_ret (v := .tuple #[.agg #[.slice aC H.length cC, .slice ad9 (Q.length + 1) c9], .int .i64 110]) (by simp [results, Tryd.results30, go_sem, loadVar, isAgg, run_underlying hu, run_sizeOf' lsS.hs, loadCellsFrom, Addr.add, g0, g1]) rfl ?_
      rw [Hh.out]
      have zq := q.size
      rw [← hln] at hQ9 ⊢
      exact ⟨_, _, _, _, rfl, ⟨_, _, _, _, rfl, hH9.rdL.weak (fun k hk => hk.elim (fun h => ⟨by have := (hDs k h).2.1; omega, by have := (hDs k h).1; omega⟩) fun h => ⟨by have := (hoH k h).1; omega, hH9.lt h⟩), hQ9.rdL.weak (fun k hk => hk.elim (fun h => ⟨by have := (hDs k h).2.1; omega, by have := (hDs k h).1; omega⟩) fun h => ⟨by rw [hln] at h; have := hob9 k h; omega, hQ9.lt h⟩)⟩, (((qb.trans (hbc.mono qb.size)).grown hgd (qb.trans (hbc.mono qb.size)).size (fun k e => by have := hob.2 k e; omega)).grown hge (by omega) (fun k e => by injection e with e; omega)).grown hgf (by omega) (fun k e => by injection e with e; omega)⟩
    | false =>
      have Hh := Lib.hid (hak.out.2 hbk)
      clear hbk hak
      have hh := held_any wb (aQ := aD) (nQ := Q.length) (cQ := cD) hxb hF1b (fun k hk => ⟨(hDs k hk).1, (hDs k hk).2.2.2.1⟩) (by omega)
      go_wp2_with fail
      refine hh.mono ?_
      rintro e wd ⟨a9, c9, rfl, hO9, hgd, ho9⟩
      have zd := hgd.size
      have hBd := hBb.other hgd (fun e => by have := hob.1 _ e; omega)
      have hob9 : ∀ g, Value.ownBlock (.slice a9 (heldA x H).length c9) = some g → W0.heap.size ≤ g ∧ g ≠ W1.heap.size ∧ g < wd.heap.size := fun g hg => ⟨by
        rcases ho9 with e | ⟨k9, e, h9⟩
        · rw [e] at hg; have := hob.1 g hg; omega
        · rw [e] at hg; injection hg with hg; omega, by
        rcases ho9 with e | ⟨k9, e, h9⟩
        · rw [e] at hg; have := hob.1 g hg; omega
        · rw [e] at hg; injection hg with hg; omega, hO9.lt hg⟩
      obtain ⟨L, eL⟩ : ∃ L, L = heldA x H := ⟨_, rfl⟩
      rw [← eL] at hO9 hob9 Hh ⊢
      clear hh e0 e1 e2 e3 e4 e5 e6 e7 e8 f0 f1 ho9 eL
      go_wp2_with (first
        | (refine wpList_boxSet (j := 0) rfl rfl rfl (by kernel_rfl) rfl rfl rfl rfl hBd (by simp) ?_; intro we hge hBe; have g0 := hBe.cell (i := 0) rfl; have g1 := hBe.cell (i := 1) rfl)
        | (refine wpList_boxStore (us := [.slice a9 L.length c9, .slice aD Q.length cD]) (by kernel_rfl) rfl rfl rfl rfl rfl rfl ((bzb.other hgd (fun e => by have := hob.1 _ e; omega)).other hge (fun e => by injection e with e; omega)) rfl ?_; intro wf hgf hBf)
        | fail)
      have ze := hge.size
      have zf := hgf.size
      have hkp : ∀ k, k < wb.heap.size → Value.ownBlock (.slice aC H.length cC) ≠ some k → k ≠ W1.heap.size → W0.heap.size ≤ k → wf.heap[k]? = wb.heap[k]? := fun k h1 h2 h3 h4 => ((hgf.block k (by omega) fun e => by injection e with e; omega).trans (hge.block k (by omega) fun e => by injection e with e; exact h3 e)).trans (hgd.block k h1 fun e => h2 e.symm)
      have hkD : ∀ k, ((fun k => D k ∨ (W4.heap.size ≤ k ∧ k < V4.heap.size ∧ k ≠ bA))) k → wf.heap[k]? = wb.heap[k]? := fun k hk => hkp k (hDs k hk).1 (hDs k hk).2.2.2.1 (hDs k hk).2.2.1 (hDs k hk).2.1
      have hQ9 := hF2b.kept (w' := wf) (fun g hg => hkp g (hF2b.lt hg) (fun e => (hoH g e).2 hg) (by have := hob.2 g hg; omega) (hoQ g hg)) hkD
      have hH9 := (hO9.kept (w' := wf) (fun g hg => (hgf.block g (by have := hob9 g hg; omega) fun e => by injection e with e; have := hob9 g hg; omega).trans (hge.block g (hob9 g hg).2.2 fun e => by injection e with e; exact (hob9 g hg).2.1 e)) (fun k hk => (hgf.block k (by have := (hDs k hk).1; omega) fun e => by injection e with e; have := (hDs k hk).2.1; omega).trans (hge.block k (by have := (hDs k hk).1; omega) fun e => by injection e with e; exact (hDs k hk).2.2.1 e)))
      have g0 := hBf.cell (i := 0) rfl
      have g1 := hBf.cell (i := 1) rfl
      obtain ⟨fs, hu, _⟩ := lsS.hu
      refine bodyPost_ret (v := .tuple #[.agg #[.slice a9 L.length c9, .slice aD Q.length cD], .int .i64 0]) (by simp [results, Tryd.results30, go_sem, loadVar, isAgg, run_underlying hu, run_sizeOf' lsS.hs, loadCellsFrom, Addr.add, g0, g1]) rfl ?_
      rw [Hh.out]
      have zq := q.size
      exact ⟨_, _, _, _, rfl, ⟨_, _, _, _, rfl, hH9.rdL.weak (fun k hk => hk.elim (fun h => ⟨by have := (hDs k h).2.1; omega, by have := (hDs k h).1; omega⟩) fun h => ⟨by have := hob9 k h; omega, hH9.lt h⟩), hQ9.rdL.weak (fun k hk => hk.elim (fun h => ⟨by have := (hDs k h).2.1; omega, by have := (hDs k h).1; omega⟩) fun h => ⟨by have := hoQ k h; omega, hQ9.lt h⟩)⟩, ((qb.grown hgd qb.size (fun k e => by have := hob.1 k e; omega)).grown hge (by omega) (fun k e => by injection e with e; omega)).grown hgf (by omega) (fun k e => by injection e with e; omega)⟩
  · have hak := Lib.hid (hask { x with mode := joinM x.mode H[j].mode } (joined_at hj hyj hno))
    clear hask hno hyj
    obtain ⟨gH, KA, KC, VA, VC, rfl, _, _, _, _, _, _, hcm, _, _, _⟩ := hF18.lk j hj
    have hgH : gH < w7.heap.size := hF18.lt rfl
    have d0j : decide ((0 : Int) ≤ (j : Int)) = true := decide_eq_true (by omega)
    have hjl : ((j : Nat) : Int) < (H.length : Int) := by omega
    go_upto_region 11 with (fail)
    refine wp_region_lnl (K := fun A B => A.grownBy B (some bA)) (by kernel_rfl) (by kernel_rfl) [11, 15] (by kernel_rfl) [lEq (.pointer (some ⟨bA, 0 + 0, none⟩)), lEq (.pointer (some ⟨bA, 0 + 0 + 0, none⟩)), lEq (.pointer (some ⟨bA, 0 + 0 + 0 + 6, none⟩)), lEq (.int .i64 x.mode), lEq (.pointer (some ⟨bA, 0 + 7, none⟩)), lEq (.pointer (some ⟨bA, 0 + 7 + 0, none⟩)), lEq (.slice (some ⟨gH, 0, none⟩) H.length cC), lEq (.int .i64 ((j : Nat) : Int)), lEq (.pointer (some ⟨gH, 0 + j * 7, none⟩)), lEq (.pointer (some ⟨gH, 0 + j * 7 + 6, none⟩)), lEq (.int .i64 H[j].mode), lAny, lEq (.pointer (some ⟨bA, 0 + 0, none⟩)), lEq (.pointer (some ⟨bA, 0 + 0 + 0, none⟩)), lEq (.pointer (some ⟨bA, 0 + 0 + 0 + 6, none⟩)), lAny] (JoJ w7 bA (.int .i64 (joinM x.mode H[j].mode)) [.int .i64 x.owner, .bool x.whole, .int .i64 x.span.table, .slice p1 x.span.lo.length p2, .slice p3 x.span.hi.length p4, .bool x.span.isOpen, .int .i64 (joinM x.mode H[j].mode), .slice (some ⟨gH, 0, none⟩) H.length cC, .slice aD Q.length cD]) JoJ.below (show Below w7.heap.size w7 w7 from Below.refl _ _)
      ⟨?o0, ?o1, ?o2, ?o3, ?o4, ?o5, ?o6, ?o7, ?o8, ?o9, ?o10, ?o11, ?o12, ?o13, ?o14, ?o15, trivial⟩ ?fin
    case o0 =>
      refine LnOp.side rfl (by kernel_rfl) (fun A va w' k hF hT hk hJ hb hu hp hd => ?_)
      have e1 : A.eval (.tmp 7) = .pointer (some ⟨bA, 0, none⟩) := hF 7 rfl
      exact wp_fieldO askF0 rfl (e1) ⟨_, rfl, rfl, Below.refl _ _⟩
    case o1 =>
      refine LnOp.side rfl (by kernel_rfl) (fun A va w' k hF hT hk hJ hb hu hp hd => ?_)
      have e1 : A.eval (.tmp 60) = .pointer (some ⟨bA, 0 + 0, none⟩) := (hT 60 0 (by simp) rfl).trans (hd ⟨0, .data⟩ (by simp) rfl rfl)
      exact wp_fieldO oneF0 rfl (e1) ⟨_, rfl, rfl, Below.refl _ _⟩
    case o2 =>
      refine LnOp.side rfl (by kernel_rfl) (fun A va w' k hF hT hk hJ hb hu hp hd => ?_)
      have e1 : A.eval (.tmp 61) = .pointer (some ⟨bA, 0 + 0 + 0, none⟩) := (hT 61 1 (by simp) rfl).trans (hd ⟨1, .data⟩ (by simp) rfl rfl)
      exact wp_fieldO lkF3 rfl (e1) ⟨_, rfl, rfl, Below.refl _ _⟩
    case o3 =>
      refine LnOp.side rfl (by kernel_rfl) (fun A va w' k hF hT hk hJ hb hu hp hd => ?_)
      have e1 : A.eval (.tmp 62) = .pointer (some ⟨bA, 0 + 0 + 0 + 6, none⟩) := (hT 62 2 (by simp) rfl).trans (hd ⟨2, .data⟩ (by simp) rfl rfl)
      obtain rfl : k = 0 := by have := hb 0 11 rfl (by kernel_rfl); omega
      have hJ0 : Below w7.heap.size w7 w' := hJ
      exact wp_ld_int (k := .i64) rfl e1 (by kernel_rfl) ((hA7.below hJ0 hA7.lt).cell (i := 6) rfl) ⟨_, rfl, rfl, Below.refl _ _⟩
    case o4 =>
      refine LnOp.side rfl (by kernel_rfl) (fun A va w' k hF hT hk hJ hb hu hp hd => ?_)
      have e1 : A.eval (.tmp 7) = .pointer (some ⟨bA, 0, none⟩) := hF 7 rfl
      exact wp_fieldO askF1 rfl (e1) ⟨_, rfl, rfl, Below.refl _ _⟩
    case o5 =>
      refine LnOp.side rfl (by kernel_rfl) (fun A va w' k hF hT hk hJ hb hu hp hd => ?_)
      have e1 : A.eval (.tmp 64) = .pointer (some ⟨bA, 0 + 7, none⟩) := (hT 64 4 (by simp) rfl).trans (hd ⟨4, .data⟩ (by simp) rfl rfl)
      exact wp_fieldN lsS rfl (e1) (by omega) ⟨_, rfl, rfl, Below.refl _ _⟩
    case o6 =>
      refine LnOp.side rfl (by kernel_rfl) (fun A va w' k hF hT hk hJ hb hu hp hd => ?_)
      have e1 : A.eval (.tmp 65) = .pointer (some ⟨bA, 0 + 7 + 0, none⟩) := (hT 65 5 (by simp) rfl).trans (hd ⟨5, .data⟩ (by simp) rfl rfl)
      exact wp_ld_slice (e := 29) rfl e1 (by kernel_rfl) (JoJ.cell hA7 (i := 7) rfl rfl hJ) ⟨_, rfl, rfl, Below.refl _ _⟩
    case o7 =>
      refine LnOp.side rfl (by kernel_rfl) (fun A va w' k hF hT hk hJ hb hu hp hd => ?_)
      have e1 : A.eval (.tmp 8) = .int .i64 ((j : Nat) : Int) := hF 8 rfl
      exact BigFrame.wp_move _ rfl ⟨_, rfl, e1, Below.refl _ _⟩
    case o8 =>
      refine LnOp.side rfl (by kernel_rfl) (fun A va w' k hF hT hk hJ hb hu hp hd => ?_)
      have e1 : A.eval (.tmp 66) = .slice (some ⟨gH, 0, none⟩) H.length cC := (hT 66 6 (by simp) rfl).trans (hd ⟨6, .data⟩ (by simp) rfl rfl)
      have e2 : A.eval (.tmp 67) = .int .i64 ((j : Nat) : Int) := (hT 67 7 (by simp) rfl).trans (hd ⟨7, .data⟩ (by simp) rfl rfl)
      exact wp_ixN (e := 29) rfl (by kernel_rfl) (by kernel_rfl) (e1) (e2) rfl (by omega) ⟨_, rfl, rfl, Below.refl _ _⟩
    case o9 =>
      refine LnOp.side rfl (by kernel_rfl) (fun A va w' k hF hT hk hJ hb hu hp hd => ?_)
      have e1 : A.eval (.tmp 68) = .pointer (some ⟨gH, 0 + j * 7, none⟩) := (hT 68 8 (by simp) rfl).trans (hd ⟨8, .data⟩ (by simp) rfl rfl)
      exact wp_fieldO lkF3 rfl (e1) ⟨_, rfl, rfl, Below.refl _ _⟩
    case o10 =>
      refine LnOp.side rfl (by kernel_rfl) (fun A va w' k hF hT hk hJ hb hu hp hd => ?_)
      have e1 : A.eval (.tmp 69) = .pointer (some ⟨gH, 0 + j * 7 + 6, none⟩) := (hT 69 9 (by simp) rfl).trans (hd ⟨9, .data⟩ (by simp) rfl rfl)
      obtain rfl : k = 0 := by have := hb 0 11 rfl (by kernel_rfl); omega
      have hJ0 : Below w7.heap.size w7 w' := hJ
      exact wp_ld_int (k := .i64) rfl e1 (by kernel_rfl) (by have := (cell_keep (hJ0.block gH hgH) (j * 7 + 6)).trans hcm; rw [show 0 + j * 7 + 6 = j * 7 + 6 by omega]; exact this) ⟨_, rfl, rfl, Below.refl _ _⟩
    case o11 =>
      refine LnOp.line 0 rfl rfl (fun A va w' hF hT hJ hu hd => ?_)
      have e1 : A.eval (.tmp 63) = .int .i64 x.mode := (hT 63 3 (by simp) rfl).trans (hd ⟨3, .data⟩ (by simp) rfl rfl)
      have e2 : A.eval (.tmp 70) = .int .i64 H[j].mode := (hT 70 10 (by simp) rfl).trans (hd ⟨10, .data⟩ (by simp) rfl rfl)
      have hJ0 : Below w7.heap.size w7 w' := hJ
      refine wp_callFn rfl eJo (by simp only [List.map_toArray, List.map_cons, List.map_nil, e1, e2]) ((join_any w' x.mode H[j].mode).mono ?_)
      rintro e w2 ⟨rfl, rfl⟩
      exact ⟨_, rfl, _, rfl, ⟨hJ0, rfl⟩, grownB (Below.refl _ _) _⟩
    case o12 =>
      refine LnOp.side rfl (by kernel_rfl) (fun A va w' k hF hT hk hJ hb hu hp hd => ?_)
      have e1 : A.eval (.tmp 7) = .pointer (some ⟨bA, 0, none⟩) := hF 7 rfl
      exact wp_fieldO askF0 rfl (e1) ⟨_, rfl, rfl, Below.refl _ _⟩
    case o13 =>
      refine LnOp.side rfl (by kernel_rfl) (fun A va w' k hF hT hk hJ hb hu hp hd => ?_)
      have e1 : A.eval (.tmp 72) = .pointer (some ⟨bA, 0 + 0, none⟩) := (hT 72 12 (by simp) rfl).trans (hd ⟨12, .data⟩ (by simp) rfl rfl)
      exact wp_fieldO oneF0 rfl (e1) ⟨_, rfl, rfl, Below.refl _ _⟩
    case o14 =>
      refine LnOp.side rfl (by kernel_rfl) (fun A va w' k hF hT hk hJ hb hu hp hd => ?_)
      have e1 : A.eval (.tmp 73) = .pointer (some ⟨bA, 0 + 0 + 0, none⟩) := (hT 73 13 (by simp) rfl).trans (hd ⟨13, .data⟩ (by simp) rfl rfl)
      exact wp_fieldO lkF3 rfl (e1) ⟨_, rfl, rfl, Below.refl _ _⟩
    case o15 =>
      refine LnOp.line 1 rfl rfl (fun A va w' hF hT hJ hu hd => ?_)
      have e1 : A.eval (.tmp 74) = .pointer (some ⟨bA, 0 + 0 + 0 + 6, none⟩) := (hT 74 14 (by simp) rfl).trans (hd ⟨14, .data⟩ (by simp) rfl rfl)
      have x2 : A.eval (.tmp 71) = va 11 := hT 71 11 (by simp) rfl
      obtain ⟨hJ0, ev⟩ := hJ
      refine wp_boxSet (j := 6) rfl (by kernel_rfl) e1 (x2.trans ev) rfl rfl (hA7.below hJ0 hA7.lt) (by simp) (fun w2 hg hB2 => ?_)
      exact ⟨_, rfl, ⟨grownT (grownB hJ0 _) hg, hB2⟩, hg⟩
    case fin =>
      intro vs1 V9 hJ hG
      obtain ⟨hg9, hAj⟩ := hJ
      have g0 : vs1 0 = .pointer (some ⟨bA, 0 + 0, none⟩) := hG 0 (by decide) rfl
      have g1 : vs1 1 = .pointer (some ⟨bA, 0 + 0 + 0, none⟩) := hG 1 (by decide) rfl
      have g2 : vs1 2 = .pointer (some ⟨bA, 0 + 0 + 0 + 6, none⟩) := hG 2 (by decide) rfl
      have g3 : vs1 3 = .int .i64 x.mode := hG 3 (by decide) rfl
      have g4 : vs1 4 = .pointer (some ⟨bA, 0 + 7, none⟩) := hG 4 (by decide) rfl
      have g5 : vs1 5 = .pointer (some ⟨bA, 0 + 7 + 0, none⟩) := hG 5 (by decide) rfl
      have g6 : vs1 6 = .slice (some ⟨gH, 0, none⟩) H.length cC := hG 6 (by decide) rfl
      have g7 : vs1 7 = .int .i64 ((j : Nat) : Int) := hG 7 (by decide) rfl
      have g8 : vs1 8 = .pointer (some ⟨gH, 0 + j * 7, none⟩) := hG 8 (by decide) rfl
      have g9 : vs1 9 = .pointer (some ⟨gH, 0 + j * 7 + 6, none⟩) := hG 9 (by decide) rfl
      have g10 : vs1 10 = .int .i64 H[j].mode := hG 10 (by decide) rfl
      have g12 : vs1 12 = .pointer (some ⟨bA, 0 + 0, none⟩) := hG 12 (by decide) rfl
      have g13 : vs1 13 = .pointer (some ⟨bA, 0 + 0 + 0, none⟩) := hG 13 (by decide) rfl
      have g14 : vs1 14 = .pointer (some ⟨bA, 0 + 0 + 0 + 6, none⟩) := hG 14 (by decide) rfl
      clear hG
      simp only [putAll, g0, g1, g2, g3, g4, g5, g6, g7, g8, g9, g10, g12, g13, g14]
      clear g0 g1 g2 g3 g4 g5 g6 g7 g8 g9 g10 g12 g13 g14
      go_simp
      obtain ⟨y, ey⟩ : ∃ y : Lk, y = { x with mode := joinM x.mode H[j].mode } := ⟨_, rfl⟩
      have z9 := hg9.size
      have hA9 : BoxN V9 bA 61 [.int .i64 y.owner, .bool y.whole, .int .i64 y.span.table, .slice p1 y.span.lo.length p2, .slice p3 y.span.hi.length p4, .bool y.span.isOpen, .int .i64 y.mode, .slice (some ⟨gH, 0, none⟩) H.length cC, .slice aD Q.length cD] := by rw [ey]; exact hAj
      have hx9 : RdLk (fun k => W4.heap.size ≤ k ∧ k < V4.heap.size ∧ k ≠ bA) V9 (.agg #[.int .i64 y.owner, .bool y.whole, .int .i64 y.span.table, .slice p1 y.span.lo.length p2, .slice p3 y.span.hi.length p4, .bool y.span.isOpen, .int .i64 y.mode]) y := by
        rw [ey]
        have h9 := hx7.keep (w' := V9) fun k hk => hg9.block k (by omega) fun e => by injection e with e; exact hk.2.2 e
        obtain ⟨_, _, e, h1, h2, h3⟩ := h9.R
        injection e with _ e
        injection e with _ e
        injection e with _ e
        injection e with f1 e
        injection e with f2 _
        rw [← f1] at h1
        rw [← f2] at h2
        exact ⟨_, _, _, _, rfl, h1, h2, h3.1, h3.2.1, join_w64 _ _⟩
      rw [← ey] at hak
      have hB9 := hB8.other hg9 (fun e => by injection e with e; omega)
      have bz9 := bz8.other hg9 (fun e => by injection e with e; omega)
      have hk9 : ∀ k, k < W4.heap.size → V9.heap[k]? = w7.heap[k]? := fun k hk => hg9.block k (by omega) fun e => by injection e with e; omega
      have hF19 := hF18.kept (w' := V9) (fun g hg => hk9 g (by have := hob.1 g hg; omega)) fun k hk => hk9 k (hDl k hk)
      have hF29 := hF28.kept (w' := V9) (fun g hg => hk9 g (by have := hob.2 g hg; omega)) fun k hk => hk9 k (hDl k hk)
      have q9 := q8.grown hg9 q8.size (fun k e => by injection e with e; omega)
      clear hAj hA7 hx7 hB8 bz8 hF18 hF28 q8 hg9 hk9 ey hcm d0j hjl
      have zT := hA9.lt
      have hC := blocked_any V9 (hT.below q9) hx9 hF19.rdL hF29.rdL
      have e0 := hA9.cell (i := 0) rfl
      have e1 := hA9.cell (i := 1) rfl
      have e2 := hA9.cell (i := 2) rfl
      have e3 := hA9.cell (i := 3) rfl
      have e4 := hA9.cell (i := 4) rfl
      have e5 := hA9.cell (i := 5) rfl
      have e6 := hA9.cell (i := 6) rfl
      have e7 := hA9.cell (i := 7) rfl
      have e8 := hA9.cell (i := 8) rfl
      go_wp2_with fail
      refine hC.mono ?_
      rintro e wb ⟨rfl, hb⟩
      have zb := hb.size
      have hAb := hA9.below hb hA9.lt
      have hxb := (hx9.below hb).weak (S' := (fun k => D k ∨ (W4.heap.size ≤ k ∧ k < V4.heap.size ∧ k ≠ bA))) fun k hk => .inr hk
      have qb := q9.trans (hb.mono q9.size)
      have hBb := hB9.below hb hB9.lt
      have bzb := bz9.below hb bz9.lt
      have hF1b := (hF19.below hb (fun k hk => by have := hDl k hk; omega)).weak (S' := (fun k => D k ∨ (W4.heap.size ≤ k ∧ k < V4.heap.size ∧ k ≠ bA))) fun k hk => .inl hk
      have hF2b := (hF29.below hb (fun k hk => by have := hDl k hk; omega)).weak (S' := (fun k => D k ∨ (W4.heap.size ≤ k ∧ k < V4.heap.size ∧ k ≠ bA))) fun k hk => .inl hk
      have hDs : ∀ k, ((fun k => D k ∨ (W4.heap.size ≤ k ∧ k < V4.heap.size ∧ k ≠ bA))) k → k < wb.heap.size ∧ W0.heap.size ≤ k ∧ k ≠ W1.heap.size ∧ Value.ownBlock (.slice (some ⟨gH, 0, none⟩) H.length cC) ≠ some k ∧ Value.ownBlock (.slice aD Q.length cD) ≠ some k := fun k hk => hk.elim (fun h => ⟨by have := hDl k h; omega, (hD k h).1, by have := hDw k h; omega, (hD k h).2.2⟩) fun h => ⟨by omega, by omega, by omega, fun e => by have := hob.1 k e; omega, fun e => by have := hob.2 k e; omega⟩
      clear e0 e1 e2 e3 e4 e5 e6 e7 e8 hC hb hA9 hx9 hB9 bz9 hF19 hF29 q9
      have f0 := hBb.cell (i := 0) rfl
      have f1 := hBb.cell (i := 1) rfl
      have e0 := hAb.cell (i := 0) rfl
      have e1 := hAb.cell (i := 1) rfl
      have e2 := hAb.cell (i := 2) rfl
      have e3 := hAb.cell (i := 3) rfl
      have e4 := hAb.cell (i := 4) rfl
      have e5 := hAb.cell (i := 5) rfl
      have e6 := hAb.cell (i := 6) rfl
      have e7 := hAb.cell (i := 7) rfl
      have e8 := hAb.cell (i := 8) rfl
      cases hbk : blk y H Q with
      | true =>
        have Hh := Lib.hid (hak.out.1 hbk)
        clear hbk hak
        have hln : (Q ++ [y]).length = Q.length + 1 := by rw [List.length_append]; rfl
        have hbr : Value.ownBlock (.slice aD Q.length cD) ≠ some W1.heap.size := fun e => by have := hob.2 _ e; omega
        have hOb4 : ∀ w4, Below wb.heap.size wb w4 → OwnF Elt.lk 29 (fun k => D k ∨ (W4.heap.size ≤ k ∧ k < V4.heap.size ∧ k ≠ bA)) w4 (.slice aD Q.length cD) Q := fun w4 hb4 => hF2b.below hb4 fun k hk => (hDs k hk).1
        have hS4 : ∀ w4, Below wb.heap.size wb w4 → ∀ k, ((fun k => D k ∨ (W4.heap.size ≤ k ∧ k < V4.heap.size ∧ k ≠ bA))) k → k < w4.heap.size ∧ some k ≠ Value.ownBlock (.slice aD Q.length cD) := fun w4 hb4 k hk => ⟨by have := (hDs k hk).1; have := hb4.size; omega, fun e => (hDs k hk).2.2.2.2 e.symm⟩
        go_wp2_with (first
          | (refine wpList_buildOne lkP rfl rfl rfl (us := [.int .i64 y.owner, .bool y.whole, .int .i64 y.span.table, .slice p1 y.span.lo.length p2, .slice p3 y.span.hi.length p4, .bool y.span.isOpen, .int .i64 y.mode]) rfl rfl (by decide) (by decide) ?_; intro wc hbc hrow)
          | (refine wpList_appF (E := Elt.lk) (n := Q.length + 1) lkP rfl rfl rfl rfl (hOb4 _ hbc) hrow (Elt.below hxb.R hbc) (hS4 _ hbc) (by omega) rfl ?_; intro ad9 c9 wd hO9 hgd ho9)
          | (refine wpList_boxSet (j := 1) rfl rfl rfl (by kernel_rfl) rfl rfl rfl rfl ((hBb.below hbc hBb.lt).other hgd hbr) (by simp) ?_; intro we hge hBe; have g0 := hBe.cell (i := 0) rfl; have g1 := hBe.cell (i := 1) rfl)
          | (refine wpList_boxStore (us := [.slice (some ⟨gH, 0, none⟩) H.length cC, .slice ad9 (Q.length + 1) c9]) (by kernel_rfl) rfl rfl rfl rfl rfl rfl (((bzb.below hbc bzb.lt).other hgd (fun e => by have := hob.2 _ e; omega)).other hge (fun e => by injection e with e; omega)) rfl ?_; intro wf hgf hBf)
          | fail)
        have zc := hbc.size
        have zd := hgd.size
        have ze := hge.size
        have zf := hgf.size
        have hob9 : ∀ g, Value.ownBlock (.slice ad9 (Q.length + 1) c9) = some g → W0.heap.size ≤ g ∧ g ≠ W1.heap.size ∧ g < wd.heap.size := fun g hg => ⟨by
          rcases ho9 with e | ⟨k9, e, h9⟩
          · rw [e] at hg; have := hob.2 g hg; omega
          · rw [e] at hg; injection hg with hg; omega, by
          rcases ho9 with e | ⟨k9, e, h9⟩
          · rw [e] at hg; have := hob.2 g hg; omega
          · rw [e] at hg; injection hg with hg; omega, hO9.lt hg⟩
        have hkp : ∀ k, k < wb.heap.size → Value.ownBlock (.slice aD Q.length cD) ≠ some k → k ≠ W1.heap.size → W0.heap.size ≤ k → wf.heap[k]? = wb.heap[k]? := fun k h1 h2 h3 h4 => (((hgf.block k (by omega) fun e => by injection e with e; omega).trans (hge.block k (by omega) fun e => by injection e with e; exact h3 e)).trans (hgd.block k (by omega) fun e => h2 e.symm)).trans (hbc.block k h1)
        have hkD : ∀ k, ((fun k => D k ∨ (W4.heap.size ≤ k ∧ k < V4.heap.size ∧ k ≠ bA))) k → wf.heap[k]? = wb.heap[k]? := fun k hk => hkp k (hDs k hk).1 (hDs k hk).2.2.2.2 (hDs k hk).2.2.1 (hDs k hk).2.1
        have hH9 := hF1b.kept (w' := wf) (fun g hg => hkp g (hF1b.lt hg) (hoH g hg).2 (by have := hob.1 g hg; omega) (hoH g hg).1) hkD
        have hQ9 := (hO9.kept (w' := wf) (fun g hg => (hgf.block g (by have := hob9 g hg; omega) fun e => by injection e with e; have := hob9 g hg; omega).trans (hge.block g (hob9 g hg).2.2 fun e => by injection e with e; exact (hob9 g hg).2.1 e)) (fun k hk => (hgf.block k (by have := (hDs k hk).1; omega) fun e => by injection e with e; have := (hDs k hk).2.1; omega).trans (hge.block k (by have := (hDs k hk).1; omega) fun e => by injection e with e; exact (hDs k hk).2.2.1 e)))
        have g0 := hBf.cell (i := 0) rfl
        have g1 := hBf.cell (i := 1) rfl
        obtain ⟨fs, hu, _⟩ := lsS.hu
        refine bodyPost_ret (v := .tuple #[.agg #[.slice (some ⟨gH, 0, none⟩) H.length cC, .slice ad9 (Q.length + 1) c9], .int .i64 110]) (by simp [results, Tryd.results30, go_sem, loadVar, isAgg, run_underlying hu, run_sizeOf' lsS.hs, loadCellsFrom, Addr.add, g0, g1]) rfl ?_
        rw [Hh.out]
        have zq := q.size
        rw [← hln] at hQ9 ⊢
        exact ⟨_, _, _, _, rfl, ⟨_, _, _, _, rfl, hH9.rdL.weak (fun k hk => hk.elim (fun h => ⟨by have := (hDs k h).2.1; omega, by have := (hDs k h).1; omega⟩) fun h => ⟨by have := (hoH k h).1; omega, hH9.lt h⟩), hQ9.rdL.weak (fun k hk => hk.elim (fun h => ⟨by have := (hDs k h).2.1; omega, by have := (hDs k h).1; omega⟩) fun h => ⟨by rw [hln] at h; have := hob9 k h; omega, hQ9.lt h⟩)⟩, (((qb.trans (hbc.mono qb.size)).grown hgd (qb.trans (hbc.mono qb.size)).size (fun k e => by have := hob.2 k e; omega)).grown hge (by omega) (fun k e => by injection e with e; omega)).grown hgf (by omega) (fun k e => by injection e with e; omega)⟩
      | false =>
        have Hh := Lib.hid (hak.out.2 hbk)
        clear hbk hak
        have hh := held_any wb (aQ := aD) (nQ := Q.length) (cQ := cD) hxb hF1b (fun k hk => ⟨(hDs k hk).1, (hDs k hk).2.2.2.1⟩) (by omega)
        go_wp2_with fail
        refine hh.mono ?_
        rintro e wd ⟨a9, c9, rfl, hO9, hgd, ho9⟩
        have zd := hgd.size
        have hBd := hBb.other hgd (fun e => by have := hob.1 _ e; omega)
        have hob9 : ∀ g, Value.ownBlock (.slice a9 (heldA y H).length c9) = some g → W0.heap.size ≤ g ∧ g ≠ W1.heap.size ∧ g < wd.heap.size := fun g hg => ⟨by
          rcases ho9 with e | ⟨k9, e, h9⟩
          · rw [e] at hg; have := hob.1 g hg; omega
          · rw [e] at hg; injection hg with hg; omega, by
          rcases ho9 with e | ⟨k9, e, h9⟩
          · rw [e] at hg; have := hob.1 g hg; omega
          · rw [e] at hg; injection hg with hg; omega, hO9.lt hg⟩
        obtain ⟨L, eL⟩ : ∃ L, L = heldA y H := ⟨_, rfl⟩
        rw [← eL] at hO9 hob9 Hh ⊢
        clear hh e0 e1 e2 e3 e4 e5 e6 e7 e8 f0 f1 ho9 eL
        go_wp2_with (first
          | (refine wpList_boxSet (j := 0) rfl rfl rfl (by kernel_rfl) rfl rfl rfl rfl hBd (by simp) ?_; intro we hge hBe; have g0 := hBe.cell (i := 0) rfl; have g1 := hBe.cell (i := 1) rfl)
          | (refine wpList_boxStore (us := [.slice a9 L.length c9, .slice aD Q.length cD]) (by kernel_rfl) rfl rfl rfl rfl rfl rfl ((bzb.other hgd (fun e => by have := hob.1 _ e; omega)).other hge (fun e => by injection e with e; omega)) rfl ?_; intro wf hgf hBf)
          | fail)
        have ze := hge.size
        have zf := hgf.size
        have hkp : ∀ k, k < wb.heap.size → Value.ownBlock (.slice (some ⟨gH, 0, none⟩) H.length cC) ≠ some k → k ≠ W1.heap.size → W0.heap.size ≤ k → wf.heap[k]? = wb.heap[k]? := fun k h1 h2 h3 h4 => ((hgf.block k (by omega) fun e => by injection e with e; omega).trans (hge.block k (by omega) fun e => by injection e with e; exact h3 e)).trans (hgd.block k h1 fun e => h2 e.symm)
        have hkD : ∀ k, ((fun k => D k ∨ (W4.heap.size ≤ k ∧ k < V4.heap.size ∧ k ≠ bA))) k → wf.heap[k]? = wb.heap[k]? := fun k hk => hkp k (hDs k hk).1 (hDs k hk).2.2.2.1 (hDs k hk).2.2.1 (hDs k hk).2.1
        have hQ9 := hF2b.kept (w' := wf) (fun g hg => hkp g (hF2b.lt hg) (fun e => (hoH g e).2 hg) (by have := hob.2 g hg; omega) (hoQ g hg)) hkD
        have hH9 := (hO9.kept (w' := wf) (fun g hg => (hgf.block g (by have := hob9 g hg; omega) fun e => by injection e with e; have := hob9 g hg; omega).trans (hge.block g (hob9 g hg).2.2 fun e => by injection e with e; exact (hob9 g hg).2.1 e)) (fun k hk => (hgf.block k (by have := (hDs k hk).1; omega) fun e => by injection e with e; have := (hDs k hk).2.1; omega).trans (hge.block k (by have := (hDs k hk).1; omega) fun e => by injection e with e; exact (hDs k hk).2.2.1 e)))
        have g0 := hBf.cell (i := 0) rfl
        have g1 := hBf.cell (i := 1) rfl
        obtain ⟨fs, hu, _⟩ := lsS.hu
        refine bodyPost_ret (v := .tuple #[.agg #[.slice a9 L.length c9, .slice aD Q.length cD], .int .i64 0]) (by simp [results, Tryd.results30, go_sem, loadVar, isAgg, run_underlying hu, run_sizeOf' lsS.hs, loadCellsFrom, Addr.add, g0, g1]) rfl ?_
        rw [Hh.out]
        have zq := q.size
        exact ⟨_, _, _, _, rfl, ⟨_, _, _, _, rfl, hH9.rdL.weak (fun k hk => hk.elim (fun h => ⟨by have := (hDs k h).2.1; omega, by have := (hDs k h).1; omega⟩) fun h => ⟨by have := hob9 k h; omega, hH9.lt h⟩), hQ9.rdL.weak (fun k hk => hk.elim (fun h => ⟨by have := (hDs k h).2.1; omega, by have := (hDs k h).1; omega⟩) fun h => ⟨by have := hoQ k h; omega, hQ9.lt h⟩)⟩, ((qb.grown hgd qb.size (fun k e => by have := hob.1 k e; omega)).grown hge (by omega) (fun k e => by injection e with e; omega)).grown hgf (by omega) (fun k e => by injection e with e; omega)⟩
end Go.Proofs.YtpdnehgboafgpaaDoor
