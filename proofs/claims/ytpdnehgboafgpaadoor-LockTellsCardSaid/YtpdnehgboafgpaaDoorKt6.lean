/-
  TEXTS OF ONE PROOF, merged: LkG, LkH, LkI, LkS, LkR, LkJ.
-/
import Derived.Lib.OwnBridge
import Derived.Shelf.Slices.CompactI
import Derived.Shelf.Slices.In.SortNone
import Derived.Shelf.Sort.Plain
import Derived.Sort.OwnSortedInts
import Derived.Test.YtpdnehgboafgpaaDoorKt5
namespace Go.Proofs.YtpdnehgboafgpaaDoor
open Go.RowKit Go.Shelf
def akV (x : Lk) (x1 : Option Addr) (x2 : Nat) (x3 : Option Addr) (x4 : Nat) (aH : Option Addr) (nH cH : Nat) (aQ : Option Addr) (nQ cQ : Nat) : List Value := [.int .i64 x.owner, .bool x.whole, .int .i64 x.span.table, .slice x1 x.span.lo.length x2, .slice x3 x.span.hi.length x4, .bool x.span.isOpen, .int .i64 x.mode, .slice aH nH cH, .slice aQ nQ cQ]
theorem Trd.tab {F : Nat → Prop} {w w' : World} (h : Trd F w w') (hT : TabAt w) (h0 : ¬ F 0) : TabAt w' := fun a b ha hb => h.cell (hT a b ha hb) h0
theorem RdL.trd {α : Type} {E : Elt α} {S F : Nat → Prop} {w w' : World} {v : Value} {xs : List α} (h : RdL E S w v xs) (hq : Trd F w w') (hS : ∀ k, S k → ¬ F k) : RdL E S w' v xs := (h.fit.keep fun k hk => hq.block k hk.2 (hS k hk.1)).weak fun _ hk => hk.1
theorem BoxN.trd {F : Nat → Prop} {w w' : World} {b : Nat} {t : TypeId} {vs : List Value} (h : BoxN w b t vs) (hq : Trd F w w') (hb : ¬ F b) : BoxN w' b t vs := (hq.block b h.lt hb).trans h
theorem Trd.hi {F : Nat → Prop} {w A B : World} {r : Option Nat} (h : Trd F w A) (hg : A.grownBy B r) (hr : ∀ k, r = some k → w.heap.size ≤ k) : Trd F w B :=
  ⟨hg.os.trans h.os, hg.tape.trans h.tape, hg.output.trans h.output, Nat.le_trans h.size hg.size, fun k hk hn => (hg.block k (Nat.lt_of_lt_of_le hk h.size) fun e => by have := hr k e.symm; omega).trans (h.block k hk hn)⟩
def Looks (F : FuncId) (caps : Array Value) (fp S : Nat → Prop) (w : World) (St : World → Prop) (stay : List Lk → Lk → Bool) (Fin : List Lk → Lk → World → Prop) (aH : Option Addr) (cH : Nat) (H : List Lk) : Prop :=
  ∀ (W : World) (x : Lk) (p : List Lk) (x1 : Option Addr) (x2 : Nat) (x3 : Option Addr) (x4 : Nat) (aQ : Option Addr) (cQ : Nat), Trd fp w W → w.heap.size + 1 < W.heap.size → St W →
    RdLk (fun k => (S k ∨ w.heap.size ≤ k) ∧ ¬ fp k ∧ k ≠ w.heap.size + 1) W (.agg #[.int .i64 x.owner, .bool x.whole, .int .i64 x.span.table, .slice x1 x.span.lo.length x2, .slice x3 x.span.hi.length x4, .bool x.span.isOpen, .int .i64 x.mode]) x →
    RdL Elt.lk (fun k => (S k ∨ w.heap.size ≤ k) ∧ ¬ fp k ∧ k ≠ w.heap.size + 1) W (.slice aH H.length cH) H → RdL Elt.lk (fun k => (S k ∨ w.heap.size ≤ k) ∧ ¬ fp k ∧ k ≠ w.heap.size + 1) W (.slice aQ p.length cQ) p →
    Calls Tryd.prog F (#[.agg (akV x x1 x2 x3 x4 aH H.length cH aQ p.length cQ).toArray] ++ caps) W fun e W' => Trd fp W W' ∧ ((stay p x = true ∧ e = .returned (.int .i64 0) ∧ St W') ∨ (stay p x = false ∧ e = .returned (.int .i64 2) ∧ Fin p x W'))
set_option maxRecDepth 100000 in
set_option maxHeartbeats 4000000 in
theorem look_any (w : World) {S : Nat → Prop} {aH aL : Option Addr} {cH cL : Nat} {H Q : List Lk} (hH : RdL Elt.lk S w (.slice aH H.length cH) H) (hQ : RdL Elt.lk S w (.slice aL Q.length cL) Q) (hn : Q.length ≤ 1000000) (F : FuncId) (caps : Array Value) (hE : Enters Tryd.prog F) (fp : Nat → Prop) (hfp : ∀ k, fp k → k < w.heap.size) (hSf : ∀ k, S k → ¬ fp k)
    (St : World → Prop) (hSt : ∀ W W', St W → (∀ k, fp k → W'.heap[k]? = W.heap[k]?) → St W') (h0 : St w) (stay : List Lk → Lk → Bool) (Fin : List Lk → Lk → World → Prop) (hFin : ∀ p x W W', Fin p x W → W.grownBy W' (some (w.heap.size + 1)) → Fin p x W')
    (hF : Looks F caps fp S w St stay Fin aH cH H) :
    Calls Tryd.prog 41 #[.agg #[.slice aH H.length cH, .slice aL Q.length cL], .func (.func F) #[] caps] w fun e w' => (∃ v, e = .returned v) ∧ Trd fp w w' ∧
      (((∀ i (h : i < Q.length), stay (Q.take i) Q[i] = true) ∧ St w') ∨ ∃ i, ∃ h : i < Q.length, (∀ j (hj : j < i), stay (Q.take j) Q[j] = true) ∧ stay (Q.take i) Q[i] = false ∧ Fin (Q.take i) Q[i] w') := by
  obtain ⟨W0, hW, q, bn, bz, hsz⟩ := boxes2 w 24 24 [.slice aH H.length cH, .slice aL Q.length cL] [.slice none 0 0, .slice none 0 0]
  have hEE := hE
  unfold Enters at hEE
  go_enter Tryd.func41, Tryd.ntmps41
  go_wp2
  go_step3
  go_upto_region 1 with (fail)
  rw [show (w.alloc (.cells #[.slice aH H.length cH, .slice aL Q.length cL] 24)).alloc (.cells #[.slice none 0 0, .slice none 0 0] 24) = W0 from hW.symm]
  clear hW
  have zW : W0.heap.size = w.heap.size + 1 + 1 := hsz
  have zW2 : w.heap.size + 1 < W0.heap.size := by omega
  replace zW := Lib.hid zW
  clear hsz
  have b0 := bn.cell (i := 0) rfl
  go_upto_region 2 with (first | (refine wpList_boxNew (vs := [.slice none 0 0, .slice none 0 0]) (by kernel_rfl) rfl rfl ?_; intro wa hba hBa) | (refine wpList_boxStore (us := [.slice aH H.length cH, .slice none 0 0]) (by kernel_rfl) rfl rfl rfl rfl rfl rfl hBa rfl ?_; intro W1 hg1 hB1) | fail)
  have hb1 : Below W0.heap.size W0 W1 := hba.grown hg1 hba.size fun k hk => by injection hk with hk; omega
  have q1 : Trd fp w W1 := (Trd.of (q.trans (hb1.mono q.size)))
  have zL := hB1.lt
  have bn1 := bn.below hb1 bn.lt
  have bz1 := bz.below hb1 bz.lt
  have s1 := hSt _ _ h0 fun k hk => (q.trans (hb1.mono q.size)).block k (hfp k hk)
  clear b0 hba hBa hg1 hb1 bn bz q h0
  have b1 := bn1.cell (i := 1) rfl
  go_step3
  go_upto_region 3 with (fail)
  clear b1
  go_loopw [15] (fun iv wr => ∃ (k : Nat) (ad : Option Addr) (ko : Nat), iv = .int .i64 k ∧ k ≤ Q.length ∧ (∀ j (h : j < Q.length), j < k → stay (Q.take j) Q[j] = true) ∧ OwnF Elt.lk 29 (fun k => S k ∧ k < w.heap.size) wr (.slice ad (Q.take k).length ko) (Q.take k) ∧ (∀ g, Value.ownBlock (.slice ad (Q.take k).length ko) = some g → W0.heap.size < g) ∧ BoxN wr W0.heap.size 24 [.slice aH H.length cH, .slice ad (Q.take k).length ko] ∧ BoxN wr (w.heap.size + 1) 24 [.slice none 0 0, .slice none 0 0] ∧ St wr ∧ Trd fp w wr)
    (fun i _ => Q.length - (intOf i).toNat)
  case atStart => exact ⟨0, none, 0, rfl, Nat.zero_le _, fun j _ h => absurd h (Nat.not_lt_zero j), OwnF.nil _ _ _ _, fun g h => by simp [Value.ownBlock] at h, hB1, bz1, s1, q1⟩
  case round =>
    clear hB1 bz1 s1 bn1
    obtain ⟨k, ad, ko, rfl, hkl, hst, hO, hOb, hB, bz, s, q⟩ := hrel
    replace hst := Lib.hid hst
    rcases Nat.lt_or_ge k Q.length with hlt | hge
    · have hQ2 := hQ.fit.trd q (fun k hk => hSf k hk.1)
      obtain ⟨b, off, KA, KC, VA, VC, rfl, hb, c0, c1, c2, c3, c4, c5, c6, hk1, hk2, hw64⟩ := hQ2.lk k hlt
      have hsn := Lib.hid (show Q.take (k + 1) = Q.take k ++ [Q[k]] from List.take_succ_eq_append_getElem hlt)
      obtain ⟨x, ex⟩ : ∃ x, x = Q[k] := ⟨_, rfl⟩
      obtain ⟨xs, exs⟩ : ∃ xs, xs = Q.take k := ⟨_, rfl⟩
      have hxl : xs.length ≤ 1000000 := by rw [exs, List.length_take]; omega
      have exk := Lib.hid ex
      have exsk := Lib.hid exs
      rw [← ex] at c0 c1 c2 c3 c4 c5 c6 hk1 hk2 hw64 hsn
      rw [← exs] at hO hB hOb hsn
      clear ex exs
      have zz := q.size
      go_upto_region 5 with (first | (refine wpList_boxNew (vs := [.int .i64 0, .bool false, .int .i64 0, .slice none 0 0, .slice none 0 0, .bool false, .int .i64 0]) (by kernel_rfl) rfl rfl ?_; intro wa hba hBa) | (refine wpList_boxStore (us := [.int .i64 x.owner, .bool x.whole, .int .i64 x.span.table, .slice KA x.span.lo.length KC, .slice VA x.span.hi.length VC, .bool x.span.isOpen, .int .i64 x.mode]) (by kernel_rfl) rfl rfl rfl rfl rfl rfl hBa rfl ?_; intro W hgw hXW) | fail)
      go_simp
      have hbw : Below wr.heap.size wr W := hba.grown hgw hba.size fun k hk => by injection hk with hk; omega
      have zw := hbw.size
      have zB := hB.lt
      replace q := q.trans (Trd.of hbw) (fun _ _ h => h)
      replace hB := hB.below hbw hB.lt
      replace bz := bz.below hbw bz.lt
      replace s := hSt _ _ s fun k hk => hbw.block k (by have := hfp k hk; omega)
      replace hO := hO.below hbw (fun k hk => by have := hk.2; omega)
      have hx : RdLk (fun k => S k ∧ k < w.heap.size) W (.agg #[.int .i64 x.owner, .bool x.whole, .int .i64 x.span.table, .slice KA x.span.lo.length KC, .slice VA x.span.hi.length VC, .bool x.span.isOpen, .int .i64 x.mode]) x := ⟨_, _, _, _, rfl, hk1.below hbw, hk2.below hbw, hw64⟩
      have zX := hXW.lt
      clear c0 c1 c2 c3 c4 c5 c6 hk1 hk2 hba hBa hgw hbw hQ2
      have f0 := hXW.cell (i := 0) rfl
      have f1 := hXW.cell (i := 1) rfl
      have f2 := hXW.cell (i := 2) rfl
      have f3 := hXW.cell (i := 3) rfl
      have f4 := hXW.cell (i := 4) rfl
      have f5 := hXW.cell (i := 5) rfl
      have f6 := hXW.cell (i := 6) rfl
      have d0 := hB.cell (i := 0) rfl
      have d1 := hB.cell (i := 1) rfl
      go_upto_region 6 with (first | (refine wpList_boxNew (vs := [.int .i64 0, .bool false, .int .i64 0, .slice none 0 0, .slice none 0 0, .bool false, .int .i64 0, .slice none 0 0, .slice none 0 0]) (by kernel_rfl) rfl rfl ?_; intro wa hba hBa) | (refine wpList_boxStore (us := [.int .i64 x.owner, .bool x.whole, .int .i64 x.span.table, .slice KA x.span.lo.length KC, .slice VA x.span.hi.length VC, .bool x.span.isOpen, .int .i64 x.mode, .slice aH H.length cH, .slice ad xs.length ko]) (by kernel_rfl) rfl rfl rfl rfl rfl rfl hBa rfl ?_; intro W2 hgw hYW) | fail)
      go_simp
      have hbw : Below W.heap.size W W2 := hba.grown hgw hba.size fun k hk => by injection hk with hk; omega
      have zw2 := hbw.size
      replace q := q.trans (Trd.of hbw) (fun _ _ h => h)
      replace hB := hB.below hbw hB.lt
      replace bz := bz.below hbw bz.lt
      replace hXW := hXW.below hbw hXW.lt
      replace s := hSt _ _ s fun k hk => hbw.block k (by have := hfp k hk; omega)
      replace hO := hO.below hbw (fun k hk => by have := hk.2; omega)
      replace hx := hx.below hbw
      clear f0 f1 f2 f3 f4 f5 f6 d0 d1 hba hBa hgw hbw
      have e0 := hYW.cell (i := 0) rfl
      have e1 := hYW.cell (i := 1) rfl
      have e2 := hYW.cell (i := 2) rfl
      have e3 := hYW.cell (i := 3) rfl
      have e4 := hYW.cell (i := 4) rfl
      have e5 := hYW.cell (i := 5) rfl
      have e6 := hYW.cell (i := 6) rfl
      have e7 := hYW.cell (i := 7) rfl
      have e8 := hYW.cell (i := 8) rfl
      go_wp2_with fail
      have hrr : ∀ g, Value.ownBlock (.slice ad xs.length ko) = some g → W0.heap.size < g ∧ g < W2.heap.size := fun g hg => ⟨hOb g hg, hO.lt hg⟩
      have hcall := hF W2 x xs KA KC VA VC ad ko q (by have := zW.out; omega) s (hx.weak fun k hk => ⟨.inl hk.1, hSf k hk.1, fun e => by have := hk.2; omega⟩) (((hH.fit).trd q fun k hk => hSf k hk.1).weak fun k hk => ⟨.inl hk.1, hSf k hk.1, fun e => by have := hk.2; omega⟩) (hO.rdL.weak fun k hk => hk.elim (fun h => ⟨.inl h.1, hSf k h.1, fun e => by have := h.2; omega⟩) fun h => ⟨.inr (by have := hrr k h; have := zW.out; omega), fun h2 => by have := hfp k h2; have := hrr k h; have := zW.out; omega, fun e => by have := hrr k h; have := zW.out; omega⟩)
      refine hcall.mono ?_
      rintro e w3 ⟨ht, hres⟩
      clear hcall e0 e1 e2 e3 e4 e5 e6 e7 e8
      have z3 := ht.size
      replace q := q.trans ht (fun _ _ h => h)
      replace hB := hB.trd ht (fun h => by have := hfp _ h; have := zW.out; omega)
      replace bz := bz.trd ht (fun h => by have := hfp _ h; omega)
      replace hXW := hXW.trd ht (fun h => by have := hfp _ h; omega)
      replace hO := hO.trd ht (fun g hg h => by have := hfp _ h; have := hrr g hg; have := zW.out; omega) (fun k hk => ⟨by have := hk.2; omega, hSf k hk.1⟩)
      replace hx := (hx.fit.keep (w' := w3) fun k hk => ht.block k hk.2 (hSf k hk.1.1)).weak (S' := fun k => S k ∧ k < w.heap.size) fun k hk => hk.1
      clear hYW s ht
      rcases hres with ⟨hsy, rfl, s3⟩ | ⟨hsy, rfl, hfin⟩
      · have hst9 := Lib.hid (show ∀ j (h : j < Q.length), j < k + 1 → stay (Q.take j) Q[j] = true from fun j h hj => by
          by_cases e : j = k
          · subst e; rw [← exsk.out, ← exk.out]; exact hsy
          · exact hst.out j h (by omega))
        clear hst hsy exk exsk
        have f0 := hXW.cell (i := 0) rfl
        have f1 := hXW.cell (i := 1) rfl
        have f2 := hXW.cell (i := 2) rfl
        have f3 := hXW.cell (i := 3) rfl
        have f4 := hXW.cell (i := 4) rfl
        have f5 := hXW.cell (i := 5) rfl
        have f6 := hXW.cell (i := 6) rfl
        have d1 := hB.cell (i := 1) rfl
        have hbr : Value.ownBlock (.slice ad xs.length ko) ≠ some W0.heap.size := fun e => by have := hrr _ e; omega
        have hbr2 : Value.ownBlock (.slice ad xs.length ko) ≠ some (w.heap.size + 1) := fun e => by have := hrr _ e; have := zW.out; omega
        have hOb4 : ∀ w4, Below w3.heap.size w3 w4 → OwnF Elt.lk 29 (fun k => S k ∧ k < w.heap.size) w4 (.slice ad xs.length ko) xs := fun w4 hb4 => hO.below hb4 fun k hk => by have := hk.2; omega
        have hS4 : ∀ w4, Below w3.heap.size w3 w4 → ∀ k, (S k ∧ k < w.heap.size) → k < w4.heap.size ∧ some k ≠ Value.ownBlock (.slice ad xs.length ko) := fun w4 hb4 k hk => ⟨by have := hk.2; have := hb4.size; omega, fun e => by have := hrr k e.symm; have := hk.2; have := zW.out; omega⟩
        go_wp2_with (first
          | (refine wpList_buildOne lkP rfl rfl rfl (us := [.int .i64 x.owner, .bool x.whole, .int .i64 x.span.table, .slice KA x.span.lo.length KC, .slice VA x.span.hi.length VC, .bool x.span.isOpen, .int .i64 x.mode]) rfl rfl (by decide) (by decide) ?_; intro w4 hb4 hrow)
          | (refine wpList_appF (E := Elt.lk) (n := xs.length + 1) lkP rfl rfl rfl rfl (hOb4 _ hb4) hrow (Elt.below hx.R hb4) (hS4 _ hb4) (by omega) rfl ?_; intro ad9 c9 w5 hO9 hg5 ho9)
          | (refine wpList_boxSet (j := 1) rfl rfl rfl (by kernel_rfl) rfl rfl rfl rfl ((hB.below hb4 hB.lt).other hg5 hbr) (by simp) ?_; intro w6 hg6 hB6)
          | fail)
        have z4 := hb4.size
        have z5 := hg5.size
        have hob9 : ∀ g, Value.ownBlock (.slice ad9 (xs.length + 1) c9) = some g → W0.heap.size < g ∧ g < w5.heap.size := fun g hg => ⟨by
          rcases ho9 with e | ⟨k9, e, h9⟩
          · rw [e] at hg; exact (hrr g hg).1
          · rw [e] at hg; injection hg with hg; omega, hO9.lt hg⟩
        have hO6 := hO9.kept (w' := w6) (fun g hg => hg6.block g (hob9 g hg).2 fun e => by injection e with e; have := hob9 g hg; omega) (fun k hk => hg6.block k (by have := hk.2; omega) fun e => by injection e with e; have := hk.2; omega)
        have bz6 := (((bz.below hb4 bz.lt).other hg5 hbr2)).other hg6 (fun e => by injection e with e; have := zW.out; omega)
        have s6 := hSt _ _ s3 fun k hk => ((hg6.block k (by have := hfp k hk; omega) fun e => by injection e with e; have := hfp k hk; omega).trans (hg5.block k (by have := hfp k hk; omega) fun e => by have := hfp k hk; have := hrr k e.symm; omega)).trans (hb4.block k (by have := hfp k hk; omega))
        have q6 := ((q.trans (Trd.of hb4) (fun _ _ h => h)).hi hg5 (fun g hg => by have := hrr g hg; omega)).hi hg6 (fun g hg => by injection hg with hg; omega)
        have hln : (xs ++ [x]).length = xs.length + 1 := by rw [List.length_append]; rfl
        rw [← hln] at hO6 hB6
        have hob6 : ∀ g, Value.ownBlock (.slice ad9 (xs ++ [x]).length c9) = some g → W0.heap.size < g := fun g hg => by rw [hln] at hg; exact (hob9 g hg).1
        rw [← hsn.out] at hO6 hB6 hob6
        clear hOb4 hS4 f0 f1 f2 f3 f4 f5 f6 d1 hrow hb4 hg5 hg6 hO hB hO9 bz s3 hXW hx hln ho9 hob9 hrr hbr hbr2 hsn hxl hOb q
        go_wp2_with fail
        go_roundw
        case rel => exact ⟨k + 1, ad9, c9, by go_num, by omega, hst9.out, hO6, hob6, hB6, bz6, s6, q6⟩
        case measure => simp [intOf]; omega
      · have hst9 := Lib.hid (show ∃ i, ∃ h : i < Q.length, (∀ j (hj : j < i), stay (Q.take j) Q[j] = true) ∧ stay (Q.take i) Q[i] = false ∧ Fin (Q.take i) Q[i] w3 from ⟨k, hlt, fun j hj => hst.out j (by omega) hj, by rw [← exsk.out, ← exk.out]; exact hsy, by rw [← exsk.out, ← exk.out]; exact hfin⟩)
        clear hst hsy hfin exk exsk hXW hx hO hsn
        have d0 := hB.cell (i := 0) rfl
        have d1 := hB.cell (i := 1) rfl
        go_wp2_with (first | (refine wpList_boxStore (us := [.slice aH H.length cH, .slice ad xs.length ko]) (by kernel_rfl) rfl rfl rfl rfl rfl rfl bz rfl ?_; intro wd hgd hBd) | fail)
        simp only [Exit.noGoto_ret]
        have g0 := hBd.cell (i := 0) rfl
        have g1 := hBd.cell (i := 1) rfl
        obtain ⟨fs, hu, _⟩ := lsS.hu
        refine bodyPost_ret (v := .agg #[.slice aH H.length cH, .slice ad xs.length ko]) (by simp [results, Tryd.results41, go_sem, loadVar, isAgg, run_underlying hu, run_sizeOf' lsS.hs, loadCellsFrom, Addr.add, g0, g1]) rfl ?_
        obtain ⟨i, h1, h2, h3, h4⟩ := hst9.out
        exact ⟨⟨_, rfl⟩, q.hi hgd (fun g hg => by injection hg with hg; omega), .inr ⟨i, h1, h2, h3, hFin _ _ _ _ h4 hgd⟩⟩
    · obtain rfl : k = Q.length := by omega
      rw [List.take_length] at hO hB hOb
      have hst9 := Lib.hid (show ∀ j (h : j < Q.length), stay (Q.take j) Q[j] = true from fun j h => hst.out j h h)
      have zq := q.size
      clear hst hO hOb
      have d0 := hB.cell (i := 0) rfl
      have d1 := hB.cell (i := 1) rfl
      go_wp2_with (first | (refine wpList_boxStore (us := [.slice aH H.length cH, .slice ad Q.length ko]) (by kernel_rfl) rfl rfl rfl rfl rfl rfl bz rfl ?_; intro wd hgd hBd) | fail)
      simp only [Exit.noGoto_ret]
      have g0 := hBd.cell (i := 0) rfl
      have g1 := hBd.cell (i := 1) rfl
      obtain ⟨fs, hu, _⟩ := lsS.hu
      refine bodyPost_ret (v := .agg #[.slice aH H.length cH, .slice ad Q.length ko]) (by simp [results, Tryd.results41, go_sem, loadVar, isAgg, run_underlying hu, run_sizeOf' lsS.hs, loadCellsFrom, Addr.add, g0, g1]) rfl ?_
      exact ⟨⟨_, rfl⟩, q.hi hgd (fun g hg => by injection hg with hg; omega), .inl ⟨hst9.out, hSt _ _ s fun k hk => hgd.block k (by have := hfp k hk; omega) fun e => by injection e with e; have := hfp k hk; omega⟩⟩
end Go.Proofs.YtpdnehgboafgpaaDoor
namespace Go.Proofs.YtpdnehgboafgpaaDoor
open Go.RowKit Go.Shelf
section
variable {o : Oper} {a : Act} {K : Act → World → Prop} {Q : Exit → Act → World → Prop} {w : World} {x y : Operand} {c0 c1 c2 c3 c4 c5 c6 c7 c8 : Value}
theorem wp_bOne (ho : o.op = .build 59 #[(0, x)]) (hx : a.eval x = .agg #[c0, c1, c2, c3, c4, c5, c6]) (h : K (a.put o.dst (.agg #[c0, c1, c2, c3, c4, c5, c6])) w) : o.wp Tryd.prog a w K Q := by
  refine wp_run' ?_ h
  simp only [execOp, ho, hx, List.map_toArray, List.map_cons, List.map_nil]
  go_simp
theorem wp_bLocks {ad : Option Addr} {n c : Nat} (ho : o.op = .build 24 #[(0, x)]) (hx : a.eval x = .slice ad n c) (h : K (a.put o.dst (.agg #[.slice ad n c, .slice none 0 0])) w) : o.wp Tryd.prog a w K Q := by
  refine wp_run' ?_ h
  simp only [execOp, ho, hx, List.map_toArray, List.map_cons, List.map_nil]
  go_simp
theorem wp_bAsk (ho : o.op = .build 61 #[(0, x), (1, y)]) (hx : a.eval x = .agg #[c0, c1, c2, c3, c4, c5, c6]) (hy : a.eval y = .agg #[c7, c8]) (h : K (a.put o.dst (.agg #[c0, c1, c2, c3, c4, c5, c6, c7, c8])) w) : o.wp Tryd.prog a w K Q := by
  refine wp_run' ?_ h
  simp only [execOp, ho, hx, hy, List.map_toArray, List.map_cons, List.map_nil]
  go_simp
end
def AskJ (W : World) (us : List Value) : List Value → World → Prop
  | [], V => Below W.heap.size W V
  | [v], V => Below W.heap.size W V ∧ ∃ b, v = .pointer (some ⟨b, 0, none⟩) ∧ W.heap.size ≤ b ∧ BoxN V b 61 [.int .i64 0, .bool false, .int .i64 0, .slice none 0 0, .slice none 0 0, .bool false, .int .i64 0, .slice none 0 0, .slice none 0 0]
  | v :: _ :: _, V => Below W.heap.size W V ∧ ∃ b, v = .pointer (some ⟨b, 0, none⟩) ∧ W.heap.size ≤ b ∧ BoxN V b 61 us
theorem AskJ.below {W : World} {us : List Value} : ∀ (l : List Value) (V V' : World), AskJ W us l V → Below V.heap.size V V' → AskJ W us l V'
  | [], _, _, h, hb => Below.trans h (hb.mono (Below.size h))
  | [_], _, _, ⟨h, b, e, h1, h2⟩, hb => ⟨h.trans (hb.mono h.size), b, e, h1, h2.below hb h2.lt⟩
  | _ :: _ :: _, _, _, ⟨h, b, e, h1, h2⟩, hb => ⟨h.trans (hb.mono h.size), b, e, h1, h2.below hb h2.lt⟩
theorem AskJ.low {W : World} {us : List Value} : ∀ {l : List Value} {V : World}, AskJ W us l V → Below W.heap.size W V
  | [], _, h => h
  | [_], _, h => h.1
  | _ :: _ :: _, _, h => h.1
theorem RdL.pre {α : Type} {E : Elt α} {S : Nat → Prop} {w : World} {ad : Option Addr} {n c : Nat} {xs : List α} (h : RdL E S w (.slice ad n c) xs) (k : Nat) : RdL E S w (.slice ad (xs.take k).length c) (xs.take k) := by
  obtain ⟨a', cap, h1, h2, h3, h4⟩ := h
  cases h1
  have hl : (xs.take k).length ≤ xs.length := by rw [List.length_take]; omega
  refine ⟨_, _, rfl, by omega, h3, ?_⟩
  rcases h4 with rfl | ⟨b, off, rfl, hb, hq⟩
  · exact .inl (by simp)
  · refine .inr ⟨b, off, rfl, hb, fun r hr => ?_⟩
    obtain ⟨vs, h5, h6⟩ := hq r (by omega)
    exact ⟨vs, by rw [List.getElem_take]; exact h5, h6⟩
theorem okH_take {H : List Lk} (h : okH H) (k : Nat) : okH (H.take k) := List.Pairwise.sublist (List.take_sublist k H) h
theorem okH_succ {H : List Lk} {k : Nat} (hk : k < H.length) : okH (H.take (k + 1)) ↔ okH (H.take k) ∧ blk H[k] (H.take k) [] = false ∧ (H.take k).any (sameL H[k]) = false := by
  unfold okH blk
  rw [List.take_succ_eq_append_getElem hk, List.pairwise_append]
  simp only [List.pairwise_cons, List.not_mem_nil, List.any_nil, Bool.or_false, List.any_eq_false, List.mem_singleton]
  constructor
  · rintro ⟨h1, _, h2⟩
    exact ⟨h1, fun y hy => by simp [(h2 y hy _ rfl).1], fun y hy => by simp [(h2 y hy _ rfl).2]⟩
  · rintro ⟨h1, h2, h3⟩
    refine ⟨h1, ⟨(fun _ h => h.elim), List.Pairwise.nil⟩, ?_⟩
    rintro y hy z rfl
    exact ⟨by simpa using h2 y hy, by simpa using h3 y hy⟩
def stayC (H p : List Lk) (x : Lk) : Bool := blk x H p && !p.any (ownsL x)
def fateI (b : Bool) : Int := if b = true then 0 else 2
theorem okQ_stay {H Q : List Lk} : okQ H Q ↔ ∀ i (h : i < Q.length), stayC H (Q.take i) Q[i] = true := by
  unfold okQ stayC ownsL
  simp
set_option maxRecDepth 100000 in
set_option maxHeartbeats 4000000 in
theorem check1_any (w : World) (hT : TabAt w) {S S2 S3 : Nat → Prop} {x : Lk} {x1 x3 aH aQ : Option Addr} {x2 x4 cH cQ bI : Nat} {H Q : List Lk} {g : Bool} (hx : RdLk S w (.agg #[.int .i64 x.owner, .bool x.whole, .int .i64 x.span.table, .slice x1 x.span.lo.length x2, .slice x3 x.span.hi.length x4, .bool x.span.isOpen, .int .i64 x.mode]) x)
    (hH : RdL Elt.lk S2 w (.slice aH H.length cH) H) (hQ : RdL Elt.lk S3 w (.slice aQ Q.length cQ) Q) (hI : BoxN w bI 4 [.bool g]) :
    Calls Tryd.prog 42 #[.agg (akV x x1 x2 x3 x4 aH H.length cH aQ Q.length cQ).toArray, .pointer (some ⟨bI, 0, none⟩)] w fun e w' => e = .returned (.int .i64 (fateI (stayC H Q x))) ∧ w.grownBy w' (some bI) ∧ BoxN w' bI 4 [.bool (stayC H Q x)] := by
  unfold akV
  obtain ⟨W, hW, q, Bx, hsz⟩ := spBox w 61 [.int .i64 x.owner, .bool x.whole, .int .i64 x.span.table, .slice x1 x.span.lo.length x2, .slice x3 x.span.hi.length x4, .bool x.span.isOpen, .int .i64 x.mode, .slice aH H.length cH, .slice aQ Q.length cQ]
  clear hsz
  have hC1 := blocked_any W (hT.below q) (hx.below q) (hH.below q) (hQ.below q)
  go_enter Tryd.func42, Tryd.ntmps42
  go_upto_region 1 with (fail)
  rw [show w.alloc (.cells #[.int .i64 x.owner, .bool x.whole, .int .i64 x.span.table, .slice x1 x.span.lo.length x2, .slice x3 x.span.hi.length x4, .bool x.span.isOpen, .int .i64 x.mode, .slice aH H.length cH, .slice aQ Q.length cQ] 61) = W from hW.symm]
  clear hW
  have c0 := Bx.cell (i := 0) rfl
  have c1 := Bx.cell (i := 1) rfl
  have c2 := Bx.cell (i := 2) rfl
  have c3 := Bx.cell (i := 3) rfl
  have c4 := Bx.cell (i := 4) rfl
  have c5 := Bx.cell (i := 5) rfl
  have c6 := Bx.cell (i := 6) rfl
  have c7 := Bx.cell (i := 7) rfl
  have c8 := Bx.cell (i := 8) rfl
  go_wp2_with fail
  refine hC1.mono ?_
  rintro e w1 ⟨rfl, hb⟩
  replace q := q.trans (hb.mono q.size)
  replace Bx := Bx.below hb Bx.lt
  clear c0 c1 c2 c3 c4 c5 c6 c7 c8 hC1 hb
  have hI1 := hI.below q hI.lt
  cases h1 : blk x H Q with
  | false =>
    have Hh := Lib.hid (show stayC H Q x = false by unfold stayC; rw [h1]; rfl)
    clear h1
    go_wp2_with (first | (refine wpList_boxSet (j := 0) rfl rfl rfl (by kernel_rfl) rfl rfl rfl rfl hI1 (by simp) ?_; intro w6 hg6 hB6; have i0 := hB6.cell (i := 0) rfl) | fail)
    go_ret
    exact ⟨by rw [Hh.out]; rfl, grownT (grownB q _) hg6, by rw [Hh.out]; exact hB6⟩
  | true =>
    have Hh := Lib.hid (show stayC H Q x = !Q.any (ownsL x) by unfold stayC; rw [h1]; rfl)
    clear h1
    have hC2 := lContains_any w1 (hQ.below q) _ _ _ eOwns _ (tOwns (hx.below q))
    have c0 := Bx.cell (i := 0) rfl
    have c1 := Bx.cell (i := 1) rfl
    have c2 := Bx.cell (i := 2) rfl
    have c3 := Bx.cell (i := 3) rfl
    have c4 := Bx.cell (i := 4) rfl
    have c5 := Bx.cell (i := 5) rfl
    have c6 := Bx.cell (i := 6) rfl
    have c7 := Bx.cell (i := 7) rfl
    have c8 := Bx.cell (i := 8) rfl
    go_wp2_with fail
    refine hC2.mono ?_
    rintro e w2 ⟨rfl, hb⟩
    replace q := q.trans (hb.mono q.size)
    replace hI1 := hI1.below hb hI1.lt
    clear c0 c1 c2 c3 c4 c5 c6 c7 c8 hC2 hb
    cases h2 : Q.any (ownsL x) with
    | false =>
      have Hk := Lib.hid (show stayC H Q x = true by rw [Hh.out, h2]; rfl)
      clear h2 Hh
      go_wp2_with (first | (refine wpList_boxSet (j := 0) rfl rfl rfl (by kernel_rfl) rfl rfl rfl rfl hI1 (by simp) ?_; intro w6 hg6 hB6; have i0 := hB6.cell (i := 0) rfl) | fail)
      go_ret
      exact ⟨by rw [Hk.out]; rfl, grownT (grownB q _) hg6, by rw [Hk.out]; exact hB6⟩
    | true =>
      have Hk := Lib.hid (show stayC H Q x = false by rw [Hh.out, h2]; rfl)
      clear h2 Hh
      go_wp2_with (first | (refine wpList_boxSet (j := 0) rfl rfl rfl (by kernel_rfl) rfl rfl rfl rfl hI1 (by simp) ?_; intro w6 hg6 hB6; have i0 := hB6.cell (i := 0) rfl) | fail)
      go_ret
      exact ⟨by rw [Hk.out]; rfl, grownT (grownB q _) hg6, by rw [Hk.out]; exact hB6⟩
theorem eCheck1 : Enters Tryd.prog 42 := enters_of Tryd.func42 (by kernel_rfl) rfl
set_option maxRecDepth 100000 in
set_option maxHeartbeats 4000000 in
theorem lCheck_any (w : World) (hT : TabAt w) {S : Nat → Prop} {v : Value} {H Q : List Lk} (h : RdLs S w v H Q) (hnH : H.length ≤ 1000000) (hnQ : Q.length ≤ 1000000) :
    Calls Tryd.prog 14 #[v] w fun e w' => e = .returned (.bool (decide (okLk H Q))) ∧ Below w.heap.size w w' := by
  obtain ⟨aH, cH, aL, cL, rfl, hH, hQ⟩ := h
  obtain ⟨W0, hW, q, Bw, hsz⟩ := spBox w 24 [.slice aH H.length cH, .slice aL Q.length cL]
  clear hsz
  go_enter Tryd.func14, Tryd.ntmps14
  go_upto_region 1 with (fail)
  rw [show w.alloc (.cells #[.slice aH H.length cH, .slice aL Q.length cL] 24) = W0 from hW.symm]
  clear hW
  have b0 := Bw.cell (i := 0) rfl
  have b1 := Bw.cell (i := 1) rfl
  by_cases h40 : H.length + Q.length ≤ 40
  case neg =>
    have d40 : decide ((40 : Int) < (H.length : Int) + (Q.length : Int)) = true := decide_eq_true (by omega)
    have Hh := Lib.hid (show decide (okLk H Q) = false from decide_eq_false fun h => h40 h.1)
    clear h40
    go_wp2_with fail
    go_ret
    exact ⟨by first | (rw [Hh.out]; done) | (rw [Hh.out]; rfl), q⟩
  have d40 : decide ((40 : Int) < (H.length : Int) + (Q.length : Int)) = false := decide_eq_false (by omega)
  replace h40 := Lib.hid h40
  have hC1 := lContains_any W0 (hH.below q) _ #[] #[] eWrong _ tWrong
  go_wp2_with fail
  refine hC1.mono ?_
  rintro e w1 ⟨rfl, hb⟩
  replace q := q.trans (hb.mono q.size)
  replace Bw := Bw.below hb Bw.lt
  clear b0 b1 hC1 hb
  cases hw1 : H.any (fun y => !fine y) with
  | true =>
    have Hh := Lib.hid (show decide (okLk H Q) = false from decide_eq_false fun h => by
      obtain ⟨y, hy, h2⟩ := List.any_eq_true.1 hw1
      rw [h.2.1 y hy] at h2; cases h2)
    clear hw1
    go_wp2_with fail
    go_ret
    exact ⟨by first | (rw [Hh.out]; done) | (rw [Hh.out]; rfl), q⟩
  | false =>
  have hfH := Lib.hid (show ∀ x ∈ H, fine x = true from fun x hx => by simpa using List.any_eq_false.1 hw1 x hx)
  clear hw1
  have b0 := Bw.cell (i := 0) rfl
  have b1 := Bw.cell (i := 1) rfl
  have hC2 := lContains_any w1 (hQ.below q) _ #[] #[] eWrong _ tWrong
  go_wp2_with fail
  refine hC2.mono ?_
  rintro e w2 ⟨rfl, hb⟩
  replace q := q.trans (hb.mono q.size)
  replace Bw := Bw.below hb Bw.lt
  clear b0 b1 hC2 hb
  cases hw1 : Q.any (fun y => !fine y) with
  | true =>
    have Hh := Lib.hid (show decide (okLk H Q) = false from decide_eq_false fun h => by
      obtain ⟨y, hy, h2⟩ := List.any_eq_true.1 hw1
      rw [h.2.2.1 y hy] at h2; cases h2)
    clear hw1
    go_wp2_with fail
    go_ret
    exact ⟨by first | (rw [Hh.out]; done) | (rw [Hh.out]; rfl), q⟩
  | false =>
  have hfQ := Lib.hid (show ∀ x ∈ Q, fine x = true from fun x hx => by simpa using List.any_eq_false.1 hw1 x hx)
  clear hw1
  have b0 := Bw.cell (i := 0) rfl
  go_upto_region 4 with (fail)
  clear b0
  go_loopw [28] (fun iv wr => ∃ (k : Nat), iv = .int .i64 k ∧ k ≤ H.length ∧ okH (H.take k) ∧ BoxN wr w.heap.size 24 [.slice aH H.length cH, .slice aL Q.length cL] ∧ Below w.heap.size w wr)
    (fun i _ => H.length - (intOf i).toNat)
  case atStart => exact ⟨0, rfl, Nat.zero_le _, by simp [okH], Bw, q⟩
  case round =>
    clear q Bw
    obtain ⟨m, rfl, hkl, hoH, Bw, q⟩ := hrel
    replace hoH := Lib.hid hoH
    rcases Nat.lt_or_ge m H.length with hlt | hge
    · obtain ⟨b, off, KA, KC, VA, VC, rfl, hb, c0, c1, c2, c3, c4, c5, c6, hk1, hk2, hw64⟩ := (hH.below q).lk m hlt
      have hlen := hH.len
      obtain ⟨x, ex⟩ : ∃ x, x = H[m] := ⟨_, rfl⟩
      have exk := Lib.hid ex
      rw [← ex] at c0 c1 c2 c3 c4 c5 c6 hk1 hk2 hw64
      clear ex
      go_upto_region 6 with (first | (refine wpList_boxNew (vs := [.int .i64 0, .bool false, .int .i64 0, .slice none 0 0, .slice none 0 0, .bool false, .int .i64 0]) (by kernel_rfl) rfl rfl ?_; intro wa hba hBa) | (refine wpList_boxStore (us := [.int .i64 x.owner, .bool x.whole, .int .i64 x.span.table, .slice KA x.span.lo.length KC, .slice VA x.span.hi.length VC, .bool x.span.isOpen, .int .i64 x.mode]) (by kernel_rfl) rfl rfl rfl rfl rfl rfl hBa rfl ?_; intro W hgw hXW) | fail)
      go_simp
      have hbw : Below wr.heap.size wr W := hba.grown hgw hba.size fun k hk => by injection hk with hk; omega
      replace q := q.trans (hbw.mono q.size)
      replace Bw := Bw.below hbw Bw.lt
      have hx : RdLk S W (.agg #[.int .i64 x.owner, .bool x.whole, .int .i64 x.span.table, .slice KA x.span.lo.length KC, .slice VA x.span.hi.length VC, .bool x.span.isOpen, .int .i64 x.mode]) x := ⟨_, _, _, _, rfl, hk1.below hbw, hk2.below hbw, hw64⟩
      clear c0 c1 c2 c3 c4 c5 c6 hk1 hk2 hba hBa hgw hbw
      refine wp_region_lnl (K := fun A B => Below W.heap.size A B) (by kernel_rfl) (by kernel_rfl) [8, 9] (by kernel_rfl) [lEq (.agg #[.int .i64 x.owner, .bool x.whole, .int .i64 x.span.table, .slice KA x.span.lo.length KC, .slice VA x.span.hi.length VC, .bool x.span.isOpen, .int .i64 x.mode]), lEq (.agg #[.int .i64 x.owner, .bool x.whole, .int .i64 x.span.table, .slice KA x.span.lo.length KC, .slice VA x.span.hi.length VC, .bool x.span.isOpen, .int .i64 x.mode]), lEq (.pointer (some ⟨w.heap.size, 0 + 0, none⟩)), lEq (.slice (some ⟨b, off, none⟩) H.length cH), lEq (.int .i64 (m : Nat)), lEq (.slice (some ⟨b, off, none⟩) m cH), lEq (.agg #[.slice (some ⟨b, off, none⟩) m cH, .slice none 0 0]), lEq (.agg #[.int .i64 x.owner, .bool x.whole, .int .i64 x.span.table, .slice KA x.span.lo.length KC, .slice VA x.span.hi.length VC, .bool x.span.isOpen, .int .i64 x.mode, .slice (some ⟨b, off, none⟩) m cH, .slice none 0 0]), lAny, lAny] (AskJ W [.int .i64 x.owner, .bool x.whole, .int .i64 x.span.table, .slice KA x.span.lo.length KC, .slice VA x.span.hi.length VC, .bool x.span.isOpen, .int .i64 x.mode, .slice (some ⟨b, off, none⟩) m cH, .slice none 0 0]) AskJ.below (show Below W.heap.size W W from Below.refl _ _)
        ⟨?o0, ?o1, ?o2, ?o3, ?o4, ?o5, ?o6, ?o7, ?o8, ?o9, trivial⟩ ?fin
      case o0 =>
        refine LnOp.side rfl (by kernel_rfl) (fun A va w' k hF hT hk hJ hb hu hp hd => ?_)
        have e1 : A.eval (.tmp 4) = .pointer (some ⟨wr.heap.size, 0, none⟩) := hF 4 rfl
        have hX2 := hXW.below (AskJ.low hJ) hXW.lt
        exact wp_loadU (us := [.int .i64 x.owner, .bool x.whole, .int .i64 x.span.table, .slice KA x.span.lo.length KC, .slice VA x.span.hi.length VC, .bool x.span.isOpen, .int .i64 x.mode]) lkS rfl e1 (fun j u hj => by rw [Nat.zero_add]; exact hX2.cell hj) ⟨_, rfl, rfl, Below.refl _ _⟩
      case o1 =>
        refine LnOp.side rfl (by kernel_rfl) (fun A va w' k hF hT hk hJ hb hu hp hd => ?_)
        have e1 : A.eval (.tmp 33) = .agg #[.int .i64 x.owner, .bool x.whole, .int .i64 x.span.table, .slice KA x.span.lo.length KC, .slice VA x.span.hi.length VC, .bool x.span.isOpen, .int .i64 x.mode] := (hT 33 0 (by simp) rfl).trans (hd ⟨0, .data⟩ (by simp) rfl rfl)
        exact wp_bOne rfl e1 ⟨_, rfl, rfl, Below.refl _ _⟩
      case o2 =>
        refine LnOp.side rfl (by kernel_rfl) (fun A va w' k hF hT hk hJ hb hu hp hd => ?_)
        have e1 : A.eval (.tmp 1) = .pointer (some ⟨w.heap.size, 0, none⟩) := hF 1 rfl
        exact wp_fieldN lsS rfl (e1) (by omega) ⟨_, rfl, rfl, Below.refl _ _⟩
      case o3 =>
        refine LnOp.side rfl (by kernel_rfl) (fun A va w' k hF hT hk hJ hb hu hp hd => ?_)
        have e1 : A.eval (.tmp 35) = .pointer (some ⟨w.heap.size, 0 + 0, none⟩) := (hT 35 2 (by simp) rfl).trans (hd ⟨2, .data⟩ (by simp) rfl rfl)
        exact wp_ld_slice (e := 29) rfl (e1) (by kernel_rfl) ((Bw.below (AskJ.low hJ) Bw.lt).cell (i := 0) rfl) ⟨_, rfl, rfl, Below.refl _ _⟩
      case o4 =>
        refine LnOp.side rfl (by kernel_rfl) (fun A va w' k hF hT hk hJ hb hu hp hd => ?_)
        have e1 : A.eval (.tmp 3) = .int .i64 (m : Nat) := hF 3 rfl
        exact BigFrame.wp_move _ rfl ⟨_, rfl, e1, Below.refl _ _⟩
      case o5 =>
        refine LnOp.side rfl (by kernel_rfl) (fun A va w' k hF hT hk hJ hb hu hp hd => ?_)
        have e1 : A.eval (.tmp 36) = .slice (some ⟨b, off, none⟩) H.length cH := (hT 36 3 (by simp) rfl).trans (hd ⟨3, .data⟩ (by simp) rfl rfl)
        have e2 : A.eval (.tmp 37) = .int .i64 (m : Nat) := (hT 37 4 (by simp) rfl).trans (hd ⟨4, .data⟩ (by simp) rfl rfl)
        exact wp_sliceTo lkP.toLsP rfl e1 (congrArg some e2) (run_bounds_h _ (by omega)) ⟨_, rfl, rfl, Below.refl _ _⟩
      case o6 =>
        refine LnOp.side rfl (by kernel_rfl) (fun A va w' k hF hT hk hJ hb hu hp hd => ?_)
        have e1 : A.eval (.tmp 38) = .slice (some ⟨b, off, none⟩) m cH := (hT 38 5 (by simp) rfl).trans (hd ⟨5, .data⟩ (by simp) rfl rfl)
        exact wp_bLocks rfl e1 ⟨_, rfl, rfl, Below.refl _ _⟩
      case o7 =>
        refine LnOp.side rfl (by kernel_rfl) (fun A va w' k hF hT hk hJ hb hu hp hd => ?_)
        have e1 : A.eval (.tmp 34) = .agg #[.int .i64 x.owner, .bool x.whole, .int .i64 x.span.table, .slice KA x.span.lo.length KC, .slice VA x.span.hi.length VC, .bool x.span.isOpen, .int .i64 x.mode] := (hT 34 1 (by simp) rfl).trans (hd ⟨1, .data⟩ (by simp) rfl rfl)
        have e2 : A.eval (.tmp 39) = .agg #[.slice (some ⟨b, off, none⟩) m cH, .slice none 0 0] := (hT 39 6 (by simp) rfl).trans (hd ⟨6, .data⟩ (by simp) rfl rfl)
        exact wp_bAsk rfl e1 e2 ⟨_, rfl, rfl, Below.refl _ _⟩
      case o8 =>
        refine LnOp.line 0 rfl rfl (fun A va w' hF hT hJ hu hd => ?_)
        have hJ0 : Below W.heap.size W w' := hJ
        refine wp_boxNew (vs := [.int .i64 0, .bool false, .int .i64 0, .slice none 0 0, .slice none 0 0, .bool false, .int .i64 0, .slice none 0 0, .slice none 0 0]) (by kernel_rfl) rfl (fun w2 hb2 hz => ⟨_, rfl, ⟨hJ0.trans (hb2.mono hJ0.size), _, rfl, hJ0.size, hz⟩, hb2.mono hJ0.size⟩)
      case o9 =>
        refine LnOp.line 1 rfl rfl (fun A va w' hF hT hJ hu hd => ?_)
        have x1 : A.eval (.tmp 5) = va 8 := hT 5 8 (by simp) rfl
        have e2 : A.eval (.tmp 40) = .agg #[.int .i64 x.owner, .bool x.whole, .int .i64 x.span.table, .slice KA x.span.lo.length KC, .slice VA x.span.hi.length VC, .bool x.span.isOpen, .int .i64 x.mode, .slice (some ⟨b, off, none⟩) m cH, .slice none 0 0] := (hT 40 7 (by simp) rfl).trans (hd ⟨7, .data⟩ (by simp) rfl rfl)
        obtain ⟨hJ0, bA, eA, hbA, hzA⟩ := hJ
        refine wp_boxStore (vs := [.int .i64 0, .bool false, .int .i64 0, .slice none 0 0, .slice none 0 0, .bool false, .int .i64 0, .slice none 0 0, .slice none 0 0]) (us := [.int .i64 x.owner, .bool x.whole, .int .i64 x.span.table, .slice KA x.span.lo.length KC, .slice VA x.span.hi.length VC, .bool x.span.isOpen, .int .i64 x.mode, .slice (some ⟨b, off, none⟩) m cH, .slice none 0 0]) (by kernel_rfl) rfl (x1.trans eA) e2 rfl hzA rfl (fun w2 hg hz => ⟨_, rfl, ⟨hJ0.grown hg hJ0.size (fun k e => by injection e with e; omega), bA, eA, hbA, hz⟩, (Below.refl _ _).grown hg hJ0.size (fun k e => by injection e with e; omega)⟩)
      case fin =>
      intro vs1 W9 hJ hG
      obtain ⟨hJ0, bA, eA, hbA, hYW⟩ := hJ
      have g0 : vs1 0 = .agg #[.int .i64 x.owner, .bool x.whole, .int .i64 x.span.table, .slice KA x.span.lo.length KC, .slice VA x.span.hi.length VC, .bool x.span.isOpen, .int .i64 x.mode] := hG 0 (by decide) rfl
      have g1 : vs1 1 = .agg #[.int .i64 x.owner, .bool x.whole, .int .i64 x.span.table, .slice KA x.span.lo.length KC, .slice VA x.span.hi.length VC, .bool x.span.isOpen, .int .i64 x.mode] := hG 1 (by decide) rfl
      have g2 : vs1 2 = .pointer (some ⟨w.heap.size, 0 + 0, none⟩) := hG 2 (by decide) rfl
      have g3 : vs1 3 = .slice (some ⟨b, off, none⟩) H.length cH := hG 3 (by decide) rfl
      have g4 : vs1 4 = .int .i64 (m : Nat) := hG 4 (by decide) rfl
      have g5 : vs1 5 = .slice (some ⟨b, off, none⟩) m cH := hG 5 (by decide) rfl
      have g6 : vs1 6 = .agg #[.slice (some ⟨b, off, none⟩) m cH, .slice none 0 0] := hG 6 (by decide) rfl
      have g7 : vs1 7 = .agg #[.int .i64 x.owner, .bool x.whole, .int .i64 x.span.table, .slice KA x.span.lo.length KC, .slice VA x.span.hi.length VC, .bool x.span.isOpen, .int .i64 x.mode, .slice (some ⟨b, off, none⟩) m cH, .slice none 0 0] := hG 7 (by decide) rfl
      clear hG
      simp only [putAll, eA, g0, g1, g2, g3, g4, g5, g6, g7]
      clear eA g0 g1 g2 g3 g4 g5 g6 g7
      go_simp
      replace q := q.trans (hJ0.mono q.size)
      replace Bw := Bw.below hJ0 Bw.lt
      replace hx := hx.below hJ0
      clear hXW hJ0
      have htk : (H.take m).length = m := by rw [List.length_take]; omega
      have hC1 := blocked_any W9 (hT.below q) hx ((hH.below q).pre m) (Q := []) (RdL.nil Elt.lk S W9)
      rw [htk] at hC1
      replace htk := Lib.hid htk
      have e0 := hYW.cell (i := 0) rfl
      have e1 := hYW.cell (i := 1) rfl
      have e2 := hYW.cell (i := 2) rfl
      have e3 := hYW.cell (i := 3) rfl
      have e4 := hYW.cell (i := 4) rfl
      have e5 := hYW.cell (i := 5) rfl
      have e6 := hYW.cell (i := 6) rfl
      have e7 := hYW.cell (i := 7) rfl
      have e8 := hYW.cell (i := 8) rfl
      go_wp2_with fail
      refine hC1.mono ?_
      rintro e w3 ⟨rfl, hb3⟩
      replace q := q.trans (hb3.mono q.size)
      replace Bw := Bw.below hb3 Bw.lt
      replace hx := hx.below hb3
      replace hYW := hYW.below hb3 hYW.lt
      clear e0 e1 e2 e3 e4 e5 e6 e7 e8 hC1 hb3
      cases hbk : blk x (H.take m) [] with
      | true =>
        have Hh := Lib.hid (show decide (okLk H Q) = false from decide_eq_false fun h => by
          have h2 := ((okH_succ hlt).1 (okH_take h.2.2.2.1 (m + 1))).2.1
          rw [← exk.out, hbk] at h2; cases h2)
        clear hbk
        go_wp2_with fail
        go_ret
        exact ⟨by first | (rw [Hh.out]; done) | (rw [Hh.out]; rfl), q⟩
      | false =>
        replace hbk := Lib.hid hbk
        have hC2 := lContains_any w3 ((hH.below q).pre m) _ _ #[] eSame _ (tSame hx)
        rw [htk.out] at hC2
        have e0 := hYW.cell (i := 0) rfl
        have e1 := hYW.cell (i := 1) rfl
        have e2 := hYW.cell (i := 2) rfl
        have e3 := hYW.cell (i := 3) rfl
        have e4 := hYW.cell (i := 4) rfl
        have e5 := hYW.cell (i := 5) rfl
        have e6 := hYW.cell (i := 6) rfl
        have e7 := hYW.cell (i := 7) rfl
        have e8 := hYW.cell (i := 8) rfl
        go_wp2_with fail
        refine hC2.mono ?_
        rintro e w4 ⟨rfl, hb3⟩
        replace q := q.trans (hb3.mono q.size)
        replace Bw := Bw.below hb3 Bw.lt
        clear e0 e1 e2 e3 e4 e5 e6 e7 e8 hC2 hb3 hYW hx
        cases hbs : (H.take m).any (sameL x) with
        | true =>
          have Hh := Lib.hid (show decide (okLk H Q) = false from decide_eq_false fun h => by
            have h2 := ((okH_succ hlt).1 (okH_take h.2.2.2.1 (m + 1))).2.2
            rw [← exk.out, hbs] at h2; cases h2)
          clear hbs
          go_wp2_with fail
          go_ret
          exact ⟨by first | (rw [Hh.out]; done) | (rw [Hh.out]; rfl), q⟩
        | false =>
          have ho2 := Lib.hid ((okH_succ hlt).2 ⟨hoH.out, by rw [← exk.out]; exact hbk.out, by rw [← exk.out]; exact hbs⟩)
          clear hbs hoH hbk htk exk
          go_wp2_with fail
          go_roundw
          case rel => exact ⟨m + 1, by go_num, by omega, ho2.out, Bw, q⟩
          case measure => simp [intOf]; omega
    · obtain rfl : m = H.length := by omega
      have hoH2 := Lib.hid (show okH H by have := hoH.out; rwa [List.take_length] at this)
      clear hoH
      have zB := Bw.lt
      have b0 := Bw.cell (i := 0) rfl
      have b1 := Bw.cell (i := 1) rfl
      go_upto_region 11 with (first | (refine wpList_boxNew1 (u := .bool false) (by kernel_rfl) rfl rfl rfl ?_; intro wa hba hBa) | (refine wpList_boxSet (j := 0) rfl rfl rfl (by kernel_rfl) rfl rfl rfl rfl hBa (by simp) ?_; intro W hgw hIW) | fail)
      go_simp
      have hbw : Below wr.heap.size wr W := hba.grown hgw hba.size fun k hk => by injection hk with hk; omega
      have q9 := q.trans (hbw.mono q.size)
      have hTW := hT.below q9
      have h0W : 0 < wr.heap.size := by have := cell_lt (hT 1 1 rfl rfl); have := q.size; omega
      replace Bw := Bw.below hbw Bw.lt
      have zI := hIW.lt
      clear hba hBa hgw b0 b1
      have b0 := Bw.cell (i := 0) rfl
      have b1 := Bw.cell (i := 1) rfl
      have hIW2 : BoxN W wr.heap.size 4 [.bool true] := hIW
      have hlk := look_any (S := fun k => S k ∧ k < wr.heap.size) W (((hH.below q).fit).below hbw) (((hQ.below q).fit).below hbw) hnQ 42 #[.pointer (some ⟨wr.heap.size, 0, none⟩)] eCheck1 (fun k => k = wr.heap.size) (fun k hk => by omega) (fun k hk e => by have := hk.2; omega)
        (fun V => BoxN V wr.heap.size 4 [.bool true]) (fun A B hA hk => (hk _ rfl).trans hA) hIW2 (stayC H) (fun _ _ V => BoxN V wr.heap.size 4 [.bool false]) (fun p x A B hA hg => hA.other hg (fun e => by injection e with e; omega))
        (fun V x p x1 x2 x3 x4 aQ cQ ht hzV hSt hx hH2 hp => (check1_any V (ht.tab hTW (by omega)) hx hH2 hp hSt).mono (by
          rintro e V' ⟨rfl, hg, hI⟩
          refine ⟨Trd.ofGrown hg fun k hk => by injection hk with hk; exact hk.symm, ?_⟩
          cases hs : stayC H p x with
          | true => exact .inl ⟨rfl, rfl, by rw [hs] at hI; exact hI⟩
          | false => exact .inr ⟨rfl, rfl, by rw [hs] at hI; exact hI⟩))
      go_wp2_with fail
      refine hlk.mono ?_
      rintro e w3 ⟨⟨vv, rfl⟩, ht, hres⟩
      clear hlk b0 b1
      have q3 : Below w.heap.size w w3 := q9.trans (ht.below q9.size fun k hk e => by omega)
      rcases hres with ⟨hall, hI⟩ | ⟨i, hi, _, hno, hI⟩
      · have Hh := Lib.hid (show decide (okLk H Q) = true from decide_eq_true ⟨h40.out, hfH.out, hfQ.out, hoH2.out, okQ_stay.2 hall⟩)
        have i0 := hI.cell (i := 0) rfl
        clear hall
        go_wp2_with fail
        go_ret
        exact ⟨by first | (rw [Hh.out]; done) | (rw [Hh.out]; rfl), q3⟩
      · have Hh := Lib.hid (show decide (okLk H Q) = false from decide_eq_false fun h => by
          have := okQ_stay.1 h.2.2.2.2 i hi
          rw [hno] at this; cases this)
        have i0 := hI.cell (i := 0) rfl
        clear hno
        go_wp2_with fail
        go_ret
        exact ⟨by first | (rw [Hh.out]; done) | (rw [Hh.out]; rfl), q3⟩
end Go.Proofs.YtpdnehgboafgpaaDoor
namespace Go.Proofs.YtpdnehgboafgpaaDoor
open Go.RowKit Go.Shelf
theorem akS : SgP Tryd.prog 61 9 := ⟨⟨_, Tryd.underlying61⟩, by kernel_rfl⟩
def ResJ (W : World) (bR : Nat) (us : List Value) : List Value → World → Prop
  | [], V => Below W.heap.size W V
  | _ :: _, V => W.grownBy V (some bR) ∧ BoxN V bR 61 us
theorem ResJ.below {W : World} {bR : Nat} {us : List Value} : ∀ (l : List Value) (V V' : World), ResJ W bR us l V → Below V.heap.size V V' → ResJ W bR us l V'
  | [], _, _, h, hb => Below.trans h (hb.mono (Below.size h))
  | _ :: _, _, _, ⟨h, h2⟩, hb => ⟨grownT h (grownB hb _), h2.below hb h2.lt⟩
theorem ResJ.low {W : World} {bR : Nat} {us : List Value} : ∀ {l : List Value} {V : World}, ResJ W bR us l V → W.grownBy V (some bR)
  | [], _, h => grownB h _
  | _ :: _, _, h => h.1
theorem eWait1 : Enters Tryd.prog 63 := enters_of Tryd.func63 (by kernel_rfl) rfl
set_option maxRecDepth 100000 in
set_option maxHeartbeats 4000000 in
theorem wait1_no (w : World) {x : Lk} {x1 x3 aH aQ : Option Addr} {x2 x4 cH cQ bO : Nat} {vT vS : Value} {H p : List Lk} {o : Int} (ho : BoxN w bO 3 [.int .i64 o]) (hc : x.owner ≠ o) :
    Calls Tryd.prog 63 #[.agg (akV x x1 x2 x3 x4 aH H.length cH aQ p.length cQ).toArray, .pointer (some ⟨bO, 0, none⟩), vT, vS] w fun e w' => e = .returned (.int .i64 0) ∧ Below w.heap.size w w' := by
  unfold akV
  obtain ⟨W, hW, q, Bx, hsz⟩ := spBox w 61 [.int .i64 x.owner, .bool x.whole, .int .i64 x.span.table, .slice x1 x.span.lo.length x2, .slice x3 x.span.hi.length x4, .bool x.span.isOpen, .int .i64 x.mode, .slice aH H.length cH, .slice aQ p.length cQ]
  clear hsz
  go_enter Tryd.func63, Tryd.ntmps63
  go_upto_region 1 with (fail)
  rw [show w.alloc (.cells #[.int .i64 x.owner, .bool x.whole, .int .i64 x.span.table, .slice x1 x.span.lo.length x2, .slice x3 x.span.hi.length x4, .bool x.span.isOpen, .int .i64 x.mode, .slice aH H.length cH, .slice aQ p.length cQ] 61) = W from hW.symm]
  clear hW
  have c0 := Bx.cell (i := 0) rfl
  have c1 := Bx.cell (i := 1) rfl
  have c2 := Bx.cell (i := 2) rfl
  have c3 := Bx.cell (i := 3) rfl
  have c4 := Bx.cell (i := 4) rfl
  have c5 := Bx.cell (i := 5) rfl
  have c6 := Bx.cell (i := 6) rfl
  have c7 := Bx.cell (i := 7) rfl
  have c8 := Bx.cell (i := 8) rfl
  have o0 := (ho.below q ho.lt).cell (i := 0) rfl
  have d1 : (x.owner != o) = true := bne_iff_ne.2 hc
  have d2 : (x.owner == o) = false := beq_eq_false_iff_ne.2 hc
  have d3 : decide (x.owner = o) = false := decide_eq_false hc
  have d4 : (x.owner = o) = False := eq_false hc
  clear hc
  go_wp2_with fail
  go_ret
  exact ⟨rfl, q⟩
set_option maxRecDepth 100000 in
set_option maxHeartbeats 4000000 in
theorem wait1_yes (w : World) {x : Lk} {x1 x3 aH aQ : Option Addr} {x2 x4 cH cQ bO bT bS : Nat} {H p : List Lk} {o : Int} {us0 : List Value} {g0 : Bool} (ho : BoxN w bO 3 [.int .i64 o]) (hT : BoxN w bT 61 us0) (hl0 : us0.length = 9) (hS : BoxN w bS 4 [.bool g0]) (hne : bT ≠ bS) (hc : x.owner = o) :
    Calls Tryd.prog 63 #[.agg (akV x x1 x2 x3 x4 aH H.length cH aQ p.length cQ).toArray, .pointer (some ⟨bO, 0, none⟩), .pointer (some ⟨bT, 0, none⟩), .pointer (some ⟨bS, 0, none⟩)] w fun e w' => e = .returned (.int .i64 2) ∧ Trd (fun k => k = bT ∨ k = bS) w w' ∧ BoxN w' bT 61 (akV x x1 x2 x3 x4 aH H.length cH aQ p.length cQ) ∧ BoxN w' bS 4 [.bool true] := by
  unfold akV
  replace hc := Lib.hid hc
  obtain ⟨W, hW, q, Bx, hsz⟩ := spBox w 61 [.int .i64 x.owner, .bool x.whole, .int .i64 x.span.table, .slice x1 x.span.lo.length x2, .slice x3 x.span.hi.length x4, .bool x.span.isOpen, .int .i64 x.mode, .slice aH H.length cH, .slice aQ p.length cQ]
  clear hsz
  go_enter Tryd.func63, Tryd.ntmps63
  go_upto_region 1 with (fail)
  rw [show w.alloc (.cells #[.int .i64 x.owner, .bool x.whole, .int .i64 x.span.table, .slice x1 x.span.lo.length x2, .slice x3 x.span.hi.length x4, .bool x.span.isOpen, .int .i64 x.mode, .slice aH H.length cH, .slice aQ p.length cQ] 61) = W from hW.symm]
  clear hW
  have c0 := Bx.cell (i := 0) rfl
  have c1 := Bx.cell (i := 1) rfl
  have c2 := Bx.cell (i := 2) rfl
  have c3 := Bx.cell (i := 3) rfl
  have c4 := Bx.cell (i := 4) rfl
  have c5 := Bx.cell (i := 5) rfl
  have c6 := Bx.cell (i := 6) rfl
  have c7 := Bx.cell (i := 7) rfl
  have c8 := Bx.cell (i := 8) rfl
  have o0 := (ho.below q ho.lt).cell (i := 0) rfl
  have d1 : (x.owner != o) = false := by rw [bne_eq_false_iff_eq]; exact hc.out
  have d2 : (x.owner == o) = true := beq_iff_eq.2 hc.out
  have d3 : decide (x.owner = o) = true := decide_eq_true hc.out
  clear hc
  have hT1 := hT.below q hT.lt
  have hS1 := hS.below q hS.lt
  go_wp2_with (first
    | (refine wpList_boxStore (us := [.int .i64 x.owner, .bool x.whole, .int .i64 x.span.table, .slice x1 x.span.lo.length x2, .slice x3 x.span.hi.length x4, .bool x.span.isOpen, .int .i64 x.mode, .slice aH H.length cH, .slice aQ p.length cQ]) (by kernel_rfl) rfl rfl rfl rfl rfl rfl hT1 hl0 ?_; intro w5 hg5 hT5)
    | (refine wpList_boxSet (j := 0) rfl rfl rfl (by kernel_rfl) rfl rfl rfl rfl (hS1.other hg5 (by intro e; injection e with e; exact hne e)) (by simp) ?_; intro w6 hg6 hS6)
    | fail)
  go_ret
  exact ⟨rfl, ((Trd.of q).trans (Trd.ofGrown hg5 (F := fun k => k = bT ∨ k = bS) (fun k e => by injection e with e; exact .inl e.symm)) (fun _ _ h => h)).trans (Trd.ofGrown hg6 (F := fun k => k = bT ∨ k = bS) (fun k e => by injection e with e; exact .inr e.symm)) (fun _ _ h => h), hT5.other hg6 (by intro e; injection e with e; exact hne e.symm), hS6⟩
def WaitEnd (H Q : List Lk) (o : Int) (w : World) (e : Ending) (w' : World) : Prop :=
  Below w.heap.size w w' ∧ ((okLk H Q ∧ ∃ i, ∃ h : i < Q.length, Q[i].owner = o ∧ (∀ y ∈ Q.take i, y.owner ≠ o) ∧ ∃ x1 x2 x3 x4 aH cH aQ cQ, e = .returned (.tuple #[.agg (akV Q[i] x1 x2 x3 x4 aH H.length cH aQ (Q.take i).length cQ).toArray, .bool true]) ∧
      RdLk (fun k => k < w'.heap.size) w' (.agg #[.int .i64 Q[i].owner, .bool Q[i].whole, .int .i64 Q[i].span.table, .slice x1 Q[i].span.lo.length x2, .slice x3 Q[i].span.hi.length x4, .bool Q[i].span.isOpen, .int .i64 Q[i].mode]) Q[i] ∧ RdL Elt.lk (fun k => k < w'.heap.size) w' (.slice aH H.length cH) H ∧ RdL Elt.lk (fun k => k < w'.heap.size) w' (.slice aQ (Q.take i).length cQ) (Q.take i))
    ∨ (decide (okLk H Q) && waitsL Q o) = false ∧ e = .returned (.tuple #[.agg #[.int .i64 0, .bool false, .int .i64 0, .slice none 0 0, .slice none 0 0, .bool false, .int .i64 0, .slice none 0 0, .slice none 0 0], .bool false]))
set_option maxRecDepth 100000 in
set_option maxHeartbeats 4000000 in
theorem waiting_any (w : World) (hT : TabAt w) {S : Nat → Prop} {v : Value} {H Q : List Lk} {o : Int} (h : RdLs S w v H Q) (hnH : H.length ≤ 1000000) (hnQ : Q.length ≤ 1000000) :
    Calls Tryd.prog 32 #[v, .int .i64 o] w (WaitEnd H Q o w) := by
  have hfull := h
  obtain ⟨aH, cH, aL, cL, rfl, hH, hQ⟩ := h
  obtain ⟨Wa, hW, q, Bw, Bo, Br, hsz⟩ := spBoxes3 w 24 3 61 [.slice aH H.length cH, .slice aL Q.length cL] [.int .i64 o] [.int .i64 0, .bool false, .int .i64 0, .slice none 0 0, .slice none 0 0, .bool false, .int .i64 0, .slice none 0 0, .slice none 0 0]
  go_enter Tryd.func32, Tryd.ntmps32
  go_upto_region 1 with (fail)
  rw [show ((w.alloc (.cells #[.slice aH H.length cH, .slice aL Q.length cL] 24)).alloc (.cells #[.int .i64 o] 3)).alloc (.cells #[.int .i64 0, .bool false, .int .i64 0, .slice none 0 0, .slice none 0 0, .bool false, .int .i64 0, .slice none 0 0, .slice none 0 0] 61) = Wa from hW.symm]
  clear hW hsz
  have zr := Br.lt
  obtain ⟨W0, eW0⟩ : ∃ W0, W0 = Wa := ⟨_, rfl⟩
  rw [← eW0] at q Bw Bo Br zr ⊢
  clear eW0
  go_upto_region 2 with (first | (refine wpList_boxNew (vs := [.int .i64 0, .bool false, .int .i64 0, .slice none 0 0, .slice none 0 0, .bool false, .int .i64 0, .slice none 0 0, .slice none 0 0]) (by kernel_rfl) rfl rfl ?_; intro W1 hb1 hT1) | fail)
  go_simp
  have z1 := hb1.size
  have zT := hT1.lt
  go_upto_region 3 with (first | (refine wpList_boxNew1 (u := .bool false) (by kernel_rfl) rfl rfl rfl ?_; intro wa hba hBa) | (refine wpList_boxSet (j := 0) rfl rfl rfl (by kernel_rfl) rfl rfl rfl rfl hBa (by simp) ?_; intro W2 hg2 hS2) | fail)
  go_simp
  have hb2 : Below W1.heap.size W1 W2 := hba.grown hg2 hba.size fun k hk => by injection hk with hk; omega
  have zS := hS2.lt
  replace hS2 : BoxN W2 W1.heap.size 4 [.bool false] := hS2
  clear hba hBa hg2
  have hb12 := hb1.trans (hb2.mono hb1.size)
  replace Bw := Bw.below hb12 Bw.lt
  replace Bo := Bo.below hb12 Bo.lt
  replace Br := Br.below hb12 Br.lt
  replace hT1 := hT1.below hb2 hT1.lt
  replace q := q.trans (hb12.mono q.size)
  clear hb1 hb2 hb12
  have b0 := Bw.cell (i := 0) rfl
  have b1 := Bw.cell (i := 1) rfl
  have hCk := lCheck_any W2 (hT.below q) (hfull.below q) hnH hnQ
  go_wp2_with fail
  refine hCk.mono ?_
  rintro e w3 ⟨rfl, hb⟩
  have z3 := hb.size
  replace Bw := Bw.below hb Bw.lt
  replace Bo := Bo.below hb Bo.lt
  replace Br := Br.below hb Br.lt
  replace hT1 := hT1.below hb hT1.lt
  replace hS2 := hS2.below hb hS2.lt
  replace q := q.trans (hb.mono q.size)
  clear b0 b1 hCk hb
  cases hok : decide (okLk H Q) with
  | false =>
    have Hh := Lib.hid (show (decide (okLk H Q) && waitsL Q o) = false by rw [hok]; rfl)
    clear hok
    go_upto_region 4 with (fail)
    refine wp_region_lnl (K := fun A B => A.grownBy B (some (w.heap.size + 1 + 1))) (by kernel_rfl) (by kernel_rfl) [2] (by kernel_rfl) [lEq (.agg #[.int .i64 0, .bool false, .int .i64 0, .slice none 0 0, .slice none 0 0, .bool false, .int .i64 0, .slice none 0 0, .slice none 0 0]), lEq (.bool false), lAny, lEq (.bool false)] (ResJ (w3) (w.heap.size + 1 + 1) [.int .i64 0, .bool false, .int .i64 0, .slice none 0 0, .slice none 0 0, .bool false, .int .i64 0, .slice none 0 0, .slice none 0 0]) ResJ.below (show Below (w3).heap.size (w3) (w3) from Below.refl _ _)
      ⟨?o0, ?o1, ?o2, ?o3, trivial⟩ ?fin
    case o0 =>
      refine LnOp.side rfl (by kernel_rfl) (fun A va w' k hF hT hk hJ hb hu hp hd => ?_)
      have e1 : A.eval (.tmp 6) = .pointer (some ⟨W0.heap.size, 0, none⟩) := hF 6 rfl
      have hX2 := hT1.other (ResJ.low hJ) (by intro e; injection e with e; omega)
      exact wp_loadU (us := [.int .i64 0, .bool false, .int .i64 0, .slice none 0 0, .slice none 0 0, .bool false, .int .i64 0, .slice none 0 0, .slice none 0 0]) akS rfl e1 (fun j u hj => by rw [Nat.zero_add]; exact hX2.cell hj) ⟨_, rfl, rfl, Below.refl _ _⟩
    case o1 =>
      refine LnOp.side rfl (by kernel_rfl) (fun A va w' k hF hT hk hJ hb hu hp hd => ?_)
      have e1 : A.eval (.tmp 7) = .pointer (some ⟨W1.heap.size, 0, none⟩) := hF 7 rfl
      exact wp_ld_bool  rfl (e1) (by kernel_rfl) ((hS2.other (ResJ.low hJ) (by intro e; injection e with e; omega)).cell (i := 0) rfl) ⟨_, rfl, rfl, Below.refl _ _⟩
    case o2 =>
      refine LnOp.line 0 rfl rfl (fun A va w' hF hT hJ hu hd => ?_)
      have e1 : A.eval (.tmp 4) = .pointer (some ⟨w.heap.size + 1 + 1, 0, none⟩) := hF 4 rfl
      have e2 : A.eval (.tmp 11) = .agg #[.int .i64 0, .bool false, .int .i64 0, .slice none 0 0, .slice none 0 0, .bool false, .int .i64 0, .slice none 0 0, .slice none 0 0] := (hT 11 0 (by simp) rfl).trans (hd ⟨0, .data⟩ (by simp) rfl rfl)
      have hJ0 : Below (w3).heap.size (w3) w' := hJ
      refine wp_boxStore (vs := [.int .i64 0, .bool false, .int .i64 0, .slice none 0 0, .slice none 0 0, .bool false, .int .i64 0, .slice none 0 0, .slice none 0 0]) (us := [.int .i64 0, .bool false, .int .i64 0, .slice none 0 0, .slice none 0 0, .bool false, .int .i64 0, .slice none 0 0, .slice none 0 0]) (by kernel_rfl) rfl e1 e2 rfl (Br.below hJ0 Br.lt) rfl (fun w2 hg hz => ⟨_, rfl, ⟨grownT (grownB hJ0 _) hg, hz⟩, hg⟩)
    case o3 =>
      refine LnOp.side rfl (by kernel_rfl) (fun A va w' k hF hT hk hJ hb hu hp hd => ?_)
      have e1 : A.eval (.tmp 12) = .bool false := (hT 12 1 (by simp) rfl).trans (hd ⟨1, .data⟩ (by simp) rfl rfl)
      exact BigFrame.wp_assign _ rfl ⟨_, rfl, e1, Below.refl _ _⟩
    case fin =>
      intro vs1 W9 hJ hG
      obtain ⟨hg9, hR9⟩ := hJ
      have g0 : vs1 0 = .agg #[.int .i64 0, .bool false, .int .i64 0, .slice none 0 0, .slice none 0 0, .bool false, .int .i64 0, .slice none 0 0, .slice none 0 0] := hG 0 (by decide) rfl
      have g1 : vs1 1 = .bool false := hG 1 (by decide) rfl
      have g3 : vs1 3 = .bool false := hG 3 (by decide) rfl
      clear hG
      simp only [putAll, g0, g1, g3]
      clear g0 g1 g3
      go_simp
      have r0 := hR9.cell (i := 0) rfl
      have r1 := hR9.cell (i := 1) rfl
      have r2 := hR9.cell (i := 2) rfl
      have r3 := hR9.cell (i := 3) rfl
      have r4 := hR9.cell (i := 4) rfl
      have r5 := hR9.cell (i := 5) rfl
      have r6 := hR9.cell (i := 6) rfl
      have r7 := hR9.cell (i := 7) rfl
      have r8 := hR9.cell (i := 8) rfl
      go_wp2_with fail
      obtain ⟨⟨fs, hu⟩, hs⟩ := akS
      refine bodyPost_ret (v := .tuple #[.agg #[.int .i64 0, .bool false, .int .i64 0, .slice none 0 0, .slice none 0 0, .bool false, .int .i64 0, .slice none 0 0, .slice none 0 0], .bool false]) (by simp [results, Tryd.results32, go_sem, loadVar, isAgg, run_underlying hu, run_sizeOf' hs, loadCellsFrom, Addr.add, r0, r1, r2, r3, r4, r5, r6, r7, r8]) rfl ?_
      exact ⟨q.grown hg9 q.size (fun k e => by injection e with e; omega), .inr ⟨Hh.out, rfl⟩⟩
  | true =>
    have hok2 := Lib.hid (show okLk H Q from of_decide_eq_true hok)
    clear hok
    have hT3 := hT.below q
    have hz0 : 0 < w.heap.size := by have := cell_lt (hT 1 1 rfl rfl); omega
    have b0 := Bw.cell (i := 0) rfl
    have b1 := Bw.cell (i := 1) rfl
    have hlk := look_any (S := fun k => S k ∧ k < w.heap.size) w3 (((hH.fit).below q)) (((hQ.fit).below q)) hnQ 63 #[.pointer (some ⟨w.heap.size + 1, 0, none⟩), .pointer (some ⟨W0.heap.size, 0, none⟩), .pointer (some ⟨W1.heap.size, 0, none⟩)] eWait1 (fun k => k = W0.heap.size ∨ k = W1.heap.size) (fun k hk => by omega) (fun k hk e => by have := hk.2; have := q.size; omega)
      (fun V => BoxN V W0.heap.size 61 [.int .i64 0, .bool false, .int .i64 0, .slice none 0 0, .slice none 0 0, .bool false, .int .i64 0, .slice none 0 0, .slice none 0 0] ∧ BoxN V W1.heap.size 4 [.bool false]) (fun A B hA hk => ⟨(hk _ (.inl rfl)).trans hA.1, (hk _ (.inr rfl)).trans hA.2⟩) ⟨hT1, hS2⟩ (fun _ x => !decide (x.owner = o))
      (fun p x V => ∃ x1 x2 x3 x4 aQ cQ, BoxN V W0.heap.size 61 (akV x x1 x2 x3 x4 aH H.length cH aQ p.length cQ) ∧ BoxN V W1.heap.size 4 [.bool true] ∧ RdLk (fun k => (((S k ∧ k < w.heap.size) ∨ w3.heap.size ≤ k) ∧ ¬ (k = W0.heap.size ∨ k = W1.heap.size) ∧ k ≠ w3.heap.size + 1) ∧ k < V.heap.size) V (.agg #[.int .i64 x.owner, .bool x.whole, .int .i64 x.span.table, .slice x1 x.span.lo.length x2, .slice x3 x.span.hi.length x4, .bool x.span.isOpen, .int .i64 x.mode]) x ∧ RdL Elt.lk (fun k => (((S k ∧ k < w.heap.size) ∨ w3.heap.size ≤ k) ∧ ¬ (k = W0.heap.size ∨ k = W1.heap.size) ∧ k ≠ w3.heap.size + 1) ∧ k < V.heap.size) V (.slice aH H.length cH) H ∧ RdL Elt.lk (fun k => (((S k ∧ k < w.heap.size) ∨ w3.heap.size ≤ k) ∧ ¬ (k = W0.heap.size ∨ k = W1.heap.size) ∧ k ≠ w3.heap.size + 1) ∧ k < V.heap.size) V (.slice aQ p.length cQ) p)
      (fun p x A B hA hg => by
        obtain ⟨x1, x2, x3, x4, aQ, cQ, h1, h2, h3, h4, h5⟩ := hA
        have hk : ∀ k, ((((S k ∧ k < w.heap.size) ∨ w3.heap.size ≤ k) ∧ ¬ (k = W0.heap.size ∨ k = W1.heap.size) ∧ k ≠ w3.heap.size + 1) ∧ k < A.heap.size) → B.heap[k]? = A.heap[k]? := fun k hk => hg.block k hk.2 fun e => by injection e with e; exact hk.1.2.2 e
        have hw : ∀ k, ((((S k ∧ k < w.heap.size) ∨ w3.heap.size ≤ k) ∧ ¬ (k = W0.heap.size ∨ k = W1.heap.size) ∧ k ≠ w3.heap.size + 1) ∧ k < A.heap.size) → ((((S k ∧ k < w.heap.size) ∨ w3.heap.size ≤ k) ∧ ¬ (k = W0.heap.size ∨ k = W1.heap.size) ∧ k ≠ w3.heap.size + 1) ∧ k < B.heap.size) := fun k hk => ⟨hk.1, Nat.lt_of_lt_of_le hk.2 hg.size⟩
        exact ⟨x1, x2, x3, x4, aQ, cQ, h1.other hg (by intro e; injection e with e; omega), h2.other hg (by intro e; injection e with e; omega), (h3.keep hk).weak hw, (h4.keep hk).weak hw, (h5.keep hk).weak hw⟩)
      (fun V x p x1 x2 x3 x4 aQ cQ ht hzV hSt hx hH2 hp => by
        have hOV := Bo.trd ht (by omega)
        by_cases hc : x.owner = o
        · refine (wait1_yes V hOV hSt.1 rfl hSt.2 (by omega) hc).mono ?_
          rintro e V' ⟨rfl, h1, h2, h3⟩
          have hN : ∀ {S9 : Nat → Prop}, (∀ k, S9 k → ¬ (k = W0.heap.size ∨ k = W1.heap.size)) → ∀ k, S9 k ∧ k < V.heap.size → V'.heap[k]? = V.heap[k]? := fun hS9 k hk => h1.block k hk.2 (hS9 k hk.1)
          refine ⟨h1, .inr ⟨by simp [hc], rfl, x1, x2, x3, x4, aQ, cQ, h2, h3, (hx.fit.keep (hN fun k hk => hk.2.1)).weak fun k hk => ⟨hk.1, Nat.lt_of_lt_of_le hk.2 h1.size⟩, (hH2.fit.keep (hN fun k hk => hk.2.1)).weak fun k hk => ⟨hk.1, Nat.lt_of_lt_of_le hk.2 h1.size⟩, (hp.fit.keep (hN fun k hk => hk.2.1)).weak fun k hk => ⟨hk.1, Nat.lt_of_lt_of_le hk.2 h1.size⟩⟩⟩
        · refine (wait1_no V hOV hc).mono ?_
          rintro e V' ⟨rfl, h1⟩
          exact ⟨Trd.of h1, .inl ⟨by simp [hc], rfl, hSt.1.below h1 hSt.1.lt, hSt.2.below h1 hSt.2.lt⟩⟩)
    go_upto_region 5 with (fail)
    go_wp2_with fail
    refine hlk.mono ?_
    rintro e w4 ⟨⟨vv, rfl⟩, ht, hres⟩
    have z4 := ht.size
    have q4 : Below w.heap.size w w4 := q.trans (ht.below q.size fun k hk e => by omega)
    replace Br := Br.trd ht (by omega)
    clear hlk b0 b1 ht hT1 hS2 Bw Bo
    rcases hres with ⟨hall, hT1, hS2⟩ | ⟨i, hi, hbef, hno, x1, x2, x3, x4, aQ, cQ, hT1, hS2, hx, hH2, hp⟩
    · have Hh := Lib.hid (show (decide (okLk H Q) && waitsL Q o) = false by
        rw [Bool.and_eq_false_iff]; right
        exact waits_no.2 fun y hy => by
          obtain ⟨j, hj, rfl⟩ := List.mem_iff_getElem.1 hy
          simpa using hall j hj)
      clear hall hok2
      go_upto_region 6 with (fail)
      refine wp_region_lnl (K := fun A B => A.grownBy B (some (w.heap.size + 1 + 1))) (by kernel_rfl) (by kernel_rfl) [2] (by kernel_rfl) [lEq (.agg #[.int .i64 0, .bool false, .int .i64 0, .slice none 0 0, .slice none 0 0, .bool false, .int .i64 0, .slice none 0 0, .slice none 0 0]), lEq (.bool false), lAny, lEq (.bool false)] (ResJ (w4) (w.heap.size + 1 + 1) [.int .i64 0, .bool false, .int .i64 0, .slice none 0 0, .slice none 0 0, .bool false, .int .i64 0, .slice none 0 0, .slice none 0 0]) ResJ.below (show Below (w4).heap.size (w4) (w4) from Below.refl _ _)
        ⟨?o0, ?o1, ?o2, ?o3, trivial⟩ ?fin
      case o0 =>
        refine LnOp.side rfl (by kernel_rfl) (fun A va w' k hF hT hk hJ hb hu hp hd => ?_)
        have e1 : A.eval (.tmp 6) = .pointer (some ⟨W0.heap.size, 0, none⟩) := hF 6 rfl
        have hX2 := hT1.other (ResJ.low hJ) (by intro e; injection e with e; omega)
        exact wp_loadU (us := [.int .i64 0, .bool false, .int .i64 0, .slice none 0 0, .slice none 0 0, .bool false, .int .i64 0, .slice none 0 0, .slice none 0 0]) akS rfl e1 (fun j u hj => by rw [Nat.zero_add]; exact hX2.cell hj) ⟨_, rfl, rfl, Below.refl _ _⟩
      case o1 =>
        refine LnOp.side rfl (by kernel_rfl) (fun A va w' k hF hT hk hJ hb hu hp hd => ?_)
        have e1 : A.eval (.tmp 7) = .pointer (some ⟨W1.heap.size, 0, none⟩) := hF 7 rfl
        exact wp_ld_bool  rfl (e1) (by kernel_rfl) ((hS2.other (ResJ.low hJ) (by intro e; injection e with e; omega)).cell (i := 0) rfl) ⟨_, rfl, rfl, Below.refl _ _⟩
      case o2 =>
        refine LnOp.line 0 rfl rfl (fun A va w' hF hT hJ hu hd => ?_)
        have e1 : A.eval (.tmp 4) = .pointer (some ⟨w.heap.size + 1 + 1, 0, none⟩) := hF 4 rfl
        have e2 : A.eval (.tmp 16) = .agg #[.int .i64 0, .bool false, .int .i64 0, .slice none 0 0, .slice none 0 0, .bool false, .int .i64 0, .slice none 0 0, .slice none 0 0] := (hT 16 0 (by simp) rfl).trans (hd ⟨0, .data⟩ (by simp) rfl rfl)
        have hJ0 : Below (w4).heap.size (w4) w' := hJ
        refine wp_boxStore (vs := [.int .i64 0, .bool false, .int .i64 0, .slice none 0 0, .slice none 0 0, .bool false, .int .i64 0, .slice none 0 0, .slice none 0 0]) (us := [.int .i64 0, .bool false, .int .i64 0, .slice none 0 0, .slice none 0 0, .bool false, .int .i64 0, .slice none 0 0, .slice none 0 0]) (by kernel_rfl) rfl e1 e2 rfl (Br.below hJ0 Br.lt) rfl (fun w2 hg hz => ⟨_, rfl, ⟨grownT (grownB hJ0 _) hg, hz⟩, hg⟩)
      case o3 =>
        refine LnOp.side rfl (by kernel_rfl) (fun A va w' k hF hT hk hJ hb hu hp hd => ?_)
        have e1 : A.eval (.tmp 17) = .bool false := (hT 17 1 (by simp) rfl).trans (hd ⟨1, .data⟩ (by simp) rfl rfl)
        exact BigFrame.wp_assign _ rfl ⟨_, rfl, e1, Below.refl _ _⟩
      case fin =>
        intro vs1 W9 hJ hG
        obtain ⟨hg9, hR9⟩ := hJ
        have g0 : vs1 0 = .agg #[.int .i64 0, .bool false, .int .i64 0, .slice none 0 0, .slice none 0 0, .bool false, .int .i64 0, .slice none 0 0, .slice none 0 0] := hG 0 (by decide) rfl
        have g1 : vs1 1 = .bool false := hG 1 (by decide) rfl
        have g3 : vs1 3 = .bool false := hG 3 (by decide) rfl
        clear hG
        simp only [putAll, g0, g1, g3]
        clear g0 g1 g3
        go_simp
        have r0 := hR9.cell (i := 0) rfl
        have r1 := hR9.cell (i := 1) rfl
        have r2 := hR9.cell (i := 2) rfl
        have r3 := hR9.cell (i := 3) rfl
        have r4 := hR9.cell (i := 4) rfl
        have r5 := hR9.cell (i := 5) rfl
        have r6 := hR9.cell (i := 6) rfl
        have r7 := hR9.cell (i := 7) rfl
        have r8 := hR9.cell (i := 8) rfl
        go_wp2_with fail
        obtain ⟨⟨fs, hu⟩, hs⟩ := akS
        refine bodyPost_ret (v := .tuple #[.agg #[.int .i64 0, .bool false, .int .i64 0, .slice none 0 0, .slice none 0 0, .bool false, .int .i64 0, .slice none 0 0, .slice none 0 0], .bool false]) (by simp [results, Tryd.results32, go_sem, loadVar, isAgg, run_underlying hu, run_sizeOf' hs, loadCellsFrom, Addr.add, r0, r1, r2, r3, r4, r5, r6, r7, r8]) rfl ?_
        exact ⟨q4.grown hg9 q4.size (fun k e => by injection e with e; omega), .inr ⟨Hh.out, rfl⟩⟩
    · have hbe := Lib.hid (show ∀ y ∈ Q.take i, y.owner ≠ o from fun y hy => by
        obtain ⟨j, hj, rfl⟩ := List.mem_iff_getElem.1 hy
        rw [List.length_take] at hj
        rw [List.getElem_take]
        simpa using hbef j (by omega))
      have hno2 := Lib.hid (show Q[i].owner = o by simpa using hno)
      obtain ⟨x, ex⟩ : ∃ x, x = Q[i] := ⟨_, rfl⟩
      obtain ⟨p, ep⟩ : ∃ p, p = Q.take i := ⟨_, rfl⟩
      rw [← ex] at hT1 hx
      rw [← ep] at hT1 hp
      replace ex := Lib.hid ex
      replace ep := Lib.hid ep
      unfold akV at hT1
      clear hbef hno
      go_upto_region 6 with (fail)
      refine wp_region_lnl (K := fun A B => A.grownBy B (some (w.heap.size + 1 + 1))) (by kernel_rfl) (by kernel_rfl) [2] (by kernel_rfl) [lEq (.agg #[.int .i64 x.owner, .bool x.whole, .int .i64 x.span.table, .slice x1 x.span.lo.length x2, .slice x3 x.span.hi.length x4, .bool x.span.isOpen, .int .i64 x.mode, .slice aH H.length cH, .slice aQ p.length cQ]), lEq (.bool true), lAny, lEq (.bool true)] (ResJ (w4) (w.heap.size + 1 + 1) [.int .i64 x.owner, .bool x.whole, .int .i64 x.span.table, .slice x1 x.span.lo.length x2, .slice x3 x.span.hi.length x4, .bool x.span.isOpen, .int .i64 x.mode, .slice aH H.length cH, .slice aQ p.length cQ]) ResJ.below (show Below (w4).heap.size (w4) (w4) from Below.refl _ _)
        ⟨?o0, ?o1, ?o2, ?o3, trivial⟩ ?fin
      case o0 =>
        refine LnOp.side rfl (by kernel_rfl) (fun A va w' k hF hT hk hJ hb hu hp hd => ?_)
        have e1 : A.eval (.tmp 6) = .pointer (some ⟨W0.heap.size, 0, none⟩) := hF 6 rfl
        have hX2 := hT1.other (ResJ.low hJ) (by intro e; injection e with e; omega)
        exact wp_loadU (us := [.int .i64 x.owner, .bool x.whole, .int .i64 x.span.table, .slice x1 x.span.lo.length x2, .slice x3 x.span.hi.length x4, .bool x.span.isOpen, .int .i64 x.mode, .slice aH H.length cH, .slice aQ p.length cQ]) akS rfl e1 (fun j u hj => by rw [Nat.zero_add]; exact hX2.cell hj) ⟨_, rfl, rfl, Below.refl _ _⟩
      case o1 =>
        refine LnOp.side rfl (by kernel_rfl) (fun A va w' k hF hT hk hJ hb hu hp hd => ?_)
        have e1 : A.eval (.tmp 7) = .pointer (some ⟨W1.heap.size, 0, none⟩) := hF 7 rfl
        exact wp_ld_bool  rfl (e1) (by kernel_rfl) ((hS2.other (ResJ.low hJ) (by intro e; injection e with e; omega)).cell (i := 0) rfl) ⟨_, rfl, rfl, Below.refl _ _⟩
      case o2 =>
        refine LnOp.line 0 rfl rfl (fun A va w' hF hT hJ hu hd => ?_)
        have e1 : A.eval (.tmp 4) = .pointer (some ⟨w.heap.size + 1 + 1, 0, none⟩) := hF 4 rfl
        have e2 : A.eval (.tmp 16) = .agg #[.int .i64 x.owner, .bool x.whole, .int .i64 x.span.table, .slice x1 x.span.lo.length x2, .slice x3 x.span.hi.length x4, .bool x.span.isOpen, .int .i64 x.mode, .slice aH H.length cH, .slice aQ p.length cQ] := (hT 16 0 (by simp) rfl).trans (hd ⟨0, .data⟩ (by simp) rfl rfl)
        have hJ0 : Below (w4).heap.size (w4) w' := hJ
        refine wp_boxStore (vs := [.int .i64 0, .bool false, .int .i64 0, .slice none 0 0, .slice none 0 0, .bool false, .int .i64 0, .slice none 0 0, .slice none 0 0]) (us := [.int .i64 x.owner, .bool x.whole, .int .i64 x.span.table, .slice x1 x.span.lo.length x2, .slice x3 x.span.hi.length x4, .bool x.span.isOpen, .int .i64 x.mode, .slice aH H.length cH, .slice aQ p.length cQ]) (by kernel_rfl) rfl e1 e2 rfl (Br.below hJ0 Br.lt) rfl (fun w2 hg hz => ⟨_, rfl, ⟨grownT (grownB hJ0 _) hg, hz⟩, hg⟩)
      case o3 =>
        refine LnOp.side rfl (by kernel_rfl) (fun A va w' k hF hT hk hJ hb hu hp hd => ?_)
        have e1 : A.eval (.tmp 17) = .bool true := (hT 17 1 (by simp) rfl).trans (hd ⟨1, .data⟩ (by simp) rfl rfl)
        exact BigFrame.wp_assign _ rfl ⟨_, rfl, e1, Below.refl _ _⟩
      case fin =>
        intro vs1 W9 hJ hG
        obtain ⟨hg9, hR9⟩ := hJ
        have g0 : vs1 0 = .agg #[.int .i64 x.owner, .bool x.whole, .int .i64 x.span.table, .slice x1 x.span.lo.length x2, .slice x3 x.span.hi.length x4, .bool x.span.isOpen, .int .i64 x.mode, .slice aH H.length cH, .slice aQ p.length cQ] := hG 0 (by decide) rfl
        have g1 : vs1 1 = .bool true := hG 1 (by decide) rfl
        have g3 : vs1 3 = .bool true := hG 3 (by decide) rfl
        clear hG
        simp only [putAll, g0, g1, g3]
        clear g0 g1 g3
        go_simp
        have r0 := hR9.cell (i := 0) rfl
        have r1 := hR9.cell (i := 1) rfl
        have r2 := hR9.cell (i := 2) rfl
        have r3 := hR9.cell (i := 3) rfl
        have r4 := hR9.cell (i := 4) rfl
        have r5 := hR9.cell (i := 5) rfl
        have r6 := hR9.cell (i := 6) rfl
        have r7 := hR9.cell (i := 7) rfl
        have r8 := hR9.cell (i := 8) rfl
        go_wp2_with fail
        obtain ⟨⟨fs, hu⟩, hs⟩ := akS
        refine bodyPost_ret (v := .tuple #[.agg #[.int .i64 x.owner, .bool x.whole, .int .i64 x.span.table, .slice x1 x.span.lo.length x2, .slice x3 x.span.hi.length x4, .bool x.span.isOpen, .int .i64 x.mode, .slice aH H.length cH, .slice aQ p.length cQ], .bool true]) (by simp [results, Tryd.results32, go_sem, loadVar, isAgg, run_underlying hu, run_sizeOf' hs, loadCellsFrom, Addr.add, r0, r1, r2, r3, r4, r5, r6, r7, r8]) rfl ?_
        have z9 := hg9.size
        have hk9 : ∀ k, ((((S k ∧ k < w.heap.size) ∨ w3.heap.size ≤ k) ∧ ¬ (k = W0.heap.size ∨ k = W1.heap.size) ∧ k ≠ w3.heap.size + 1) ∧ k < w4.heap.size) → W9.heap[k]? = w4.heap[k]? := fun k hk => hg9.block k hk.2 fun e => by injection e with e; rcases hk.1.1 with h | h <;> omega
        have hw9 : ∀ k, ((((S k ∧ k < w.heap.size) ∨ w3.heap.size ≤ k) ∧ ¬ (k = W0.heap.size ∨ k = W1.heap.size) ∧ k ≠ w3.heap.size + 1) ∧ k < w4.heap.size) → k < W9.heap.size := fun k hk => Nat.lt_of_lt_of_le hk.2 hg9.size
        refine ⟨q4.grown hg9 q4.size (fun k e => by injection e with e; omega), .inl ⟨hok2.out, i, hi, hno2.out, hbe.out, ?_⟩⟩
        rw [← ex.out, ← ep.out]
        exact ⟨x1, x2, x3, x4, aH, cH, aQ, cQ, rfl, (hx.keep hk9).weak hw9, (hH2.keep hk9).weak hw9, (hp.keep hk9).weak hw9⟩
set_option maxRecDepth 100000 in
set_option maxHeartbeats 4000000 in
theorem lWaits_any (w : World) (hT : TabAt w) {S : Nat → Prop} {v : Value} {H Q : List Lk} {o : Int} (h : RdLs S w v H Q) (hnH : H.length ≤ 1000000) (hnQ : Q.length ≤ 1000000) :
    Calls Tryd.prog 18 #[v, .int .i64 o] w fun e w' => e = .returned (.bool (decide (okLk H Q) && waitsL Q o)) ∧ Below w.heap.size w w' := by
  have hfull := h
  obtain ⟨aH, cH, aL, cL, rfl, hH, hQ⟩ := h
  clear hH hQ
  obtain ⟨W, hW, q, Bw, hsz⟩ := spBox w 24 [.slice aH H.length cH, .slice aL Q.length cL]
  clear hsz
  go_enter Tryd.func18, Tryd.ntmps18
  go_upto_region 1 with (fail)
  rw [show w.alloc (.cells #[.slice aH H.length cH, .slice aL Q.length cL] 24) = W from hW.symm]
  clear hW
  have hC := waiting_any W (hT.below q) (o := o) (hfull.below q) hnH hnQ
  have b0 := Bw.cell (i := 0) rfl
  have b1 := Bw.cell (i := 1) rfl
  go_wp2_with fail
  refine hC.mono ?_
  rintro e w1 ⟨hb, hres⟩
  replace q := q.trans (hb.mono q.size)
  clear hC b0 b1 Bw hb
  rcases hres with ⟨hok, i, hi, hio, _, x1, x2, x3, x4, aH2, cH2, aQ2, cQ2, rfl, _⟩ | ⟨hno, rfl⟩
  · have Hh := Lib.hid (show (decide (okLk H Q) && waitsL Q o) = true by
      rw [decide_eq_true hok, Bool.true_and]
      unfold waitsL
      exact List.any_eq_true.2 ⟨_, List.getElem_mem hi, by simpa using hio⟩)
    obtain ⟨x, ex⟩ : ∃ x, x = Q[i] := ⟨_, rfl⟩
    obtain ⟨p, ep⟩ : ∃ p, p = Q.take i := ⟨_, rfl⟩
    rw [← ex, ← ep]
    clear ex ep hio hok
    unfold akV
    go_wp2_with (first | (refine wpList_boxNew (vs := [.int .i64 0, .bool false, .int .i64 0, .slice none 0 0, .slice none 0 0, .bool false, .int .i64 0, .slice none 0 0, .slice none 0 0]) (by kernel_rfl) rfl rfl ?_; intro wa hba hBa) | (refine wpList_boxStore (us := [.int .i64 x.owner, .bool x.whole, .int .i64 x.span.table, .slice x1 x.span.lo.length x2, .slice x3 x.span.hi.length x4, .bool x.span.isOpen, .int .i64 x.mode, .slice aH2 H.length cH2, .slice aQ2 p.length cQ2]) (by kernel_rfl) rfl rfl rfl rfl rfl rfl hBa rfl ?_; intro W3 hgw hYW) | fail)
    go_ret
    exact ⟨by first | (rw [Hh.out]; done) | (rw [Hh.out]; rfl), q.trans ((hba.grown hgw hba.size fun k hk => by injection hk with hk; omega).mono q.size)⟩
  · have Hh := Lib.hid hno
    clear hno
    go_wp2_with (first | (refine wpList_boxNew (vs := [.int .i64 0, .bool false, .int .i64 0, .slice none 0 0, .slice none 0 0, .bool false, .int .i64 0, .slice none 0 0, .slice none 0 0]) (by kernel_rfl) rfl rfl ?_; intro wa hba hBa) | (refine wpList_boxStore (us := [.int .i64 0, .bool false, .int .i64 0, .slice none 0 0, .slice none 0 0, .bool false, .int .i64 0, .slice none 0 0, .slice none 0 0]) (by kernel_rfl) rfl rfl rfl rfl rfl rfl hBa rfl ?_; intro W3 hgw hYW) | fail)
    go_ret
    exact ⟨by first | (rw [Hh.out]; done) | (rw [Hh.out]; rfl), q.trans ((hba.grown hgw hba.size fun k hk => by injection hk with hk; omega).mono q.size)⟩
end Go.Proofs.YtpdnehgboafgpaaDoor
namespace Go.Proofs.YtpdnehgboafgpaaDoor
open Go.Shelf
set_option maxRecDepth 100000
def lays189_ren : Go.Shelf.Ren := ⟨fun | 189 => 79 | 125 => 87 | 257 => 86 | 128 => 98 | 129 => 99 | 294 => 89 | 295 => 90 | 296 => 91 | 297 => 92 | 298 => 93 | 299 => 94 | 216 => 95 | 300 => 96 | 301 => 97 | 328 => 100 | 329 => 101 | 330 => 102 | 331 => 103 | 332 => 104 | 215 => 85 | 343 => 105 | n => n, fun | 28 => 34 | 3 => 3 | 46 => 104 | 0 => 0 | 51 => 113 | 53 => 115 | 4 => 4 | 183 => 107 | 182 => 106 | 131 => 42 | 5 => 5 | 9 => 9 | 218 => 116 | 222 => 120 | 228 => 122 | 229 => 123 | n => n, fun | n => n⟩
theorem lays189 : Go.Proofs.Lays.n189 Tryd.prog lays189_ren := {
  mixed := by kernel_rfl
  f125 := Tryd.func87.trans (congrArg some (by kernel_rfl))
  f128 := Tryd.func98.trans (congrArg some (by kernel_rfl))
  f129 := Tryd.func99.trans (congrArg some (by kernel_rfl))
  f189 := Tryd.func79.trans (congrArg some (by kernel_rfl))
  f215 := Tryd.func85.trans (congrArg some (by kernel_rfl))
  f216 := Tryd.func95.trans (congrArg some (by kernel_rfl))
  f257 := Tryd.func86.trans (congrArg some (by kernel_rfl))
  f294 := Tryd.func89.trans (congrArg some (by kernel_rfl))
  f295 := Tryd.func90.trans (congrArg some (by kernel_rfl))
  f296 := Tryd.func91.trans (congrArg some (by kernel_rfl))
  f297 := Tryd.func92.trans (congrArg some (by kernel_rfl))
  f298 := Tryd.func93.trans (congrArg some (by kernel_rfl))
  f299 := Tryd.func94.trans (congrArg some (by kernel_rfl))
  f300 := Tryd.func96.trans (congrArg some (by kernel_rfl))
  f301 := Tryd.func97.trans (congrArg some (by kernel_rfl))
  f328 := Tryd.func100.trans (congrArg some (by kernel_rfl))
  f329 := Tryd.func101.trans (congrArg some (by kernel_rfl))
  f330 := Tryd.func102.trans (congrArg some (by kernel_rfl))
  f331 := Tryd.func103.trans (congrArg some (by kernel_rfl))
  f332 := Tryd.func104.trans (congrArg some (by kernel_rfl))
  f343 := Tryd.func105.trans (congrArg some (by kernel_rfl))
  t0 := Tryd.underlying0
  a0 := Tryd.isAgg0
  z0 := Tryd.sizeOf0
  v0 := Tryd.zeroValue0
  t3 := Tryd.underlying3
  a3 := Tryd.isAgg3
  z3 := Tryd.sizeOf3
  v3 := Tryd.zeroValue3
  t4 := Tryd.underlying4
  a4 := Tryd.isAgg4
  z4 := Tryd.sizeOf4
  v4 := Tryd.zeroValue4
  t5 := Tryd.underlying5
  a5 := Tryd.isAgg5
  z5 := Tryd.sizeOf5
  v5 := Tryd.zeroValue5
  t9 := Tryd.underlying9
  a9 := Tryd.isAgg9
  z9 := Tryd.sizeOf9
  v9 := Tryd.zeroValue9
  t28 := Tryd.underlying34
  a28 := Tryd.isAgg34
  z28 := Tryd.sizeOf34
  v28 := Tryd.zeroValue34
  t46 := Tryd.underlying104
  a46 := Tryd.isAgg104
  z46 := Tryd.sizeOf104
  v46 := Tryd.zeroValue104
  t51 := Tryd.underlying113
  a51 := Tryd.isAgg113
  z51 := Tryd.sizeOf113
  v51 := Tryd.zeroValue113
  t53 := Tryd.underlying115
  a53 := Tryd.isAgg115
  z53 := Tryd.sizeOf115
  v53 := Tryd.zeroValue115
  t131 := Tryd.underlying42
  a131 := Tryd.isAgg42
  z131 := Tryd.sizeOf42
  v131 := Tryd.zeroValue42
  t182 := Tryd.underlying106
  a182 := Tryd.isAgg106
  z182 := Tryd.sizeOf106
  v182 := Tryd.zeroValue106
  t183 := Tryd.underlying107
  a183 := Tryd.isAgg107
  z183 := Tryd.sizeOf107
  v183 := Tryd.zeroValue107
  t218 := Tryd.underlying116
  a218 := Tryd.isAgg116
  z218 := Tryd.sizeOf116
  v218 := Tryd.zeroValue116
  t222 := Tryd.underlying120
  a222 := Tryd.isAgg120
  z222 := Tryd.sizeOf120
  v222 := Tryd.zeroValue120
  t228 := Tryd.underlying122
  a228 := Tryd.isAgg122
  z228 := Tryd.sizeOf122
  v228 := Tryd.zeroValue122
  t229 := Tryd.underlying123
  a229 := Tryd.isAgg123
  z229 := Tryd.sizeOf123
  v229 := Tryd.zeroValue123 }
def lays2n20_ren : Go.Shelf.Ren := ⟨fun | 20 => 80 | n => n, fun | 22 => 34 | 3 => 3 | 4 => 4 | 0 => 0 | n => n, fun | n => n⟩
theorem lays2n20 : Go.Proofs.Lays2.n20 Tryd.prog lays2n20_ren := {
  mixed := by kernel_rfl
  f20 := Tryd.func80.trans (congrArg some (by kernel_rfl))
  t0 := Tryd.underlying0
  a0 := Tryd.isAgg0
  z0 := Tryd.sizeOf0
  v0 := Tryd.zeroValue0
  t3 := Tryd.underlying3
  a3 := Tryd.isAgg3
  z3 := Tryd.sizeOf3
  v3 := Tryd.zeroValue3
  t4 := Tryd.underlying4
  a4 := Tryd.isAgg4
  z4 := Tryd.sizeOf4
  v4 := Tryd.zeroValue4
  t22 := Tryd.underlying34
  a22 := Tryd.isAgg34
  z22 := Tryd.sizeOf34
  v22 := Tryd.zeroValue34
  i3 := by kernel_rfl }
end Go.Proofs.YtpdnehgboafgpaaDoor
namespace Go.Proofs.YtpdnehgboafgpaaDoor
open Go.RowKit Go.Shelf
def riseL (l : List Int) : List Int := Lib.compact (l.mergeSort fun x y => decide (x ≤ y))
theorem flat_int {S : Nat → Prop} {w : World} : ∀ {l : List Int} {vs : List Value}, Flat Elt.int S w l vs ↔ vs = l.map (Value.int .i64) ∧ ∀ x ∈ l, W64 x
  | [], vs => by simp [Flat]
  | x :: l, vs => by
    have ih := fun vs => @flat_int S w l vs
    constructor
    · rintro ⟨us, ws, rfl, ⟨rfl, h1⟩, h2⟩
      obtain ⟨rfl, h3⟩ := (ih ws).1 h2
      refine ⟨rfl, fun y hy => ?_⟩
      rcases List.mem_cons.1 hy with rfl | hy
      · exact h1
      · exact h3 y hy
    · rintro ⟨rfl, h⟩
      exact ⟨[.int .i64 x], l.map (Value.int .i64), rfl, ⟨rfl, h x List.mem_cons_self⟩, (ih _).2 ⟨rfl, fun y hy => h y (List.mem_cons_of_mem _ hy)⟩⟩
theorem compact_sub (l : List Int) : ∀ x ∈ Lib.compact l, x ∈ l := by
  intro x h
  unfold Lib.compact Lib.compactUpTo at h
  obtain ⟨i, hi, rfl⟩ := List.mem_map.1 h
  have hi' : i < l.length := List.mem_range.1 (List.mem_filter.1 hi).1
  simp [getElem!_pos, hi']
theorem compact_len (l : List Int) : (Lib.compact l).length ≤ l.length := by
  unfold Lib.compact Lib.compactUpTo
  rw [List.length_map]
  have := List.length_filter_le (Lib.keeps l.toArray) (List.range l.length)
  rwa [List.length_range] at this
theorem rise_sub {l : List Int} {x : Int} (h : x ∈ riseL l) : x ∈ l := (List.mergeSort_perm l _).subset (compact_sub _ x h)
theorem grown_putI {w : World} {g q : Nat} {d : Array Int} : w.grownBy (Sort.putRow (Value.int .i64) (Sort.ahead w q) g 0 d) (some g) :=
  ⟨rfl, rfl, rfl, by simp [Sort.putRow, Sort.mapBlock, Sort.ahead], fun k _ hk => by
    have : g ≠ k := fun e => hk (by rw [e])
    simp [Sort.putRow, Sort.mapBlock, Sort.ahead, Array.getElem?_modify, this]⟩
set_option maxRecDepth 100000 in
set_option maxHeartbeats 4000000 in
theorem rising_any (w : World) {base lo : Nat} {a : Option Addr} {n c : Nat} {l : List Int} (hO : OwnL Elt.int 3 base lo w (.slice a n c) l) (hl : l.length ≤ 1000000) :
    Calls Tryd.prog 57 #[.slice a n c] w fun e w' => ∃ c', e = .returned (.slice a (riseL l).length c') ∧ OwnL Elt.int 3 base lo w' (.slice a (riseL l).length c') (riseL l) ∧ w.grownBy w' (Value.slice a n c).ownBlock := by
  obtain ⟨vs, ho, hf⟩ := hO
  obtain ⟨rfl, hw⟩ := flat_int.1 hf
  have hlen : n = l.length := OwnL.len ⟨_, ho, hf⟩
  subst hlen
  clear hf
  by_cases h0 : (Value.slice a l.length c) = .slice none 0 0
  · injection h0 with h1 h2 h3
    subst h1 h3
    obtain rfl : l = [] := List.eq_nil_of_length_eq_zero h2
    have hS := Any.slices_Sort_int_none lays189 none 0 w
    have hC := Any.slices_Compact_int_empty lays2n20 none 0 w
    go_enter Tryd.func57, Tryd.ntmps57
    go_wp2_with fail
    refine hS.mono ?_
    rintro e w1 ⟨rfl, rfl⟩
    go_wp2_with fail
    refine hC.mono ?_
    rintro e w1 ⟨rfl, rfl⟩
    go_wp2_with fail
    go_ret
    have e0 : riseL [] = [] := by simp [riseL, Lib.compact, Lib.compactUpTo]
    rw [e0]
    exact ⟨0, rfl, OwnL.nil _ _ _ _ _, grownB (Below.refl _ _) _⟩
  obtain ⟨g, cap, e0, hb, hg, hn, hm, _, hH⟩ := Lib.holds_of_ownsRow ho h0
  injection e0 with e1 _ e2
  subst e1 e2
  have hS := Any.slices_Sort_int lays189 g 0 c l w hH hg (by omega)
  clear hH h0
  go_enter Tryd.func57, Tryd.ntmps57
  go_wp2_with fail
  refine hS.mono ?_
  rintro e w1 ⟨rfl, k, os, ew⟩
  obtain ⟨cur, hgc, hcs⟩ : ∃ cur, w.heap[g]? = some (.cells cur 3 (0, 0)) ∧ cur.size = c * 1 := by
    rcases ho.2 with ⟨h, _⟩ | ⟨g', cap', cur, e0, _, hgc, _, _, hcs, _⟩
    · cases h
    · injection e0 with e1 _ e2
      injection e1 with e1
      injection e1 with e1
      subst e1 e2
      exact ⟨cur, hgc, hcs⟩
  have ho1 := ownsRow_sortedI (ts := l.mergeSort fun x y => decide (x ≤ y)) (os := os) (n := k) (ss := l) (List.length_mergeSort _) hb hgc hn hm hcs
  have hg1 : w.grownBy w1 (some g) := by rw [ew]; exact grownBy_sortedI _
  rw [← ew] at ho1
  clear ew hS ho
  obtain ⟨s, hs⟩ : ∃ s, s = l.mergeSort fun x y => decide (x ≤ y) := ⟨_, rfl⟩
  have hsl : s.length = l.length := by rw [hs, List.length_mergeSort]
  have hsr := Lib.hid (show Lib.compact s = riseL l by rw [hs]; rfl)
  rw [← hs] at ho1
  clear hs
  rw [← hsl] at ho1 hn ⊢
  obtain ⟨g', cap, e0, hb2, hg2, hn2, hm2, _, hH⟩ := Lib.holds_of_ownsRow ho1 (fun h => by cases h)
  injection e0 with e1 _ e2
  injection e1 with e1
  injection e1 with e1
  subst e1 e2
  have hC := Any.slices_Compact_int lays2n20 g 0 c s w1 hH (by omega) hn
  replace hsl := Lib.hid hsl
  clear hH
  go_wp2_with fail
  refine hC.mono ?_
  rintro e w2 ⟨rfl, q, ew⟩
  have hcl := compact_len s
  have ho2 := Lib.ownsRow_putRow (q := q) (k := (Lib.compact s).length) (ys := Lib.compact s ++ List.replicate (s.length - (Lib.compact s).length) 0) ho1 (by simp; omega) hcl
  have hg2 : w1.grownBy w2 (some g) := by rw [ew]; exact grown_putI
  rw [← ew, List.take_left] at ho2
  clear ew hC hcl
  rw [hsr.out] at ho2 ⊢
  go_wp2_with fail
  go_ret
  exact ⟨c, rfl, ⟨_, ho2, flat_int.2 ⟨rfl, fun x hx => hw x (rise_sub hx)⟩⟩, grownT hg1 hg2⟩
end Go.Proofs.YtpdnehgboafgpaaDoor
namespace Go.Proofs.YtpdnehgboafgpaaDoor
open Go.RowKit Go.Shelf
theorem heldA_fnd {x : Lk} {H : List Lk} {i : Int} (h : FndK (sameL x) H i) : (i = -1 ∧ heldA x H = H ++ [x]) ∨ ∃ (j : Nat) (_ : j < H.length), i = (j : Int) ∧ heldA x H = H.set j x := by
  rcases h with ⟨h1, h2⟩ | ⟨j, hj, h1, h2, h3⟩
  · exact .inl ⟨h1, heldA_no h2⟩
  · exact .inr ⟨j, hj, h1, heldA_at hj h2 h3⟩
set_option maxRecDepth 100000 in
set_option maxHeartbeats 4000000 in
theorem held_any (w : World) {D : Nat → Prop} {x : Lk} {x1 x3 aH aQ : Option Addr} {x2 x4 cH nQ cQ : Nat} {H : List Lk} (hx : RdLk D w (.agg #[.int .i64 x.owner, .bool x.whole, .int .i64 x.span.table, .slice x1 x.span.lo.length x2, .slice x3 x.span.hi.length x4, .bool x.span.isOpen, .int .i64 x.mode]) x)
    (hH : OwnF Elt.lk 29 D w (.slice aH H.length cH) H) (hD : ∀ k, D k → k < w.heap.size ∧ Value.ownBlock (.slice aH H.length cH) ≠ some k) (hn : H.length ≤ 1000000) :
    Calls Tryd.prog 62 #[.agg #[.int .i64 x.owner, .bool x.whole, .int .i64 x.span.table, .slice x1 x.span.lo.length x2, .slice x3 x.span.hi.length x4, .bool x.span.isOpen, .int .i64 x.mode, .slice aH H.length cH, .slice aQ nQ cQ]] w fun e w' => ∃ a c, e = .returned (.slice a (heldA x H).length c) ∧ OwnF Elt.lk 29 D w' (.slice a (heldA x H).length c) (heldA x H) ∧ w.grownBy w' (Value.ownBlock (.slice aH H.length cH)) ∧
      (Value.ownBlock (.slice a (heldA x H).length c) = Value.ownBlock (.slice aH H.length cH) ∨ ∃ k, Value.ownBlock (.slice a (heldA x H).length c) = some k ∧ w.heap.size ≤ k) := by
  obtain ⟨W, hW, q, Bx, hsz⟩ := spBox w 61 [.int .i64 x.owner, .bool x.whole, .int .i64 x.span.table, .slice x1 x.span.lo.length x2, .slice x3 x.span.hi.length x4, .bool x.span.isOpen, .int .i64 x.mode, .slice aH H.length cH, .slice aQ nQ cQ]
  clear hsz
  have hH0 : ∀ k, Value.ownBlock (.slice aH H.length cH) = some k → k < w.heap.size := fun k hk => hH.lt hk
  go_enter Tryd.func62, Tryd.ntmps62
  go_upto_region 1 with (fail)
  rw [show w.alloc (.cells #[.int .i64 x.owner, .bool x.whole, .int .i64 x.span.table, .slice x1 x.span.lo.length x2, .slice x3 x.span.hi.length x4, .bool x.span.isOpen, .int .i64 x.mode, .slice aH H.length cH, .slice aQ nQ cQ] 61) = W from hW.symm]
  clear hW
  have hDl : ∀ k, D k → k < w.heap.size := fun k hk => (hD k hk).1
  have hC := lIndex_any W ((hH.below q hDl).rdL) _ _ #[] eSame _ (tSame (hx.below q))
  have c0 := Bx.cell (i := 0) rfl
  have c1 := Bx.cell (i := 1) rfl
  have c2 := Bx.cell (i := 2) rfl
  have c3 := Bx.cell (i := 3) rfl
  have c4 := Bx.cell (i := 4) rfl
  have c5 := Bx.cell (i := 5) rfl
  have c6 := Bx.cell (i := 6) rfl
  have c7 := Bx.cell (i := 7) rfl
  have c8 := Bx.cell (i := 8) rfl
  go_wp2_with fail
  refine hC.mono ?_
  rintro e w1 ⟨i, rfl, hi, hb⟩
  have q1 := q.trans (hb.mono q.size)
  have Bx1 := Bx.below hb Bx.lt
  have hH1 := hH.below q1 hDl
  have hx1 := hx.below q1
  have z1 := q1.size
  clear c0 c1 c2 c3 c4 c5 c6 c7 c8 hC hb hx hH Bx
  rcases heldA_fnd hi with ⟨rfl, hh⟩ | ⟨j, hj, rfl, hh⟩
  · have hln : (H ++ [x]).length = H.length + 1 := by rw [List.length_append]; rfl
    replace hh := Lib.hid hh
    clear hi
    have hOb4 : ∀ w4, Below w1.heap.size w1 w4 → OwnF Elt.lk 29 D w4 (.slice aH H.length cH) H := fun w4 hb4 => hH1.below hb4 fun k hk => by have := hDl k hk; omega
    have hS4 : ∀ w4, Below w1.heap.size w1 w4 → ∀ k, D k → k < w4.heap.size ∧ some k ≠ Value.ownBlock (.slice aH H.length cH) := fun w4 hb4 k hk => ⟨by have := hDl k hk; have := hb4.size; omega, fun e => (hD k hk).2 e.symm⟩
    have c0 := Bx1.cell (i := 0) rfl
    have c1 := Bx1.cell (i := 1) rfl
    have c2 := Bx1.cell (i := 2) rfl
    have c3 := Bx1.cell (i := 3) rfl
    have c4 := Bx1.cell (i := 4) rfl
    have c5 := Bx1.cell (i := 5) rfl
    have c6 := Bx1.cell (i := 6) rfl
    have c7 := Bx1.cell (i := 7) rfl
    have c8 := Bx1.cell (i := 8) rfl
    go_wp2_with (first
      | (refine wpList_buildOne lkP rfl rfl rfl (us := [.int .i64 x.owner, .bool x.whole, .int .i64 x.span.table, .slice x1 x.span.lo.length x2, .slice x3 x.span.hi.length x4, .bool x.span.isOpen, .int .i64 x.mode]) rfl rfl (by decide) (by decide) ?_; intro w4 hb4 hrow)
      | (refine wpList_appF (E := Elt.lk) (n := H.length + 1) lkP rfl rfl rfl rfl (hOb4 _ hb4) hrow (Elt.below hx1.R hb4) (hS4 _ hb4) (by omega) rfl ?_; intro ad9 c9 w5 hO9 hg5 ho9)
      | fail)
    go_ret
    have z4 := hb4.size
    rw [← hln] at hO9 ho9 ⊢
    rw [hh.out]
    refine ⟨_, _, rfl, hO9, grownT (grownB (q1.trans (hb4.mono q1.size)) _) hg5, ho9.imp id fun ⟨k, h1, h2⟩ => ⟨k, h1, by omega⟩⟩
  · obtain ⟨vs, hR, hF⟩ := hH1
    replace hR : RowQ 29 7 w1 (.slice aH H.length cH) H.length vs := hR
    replace hh := Lib.hid hh
    clear hi
    rcases hR.cases with ⟨_, h2, _⟩ | ⟨g, cap, cur, h1, h2, _⟩
    · omega
    injection h1 with h1 _ h1c
    subst h1 h1c
    have hgl : g < w1.heap.size := (Array.getElem?_eq_some_iff.1 h2).1
    clear h2
    have hvl := hR.len
    have hjl : ((j : Nat) : Int) < (H.length : Int) := by omega
    have d0 : decide ((0 : Int) ≤ (j : Int)) = true := decide_eq_true (by omega)
    have c0 := Bx1.cell (i := 0) rfl
    have c1 := Bx1.cell (i := 1) rfl
    have c2 := Bx1.cell (i := 2) rfl
    have c3 := Bx1.cell (i := 3) rfl
    have c4 := Bx1.cell (i := 4) rfl
    have c5 := Bx1.cell (i := 5) rfl
    have c6 := Bx1.cell (i := 6) rfl
    have c7 := Bx1.cell (i := 7) rfl
    have c8 := Bx1.cell (i := 8) rfl
    have hgb := Lib.hid (show some g ≠ some w.heap.size from fun e => by injection e with e; have := hH0 g rfl; omega)
    go_wp2_with (first | (refine wpList_putU (us := [.int .i64 x.owner, .bool x.whole, .int .i64 x.span.table, .slice x1 x.span.lo.length x2, .slice x3 x.span.hi.length x4, .bool x.span.isOpen, .int .i64 x.mode]) (f := j * 7) (by kernel_rfl) rfl rfl rfl rfl rfl rfl hR rfl (by simp only [List.length_cons, List.length_nil]; omega) ?_; intro w4 hg4 hR4; have k7 := (Bx1.other hg4 (hgb.out)).cell (i := 7) rfl) | fail)
    go_ret
    have hkp : ∀ k, D k → w4.heap[k]? = w1.heap[k]? := fun k hk => hg4.block k (by have := hDl k hk; omega) fun e => (hD k hk).2 e.symm
    have hO9 := OwnF.set (E := Elt.lk) (T := 29) hj hF (hx1.R) hkp hR4
    rw [hh.out]
    have hsl : (H.set j x).length = H.length := List.length_set
    rw [hsl]
    exact ⟨_, _, rfl, hO9, grownT (grownB q1 _) hg4, .inl rfl⟩
end Go.Proofs.YtpdnehgboafgpaaDoor
