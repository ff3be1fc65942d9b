/-
  TEXTS OF ONE PROOF, merged: LkT, SpC, LkW, Cbs, LkX, LkY.
-/
import Derived.Lib.ConvBytes
import Derived.Test.YtccoklhmbikfmaaDoorKb7
namespace Go.Proofs.YtccoklhmbikfmaaDoor
open Go.RowKit Go.Shelf
def blkO (x : Lk) (l : List Lk) : List Int := (l.filter (clashL x)).map (·.owner)
theorem blkO_snoc {x : Lk} {l : List Lk} {k : Nat} (h : k < l.length) : blkO x (l.take (k + 1)) = blkO x (l.take k) ++ (if clashL x l[k] = true then [l[k].owner] else []) := by
  unfold blkO
  rw [List.take_succ_eq_append_getElem h, List.filter_append, List.map_append]
  congr 1
  by_cases e : clashL x l[k] = true <;> simp [e]
theorem RdL.srcC {α : Type} {E : Elt α} {S : Nat → Prop} {w : World} {ad : Option Addr} {n c : Nat} {xs : List α} (h : RdL E S w (.slice ad n c) xs) : ∃ vs, Flat E S w xs vs ∧ SrcC E.size w ad xs.length vs := by
  have hs := h
  obtain ⟨a', cap, h1, h2, h3, h4⟩ := h
  cases h1
  rcases h4 with rfl | ⟨b, off, rfl, hb, hq⟩
  · exact ⟨[], rfl, by simp, fun _ => rfl, fun p _ j u hj => by simp at hj, fun u hu => by cases hu⟩
  · obtain ⟨vs, h5, h6⟩ := hs.flat
    exact ⟨vs, h5, h5.len, (fun h => by cases h), fun p hp j u hj => by cases hp; rw [Addr.add_lit]; exact h6 j u hj, h5.one⟩
section
variable {ops : Array Oper} {rest : List Oper} {o : Oper} {a : Act} {Q : Exit → Act → World → Prop} {w : World} {x y : Operand} {a1 a2 : Option Addr} {n1 n2 c1 c2 : Nat}
theorem wpList_two (ho : o.op = .buildSlice 87 2 #[(0, x), (1, y)]) (hgd : Region.wanted o (yielded ops a.tmps) = true) (hx : a.eval x = .slice a1 n1 c1) (hy : a.eval y = .slice a2 n2 c2)
    (h : ∀ w', Below w.heap.size w w' → w'.heap[w.heap.size]? = some (.cells #[.slice a1 n1 c1, .slice a2 n2 c2] 22 (0, 0)) → wpList Tryd.prog ops Q rest (a.put o.dst (.slice (some ⟨w.heap.size, 0, none⟩) 2 2)) w') : wpList Tryd.prog ops Q (o :: rest) a w := by
  have hrun : (Instr.buildSlice 87 2 #[(0, .slice a1 n1 c1), (1, .slice a2 n2 c2)]).run Tryd.prog w = .ok (.slice (some ⟨w.heap.size, 0, none⟩) 2 2) (w.alloc (.cells #[.slice a1 n1 c1, .slice a2 n2 c2] 22)) := by
    go_simp
  refine BigFrame.wpList_want hgd fun _ hK => ?_
  unfold Oper.wp execOp
  simp only [ho, hx, hy, Sem.run_bind, Sem.run_pure, Result.andThen_ok, List.map_toArray, List.map_cons, List.map_nil, hrun]
  exact hK _ _ (h _ ((Below.refl _ _).alloc (Nat.le_refl _) _) (by simp only [World.alloc, Array.getElem?_push_size]))
end
set_option maxRecDepth 100000 in
set_option maxHeartbeats 4000000 in
theorem blockers_any (w : World) (hT : TabAt w) {S S2 S3 : Nat → Prop} {x : Lk} {x1 x3 aH aQ : Option Addr} {x2 x4 cH cQ : Nat} {H Q : List Lk} (hx : RdLk S w (.agg #[.int .i64 x.owner, .bool x.whole, .int .i64 x.span.table, .slice x1 x.span.lo.length x2, .slice x3 x.span.hi.length x4, .bool x.span.isOpen, .int .i64 x.mode]) x)
    (hH : RdL Elt.lk S2 w (.slice aH H.length cH) H) (hQ : RdL Elt.lk S3 w (.slice aQ Q.length cQ) Q) (hnH : H.length ≤ 400000) (hnQ : Q.length ≤ 400000) :
    Calls Tryd.prog 23 #[.agg #[.int .i64 x.owner, .bool x.whole, .int .i64 x.span.table, .slice x1 x.span.lo.length x2, .slice x3 x.span.hi.length x4, .bool x.span.isOpen, .int .i64 x.mode, .slice aH H.length cH, .slice aQ Q.length cQ]] w fun e w' => ∃ a c, e = .returned (.slice a (riseL (blkO x (H ++ Q))).length c) ∧ OwnL Elt.int 3 w.heap.size w.heap.size w' (.slice a (riseL (blkO x (H ++ Q))).length c) (riseL (blkO x (H ++ Q))) ∧ Below w.heap.size w w' := by
  obtain ⟨W, hW, q, Bx, hsz⟩ := spBox w 54 [.int .i64 x.owner, .bool x.whole, .int .i64 x.span.table, .slice x1 x.span.lo.length x2, .slice x3 x.span.hi.length x4, .bool x.span.isOpen, .int .i64 x.mode, .slice aH H.length cH, .slice aQ Q.length cQ]
  clear hsz
  go_enter Tryd.func23, Tryd.ntmps23
  go_upto_region 1 with (fail)
  rw [show w.alloc (.cells #[.int .i64 x.owner, .bool x.whole, .int .i64 x.span.table, .slice x1 x.span.lo.length x2, .slice x3 x.span.hi.length x4, .bool x.span.isOpen, .int .i64 x.mode, .slice aH H.length cH, .slice aQ Q.length cQ] 54) = W from hW.symm]
  clear hW
  have c7 := Bx.cell (i := 7) rfl
  have c8 := Bx.cell (i := 8) rfl
  go_wp2_with (first | (refine wpList_two rfl rfl rfl rfl ?_; intro w1 hb1 hrow) | fail)
  have q1 := q.trans (hb1.mono q.size)
  obtain ⟨vH, fH, sH⟩ := ((hH.below q1).fit.weak (S' := fun k => k < w1.heap.size) fun k hk => hk.2).srcC
  obtain ⟨vQ, fQ, sQ⟩ := ((hQ.below q1).fit.weak (S' := fun k => k < w1.heap.size) fun k hk => hk.2).srcC
  have z1 : W.heap.size < w1.heap.size := (Array.getElem?_eq_some_iff.1 hrow).1
  have hC := concat_l w1 (B := W.heap.size) (m := 2) (ps := [⟨aH, H.length, cH, vH⟩, ⟨aQ, Q.length, cQ, vQ⟩]) (fun k hk => by
    match k, hk with
    | 0, _ => simp [World.cell?, hrow, Pc.v]
    | 1, _ => simp [World.cell?, hrow, Pc.v]) rfl (by omega) (fun p hp => by
    simp only [List.mem_cons, List.not_mem_nil, or_false] at hp
    rcases hp with rfl | rfl
    · exact sH
    · exact sQ) (by simp [sumC]; omega)
  refine hC.mono ?_
  rintro e w2 ⟨v2, rfl, hr2, hrb, hb2⟩
  have hsum : sumC [⟨aH, H.length, cH, vH⟩, ⟨aQ, Q.length, cQ, vQ⟩] = (H ++ Q).length := by simp [sumC]
  have hall : allC [⟨aH, H.length, cH, vH⟩, ⟨aQ, Q.length, cQ, vQ⟩] = vH ++ vQ := by simp [allC]
  rw [hsum, hall] at hr2
  have hF2 : OwnF Elt.lk 29 (fun k => k < w1.heap.size) w2 v2 (H ++ Q) := ⟨_, hr2, (fH.keep fun k hk => hb2.block k hk).append (fQ.keep fun k hk => hb2.block k hk)⟩
  obtain ⟨aL, cL, rfl, hLn, hLc⟩ := hF2.shape
  have hL : RdL Elt.lk (fun k => k < w2.heap.size) w2 (.slice aL (H ++ Q).length cL) (H ++ Q) := hF2.rdL.fit.weak fun k hk => hk.2
  obtain ⟨L, eL⟩ : ∃ L, L = H ++ Q := ⟨_, rfl⟩
  have hLl : L.length ≤ 800000 := by rw [eL, List.length_append]; omega
  rw [← eL] at hL ⊢
  have z2 := hb2.size
  have q2 := q1.trans (hb2.mono q1.size)
  have zx := Bx.lt
  have Bx2 := Bx.below (hb1.trans (hb2.mono hb1.size)) Bx.lt
  clear hC hsum hall hr2 hF2 hrb sH sQ fH fQ hrow c7 c8 hLn hLc hH hQ
  replace eL := Lib.hid eL
  go_upto_region 3 with (fail)
  go_loopw [3, 15] (fun ov iv wr => ∃ (k : Nat) (ad : Option Addr) (ko : Nat), iv = .int .i64 k ∧ k ≤ L.length ∧ ov = .slice ad (blkO x (L.take k)).length ko ∧ OwnL Elt.int 3 w2.heap.size w2.heap.size wr (.slice ad (blkO x (L.take k)).length ko) (blkO x (L.take k)) ∧ Below w2.heap.size w2 wr)
    (fun _ i _ => L.length - (intOf i).toNat)
  case atStart => exact ⟨0, none, 0, rfl, Nat.zero_le _, rfl, OwnL.nil _ _ _ _ _, Below.refl _ _⟩
  case round =>
    obtain ⟨k, ad, ko, rfl, hkl, rfl, hO, qr⟩ := hrel
    have zr := qr.size
    have q3 := q2.trans (qr.mono q2.size)
    have Bx3 := Bx2.below qr Bx2.lt
    rcases Nat.lt_or_ge k L.length with hlt | hge
    · obtain ⟨b, off, KA, KC, VA, VC, rfl, hb, c0, c1, c2, c3, c4, c5, c6, hk1, hk2, hw64⟩ := (hL.below qr).lk k hlt
      have hsn := Lib.hid (blkO_snoc (x := x) hlt)
      obtain ⟨y, ey⟩ : ∃ y, y = L[k] := ⟨_, rfl⟩
      obtain ⟨xs, exs⟩ : ∃ xs, xs = blkO x (L.take k) := ⟨_, rfl⟩
      have hxl : xs.length ≤ 800000 := by
        rw [exs]; unfold blkO; rw [List.length_map]
        refine Nat.le_trans (List.length_filter_le _ _) ?_
        rw [List.length_take]; omega
      rw [← ey] at c0 c1 c2 c3 c4 c5 c6 hk1 hk2 hw64 hsn
      rw [← exs] at hO hsn ⊢
      clear ey exs
      go_upto_region 5 with (first | (refine wpList_boxNew (vs := [.int .i64 0, .bool false, .int .i64 0, .slice none 0 0, .slice none 0 0, .bool false, .int .i64 0]) (by kernel_rfl) rfl rfl ?_; intro wa hba hBa) | (refine wpList_boxStore (us := [.int .i64 y.owner, .bool y.whole, .int .i64 y.span.table, .slice KA y.span.lo.length KC, .slice VA y.span.hi.length VC, .bool y.span.isOpen, .int .i64 y.mode]) (by kernel_rfl) rfl rfl rfl rfl rfl rfl hBa rfl ?_; intro W4 hgw hYW) | fail)
      go_simp
      have hbw : Below wr.heap.size wr W4 := hba.grown hgw hba.size fun k hk => by injection hk with hk; omega
      have hy : RdLk (fun k => k < w2.heap.size) W4 (.agg #[.int .i64 y.owner, .bool y.whole, .int .i64 y.span.table, .slice KA y.span.lo.length KC, .slice VA y.span.hi.length VC, .bool y.span.isOpen, .int .i64 y.mode]) y := ⟨_, _, _, _, rfl, hk1.below hbw, hk2.below hbw, hw64⟩
      have q4 := q3.trans (hbw.mono q3.size)
      have qr4 := qr.trans (hbw.mono qr.size)
      have Bx4 := Bx3.below hbw Bx3.lt
      replace hO := hO.below hbw
      have zw := hbw.size
      clear c0 c1 c2 c3 c4 c5 c6 hk1 hk2 hba hBa hgw hbw
      have hC := clashes_any W4 (hT.below q4) (hx.below q4) hy
      have c0 := Bx4.cell (i := 0) rfl
      have c1 := Bx4.cell (i := 1) rfl
      have c2 := Bx4.cell (i := 2) rfl
      have c3 := Bx4.cell (i := 3) rfl
      have c4 := Bx4.cell (i := 4) rfl
      have c5 := Bx4.cell (i := 5) rfl
      have c6 := Bx4.cell (i := 6) rfl
      have f0 := hYW.cell (i := 0) rfl
      have f1 := hYW.cell (i := 1) rfl
      have f2 := hYW.cell (i := 2) rfl
      have f3 := hYW.cell (i := 3) rfl
      have f4 := hYW.cell (i := 4) rfl
      have f5 := hYW.cell (i := 5) rfl
      have f6 := hYW.cell (i := 6) rfl
      go_wp2_with fail
      refine hC.mono ?_
      rintro e w5 ⟨rfl, hb5⟩
      have z5 := hb5.size
      replace hO := hO.below hb5
      replace hYW := hYW.below hb5 hYW.lt
      replace qr4 := qr4.trans (hb5.mono qr4.size)
      clear c0 c1 c2 c3 c4 c5 c6 f0 f1 f2 f3 f4 f5 f6 hC hb5 hy
      have f0 := hYW.cell (i := 0) rfl
      cases hcl : clashL x y with
      | false =>
        have hs2 := Lib.hid (show blkO x (L.take (k + 1)) = xs by rw [hsn.out, hcl]; simp)
        clear hcl hsn
        go_wp2_with fail
        go_roundw
        case rel => exact ⟨k + 1, ad, ko, by go_num, by omega, by rw [hs2.out], by rw [hs2.out]; exact hO, qr4⟩
        case measure => simp [intOf]; omega
      | true =>
        have hs2 := Lib.hid (show blkO x (L.take (k + 1)) = xs ++ [y.owner] by rw [hsn.out, hcl]; simp)
        clear hcl hsn
        have hrr : ∀ k, Value.ownBlock (.slice ad xs.length ko) = some k → w2.heap.size ≤ k ∧ k < w5.heap.size := fun k hk => hO.block_lt k hk
        have hR : ∀ V, Elt.int.R (fun k => w2.heap.size ≤ k ∧ k < w2.heap.size) V y.owner [.int .i64 y.owner] := fun V => ⟨rfl, hw64.1⟩
        have hSV : ∀ V : World, ∀ k, (w2.heap.size ≤ k ∧ k < w2.heap.size) → w2.heap.size ≤ k ∧ k < V.heap.size ∧ some k ≠ Value.ownBlock (.slice ad xs.length ko) := fun V k hk => by omega
        have hbs : ∀ V : World, Below w5.heap.size w5 V → w2.heap.size ≤ V.heap.size := fun V h => by have := h.size; have := qr4.size; omega
        go_wp2_with (first
          | (refine wpList_buildOne inP rfl rfl rfl (us := [.int .i64 y.owner]) rfl rfl (by decide) (by decide) ?_; intro w6 hb6 hrow)
          | (refine wpList_apvRow (E := Elt.int) (n := xs.length + 1) inP rfl rfl rfl rfl (hO.below hb6) hrow (hR _) (hSV _) (hbs _ hb6) (by omega) rfl ?_; intro ad9 c9 w7 hO9 hg7 ho9)
          | fail)
        have hln : (xs ++ [y.owner]).length = xs.length + 1 := by rw [List.length_append]; rfl
        have q9 : Below w2.heap.size w2 w7 := (qr4.trans (hb6.mono qr4.size)).grown hg7 (qr4.trans (hb6.mono qr4.size)).size fun k hk => (hrr k hk).1
        rw [← hln] at hO9
        clear hrr hR hSV hbs hg7 hO hrow hb6 ho9 hYW f0
        go_roundw
        case rel => exact ⟨k + 1, ad9, c9, by go_num, by omega, by rw [hs2.out, hln], by rw [hs2.out]; exact hO9, q9⟩
        case measure => simp [intOf]; omega
    · obtain rfl : k = L.length := by omega
      rw [List.take_length] at hO ⊢
      have hbl : (blkO x L).length ≤ 800000 := by
        unfold blkO; rw [List.length_map]
        exact Nat.le_trans (List.length_filter_le _ _) hLl
      have hR := rising_any wr hO (by omega)
      have hOl := fun k hk => hO.block_lt k hk
      go_wp2_with fail
      refine hR.mono ?_
      rintro e w4 ⟨c', rfl, hO4, hg4⟩
      go_wp2_with fail
      go_ret
      have zq := q2.size
      rw [← eL.out]
      exact ⟨_, _, rfl, hO4.to (by omega) (by omega), q3.grown hg4 q3.size fun k hk => by have := hOl k hk; omega⟩
set_option maxRecDepth 100000 in
set_option maxHeartbeats 4000000 in
theorem lBlockers_any (w : World) (hT : TabAt w) {S : Nat → Prop} {v : Value} {H Q : List Lk} {o : Int} (h : RdLs S w v H Q) (hnH : H.length ≤ 400000) (hnQ : Q.length ≤ 400000) :
    Calls Tryd.prog 10 #[v, .int .i64 o] w fun e w' => ∃ l a c, e = .returned (.slice a l.length c) ∧ OwnL Elt.int 3 w.heap.size w.heap.size w' (.slice a l.length c) l ∧ Below w.heap.size w w' ∧
      ((okLk H Q ∧ ∃ i, ∃ h : i < Q.length, Q[i].owner = o ∧ (∀ y ∈ Q.take i, y.owner ≠ o) ∧ l = riseL (blkO Q[i] (H ++ Q.take i))) ∨ (decide (okLk H Q) && waitsL Q o) = false ∧ l = []) := by
  have hfull := h
  obtain ⟨aH, cH, aL, cL, rfl, hH, hQ⟩ := h
  clear hH hQ
  obtain ⟨W, hW, q, Bw, hsz⟩ := spBox w 24 [.slice aH H.length cH, .slice aL Q.length cL]
  clear hsz
  go_enter Tryd.func10, Tryd.ntmps10
  go_upto_region 1 with (fail)
  rw [show w.alloc (.cells #[.slice aH H.length cH, .slice aL Q.length cL] 24) = W from hW.symm]
  clear hW
  have hC := waiting_any W (hT.below q) (o := o) (hfull.below q) (by omega) (by omega)
  have b0 := Bw.cell (i := 0) rfl
  have b1 := Bw.cell (i := 1) rfl
  go_wp2_with fail
  refine hC.mono ?_
  rintro e w1 ⟨hb, hres⟩
  replace q := q.trans (hb.mono q.size)
  clear hC b0 b1 Bw hb
  rcases hres with ⟨hok, i, hi, hio, hbe, x1, x2, x3, x4, aH2, cH2, aQ2, cQ2, rfl, hx, hH, hQ⟩ | ⟨hno, rfl⟩
  · have hpl : (Q.take i).length ≤ 400000 := by rw [List.length_take]; omega
    have hfin := Lib.hid (show ∀ l, l = riseL (blkO Q[i] (H ++ Q.take i)) → ((okLk H Q ∧ ∃ i, ∃ h : i < Q.length, Q[i].owner = o ∧ (∀ y ∈ Q.take i, y.owner ≠ o) ∧ l = riseL (blkO Q[i] (H ++ Q.take i))) ∨ (decide (okLk H Q) && waitsL Q o) = false ∧ l = []) from fun l hl => .inl ⟨hok, i, hi, hio, hbe, hl⟩)
    obtain ⟨x, ex⟩ : ∃ x, x = Q[i] := ⟨_, rfl⟩
    obtain ⟨p, ep⟩ : ∃ p, p = Q.take i := ⟨_, rfl⟩
    rw [← ex, ← ep] at hfin
    rw [← ex] at hx ⊢
    rw [← ep] at hQ hpl ⊢
    clear ex ep hio hok hbe
    unfold akV
    go_upto_region 2 with (first | (refine wpList_boxNew (vs := [.int .i64 0, .bool false, .int .i64 0, .slice none 0 0, .slice none 0 0, .bool false, .int .i64 0, .slice none 0 0, .slice none 0 0]) (by kernel_rfl) rfl rfl ?_; intro wa hba hBa) | (refine wpList_boxStore (us := [.int .i64 x.owner, .bool x.whole, .int .i64 x.span.table, .slice x1 x.span.lo.length x2, .slice x3 x.span.hi.length x4, .bool x.span.isOpen, .int .i64 x.mode, .slice aH2 H.length cH2, .slice aQ2 p.length cQ2]) (by kernel_rfl) rfl rfl rfl rfl rfl rfl hBa rfl ?_; intro W3 hgw hYW) | fail)
    have hbw : Below w1.heap.size w1 W3 := hba.grown hgw hba.size fun k hk => by injection hk with hk; omega
    replace q := q.trans (hbw.mono q.size)
    have hB := blockers_any W3 (hT.below q) (hx.below hbw) (hH.below hbw) (hQ.below hbw) hnH hpl
    have f0 := hYW.cell (i := 0) rfl
    have f1 := hYW.cell (i := 1) rfl
    have f2 := hYW.cell (i := 2) rfl
    have f3 := hYW.cell (i := 3) rfl
    have f4 := hYW.cell (i := 4) rfl
    have f5 := hYW.cell (i := 5) rfl
    have f6 := hYW.cell (i := 6) rfl
    have f7 := hYW.cell (i := 7) rfl
    have f8 := hYW.cell (i := 8) rfl
    go_wp2_with fail
    refine hB.mono ?_
    rintro e w4 ⟨a9, c9, rfl, hO9, hb9⟩
    go_wp2_with fail
    go_ret
    exact ⟨_, _, _, rfl, hO9.to q.size q.size, q.trans (hb9.mono q.size), hfin.out _ rfl⟩
  · have Hh := Lib.hid hno
    clear hno
    go_upto_region 2 with (first | (refine wpList_boxNew (vs := [.int .i64 0, .bool false, .int .i64 0, .slice none 0 0, .slice none 0 0, .bool false, .int .i64 0, .slice none 0 0, .slice none 0 0]) (by kernel_rfl) rfl rfl ?_; intro wa hba hBa) | (refine wpList_boxStore (us := [.int .i64 0, .bool false, .int .i64 0, .slice none 0 0, .slice none 0 0, .bool false, .int .i64 0, .slice none 0 0, .slice none 0 0]) (by kernel_rfl) rfl rfl rfl rfl rfl rfl hBa rfl ?_; intro W3 hgw hYW) | fail)
    have hbw : Below w1.heap.size w1 W3 := hba.grown hgw hba.size fun k hk => by injection hk with hk; omega
    replace q := q.trans (hbw.mono q.size)
    have hB := blockers_any W3 (hT.below q) (S := fun _ => True) (S2 := fun _ => True) (S3 := fun _ => True) (x := ⟨0, false, ⟨0, [], [], false⟩, 0⟩) (x1 := none) (x2 := 0) (x3 := none) (x4 := 0) (aH := none) (cH := 0) (aQ := none) (cQ := 0) (H := []) (Q := []) ⟨none, 0, none, 0, rfl, RdS.nil _ _, RdS.nil _ _, by unfold Lk64 W64; simp⟩ (RdL.nil _ _ _) (RdL.nil _ _ _) (by simp) (by simp)
    have f0 := hYW.cell (i := 0) rfl
    have f1 := hYW.cell (i := 1) rfl
    have f2 := hYW.cell (i := 2) rfl
    have f3 := hYW.cell (i := 3) rfl
    have f4 := hYW.cell (i := 4) rfl
    have f5 := hYW.cell (i := 5) rfl
    have f6 := hYW.cell (i := 6) rfl
    have f7 := hYW.cell (i := 7) rfl
    have f8 := hYW.cell (i := 8) rfl
    go_wp2_with fail
    refine hB.mono ?_
    rintro e w4 ⟨a9, c9, rfl, hO9, hb9⟩
    have e0 : riseL (blkO ⟨0, false, ⟨0, [], [], false⟩, 0⟩ ([] ++ [])) = [] := by simp [blkO, riseL, Lib.compact, Lib.compactUpTo]
    rw [e0] at hO9 ⊢
    go_wp2_with fail
    go_ret
    exact ⟨_, _, _, rfl, hO9.to q.size q.size, q.trans (hb9.mono q.size), .inr ⟨Hh.out, rfl⟩⟩
end Go.Proofs.YtccoklhmbikfmaaDoor
namespace Go.Proofs.YtccoklhmbikfmaaDoor
open Go.RowKit Go.Shelf
set_option maxRecDepth 100000 in
set_option maxHeartbeats 4000000 in
theorem sPoint_any (w : World) {S : Nat → Prop} {A : Option Addr} {n C : Nat} {k : List UInt8} {t : Int} (hk : RdS S w (.slice A n C) k) (ht : W64 t) (h1 : k.length ≤ 1000000) :
    Calls Tryd.prog 49 #[.int .i64 t, .slice A n C] w (SpEnd w (pointS t k)) := by
  obtain ⟨W, hW, q, Bz, hsz⟩ := spBox w 27 [.int .i64 0, .slice none 0 0, .slice none 0 0, .bool false]
  go_enter Tryd.func49, Tryd.ntmps49
  go_upto_region 1 with (fail)
  rw [show w.alloc (.cells #[.int .i64 0, .slice none 0 0, .slice none 0 0, .bool false] 27) = W from hW.symm]
  clear hW
  go_wp2_with fail
  refine (clone_any W (hk.below q).rd (Nat.le_refl _) h1).mono ?_
  rintro e w1 ⟨ad1, k1, c1, rfl, hf1⟩
  obtain rfl : k1 = k.length := hf1.len
  go_wp2_with fail
  refine (clone_any w1 (hk.below (q.trans (hf1.1.mono q.size))).rd (Nat.le_refl _) h1).mono ?_
  rintro e w2 ⟨ad2, k2, c2, rfl, hf2⟩
  obtain rfl : k2 = k.length := hf2.len
  go_wp2_with (refine wpList_append1 byP rfl (fun _ => rfl) rfl rfl (by first | (simp; done) | (simp [Act.put]; done)) rfl 0 (fun _ => rfl) rfl hf2.2 hf2.1.size ?_ (by omega)
               intro u ad3 k3 c3 w3 hO3 hb3
               obtain ⟨hi, ehi⟩ : ∃ hi, hi = k ++ [0] := ⟨_, rfl⟩
               rw [← ehi] at hO3
               obtain rfl : k3 = hi.length := hO3.len
               replace ehi := Lib.hid ehi
               have b03 : Below W.heap.size W w3 := (hf1.1.trans (hf2.1.mono hf1.1.size)).trans (hb3.mono hf1.1.size)
               have rl : RdS (fun g => W.heap.size ≤ g ∧ g < w3.heap.size) w3 (.slice ad1 k.length c1) k := ((hf1.2.rdS.below hf2.1).keep fun g hg => hb3.block g hg.2).weak fun g hg => ⟨hg.1, Nat.lt_of_lt_of_le hg.2 (hf2.1.trans hb3).size⟩
               have rh : RdS (fun g => W.heap.size ≤ g ∧ g < w3.heap.size) w3 (.slice ad3 hi.length c3) hi := hO3.rdS.weak fun g hg => ⟨Nat.le_trans hf1.1.size hg.1, hg.2⟩
               go_wp2_with (first | (refine wpList_boxStore (us := [.int .i64 t, .slice ad1 k.length c1, .slice ad3 hi.length c3, .bool false]) (by kernel_rfl) rfl rfl rfl rfl rfl rfl (Bz.below b03 Bz.lt) rfl ?_; intro w4 hg hB) | fail))
  have d0 := hB.cell (i := 0) rfl
  have d1 := hB.cell (i := 1) rfl
  have d2 := hB.cell (i := 2) rfl
  have d3 := hB.cell (i := 3) rfl
  obtain ⟨fs, hu, _⟩ := spS.hu
  refine bodyPost_ret (v := .agg #[.int .i64 t, .slice ad1 k.length c1, .slice ad3 hi.length c3, .bool false]) (by simp [results, Tryd.results49, go_sem, loadVar, isAgg, run_underlying hu, run_sizeOf' spS.hs, loadCellsFrom, Addr.add, d0, d1, d2, d3]) rfl ?_
  have hk0 : ∀ g, W.heap.size ≤ g ∧ g < w3.heap.size → w4.heap[g]? = w3.heap[g]? := fun g hg2 => hg.block g hg2.2 fun e => by injection e with e; omega
  unfold SpEnd
  rw [show pointS t k = ⟨t, k, hi, false⟩ by unfold pointS; rw [ehi.out]]
  exact ⟨_, rfl, ⟨ad1, c1, ad3, c3, rfl, (rl.keep hk0).weak fun g hg2 => ⟨by omega, Nat.lt_of_lt_of_le hg2.2 hg.size⟩, (rh.keep hk0).weak fun g hg2 => ⟨by omega, Nat.lt_of_lt_of_le hg2.2 hg.size⟩, ht⟩, (q.trans (b03.mono q.size)).grown hg (q.trans (b03.mono q.size)).size fun g e => by injection e with e; omega⟩
end Go.Proofs.YtccoklhmbikfmaaDoor
namespace Go.Proofs.YtccoklhmbikfmaaDoor
open Go.RowKit Go.Shelf
section
variable {P : Program} {ops : Array Oper} {rest : List Oper} {o : Oper} {a : Act} {Q : Exit → Act → World → Prop} {w : World} {T E S : TypeId}
theorem wpList_bytes (hP : ByP P T E S) {x : Operand} (ho : o.op = .convert S T x) {b : UInt8} (hx : a.eval x = .string ⟨#[b]⟩) (hgd : Region.wanted o (yielded ops a.tmps) = true)
    (h : ∀ g c w', Below w.heap.size w w' → RdS (fun _ => True) w' (.slice (some ⟨g, 0, none⟩) 1 c) [b] → wpList P ops Q rest (a.put o.dst (.slice (some ⟨g, 0, none⟩) 1 c)) w') : wpList P ops Q (o :: rest) a w := by
  refine BigFrame.wpList_want hgd fun K hK => ?_
  unfold Oper.wp execOp
  simp only [ho, hx, Sem.run_bind, Sem.run_pure, Result.andThen_ok, Lib.run_convert_string_bytes w S T E ⟨#[b]⟩ hP.hS hP.hT hP.hE]
  refine hK _ _ (h _ _ _ ⟨?_, ?_, ?_, ?_, fun k hk => Lib.bytesWorld_at_old w E _ k hk⟩ (.inr ⟨_, 0, _, rfl, trivial, ?_, ?_, fun j u hj => ?_⟩))
  · simp [Lib.bytesWorld, World.freeze, World.alloc, World.drew, -World.alloc_eq, -World.drew_eq]
  · simp [Lib.bytesWorld, World.freeze, World.alloc, World.drew, -World.alloc_eq, -World.drew_eq]
  · simp [Lib.bytesWorld, World.freeze, World.alloc, World.drew, -World.alloc_eq, -World.drew_eq]
  · rw [Lib.bytesWorld_size]; omega
  · exact grownCap_ge w 1 0 E
  · exact grownCap_le_maxLen w _ _ _ (by simp [ByteArray.size, maxLen])
  · rw [Nat.zero_add]
    have hj0 : j = 0 := by
      rcases j with _ | j
      · rfl
      · simp [bv] at hj
    subst hj0
    rw [Lib.bytesWorld_cell w E ⟨#[b]⟩ 0 (by simp [ByteArray.size])]
    simpa [bv] using hj
end
set_option maxRecDepth 100000 in
set_option maxHeartbeats 4000000 in
theorem one_any (w : World) {o m : Int} {b : UInt8} (ho : W64 o) (hm : W64 m) :
    Calls Tryd.prog 21 #[.int .i64 o, .string ⟨#[b]⟩, .int .i64 m] w (LkEnd w ⟨o, false, pointS 0 [b], m⟩) := by
  obtain ⟨W, hW, q, Bz, hsz⟩ := spBox w 29 [.int .i64 0, .bool false, .int .i64 0, .slice none 0 0, .slice none 0 0, .bool false, .int .i64 0]
  go_enter Tryd.func21, Tryd.ntmps21
  go_upto_region 1 with (fail)
  rw [show w.alloc (.cells #[.int .i64 0, .bool false, .int .i64 0, .slice none 0 0, .slice none 0 0, .bool false, .int .i64 0] 29) = W from hW.symm]
  clear hW
  go_wp2_with (first | (refine wpList_bytes byP rfl rfl rfl ?_; intro g c w1 hb1 hr1) | fail)
  have hcl := sPoint_any w1 (t := 0) hr1 (by unfold W64; decide) (by simp)
  refine hcl.mono ?_
  rintro e w2 ⟨v, rfl, ⟨a1, c1, a2, c2, rfl, rl, rh, rt⟩, hb⟩
  clear hcl hr1
  go_wp2_with (first | (refine wpList_boxStore (us := [.int .i64 o, .bool false, .int .i64 (pointS 0 [b]).table, .slice a1 (pointS 0 [b]).lo.length c1, .slice a2 (pointS 0 [b]).hi.length c2, .bool (pointS 0 [b]).isOpen, .int .i64 m]) (by kernel_rfl) rfl rfl rfl rfl (by simp [Act.eval]) rfl (Bz.below (hb1.trans (hb.mono hb1.size)) Bz.lt) rfl ?_; intro w3 hg hB) | fail)
  have b03 : Below W.heap.size W w2 := hb1.trans (hb.mono hb1.size)
  have d0 := hB.cell (i := 0) rfl
  have d1 := hB.cell (i := 1) rfl
  have d2 := hB.cell (i := 2) rfl
  have d3 := hB.cell (i := 3) rfl
  have d4 := hB.cell (i := 4) rfl
  have d5 := hB.cell (i := 5) rfl
  have d6 := hB.cell (i := 6) rfl
  obtain ⟨⟨fs, hu⟩, hs⟩ := lkS
  refine bodyPost_ret (v := .agg #[.int .i64 o, .bool false, .int .i64 (pointS 0 [b]).table, .slice a1 (pointS 0 [b]).lo.length c1, .slice a2 (pointS 0 [b]).hi.length c2, .bool (pointS 0 [b]).isOpen, .int .i64 m]) (by simp [results, Tryd.results21, go_sem, loadVar, isAgg, run_underlying hu, run_sizeOf' hs, loadCellsFrom, Addr.add, d0, d1, d2, d3, d4, d5, d6]) rfl ?_
  have hk0 : ∀ k, w1.heap.size ≤ k ∧ k < w2.heap.size → w3.heap[k]? = w2.heap[k]? := fun k hk => hg.block k hk.2 fun e => by injection e with e; have := hb1.size; omega
  have hs1 := hb1.size
  exact ⟨_, rfl, ⟨a1, c1, a2, c2, rfl, (rl.keep hk0).weak fun k hk => ⟨by omega, Nat.lt_of_lt_of_le hk.2 hg.size⟩, (rh.keep hk0).weak fun k hk => ⟨by omega, Nat.lt_of_lt_of_le hk.2 hg.size⟩, ho, rt, hm⟩, (q.trans (b03.mono q.size)).grown hg (q.trans (b03.mono q.size)).size fun k e => by injection e with e; omega⟩
end Go.Proofs.YtccoklhmbikfmaaDoor
namespace Go.Proofs.YtccoklhmbikfmaaDoor
open Go.RowKit
def newB (W : World) (z : Option Value) (w : World) (g : Nat) : Prop := W.heap.size ≤ g ∧ g < w.heap.size ∧ ∀ b, z = some (.pointer (some ⟨b, 0, none⟩)) → g ≠ b
def newC (W : World) (o0 z : Option Value) (w : World) (g : Nat) : Prop := newB W z w g ∧ ∀ b n m, o0 = some (.slice (some ⟨b, 0, none⟩) n m) → g ≠ b
structure RdP (R : (Nat → Prop) → World → Value → Value → Prop) : Prop where
  keep : ∀ {S w w' v e}, R S w v e → (∀ k, S k → w'.heap[k]? = w.heap[k]?) → R S w' v e
  weak : ∀ {S S' w v e}, R S w v e → (∀ k, S k → S' k) → R S' w v e
structure CbS (hk : Bool) (C0 : Array Value) (E0 : TypeId) (R : (Nat → Prop) → World → Value → Value → Prop) (Z : Obj) (Bx : World → Nat → Value → Prop) (K1 K2 : (Nat → Prop) → World → Value → Prop) (W : World) (o0 o1 o2 c m x y z s : Option Value) (w : World) : Prop where
  be : Below W.heap.size W w
  k0 : ∀ u, o0 = some u → ∃ g, u = .slice (some ⟨g, 0, none⟩) C0.size C0.size ∧ newB W z w g ∧ (o1 = none → w.heap[g]? = some (.cells C0 E0 (0, 0)))
  k1 : ∀ u, o1 = some u → K1 (newB W z w) w u
  k2 : ∀ u, o2 = some u → K2 (newC W o0 z w) w u
  rr : ∀ u, c = some u → ∃ v e, u = .tuple #[v, e] ∧ R (newC W o0 z w) w v e
  mv : ∀ u, m = some u → c = some u
  mx : ∀ u, x = some u → ∃ e, m = some (.tuple #[u, e])
  my : ∀ u, y = some u → ∃ v, m = some (.tuple #[v, u])
  zz : ∀ u, z = some u → ∃ b, u = .pointer (some ⟨b, 0, none⟩) ∧ W.heap.size ≤ b ∧ b < w.heap.size ∧ (s = none → w.heap[b]? = some Z)
  sc : s ≠ none → c ≠ none
  dk : hk = true → c ≠ none → o0 ≠ none ∧ o1 ≠ none
  d1 : hk = true → o1 ≠ none → o0 ≠ none
  ss : ∀ u, s = some u → ∃ b v, z = some (.pointer (some ⟨b, 0, none⟩)) ∧ x = some v ∧ Bx w b v
section
variable {hk : Bool} {C0 : Array Value} {E0 : TypeId} {R : (Nat → Prop) → World → Value → Value → Prop} {Z : Obj} {Bx : World → Nat → Value → Prop} {K1 K2 : (Nat → Prop) → World → Value → Prop} {W w w' : World} {o0 o1 o2 c m x y z s : Option Value}
theorem CbS.start (W : World) : CbS hk C0 E0 R Z Bx K1 K2 W none none none none none none none none none W where
  be := Below.refl _ _
  k0 _ h := by cases h
  k1 _ h := by cases h
  k2 _ h := by cases h
  rr _ h := by cases h
  mv _ h := by cases h
  mx _ h := by cases h
  my _ h := by cases h
  zz _ h := by cases h
  sc h := absurd rfl h
  dk _ h := absurd rfl h
  d1 _ h := absurd rfl h
  ss _ h := by cases h
structure Stays (R : (Nat → Prop) → World → Value → Value → Prop) (Bx : World → Nat → Value → Prop) (K1 K2 : (Nat → Prop) → World → Value → Prop) : Prop extends RdP R where
  bx : ∀ {w w' b v}, Bx w b v → Below w.heap.size w w' → Bx w' b v
  s1 : ∀ {S w w' u}, K1 S w u → (∀ k, S k → w'.heap[k]? = w.heap[k]?) → K1 S w' u
  w1 : ∀ {S S' w u}, K1 S w u → (∀ k, S k → S' k) → K1 S' w u
  s2 : ∀ {S w w' u}, K2 S w u → (∀ k, S k → w'.heap[k]? = w.heap[k]?) → K2 S w' u
  w2 : ∀ {S S' w u}, K2 S w u → (∀ k, S k → S' k) → K2 S' w u
theorem CbS.more (hS : Stays R Bx K1 K2) (h : CbS hk C0 E0 R Z Bx K1 K2 W o0 o1 o2 c m x y z s w) (hb : Below w.heap.size w w') : CbS hk C0 E0 R Z Bx K1 K2 W o0 o1 o2 c m x y z s w' where
  be := h.be.trans (hb.mono h.be.size)
  k0 u hu := by
    obtain ⟨g, e, h1, h2⟩ := h.k0 u hu
    exact ⟨g, e, ⟨h1.1, Nat.lt_of_lt_of_le h1.2.1 hb.size, h1.2.2⟩, fun h3 => (hb.block g h1.2.1).trans (h2 h3)⟩
  k1 u hu := hS.w1 (hS.s1 (h.k1 u hu) fun k hk => hb.block k hk.2.1) fun k hk => ⟨hk.1, Nat.lt_of_lt_of_le hk.2.1 hb.size, hk.2.2⟩
  k2 u hu := hS.w2 (hS.s2 (h.k2 u hu) fun k hk => hb.block k hk.1.2.1) fun k hk => ⟨⟨hk.1.1, Nat.lt_of_lt_of_le hk.1.2.1 hb.size, hk.1.2.2⟩, hk.2⟩
  rr u hu := by
    obtain ⟨v, e, e1, h1⟩ := h.rr u hu
    exact ⟨v, e, e1, hS.weak (hS.keep h1 fun k hk => hb.block k hk.1.2.1) fun k hk => ⟨⟨hk.1.1, Nat.lt_of_lt_of_le hk.1.2.1 hb.size, hk.1.2.2⟩, hk.2⟩⟩
  mv := h.mv
  mx := h.mx
  my := h.my
  zz u hu := by
    obtain ⟨b, e, h1, h2, h3⟩ := h.zz u hu
    exact ⟨b, e, h1, Nat.lt_of_lt_of_le h2 hb.size, fun hs => (hb.block b h2).trans (h3 hs)⟩
  sc := h.sc
  dk := h.dk
  d1 := h.d1
  ss u hu := by
    obtain ⟨b, v, e1, e2, h1⟩ := h.ss u hu
    exact ⟨b, v, e1, e2, hS.bx h1 hb⟩
theorem CbS.new (h : CbS hk C0 E0 R Z Bx K1 K2 W o0 o1 o2 c m x y z s w) {w' : World} {g : Nat} (hg : w.heap.size ≤ g ∧ g < w'.heap.size) : newB W z w' g :=
  ⟨Nat.le_trans h.be.size hg.1, hg.2, fun b hz => by
    obtain ⟨b', e', _, h4, _⟩ := h.zz _ hz
    injection e' with e'
    injection e' with e'
    injection e' with e'
    omega⟩
theorem CbS.newOwn (h : CbS hk C0 E0 R Z Bx K1 K2 W o0 o1 o2 c m x y z s w) {w' : World} {g : Nat} (hg : w.heap.size ≤ g ∧ g < w'.heap.size) : newC W o0 z w' g :=
  ⟨h.new hg, fun b n' m' e => by
    obtain ⟨g', e', h1, _⟩ := h.k0 _ e
    injection e' with e'
    injection e' with e'
    injection e' with e'
    have := h1.2.1
    omega⟩
theorem CbS.key (hS : Stays R Bx K1 K2) (h : CbS hk C0 E0 R Z Bx K1 K2 W o0 none o2 c m x y z s w) (hh : hk = false) {u : Value} (hb : Below w.heap.size w w') (hu : K1 (fun g => w.heap.size ≤ g ∧ g < w'.heap.size) w' u) : CbS hk C0 E0 R Z Bx K1 K2 W o0 (some u) o2 c m x y z s w' :=
  { h.more hS hb with
    k0 := fun u' e => by
      obtain ⟨g, e1, h1, _⟩ := (h.more hS hb).k0 u' e
      exact ⟨g, e1, h1, fun e => by cases e⟩
    dk := fun h1 _ => by rw [hh] at h1; cases h1
    d1 := fun h1 _ => by rw [hh] at h1; cases h1
    k1 := fun u' e => by injection e with e; exact e ▸ hS.w1 hu fun g hg => h.new hg }
theorem CbS.vers (hS : Stays R Bx K1 K2) (h : CbS hk C0 E0 R Z Bx K1 K2 W o0 o1 none c m x y z s w) {u : Value} (hb : Below w.heap.size w w') (hu : K2 (fun g => w.heap.size ≤ g ∧ g < w'.heap.size) w' u) : CbS hk C0 E0 R Z Bx K1 K2 W o0 o1 (some u) c m x y z s w' :=
  { h.more hS hb with k2 := fun u' e => by injection e with e; exact e ▸ hS.w2 hu fun g hg => h.newOwn hg }
theorem CbS.call (hS : Stays R Bx K1 K2) (h : CbS hk C0 E0 R Z Bx K1 K2 W o0 o1 o2 none m x y z s w) (hd : hk = true → o1 ≠ none) {v e : Value} (hb : Below w.heap.size w w') (hr : R (fun g => w.heap.size ≤ g ∧ g < w'.heap.size) w' v e) : CbS hk C0 E0 R Z Bx K1 K2 W o0 o1 o2 (some (.tuple #[v, e])) m x y z s w' := by
  have h2 := h.more hS hb
  have hm : m = none := by
    cases hm : m with
    | none => rfl
    | some u => have := h.mv u hm; cases this
  exact { h2 with
    rr := fun u hu => by
      injection hu with hu
      exact ⟨v, e, hu.symm, hS.weak hr fun g hg => h.newOwn hg⟩
    mv := fun u hu => by rw [hm] at hu; cases hu
    sc := fun _ => by simp
    dk := fun h1 _ => ⟨h.d1 h1 (hd h1), hd h1⟩ }
theorem CbS.move {u : Value} (h : CbS hk C0 E0 R Z Bx K1 K2 W o0 o1 o2 (some u) none x y z s w) : CbS hk C0 E0 R Z Bx K1 K2 W o0 o1 o2 (some u) (some u) x y z s w :=
  { h with
    mv := fun _ e => e
    mx := fun u' hu => by obtain ⟨e, h2⟩ := h.mx u' hu; cases h2
    my := fun u' hu => by obtain ⟨e, h2⟩ := h.my u' hu; cases h2 }
theorem CbS.tup {u : Value} (h : CbS hk C0 E0 R Z Bx K1 K2 W o0 o1 o2 c (some u) x y z s w) : ∃ v e, u = .tuple #[v, e] := by
  obtain ⟨v, e, h1, _⟩ := h.rr u (h.mv u rfl)
  exact ⟨v, e, h1⟩
theorem CbS.ex0 {v e : Value} (h : CbS hk C0 E0 R Z Bx K1 K2 W o0 o1 o2 c (some (.tuple #[v, e])) none y z s w) : CbS hk C0 E0 R Z Bx K1 K2 W o0 o1 o2 c (some (.tuple #[v, e])) (some v) y z s w :=
  { h with
    mx := fun u hu => by injection hu with hu; exact ⟨e, by rw [hu]⟩
    ss := fun u hu => by obtain ⟨b, v', _, e2, _⟩ := h.ss u hu; cases e2 }
theorem CbS.ex1 {v e : Value} (h : CbS hk C0 E0 R Z Bx K1 K2 W o0 o1 o2 c (some (.tuple #[v, e])) x none z s w) : CbS hk C0 E0 R Z Bx K1 K2 W o0 o1 o2 c (some (.tuple #[v, e])) x (some e) z s w :=
  { h with my := fun u hu => by injection hu with hu; exact ⟨v, by rw [hu]⟩ }
theorem CbS.alloc (hS : Stays R Bx K1 K2) (h : CbS hk C0 E0 R Z Bx K1 K2 W o0 o1 o2 c m x y none s w) (hb : Below w.heap.size w w') (hz : w'.heap[w.heap.size]? = some Z) : CbS hk C0 E0 R Z Bx K1 K2 W o0 o1 o2 c m x y (some (.pointer (some ⟨w.heap.size, 0, none⟩))) s w' := by
  have h2 := h.more hS hb
  have hn : ∀ k, newB W none w k → newB W (some (.pointer (some ⟨w.heap.size, 0, none⟩))) w' k := fun k hk => ⟨hk.1, Nat.lt_of_lt_of_le hk.2.1 hb.size, fun b e2 => by
    injection e2 with e2
    injection e2 with e2
    injection e2 with e2
    injection e2 with e2
    have := hk.2.1
    omega⟩
  have hn2 : ∀ k, newC W o0 none w k → newC W o0 (some (.pointer (some ⟨w.heap.size, 0, none⟩))) w' k := fun k hk => ⟨hn k hk.1, hk.2⟩
  exact { h2 with
    k0 := fun u hu => by
      obtain ⟨g, e, h1, h3⟩ := h.k0 u hu
      exact ⟨g, e, hn g h1, fun h4 => (hb.block g h1.2.1).trans (h3 h4)⟩
    k1 := fun u hu => hS.w1 (hS.s1 (h.k1 u hu) fun k hk => hb.block k hk.2.1) hn
    k2 := fun u hu => hS.w2 (hS.s2 (h.k2 u hu) fun k hk => hb.block k hk.1.2.1) hn2
    rr := fun u hu => by
      obtain ⟨v, e, e1, h1⟩ := h.rr u hu
      exact ⟨v, e, e1, hS.weak (hS.keep h1 fun k hk => hb.block k hk.1.2.1) hn2⟩
    zz := fun u hu => by
      injection hu with hu
      exact ⟨_, hu.symm, h.be.size, (Array.getElem?_eq_some_iff.1 hz).1, fun _ => hz⟩
    ss := fun u hu => by obtain ⟨b, v', e1, _, _⟩ := h.ss u hu; cases e1 }
theorem CbS.box {p : Value} (h : CbS hk C0 E0 R Z Bx K1 K2 W o0 o1 o2 c m x y (some p) none w) : ∃ b, p = .pointer (some ⟨b, 0, none⟩) ∧ w.heap[b]? = some Z := by
  obtain ⟨b, e, _, _, h3⟩ := h.zz p rfl
  exact ⟨b, e, h3 rfl⟩
theorem CbS.sto (hS : Stays R Bx K1 K2) {v u : Value} {b : Nat} (h : CbS hk C0 E0 R Z Bx K1 K2 W o0 o1 o2 c m (some v) y (some (.pointer (some ⟨b, 0, none⟩))) none w) (hg : w.grownBy w' (some b)) (hx : Bx w' b v) : CbS hk C0 E0 R Z Bx K1 K2 W o0 o1 o2 c m (some v) y (some (.pointer (some ⟨b, 0, none⟩))) (some u) w' := by
  obtain ⟨b', e, hb1, hb2, _⟩ := h.zz _ rfl
  injection e with e
  injection e with e
  injection e with e
  subst e
  obtain ⟨e0, hm⟩ := h.mx v rfl
  have hc := h.mv _ hm
  have hne : c ≠ none := by rw [hc]; simp
  have hbe : Below W.heap.size W w' := h.be.grown hg h.be.size fun k e => by injection e with e; omega
  have hkb : ∀ k, newB W (some (.pointer (some ⟨b, 0, none⟩))) w k → w'.heap[k]? = w.heap[k]? := fun k hk => hg.block k hk.2.1 fun e2 => by injection e2 with e2; exact hk.2.2 _ rfl e2
  have hsz : ∀ k, newB W (some (.pointer (some ⟨b, 0, none⟩))) w k → newB W (some (.pointer (some ⟨b, 0, none⟩))) w' k := fun k hk => ⟨hk.1, Nat.lt_of_lt_of_le hk.2.1 hg.size, hk.2.2⟩
  exact { h with
    be := hbe
    k0 := fun u hu => by
      obtain ⟨g, e, h1, h3⟩ := h.k0 u hu
      exact ⟨g, e, hsz g h1, fun h4 => (hkb g h1).trans (h3 h4)⟩
    k1 := fun u hu => hS.w1 (hS.s1 (h.k1 u hu) hkb) hsz
    k2 := fun u hu => hS.w2 (hS.s2 (h.k2 u hu) fun k hk => hkb k hk.1) fun k hk => ⟨hsz k hk.1, hk.2⟩
    rr := fun u hu => by
      obtain ⟨v, e, e1, h1⟩ := h.rr u hu
      exact ⟨v, e, e1, hS.weak (hS.keep h1 fun k hk => hkb k hk.1) fun k hk => ⟨hsz k hk.1, hk.2⟩⟩
    zz := fun u hu => by
      injection hu with hu
      exact ⟨b, hu.symm, hb1, Nat.lt_of_lt_of_le hb2 hg.size, fun e => by cases e⟩
    sc := fun _ => hne
    ss := fun _ _ => ⟨b, v, rfl, rfl, hx⟩ }
theorem CbS.done (hR : RdP R) {u1 u2 u3 u4 u5 : Value} (h : CbS hk C0 E0 R Z Bx K1 K2 W o0 o1 o2 (some u1) (some u2) (some u3) (some u4) (some u5) s w) (hs : s ≠ none) : ∃ b, u5 = .pointer (some ⟨b, 0, none⟩) ∧ u2 = .tuple #[u3, u4] ∧ u1 = .tuple #[u3, u4] ∧ W.heap.size ≤ b ∧ Bx w b u3 ∧ R (fun g => W.heap.size ≤ g ∧ g < w.heap.size ∧ g ≠ b) w u3 u4 ∧ Below W.heap.size W w := by
  obtain ⟨u, rfl⟩ := Option.ne_none_iff_exists'.1 hs
  obtain ⟨b, v, e1, e2, h1⟩ := h.ss u rfl
  obtain ⟨e, h2⟩ := h.mx u3 rfl
  obtain ⟨e', h3⟩ := h.my u4 rfl
  have h4 := h.mv _ h2
  injection e1 with e1
  injection e2 with e2
  injection h2 with h2
  injection h3 with h3
  subst e1 e2
  rw [h2] at h3
  injection h3 with h3
  injection h3 with h3
  injection h3 with e5 h3
  injection h3 with e6 _
  subst e5 e6 h2
  injection h4 with h4
  subst h4
  obtain ⟨v', e', e7, h5⟩ := h.rr _ rfl
  injection e7 with e7
  injection e7 with e7
  injection e7 with e8 e7
  injection e7 with e9 _
  subst e8 e9
  obtain ⟨b', e, hb1, _, _⟩ := h.zz _ rfl
  injection e with e
  injection e with e
  injection e with e
  subst e
  exact ⟨b, rfl, rfl, rfl, hb1, h1, hR.weak h5 fun k hk => ⟨hk.1.1, hk.1.2.1, hk.1.2.2 _ rfl⟩, h.be⟩
def CbL (C0 : Array Value) (E0 : TypeId) (R : (Nat → Prop) → World → Value → Value → Prop) (Z : Obj) (Bx : World → Nat → Value → Prop) (K1 K2 : (Nat → Prop) → World → Value → Prop) (W : World) : List (Option Value) → World → Prop
  | [c, m, x, y, z, s], w => CbS false C0 E0 R Z Bx K1 K2 W none none none c m x y z s w
  | [o0, o1, o2, c, m, x, y, z, s], w => CbS true C0 E0 R Z Bx K1 K2 W o0 o1 o2 c m x y z s w
  | _, _ => False
def CbK (C0 : Array Value) (E0 : TypeId) (R : (Nat → Prop) → World → Value → Value → Prop) (Z : Obj) (Bx : World → Nat → Value → Prop) (K1 K2 : (Nat → Prop) → World → Value → Prop) (W : World) : List (Option Value) → World → Prop
  | [o1, c, m, x, y, z, s], w => CbS false C0 E0 R Z Bx K1 K2 W none o1 none c m x y z s w
  | [o1, o2, c, m, x, y, z, s], w => CbS false C0 E0 R Z Bx K1 K2 W none o1 o2 c m x y z s w
  | _, _ => False
theorem CbK.below : ∀ {l : List (Option Value)} {w : World}, CbK C0 E0 R Z Bx K1 K2 W l w → Below W.heap.size W w
  | [_, _, _, _, _, _, _], _, h => CbS.be h
  | [_, _, _, _, _, _, _, _], _, h => CbS.be h
theorem CbK.more (hS : Stays R Bx K1 K2) : ∀ (l : List (Option Value)) (w w' : World), CbK C0 E0 R Z Bx K1 K2 W l w → Below w.heap.size w w' → CbK C0 E0 R Z Bx K1 K2 W l w'
  | [_, _, _, _, _, _, _], _, _, h, hb => CbS.more hS h hb
  | [_, _, _, _, _, _, _, _], _, _, h, hb => CbS.more hS h hb
end
end Go.Proofs.YtccoklhmbikfmaaDoor
namespace Go.Proofs.YtccoklhmbikfmaaDoor
open Go.RowKit
def LsR (r : List Lk × List Lk × Nat) (S : Nat → Prop) (w : World) (v e : Value) : Prop := e = .int .i64 (r.2.2 : Nat) ∧ RdLs S w v r.1 r.2.1
def LsB (w : World) (b : Nat) (v : Value) : Prop := ∃ x y, v = .agg #[x, y] ∧ BoxN w b 24 [x, y]
def zLs : Obj := .cells [Value.slice none 0 0, .slice none 0 0].toArray 24 (0, 0)
def LkV (x : Lk) (S : Nat → Prop) (w : World) (v : Value) : Prop := RdLk S w v x
def LlV (l : List Lk) (S : Nat → Prop) (w : World) (v : Value) : Prop := ∃ a c, v = .slice a l.length c ∧ RdL Elt.lk S w (.slice a l.length c) l
def AnyVk (_ : Nat → Prop) (_ : World) (_ : Value) : Prop := True
theorem lsR (r : List Lk × List Lk × Nat) : RdP (LsR r) where
  keep := fun ⟨e, h⟩ hk => ⟨e, h.keep hk⟩
  weak := fun ⟨e, h⟩ hk => ⟨e, h.weak hk⟩
theorem lsStays (r : List Lk × List Lk × Nat) (x : Lk) : Stays (LsR r) LsB (LkV x) AnyVk where
  toRdP := lsR r
  bx := fun ⟨x, y, e, h⟩ hb => ⟨x, y, e, h.below hb h.lt⟩
  s1 := fun h hk => RdLk.keep h hk
  w1 := fun h hk => RdLk.weak h hk
  s2 := fun _ _ => trivial
  w2 := fun _ _ => trivial
theorem lsStays2 (r : List Lk × List Lk × Nat) (l : List Lk) (x : Lk) : Stays (LsR r) LsB (LlV l) (LkV x) where
  toRdP := lsR r
  bx := fun ⟨x, y, e, h⟩ hb => ⟨x, y, e, h.below hb h.lt⟩
  s1 := fun ⟨a, c, e, h⟩ hk => ⟨a, c, e, h.keep hk⟩
  w1 := fun ⟨a, c, e, h⟩ hk => ⟨a, c, e, h.weak hk⟩
  s2 := fun h hk => RdLk.keep h hk
  w2 := fun h hk => RdLk.weak h hk
section
variable {hk : Bool} {C0 : Array Value} {E0 : TypeId} {r : List Lk × List Lk × Nat} {Z : Obj} {K1 K2 : (Nat → Prop) → World → Value → Prop} {W w : World} {o0 o1 o2 c m x z s : Option Value}
theorem CbS.errL {Bx : World → Nat → Value → Prop} {u : Value} (h : CbS hk C0 E0 (LsR r) Z Bx K1 K2 W o0 o1 o2 c m x (some u) z s w) : u = .int .i64 (r.2.2 : Nat) := by
  obtain ⟨v, e1⟩ := h.my u rfl
  obtain ⟨v', e', e2, e3, _⟩ := h.rr _ (h.mv _ e1)
  injection e2 with e2
  injection e2 with e2
  injection e2 with _ e2
  injection e2 with e2 _
  rw [e2, e3]
theorem CbS.locks {u1 u2 u3 u4 u5 : Value} (h : CbS hk C0 E0 (LsR r) Z LsB K1 K2 W o0 o1 o2 (some u1) (some u2) (some u3) (some u4) (some u5) s w) (hs : s ≠ none) :
    ∃ (b : Nat) (a : Option Addr) (c : Nat) (m : Option Addr) (n : Nat), u5 = .pointer (some ⟨b, 0, none⟩) ∧ u2 = .tuple #[.agg #[.slice a r.1.length c, .slice m r.2.1.length n], .int .i64 (r.2.2 : Nat)] ∧ u1 = .tuple #[.agg #[.slice a r.1.length c, .slice m r.2.1.length n], .int .i64 (r.2.2 : Nat)] ∧ u3 = .agg #[.slice a r.1.length c, .slice m r.2.1.length n] ∧ u4 = .int .i64 (r.2.2 : Nat) ∧
      BoxN w b 24 [.slice a r.1.length c, .slice m r.2.1.length n] ∧ RdL Elt.lk (fun _ => True) w (.slice a r.1.length c) r.1 ∧ RdL Elt.lk (fun _ => True) w (.slice m r.2.1.length n) r.2.1 ∧ Below W.heap.size W w := by
  obtain ⟨b, e5, e2, e1, _, ⟨p, q, e3, hB⟩, ⟨e4, a, c, m, n, e6, h1, h2⟩, hb⟩ := CbS.done (lsR r) h hs
  rw [e3] at e6
  injection e6 with e6
  injection e6 with e6
  injection e6 with e7 e6
  injection e6 with e8 _
  subst e7 e8
  refine ⟨b, a, c, m, n, e5, ?_, ?_, e3, e4, hB, h1.weak fun _ _ => trivial, h2.weak fun _ _ => trivial, hb⟩
  · rw [e2, e3, e4]
  · rw [e1, e3, e4]
end
def E7 (r : List Lk × List Lk × Nat) (l : List Lk) (x : Lk) (W : World) : List (Option Value) → World → Prop
  | [k, v, p, c, m, x1, y, z, s], w => CbS false #[] 5 (LsR r) zLs LsB (LlV l) (LkV x) W none k p c m x1 y z s w ∧ ∀ u, v = some u → ∃ g, k = some g ∧ u = .agg #[g, .slice none 0 0]
  | _, _ => False
theorem E7.more {r : List Lk × List Lk × Nat} {l : List Lk} {x : Lk} {W : World} : ∀ (t : List (Option Value)) (w w' : World), E7 r l x W t w → Below w.heap.size w w' → E7 r l x W t w'
  | [_, _, _, _, _, _, _, _, _], _, _, ⟨h, h1⟩, hb => ⟨CbS.more (lsStays2 r l x) h hb, h1⟩
end Go.Proofs.YtccoklhmbikfmaaDoor
namespace Go.Proofs.YtccoklhmbikfmaaDoor
open Go.RowKit Go.Shelf
def k0 : Lk := ⟨0, false, pointS 0 [97], 5⟩
def k1 : Lk := ⟨1, false, pointS 0 [97], 3⟩
def k2 : Lk := ⟨2, false, pointS 0 [98], 5⟩
def k3 : Lk := ⟨1, false, pointS 0 [99], 3⟩
def k4 : Lk := ⟨0, false, pointS 0 [97], 3⟩
def u0 : Lk := ⟨0, true, ⟨0, [], [], false⟩, 2⟩
def u1 : Lk := ⟨0, true, ⟨0, [], [], false⟩, 3⟩
def v0 : Lk := ⟨0, true, ⟨0, [], [], false⟩, 4⟩
def zk : Lk := ⟨0, false, ⟨0, [], [], false⟩, 0⟩
theorem ask11_1 : askL [] [] k0 = ([k0], [], 0) := by decide
theorem ask11_2 : askL [k0] [] k1 = ([k0], [k1], 110) := by decide
theorem ask11_3 : askL [k0] [k1] k2 = ([k0, k2], [k1], 0) := by decide
theorem ask11_4 : askL [k0, k2] [k1] k3 = ([k0, k2], [k1], 1) := by decide
theorem ask11_5 : askL [k0, k2] [k1] k4 = ([k0, k2], [k1], 0) := by decide
theorem drop11 : dropC [k0, k2] [k1] 0 = ([k2, k1], [], [1]) := by decide
theorem rise11 : riseL [1] = [1] := by
  simp [riseL, Lib.compact, Lib.compactUpTo]
  exact ⟨0, by simp [Lib.keeps], rfl⟩
theorem ask11_7 : askL [] [] u0 = ([u0], [], 0) := by decide
theorem ask11_8 : askL [u0] [] u1 = ([v0], [], 0) := by decide
theorem ask11_6 : askL (List.replicate 41 zk) [] k4 = (List.replicate 41 zk, [], 1) := by decide
theorem blk11 {l : List Int} (h : (okLk [k0] [k1] ∧ ∃ i, ∃ h : i < [k1].length, [k1][i].owner = 1 ∧ (∀ y ∈ [k1].take i, y.owner ≠ 1) ∧ l = riseL (blkO [k1][i] ([k0] ++ [k1].take i))) ∨ (decide (okLk [k0] [k1]) && waitsL [k1] 1) = false ∧ l = []) : l = [0] := by
  rcases h with ⟨_, i, hi, _, _, rfl⟩ | ⟨h, _⟩
  · obtain rfl : i = 0 := by simpa using hi
    have e : blkO k1 [k0] = [0] := by decide
    show riseL (blkO k1 [k0]) = [0]
    rw [e]
    simp [riseL, Lib.compact, Lib.compactUpTo]
    exact ⟨0, by simp [Lib.keeps], rfl⟩
  · exact absurd h (by decide)
theorem made11 {α : Type} {E : Elt α} {S : Nat → Prop} {w : World} {x : α} {us : List Value} {b : Nat} {t : TypeId} (hx : E.R S w x us) (hrow : w.heap[b]? = some (.cells us.toArray t (0, 0))) (hS : S b) : RdL E S w (.slice (some ⟨b, 0, none⟩) 1 1) [x] :=
  ⟨_, 1, rfl, Nat.le_refl _, by unfold maxLen; omega, .inr ⟨b, 0, rfl, hS, fun r h => by
    obtain rfl : r = 0 := by simpa using h
    exact ⟨us, hx, fun j u hj => by simp [World.cell?, hrow, hj]⟩⟩⟩
theorem sm41 : smK (List.replicate 41 zk) := ⟨by decide, fun x hx => by obtain rfl := List.eq_of_mem_replicate hx; decide⟩
theorem wp_mk41 {o : Oper} {a : Act} {K : Act → World → Prop} {Q : Exit → Act → World → Prop} {w : World} {x y : Operand} (ho : o.op = .makeSlice 22 x y) (hx : a.eval x = .int .i64 41) (hy : a.eval y = .int .i64 41)
    (h : ∀ w', Below w.heap.size w w' → RdL Elt.lk (fun g => w.heap.size ≤ g ∧ g < w'.heap.size) w' (.slice (some ⟨w.heap.size, 0, none⟩) 41 41) (List.replicate 41 zk) → K (a.put o.dst (.slice (some ⟨w.heap.size, 0, none⟩) 41 41)) w') : o.wp Tryd.prog a w K Q := by
  obtain ⟨i, hi, he⟩ := Option.map_eq_some_iff.1 (show (Tryd.prog.info? 29).map (fun i => (i.zero, i.bytes, i.size)) = some (some (.agg #[.int .i64 0, .bool false, .int .i64 0, .slice none 0 0, .slice none 0 0, .bool false, .int .i64 0]), 88, 7) by kernel_rfl)
  injection he with h1 he
  injection he with h2 h3
  have hr := run_make (P := Tryd.prog) w 22 29 i _ (by kernel_rfl) hi h1 .i64 .i64 41 41 (by decide) (by decide) (by rw [h2]; decide) (by decide)
  rw [h3] at hr
  unfold Oper.wp execOp
  simp only [ho, hx, hy, Sem.run_bind, Sem.run_pure, Result.andThen_ok, hr]
  refine h _ ((Below.refl _ _).alloc (Nat.le_refl _) _) ⟨_, 41, rfl, by simp, by unfold maxLen; omega, .inr ⟨_, 0, rfl, ⟨Nat.le_refl _, by simp [World.alloc, -World.alloc_eq]⟩, fun r hl => ⟨lkC zk (.slice none 0 0) (.slice none 0 0), ?_, fun j u hj => ?_⟩⟩⟩
  · rw [List.getElem_replicate]
    exact ⟨_, _, rfl, RdS.nil _ _, RdS.nil _ _, by unfold Lk64 W64 zk; decide⟩
  · have hr41 : r < 41 := by simpa using hl
    have hj7 : j < 7 := by have := (List.getElem?_eq_some_iff.1 hj).1; simpa [lkC] using this
    have hm : (r * 7 + j) % 7 = j := by omega
    have hn : r * 7 + j < 287 := by omega
    have e7 : Elt.lk.size = 7 := rfl
    rw [e7]
    simp only [World.cell?, World.alloc, Array.getElem?_push_size]
    rw [← hj]
    simp only [madeCells, Value.cells, Nat.zero_add, Array.getElem?_map, Array.getElem?_range]
    rcases j with _ | _ | _ | _ | _ | _ | _ | j
    all_goals first | omega | (simp [hn, hm, lkC, zk]; done) | (simp [lkC, zk]; omega)
set_option maxRecDepth 100000 in
set_option maxHeartbeats 32000000 in
theorem awake11_any (w : World) (hT : TabAt w) : Calls Tryd.prog 6 #[] w fun e w' => e = .returned (.bool true) ∧ Below w.heap.size w w' := by
  have eOne : ∀ args w, (callFunc 21 args).run Tryd.prog w = .ok (.enter 21 args) w := enters_of Tryd.func21 (by kernel_rfl) rfl
  have eAsk : ∀ args w, (callFunc 19 args).run Tryd.prog w = .ok (.enter 19 args) w := enters_of Tryd.func19 (by kernel_rfl) rfl
  go_enter Tryd.func6, Tryd.ntmps6
  try dsimp only [List.append]
  have q := Below.refl w.heap.size w
  have tb := hT
  go_wp2_with fail
  refine (one_any w (o := 0) (m := 5) (b := 97) (by unfold W64; decide) (by unfold W64; decide)).mono ?_
  rintro e w1 ⟨v, rfl, hv, hb⟩
  replace tb := tb.below hb
  replace q := q.trans (hb.mono q.size)
  clear hb
  have hcl := lAsk_any w1 tb (H := []) (Q := []) (x := k0) (S := fun _ => True) ⟨none, 0, none, 0, rfl, RdL.nil _ _ _, RdL.nil _ _ _⟩ (by unfold smK; decide) (by unfold smK; decide) (by decide) (by decide) hv (by decide) (by decide)
  rw [ask11_1] at hcl
  go_wp2_with fail
  refine hcl.mono ?_
  rintro e w2 ⟨aA, cA, mA, nA, rfl, ⟨_, _, _, _, er, rhA, rqA⟩, hb⟩
  injection er with er
  injection er with er
  injection er with er1 er
  injection er with er2 _
  rw [← er1] at rhA
  rw [← er2] at rqA
  clear hcl hv er1 er2
  replace tb := tb.below hb
  replace q := q.trans (hb.mono q.size)
  clear hb
  replace rhA : RdL Elt.lk (fun _ => True) _ (.slice aA 1 cA) [k0] := rhA.weak fun _ _ => trivial
  replace rqA : RdL Elt.lk (fun _ => True) _ (.slice mA 0 nA) [] := rqA.weak fun _ _ => trivial
  go_upto_region 2 with (first | (refine wpList_boxNew (vs := [.slice none 0 0, .slice none 0 0]) (by kernel_rfl) rfl rfl ?_; intro wa hba hBa) | (refine wpList_boxStore (us := [.slice aA 1 cA, .slice mA 0 nA]) (by kernel_rfl) rfl rfl rfl rfl rfl rfl hBa rfl ?_; intro w3 hgw xA) | fail)
  try go_simp
  have hbw := hba.grown hgw hba.size fun k hk => by injection hk with hk; omega
  replace rhA := rhA.below hbw
  replace rqA := rqA.below hbw
  replace tb := tb.below hbw
  replace q := q.trans (hbw.mono q.size)
  clear hbw hgw hba hBa
  obtain ⟨bA, hbA⟩ : ∃ bA, bA = w2.heap.size := ⟨_, rfl⟩
  rw [← hbA] at xA
  rw [← hbA]
  clear hbA
  replace xA : BoxN _ _ _ [.slice aA 1 cA, .slice mA 0 nA] := xA
  refine wp_region_setl (K := fun _ _ => True) (by kernel_rfl) (by kernel_rfl) [1, 2, 3, 4, 5, 6, 7] (by kernel_rfl) [lEq (.agg #[.slice aA 1 cA, .slice mA 0 nA]), lAny, lAny, lAny, lAny, lAny, lAny, lAny, lEq (.int .i64 ((([k0], [k1], 110)).2.2 : Nat))]
    (CbK #[] 5 (LsR ([k0], [k1], 110)) zLs LsB (LkV k1) AnyVk _) (CbK.more (lsStays ([k0], [k1], 110) k1)) (CbS.start _)
    ⟨?o0, ?o1, ?o2, ?o3, ?o4, ?o5, ?o6, ?o7, ?o8, trivial⟩ ?fin
  case o0 =>
    refine StOp.free rfl (by kernel_rfl) (fun A va D w' hF hT hN hE hd hu hg => ?_)
    have e1 : A.eval (.tmp 1) = .pointer (some ⟨bA, 0, none⟩) := hF 1 rfl
    have hBE := CbK.below hE
    exact wp_load2 lsS rfl e1 ((xA.below hBE xA.lt).cell (i := 0) rfl) ((xA.below hBE xA.lt).cell (i := 1) rfl) ⟨_, rfl, rfl, Below.refl _ _⟩
  case o1 =>
    refine StOp.set rfl (by kernel_rfl) (fun A va D w' hF hT hN hE hd hu hg => ?_)
    have hE2 := hE
    simp only [told, List.map_cons, List.map_nil, hN, Bool.false_eq_true, if_false] at hE2
    refine wp_callFn rfl eOne (args := #[.int .i64 1, .string ⟨#[97]⟩, .int .i64 3]) (by simp only [List.map_toArray, List.map_cons, List.map_nil]; rfl) ((one_any w' (o := 1) (m := 3) (b := 97) (by unfold W64; decide) (by unfold W64; decide)).mono ?_)
    rintro e w2 ⟨v, rfl, hv, hb2⟩
    have h5 := CbS.key (lsStays ([k0], [k1], 110) k1) hE2 rfl hb2 (u := v) hv
    exact ⟨_, rfl, _, rfl, by simpa [CbK, told, don, upd] using h5, trivial⟩
  case o2 =>
    refine StOp.set rfl (by kernel_rfl) (fun A va D w' hF hT hN hE hd hu hg => ?_)
    have e1 : A.eval (.tmp 27) = .agg #[.slice aA 1 cA, .slice mA 0 nA] := (hT 27 0 (by simp) rfl).trans (hg ⟨0, .data⟩ (by simp) rfl rfl)
    have x2 : A.eval (.tmp 28) = va 1 := hT 28 1 (by simp) rfl
    have hE2 := hE
    have d1 : D 1 = true := hd ⟨1, .data⟩ (by simp) rfl
    simp only [told, List.map_cons, List.map_nil, hN, d1, Bool.false_eq_true, if_false, if_true] at hE2
    have hBE := hE2.be
    have hcl := lAsk_any w' (tb.below hBE) (H := [k0]) (Q := []) (x := k1) ⟨aA, cA, mA, nA, rfl, rhA.below hBE, rqA.below hBE⟩ (by unfold smK; decide) (by unfold smK; decide) (by decide) (by decide) (hE2.k1 _ rfl) (by decide) (by decide)
    rw [ask11_2] at hcl
    refine wp_callFn rfl eAsk (args := #[.agg #[.slice aA 1 cA, .slice mA 0 nA], va 1]) (by simp only [List.map_toArray, List.map_cons, List.map_nil, e1, x2]) (hcl.mono ?_)
    rintro e w2 ⟨a, c, a2, c2, rfl, hrd, hb2⟩
    have h5 := CbS.call (lsStays ([k0], [k1], 110) k1) hE2 (by simp) hb2 (v := .agg #[.slice a _ c, .slice a2 _ c2]) (e := .int .i64 _) ⟨rfl, hrd⟩
    exact ⟨_, rfl, _, rfl, by simpa [CbK, told, don, upd, d1] using h5, trivial⟩
  case o3 =>
    refine StOp.set rfl (by kernel_rfl) (fun A va D w' hF hT hN hE hd hu hg => ?_)
    have x1 : A.eval (.tmp 29) = va 2 := hT 29 2 (by simp) rfl
    have hE2 := hE
    have d2 : D 2 = true := hd ⟨2, .data⟩ (by simp) rfl
    simp only [told, List.map_cons, List.map_nil, hN, d2, Bool.false_eq_true, if_false, if_true] at hE2
    have h5 := CbS.move hE2
    exact BigFrame.wp_move _ rfl ⟨_, rfl, by rw [x1]; simpa [CbK, told, don, upd, d2] using h5, trivial⟩
  case o4 =>
    refine StOp.set rfl (by kernel_rfl) (fun A va D w' hF hT hN hE hd hu hg => ?_)
    have x1 : A.eval (.tmp 26) = va 3 := hT 26 3 (by simp) rfl
    have hE2 := hE
    have d3 : D 3 = true := hd ⟨3, .data⟩ (by simp) rfl
    simp only [told, List.map_cons, List.map_nil, hN, d3, Bool.false_eq_true, if_false, if_true] at hE2
    obtain ⟨v, e, em⟩ := CbS.tup hE2
    rw [em] at hE2
    have h5 := CbS.ex0 hE2
    exact wp_ex rfl (x1.trans em) rfl ⟨_, rfl, by simpa [CbK, told, don, upd, d3, em] using h5, trivial⟩
  case o5 =>
    refine StOp.set rfl (by kernel_rfl) (fun A va D w' hF hT hN hE hd hu hg => ?_)
    have x1 : A.eval (.tmp 26) = va 3 := hT 26 3 (by simp) rfl
    have hE2 := hE
    have d3 : D 3 = true := hd ⟨3, .data⟩ (by simp) rfl
    simp only [told, List.map_cons, List.map_nil, hN, d3, Bool.false_eq_true, if_false, if_true] at hE2
    obtain ⟨v, e, em⟩ := CbS.tup hE2
    rw [em] at hE2
    have h5 := CbS.ex1 hE2
    exact wp_ex rfl (x1.trans em) rfl ⟨_, rfl, by simpa [CbK, told, don, upd, d3, em] using h5, trivial⟩
  case o6 =>
    refine StOp.set rfl (by kernel_rfl) (fun A va D w' hF hT hN hE hd hu hg => ?_)
    have hE2 := hE
    simp only [told, List.map_cons, List.map_nil, hN, Bool.false_eq_true, if_false] at hE2
    refine wp_boxNew (vs := [.slice none 0 0, .slice none 0 0]) (by kernel_rfl) rfl (fun w2 hb2 hz => ⟨_, rfl, ?_, trivial⟩)
    have h5 := CbS.alloc (lsStays ([k0], [k1], 110) k1) hE2 hb2 hz
    simpa [CbK, told, don, upd] using h5
  case o7 =>
    refine StOp.set rfl (by kernel_rfl) (fun A va D w' hF hT hN hE hd hu hg => ?_)
    have x1 : A.eval (.tmp 3) = va 6 := hT 3 6 (by simp) rfl
    have x2 : A.eval (.tmp 30) = va 4 := hT 30 4 (by simp) rfl
    have hE2 := hE
    have d6 : D 6 = true := hd ⟨6, .data⟩ (by simp) rfl
    have d4 : D 4 = true := hd ⟨4, .data⟩ (by simp) rfl
    simp only [told, List.map_cons, List.map_nil, hN, d6, d4, Bool.false_eq_true, if_false, if_true] at hE2
    obtain ⟨b9, eb, hb0⟩ := CbS.box hE2
    obtain ⟨e, hm⟩ := hE2.mx _ rfl
    obtain ⟨v, e2, ec, _, hrd⟩ := hE2.rr _ (hE2.mv _ hm)
    obtain ⟨A1, B1, A2, B2, ev, _⟩ := id hrd
    injection ec with ec
    injection ec with ec
    injection ec with ec _
    rw [← ec] at ev
    refine wp_boxStore (vs := [.slice none 0 0, .slice none 0 0]) (us := [.slice A1 _ B1, .slice A2 _ B2]) (by kernel_rfl) rfl (x1.trans eb) (x2.trans ev) rfl hb0 rfl (fun w2 hg2 ht2 => ⟨_, rfl, ?_, trivial⟩)
    rw [eb] at hE2
    have h5 := CbS.sto (u := undef) (lsStays ([k0], [k1], 110) k1) hE2 hg2 ⟨_, _, ev, ht2⟩
    simpa [CbK, told, don, upd, d6, d4, eb] using h5
  case o8 =>
    refine StOp.free rfl (by kernel_rfl) (fun A va D w' hF hT hN hE hd hu hg => ?_)
    have x1 : A.eval (.tmp 31) = va 5 := hT 31 5 (by simp) rfl
    have hE2 := hE
    have d5 : D 5 = true := hd ⟨5, .data⟩ (by simp) rfl
    simp only [told, List.map_cons, List.map_nil, d5, if_true] at hE2
    have ee := CbS.errL hE2
    exact BigFrame.wp_assign _ rfl ⟨_, rfl, x1.trans ee, Below.refl _ _⟩
  case fin =>
  intro vs1 W1 hE hG
  obtain ⟨bB, aB, cB, mB, nB, ez, em, ec, ev, ee, xB, rhB, rqB, hb⟩ := CbS.locks hE (by simp)
  have g0 : vs1 0 = .agg #[.slice aA 1 cA, .slice mA 0 nA] := hG 0 (by decide) rfl
  have g8 : vs1 8 = .int .i64 ((([k0], [k1], 110)).2.2 : Nat) := hG 8 (by decide) rfl
  simp only [putAll, g0, g8, ec, em, ev, ee, ez]
  clear hE hG g0 g8 ec em ev ee ez
  replace rhA := rhA.below hb
  replace rqA := rqA.below hb
  replace xA := xA.below hb xA.lt
  replace tb := tb.below hb
  replace q := q.trans (hb.mono q.size)
  clear hb
  replace xB : BoxN _ _ _ [.slice aB 1 cB, .slice mB 1 nB] := xB
  replace rhB : RdL Elt.lk (fun _ => True) _ (.slice aB 1 cB) [k0] := rhB.weak fun _ _ => trivial
  replace rqB : RdL Elt.lk (fun _ => True) _ (.slice mB 1 nB) [k1] := rqB.weak fun _ _ => trivial
  obtain ⟨w2, hwe⟩ : ∃ W, W = W1 := ⟨_, rfl⟩
  rw [← hwe] at rhA
  rw [← hwe] at rqA
  rw [← hwe] at xA
  rw [← hwe] at xB
  rw [← hwe] at rhB
  rw [← hwe] at rqB
  rw [← hwe] at tb
  rw [← hwe] at q
  rw [← hwe]
  clear hwe
  go_simp
  go_upto_region 3 with (fail)
  refine wp_region_setl (K := fun _ _ => True) (by kernel_rfl) (by kernel_rfl) [1, 2, 3, 4, 5, 6, 7] (by kernel_rfl) [lEq (.agg #[.slice aB 1 cB, .slice mB 1 nB]), lAny, lAny, lAny, lAny, lAny, lAny, lAny, lEq (.int .i64 ((([k0, k2], [k1], 0)).2.2 : Nat))]
    (CbK #[] 5 (LsR ([k0, k2], [k1], 0)) zLs LsB (LkV k2) AnyVk _) (CbK.more (lsStays ([k0, k2], [k1], 0) k2)) (CbS.start _)
    ⟨?o0, ?o1, ?o2, ?o3, ?o4, ?o5, ?o6, ?o7, ?o8, trivial⟩ ?fin
  case o0 =>
    refine StOp.free rfl (by kernel_rfl) (fun A va D w' hF hT hN hE hd hu hg => ?_)
    have e1 : A.eval (.tmp 3) = .pointer (some ⟨bB, 0, none⟩) := hF 3 rfl
    have hBE := CbK.below hE
    exact wp_load2 lsS rfl e1 ((xB.below hBE xB.lt).cell (i := 0) rfl) ((xB.below hBE xB.lt).cell (i := 1) rfl) ⟨_, rfl, rfl, Below.refl _ _⟩
  case o1 =>
    refine StOp.set rfl (by kernel_rfl) (fun A va D w' hF hT hN hE hd hu hg => ?_)
    have hE2 := hE
    simp only [told, List.map_cons, List.map_nil, hN, Bool.false_eq_true, if_false] at hE2
    refine wp_callFn rfl eOne (args := #[.int .i64 2, .string ⟨#[98]⟩, .int .i64 5]) (by simp only [List.map_toArray, List.map_cons, List.map_nil]; rfl) ((one_any w' (o := 2) (m := 5) (b := 98) (by unfold W64; decide) (by unfold W64; decide)).mono ?_)
    rintro e w2 ⟨v, rfl, hv, hb2⟩
    have h5 := CbS.key (lsStays ([k0, k2], [k1], 0) k2) hE2 rfl hb2 (u := v) hv
    exact ⟨_, rfl, _, rfl, by simpa [CbK, told, don, upd] using h5, trivial⟩
  case o2 =>
    refine StOp.set rfl (by kernel_rfl) (fun A va D w' hF hT hN hE hd hu hg => ?_)
    have e1 : A.eval (.tmp 33) = .agg #[.slice aB 1 cB, .slice mB 1 nB] := (hT 33 0 (by simp) rfl).trans (hg ⟨0, .data⟩ (by simp) rfl rfl)
    have x2 : A.eval (.tmp 34) = va 1 := hT 34 1 (by simp) rfl
    have hE2 := hE
    have d1 : D 1 = true := hd ⟨1, .data⟩ (by simp) rfl
    simp only [told, List.map_cons, List.map_nil, hN, d1, Bool.false_eq_true, if_false, if_true] at hE2
    have hBE := hE2.be
    have hcl := lAsk_any w' (tb.below hBE) (H := [k0]) (Q := [k1]) (x := k2) ⟨aB, cB, mB, nB, rfl, rhB.below hBE, rqB.below hBE⟩ (by unfold smK; decide) (by unfold smK; decide) (by decide) (by decide) (hE2.k1 _ rfl) (by decide) (by decide)
    rw [ask11_3] at hcl
    refine wp_callFn rfl eAsk (args := #[.agg #[.slice aB 1 cB, .slice mB 1 nB], va 1]) (by simp only [List.map_toArray, List.map_cons, List.map_nil, e1, x2]) (hcl.mono ?_)
    rintro e w2 ⟨a, c, a2, c2, rfl, hrd, hb2⟩
    have h5 := CbS.call (lsStays ([k0, k2], [k1], 0) k2) hE2 (by simp) hb2 (v := .agg #[.slice a _ c, .slice a2 _ c2]) (e := .int .i64 _) ⟨rfl, hrd⟩
    exact ⟨_, rfl, _, rfl, by simpa [CbK, told, don, upd, d1] using h5, trivial⟩
  case o3 =>
    refine StOp.set rfl (by kernel_rfl) (fun A va D w' hF hT hN hE hd hu hg => ?_)
    have x1 : A.eval (.tmp 35) = va 2 := hT 35 2 (by simp) rfl
    have hE2 := hE
    have d2 : D 2 = true := hd ⟨2, .data⟩ (by simp) rfl
    simp only [told, List.map_cons, List.map_nil, hN, d2, Bool.false_eq_true, if_false, if_true] at hE2
    have h5 := CbS.move hE2
    exact BigFrame.wp_move _ rfl ⟨_, rfl, by rw [x1]; simpa [CbK, told, don, upd, d2] using h5, trivial⟩
  case o4 =>
    refine StOp.set rfl (by kernel_rfl) (fun A va D w' hF hT hN hE hd hu hg => ?_)
    have x1 : A.eval (.tmp 32) = va 3 := hT 32 3 (by simp) rfl
    have hE2 := hE
    have d3 : D 3 = true := hd ⟨3, .data⟩ (by simp) rfl
    simp only [told, List.map_cons, List.map_nil, hN, d3, Bool.false_eq_true, if_false, if_true] at hE2
    obtain ⟨v, e, em⟩ := CbS.tup hE2
    rw [em] at hE2
    have h5 := CbS.ex0 hE2
    exact wp_ex rfl (x1.trans em) rfl ⟨_, rfl, by simpa [CbK, told, don, upd, d3, em] using h5, trivial⟩
  case o5 =>
    refine StOp.set rfl (by kernel_rfl) (fun A va D w' hF hT hN hE hd hu hg => ?_)
    have x1 : A.eval (.tmp 32) = va 3 := hT 32 3 (by simp) rfl
    have hE2 := hE
    have d3 : D 3 = true := hd ⟨3, .data⟩ (by simp) rfl
    simp only [told, List.map_cons, List.map_nil, hN, d3, Bool.false_eq_true, if_false, if_true] at hE2
    obtain ⟨v, e, em⟩ := CbS.tup hE2
    rw [em] at hE2
    have h5 := CbS.ex1 hE2
    exact wp_ex rfl (x1.trans em) rfl ⟨_, rfl, by simpa [CbK, told, don, upd, d3, em] using h5, trivial⟩
  case o6 =>
    refine StOp.set rfl (by kernel_rfl) (fun A va D w' hF hT hN hE hd hu hg => ?_)
    have hE2 := hE
    simp only [told, List.map_cons, List.map_nil, hN, Bool.false_eq_true, if_false] at hE2
    refine wp_boxNew (vs := [.slice none 0 0, .slice none 0 0]) (by kernel_rfl) rfl (fun w2 hb2 hz => ⟨_, rfl, ?_, trivial⟩)
    have h5 := CbS.alloc (lsStays ([k0, k2], [k1], 0) k2) hE2 hb2 hz
    simpa [CbK, told, don, upd] using h5
  case o7 =>
    refine StOp.set rfl (by kernel_rfl) (fun A va D w' hF hT hN hE hd hu hg => ?_)
    have x1 : A.eval (.tmp 5) = va 6 := hT 5 6 (by simp) rfl
    have x2 : A.eval (.tmp 36) = va 4 := hT 36 4 (by simp) rfl
    have hE2 := hE
    have d6 : D 6 = true := hd ⟨6, .data⟩ (by simp) rfl
    have d4 : D 4 = true := hd ⟨4, .data⟩ (by simp) rfl
    simp only [told, List.map_cons, List.map_nil, hN, d6, d4, Bool.false_eq_true, if_false, if_true] at hE2
    obtain ⟨b9, eb, hb0⟩ := CbS.box hE2
    obtain ⟨e, hm⟩ := hE2.mx _ rfl
    obtain ⟨v, e2, ec, _, hrd⟩ := hE2.rr _ (hE2.mv _ hm)
    obtain ⟨A1, B1, A2, B2, ev, _⟩ := id hrd
    injection ec with ec
    injection ec with ec
    injection ec with ec _
    rw [← ec] at ev
    refine wp_boxStore (vs := [.slice none 0 0, .slice none 0 0]) (us := [.slice A1 _ B1, .slice A2 _ B2]) (by kernel_rfl) rfl (x1.trans eb) (x2.trans ev) rfl hb0 rfl (fun w2 hg2 ht2 => ⟨_, rfl, ?_, trivial⟩)
    rw [eb] at hE2
    have h5 := CbS.sto (u := undef) (lsStays ([k0, k2], [k1], 0) k2) hE2 hg2 ⟨_, _, ev, ht2⟩
    simpa [CbK, told, don, upd, d6, d4, eb] using h5
  case o8 =>
    refine StOp.free rfl (by kernel_rfl) (fun A va D w' hF hT hN hE hd hu hg => ?_)
    have x1 : A.eval (.tmp 37) = va 5 := hT 37 5 (by simp) rfl
    have hE2 := hE
    have d5 : D 5 = true := hd ⟨5, .data⟩ (by simp) rfl
    simp only [told, List.map_cons, List.map_nil, d5, if_true] at hE2
    have ee := CbS.errL hE2
    exact BigFrame.wp_assign _ rfl ⟨_, rfl, x1.trans ee, Below.refl _ _⟩
  case fin =>
  intro vs1 W1 hE hG
  obtain ⟨bC, aC, cC, mC, nC, ez, em, ec, ev, ee, xC, rhC, rqC, hb⟩ := CbS.locks hE (by simp)
  have g0 : vs1 0 = .agg #[.slice aB 1 cB, .slice mB 1 nB] := hG 0 (by decide) rfl
  have g8 : vs1 8 = .int .i64 ((([k0, k2], [k1], 0)).2.2 : Nat) := hG 8 (by decide) rfl
  simp only [putAll, g0, g8, ec, em, ev, ee, ez]
  clear hE hG g0 g8 ec em ev ee ez
  replace rhA := rhA.below hb
  replace rqA := rqA.below hb
  replace xA := xA.below hb xA.lt
  replace xB := xB.below hb xB.lt
  replace rhB := rhB.below hb
  replace rqB := rqB.below hb
  replace tb := tb.below hb
  replace q := q.trans (hb.mono q.size)
  clear hb
  replace xC : BoxN _ _ _ [.slice aC 2 cC, .slice mC 1 nC] := xC
  replace rhC : RdL Elt.lk (fun _ => True) _ (.slice aC 2 cC) [k0, k2] := rhC.weak fun _ _ => trivial
  replace rqC : RdL Elt.lk (fun _ => True) _ (.slice mC 1 nC) [k1] := rqC.weak fun _ _ => trivial
  obtain ⟨w3, hwe⟩ : ∃ W, W = W1 := ⟨_, rfl⟩
  rw [← hwe] at rhA
  rw [← hwe] at rqA
  rw [← hwe] at xA
  rw [← hwe] at xB
  rw [← hwe] at rhB
  rw [← hwe] at rqB
  rw [← hwe] at xC
  rw [← hwe] at rhC
  rw [← hwe] at rqC
  rw [← hwe] at tb
  rw [← hwe] at q
  rw [← hwe]
  clear hwe
  go_simp
  go_upto_region 4 with (fail)
  refine wp_region_setl (K := fun _ _ => True) (by kernel_rfl) (by kernel_rfl) [1, 2, 3, 4, 5, 6, 7] (by kernel_rfl) [lEq (.agg #[.slice aC 2 cC, .slice mC 1 nC]), lAny, lAny, lAny, lAny, lAny, lAny, lAny, lEq (.int .i64 ((([k0, k2], [k1], 1)).2.2 : Nat))]
    (CbK #[] 5 (LsR ([k0, k2], [k1], 1)) zLs LsB (LkV k3) AnyVk _) (CbK.more (lsStays ([k0, k2], [k1], 1) k3)) (CbS.start _)
    ⟨?o0, ?o1, ?o2, ?o3, ?o4, ?o5, ?o6, ?o7, ?o8, trivial⟩ ?fin
  case o0 =>
    refine StOp.free rfl (by kernel_rfl) (fun A va D w' hF hT hN hE hd hu hg => ?_)
    have e1 : A.eval (.tmp 5) = .pointer (some ⟨bC, 0, none⟩) := hF 5 rfl
    have hBE := CbK.below hE
    exact wp_load2 lsS rfl e1 ((xC.below hBE xC.lt).cell (i := 0) rfl) ((xC.below hBE xC.lt).cell (i := 1) rfl) ⟨_, rfl, rfl, Below.refl _ _⟩
  case o1 =>
    refine StOp.set rfl (by kernel_rfl) (fun A va D w' hF hT hN hE hd hu hg => ?_)
    have hE2 := hE
    simp only [told, List.map_cons, List.map_nil, hN, Bool.false_eq_true, if_false] at hE2
    refine wp_callFn rfl eOne (args := #[.int .i64 1, .string ⟨#[99]⟩, .int .i64 3]) (by simp only [List.map_toArray, List.map_cons, List.map_nil]; rfl) ((one_any w' (o := 1) (m := 3) (b := 99) (by unfold W64; decide) (by unfold W64; decide)).mono ?_)
    rintro e w2 ⟨v, rfl, hv, hb2⟩
    have h5 := CbS.key (lsStays ([k0, k2], [k1], 1) k3) hE2 rfl hb2 (u := v) hv
    exact ⟨_, rfl, _, rfl, by simpa [CbK, told, don, upd] using h5, trivial⟩
  case o2 =>
    refine StOp.set rfl (by kernel_rfl) (fun A va D w' hF hT hN hE hd hu hg => ?_)
    have e1 : A.eval (.tmp 39) = .agg #[.slice aC 2 cC, .slice mC 1 nC] := (hT 39 0 (by simp) rfl).trans (hg ⟨0, .data⟩ (by simp) rfl rfl)
    have x2 : A.eval (.tmp 40) = va 1 := hT 40 1 (by simp) rfl
    have hE2 := hE
    have d1 : D 1 = true := hd ⟨1, .data⟩ (by simp) rfl
    simp only [told, List.map_cons, List.map_nil, hN, d1, Bool.false_eq_true, if_false, if_true] at hE2
    have hBE := hE2.be
    have hcl := lAsk_any w' (tb.below hBE) (H := [k0, k2]) (Q := [k1]) (x := k3) ⟨aC, cC, mC, nC, rfl, rhC.below hBE, rqC.below hBE⟩ (by unfold smK; decide) (by unfold smK; decide) (by decide) (by decide) (hE2.k1 _ rfl) (by decide) (by decide)
    rw [ask11_4] at hcl
    refine wp_callFn rfl eAsk (args := #[.agg #[.slice aC 2 cC, .slice mC 1 nC], va 1]) (by simp only [List.map_toArray, List.map_cons, List.map_nil, e1, x2]) (hcl.mono ?_)
    rintro e w2 ⟨a, c, a2, c2, rfl, hrd, hb2⟩
    have h5 := CbS.call (lsStays ([k0, k2], [k1], 1) k3) hE2 (by simp) hb2 (v := .agg #[.slice a _ c, .slice a2 _ c2]) (e := .int .i64 _) ⟨rfl, hrd⟩
    exact ⟨_, rfl, _, rfl, by simpa [CbK, told, don, upd, d1] using h5, trivial⟩
  case o3 =>
    refine StOp.set rfl (by kernel_rfl) (fun A va D w' hF hT hN hE hd hu hg => ?_)
    have x1 : A.eval (.tmp 41) = va 2 := hT 41 2 (by simp) rfl
    have hE2 := hE
    have d2 : D 2 = true := hd ⟨2, .data⟩ (by simp) rfl
    simp only [told, List.map_cons, List.map_nil, hN, d2, Bool.false_eq_true, if_false, if_true] at hE2
    have h5 := CbS.move hE2
    exact BigFrame.wp_move _ rfl ⟨_, rfl, by rw [x1]; simpa [CbK, told, don, upd, d2] using h5, trivial⟩
  case o4 =>
    refine StOp.set rfl (by kernel_rfl) (fun A va D w' hF hT hN hE hd hu hg => ?_)
    have x1 : A.eval (.tmp 38) = va 3 := hT 38 3 (by simp) rfl
    have hE2 := hE
    have d3 : D 3 = true := hd ⟨3, .data⟩ (by simp) rfl
    simp only [told, List.map_cons, List.map_nil, hN, d3, Bool.false_eq_true, if_false, if_true] at hE2
    obtain ⟨v, e, em⟩ := CbS.tup hE2
    rw [em] at hE2
    have h5 := CbS.ex0 hE2
    exact wp_ex rfl (x1.trans em) rfl ⟨_, rfl, by simpa [CbK, told, don, upd, d3, em] using h5, trivial⟩
  case o5 =>
    refine StOp.set rfl (by kernel_rfl) (fun A va D w' hF hT hN hE hd hu hg => ?_)
    have x1 : A.eval (.tmp 38) = va 3 := hT 38 3 (by simp) rfl
    have hE2 := hE
    have d3 : D 3 = true := hd ⟨3, .data⟩ (by simp) rfl
    simp only [told, List.map_cons, List.map_nil, hN, d3, Bool.false_eq_true, if_false, if_true] at hE2
    obtain ⟨v, e, em⟩ := CbS.tup hE2
    rw [em] at hE2
    have h5 := CbS.ex1 hE2
    exact wp_ex rfl (x1.trans em) rfl ⟨_, rfl, by simpa [CbK, told, don, upd, d3, em] using h5, trivial⟩
  case o6 =>
    refine StOp.set rfl (by kernel_rfl) (fun A va D w' hF hT hN hE hd hu hg => ?_)
    have hE2 := hE
    simp only [told, List.map_cons, List.map_nil, hN, Bool.false_eq_true, if_false] at hE2
    refine wp_boxNew (vs := [.slice none 0 0, .slice none 0 0]) (by kernel_rfl) rfl (fun w2 hb2 hz => ⟨_, rfl, ?_, trivial⟩)
    have h5 := CbS.alloc (lsStays ([k0, k2], [k1], 1) k3) hE2 hb2 hz
    simpa [CbK, told, don, upd] using h5
  case o7 =>
    refine StOp.set rfl (by kernel_rfl) (fun A va D w' hF hT hN hE hd hu hg => ?_)
    have x1 : A.eval (.tmp 7) = va 6 := hT 7 6 (by simp) rfl
    have x2 : A.eval (.tmp 42) = va 4 := hT 42 4 (by simp) rfl
    have hE2 := hE
    have d6 : D 6 = true := hd ⟨6, .data⟩ (by simp) rfl
    have d4 : D 4 = true := hd ⟨4, .data⟩ (by simp) rfl
    simp only [told, List.map_cons, List.map_nil, hN, d6, d4, Bool.false_eq_true, if_false, if_true] at hE2
    obtain ⟨b9, eb, hb0⟩ := CbS.box hE2
    obtain ⟨e, hm⟩ := hE2.mx _ rfl
    obtain ⟨v, e2, ec, _, hrd⟩ := hE2.rr _ (hE2.mv _ hm)
    obtain ⟨A1, B1, A2, B2, ev, _⟩ := id hrd
    injection ec with ec
    injection ec with ec
    injection ec with ec _
    rw [← ec] at ev
    refine wp_boxStore (vs := [.slice none 0 0, .slice none 0 0]) (us := [.slice A1 _ B1, .slice A2 _ B2]) (by kernel_rfl) rfl (x1.trans eb) (x2.trans ev) rfl hb0 rfl (fun w2 hg2 ht2 => ⟨_, rfl, ?_, trivial⟩)
    rw [eb] at hE2
    have h5 := CbS.sto (u := undef) (lsStays ([k0, k2], [k1], 1) k3) hE2 hg2 ⟨_, _, ev, ht2⟩
    simpa [CbK, told, don, upd, d6, d4, eb] using h5
  case o8 =>
    refine StOp.free rfl (by kernel_rfl) (fun A va D w' hF hT hN hE hd hu hg => ?_)
    have x1 : A.eval (.tmp 43) = va 5 := hT 43 5 (by simp) rfl
    have hE2 := hE
    have d5 : D 5 = true := hd ⟨5, .data⟩ (by simp) rfl
    simp only [told, List.map_cons, List.map_nil, d5, if_true] at hE2
    have ee := CbS.errL hE2
    exact BigFrame.wp_assign _ rfl ⟨_, rfl, x1.trans ee, Below.refl _ _⟩
  case fin =>
  intro vs1 W1 hE hG
  obtain ⟨bE, aE, cE, mE, nE, ez, em, ec, ev, ee, xE, rhE, rqE, hb⟩ := CbS.locks hE (by simp)
  have g0 : vs1 0 = .agg #[.slice aC 2 cC, .slice mC 1 nC] := hG 0 (by decide) rfl
  have g8 : vs1 8 = .int .i64 ((([k0, k2], [k1], 1)).2.2 : Nat) := hG 8 (by decide) rfl
  simp only [putAll, g0, g8, ec, em, ev, ee, ez]
  clear hE hG g0 g8 ec em ev ee ez
  replace rhA := rhA.below hb
  replace rqA := rqA.below hb
  replace xA := xA.below hb xA.lt
  replace xB := xB.below hb xB.lt
  replace rhB := rhB.below hb
  replace rqB := rqB.below hb
  replace xC := xC.below hb xC.lt
  replace rhC := rhC.below hb
  replace rqC := rqC.below hb
  replace tb := tb.below hb
  replace q := q.trans (hb.mono q.size)
  clear hb
  replace xE : BoxN _ _ _ [.slice aE 2 cE, .slice mE 1 nE] := xE
  replace rhE : RdL Elt.lk (fun _ => True) _ (.slice aE 2 cE) [k0, k2] := rhE.weak fun _ _ => trivial
  replace rqE : RdL Elt.lk (fun _ => True) _ (.slice mE 1 nE) [k1] := rqE.weak fun _ _ => trivial
  obtain ⟨w4, hwe⟩ : ∃ W, W = W1 := ⟨_, rfl⟩
  rw [← hwe] at rhA
  rw [← hwe] at rqA
  rw [← hwe] at xA
  rw [← hwe] at xB
  rw [← hwe] at rhB
  rw [← hwe] at rqB
  rw [← hwe] at xC
  rw [← hwe] at rhC
  rw [← hwe] at rqC
  rw [← hwe] at xE
  rw [← hwe] at rhE
  rw [← hwe] at rqE
  rw [← hwe] at tb
  rw [← hwe] at q
  rw [← hwe]
  clear hwe
  go_simp
  clear xE rhE rqE
  have b0 := xC.cell (i := 0) rfl
  have b1 := xC.cell (i := 1) rfl
  have hcl := lDrop_any _ tb (o := 0) (H := [k0, k2]) (Q := [k1]) ⟨aC, cC, mC, nC, rfl, rhC, rqC⟩ (by unfold smK; decide) (by unfold smK; decide) (by decide) (by decide)
  rw [drop11] at hcl
  go_wp2_with fail
  refine hcl.mono ?_
  rintro e w5 ⟨aD, cD, mD, nD, aL, cL, rfl, ⟨_, _, _, _, er, rhD, rqD⟩, hL, hb⟩
  injection er with er
  injection er with er
  injection er with er1 er
  injection er with er2 _
  rw [← er1] at rhD
  rw [← er2] at rqD
  rw [show riseL ([k2, k1], ([] : List Lk), [(1 : Int)]).2.2 = [1] from rise11] at hL ⊢
  have rL : RdL Elt.int (fun _ => True) _ (.slice aL 1 cL) [1] := hL.rdL.weak fun _ _ => trivial
  clear hcl er1 er2 hL b0 b1
  replace rhA := rhA.below hb
  replace rqA := rqA.below hb
  replace xA := xA.below hb xA.lt
  replace xB := xB.below hb xB.lt
  replace rhB := rhB.below hb
  replace rqB := rqB.below hb
  replace xC := xC.below hb xC.lt
  replace rhC := rhC.below hb
  replace rqC := rqC.below hb
  replace tb := tb.below hb
  replace q := q.trans (hb.mono q.size)
  clear hb
  replace rhD : RdL Elt.lk (fun _ => True) _ (.slice aD 2 cD) [k2, k1] := rhD.weak fun _ _ => trivial
  replace rqD : RdL Elt.lk (fun _ => True) _ (.slice mD 0 nD) [] := rqD.weak fun _ _ => trivial
  go_upto_region 6 with (first | (refine wpList_boxNew (vs := [.slice none 0 0, .slice none 0 0]) (by kernel_rfl) rfl rfl ?_; intro wa hba hBa) | (refine wpList_boxStore (us := [.slice aD 2 cD, .slice mD 0 nD]) (by kernel_rfl) rfl rfl rfl rfl rfl rfl hBa rfl ?_; intro w5b hgw xD) | fail)
  try go_simp
  have hbw := hba.grown hgw hba.size fun k hk => by injection hk with hk; omega
  replace rhA := rhA.below hbw
  replace rqA := rqA.below hbw
  replace xA := xA.below hbw xA.lt
  replace xB := xB.below hbw xB.lt
  replace rhB := rhB.below hbw
  replace rqB := rqB.below hbw
  replace xC := xC.below hbw xC.lt
  replace rhC := rhC.below hbw
  replace rqC := rqC.below hbw
  replace rhD := rhD.below hbw
  replace rqD := rqD.below hbw
  replace rL := rL.below hbw
  replace tb := tb.below hbw
  replace q := q.trans (hbw.mono q.size)
  clear hbw hgw hba hBa
  replace xD : BoxN _ _ _ [.slice aD 2 cD, .slice mD 0 nD] := xD
  refine wp_region_setl (K := fun _ _ => True) (by kernel_rfl) (by kernel_rfl) [1, 2, 3, 4, 5, 6, 7] (by kernel_rfl) [lEq (.agg #[.slice aC 2 cC, .slice mC 1 nC]), lAny, lAny, lAny, lAny, lAny, lAny, lAny, lEq (.int .i64 ((([k0, k2], [k1], 0)).2.2 : Nat))]
    (CbK #[] 5 (LsR ([k0, k2], [k1], 0)) zLs LsB (LkV k4) AnyVk _) (CbK.more (lsStays ([k0, k2], [k1], 0) k4)) (CbS.start _)
    ⟨?o0, ?o1, ?o2, ?o3, ?o4, ?o5, ?o6, ?o7, ?o8, trivial⟩ ?fin
  case o0 =>
    refine StOp.free rfl (by kernel_rfl) (fun A va D w' hF hT hN hE hd hu hg => ?_)
    have e1 : A.eval (.tmp 5) = .pointer (some ⟨bC, 0, none⟩) := hF 5 rfl
    have hBE := CbK.below hE
    exact wp_load2 lsS rfl e1 ((xC.below hBE xC.lt).cell (i := 0) rfl) ((xC.below hBE xC.lt).cell (i := 1) rfl) ⟨_, rfl, rfl, Below.refl _ _⟩
  case o1 =>
    refine StOp.set rfl (by kernel_rfl) (fun A va D w' hF hT hN hE hd hu hg => ?_)
    have hE2 := hE
    simp only [told, List.map_cons, List.map_nil, hN, Bool.false_eq_true, if_false] at hE2
    refine wp_callFn rfl eOne (args := #[.int .i64 0, .string ⟨#[97]⟩, .int .i64 3]) (by simp only [List.map_toArray, List.map_cons, List.map_nil]; rfl) ((one_any w' (o := 0) (m := 3) (b := 97) (by unfold W64; decide) (by unfold W64; decide)).mono ?_)
    rintro e w2 ⟨v, rfl, hv, hb2⟩
    have h5 := CbS.key (lsStays ([k0, k2], [k1], 0) k4) hE2 rfl hb2 (u := v) hv
    exact ⟨_, rfl, _, rfl, by simpa [CbK, told, don, upd] using h5, trivial⟩
  case o2 =>
    refine StOp.set rfl (by kernel_rfl) (fun A va D w' hF hT hN hE hd hu hg => ?_)
    have e1 : A.eval (.tmp 50) = .agg #[.slice aC 2 cC, .slice mC 1 nC] := (hT 50 0 (by simp) rfl).trans (hg ⟨0, .data⟩ (by simp) rfl rfl)
    have x2 : A.eval (.tmp 51) = va 1 := hT 51 1 (by simp) rfl
    have hE2 := hE
    have d1 : D 1 = true := hd ⟨1, .data⟩ (by simp) rfl
    simp only [told, List.map_cons, List.map_nil, hN, d1, Bool.false_eq_true, if_false, if_true] at hE2
    have hBE := hE2.be
    have hcl := lAsk_any w' (tb.below hBE) (H := [k0, k2]) (Q := [k1]) (x := k4) ⟨aC, cC, mC, nC, rfl, rhC.below hBE, rqC.below hBE⟩ (by unfold smK; decide) (by unfold smK; decide) (by decide) (by decide) (hE2.k1 _ rfl) (by decide) (by decide)
    rw [ask11_5] at hcl
    refine wp_callFn rfl eAsk (args := #[.agg #[.slice aC 2 cC, .slice mC 1 nC], va 1]) (by simp only [List.map_toArray, List.map_cons, List.map_nil, e1, x2]) (hcl.mono ?_)
    rintro e w2 ⟨a, c, a2, c2, rfl, hrd, hb2⟩
    have h5 := CbS.call (lsStays ([k0, k2], [k1], 0) k4) hE2 (by simp) hb2 (v := .agg #[.slice a _ c, .slice a2 _ c2]) (e := .int .i64 _) ⟨rfl, hrd⟩
    exact ⟨_, rfl, _, rfl, by simpa [CbK, told, don, upd, d1] using h5, trivial⟩
  case o3 =>
    refine StOp.set rfl (by kernel_rfl) (fun A va D w' hF hT hN hE hd hu hg => ?_)
    have x1 : A.eval (.tmp 52) = va 2 := hT 52 2 (by simp) rfl
    have hE2 := hE
    have d2 : D 2 = true := hd ⟨2, .data⟩ (by simp) rfl
    simp only [told, List.map_cons, List.map_nil, hN, d2, Bool.false_eq_true, if_false, if_true] at hE2
    have h5 := CbS.move hE2
    exact BigFrame.wp_move _ rfl ⟨_, rfl, by rw [x1]; simpa [CbK, told, don, upd, d2] using h5, trivial⟩
  case o4 =>
    refine StOp.set rfl (by kernel_rfl) (fun A va D w' hF hT hN hE hd hu hg => ?_)
    have x1 : A.eval (.tmp 49) = va 3 := hT 49 3 (by simp) rfl
    have hE2 := hE
    have d3 : D 3 = true := hd ⟨3, .data⟩ (by simp) rfl
    simp only [told, List.map_cons, List.map_nil, hN, d3, Bool.false_eq_true, if_false, if_true] at hE2
    obtain ⟨v, e, em⟩ := CbS.tup hE2
    rw [em] at hE2
    have h5 := CbS.ex0 hE2
    exact wp_ex rfl (x1.trans em) rfl ⟨_, rfl, by simpa [CbK, told, don, upd, d3, em] using h5, trivial⟩
  case o5 =>
    refine StOp.set rfl (by kernel_rfl) (fun A va D w' hF hT hN hE hd hu hg => ?_)
    have x1 : A.eval (.tmp 49) = va 3 := hT 49 3 (by simp) rfl
    have hE2 := hE
    have d3 : D 3 = true := hd ⟨3, .data⟩ (by simp) rfl
    simp only [told, List.map_cons, List.map_nil, hN, d3, Bool.false_eq_true, if_false, if_true] at hE2
    obtain ⟨v, e, em⟩ := CbS.tup hE2
    rw [em] at hE2
    have h5 := CbS.ex1 hE2
    exact wp_ex rfl (x1.trans em) rfl ⟨_, rfl, by simpa [CbK, told, don, upd, d3, em] using h5, trivial⟩
  case o6 =>
    refine StOp.set rfl (by kernel_rfl) (fun A va D w' hF hT hN hE hd hu hg => ?_)
    have hE2 := hE
    simp only [told, List.map_cons, List.map_nil, hN, Bool.false_eq_true, if_false] at hE2
    refine wp_boxNew (vs := [.slice none 0 0, .slice none 0 0]) (by kernel_rfl) rfl (fun w2 hb2 hz => ⟨_, rfl, ?_, trivial⟩)
    have h5 := CbS.alloc (lsStays ([k0, k2], [k1], 0) k4) hE2 hb2 hz
    simpa [CbK, told, don, upd] using h5
  case o7 =>
    refine StOp.set rfl (by kernel_rfl) (fun A va D w' hF hT hN hE hd hu hg => ?_)
    have x1 : A.eval (.tmp 11) = va 6 := hT 11 6 (by simp) rfl
    have x2 : A.eval (.tmp 53) = va 4 := hT 53 4 (by simp) rfl
    have hE2 := hE
    have d6 : D 6 = true := hd ⟨6, .data⟩ (by simp) rfl
    have d4 : D 4 = true := hd ⟨4, .data⟩ (by simp) rfl
    simp only [told, List.map_cons, List.map_nil, hN, d6, d4, Bool.false_eq_true, if_false, if_true] at hE2
    obtain ⟨b9, eb, hb0⟩ := CbS.box hE2
    obtain ⟨e, hm⟩ := hE2.mx _ rfl
    obtain ⟨v, e2, ec, _, hrd⟩ := hE2.rr _ (hE2.mv _ hm)
    obtain ⟨A1, B1, A2, B2, ev, _⟩ := id hrd
    injection ec with ec
    injection ec with ec
    injection ec with ec _
    rw [← ec] at ev
    refine wp_boxStore (vs := [.slice none 0 0, .slice none 0 0]) (us := [.slice A1 _ B1, .slice A2 _ B2]) (by kernel_rfl) rfl (x1.trans eb) (x2.trans ev) rfl hb0 rfl (fun w2 hg2 ht2 => ⟨_, rfl, ?_, trivial⟩)
    rw [eb] at hE2
    have h5 := CbS.sto (u := undef) (lsStays ([k0, k2], [k1], 0) k4) hE2 hg2 ⟨_, _, ev, ht2⟩
    simpa [CbK, told, don, upd, d6, d4, eb] using h5
  case o8 =>
    refine StOp.free rfl (by kernel_rfl) (fun A va D w' hF hT hN hE hd hu hg => ?_)
    have x1 : A.eval (.tmp 54) = va 5 := hT 54 5 (by simp) rfl
    have hE2 := hE
    have d5 : D 5 = true := hd ⟨5, .data⟩ (by simp) rfl
    simp only [told, List.map_cons, List.map_nil, d5, if_true] at hE2
    have ee := CbS.errL hE2
    exact BigFrame.wp_assign _ rfl ⟨_, rfl, x1.trans ee, Below.refl _ _⟩
  case fin =>
  intro vs1 W1 hE hG
  obtain ⟨bF, aF, cF, mF, nF, ez, em, ec, ev, ee, xF, rhF, rqF, hb⟩ := CbS.locks hE (by simp)
  have g0 : vs1 0 = .agg #[.slice aC 2 cC, .slice mC 1 nC] := hG 0 (by decide) rfl
  have g8 : vs1 8 = .int .i64 ((([k0, k2], [k1], 0)).2.2 : Nat) := hG 8 (by decide) rfl
  simp only [putAll, g0, g8, ec, em, ev, ee, ez]
  clear hE hG g0 g8 ec em ev ee ez
  replace rhA := rhA.below hb
  replace rqA := rqA.below hb
  replace xA := xA.below hb xA.lt
  replace xB := xB.below hb xB.lt
  replace rhB := rhB.below hb
  replace rqB := rqB.below hb
  replace xC := xC.below hb xC.lt
  replace rhC := rhC.below hb
  replace rqC := rqC.below hb
  replace rhD := rhD.below hb
  replace rqD := rqD.below hb
  replace rL := rL.below hb
  replace xD := xD.below hb xD.lt
  replace tb := tb.below hb
  replace q := q.trans (hb.mono q.size)
  clear hb
  replace xF : BoxN _ _ _ [.slice aF 2 cF, .slice mF 1 nF] := xF
  replace rhF : RdL Elt.lk (fun _ => True) _ (.slice aF 2 cF) [k0, k2] := rhF.weak fun _ _ => trivial
  replace rqF : RdL Elt.lk (fun _ => True) _ (.slice mF 1 nF) [k1] := rqF.weak fun _ _ => trivial
  obtain ⟨w6, hwe⟩ : ∃ W, W = W1 := ⟨_, rfl⟩
  rw [← hwe] at rhA
  rw [← hwe] at rqA
  rw [← hwe] at xA
  rw [← hwe] at xB
  rw [← hwe] at rhB
  rw [← hwe] at rqB
  rw [← hwe] at xC
  rw [← hwe] at rhC
  rw [← hwe] at rqC
  rw [← hwe] at rhD
  rw [← hwe] at rqD
  rw [← hwe] at rL
  rw [← hwe] at xD
  rw [← hwe] at xF
  rw [← hwe] at rhF
  rw [← hwe] at rqF
  rw [← hwe] at tb
  rw [← hwe] at q
  rw [← hwe]
  clear hwe
  go_simp
  clear xF rhF rqF
  go_upto_region 7 with (fail)
  refine wp_region_setl (K := fun _ _ => True) (by kernel_rfl) (by kernel_rfl) [0, 1, 2, 3, 4, 5, 6, 7, 8] (by kernel_rfl) [lAny, lAny, lAny, lAny, lAny, lAny, lAny, lAny, lAny, lEq (.int .i64 (((List.replicate 41 zk, ([] : List Lk), 1)).2.2 : Nat))]
    (E7 (List.replicate 41 zk, ([] : List Lk), 1) (List.replicate 41 zk) k4 w6) E7.more (show E7 (List.replicate 41 zk, ([] : List Lk), 1) (List.replicate 41 zk) k4 w6 [none, none, none, none, none, none, none, none, none] w6 from ⟨CbS.start _, fun _ h => by cases h⟩)
    ⟨?o0, ?o1, ?o2, ?o3, ?o4, ?o5, ?o6, ?o7, ?o8, ?o9, trivial⟩ ?fin
  case o0 =>
    refine StOp.set rfl (by kernel_rfl) (fun A va D w' hF hT hN hE hd hu hg => ?_)
    have hE2 := hE
    simp only [told, List.map_cons, List.map_nil, hN, Bool.false_eq_true, if_false] at hE2
    obtain ⟨hE3, hE4⟩ := hE2
    refine wp_mk41 rfl rfl rfl (fun w2 hb2 hv => ⟨_, rfl, ?_, trivial⟩)
    have h5 := CbS.key (lsStays2 (List.replicate 41 zk, ([] : List Lk), 1) (List.replicate 41 zk) k4) hE3 rfl hb2 (u := .slice _ _ _) ⟨_, _, rfl, hv⟩
    have h6 : E7 (List.replicate 41 zk, ([] : List Lk), 1) (List.replicate 41 zk) k4 _ [_, _, _, _, _, _, _, _, _] _ := ⟨h5, fun u hu => by obtain ⟨g, hg, _⟩ := hE4 u hu; cases hg⟩
    simpa [told, don, upd] using h6
  case o1 =>
    refine StOp.set rfl (by kernel_rfl) (fun A va D w' hF hT hN hE hd hu hg => ?_)
    have x1 : A.eval (.tmp 56) = va 0 := hT 56 0 (by simp) rfl
    have hE2 := hE
    have d0 : D 0 = true := hd ⟨0, .data⟩ (by simp) rfl
    simp only [told, List.map_cons, List.map_nil, hN, d0, Bool.false_eq_true, if_false, if_true] at hE2
    obtain ⟨hE3, hE4⟩ := hE2
    obtain ⟨a, c, ev, _⟩ := hE3.k1 _ rfl
    refine wp_bLocks rfl (x1.trans ev) ⟨_, rfl, ?_, trivial⟩
    have h5 := hE3
    have h6 : E7 (List.replicate 41 zk, ([] : List Lk), 1) (List.replicate 41 zk) k4 _ [_, some (.agg #[.slice a (List.replicate 41 zk).length c, .slice none 0 0]), _, _, _, _, _, _, _] _ := ⟨h5, fun u hu => ⟨_, rfl, (Option.some.inj hu).symm.trans (by rw [ev])⟩⟩
    simpa [told, don, upd, d0] using h6
  case o2 =>
    refine StOp.set rfl (by kernel_rfl) (fun A va D w' hF hT hN hE hd hu hg => ?_)
    have hE2 := hE
    simp only [told, List.map_cons, List.map_nil, hN, Bool.false_eq_true, if_false] at hE2
    obtain ⟨hE3, hE4⟩ := hE2
    refine wp_callFn rfl eOne (args := #[.int .i64 0, .string ⟨#[97]⟩, .int .i64 3]) (by simp only [List.map_toArray, List.map_cons, List.map_nil]; rfl) ((one_any w' (o := 0) (m := 3) (b := 97) (by unfold W64; decide) (by unfold W64; decide)).mono ?_)
    rintro e w2 ⟨v, rfl, hv, hb2⟩
    have h5 := CbS.vers (lsStays2 (List.replicate 41 zk, ([] : List Lk), 1) (List.replicate 41 zk) k4) hE3 hb2 (u := v) hv
    have h6 : E7 (List.replicate 41 zk, ([] : List Lk), 1) (List.replicate 41 zk) k4 _ [_, _, _, _, _, _, _, _, _] _ := ⟨h5, hE4⟩
    exact ⟨_, rfl, _, rfl, by simpa [told, don, upd] using h6, trivial⟩
  case o3 =>
    refine StOp.set rfl (by kernel_rfl) (fun A va D w' hF hT hN hE hd hu hg => ?_)
    have x1 : A.eval (.tmp 57) = va 1 := hT 57 1 (by simp) rfl
    have x2 : A.eval (.tmp 58) = va 2 := hT 58 2 (by simp) rfl
    have hE2 := hE
    have d1 : D 1 = true := hd ⟨1, .data⟩ (by simp) rfl
    have d2 : D 2 = true := hd ⟨2, .data⟩ (by simp) rfl
    simp only [told, List.map_cons, List.map_nil, hN, d1, d2, Bool.false_eq_true, if_false, if_true] at hE2
    obtain ⟨hE3, hE4⟩ := hE2
    have hBE := hE3.be
    obtain ⟨g, hg, ev⟩ := hE4 _ rfl
    obtain ⟨ga, gc, eg, hr⟩ := hE3.k1 g hg
    have hcl := lAsk_any w' (tb.below hBE) (H := List.replicate 41 zk) (Q := []) (x := k4) ⟨ga, gc, none, 0, rfl, hr, RdL.nil _ _ _⟩ sm41 (by unfold smK; decide) (by decide) (by decide) (hE3.k2 _ rfl) (by decide) (by decide)
    rw [ask11_6] at hcl
    refine wp_callFn rfl eAsk (args := #[.agg #[.slice ga (List.replicate 41 zk).length gc, .slice none 0 0], va 2]) (by simp only [List.map_toArray, List.map_cons, List.map_nil, x1, x2, ev, eg]) (hcl.mono ?_)
    rintro e w2 ⟨a, c, a2, c2, rfl, hrd, hb2⟩
    have h5 := CbS.call (lsStays2 (List.replicate 41 zk, ([] : List Lk), 1) (List.replicate 41 zk) k4) hE3 (by simp) hb2 (v := .agg #[.slice a _ c, .slice a2 _ c2]) (e := .int .i64 _) ⟨rfl, hrd⟩
    have h6 : E7 (List.replicate 41 zk, ([] : List Lk), 1) (List.replicate 41 zk) k4 _ [_, _, _, _, _, _, _, _, _] _ := ⟨h5, hE4⟩
    exact ⟨_, rfl, _, rfl, by simpa [told, don, upd, d1, d2] using h6, trivial⟩
  case o4 =>
    refine StOp.set rfl (by kernel_rfl) (fun A va D w' hF hT hN hE hd hu hg => ?_)
    have x1 : A.eval (.tmp 59) = va 3 := hT 59 3 (by simp) rfl
    have hE2 := hE
    have d3 : D 3 = true := hd ⟨3, .data⟩ (by simp) rfl
    simp only [told, List.map_cons, List.map_nil, hN, d3, Bool.false_eq_true, if_false, if_true] at hE2
    obtain ⟨hE3, hE4⟩ := hE2
    have h5 := CbS.move hE3
    have h6 : E7 (List.replicate 41 zk, ([] : List Lk), 1) (List.replicate 41 zk) k4 _ [_, _, _, _, _, _, _, _, _] _ := ⟨h5, hE4⟩
    exact BigFrame.wp_move _ rfl ⟨_, rfl, by rw [x1]; simpa [told, don, upd, d3] using h6, trivial⟩
  case o5 =>
    refine StOp.set rfl (by kernel_rfl) (fun A va D w' hF hT hN hE hd hu hg => ?_)
    have x1 : A.eval (.tmp 55) = va 4 := hT 55 4 (by simp) rfl
    have hE2 := hE
    have d4 : D 4 = true := hd ⟨4, .data⟩ (by simp) rfl
    simp only [told, List.map_cons, List.map_nil, hN, d4, Bool.false_eq_true, if_false, if_true] at hE2
    obtain ⟨hE3, hE4⟩ := hE2
    obtain ⟨v, e, em⟩ := CbS.tup hE3
    rw [em] at hE3
    have h5 := CbS.ex0 hE3
    have h6 : E7 (List.replicate 41 zk, ([] : List Lk), 1) (List.replicate 41 zk) k4 _ [_, _, _, _, _, _, _, _, _] _ := ⟨h5, hE4⟩
    exact wp_ex rfl (x1.trans em) rfl ⟨_, rfl, by simpa [told, don, upd, d4, em] using h6, trivial⟩
  case o6 =>
    refine StOp.set rfl (by kernel_rfl) (fun A va D w' hF hT hN hE hd hu hg => ?_)
    have x1 : A.eval (.tmp 55) = va 4 := hT 55 4 (by simp) rfl
    have hE2 := hE
    have d4 : D 4 = true := hd ⟨4, .data⟩ (by simp) rfl
    simp only [told, List.map_cons, List.map_nil, hN, d4, Bool.false_eq_true, if_false, if_true] at hE2
    obtain ⟨hE3, hE4⟩ := hE2
    obtain ⟨v, e, em⟩ := CbS.tup hE3
    rw [em] at hE3
    have h5 := CbS.ex1 hE3
    have h6 : E7 (List.replicate 41 zk, ([] : List Lk), 1) (List.replicate 41 zk) k4 _ [_, _, _, _, _, _, _, _, _] _ := ⟨h5, hE4⟩
    exact wp_ex rfl (x1.trans em) rfl ⟨_, rfl, by simpa [told, don, upd, d4, em] using h6, trivial⟩
  case o7 =>
    refine StOp.set rfl (by kernel_rfl) (fun A va D w' hF hT hN hE hd hu hg => ?_)
    have hE2 := hE
    simp only [told, List.map_cons, List.map_nil, hN, Bool.false_eq_true, if_false] at hE2
    obtain ⟨hE3, hE4⟩ := hE2
    refine wp_boxNew (vs := [.slice none 0 0, .slice none 0 0]) (by kernel_rfl) rfl (fun w2 hb2 hz => ⟨_, rfl, ?_, trivial⟩)
    have h5 := CbS.alloc (lsStays2 (List.replicate 41 zk, ([] : List Lk), 1) (List.replicate 41 zk) k4) hE3 hb2 hz
    have h6 : E7 (List.replicate 41 zk, ([] : List Lk), 1) (List.replicate 41 zk) k4 _ [_, _, _, _, _, _, _, _, _] _ := ⟨h5, hE4⟩
    simpa [told, don, upd] using h6
  case o8 =>
    refine StOp.set rfl (by kernel_rfl) (fun A va D w' hF hT hN hE hd hu hg => ?_)
    have x1 : A.eval (.tmp 13) = va 7 := hT 13 7 (by simp) rfl
    have x2 : A.eval (.tmp 60) = va 5 := hT 60 5 (by simp) rfl
    have hE2 := hE
    have d7 : D 7 = true := hd ⟨7, .data⟩ (by simp) rfl
    have d5 : D 5 = true := hd ⟨5, .data⟩ (by simp) rfl
    simp only [told, List.map_cons, List.map_nil, hN, d7, d5, Bool.false_eq_true, if_false, if_true] at hE2
    obtain ⟨hE3, hE4⟩ := hE2
    obtain ⟨b9, eb, hb0⟩ := CbS.box hE3
    obtain ⟨e, hm⟩ := hE3.mx _ rfl
    obtain ⟨v, e2, ec, _, hrd⟩ := hE3.rr _ (hE3.mv _ hm)
    obtain ⟨A1, B1, A2, B2, ev, _⟩ := id hrd
    injection ec with ec
    injection ec with ec
    injection ec with ec _
    rw [← ec] at ev
    refine wp_boxStore (vs := [.slice none 0 0, .slice none 0 0]) (us := [.slice A1 _ B1, .slice A2 _ B2]) (by kernel_rfl) rfl (x1.trans eb) (x2.trans ev) rfl hb0 rfl (fun w2 hg2 ht2 => ⟨_, rfl, ?_, trivial⟩)
    rw [eb] at hE3
    have h5 := CbS.sto (u := undef) (lsStays2 (List.replicate 41 zk, ([] : List Lk), 1) (List.replicate 41 zk) k4) hE3 hg2 ⟨_, _, ev, ht2⟩
    have h6 : E7 (List.replicate 41 zk, ([] : List Lk), 1) (List.replicate 41 zk) k4 _ [_, _, _, _, _, _, _, _, _] _ := ⟨h5, hE4⟩
    simpa [told, don, upd, d7, d5, eb] using h6
  case o9 =>
    refine StOp.free rfl (by kernel_rfl) (fun A va D w' hF hT hN hE hd hu hg => ?_)
    have x1 : A.eval (.tmp 61) = va 6 := hT 61 6 (by simp) rfl
    have hE2 := hE
    have d6 : D 6 = true := hd ⟨6, .data⟩ (by simp) rfl
    simp only [told, List.map_cons, List.map_nil, d6, if_true] at hE2
    have ee := CbS.errL hE2.1
    exact BigFrame.wp_assign _ rfl ⟨_, rfl, x1.trans ee, Below.refl _ _⟩
  case fin =>
  intro vs1 W1 hE hG
  obtain ⟨bJ, aJ, cJ, mJ, nJ, ez, em, ec, ev, ee, _, _, _, hb⟩ := CbS.locks hE.1 (by simp)
  have g9 : vs1 9 = .int .i64 (((List.replicate 41 zk, ([] : List Lk), 1)).2.2 : Nat) := hG 9 (by decide) rfl
  simp only [putAll, g9, ec, em, ev, ee, ez]
  clear hE hG g9 ec em ev ee ez
  replace rhA := rhA.below hb
  replace rqA := rqA.below hb
  replace xA := xA.below hb xA.lt
  replace xB := xB.below hb xB.lt
  replace rhB := rhB.below hb
  replace rqB := rqB.below hb
  replace xC := xC.below hb xC.lt
  replace rhC := rhC.below hb
  replace rqC := rqC.below hb
  replace rhD := rhD.below hb
  replace rqD := rqD.below hb
  replace rL := rL.below hb
  replace xD := xD.below hb xD.lt
  replace tb := tb.below hb
  replace q := q.trans (hb.mono q.size)
  clear hb
  obtain ⟨w7, hwe⟩ : ∃ W, W = W1 := ⟨_, rfl⟩
  rw [← hwe] at rhA
  rw [← hwe] at rqA
  rw [← hwe] at xA
  rw [← hwe] at xB
  rw [← hwe] at rhB
  rw [← hwe] at rqB
  rw [← hwe] at xC
  rw [← hwe] at rhC
  rw [← hwe] at rqC
  rw [← hwe] at rhD
  rw [← hwe] at rqD
  rw [← hwe] at rL
  rw [← hwe] at xD
  rw [← hwe] at tb
  rw [← hwe] at q
  rw [← hwe]
  clear hwe
  go_simp
  have hcl := lAsk_any _ tb (H := []) (Q := []) (x := u0) (S2 := fun _ => True) (S := fun _ => True) ⟨none, 0, none, 0, rfl, RdL.nil _ _ _, RdL.nil _ _ _⟩ (by unfold smK; decide) (by unfold smK; decide) (by decide) (by decide) ⟨none, 0, none, 0, rfl, RdS.nil _ _, RdS.nil _ _, by unfold Lk64 W64; decide⟩ (by decide) (by decide)
  rw [ask11_7] at hcl
  go_wp2_with fail
  refine hcl.mono ?_
  rintro e w8 ⟨aU, cU, mU, nU, rfl, ⟨_, _, _, _, er, rhU, rqU⟩, hb⟩
  injection er with er
  injection er with er
  injection er with er1 er
  injection er with er2 _
  rw [← er1] at rhU
  rw [← er2] at rqU
  clear hcl er1 er2
  replace rhA := rhA.below hb
  replace rqA := rqA.below hb
  replace xA := xA.below hb xA.lt
  replace xB := xB.below hb xB.lt
  replace rhB := rhB.below hb
  replace rqB := rqB.below hb
  replace xC := xC.below hb xC.lt
  replace rhC := rhC.below hb
  replace rqC := rqC.below hb
  replace rhD := rhD.below hb
  replace rqD := rqD.below hb
  replace rL := rL.below hb
  replace xD := xD.below hb xD.lt
  replace tb := tb.below hb
  replace q := q.trans (hb.mono q.size)
  clear hb
  replace rhU : RdL Elt.lk (fun _ => True) _ (.slice aU 1 cU) [u0] := rhU.weak fun _ _ => trivial
  replace rqU : RdL Elt.lk (fun _ => True) _ (.slice mU 0 nU) [] := rqU.weak fun _ _ => trivial
  go_upto_region 9 with (first | (refine wpList_boxNew (vs := [.slice none 0 0, .slice none 0 0]) (by kernel_rfl) rfl rfl ?_; intro wa hba hBa) | (refine wpList_boxStore (us := [.slice aU 1 cU, .slice mU 0 nU]) (by kernel_rfl) rfl rfl rfl rfl rfl rfl hBa rfl ?_; intro w8b hgw xU) | fail)
  try go_simp
  have hbw := hba.grown hgw hba.size fun k hk => by injection hk with hk; omega
  replace rhA := rhA.below hbw
  replace rqA := rqA.below hbw
  replace xA := xA.below hbw xA.lt
  replace xB := xB.below hbw xB.lt
  replace rhB := rhB.below hbw
  replace rqB := rqB.below hbw
  replace xC := xC.below hbw xC.lt
  replace rhC := rhC.below hbw
  replace rqC := rqC.below hbw
  replace rhD := rhD.below hbw
  replace rqD := rqD.below hbw
  replace rL := rL.below hbw
  replace xD := xD.below hbw xD.lt
  replace rhU := rhU.below hbw
  replace rqU := rqU.below hbw
  replace tb := tb.below hbw
  replace q := q.trans (hbw.mono q.size)
  clear hbw hgw hba hBa
  replace xU : BoxN _ _ _ [.slice aU 1 cU, .slice mU 0 nU] := xU
  have b0 := xU.cell (i := 0) rfl
  have b1 := xU.cell (i := 1) rfl
  have hcl := lAsk_any _ tb (H := [u0]) (Q := []) (x := u1) (S2 := fun _ => True) ⟨aU, cU, mU, nU, rfl, rhU, rqU⟩ (by unfold smK; decide) (by unfold smK; decide) (by decide) (by decide) ⟨none, 0, none, 0, rfl, RdS.nil _ _, RdS.nil _ _, by unfold Lk64 W64; decide⟩ (by decide) (by decide)
  rw [ask11_8] at hcl
  go_wp2_with fail
  refine hcl.mono ?_
  rintro e w9 ⟨aV, cV, mV, nV, rfl, ⟨_, _, _, _, er, rhV, rqV⟩, hb⟩
  injection er with er
  injection er with er
  injection er with er1 er
  injection er with er2 _
  rw [← er1] at rhV
  rw [← er2] at rqV
  clear hcl er1 er2
  replace rhA := rhA.below hb
  replace rqA := rqA.below hb
  replace xA := xA.below hb xA.lt
  replace xB := xB.below hb xB.lt
  replace rhB := rhB.below hb
  replace rqB := rqB.below hb
  replace xC := xC.below hb xC.lt
  replace rhC := rhC.below hb
  replace rqC := rqC.below hb
  replace rhD := rhD.below hb
  replace rqD := rqD.below hb
  replace rL := rL.below hb
  replace xD := xD.below hb xD.lt
  replace rhU := rhU.below hb
  replace rqU := rqU.below hb
  replace xU := xU.below hb xU.lt
  replace tb := tb.below hb
  replace q := q.trans (hb.mono q.size)
  clear hb
  replace rhV : RdL Elt.lk (fun _ => True) _ (.slice aV 1 cV) [v0] := rhV.weak fun _ _ => trivial
  replace rqV : RdL Elt.lk (fun _ => True) _ (.slice mV 0 nV) [] := rqV.weak fun _ _ => trivial
  go_upto_region 10 with (first | (refine wpList_boxNew (vs := [.slice none 0 0, .slice none 0 0]) (by kernel_rfl) rfl rfl ?_; intro wa hba hBa) | (refine wpList_boxStore (us := [.slice aV 1 cV, .slice mV 0 nV]) (by kernel_rfl) rfl rfl rfl rfl rfl rfl hBa rfl ?_; intro w9b hgw xV) | fail)
  try go_simp
  have hbw := hba.grown hgw hba.size fun k hk => by injection hk with hk; omega
  replace rhA := rhA.below hbw
  replace rqA := rqA.below hbw
  replace xA := xA.below hbw xA.lt
  replace xB := xB.below hbw xB.lt
  replace rhB := rhB.below hbw
  replace rqB := rqB.below hbw
  replace xC := xC.below hbw xC.lt
  replace rhC := rhC.below hbw
  replace rqC := rqC.below hbw
  replace rhD := rhD.below hbw
  replace rqD := rqD.below hbw
  replace rL := rL.below hbw
  replace xD := xD.below hbw xD.lt
  replace rhU := rhU.below hbw
  replace rqU := rqU.below hbw
  replace xU := xU.below hbw xU.lt
  replace rhV := rhV.below hbw
  replace rqV := rqV.below hbw
  replace tb := tb.below hbw
  replace q := q.trans (hbw.mono q.size)
  clear hbw hgw hba hBa
  replace xV : BoxN _ _ _ [.slice aV 1 cV, .slice mV 0 nV] := xV
  clear b0 b1
  have v0 := xV.cell (i := 0) rfl
  have v1 := xV.cell (i := 1) rfl
  have b0 := xB.cell (i := 0) rfl
  have b1 := xB.cell (i := 1) rfl
  go_upto_region 12 with (fail)
  go_wp2_with fail
  have hcl := lWaits_any _ tb (o := 1) (H := [k0]) (Q := [k1]) ⟨aB, cB, mB, nB, rfl, rhB, rqB⟩ (by decide) (by decide)
  rw [show (decide (okLk [k0] [k1]) && waitsL [k1] 1) = true from by decide] at hcl
  refine hcl.mono ?_
  rintro e w10 ⟨rfl, hb⟩
  clear hcl v0 v1 b0 b1
  replace rhA := rhA.below hb
  replace rqA := rqA.below hb
  replace xA := xA.below hb xA.lt
  replace xB := xB.below hb xB.lt
  replace rhB := rhB.below hb
  replace rqB := rqB.below hb
  replace xC := xC.below hb xC.lt
  replace rhC := rhC.below hb
  replace rqC := rqC.below hb
  replace rhD := rhD.below hb
  replace rqD := rqD.below hb
  replace rL := rL.below hb
  replace xD := xD.below hb xD.lt
  replace rhU := rhU.below hb
  replace rqU := rqU.below hb
  replace xU := xU.below hb xU.lt
  replace rhV := rhV.below hb
  replace rqV := rqV.below hb
  replace xV := xV.below hb xV.lt
  replace tb := tb.below hb
  replace q := q.trans (hb.mono q.size)
  clear hb
  have b0 := xB.cell (i := 0) rfl
  have b1 := xB.cell (i := 1) rfl
  go_wp2_with fail
  have hcl := lBlockers_any _ tb (o := 1) (H := [k0]) (Q := [k1]) ⟨aB, cB, mB, nB, rfl, rhB, rqB⟩ (by decide) (by decide)
  refine hcl.mono ?_
  rintro e w11 ⟨l9, aM, cM, rfl, hM, hb, hc9⟩
  obtain rfl : l9 = [0] := blk11 hc9
  have rM : RdL Elt.int (fun _ => True) _ (.slice aM 1 cM) [0] := hM.rdL.weak fun _ _ => trivial
  clear hcl hM hc9 b0 b1
  replace rhA := rhA.below hb
  replace rqA := rqA.below hb
  replace xA := xA.below hb xA.lt
  replace xB := xB.below hb xB.lt
  replace rhB := rhB.below hb
  replace rqB := rqB.below hb
  replace xC := xC.below hb xC.lt
  replace rhC := rhC.below hb
  replace rqC := rqC.below hb
  replace rhD := rhD.below hb
  replace rqD := rqD.below hb
  replace rL := rL.below hb
  replace xD := xD.below hb xD.lt
  replace rhU := rhU.below hb
  replace rqU := rqU.below hb
  replace xU := xU.below hb xU.lt
  replace rhV := rhV.below hb
  replace rqV := rqV.below hb
  replace xV := xV.below hb xV.lt
  replace tb := tb.below hb
  replace q := q.trans (hb.mono q.size)
  clear hb
  go_wp2_with (first | (refine wpList_buildOne inP rfl rfl rfl (us := [.int .i64 0]) rfl rfl (by decide) (by decide) ?_; intro w12 hb12 hrow) | fail)
  replace rhA := rhA.below hb12
  replace rqA := rqA.below hb12
  replace xA := xA.below hb12 xA.lt
  replace xB := xB.below hb12 xB.lt
  replace rhB := rhB.below hb12
  replace rqB := rqB.below hb12
  replace xC := xC.below hb12 xC.lt
  replace rhC := rhC.below hb12
  replace rqC := rqC.below hb12
  replace rhD := rhD.below hb12
  replace rqD := rqD.below hb12
  replace rL := rL.below hb12
  replace xD := xD.below hb12 xD.lt
  replace rhU := rhU.below hb12
  replace rqU := rqU.below hb12
  replace xU := xU.below hb12 xU.lt
  replace rhV := rhV.below hb12
  replace rqV := rqV.below hb12
  replace xV := xV.below hb12 xV.lt
  replace rM := rM.below hb12
  replace tb := tb.below hb12
  replace q := q.trans (hb12.mono q.size)
  have hl1 : RdL Elt.int (fun _ => True) w12 (.slice (some ⟨w11.heap.size, 0, none⟩) 1 1) [0] := made11 ⟨rfl, by unfold W64; decide⟩ hrow trivial
  clear hrow hb12
  have hcl := numbers_any _ rM hl1
  rw [decide_eq_true rfl] at hcl
  refine hcl.mono ?_
  rintro e w13 ⟨rfl, hb⟩
  clear hcl hl1
  replace rhA := rhA.below hb
  replace rqA := rqA.below hb
  replace xA := xA.below hb xA.lt
  replace xB := xB.below hb xB.lt
  replace rhB := rhB.below hb
  replace rqB := rqB.below hb
  replace xC := xC.below hb xC.lt
  replace rhC := rhC.below hb
  replace rqC := rqC.below hb
  replace rhD := rhD.below hb
  replace rqD := rqD.below hb
  replace rL := rL.below hb
  replace xD := xD.below hb xD.lt
  replace rhU := rhU.below hb
  replace rqU := rqU.below hb
  replace xU := xU.below hb xU.lt
  replace rhV := rhV.below hb
  replace rqV := rqV.below hb
  replace xV := xV.below hb xV.lt
  replace rM := rM.below hb
  replace tb := tb.below hb
  replace q := q.trans (hb.mono q.size)
  clear hb
  have d0 := xD.cell (i := 0) rfl
  have d1 := xD.cell (i := 1) rfl
  go_wp2_with (first | (refine wpList_buildOne inP rfl rfl rfl (us := [.int .i64 1]) rfl rfl (by decide) (by decide) ?_; intro w14 hb14 hrow) | fail)
  replace rhA := rhA.below hb14
  replace rqA := rqA.below hb14
  replace xA := xA.below hb14 xA.lt
  replace xB := xB.below hb14 xB.lt
  replace rhB := rhB.below hb14
  replace rqB := rqB.below hb14
  replace xC := xC.below hb14 xC.lt
  replace rhC := rhC.below hb14
  replace rqC := rqC.below hb14
  replace rhD := rhD.below hb14
  replace rqD := rqD.below hb14
  replace rL := rL.below hb14
  replace xD := xD.below hb14 xD.lt
  replace rhU := rhU.below hb14
  replace rqU := rqU.below hb14
  replace xU := xU.below hb14 xU.lt
  replace rhV := rhV.below hb14
  replace rqV := rqV.below hb14
  replace xV := xV.below hb14 xV.lt
  replace rM := rM.below hb14
  replace tb := tb.below hb14
  replace q := q.trans (hb14.mono q.size)
  have hl1 : RdL Elt.int (fun _ => True) w14 (.slice (some ⟨w13.heap.size, 0, none⟩) 1 1) [1] := made11 ⟨rfl, by unfold W64; decide⟩ hrow trivial
  clear hrow hb14 d0 d1
  have hcl := numbers_any _ rL hl1
  rw [decide_eq_true rfl] at hcl
  refine hcl.mono ?_
  rintro e w15 ⟨rfl, hb⟩
  clear hcl hl1
  replace rhA := rhA.below hb
  replace rqA := rqA.below hb
  replace xA := xA.below hb xA.lt
  replace xB := xB.below hb xB.lt
  replace rhB := rhB.below hb
  replace rqB := rqB.below hb
  replace xC := xC.below hb xC.lt
  replace rhC := rhC.below hb
  replace rqC := rqC.below hb
  replace rhD := rhD.below hb
  replace rqD := rqD.below hb
  replace rL := rL.below hb
  replace xD := xD.below hb xD.lt
  replace rhU := rhU.below hb
  replace rqU := rqU.below hb
  replace xU := xU.below hb xU.lt
  replace rhV := rhV.below hb
  replace rqV := rqV.below hb
  replace xV := xV.below hb xV.lt
  replace rM := rM.below hb
  replace tb := tb.below hb
  replace q := q.trans (hb.mono q.size)
  clear hb
  have d0 := xD.cell (i := 0) rfl
  have d1 := xD.cell (i := 1) rfl
  go_upto_region 13 with (fail)
  have v0 := xV.cell (i := 0) rfl
  have v1 := xV.cell (i := 1) rfl
  have c0 := xC.cell (i := 0) rfl
  have c1 := xC.cell (i := 1) rfl
  obtain ⟨bv, ov, VA, VC, VA2, VC2, rfl, _, _, _, _, _, _, _, l6, _⟩ := rhV.lk 0 (by decide)
  replace l6 : _ = some (Value.int .i64 4) := l6
  go_wp2_with fail
  have hcl := lCheck_any _ tb (H := [k0, k2]) (Q := [k1]) ⟨aC, cC, mC, nC, rfl, rhC, rqC⟩ (by decide) (by decide)
  rw [decide_eq_true (show okLk [k0, k2] [k1] from by decide)] at hcl
  refine hcl.mono ?_
  rintro e w16 ⟨rfl, hb⟩
  clear hcl v0 v1 c0 c1 l6
  replace rhA := rhA.below hb
  replace rqA := rqA.below hb
  replace xA := xA.below hb xA.lt
  replace xB := xB.below hb xB.lt
  replace rhB := rhB.below hb
  replace rqB := rqB.below hb
  replace xC := xC.below hb xC.lt
  replace rhC := rhC.below hb
  replace rqC := rqC.below hb
  replace rhD := rhD.below hb
  replace rqD := rqD.below hb
  replace rL := rL.below hb
  replace xD := xD.below hb xD.lt
  replace rhU := rhU.below hb
  replace rqU := rqU.below hb
  replace xU := xU.below hb xU.lt
  replace rhV := rhV.below hb
  replace rqV := rqV.below hb
  replace xV := xV.below hb xV.lt
  replace rM := rM.below hb
  replace tb := tb.below hb
  replace q := q.trans (hb.mono q.size)
  clear hb
  have c0 := xC.cell (i := 0) rfl
  have c1 := xC.cell (i := 1) rfl
  go_wp2_with fail
  have hcl := lCheck_any _ tb (H := []) (Q := [k1]) (S := fun _ => True) ⟨none, 0, mC, nC, rfl, RdL.nil _ _ _, rqC⟩ (by decide) (by decide)
  rw [decide_eq_false (show ¬ okLk [] [k1] from by decide)] at hcl
  refine hcl.mono ?_
  rintro e w17 ⟨rfl, hb⟩
  clear hcl c0 c1
  replace rhA := rhA.below hb
  replace rqA := rqA.below hb
  replace xA := xA.below hb xA.lt
  replace xB := xB.below hb xB.lt
  replace rhB := rhB.below hb
  replace rqB := rqB.below hb
  replace xC := xC.below hb xC.lt
  replace rhC := rhC.below hb
  replace rqC := rqC.below hb
  replace rhD := rhD.below hb
  replace rqD := rqD.below hb
  replace rL := rL.below hb
  replace xD := xD.below hb xD.lt
  replace rhU := rhU.below hb
  replace rqU := rqU.below hb
  replace xU := xU.below hb xU.lt
  replace rhV := rhV.below hb
  replace rqV := rqV.below hb
  replace xV := xV.below hb xV.lt
  replace rM := rM.below hb
  replace tb := tb.below hb
  replace q := q.trans (hb.mono q.size)
  clear hb
  go_wp2_with fail
  go_ret
  exact ⟨rfl, q⟩
end Go.Proofs.YtccoklhmbikfmaaDoor
