/-
  TEXTS OF ONE PROOF, merged: LkP, LockMayW, LkQ.
-/
import Derived.KernelRfl
import Derived.Test.YtccoklhmbikfmaaDoorKb8
namespace Go.Proofs.YtccoklhmbikfmaaDoor
open Go.RowKit
theorem RdL.stk {S : Nat → Prop} {w : World} {a : Option Addr} {n c : Nat} {l : List (Lk × Bool)} (h : RdL Elt.stk S w (.slice a n c) l) (r : Nat) (hr : r < l.length) :
    ∃ b off A C A2 C2, a = some ⟨b, off, none⟩ ∧ w.cell? ⟨b, off + r * 8, none⟩ = some (.int .i64 l[r].1.owner) ∧ w.cell? ⟨b, off + r * 8 + 1, none⟩ = some (.bool l[r].1.whole) ∧ w.cell? ⟨b, off + r * 8 + 2, none⟩ = some (.int .i64 l[r].1.span.table) ∧ w.cell? ⟨b, off + r * 8 + 3, none⟩ = some (.slice A l[r].1.span.lo.length C) ∧
      w.cell? ⟨b, off + r * 8 + 4, none⟩ = some (.slice A2 l[r].1.span.hi.length C2) ∧ w.cell? ⟨b, off + r * 8 + 5, none⟩ = some (.bool l[r].1.span.isOpen) ∧ w.cell? ⟨b, off + r * 8 + 6, none⟩ = some (.int .i64 l[r].1.mode) ∧ w.cell? ⟨b, off + r * 8 + 7, none⟩ = some (.bool l[r].2) ∧
      RdLk S w (.agg #[.int .i64 l[r].1.owner, .bool l[r].1.whole, .int .i64 l[r].1.span.table, .slice A l[r].1.span.lo.length C, .slice A2 l[r].1.span.hi.length C2, .bool l[r].1.span.isOpen, .int .i64 l[r].1.mode]) l[r].1 := by
  obtain ⟨b, off, vs, rfl, hb, ⟨k, u, rfl, hk, hu, hi⟩, hc⟩ := h.at r hr
  obtain ⟨A, C, rfl, _, _⟩ := hk.shape
  obtain ⟨A2, C2, rfl, _, _⟩ := hu.shape
  exact ⟨b, off, A, C, A2, C2, rfl, hc 0 _ rfl, hc 1 _ rfl, hc 2 _ rfl, hc 3 _ rfl, hc 4 _ rfl, hc 5 _ rfl, hc 6 _ rfl, hc 7 _ rfl, ⟨A, C, A2, C2, rfl, hk, hu, hi⟩⟩
theorem RdLs.past {b : Nat} {w w' : World} {v : Value} {H Q : List Lk} (h : RdLs (· ≠ b) w v H Q) (hg : w.grownBy w' (some b)) : RdLs (· ≠ b) w' v H Q := by
  obtain ⟨a, c, a2, c2, e, h1, h2⟩ := h
  exact ⟨a, c, a2, c2, e, (h1.fit.keep fun k hk => hg.block k hk.2 fun e => by injection e with e; exact hk.1 e).weak fun k hk => hk.1, (h2.fit.keep fun k hk => hg.block k hk.2 fun e => by injection e with e; exact hk.1 e).weak fun k hk => hk.1⟩
def shL (l : List Lk) : Prop := ∀ y ∈ l, y.span.lo.length ≤ 1000000 ∧ y.span.hi.length ≤ 1000000
theorem joined_span (x : Lk) (H : List Lk) : (joined x H).span = x.span := by
  unfold joined
  split <;> rfl
theorem shL.ask {H Q : List Lk} {x : Lk} (h1 : shL H) (h2 : shL Q) (hx : x.span.lo.length ≤ 1000000 ∧ x.span.hi.length ≤ 1000000) : shL (askL H Q x).1 ∧ shL (askL H Q x).2.1 := by
  unfold askL
  split
  · split
    · exact ⟨h1, h2⟩
    · split
      · exact ⟨h1, h2⟩
      · split
        · refine ⟨h1, fun y hy => ?_⟩
          rcases List.mem_append.1 hy with h | h
          · exact h2 y h
          · obtain rfl : y = joined x H := by simpa using h
            rw [joined_span]; exact hx
        · refine ⟨fun y hy => ?_, h2⟩
          rcases heldA_mem hy with rfl | h
          · rw [joined_span]; exact hx
          · exact h1 y h
  · exact ⟨h1, h2⟩
theorem drop_all {H Q : List Lk} {o : Int} (P : Lk → Prop) (hH : ∀ y ∈ H, P y) (hQ : ∀ y ∈ Q, P y) : (∀ y ∈ (dropC H Q o).1, P y) ∧ ∀ y ∈ (dropC H Q o).2.1, P y := by
  by_cases h : 0 ≤ o ∧ o < 4 ∧ okLk H Q
  · have := drop_none h.2.2 h.1 h.2.1 P hH hQ
    exact ⟨fun y hy => (this.1 y hy).1, fun y hy => (this.2 y hy).1⟩
  · unfold dropC
    rw [if_neg h]
    exact ⟨hH, hQ⟩
def goneL (i : Nat) (l : List Lk) : Prop := ∀ y ∈ l, ∀ j : Nat, j < i → y.owner ≠ (j : Int)
theorem gone_next {H Q : List Lk} {i : Nat} (ok : okLk H Q) (hi : i < 4) (h1 : goneL i H) (h2 : goneL i Q) : goneL (i + 1) (dropC H Q i).1 ∧ goneL (i + 1) (dropC H Q i).2.1 := by
  have := drop_none ok (o := (i : Int)) (by omega) (by omega) (fun y => ∀ j : Nat, j < i → y.owner ≠ (j : Int)) h1 h2
  constructor
  · intro y hy j hj
    rcases Nat.lt_or_ge j i with h | h
    · exact (this.1 y hy).1 j h
    · obtain rfl : j = i := by omega
      exact (this.1 y hy).2
  · intro y hy j hj
    rcases Nat.lt_or_ge j i with h | h
    · exact (this.2 y hy).1 j h
    · obtain rfl : j = i := by omega
      exact (this.2 y hy).2
theorem gone_all {l : List Lk} (h : goneL 4 l) (hf : ∀ x ∈ l, fine x = true) : l = [] := by
  cases l with
  | nil => rfl
  | cons x l =>
    exfalso
    have hx := hf x (by simp)
    have h4 := h x (by simp)
    unfold fine at hx
    simp only [Bool.and_eq_true, decide_eq_true_eq] at hx
    exact h4 x.owner.toNat (by omega) (by omega)
end Go.Proofs.YtccoklhmbikfmaaDoor
namespace Go.Proofs.YtccoklhmbikfmaaDoor
open Go.RowKit Go.Shelf
set_option maxRecDepth 100000 in
set_option maxHeartbeats 32000000 in
theorem LockMay_w (w : World) (hT : TabAt w) {a0 : Option Addr} {n0 c0 : Nat} {l : List (Lk × Bool)} (h0 : RdL Elt.stk (· < w.heap.size) w (.slice a0 n0 c0) l) :
    Calls Tryd.prog 4 #[.slice a0 n0 c0] w fun e w' => e = .returned (.bool true) ∧ Below w.heap.size w w' := by
  obtain ⟨rfl, hnc, hcm⟩ := h0.len
  have hll : l.length ≤ 9223372036854775807 := by unfold maxLen at hcm; omega
  clear hcm hnc
  have tb := hT
  have q := Below.refl w.heap.size w
  go_enter Tryd.func4, Tryd.ntmps4
  go_wp2_with fail
  refine (awake11_any w hT).mono ?_
  rintro e w1 ⟨rfl, hb⟩
  replace tb := tb.below hb
  replace q := q.trans (hb.mono q.size)
  clear hb
  have hq1 := q.size
  go_upto_region 3 with (first | (refine wpList_boxNew (vs := [.slice none 0 0, .slice none 0 0]) (by kernel_rfl) rfl rfl ?_; intro w2 hb2 Bk) | fail)
  try go_simp
  replace tb := tb.below hb2
  replace q := q.trans (hb2.mono q.size)
  obtain ⟨bK, hbK, hb1⟩ : ∃ bK, bK = w1.heap.size ∧ w.heap.size ≤ bK := ⟨_, rfl, hq1⟩
  rw [← hbK] at Bk
  rw [← hbK]
  clear hbK hb2 hq1
  go_upto_region 4 with (fail)
  go_loopw [5] (fun iv wr => ∃ (i : Nat) (H Q : List Lk) (aK : Option Addr) (cK : Nat) (mK : Option Addr) (nK : Nat), iv = .int .i64 (i : Int) ∧ i ≤ l.length ∧ i ≤ 50 ∧ Inv H Q ∧ (shL H ∧ shL Q) ∧ BoxN wr bK 24 [.slice aK H.length cK, .slice mK Q.length nK] ∧ RdLs (· ≠ bK) wr (.agg #[.slice aK H.length cK, .slice mK Q.length nK]) H Q ∧ Below w.heap.size w wr) (fun iv _ => 50 - (intOf iv).toNat)
  case atStart => exact ⟨0, [], [], none, 0, none, 0, rfl, Nat.zero_le _, by omega, Inv.nil, ⟨fun _ h => by simp at h, fun _ h => by simp at h⟩, Bk, ⟨none, 0, none, 0, rfl, RdL.nil _ _ _, RdL.nil _ _ _⟩, q⟩
  case round =>
  clear Bk q tb
  obtain ⟨i, H, Q, aK, cK, mK, nK, rfl, hil, hi50, hinv, hsh, Bk, rK, q⟩ := hrel
  replace hinv := Lib.hid hinv
  replace hsh := Lib.hid hsh
  have tb := hT.below q
  rcases Nat.lt_or_ge i l.length with hlt | hge
  · rcases Nat.lt_or_ge i 50 with hlt5 | hge5
    · obtain ⟨b, off, KA, KC, VA, VC, eL, c0, c1, c2, c3, c4, c5, c6, c7, hx⟩ := (h0.below q).stk i hlt
      subst eL
      obtain ⟨x, ex⟩ : ∃ x, x = l[i].1 := ⟨_, rfl⟩
      rw [← ex] at c0 c1 c2 c3 c4 c5 c6 hx
      obtain ⟨gn, eg⟩ : ∃ g, g = l[i].2 := ⟨_, rfl⟩
      rw [← eg] at c7
      clear ex eg
      have d0 : decide ((i : Int) < (l.length : Int)) = true := decide_eq_true (by omega)
      have d1 : decide ((i : Int) < 50) = true := decide_eq_true (by omega)
      go_upto_region 7 with (first | (refine wpList_boxNew (vs := [.int .i64 0, .bool false, .int .i64 0, .slice none 0 0, .slice none 0 0, .bool false, .int .i64 0, .bool false]) (by kernel_rfl) rfl rfl ?_; intro wa hba hBa) | (refine wpList_boxStore (us := [.int .i64 x.owner, .bool x.whole, .int .i64 x.span.table, .slice KA x.span.lo.length KC, .slice VA x.span.hi.length VC, .bool x.span.isOpen, .int .i64 x.mode, .bool gn]) (by kernel_rfl) rfl rfl rfl rfl rfl rfl hBa rfl ?_; intro wb hgw Bs) | fail)
      try go_simp
      have hbw := hba.grown hgw hba.size fun k hk => by injection hk with hk; omega
      replace Bk := Bk.below hbw Bk.lt
      replace rK := rK.below hbw
      replace hx := hx.below hbw
      replace tb := tb.below hbw
      replace q := q.trans (hbw.mono q.size)
      clear hbw hgw hba hBa c0 c1 c2 c3 c4 c5 c6 c7 d0 d1
      have c0 := Bs.cell (i := 0) rfl
      have c1 := Bs.cell (i := 1) rfl
      have c2 := Bs.cell (i := 2) rfl
      have c3 := Bs.cell (i := 3) rfl
      have c4 := Bs.cell (i := 4) rfl
      have c5 := Bs.cell (i := 5) rfl
      have c6 := Bs.cell (i := 6) rfl
      have c7 := Bs.cell (i := 7) rfl
      have hcl := shortL_any _ hx
      go_wp2_with fail
      refine hcl.mono ?_
      rintro e wd ⟨rfl, hb⟩
      clear hcl c0 c1 c2 c3 c4 c5 c6 c7
      replace Bk := Bk.below hb Bk.lt
      replace rK := rK.below hb
      replace hx := hx.below hb
      replace Bs := Bs.below hb Bs.lt
      replace tb := tb.below hb
      replace q := q.trans (hb.mono q.size)
      clear hb
      by_cases sx : shortS x.span
      case neg =>
        rw [decide_eq_false sx]
        go_wp2_with fail
        go_ret
        exact ⟨rfl, q⟩
      rw [decide_eq_true sx]
      have hx1 : x.span.lo.length ≤ 1000000 ∧ x.span.hi.length ≤ 1000000 := ⟨by have := sx.1; omega, by have := sx.2; omega⟩
      clear sx
      have hsH : smK H := ⟨by have := hinv.out.1.1; omega, hsh.out.1⟩
      have hsQ : smK Q := ⟨by have := hinv.out.1.1; omega, hsh.out.2⟩
      have hnH : H.length ≤ 400000 := by have := hinv.out.1.1; omega
      have hnQ : Q.length ≤ 400000 := by have := hinv.out.1.1; omega
      have c0 := Bs.cell (i := 0) rfl
      have c1 := Bs.cell (i := 1) rfl
      have c2 := Bs.cell (i := 2) rfl
      have c3 := Bs.cell (i := 3) rfl
      have c4 := Bs.cell (i := 4) rfl
      have c5 := Bs.cell (i := 5) rfl
      have c6 := Bs.cell (i := 6) rfl
      have c7 := Bs.cell (i := 7) rfl
      cases gn with
      | true =>
        have k0 := Bk.cell (i := 0) rfl
        have k1 := Bk.cell (i := 1) rfl
        have hcl := lDrop_any _ tb (o := x.owner) rK hsH hsQ hnH hnQ
        have hinv2 := Lib.hid (hinv.out.drop x.owner)
        have hsh2 := Lib.hid (show shL (dropC H Q x.owner).1 ∧ shL (dropC H Q x.owner).2.1 from drop_all _ hsh.out.1 hsh.out.2)
        obtain ⟨r, er⟩ : ∃ r, r = dropC H Q x.owner := ⟨_, rfl⟩
        rw [← er] at hcl hinv2 hsh2
        clear er
        go_wp2_with fail
        refine hcl.mono ?_
        rintro e we ⟨ra, rc, rb, rd, la, lc, rfl, hrd, _, hb⟩
        have hbk := Bk.lt
        replace hrd : RdLs (· ≠ bK) _ _ r.1 r.2.1 := hrd.weak fun k hk => by have := hk.1; omega
        clear hcl hbk k0 k1 c0 c1 c2 c3 c4 c5 c6 c7
        replace Bk := Bk.below hb Bk.lt
        replace rK := rK.below hb
        replace hx := hx.below hb
        replace Bs := Bs.below hb Bs.lt
        replace tb := tb.below hb
        replace q := q.trans (hb.mono q.size)
        clear hb
        go_upto_region 11 with (first | (refine wpList_boxNew (vs := [.slice none 0 0, .slice none 0 0]) (by kernel_rfl) rfl rfl ?_; intro wa hba hBa) | (refine wpList_boxStore (us := [.slice ra r.1.length rc, .slice rb r.2.1.length rd]) (by kernel_rfl) rfl rfl rfl rfl rfl rfl hBa rfl ?_; intro wf hgw Br) | fail)
        try go_simp
        have hbw := hba.grown hgw hba.size fun k hk => by injection hk with hk; omega
        replace Bk := Bk.below hbw Bk.lt
        replace rK := rK.below hbw
        replace hx := hx.below hbw
        replace Bs := Bs.below hbw Bs.lt
        replace hrd := hrd.below hbw
        replace tb := tb.below hbw
        replace q := q.trans (hbw.mono q.size)
        clear hbw hgw hba hBa
        have s0 := Br.cell (i := 0) rfl
        have s1 := Br.cell (i := 1) rfl
        go_upto_region 18 with (first | (refine wpList_boxStore (us := [.slice ra r.1.length rc, .slice rb r.2.1.length rd]) (by kernel_rfl) rfl rfl rfl rfl rfl rfl Bk rfl ?_; intro wz hgz Bz) | fail)
        clear s0 s1 Bk
        have Bk := Bz
        clear Bz
        replace hrd := hrd.past hgz
        replace q := q.grown hgz q.size fun k hk => by injection hk with hk; omega
        replace tb : TabAt wz := hT.below q
        clear hgz
        have hin := Lib.hid hinv2.out
        have k0 := Bk.cell (i := 0) rfl
        have k1 := Bk.cell (i := 1) rfl
        have hcl := lCheck_any _ tb (H := r.1) (Q := r.2.1) hrd (by have := hin.out.1.1; omega) (by have := hin.out.1.1; omega)
        rw [decide_eq_true hin.out.1] at hcl
        go_wp2_with fail
        refine hcl.mono ?_
        rintro e wc ⟨rfl, hb⟩
        clear hcl k0 k1
        replace Bk := Bk.below hb Bk.lt
        replace q := q.trans (hb.mono q.size)
        have hrdz := hrd.below hb
        go_wp2_with fail
        go_roundw
        case rel => exact ⟨i + 1, _, _, _, _, _, _, by go_num, by omega, by omega, hin.out, hsh2.out, Bk, hrdz, q⟩
        case measure => simp [intOf]; omega
      | false =>
        have k0 := Bk.cell (i := 0) rfl
        have k1 := Bk.cell (i := 1) rfl
        have hcl := lAsk_any _ tb (x := x) rK hsH hsQ hnH hnQ hx hx1.1 hx1.2
        have hinv2 := Lib.hid (hinv.out.ask x)
        have hsh2 := Lib.hid (hsh.out.1.ask hsh.out.2 hx1)
        have hm0 := Lib.hid (ask_again hinv.out x)
        have hm1 := Lib.hid (ask_wait hinv.out x)
        have hm2 := Lib.hid (ask_else (H := H) (Q := Q) x)
        obtain ⟨r, er⟩ : ∃ r, r = askL H Q x := ⟨_, rfl⟩
        rw [← er] at hcl hinv2 hsh2 hm0 hm1 hm2
        clear er
        go_wp2_with fail
        refine hcl.mono ?_
        rintro e we ⟨ra, rc, rb, rd, rfl, hrd, hb⟩
        have hbk := Bk.lt
        replace hrd : RdLs (· ≠ bK) _ _ r.1 r.2.1 := hrd.weak fun k hk => by have := hk.1; omega
        clear hcl hbk k0 k1 c0 c1 c2 c3 c4 c5 c6 c7
        replace Bk := Bk.below hb Bk.lt
        replace rK := rK.below hb
        replace hx := hx.below hb
        replace Bs := Bs.below hb Bs.lt
        replace tb := tb.below hb
        replace q := q.trans (hb.mono q.size)
        clear hb
        go_upto_region 13 with (first | (refine wpList_boxNew (vs := [.slice none 0 0, .slice none 0 0]) (by kernel_rfl) rfl rfl ?_; intro wa hba hBa) | (refine wpList_boxStore (us := [.slice ra r.1.length rc, .slice rb r.2.1.length rd]) (by kernel_rfl) rfl rfl rfl rfl rfl rfl hBa rfl ?_; intro wf hgw Br) | fail)
        try go_simp
        have hbw := hba.grown hgw hba.size fun k hk => by injection hk with hk; omega
        replace Bk := Bk.below hbw Bk.lt
        replace rK := rK.below hbw
        replace hx := hx.below hbw
        replace Bs := Bs.below hbw Bs.lt
        replace hrd := hrd.below hbw
        replace tb := tb.below hbw
        replace q := q.trans (hbw.mono q.size)
        clear hbw hgw hba hBa
        have c0 := Bs.cell (i := 0) rfl
        have c1 := Bs.cell (i := 1) rfl
        have c2 := Bs.cell (i := 2) rfl
        have c3 := Bs.cell (i := 3) rfl
        have c4 := Bs.cell (i := 4) rfl
        have c5 := Bs.cell (i := 5) rfl
        have c6 := Bs.cell (i := 6) rfl
        have c7 := Bs.cell (i := 7) rfl
        have k0 := Br.cell (i := 0) rfl
        have k1 := Br.cell (i := 1) rfl
        have hcl := lAsk_any _ tb (x := x) hrd ⟨by have := hinv2.out.1.1; omega, hsh2.out.1⟩ ⟨by have := hinv2.out.1.1; omega, hsh2.out.2⟩ (by have := hinv2.out.1.1; omega) (by have := hinv2.out.1.1; omega) hx hx1.1 hx1.2
        obtain ⟨p, ep⟩ : ∃ p, p = askL r.1 r.2.1 x := ⟨_, rfl⟩
        rw [← ep] at hcl hm0 hm1
        clear ep
        go_wp2_with fail
        refine hcl.mono ?_
        rintro e wg ⟨pa, pc, pb, pd, rfl, hpd, hb⟩
        replace hpd : RdLs (fun _ => True) _ _ p.1 p.2.1 := hpd.weak fun _ _ => trivial
        clear hcl k0 k1 c0 c1 c2 c3 c4 c5 c6 c7
        replace Bk := Bk.below hb Bk.lt
        replace rK := rK.below hb
        replace hx := hx.below hb
        replace Bs := Bs.below hb Bs.lt
        replace hrd := hrd.below hb
        replace Br := Br.below hb Br.lt
        replace tb := tb.below hb
        replace q := q.trans (hb.mono q.size)
        clear hb
        go_upto_region 14 with (first | (refine wpList_boxNew (vs := [.slice none 0 0, .slice none 0 0]) (by kernel_rfl) rfl rfl ?_; intro wa hba hBa) | (refine wpList_boxStore (us := [.slice pa p.1.length pc, .slice pb p.2.1.length pd]) (by kernel_rfl) rfl rfl rfl rfl rfl rfl hBa rfl ?_; intro wh hgw Bp) | fail)
        try go_simp
        have hbw := hba.grown hgw hba.size fun k hk => by injection hk with hk; omega
        replace Bk := Bk.below hbw Bk.lt
        replace rK := rK.below hbw
        replace hx := hx.below hbw
        replace Bs := Bs.below hbw Bs.lt
        replace hrd := hrd.below hbw
        replace Br := Br.below hbw Br.lt
        replace hpd := hpd.below hbw
        replace tb := tb.below hbw
        replace q := q.trans (hbw.mono q.size)
        clear hbw hgw hba hBa
        have p0 := Bp.cell (i := 0) rfl
        have p1 := Bp.cell (i := 1) rfl
        have k0 := Br.cell (i := 0) rfl
        have k1 := Br.cell (i := 1) rfl
        have hcl := rSame_any _ hpd hrd
        obtain ⟨sm, esm⟩ : ∃ b, b = decide (p.1 = r.1 ∧ p.2.1 = r.2.1) := ⟨_, rfl⟩
        rw [← esm] at hcl
        replace esm := Lib.hid esm
        go_wp2_with fail
        refine hcl.mono ?_
        rintro e wi ⟨rfl, hb⟩
        clear hcl p0 p1 k0 k1
        replace Bk := Bk.below hb Bk.lt
        replace rK := rK.below hb
        replace hx := hx.below hb
        replace Bs := Bs.below hb Bs.lt
        replace hrd := hrd.below hb
        replace Br := Br.below hb Br.lt
        replace hpd := hpd.below hb
        replace Bp := Bp.below hb Bp.lt
        replace tb := tb.below hb
        replace q := q.trans (hb.mono q.size)
        clear hb
        go_upto_region 15 with (fail)
        obtain ⟨f, ef⟩ : ∃ f, f = p.2.2 := ⟨_, rfl⟩
        rw [← ef]
        replace ef := Lib.hid ef
        obtain ⟨e9, ee⟩ : ∃ f, f = r.2.2 := ⟨_, rfl⟩
        rw [← ee]
        replace ee := Lib.hid ee
        by_cases hz : e9 = 0
        · have hz2 := hm0.out (ee.out.symm.trans hz)
          have hp0 : f = 0 := ef.out.trans (congrArg (·.2.2) hz2)
          have hsm : sm = true := esm.out.trans (decide_eq_true ⟨congrArg (·.1) hz2, congrArg (·.2.1) hz2⟩)
          clear hz2 hm0 hm1 hm2
          subst hp0 hsm hz
          clear esm ee ef
          go_upto_region 17 with (fail)
          have s0 := Br.cell (i := 0) rfl
          have s1 := Br.cell (i := 1) rfl
          go_upto_region 18 with (first | (refine wpList_boxStore (us := [.slice ra r.1.length rc, .slice rb r.2.1.length rd]) (by kernel_rfl) rfl rfl rfl rfl rfl rfl Bk rfl ?_; intro wz hgz Bz) | fail)
          clear s0 s1 Bk
          have Bk := Bz
          clear Bz
          replace hrd := hrd.past hgz
          replace q := q.grown hgz q.size fun k hk => by injection hk with hk; omega
          replace tb : TabAt wz := hT.below q
          clear hgz
          have hin := Lib.hid hinv2.out
          have k0 := Bk.cell (i := 0) rfl
          have k1 := Bk.cell (i := 1) rfl
          have hcl := lCheck_any _ tb (H := r.1) (Q := r.2.1) hrd (by have := hin.out.1.1; omega) (by have := hin.out.1.1; omega)
          rw [decide_eq_true hin.out.1] at hcl
          go_wp2_with fail
          refine hcl.mono ?_
          rintro e wc ⟨rfl, hb⟩
          clear hcl k0 k1
          replace Bk := Bk.below hb Bk.lt
          replace q := q.trans (hb.mono q.size)
          have hrdz := hrd.below hb
          go_wp2_with fail
          go_roundw
          case rel => exact ⟨i + 1, _, _, _, _, _, _, by go_num, by omega, by omega, hin.out, hsh2.out, Bk, hrdz, q⟩
          case measure => simp [intOf]; omega
        · have hz1 := hz
          clear hz
          by_cases hz : e9 = 110
          · clear hz1
            obtain ⟨hf1, hw1, ok1⟩ := hm1.out (ee.out.symm.trans hz)
            have hp0 : f = 1 := ef.out.trans hf1
            clear hm0 hm1 hm2 hf1 esm ee ef
            subst hp0 hz
            have k0 := Br.cell (i := 0) rfl
            have k1 := Br.cell (i := 1) rfl
            have c0 := Bs.cell (i := 0) rfl
            have c1 := Bs.cell (i := 1) rfl
            have c2 := Bs.cell (i := 2) rfl
            have c3 := Bs.cell (i := 3) rfl
            have c4 := Bs.cell (i := 4) rfl
            have c5 := Bs.cell (i := 5) rfl
            have c6 := Bs.cell (i := 6) rfl
            have c7 := Bs.cell (i := 7) rfl
            have hcl := lWaits_any _ tb (o := x.owner) hrd (by have := hinv2.out.1.1; omega) (by have := hinv2.out.1.1; omega)
            rw [show (decide (okLk r.1 r.2.1) && waitsL r.2.1 x.owner) = true by rw [decide_eq_true ok1, hw1]; rfl] at hcl
            clear hw1 ok1
            go_wp2_with fail
            refine hcl.mono ?_
            rintro e wj ⟨rfl, hb⟩
            clear hcl k0 k1 c0 c1 c2 c3 c4 c5 c6 c7
            replace Bk := Bk.below hb Bk.lt
            replace rK := rK.below hb
            replace hx := hx.below hb
            replace Bs := Bs.below hb Bs.lt
            replace hrd := hrd.below hb
            replace Br := Br.below hb Br.lt
            replace hpd := hpd.below hb
            replace Bp := Bp.below hb Bp.lt
            replace tb := tb.below hb
            replace q := q.trans (hb.mono q.size)
            clear hb
            go_upto_region 17 with (fail)
            have s0 := Br.cell (i := 0) rfl
            have s1 := Br.cell (i := 1) rfl
            go_upto_region 18 with (first | (refine wpList_boxStore (us := [.slice ra r.1.length rc, .slice rb r.2.1.length rd]) (by kernel_rfl) rfl rfl rfl rfl rfl rfl Bk rfl ?_; intro wz hgz Bz) | fail)
            clear s0 s1 Bk
            have Bk := Bz
            clear Bz
            replace hrd := hrd.past hgz
            replace q := q.grown hgz q.size fun k hk => by injection hk with hk; omega
            replace tb : TabAt wz := hT.below q
            clear hgz
            have hin := Lib.hid hinv2.out
            have k0 := Bk.cell (i := 0) rfl
            have k1 := Bk.cell (i := 1) rfl
            have hcl := lCheck_any _ tb (H := r.1) (Q := r.2.1) hrd (by have := hin.out.1.1; omega) (by have := hin.out.1.1; omega)
            rw [decide_eq_true hin.out.1] at hcl
            go_wp2_with fail
            refine hcl.mono ?_
            rintro e wc ⟨rfl, hb⟩
            clear hcl k0 k1
            replace Bk := Bk.below hb Bk.lt
            replace q := q.trans (hb.mono q.size)
            have hrdz := hrd.below hb
            go_wp2_with fail
            go_roundw
            case rel => exact ⟨i + 1, _, _, _, _, _, _, by go_num, by omega, by omega, hin.out, hsh2.out, Bk, hrdz, q⟩
            case measure => simp [intOf]; omega
          · have hz2 := hz
            clear hz
            obtain ⟨g1, g2⟩ := hm2.out (fun h => hz1 (ee.out.trans h)) (fun h => hz2 (ee.out.trans h))
            clear hm0 hm1 hm2 esm ee ef
            have da1 : decide ((e9 : Int) = 0) = false := decide_eq_false (by omega)
            have da2 : ((e9 : Int) == 0) = false := beq_eq_false_iff_ne.2 (by omega)
            have da3 : ((e9 : Int) != 0) = true := bne_iff_ne.2 (by omega)
            have db1 : decide ((e9 : Int) = 110) = false := decide_eq_false (by omega)
            have db2 : ((e9 : Int) == 110) = false := beq_eq_false_iff_ne.2 (by omega)
            have db3 : ((e9 : Int) != 110) = true := bne_iff_ne.2 (by omega)
            clear hz1 hz2
            have k0 := Br.cell (i := 0) rfl
            have k1 := Br.cell (i := 1) rfl
            have m0 := Bk.cell (i := 0) rfl
            have m1 := Bk.cell (i := 1) rfl
            have hcl := rSame_any _ hrd rK
            rw [decide_eq_true (show r.1 = H ∧ r.2.1 = Q from ⟨g1, g2⟩)] at hcl
            clear g1 g2
            go_wp2_with fail
            refine hcl.mono ?_
            rintro e wj ⟨rfl, hb⟩
            clear hcl k0 k1 m0 m1
            replace Bk := Bk.below hb Bk.lt
            replace rK := rK.below hb
            replace hx := hx.below hb
            replace Bs := Bs.below hb Bs.lt
            replace hrd := hrd.below hb
            replace Br := Br.below hb Br.lt
            replace hpd := hpd.below hb
            replace Bp := Bp.below hb Bp.lt
            replace tb := tb.below hb
            replace q := q.trans (hb.mono q.size)
            clear hb
            go_upto_region 17 with (fail)
            have s0 := Br.cell (i := 0) rfl
            have s1 := Br.cell (i := 1) rfl
            go_upto_region 18 with (first | (refine wpList_boxStore (us := [.slice ra r.1.length rc, .slice rb r.2.1.length rd]) (by kernel_rfl) rfl rfl rfl rfl rfl rfl Bk rfl ?_; intro wz hgz Bz) | fail)
            clear s0 s1 Bk
            have Bk := Bz
            clear Bz
            replace hrd := hrd.past hgz
            replace q := q.grown hgz q.size fun k hk => by injection hk with hk; omega
            replace tb : TabAt wz := hT.below q
            clear hgz
            have hin := Lib.hid hinv2.out
            have k0 := Bk.cell (i := 0) rfl
            have k1 := Bk.cell (i := 1) rfl
            have hcl := lCheck_any _ tb (H := r.1) (Q := r.2.1) hrd (by have := hin.out.1.1; omega) (by have := hin.out.1.1; omega)
            rw [decide_eq_true hin.out.1] at hcl
            go_wp2_with fail
            refine hcl.mono ?_
            rintro e wc ⟨rfl, hb⟩
            clear hcl k0 k1
            replace Bk := Bk.below hb Bk.lt
            replace q := q.trans (hb.mono q.size)
            have hrdz := hrd.below hb
            go_wp2_with fail
            go_roundw
            case rel => exact ⟨i + 1, _, _, _, _, _, _, by go_num, by omega, by omega, hin.out, hsh2.out, Bk, hrdz, q⟩
            case measure => simp [intOf]; omega
    · have d0 : decide ((i : Int) < (l.length : Int)) = true := decide_eq_true (by omega)
      have d1 : decide ((i : Int) < 50) = false := decide_eq_false (by omega)
      go_upto_region 21 with (fail)
      try clear hd0 hd1
      go_loopw [14] (fun iv wr => ∃ (i : Nat) (H Q : List Lk) (aK : Option Addr) (cK : Nat) (mK : Option Addr) (nK : Nat), iv = .int .i64 (i : Int) ∧ i ≤ 4 ∧ Inv H Q ∧ (shL H ∧ shL Q) ∧ (goneL i H ∧ goneL i Q) ∧ BoxN wr bK 24 [.slice aK H.length cK, .slice mK Q.length nK] ∧ RdLs (· ≠ bK) wr (.agg #[.slice aK H.length cK, .slice mK Q.length nK]) H Q ∧ Below w.heap.size w wr) (fun iv _ => 4 - (intOf iv).toNat)
      case atStart => exact ⟨0, H, Q, aK, cK, mK, nK, rfl, by omega, hinv.out, hsh.out, ⟨fun y _ j hj => absurd hj (by omega), fun y _ j hj => absurd hj (by omega)⟩, Bk, rK, q⟩
      case round =>
      clear Bk rK q tb hinv hsh
      clear aK cK mK nK
      clear H Q
      obtain ⟨j, H, Q, aK, cK, mK, nK, rfl, hj4, hinv, hsh, hgo, Bk, rK, q⟩ := hrel
      replace hinv := Lib.hid hinv
      replace hsh := Lib.hid hsh
      replace hgo := Lib.hid hgo
      have tb := hT.below q
      rcases Nat.lt_or_ge j 4 with hlt | hge
      · have hsH : smK H := ⟨by have := hinv.out.1.1; omega, hsh.out.1⟩
        have hsQ : smK Q := ⟨by have := hinv.out.1.1; omega, hsh.out.2⟩
        have hnH : H.length ≤ 400000 := by have := hinv.out.1.1; omega
        have hnQ : Q.length ≤ 400000 := by have := hinv.out.1.1; omega
        have k0 := Bk.cell (i := 0) rfl
        have k1 := Bk.cell (i := 1) rfl
        have d0 : decide ((j : Int) < 4) = true := decide_eq_true (by omega)
        have hcl := lDrop_any _ tb (o := (j : Int)) rK hsH hsQ hnH hnQ
        have hinv2 := Lib.hid (hinv.out.drop (j : Int))
        have hsh2 := Lib.hid (show shL (dropC H Q (j : Int)).1 ∧ shL (dropC H Q (j : Int)).2.1 from drop_all _ hsh.out.1 hsh.out.2)
        have hgo2 := Lib.hid (gone_next hinv.out.1 hlt hgo.out.1 hgo.out.2)
        obtain ⟨r, er⟩ : ∃ r, r = dropC H Q (j : Int) := ⟨_, rfl⟩
        rw [← er] at hcl hinv2 hsh2 hgo2
        clear er
        go_wp2_with fail
        refine hcl.mono ?_
        rintro e we ⟨ra, rc, rb, rd, la, lc, rfl, hrd, _, hb⟩
        have hbk := Bk.lt
        replace hrd : RdLs (· ≠ bK) _ _ r.1 r.2.1 := hrd.weak fun k hk => by have := hk.1; omega
        clear hcl hbk k0 k1 d0
        replace Bk := Bk.below hb Bk.lt
        replace rK := rK.below hb
        replace tb := tb.below hb
        replace q := q.trans (hb.mono q.size)
        clear hb
        go_upto_region 24 with (first | (refine wpList_boxNew (vs := [.slice none 0 0, .slice none 0 0]) (by kernel_rfl) rfl rfl ?_; intro wa hba hBa) | (refine wpList_boxStore (us := [.slice ra r.1.length rc, .slice rb r.2.1.length rd]) (by kernel_rfl) rfl rfl rfl rfl rfl rfl hBa rfl ?_; intro wf hgw Br) | fail)
        try go_simp
        have hbw := hba.grown hgw hba.size fun k hk => by injection hk with hk; omega
        replace Bk := Bk.below hbw Bk.lt
        replace rK := rK.below hbw
        replace hrd := hrd.below hbw
        replace tb := tb.below hbw
        replace q := q.trans (hbw.mono q.size)
        clear hbw hgw hba hBa
        have s0 := Br.cell (i := 0) rfl
        have s1 := Br.cell (i := 1) rfl
        go_upto_region 22 with (first | (refine wpList_boxStore (us := [.slice ra r.1.length rc, .slice rb r.2.1.length rd]) (by kernel_rfl) rfl rfl rfl rfl rfl rfl Bk rfl ?_; intro wz hgz Bz) | fail)
        clear s0 s1 Bk
        have Bk := Bz
        clear Bz
        replace hrd := hrd.past hgz
        replace q := q.grown hgz q.size fun k hk => by injection hk with hk; omega
        replace tb : TabAt wz := hT.below q
        clear hgz
        go_wp2_with fail
        go_roundw
        case rel => exact ⟨j + 1, _, _, _, _, _, _, by go_num, by omega, hinv2.out, hsh2.out, hgo2.out, Bk, hrd, q⟩
        case measure => simp [intOf]; omega
      · obtain rfl : j = 4 := by omega
        obtain rfl := gone_all hgo.out.1 hinv.out.1.2.1
        obtain rfl := gone_all hgo.out.2 hinv.out.1.2.2.1
        have k0 := Bk.cell (i := 0) rfl
        have k1 := Bk.cell (i := 1) rfl
        go_wp2_with fail
        go_ret
        exact ⟨rfl, q⟩
  · have d0 : decide ((i : Int) < (l.length : Int)) = false := decide_eq_false (by omega)
    go_upto_region 21 with (fail)
    try clear hd0 hd1
    go_loopw [14] (fun iv wr => ∃ (i : Nat) (H Q : List Lk) (aK : Option Addr) (cK : Nat) (mK : Option Addr) (nK : Nat), iv = .int .i64 (i : Int) ∧ i ≤ 4 ∧ Inv H Q ∧ (shL H ∧ shL Q) ∧ (goneL i H ∧ goneL i Q) ∧ BoxN wr bK 24 [.slice aK H.length cK, .slice mK Q.length nK] ∧ RdLs (· ≠ bK) wr (.agg #[.slice aK H.length cK, .slice mK Q.length nK]) H Q ∧ Below w.heap.size w wr) (fun iv _ => 4 - (intOf iv).toNat)
    case atStart => exact ⟨0, H, Q, aK, cK, mK, nK, rfl, by omega, hinv.out, hsh.out, ⟨fun y _ j hj => absurd hj (by omega), fun y _ j hj => absurd hj (by omega)⟩, Bk, rK, q⟩
    case round =>
    clear Bk rK q tb hinv hsh
    clear aK cK mK nK
    clear H Q
    obtain ⟨j, H, Q, aK, cK, mK, nK, rfl, hj4, hinv, hsh, hgo, Bk, rK, q⟩ := hrel
    replace hinv := Lib.hid hinv
    replace hsh := Lib.hid hsh
    replace hgo := Lib.hid hgo
    have tb := hT.below q
    rcases Nat.lt_or_ge j 4 with hlt | hge
    · have hsH : smK H := ⟨by have := hinv.out.1.1; omega, hsh.out.1⟩
      have hsQ : smK Q := ⟨by have := hinv.out.1.1; omega, hsh.out.2⟩
      have hnH : H.length ≤ 400000 := by have := hinv.out.1.1; omega
      have hnQ : Q.length ≤ 400000 := by have := hinv.out.1.1; omega
      have k0 := Bk.cell (i := 0) rfl
      have k1 := Bk.cell (i := 1) rfl
      have d0 : decide ((j : Int) < 4) = true := decide_eq_true (by omega)
      have hcl := lDrop_any _ tb (o := (j : Int)) rK hsH hsQ hnH hnQ
      have hinv2 := Lib.hid (hinv.out.drop (j : Int))
      have hsh2 := Lib.hid (show shL (dropC H Q (j : Int)).1 ∧ shL (dropC H Q (j : Int)).2.1 from drop_all _ hsh.out.1 hsh.out.2)
      have hgo2 := Lib.hid (gone_next hinv.out.1 hlt hgo.out.1 hgo.out.2)
      obtain ⟨r, er⟩ : ∃ r, r = dropC H Q (j : Int) := ⟨_, rfl⟩
      rw [← er] at hcl hinv2 hsh2 hgo2
      clear er
      go_wp2_with fail
      refine hcl.mono ?_
      rintro e we ⟨ra, rc, rb, rd, la, lc, rfl, hrd, _, hb⟩
      have hbk := Bk.lt
      replace hrd : RdLs (· ≠ bK) _ _ r.1 r.2.1 := hrd.weak fun k hk => by have := hk.1; omega
      clear hcl hbk k0 k1 d0
      replace Bk := Bk.below hb Bk.lt
      replace rK := rK.below hb
      replace tb := tb.below hb
      replace q := q.trans (hb.mono q.size)
      clear hb
      go_upto_region 24 with (first | (refine wpList_boxNew (vs := [.slice none 0 0, .slice none 0 0]) (by kernel_rfl) rfl rfl ?_; intro wa hba hBa) | (refine wpList_boxStore (us := [.slice ra r.1.length rc, .slice rb r.2.1.length rd]) (by kernel_rfl) rfl rfl rfl rfl rfl rfl hBa rfl ?_; intro wf hgw Br) | fail)
      try go_simp
      have hbw := hba.grown hgw hba.size fun k hk => by injection hk with hk; omega
      replace Bk := Bk.below hbw Bk.lt
      replace rK := rK.below hbw
      replace hrd := hrd.below hbw
      replace tb := tb.below hbw
      replace q := q.trans (hbw.mono q.size)
      clear hbw hgw hba hBa
      have s0 := Br.cell (i := 0) rfl
      have s1 := Br.cell (i := 1) rfl
      go_upto_region 22 with (first | (refine wpList_boxStore (us := [.slice ra r.1.length rc, .slice rb r.2.1.length rd]) (by kernel_rfl) rfl rfl rfl rfl rfl rfl Bk rfl ?_; intro wz hgz Bz) | fail)
      clear s0 s1 Bk
      have Bk := Bz
      clear Bz
      replace hrd := hrd.past hgz
      replace q := q.grown hgz q.size fun k hk => by injection hk with hk; omega
      replace tb : TabAt wz := hT.below q
      clear hgz
      go_wp2_with fail
      go_roundw
      case rel => exact ⟨j + 1, _, _, _, _, _, _, by go_num, by omega, hinv2.out, hsh2.out, hgo2.out, Bk, hrd, q⟩
      case measure => simp [intOf]; omega
    · obtain rfl : j = 4 := by omega
      obtain rfl := gone_all hgo.out.1 hinv.out.1.2.1
      obtain rfl := gone_all hgo.out.2 hinv.out.1.2.2.1
      have k0 := Bk.cell (i := 0) rfl
      have k1 := Bk.cell (i := 1) rfl
      go_wp2_with fail
      go_ret
      exact ⟨rfl, q⟩
end Go.Proofs.YtccoklhmbikfmaaDoor
namespace Go.Proofs.YtccoklhmbikfmaaDoor
def modeRows : List (List Bool) := [[true, true, true, true, false], [true, true, false, false, false], [true, false, true, false, false], [true, false, false, false, false], [false, false, false, false, false]]
theorem tab_of {W : World} {rest : List (String × DataW Unit)} (h : laidMet Tryd.prog (("banksman/mode.together", matB modeRows) :: rest) W) : TabAt W := by
  have hg : Tryd.prog.globalNamed "banksman/mode.together" = some 0 := by kernel_rfl
  have hty : (Tryd.prog.globals[0]?).map (·.type) = some 82 := by kernel_rfl
  intro a b ha hb
  rcases md_cases a with rfl | rfl | rfl | rfl | rfl | h1
  case inr.inr.inr.inr.inr => rw [h1] at ha; cases ha
  all_goals rcases md_cases b with rfl | rfl | rfl | rfl | rfl | h1
  all_goals first
    | (exfalso; rw [h1] at hb; cases hb)
    | exact mat_of_laid (n := 5) (m := 5) (e := 81) (b := 4) hg hty Tryd.underlying82 Tryd.underlying81 Tryd.underlying4 (by kernel_rfl) (by kernel_rfl) h rfl rfl
end Go.Proofs.YtccoklhmbikfmaaDoor
